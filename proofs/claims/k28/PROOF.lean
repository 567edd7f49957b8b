import PyProof.Rows.All
import Wide.All
import OpenK.AllK
import Wide.FinOn
import PySem.Challenge.RW_filterorders_k28_shapes
import HandS.ForMost
import HandS.Wide
import KE.KStateDown
import KE.KOpsOwn
import HandS.Exc
import HandS.ExcOwn
import HandS.ExcInit
import HandS.TryOnly
import HandS.WordsExc
import HandS.Defaults
import HandS.MakeKw
import HandS.MakeKwOnly
import HandS.Property
import HandS.IsInst
import HandS.OwnEq
import HandS.Gcd
import HandS.RaiseMore
import HandS.HeadHook1
import HandS.HeadHook2
import HandS.HeadNt
import HandS.HeadEnd
import HandS.Head2
import HandS.CallSlots
import HandS.ClsMeth
import PyProof.ReprRoads
import PyProof.ReprHeadsEmpty
import PyProof.InstNe
import KE.KMathG
import HandS.Comp
import HandS.Iter
import HandS.Text
import PyProof.TupleKey
import HandS.List
import HandS.Walk
import HandS.Rev
import KE.GoesEnum
import KE.GoesMore
import HandS.Zip
import KE.DataAny
import HandS.Star
import KE.KDictZip
import HandS.OwnIter
import KE.KxIndex
import HandS.SortKw
import HandS.More
import HandS.DictComp
import HandS.DictEq
import KE.KMinKey
import KE.KDictCopyH
import KE.KeyNested
import HandS.HeadHook3
import HandS.Sort
import HandS.Conv
set_option Elab.async false
set_option linter.all false
set_option maxRecDepth 100000
/-! Fractions in lowest terms, sizes of whole numbers. Plain mathematics. -/
namespace FoM
/-! ### sizes -/
def Sz (n : Nat) (i : Int) : Prop := i.natAbs < 2 ^ n
theorem Sz.mono {n m : Nat} {i : Int} (h : Sz n i) (l : n ≤ m) : Sz m i := Nat.lt_of_lt_of_le h (Nat.pow_le_pow_right (by decide) l)
theorem Sz.mul {n m : Nat} {i j : Int} (h : Sz n i) (g : Sz m j) : Sz (n + m) (i * j) := by
  unfold Sz
  rw [Nat.pow_add 2, Int.natAbs_mul]
  exact Nat.mul_lt_mul'' h g
theorem Sz.add {n : Nat} {i j : Int} (h : Sz n i) (g : Sz n j) : Sz (n + 1) (i + j) := by
  unfold Sz at *
  have e : 2 ^ (n + 1) = 2 ^ n + 2 ^ n := by rw [Nat.pow_succ]; omega
  omega
theorem Sz.sub {n : Nat} {i j : Int} (h : Sz n i) (g : Sz n j) : Sz (n + 1) (i - j) := by
  unfold Sz at *
  have e : 2 ^ (n + 1) = 2 ^ n + 2 ^ n := by rw [Nat.pow_succ]; omega
  omega
theorem Sz.neg {n : Nat} {i : Int} (h : Sz n i) : Sz n (-i) := by
  unfold Sz at *
  omega
theorem Sz.le {n : Nat} {i j : Int} (h : Sz n j) (l : i.natAbs ≤ j.natAbs) : Sz n i := Nat.lt_of_le_of_lt l h
theorem Sz.mulok {n m : Nat} {i j : Int} (h : Sz n i) (g : Sz m j) (h0 : 0 < n := by decide) (g0 : 0 < m := by decide) (l : n + m ≤ 1000000 := by decide) : L2.CMulW i j :=
  L2.wide_mul h g h0 g0 l
/-! ### the greatest common divisor, with the sign of the lower number -/
def gc (u d : Int) : Int := if d < 0 then -((Nat.gcd u.natAbs d.natAbs : Nat) : Int) else ((Nat.gcd u.natAbs d.natAbs : Nat) : Int)
def frN (u d : Int) : Int := u.fdiv (gc u d)
def frD (u d : Int) : Int := d.fdiv (gc u d)
theorem gc_abs (u d : Int) : (gc u d).natAbs = Nat.gcd u.natAbs d.natAbs := by
  unfold gc
  split <;> omega
theorem gc_ne {u d : Int} (h : d ≠ 0) : gc u d ≠ 0 := by
  intro e
  have z := gc_abs u d
  rw [e] at z
  have p : 0 < Nat.gcd u.natAbs d.natAbs := Nat.gcd_pos_of_pos_right _ (by omega)
  omega
theorem gc_le {u d : Int} (h : d ≠ 0) : (gc u d).natAbs ≤ d.natAbs := by
  rw [gc_abs]
  exact Nat.le_of_dvd (by omega) (Nat.gcd_dvd_right _ _)
theorem gc_dvd_l (u d : Int) : gc u d ∣ u := by
  rw [← Int.natAbs_dvd_natAbs, gc_abs]
  exact Nat.gcd_dvd_left _ _
theorem gc_dvd_r (u d : Int) : gc u d ∣ d := by
  rw [← Int.natAbs_dvd_natAbs, gc_abs]
  exact Nat.gcd_dvd_right _ _
theorem frN_mul {u d : Int} : frN u d * gc u d = u := Int.fdiv_mul_cancel (gc_dvd_l u d)
theorem frD_mul {u d : Int} : frD u d * gc u d = d := Int.fdiv_mul_cancel (gc_dvd_r u d)
theorem frD_ne {u d : Int} (h : d ≠ 0) : frD u d ≠ 0 := fun e => h (by rw [← frD_mul (u := u) (d := d), e, Int.zero_mul])
theorem gc_sign {u d : Int} (h : d ≠ 0) : (d < 0 ∧ gc u d < 0) ∨ (0 < d ∧ 0 < gc u d) := by
  have p : 0 < Nat.gcd u.natAbs d.natAbs := Nat.gcd_pos_of_pos_right _ (by omega)
  by_cases hd : d < 0
  · refine .inl ⟨hd, ?_⟩
    unfold gc
    rw [if_pos hd]
    omega
  · refine .inr ⟨by omega, ?_⟩
    unfold gc
    rw [if_neg hd]
    omega
theorem frD_pos {u d : Int} (h : d ≠ 0) : 0 < frD u d := by
  have e := frD_mul (u := u) (d := d)
  rcases gc_sign (u := u) h with ⟨a, b⟩ | ⟨a, b⟩
  · by_cases z : 0 < frD u d
    · exact z
    · have : 0 ≤ frD u d * gc u d := Int.mul_nonneg_of_nonpos_of_nonpos (by omega) (by omega)
      omega
  · by_cases z : 0 < frD u d
    · exact z
    · have : frD u d * gc u d ≤ 0 := Int.mul_nonpos_of_nonpos_of_nonneg (by omega) (by omega)
      omega
theorem fr_cop {u d : Int} (h : d ≠ 0) : Nat.gcd (frN u d).natAbs (frD u d).natAbs = 1 := by
  have e1 := congrArg Int.natAbs (frN_mul (u := u) (d := d))
  have e2 := congrArg Int.natAbs (frD_mul (u := u) (d := d))
  rw [Int.natAbs_mul, gc_abs] at e1 e2
  have p : 0 < Nat.gcd u.natAbs d.natAbs := Nat.gcd_pos_of_pos_right _ (by omega)
  have q : Nat.gcd ((frN u d).natAbs * Nat.gcd u.natAbs d.natAbs) ((frD u d).natAbs * Nat.gcd u.natAbs d.natAbs) = Nat.gcd u.natAbs d.natAbs := by rw [e1, e2]
  rw [Nat.gcd_mul_right] at q
  exact Nat.eq_of_mul_eq_mul_right p (by rw [Nat.one_mul]; exact q)
theorem frN_le {u d : Int} (h : d ≠ 0) : (frN u d).natAbs ≤ u.natAbs := by
  have e1 := congrArg Int.natAbs (frN_mul (u := u) (d := d))
  rw [Int.natAbs_mul, gc_abs] at e1
  have p : 0 < Nat.gcd u.natAbs d.natAbs := Nat.gcd_pos_of_pos_right _ (by omega)
  calc (frN u d).natAbs = (frN u d).natAbs * 1 := (Nat.mul_one _).symm
    _ ≤ (frN u d).natAbs * Nat.gcd u.natAbs d.natAbs := Nat.mul_le_mul_left _ p
    _ = u.natAbs := e1
theorem frD_le {u d : Int} (h : d ≠ 0) : (frD u d).natAbs ≤ d.natAbs := by
  have e1 := congrArg Int.natAbs (frD_mul (u := u) (d := d))
  rw [Int.natAbs_mul, gc_abs] at e1
  have p : 0 < Nat.gcd u.natAbs d.natAbs := Nat.gcd_pos_of_pos_right _ (by omega)
  calc (frD u d).natAbs = (frD u d).natAbs * 1 := (Nat.mul_one _).symm
    _ ≤ (frD u d).natAbs * Nat.gcd u.natAbs d.natAbs := Nat.mul_le_mul_left _ p
    _ = d.natAbs := e1
/-- the same fraction -/
theorem fr_cross {u d : Int} : frN u d * d = u * frD u d := by
  have e1 := frN_mul (u := u) (d := d)
  have e2 := frD_mul (u := u) (d := d)
  calc frN u d * d = frN u d * (frD u d * gc u d) := by rw [e2]
    _ = (frN u d * gc u d) * frD u d := by rw [Int.mul_comm (frD u d), Int.mul_assoc]
    _ = u * frD u d := by rw [e1]
/-- lowest terms are unique -/
theorem low_uniq {a b c e : Int} (hb : 0 < b) (he : 0 < e) (g1 : Nat.gcd a.natAbs b.natAbs = 1) (g2 : Nat.gcd c.natAbs e.natAbs = 1) (h : a * e = c * b) : a = c ∧ b = e := by
  have hn : a.natAbs * e.natAbs = c.natAbs * b.natAbs := by rw [← Int.natAbs_mul, ← Int.natAbs_mul, h]
  have d1 : b.natAbs ∣ e.natAbs := by
    have : b.natAbs ∣ a.natAbs * e.natAbs := ⟨c.natAbs, by rw [hn, Nat.mul_comm]⟩
    exact Nat.Coprime.dvd_of_dvd_mul_left (by rw [Nat.coprime_comm]; exact g1) this
  have d2 : e.natAbs ∣ b.natAbs := by
    have : e.natAbs ∣ c.natAbs * b.natAbs := ⟨a.natAbs, by rw [← hn, Nat.mul_comm]⟩
    exact Nat.Coprime.dvd_of_dvd_mul_left (by rw [Nat.coprime_comm]; exact g2) this
  have eb : b.natAbs = e.natAbs := Nat.dvd_antisymm d1 d2
  have eb' : b = e := by omega
  subst eb'
  refine ⟨?_, rfl⟩
  exact Int.eq_of_mul_eq_mul_right (by omega) h
theorem fr_eq {u d u' d' : Int} (h : d ≠ 0) (h' : d' ≠ 0) (e : u * d' = u' * d) : frN u d = frN u' d' ∧ frD u d = frD u' d' := by
  refine low_uniq (frD_pos h) (frD_pos h') (fr_cop h) (fr_cop h') ?_
  have c1 := fr_cross (u := u) (d := d)
  have c2 := fr_cross (u := u') (d := d')
  have hz : d * d' ≠ 0 := Int.mul_ne_zero h h'
  refine Int.eq_of_mul_eq_mul_right hz ?_
  calc frN u d * frD u' d' * (d * d') = (frN u d * d) * (frD u' d' * d') := by
        rw [Int.mul_assoc, Int.mul_assoc, ← Int.mul_assoc (frD u' d') d d', Int.mul_comm (frD u' d') d, Int.mul_assoc]
    _ = (u * frD u d) * (frD u' d' * d') := by rw [c1]
    _ = (u * d') * (frD u d * frD u' d') := by
        rw [Int.mul_assoc, Int.mul_assoc, Int.mul_comm (frD u' d') d', ← Int.mul_assoc (frD u d), Int.mul_comm (frD u d) d', Int.mul_assoc]
    _ = (u' * d) * (frD u d * frD u' d') := by rw [e]
    _ = (u' * frD u' d') * (frD u d * d) := by
        rw [Int.mul_assoc, Int.mul_assoc, Int.mul_comm (frD u d) (frD u' d'), ← Int.mul_assoc d, Int.mul_comm d, Int.mul_assoc (frD u' d'), Int.mul_comm d]
    _ = (frN u' d' * d') * (frD u d * d) := by rw [c2]
    _ = frN u' d' * frD u d * (d * d') := by
        rw [Int.mul_assoc, Int.mul_assoc, ← Int.mul_assoc d', Int.mul_comm d' (frD u d), Int.mul_assoc, Int.mul_comm d' d]
theorem fr_low {a b : Int} (hb : 0 < b) (g : Nat.gcd a.natAbs b.natAbs = 1) : frN a b = a ∧ frD a b = b := by
  have e : gc a b = 1 := by
    unfold gc
    rw [if_neg (by omega), g]
    rfl
  unfold frN frD
  rw [e]
  exact ⟨Int.fdiv_one a, Int.fdiv_one b⟩
theorem fr_one (a : Int) : frN a 1 = a ∧ frD a 1 = 1 := fr_low (by decide) (by simp)
/-- the sign of the upper number of a fraction with a lower number above 0 -/
theorem frN_sign {u d : Int} (h : 0 < d) : (0 < frN u d ↔ 0 < u) ∧ (frN u d < 0 ↔ u < 0) := by
  have c := fr_cross (u := u) (d := d)
  have p := frD_pos (u := u) (d := d) (by omega)
  refine ⟨⟨fun z => ?_, fun z => ?_⟩, ⟨fun z => ?_, fun z => ?_⟩⟩
  · have q : 0 < u * frD u d := by rw [← c]; exact Int.mul_pos z h
    exact Int.pos_of_mul_pos_left q p
  · have q : 0 < frN u d * d := by rw [c]; exact Int.mul_pos z p
    exact Int.pos_of_mul_pos_left q h
  · have q : u * frD u d < 0 := by rw [← c]; exact Int.mul_neg_of_neg_of_pos z h
    exact Int.neg_of_mul_neg_left q p
  · have q : frN u d * d < 0 := by rw [c]; exact Int.mul_neg_of_neg_of_pos z p
    exact Int.neg_of_mul_neg_left q h
end FoM

set_option maxHeartbeats 4100000
/-! Rules that the layer lacks: operators of own classes, powers and quotients of greater ints, calls by keywords alone. -/
namespace FoA
open PySem PySem.Spec PyProof.Rows L2
section
variable {X : Cx}
/-! ### numbers -/
def CPowW (i j : Int) : Prop := 0 ≤ j ∧ j ≤ 1000 ∧ i.natAbs < 2 ^ 1000
theorem bits_of {i : Int} {n : Nat} (h0 : 0 < n) (h : i.natAbs < 2 ^ n) : Builtin.Int.intBits i ≤ n := by
  have z := PySem.Flt.log2_lt_of h0 h
  unfold Builtin.Int.intBits
  split <;> omega
theorem op_powW : OpR X (binaryOp .Pow) (rI CPowW fun i j => .int (i ^ j.toNat)) := opI fun i j _ _ _ _ _ hc q => by
  obtain ⟨h1, h2, h3⟩ := hc
  refine pow_int h1 ?_ q
  have b := bits_of (by decide) h3
  have b2 : (Builtin.Int.intBits i : Int) ≤ 1000 := by omega
  have b3 : (Builtin.Int.intBits i : Int) * j ≤ 1000 * 1000 := Int.mul_le_mul b2 h2 h1 (by decide)
  exact Int.le_trans b3 (by decide)
/-- // by any divisor but 0 below 2 ^ 9000 -/
def CDivZ (_ j : Int) : Prop := j ≠ 0 ∧ j.natAbs.log2 < 9000
theorem op_fdivZ : OpR X (binaryOp .FloorDiv) (rI CDivZ fun i j => .int (i.fdiv j)) :=
  opI fun _ _ _ _ _ _ _ hc q => floordiv_int hc.1 q (.inl (PyProof.noPylong_of_log2 hc.2))
theorem divZ_of {i j : Int} {b : Nat} (h : j ≠ 0) (hb : j.natAbs < 2 ^ b) (h0 : 0 < b) (h9 : b ≤ 9000) : CDivZ i j :=
  ⟨h, Nat.lt_of_lt_of_le (PySem.Flt.log2_lt_of h0 hb) h9⟩

/-! ### what a method hands back is never NotImplemented -/
theorem back_ok {pz : List (Addr × Obj)} {τ : L2.St} {Q : VK} {u : Value} {s : Shared} (h : EP X pz τ Q u s) :
    PySem.W.CmpBack (EP X pz τ Q) u s := by
  obtain ⟨v, H, I, r, q⟩ := h
  have z : EP X pz τ Q u s := ⟨v, H, I, r, q⟩
  cases v with
  | non => cases (show u = Value.none from r); exact z
  | bl b => cases (show u = Value.bool b from r); exact z
  | int i => obtain ⟨t, e⟩ := (show ∃ t, u = Value.int i t from r); cases e; exact z
  | str x => obtain ⟨t, e⟩ := (show ∃ t, u = Value.str x t from r); cases e; exact z
  | byt b => obtain ⟨t, e⟩ := (show ∃ t, u = Value.bytes b t from r); cases e; exact z
  | flt b => obtain ⟨t, e⟩ := (show ∃ t, u = Value.float b t from r); cases e; exact z
  | ref a => cases (show u = Value.ref a from r); exact z
  | ty n => cases (show u = Value.type n from r); exact z

/-! ### a op b, a of an own class, b of the class or an int -/
/-- what the written part says of the class's method for op -/
structure BinC (K : PySem.W.Frag) (C f : Addr) (op : Operator) : Prop where
  sf : PySem.W.selfFirst K C = true
  at_ : PySem.W.findIn K (.ref C) (PySem.dunder op.info.2) = some (some (.ref f))
  (fn : PySem.W.isFn K (.ref f) = true)
  nr : PySem.W.findIn K (.ref C) (dunderR op.info.2) = some none
  ni : PySem.W.subIn K (.type "int") (.ref C) = some false
def rBin (C : Addr) (sp : Sp) (E : XK) : R2 := fun x y H Q => ∃ a dx fs, x = .ref a ∧ H a = some (.ins C dx fs) ∧
  ((∃ i, y = .int i) ∨ ∃ b dy gs, y = .ref b ∧ H b = some (.ins C dy gs)) ∧ sp [x, y] H Q E
section
variable {CX : CXT} {k : Nat} {C f : Addr} {fd : FuncData} {ps : List Str} {sp : Sp} {E : XK} {op : Operator}
theorem op_own {fo ro : Option Value} (F : FnOk X.prog X.w X.K X.mg X.base CX k f fd ps sp) (hr : Room k X.A) (hb : Binds X.K fd ps []) (hx : Passes CX X E) (B : BinC X.K C f op)
    (h1 : PySem.W.findIn X.K (.type "int") (PySem.dunder op.info.2) = some fo) (h2 : PySem.W.findIn X.K (.type "int") (dunderR op.info.2) = some ro) : OpR X (binaryOp op) (rBin C sp E) := by
  intro pz s τ H x y v u Q I rx ry h
  obtain ⟨a, dx, fs, rfl, ea, hy, q⟩ := h
  cases rx
  obtain ⟨mA, J, _⟩ := ins_get I.hok ea
  obtain ⟨od, J, _⟩ := J.look
  obtain ⟨m, hF⟩ := I.fr
  have call := run_fn (us := [.ref a, u]) (vs := [.ref a, y]) (dvs := []) F hr hb .nil hx I (.cons rfl (.cons ry .nil)) (by simpa using q)
  have back := wpAny_mono call (fun r s' z => back_ok z) fun _ _ e => e
  rcases hy with ⟨i, rfl⟩ | ⟨b, dy, gs, rfl, eb⟩
  · obtain ⟨t, rfl⟩ := ry
    exact PySem.W.ksp_binT hF I.ok.mod.kin J rfl B.sf B.at_ B.fn B.nr (.inl rfl) h1 h2 B.ni back
  · cases ry
    obtain ⟨mB, J', _⟩ := ins_get I.hok eb
    obtain ⟨od', J', _⟩ := J'.look; exact PySem.W.binop_K hF I.ok.mod.kin J J'.type B.sf B.at_ B.fn back
/-- -a, a of an own class -/
theorem un_own (F : FnOk X.prog X.w X.K X.mg X.base CX k f fd ps sp) (hr : Room k X.A) (hb : Binds X.K fd ps []) (hx : Passes CX X E)
    (h1 : PySem.W.findIn X.K (.ref C) "__neg__" = some (some (.ref f))) (h2 : PySem.W.isFn X.K (.ref f) = true) :
    UnR X (unaryOp .USub) (fun x H Q => ∃ a dx fs, x = .ref a ∧ H a = some (.ins C dx fs) ∧ sp [x] H Q E) := by
  intro pz s τ H x v Q I rx h
  obtain ⟨a, dx, fs, rfl, ea, q⟩ := h
  cases rx
  obtain ⟨mA, J, _⟩ := ins_get I.hok ea
  obtain ⟨od, J, _⟩ := J.look
  obtain ⟨m, hF⟩ := I.fr
  exact PySem.W.ksp_neg hF I.ok.mod.kin J h1 h2 (run_fn (us := [.ref a]) (vs := [.ref a]) (dvs := []) F hr hb .nil hx I (.cons rfl .nil) (by simpa using q))
/-! ### a == b, a < b, a <= b by an own method: b a plain value, a list, a tuple, a dict, an object of the class -/
inductive OthV (H : Hp) (C : Addr) : V → Prop where
  | non : OthV H C .non
  | bl (b : Bool) : OthV H C (.bl b)
  | int (i : Int) : OthV H C (.int i)
  | str (x : Str) : OthV H C (.str x)
  | lst {a : Addr} {xs : List V} (e : H a = some (.lst xs)) : OthV H C (.ref a)
  | tup {a : Addr} {xs : List V} (e : H a = some (.tup xs)) : OthV H C (.ref a)
  | dK {a : Addr} {xs : List (Key × V)} (e : H a = some (.dK xs)) : OthV H C (.ref a)
  | ins {a dx : Addr} {fs : List (Str × V)} (e : H a = some (.ins C dx fs)) : OthV H C (.ref a)
structure CmpC (K : PySem.W.Frag) (C f : Addr) (op : CmpOp) : Prop where
  at_ : PySem.W.findIn K (.ref C) (cmpInfo op).2.1 = some (some (.ref f))
  (fn : PySem.W.isFn K (.ref f) = true)
  nt : ∀ T ∈ ["NoneType", "bool", "int", "str", "list", "tuple", "dict"], PySem.W.subIn K (.type T) (.ref C) = some false
theorem CmpC.ty {K : PySem.W.Frag} {C f : Addr} {op : CmpOp} (c : CmpC K C f op) {T : String} (h : T ∈ ["NoneType", "bool", "int", "str", "list", "tuple", "dict"]) : PySem.W.notFirst K C (.type T) = true := by
  unfold PySem.W.notFirst
  rw [c.nt T h]
  exact Bool.or_eq_true_iff.mpr (.inr (beq_self_eq_true _))
def rCmp (C : Addr) (sp : Sp) (E : XK) : R2 := fun x y H Q => ∃ a dx fs, x = .ref a ∧ H a = some (.ins C dx fs) ∧ OthV H C y ∧ sp [x, y] H Q E
theorem look_type {pz : List (Addr × Obj)} {s : Shared} {τ : L2.St} {H : Hp} {a : Addr} {T : String} (o : Obj) (h : s.heap.get? a = some o) (c : o.cls = .type T) {M : Model} :
    PySem.W.Looks M s.heap (typeOf (.ref a)) (.type T) := fun A Q E s k q => wpAny_typeOf_ref (k _ _ h) (by rw [c]; exact q)
theorem op_ownC {op : CmpOp} (F : FnOk X.prog X.w X.K X.mg X.base CX k f fd ps sp) (hr : Room k X.A) (hb : Binds X.K fd ps []) (hx : Passes CX X E) (B : CmpC X.K C f op)
    (ho : ∀ v u : Value, compareOp op v u = richCompare op v u) : OpR X (compareOp op) (rCmp C sp E) := by
  intro pz s τ H x y v u Q I rx ry h
  obtain ⟨a, dx, fs, rfl, ea, hy, q⟩ := h
  cases rx
  rw [ho]
  obtain ⟨mA, J, _⟩ := ins_get I.hok ea
  obtain ⟨od, J, _⟩ := J.look
  obtain ⟨m, hF⟩ := I.fr
  have call := run_fn (us := [.ref a, u]) (vs := [.ref a, y]) (dvs := []) F hr hb .nil hx I (.cons rfl (.cons ry .nil)) (by simpa using q)
  have back := wpAny_mono call (fun r s' z => back_ok z) fun _ _ e => e
  have hu := hr.units0
  cases hy with
  | non => cases ry; exact PySem.W.cmp_K hu hF I.ok.mod.kin J (PySem.W.Looks.of_pure rfl) (B.ty (T := "NoneType") (by simp)) B.at_ B.fn back
  | bl b => cases ry; exact PySem.W.cmp_K hu hF I.ok.mod.kin J (PySem.W.Looks.of_pure rfl) (B.ty (T := "bool") (by simp)) B.at_ B.fn back
  | int i => obtain ⟨t, rfl⟩ := ry; exact PySem.W.cmp_K hu hF I.ok.mod.kin J (PySem.W.Looks.of_pure rfl) (B.ty (T := "int") (by simp)) B.at_ B.fn back
  | str z => obtain ⟨t, rfl⟩ := ry; exact PySem.W.cmp_K hu hF I.ok.mod.kin J (PySem.W.Looks.of_pure rfl) (B.ty (T := "str") (by simp)) B.at_ B.fn back
  | @lst b xs e =>
    cases ry
    obtain ⟨_, _, n, _, h1⟩ := (show ObjOk X.prog X.w H s.heap b (.lst xs) from I.hok b _ e)
    exact PySem.W.cmp_K hu hF I.ok.mod.kin J (look_type (pz := pz) (τ := τ) (H := H) _ h1 rfl) (B.ty (T := "list") (by simp)) B.at_ B.fn back
  | @tup b xs e =>
    cases ry
    obtain ⟨_, _, _, o, h1, h2, _⟩ := (show ObjOk X.prog X.w H s.heap b (.tup xs) from I.hok b _ e)
    exact PySem.W.cmp_K hu hF I.ok.mod.kin J (look_type (pz := pz) (τ := τ) (H := H) _ h1 h2) (B.ty (T := "tuple") (by simp)) B.at_ B.fn back
  | @dK b xs e =>
    cases ry
    obtain ⟨_, _, vs, _, o, es, ep, h1, h2, _⟩ := (show ObjOk X.prog X.w H s.heap b (.dK xs) from I.hok b _ e)
    exact PySem.W.cmp_K hu hF I.ok.mod.kin J (look_type (pz := pz) (τ := τ) (H := H) _ h1 h2.1) (B.ty (T := "dict") (by simp)) B.at_ B.fn back
  | @ins b dy gs e =>
    cases ry
    obtain ⟨mB, J', _⟩ := ins_get I.hok e
    obtain ⟨od', J', _⟩ := J'.look; exact PySem.W.cmp_K hu hF I.ok.mod.kin J J'.type (by simp [PySem.W.notFirst]) B.at_ B.fn back
end
end
section
variable {X : Cx}
theorem call_intI : CallR X (.type "int") (fun xs H Q => ∃ i, xs = [.int i] ∧ Q (.int i) H) := fun pz s τ H xs us Q I r h =>
  call_int1 pz s τ H xs us Q I r (.inl h)
theorem call_intB : CallR X (.type "int") (fun xs H Q => ∃ k, xs = [.bl k] ∧ Q (.int (if k then 1 else 0)) H) := fun pz s τ H xs us Q I r h =>
  call_int1 pz s τ H xs us Q I r (.inr h)
end
end FoA

set_option maxHeartbeats 4100000
/-! A hook whose facts are free Bools of the written part; defs at any address. -/
namespace FoZ
open PySem PySem.Spec PyProof.Rows L2
abbrev Fr1 := PySem.W.Frag
/-- what is looked at: all of the Bools, and the defs -/
def look (bs : List (Fr1 → Bool)) (ds : List He5.DefA) (K : Fr1) : Bool × List He.FnW :=
  ((bs.all fun b => b K) && ds.all fun d => d.ok K, ds.map fun d => He5.fnA K (d.at_ K))
def want (ds : List He5.DefA) : Bool × List He.FnW := (true, ds.map He5.DefA.val)
def Told (bs : List (Fr1 → Bool)) (ds : List He5.DefA) (K : Fr1) : Prop := look bs ds K = want ds
def lookG (n : Nat) (bs : List (Fr1 → Bool)) (ds : List He5.DefA) (g : Addr → Option Obj) : Bool × List He.FnW :=
  look bs ds (He.frG g (He5.asA g n))
/-- the same at addresses that are written out -/
def lookL (as : List Addr) (bs : List (Fr1 → Bool)) (ds : List He5.DefA) (g : Addr → Option Obj) : Bool × List He.FnW := look bs ds (He.frG g as)
def hookL (as : List Addr) (bs : List (Fr1 → Bool)) (ds : List He5.DefA) : PySem.W.Hook where
  α := Bool × List He.FnW
  obs := fun s => lookL as bs ds s.heap.get?
  val := fun _ => want ds
  says := fun _ h => ∃ K : Fr1, K.In h ∧ Told bs ds K
  of := fun _ _ e => ⟨_, He.frG_in, e⟩
  keeps := fun _ _ _ ⟨K, hKK, c⟩ k => ⟨K, PySem.W.Frag.In.keeps hKK k, c⟩
theorem lookL_eq {as : List Addr} {bs : List (Fr1 → Bool)} {ds : List He5.DefA} {g : Addr → Option Obj} {s : Shared}
    (h : ∀ a, g a = s.heap.get? a) : lookL as bs ds g = (hookL as bs ds).obs s := by
  have e : g = s.heap.get? := funext h; rw [e]
  rfl
def hook (n : Nat) (bs : List (Fr1 → Bool)) (ds : List He5.DefA) : PySem.W.Hook where
  α := Bool × List He.FnW
  obs := fun s => lookG n bs ds s.heap.get?
  val := fun _ => want ds
  says := fun _ h => ∃ K : Fr1, K.In h ∧ Told bs ds K
  of := fun _ _ e => ⟨_, He.frG_in, e⟩
  keeps := fun _ _ _ ⟨K, hKK, c⟩ k => ⟨K, PySem.W.Frag.In.keeps hKK k, c⟩
theorem lookG_eq {n : Nat} {bs : List (Fr1 → Bool)} {ds : List He5.DefA} {g : Addr → Option Obj} {s : Shared}
    (h : ∀ a, g a = s.heap.get? a) : lookG n bs ds g = (hook n bs ds).obs s := by
  have e : g = s.heap.get? := funext h; rw [e]
  rfl
section
variable {bs : List (Fr1 → Bool)} {ds : List He5.DefA} {K : Fr1}
theorem Told.bool (c : Told bs ds K) (i : Nat) {b : Fr1 → Bool} (h : bs[i]? = some b := by rfl) : b K = true := by
  have c0 : ((bs.all fun b => b K) && ds.all fun d => d.ok K) = true := congrArg Prod.fst c
  have c1 := (Bool.and_eq_true_iff.mp c0).1
  exact List.all_eq_true.mp c1 b (List.mem_of_getElem? h)
theorem Told.defn (c : Told bs ds K) (i : Nat) {d : He5.DefA} (h : ds[i]? = some d := by rfl) :
    ∃ fd, FunD K d.name d.qual d.params d.body d.scope (d.dvs K) (d.kws K) (d.at_ K) fd := by
  have c0 : ((bs.all fun b => b K) && ds.all fun d => d.ok K) = true := congrArg Prod.fst c
  have c1 := (Bool.and_eq_true_iff.mp c0).2
  have e : ds.map (fun d => He5.fnA K (d.at_ K)) = ds.map He5.DefA.val := congrArg Prod.snd c
  have e1 : (ds.map fun d => He5.fnA K (d.at_ K))[i]? = (ds.map He5.DefA.val)[i]? := by rw [e]
  rw [List.getElem?_map, List.getElem?_map, h] at e1
  exact He5.DefA.funD (Option.some.inj e1) (List.all_eq_true.mp c1 d (List.mem_of_getElem? h))
end
/-! ### further Bools -/
/-- the getter of a property m of the class that the name x stands for -/
def pg (K : Fr1) (x m : Str) : Addr := match PySem.W.recIn K (He.ma K (He.ga K x) m) "property" with
  | some (.ref g :: _) => g
  | _ => 0
def propB (x m : Str) (K : Fr1) : Bool :=
  He.eqO (PySem.W.findIn K (.ref (He.ga K x)) m) (some (some (.ref (He.ma K (He.ga K x) m)))) &&
  (He.eqO (PySem.W.specialIn K (.ref (He.ma K (He.ga K x) m)) "__get__") (some (some (.builtin "property.__get__"))) &&
  (decide (PySem.W.takesIn K (.ref (He.ma K (He.ga K x) m)) = some true) && (match PySem.W.recIn K (He.ma K (He.ga K x) m) "property" with
    | some (.ref _ :: _) => true
    | _ => false)))
theorem prop_ok {K : Fr1} {x m : Str} (h : propB x m K = true) : PropOf K (He.ga K x) m (He.ma K (He.ga K x) m) (pg K x m) := by
  obtain ⟨h1, h⟩ := He.ba h
  obtain ⟨h2, h⟩ := He.ba h
  obtain ⟨h3, h4⟩ := He.ba h
  refine ⟨He.eqO_ok h1, He.eqO_ok h2, of_decide_eq_true h3, ?_⟩
  unfold pg
  split at h4
  · rename_i g r e
    exact ⟨r, by rw [e]⟩
  · cases h4
def impB (x : Str) (id : String) (K : Fr1) : Bool := He.eqO (PySem.W.nsIn K mainGlobals x) (some (some (.builtin id)))
theorem imp_ok {K : Fr1} {h : Heap} {mg : Str → Option Value} (X : K.In h) (G : h.Ns mainGlobals mg) {x : Str} {id : String} (c : impB x id K = true) : mg x = some (.builtin id) :=
  PySem.W.mg_of X G (He.eqO_ok c)
def binB (x m r : Str) (K : Fr1) : Bool := PySem.W.selfFirst K (He.ga K x) && (He.eqO (PySem.W.findIn K (.ref (He.ga K x)) m) (some (some (.ref (He.ma K (He.ga K x) m)))) &&
  (PySem.W.isFn K (.ref (He.ma K (He.ga K x) m)) && (He.eqO (PySem.W.findIn K (.ref (He.ga K x)) r) (some none) && decide (PySem.W.subIn K (.type "int") (.ref (He.ga K x)) = some false))))
def tyNames : List String := ["NoneType", "bool", "int", "str", "list", "tuple", "dict"]
def cmpB (x m : Str) (K : Fr1) : Bool := He.eqO (PySem.W.findIn K (.ref (He.ga K x)) m) (some (some (.ref (He.ma K (He.ga K x) m)))) &&
  (PySem.W.isFn K (.ref (He.ma K (He.ga K x) m)) && tyNames.all fun T => decide (PySem.W.subIn K (.type T) (.ref (He.ga K x)) = some false))
/-- the binding of the law's one argument -/
theorem bind1 {K : Fr1} {x qual y : Str} {st : Stmt} {f : Addr} {fd : FuncData} (F : Fun K x qual st f fd) (s : Shared) (v : Value)
    (h : ∀ (kV doc pm : Value) (an : Option Addr) (cv ct : Value), bindArgs (PySem.W.fnOf x qual (defArgs st) (defBody st) (defScope st) .none kV doc pm an cv ct) ⟨[v], []⟩ = pure [(y, v)] := by intros; rfl) : BindsTo s fd ⟨[v], []⟩ [(y, v)] := by
  obtain ⟨oc, od, kV, doc, pm, an, cv, ct, osl, rfl, lk, hcd⟩ := F.ex
  exact .of_eq (h kV doc pm an cv ct)
end FoZ

set_option maxHeartbeats 4100000
namespace FoB
open PySem PySem.Spec PyProof.Rows L2 FoZ
section
variable {K : PySem.W.Frag} {x m r : Str}
theorem bin_raw {op : Operator} (h : binB x m r K = true) (hm : PySem.dunder op.info.2 = m) (hr : dunderR op.info.2 = r) : FoA.BinC K (He.ga K x) (He.ma K (He.ga K x) m) op := by
  obtain ⟨h1, h⟩ := He.ba h
  obtain ⟨h2, h⟩ := He.ba h
  obtain ⟨h3, h⟩ := He.ba h
  obtain ⟨h4, h5⟩ := He.ba h
  exact ⟨h1, by rw [hm]; exact He.eqO_ok h2, h3, by rw [hr]; exact He.eqO_ok h4, of_decide_eq_true h5⟩
theorem bin_add (h : binB x "__add__" "__radd__" K = true) : FoA.BinC K (He.ga K x) (He.ma K (He.ga K x) "__add__") .Add := bin_raw h (by kernel_rfl) (by kernel_rfl)
theorem bin_sub (h : binB x "__sub__" "__rsub__" K = true) : FoA.BinC K (He.ga K x) (He.ma K (He.ga K x) "__sub__") .Sub := bin_raw h (by kernel_rfl) (by kernel_rfl)
theorem bin_mul (h : binB x "__mul__" "__rmul__" K = true) : FoA.BinC K (He.ga K x) (He.ma K (He.ga K x) "__mul__") .Mult := bin_raw h (by kernel_rfl) (by kernel_rfl)
theorem cmp_raw {op : CmpOp} (h : cmpB x m K = true) (hm : (cmpInfo op).2.1 = m) : FoA.CmpC K (He.ga K x) (He.ma K (He.ga K x) m) op := by
  obtain ⟨h1, h⟩ := He.ba h
  obtain ⟨h2, h3⟩ := He.ba h
  exact ⟨by rw [hm]; exact He.eqO_ok h1, h2, fun T hT => of_decide_eq_true (List.all_eq_true.mp h3 T hT)⟩
theorem cmp_eq (h : cmpB x "__eq__" K = true) : FoA.CmpC K (He.ga K x) (He.ma K (He.ga K x) "__eq__") .Eq := cmp_raw h rfl
theorem cmp_lt (h : cmpB x "__lt__" K = true) : FoA.CmpC K (He.ga K x) (He.ma K (He.ga K x) "__lt__") .Lt := cmp_raw h rfl
theorem cmp_le (h : cmpB x "__le__" K = true) : FoA.CmpC K (He.ga K x) (He.ma K (He.ga K x) "__le__") .LtE := cmp_raw h rfl
end
section
variable {K : PySem.W.Frag} {x : Str}
/-! ### isinstance -/
/-- an object of x's class: what isinstance looks at; its class against int, bool, the class itself; the plain types against the class -/
def isiB (x : Str) (K : PySem.W.Frag) : Bool := He.eqO (PySem.W.findIn K (.ref (He.ga K x)) "__class__") (some (some (.builtin "object.__class__"))) &&
  (He.eqO (PySem.W.specialIn K (.builtin "object.__class__") "__get__") (some (some (.builtin "getset_descriptor.__get__"))) &&
  (decide (PySem.W.takesIn K (.builtin "object.__class__") = some true) && (decide (PySem.W.mroIn K (He.ga K x) (.type "object") = some true) &&
  (decide (PySem.W.kitOne K (.ref (He.ga K x)) (.type "int") = some false) && (decide (PySem.W.kitOne K (.ref (He.ga K x)) (.type "bool") = some false) &&
  tyNames.all fun T => decide (PySem.W.kitOne K (.type T) (.ref (He.ga K x)) = some false))))))
structure Isi (K : PySem.W.Frag) (D : Addr) : Prop where
  (ha : PySem.W.findIn K (.ref D) "__class__" = some (some (.builtin "object.__class__")))
  (hn : PySem.W.specialIn K (.builtin "object.__class__") "__get__" = some (some (.builtin "getset_descriptor.__get__")))
  (ht : PySem.W.takesIn K (.builtin "object.__class__") = some true)
  (hm : PySem.W.mroIn K D (.type "object") = some true)
  ki : PySem.W.kitOne K (.ref D) (.type "int") = some false
  kb : PySem.W.kitOne K (.ref D) (.type "bool") = some false
  kt : ∀ T ∈ tyNames, PySem.W.kitOne K (.type T) (.ref D) = some false
theorem isi_ok (h : isiB x K = true) : Isi K (He.ga K x) := by
  obtain ⟨h1, h⟩ := He.ba h
  obtain ⟨h2, h⟩ := He.ba h
  obtain ⟨h3, h⟩ := He.ba h
  obtain ⟨h4, h⟩ := He.ba h
  obtain ⟨h5, h⟩ := He.ba h
  obtain ⟨h6, h7⟩ := He.ba h
  exact ⟨He.eqO_ok h1, He.eqO_ok h2, of_decide_eq_true h3, of_decide_eq_true h4, of_decide_eq_true h5, of_decide_eq_true h6, fun T hT => of_decide_eq_true (List.all_eq_true.mp h7 T hT)⟩
theorem kit_self {K : PySem.W.Frag} {D : Addr} : PySem.W.kitOne K (.ref D) (.ref D) = some true := by
  unfold PySem.W.kitOne
  rw [if_pos (beq_self_eq_true (Value.ref D))]
/-- isinstance(e, D), e an object of D -/
theorem TyI {D a dx : Addr} {H : Hp} {fs : List (Str × V)} (i : Isi K D) (c : Cls K D) (e : H a = some (.ins D dx fs)) : TyX K H (.ref a) (.ref D) := .base (.ins e c i.ha i.hn i.ht i.hm)
/-! ### own errors -/
structure ErrC (K : PySem.W.Frag) (D : Addr) : Prop where
  ex : PySem.W.excIn K D He.veBase "ValueError.__new__" = true
  kp : PySem.W.keepIn K (.ref D) = true
  sb : PySem.W.subIn K (.ref D) (.type "BaseException") = some true
  ty : PySem.W.typeIn K (.ref D) = some (.type "type")
  me : PySem.W.exmOne K (.ref D) (.ref D) = some true
def errB (x : Str) (K : PySem.W.Frag) : Bool := (He.Fa.exc x).ok K && (He.Fa.exm x x true).ok K
theorem err_ok (h : errB x K = true) : ErrC K (He.ga K x) := by
  obtain ⟨h1, h2⟩ := He.ba h
  obtain ⟨a, b, c, d⟩ := He.exc_ok h1
  exact ⟨a, b, c, d, He.exm_ok h2⟩
/-- an error with an __init__ of its own -/
def oexB (x : Str) (f : Str) (K : PySem.W.Frag) : Bool := (match K.lookup (He.ga K x) with
    | some ⟨.type t, _, .cls cdt, slt⟩ => decide (t = "type") && ((match cdt.mro with
      | .ref D :: bm => decide (D = He.ga K x) && PySem.HandSPX.refsVE bm
      | _ => false) && (cdt.hasDict && (!cdt.hasDel && (match slt.toList with
      | [_, _, _, _, some (.builtin n), _] => decide (n = "ValueError.__new__")
      | _ => false))))
    | _ => false) &&
  (He.eqO (PySem.W.findIn K (.ref (He.ga K x)) "__setattr__") (some (some (.builtin "object.__setattr__"))) &&
  (decide (PySem.W.subIn K (.ref (He.ga K x)) (.type "BaseException") = some true) && (decide (PySem.W.typeIn K (.ref (He.ga K x)) = some (.type "type")) && (PySem.W.keepIn K (.ref (He.ga K x)) &&
  (He.eqO (PySem.W.findIn K (.ref (He.ga K x)) f) (some none) && ((He.Fa.exm x x true).ok K &&
  (He.eqO (PySem.W.findIn K (.ref (He.ga K x)) "__init__") (some (some (.ref (He.ma K (He.ga K x) "__init__")))) && (decide (PySem.W.typeIn K (.ref (He.ma K (He.ga K x) "__init__")) = some (.type "function")) &&
  (He.eqO (PySem.W.findIn K (.ref (He.ga K x)) "__getattribute__") (some (some (.builtin "BaseException.__getattribute__"))) && (He.eqO (PySem.W.findIn K (.ref (He.ga K x)) "__getattr__") (some none) && PySem.W.hasDictIn K (He.ga K x)))))))))))
structure OErr (K : PySem.W.Frag) (D fI : Addr) (f : Str) : Prop where
  ox : OexC K D
  no : PySem.W.findIn K (.ref D) f = some none
  me : PySem.W.exmOne K (.ref D) (.ref D) = some true
  iC : PySem.W.findIn K (.ref D) "__init__" = some (some (.ref fI))
  tI : PySem.W.typeIn K (.ref fI) = some (.type "function")
  ga : PySem.W.findIn K (.ref D) "__getattribute__" = some (some (.builtin "BaseException.__getattribute__"))
  gg : PySem.W.findIn K (.ref D) "__getattr__" = some none
  (hd : PySem.W.hasDictIn K D = true)
theorem oerr_ok {f : Str} (h : oexB x f K = true) : OErr K (He.ga K x) (He.ma K (He.ga K x) "__init__") f := by
  obtain ⟨h1, h⟩ := He.ba h
  obtain ⟨h2, h⟩ := He.ba h
  obtain ⟨h3, h⟩ := He.ba h
  obtain ⟨h4, h⟩ := He.ba h
  obtain ⟨h5, h⟩ := He.ba h
  obtain ⟨h6, h⟩ := He.ba h
  obtain ⟨h7, h⟩ := He.ba h
  obtain ⟨h8, h⟩ := He.ba h
  obtain ⟨h9, h⟩ := He.ba h
  obtain ⟨h10, h⟩ := He.ba h
  obtain ⟨h11, h12⟩ := He.ba h
  refine ⟨⟨?_, He.eqO_ok h2, of_decide_eq_true h3, of_decide_eq_true h4, h5⟩, He.eqO_ok h6, He.exm_ok h7, He.eqO_ok h8, of_decide_eq_true h9, He.eqO_ok h10, He.eqO_ok h11, h12⟩
  generalize He.ga K x = D at h1
  split at h1
  · rename_i t dd cdt slt lk
    obtain ⟨g1, g⟩ := He.ba h1
    obtain ⟨g2, g⟩ := He.ba g
    obtain ⟨g3, g⟩ := He.ba g
    obtain ⟨g4, g5⟩ := He.ba g
    have e1 : t = "type" := of_decide_eq_true g1
    subst e1
    split at g2
    · rename_i C' bm hm
      obtain ⟨q1, q2⟩ := He.ba g2
      have e2 : C' = D := of_decide_eq_true q1
      subst e2
      split at g5
      · rename_i k0 k1 k2 k3 n k5 hs
        have e3 : n = "ValueError.__new__" := of_decide_eq_true g5
        subst e3
        obtain ⟨nm, bs, mro, ns, qn, hd, sn, sub, ab, col, del⟩ := cdt
        dsimp only at hm g3 g4
        subst hm g3
        have e4 : del = false := by
          cases del
          · rfl
          · cases g4
        subst e4
        have hsl : slt = #[k0, k1, k2, k3, some (.builtin "ValueError.__new__"), k5] := by
          obtain ⟨l⟩ := slt
          simp only at hs
          rw [hs]
        subst hsl
        exact ⟨nm, qn, ns, bs, bm, sn, sub, ab, col, dd, k0, k1, k2, k3, k5, lk, q2⟩
      · cases g5
    · cases g2
  · cases h1
end
section
variable {X : Cx} {D : Addr}
/-- X() -/
theorem pmk_own0 {x : Str} {p pos : Pos} (e : ErrC X.K D) (gC : X.mg x = some (.ref D)) (hg : Gl X x) (hdq : (x == ("__debug__" : Str)) = false := by decide) :
    L2.PMk X (.Call (.Name x p) [] [] pos) (fun _ H Q => Q (.ref D) none H) := by
  intro pz s τ H Q I h
  refine wpAny_Call_Name_kw (ld_glob I hg gC ?_ hdq)
  refine PySem.W.callWith_K0 I.kIn e.kp ?_
  show wpAny _ _ (call (.ref D) []) _ _ _
  obtain ⟨bm, N, nm, qn, bs, hdct, sn, sub, ab, col, dd, k0, k1, k2, k3, k5, mN, hC, hN, hni, T⟩ := exc_obj I.kIn e.ex
  refine wpAny_call_exc_subT PySem.F.excBase_ValueError T hC hN hni (fun h' e' hm => ?_) (Nat.zero_le _)
  exact mk_of I hm (raises_own e.sb e.ty) h (I.hok.gone hm.new)
end
end FoB

set_option maxHeartbeats 4100000
/-! The head of a program that begins with imports: the opening and the top by one kernel run each. -/
noncomputable section
namespace FoI
open PySem PySem.W PySem.Calls PyProof.Rows HandSHeadRun
/-- the state behind the opening, its heap as a tree -/
def treeOf (s : Shared) (r : PySem.W.BT × Nat) : SharedT := ⟨r.1, r.2, s.heap.life, s.gens, s.drawn, s.toks, s.os⟩
theorem treeOf_abs {s : Shared} {t : PySem.W.BT} {n : Nat} (e : putAll s.heap.objs.toList .nil 0 = some (t, n)) : (treeOf s (t, n)).abs = s := by
  have h := putAll_heap e
  show (⟨absHeap t n s.heap.life, s.gens, s.drawn, s.toks, s.os⟩ : Shared) = s
  rw [h]
def endS (st : SharedT → Thread → Option (SharedT × Thread)) (M : Nat) (p : Program) (s0 : Shared) : Option SharedT := match putAll s0.heap.objs.toList .nil 0 with
  | some (t, n) => frNat n fun n0 => goF st n0 (s0.heap.nsMap mainGlobals "__annotations__") M (treeOf s0 (t, n0)) (topStub p)
  | none => none
theorem endS_ok {M : Nat} {p : Program} {w : World} {s0 : Shared} {s : SharedT} (h : endS (stepT (denote treeTable) p w) M p s0 = some s) :
    topRun treeTable p w s0.heap.objs.size (s0.heap.nsMap mainGlobals "__annotations__") M s0 (topStub p) = some s.abs := by
  unfold endS at h
  cases e : putAll s0.heap.objs.toList .nil 0 with
  | none =>
    rw [e] at h
    cases h
  | some r =>
    obtain ⟨t, n⟩ := r
    rw [e] at h
    have h1 : (frNat n fun n0 => goF (stepT (denote treeTable) p w) n0 (s0.heap.nsMap mainGlobals "__annotations__") M (treeOf s0 (t, n0)) (topStub p)) = some s := h
    rw [frNat_eq] at h1
    have q := goF_ok h1
    have en : s0.heap.objs.size = n := by
      have eh := putAll_heap e
      have z : (absHeap t n s0.heap.life).objs.size = s0.heap.objs.size := by rw [eh]
      rw [← z]
      exact absHeap_size t n _
    rw [treeOf_abs e] at q
    rw [en]
    exact q
/-- the whole run, from nothing -/
def endI (tb : String → Option Builtin) (st : SharedT → Thread → Option (SharedT × Thread)) (M : Nat) (p : Program) (w : World) : Option (Shared × SharedT) :=
  match fencedOpening tb p w M with
  | some s0 => match endS st M p s0 with
    | some s => some (s0, s)
    | none => none
  | none => none
def looksI (p : Program) (s0 : Shared) (s : Shared) : Bool := (s0.heap.isNs mainGlobals && s0.gens.size == 0) && (staticsOk (importedModules p.main.body) s0.heap s.heap && namesBound p s.heap && gensDone s && laidKept s0.heap s.heap)
theorem left_imp {p q : Program} {lse : List PySem.Str} {Xt : Shared → Bool} {α : Type} {Yf : Shared → α} {Ya : World → α} {M : Nat}
    (run : ∀ w : World, (endI treeTable (stepT (denote treeTable) p w) M p w).map (fun s => (looksI p s.1 s.2.abs, openSeen q lse (importedModules p.main.body) Xt true s.2.abs, Yf s.2.abs)) = some (true, openGood q lse, Ya w)) :
    LeftO p q lse Xt Yf Ya M true := fun w => by
  obtain ⟨⟨s0, s⟩, hs, hv⟩ := Option.map_eq_some_iff.mp (run w)
  obtain ⟨m1, m2, m3⟩ : _ ∧ _ ∧ _ := by simpa only [Prod.mk.injEq] using hv
  unfold endI at hs
  cases e0 : fencedOpening treeTable p w M with
  | none =>
    rw [e0] at hs
    cases hs
  | some z =>
    rw [e0] at hs
    dsimp only at hs
    cases e1 : endS (stepT (denote treeTable) p w) M p z with
    | none =>
      rw [e1] at hs
      cases hs
    | some y =>
      rw [e1] at hs
      dsimp only at hs
      obtain ⟨rfl, rfl⟩ : z = s0 ∧ y = s := by
        have := Option.some.inj hs
        exact Prod.mk.inj this
      obtain ⟨a, b⟩ := Bool.and_eq_true_iff.mp m1
      have r := endS_ok e1
      have t : topFrom treeTable p w M z = some y.abs := by
        unfold topFrom
        rw [a]
        show (topRun treeTable p w z.heap.objs.size (z.heap.nsMap mainGlobals "__annotations__") M z (topStub p)).bind _ = _
        rw [r]
        show (match staticsOk (importedModules p.main.body) z.heap y.abs.heap && namesBound p y.abs.heap && gensDone y.abs && laidKept z.heap y.abs.heap with | true => some y.abs | false => none) = _
        rw [b]
      unfold openEnds
      rw [e0]
      show (topFrom treeTable p w M z).map _ = _
      rw [t]
      exact congrArg some (Prod.ext m2 m3)
/-- the run's equation at a world, by the library's twins -/
def RunI (r : OpenRow) (q : Program) (H : Hook) (ob : SharedT → H.α) (M : Nat) (lse : List PySem.Str) (w : World) : Prop :=
  (endI tabQ (stepQ (denQ tabQ) r.prog w) M r.prog w).map (fun s => (looksI r.prog s.1 s.2.abs, seenQ q lse (importedModules r.prog.main.body) (fun s => xlAt q [] s && recOk r.toRowW.records s) s.2.abs, ob s.2)) = some (true, openGood q lse, H.val w)
theorem head_imp {r : OpenRow} {q : Program} {H : Hook} {ob : SharedT → H.α} {M : Nat} {lse : List PySem.Str} {d : DefRec} {kwq : List (PySem.Str × PySem.Expr)} (ho : ∀ s : SharedT, ob s = H.obs s.abs)
    (run : ∀ w, RunI r q H ob M lse w)
    (hdef : defOf q r.name = some (d, kwq)) (hp : r.prog.theDef r.name = some (d.params, d.body, d.scope)) (hk : kwWritten? d.params.kwonlyargs d.params.kw_defaults = some kwq) (hwr : (!r.writes || r.records.isEmpty) = true)
    (k1 : r.wellSaid = true)
      (ok : (chainsOk q && opensWell r.prog && (frees r.toRowW && r.within.isEmpty)) = true) (hb : r.prog.bare) (hw : r.toRowW.promised)
    (call : WalkO q lse (XL q []) H.says r.toRowW d kwq fun f vs => PySem.call f vs) : r.Holds := by
  have lft : LeftO r.prog q lse (fun s => xlAt q [] s && recOk r.toRowW.records s) H.obs H.val M true :=
    left_imp fun w => by
      have z := run w
      have eob : ob = fun s => H.obs s.abs := funext ho
      unfold RunI at z
      rw [eob] at z
      have e2 : endI treeTable (stepT (denote treeTable) r.prog w) M r.prog w = endI tabQ (stepQ (denQ tabQ) r.prog w) M r.prog w := by
        rw [tabQ_eq, stepQ_eq, denQ_eq]
      rw [e2]
      simp only [seenQ_eq]
      exact z
  exact holds_open (r := r) (q := q) (loose := lse) (XP := XL q []) (YP := H.says) (d := d) (kwd := kwq) lft H.of H.keeps (fun s z => xl_of s (Bool.and_eq_true_iff.mp z).1) XL.keeps hdef hp hk (fun s z => recFacts_of (Bool.and_eq_true_iff.mp z).2) hwr k1 ok hb hw call
/-- the run told in parts: a declaration each -/
theorem run_of {r : OpenRow} {q : Program} {H : Hook} {ob : SharedT → H.α} {M : Nat} {lse : List PySem.Str} {w : World}
    (h1 : (endI tabQ (stepQ (denQ tabQ) r.prog w) M r.prog w).map (fun s => looksI r.prog s.1 s.2.abs) = some true)
    (h2 : (endI tabQ (stepQ (denQ tabQ) r.prog w) M r.prog w).map (fun s => seenQ q lse (importedModules r.prog.main.body) (fun s => xlAt q [] s && recOk r.toRowW.records s) s.2.abs) = some (openGood q lse))
    (h3 : (endI tabQ (stepQ (denQ tabQ) r.prog w) M r.prog w).map (fun s => ob s.2) = some (H.val w)) : RunI r q H ob M lse w := by
  unfold RunI
  revert h1 h2 h3
  generalize endI tabQ (stepQ (denQ tabQ) r.prog w) M r.prog w = x
  intro h1 h2 h3
  cases x with
  | none => cases h1
  | some s =>
    have a1 := Option.some.inj h1
    have a2 := Option.some.inj h2
    have a3 := Option.some.inj h3
    exact congrArg some (Prod.ext a1 (Prod.ext a2 a3))
theorem looks_app {n : Nat} {b1 b2 : List (FoZ.Fr1 → Bool)} {d1 d2 : List He5.DefA} {g : Addr → Option Obj} (h1 : FoZ.lookG n b1 d1 g = FoZ.want d1) (h2 : FoZ.lookG n b2 d2 g = FoZ.want d2) : FoZ.lookG n (b1 ++ b2) (d1 ++ d2) g = FoZ.want (d1 ++ d2) := by
  have a1 := (Prod.mk.inj h1)
  have a2 := (Prod.mk.inj h2)
  refine Prod.ext ?_ ?_
  · show ((b1 ++ b2).all _ && (d1 ++ d2).all _) = true
    obtain ⟨x1, y1⟩ := Bool.and_eq_true_iff.mp a1.1
    obtain ⟨x2, y2⟩ := Bool.and_eq_true_iff.mp a2.1
    rw [List.all_append, List.all_append, x1, x2, y1, y2]
    rfl
  · show (d1 ++ d2).map _ = (d1 ++ d2).map _
    rw [List.map_append, List.map_append]
    exact (congr (congrArg _ a1.2) a2.2)
theorem looks_map {α : Type} {x : Option (α × SharedT)} {n : Nat} {b1 b2 : List (FoZ.Fr1 → Bool)} {d1 d2 : List He5.DefA} (h1 : x.map (fun s => FoZ.lookG n b1 d1 (getT s.2)) = some (FoZ.want d1)) (h2 : x.map (fun s => FoZ.lookG n b2 d2 (getT s.2)) = some (FoZ.want d2)) :
    x.map (fun s => FoZ.lookG n (b1 ++ b2) (d1 ++ d2) (getT s.2)) = some (FoZ.want (d1 ++ d2)) := by
  cases x with
  | none => cases h1
  | some s => exact congrArg some (looks_app (Option.some.inj h1) (Option.some.inj h2))
theorem looks_appL {as : List Addr} {b1 b2 : List (FoZ.Fr1 → Bool)} {d1 d2 : List He5.DefA} {g : Addr → Option Obj} (h1 : FoZ.lookL as b1 d1 g = FoZ.want d1) (h2 : FoZ.lookL as b2 d2 g = FoZ.want d2) : FoZ.lookL as (b1 ++ b2) (d1 ++ d2) g = FoZ.want (d1 ++ d2) := by
  have a1 := (Prod.mk.inj h1)
  have a2 := (Prod.mk.inj h2)
  refine Prod.ext ?_ ?_
  · show ((b1 ++ b2).all _ && (d1 ++ d2).all _) = true
    obtain ⟨x1, y1⟩ := Bool.and_eq_true_iff.mp a1.1
    obtain ⟨x2, y2⟩ := Bool.and_eq_true_iff.mp a2.1
    rw [List.all_append, List.all_append, x1, x2, y1, y2]
    rfl
  · show (d1 ++ d2).map _ = (d1 ++ d2).map _
    rw [List.map_append, List.map_append]
    exact (congr (congrArg _ a1.2) a2.2)
theorem looks_mapL {α : Type} {x : Option (α × SharedT)} {as : List Addr} {b1 b2 : List (FoZ.Fr1 → Bool)} {d1 d2 : List He5.DefA} (h1 : x.map (fun s => FoZ.lookL as b1 d1 (getT s.2)) = some (FoZ.want d1)) (h2 : x.map (fun s => FoZ.lookL as b2 d2 (getT s.2)) = some (FoZ.want d2)) :
    x.map (fun s => FoZ.lookL as (b1 ++ b2) (d1 ++ d2) (getT s.2)) = some (FoZ.want (d1 ++ d2)) := by
  cases x with
  | none => cases h1
  | some s => exact congrArg some (looks_appL (Option.some.inj h1) (Option.some.inj h2))
end FoI

set_option maxHeartbeats 4100000
/-! Calls by keywords alone; calls whose exceptions are wished for at the caller's slots. -/
namespace FoC
open PySem PySem.Spec PyProof.Rows L2
section
variable {X : Cx} {CX : CXT} {k n : Nat} {f C : Addr} {fd : FuncData} {ps ks : List Str} {sp : Sp} {E : XK} {x m : Str} {p pos apos : Pos} {e o : Expr} {es : List Expr} {kws : List Keyword} {t tk : TA} {ta te : TE} {g : List Value → List Value → List Value} {gV : List V → List V → List V}
/-- f(k = v, ..) -/
theorem pe_callN0 (F : FnOk X.prog X.w X.K X.mg X.base CX k f fd ps sp) (hr : Room k X.A) (hg : Gl X x) (hg2 : X.mg x = some (.ref f)) (hk : PySem.W.keepIn X.K (.ref f) = true) (hb : KBn X.K fd ps 0 ks g gV) (hx : Passes CX X E)
    (hkw : PK X kws tk) (hall : (backToKw pos (keywordEach kws X.env)).all (·.1.isSome) = true := by rfl) (hks : (backToKw pos (keywordEach kws X.env)).filterMap (·.1) = ks := by rfl)
    (hdq : (x == ("__debug__" : Str)) = false := by decide) (hpq : ((backTo pos (starEach [] X.env)).any (·.1) || (backToKw pos (keywordEach kws X.env)).any (·.1.isNone)) = false := by rfl) :
    PE X (.Call (.Name x p) [] kws pos) (tCallN 0 ks.length sp gV E tNil tk) := by
  refine ⟨fun pz s τ H Q I h => ?_⟩
  refine wpAny_Call_Name_kw (ld_glob I hg hg2 ?_ hdq)
  refine PySem.W.callWith_KW0 (h₀ := X.base) I.ok.mod.kin hk hall ?_ hpq
  refine thn (hkw.run pos pz s τ H _ I h) fun ws s2 ⟨zz, H2, J2, rk, l1, l2, q2⟩ => ⟨J2.kIn, ?_⟩
  rw [hks]
  exact run_fnN (us := []) (vs := []) F hr hb hx J2 .nil rk l1 l2 q2
/-- o.m(k = v, ..) -/
def tMethN (C : Addr) (m : Str) (nk : Nat) (sp : Sp) (gV : List V → List V → List V) (E : XK) (ta : TE) (tk : TA) : TE := fun τ H Q => ta τ H fun x H1 => ∃ a dx fs, x = .ref a ∧ H1 a = some (.ins C dx fs) ∧ fs.lookup m = none ∧
  tk τ H1 fun zz H2 => zz.length = nk ∧ sp (gV [x] zz) H2 Q E
theorem pe_methN0 {pl : Sem Bool} (he : PE X o ta) (c : Cls X.K C) (hg2 : Meth X.K C m f) (F : FnOk X.prog X.w X.K X.mg X.base CX k f fd ps sp) (hr : Room k X.A) (hb : KBn X.K fd ps 1 ks g gV) (hx : Passes CX X E) (hkw : PK X kws tk)
    (hall : (backToKw pos (keywordEach kws X.env)).all (·.1.isSome) = true := by rfl) (hks : (backToKw pos (keywordEach kws X.env)).filterMap (·.1) = ks := by rfl)
    (hpq : ((backTo pos (starEach [] X.env)).any (·.1) || (backToKw pos (keywordEach kws X.env)).any (·.1.isNone)) = false := by rfl)
    (ht : eval (.Call (.Attribute o m apos) [] kws pos) X.env = (do
      let ov ← eval o X.env
      standAt apos.atName
      let (f, first) ← holding [ov] (getMethod ov m pl)
      callWith pos f first (backTo pos (starEach [] X.env)) (backToKw pos (keywordEach kws X.env))) := by rfl) :
    PE X (.Call (.Attribute o m apos) [] kws pos) (tMethN C m ks.length sp gV E ta tk) := by
  refine ⟨fun pz s τ H Q I h => ?_⟩
  refine PySem.W.methodCall_KW (pl := pl) (thn (he.run pz s τ H _ I h) fun u s1 ⟨x, H1, J1, rx, a, dx, fs, ex, ea, l, q⟩ => ?_) ht
  subst ex
  obtain rfl : u = Value.ref a := rx
  refine getmeth_ok J1 ea c hg2 l ?_
  refine PySem.W.callWith_KW0 (first := [.ref a]) (h₀ := X.base) I.ok.mod.kin hg2.kp hall ?_ hpq
  refine thn (hkw.run pos pz s1 τ H1 _ J1 q) fun ws s2 ⟨zz, H2, J2, rk, l2, q2⟩ => ⟨J2.kIn, ?_⟩
  rw [hks]
  exact run_fnN (us := [.ref a]) (vs := [.ref a]) F hr hb hx J2 (.cons rfl .nil) rk rfl l2 q2
/-- how a def without defaults binds: n values and the keywords ks -/
theorem kbn {K : PySem.W.Frag} {x qual : Str} {st : Stmt} {f : Addr} {fd : FuncData} {ps ks : List Str} {n : Nat} (g : {α : Type} → List α → List α → List α) (F : Fun K x qual st f fd)
    (hrel : ∀ {vs zz : List V} {us ws : List Value}, Vals vs us → Vals zz ws → Vals (g vs zz) (g us ws))
    (h : ∀ (kV doc pm : Value) (an : Option Addr) (cv ct : Value) (us ws : List Value), us.length = n → ws.length = ks.length →
      bindArgs (PySem.W.fnOf x qual (defArgs st) (defBody st) (defScope st) .none kV doc pm an cv ct) ⟨us, ks.zip ws⟩ = pure (ps.zip (g us ws))) : KBn K fd ps n ks (fun us ws => g us ws) (fun vs zz => g vs zz) := by
  obtain ⟨oc, od, kV, doc, pm, an, cv, ct, ol, rfl, lk, hcd⟩ := F.ex
  exact ⟨fun s us ws _ l1 l2 => .of_eq (h kV doc pm an cv ct us ws l1 l2), fun r1 rr => hrel r1 rr⟩
end
section
variable {X : Cx} {CX : CXT} {k : Nat} {f C : Addr} {fd : FuncData} {ps : List Str} {sp : Sp} {dvs : List V} {ds : List Value} {E : L2.St → XK} {x m : Str} {p pos apos : Pos} {e o : Expr} {es : List Expr} {t : TA} {ta : TE}
/-- o.m(e, ..), what is raised wished for at the slots -/
def tMethS (C : Addr) (m : Str) (sp : Sp) (dvs : List V) (E : L2.St → XK) (ta : TE) (t : TA) : TE := fun τ H Q => ta τ H fun x H1 => ∃ a dx fs, x = .ref a ∧ H1 a = some (.ins C dx fs) ∧ fs.lookup m = none ∧
  t τ H1 fun vs H2 => sp (x :: (vs ++ dvs)) H2 Q (E τ)
theorem pe_methS {pl : Sem Bool} (he : PE X o ta) (c : Cls X.K C) (hg2 : Meth X.K C m f) (F : FnOk X.prog X.w X.K X.mg X.base CX k f fd ps sp) (hr : Room k X.A) (hb : Binds X.K fd ps ds) (hd : Vals dvs ds) (hx : ∀ τ, PassesAt CX X τ (E τ)) (ha : PA X (e :: es) t)
    (hst : starEach (e :: es) X.env = (false, eval e X.env) :: starEach es X.env := by rfl) (hpq : (backTo pos (starEach es X.env)).any (·.1) = false := by rfl)
    (ht : eval (.Call (.Attribute o m apos) (e :: es) [] pos) X.env = (do
      let ov ← eval o X.env
      standAt apos.atName
      let (f, first) ← holding [ov] (getMethod ov m pl)
      callWith pos f first (backTo pos (starEach (e :: es) X.env)) (backToKw pos (keywordEach [] X.env))) := by rfl) :
    PE X (.Call (.Attribute o m apos) (e :: es) [] pos) (tMethS C m sp dvs E ta t) := by
  refine ⟨fun pz s τ H Q I h => ?_⟩
  refine PySem.W.methodCall_KW (pl := pl) (thn (he.run pz s τ H _ I h) fun u s1 ⟨x, H1, J1, rx, a, dx, fs, ex, ea, l, q⟩ => ?_) ht
  subst ex
  obtain rfl : u = Value.ref a := rx
  refine getmeth_ok J1 ea c hg2 l ?_
  refine PySem.W.callWith_K (first := [.ref a]) (h₀ := X.base) I.ok.mod.kin hg2.kp (thn (ha.run pos pz s1 τ H1 _ J1 q) fun us s2 ⟨vs, H2, J2, r, q2⟩ => ⟨J2.kIn, ?_⟩) hst hpq
  exact run_fnSD (us := .ref a :: us) (vs := .ref a :: vs) F hr hb hd (hx τ) J2 (.cons rfl r) q2
/-- C(e, ..), what is raised wished for at the slots -/
def tMakeS (C : Addr) (sp : Sp) (dvs : List V) (E : L2.St → XK) (t : TA) : TE := fun τ H Q => t τ H fun vs H1 => ∀ x dx, H1 x = none → H1 dx = none → dx ≠ x →
  sp (.ref x :: (vs ++ dvs)) (upd (upd H1 dx (.own x)) x (.ins C dx [])) (fun v H2 => v = .non ∧ Q (.ref x) H2) (E τ)
theorem run_makeS {pz : List (Addr × Obj)} {τ : L2.St} {H : Hp} {s : Shared} {Q : VK} {us : List Value} {vs : List V} (M : Mk X.K C f) (F : FnOk X.prog X.w X.K X.mg X.base CX k f fd ps sp) (hr : Room (k + 1) X.A) (hb : Binds X.K fd ps ds) (hd : Vals dvs ds)
    (hx : PassesAt CX X τ (E τ)) (I : Inv X pz τ H s) (r : Vals vs us)
    (h : ∀ x dx, H x = none → H dx = none → dx ≠ x → sp (.ref x :: (vs ++ dvs)) (upd (upd H dx (.own x)) x (.ins C dx [])) (fun v H2 => v = .non ∧ Q (.ref x) H2) (E τ)) :
    wpAny (model X.prog X.w) X.A (call (.ref C) us) (EP X pz τ Q) X.xe s := by
  have hj := h (s.heap.objs.size + 1) s.heap.objs.size (I.hok.fresh (Nat.le_succ _)) (I.hok.fresh (Nat.le_refl _)) (Nat.ne_of_lt (Nat.lt_succ_self _)); have J2 := Inv.made (C := C) I
  have rr : Vals (V.ref (s.heap.objs.size + 1) :: (vs ++ dvs)) (Value.ref (s.heap.objs.size + 1) :: (us ++ ds)) := .cons rfl (r.append hd)
  have hn : (Value.ref (s.heap.objs.size + 1) :: us ++ ds).length = ps.length := by
    have e := rr.length
    rw [F.len _ _ _ _ hj] at e
    exact e.symm
  refine wpAny_call (make_map (f := f) I.kIn M.makes M.init (beq_iff_eq.mp M.fn) (codeAny_mono (F.run _ X.stack _ _ ⟨Value.ref (s.heap.objs.size + 1) :: us, []⟩ (Value.ref (s.heap.objs.size + 1) :: (us ++ ds)) _ _ (E τ) (hr.make C us [])
    (J2.env0.make C us []) (hb _ (Value.ref (s.heap.objs.size + 1) :: us) J2.kIn hn) rr hj) fun r s' hq' => ?_))
  cases r with
  | error e => exact hx pz _ _ e s' J2 hq'
  | ok fl =>
    cases fl with
    | ret u =>
      obtain ⟨v, H', I3, rv, ev, q9⟩ := J2.after hq'
      subst ev
      exact ⟨rv, ⟨V.ref (s.heap.objs.size + 1), H', I3, rfl, q9⟩⟩
    | next | brk | cont => exact False.elim hq'
theorem pe_makeS (M : Mk X.K C f) (F : FnOk X.prog X.w X.K X.mg X.base CX k f fd ps sp) (hr : Room (k + 1) X.A) (hg : Gl X x) (hg2 : X.mg x = some (.ref C)) (hb : Binds X.K fd ps ds) (hd : Vals dvs ds) (hx : ∀ τ, PassesAt CX X τ (E τ))
    (ha : PA X (e :: es) t) (hdq : (x == ("__debug__" : Str)) = false := by decide) (he : starEach (e :: es) X.env = (false, eval e X.env) :: starEach es X.env := by rfl) (hpq : (backTo pos (starEach es X.env)).any (·.1) = false := by rfl) :
    PE X (.Call (.Name x p) (e :: es) [] pos) (tMakeS C sp dvs E t) := by
  refine ⟨fun pz s τ H Q I h => ?_⟩
  refine wpAny_Call_Name_kw (ld_glob I hg hg2 ?_ hdq)
  refine PySem.W.callWith_K (h₀ := X.base) I.ok.mod.kin M.kp (thn (ha.run pos pz s τ H _ I h) fun us s1 ⟨vs, H1, J1, r, q⟩ => ⟨J1.kIn, ?_⟩) he hpq
  exact run_makeS M F hr hb hd (hx τ) J1 r q
end
/-! ### an own error's field, read where it is held -/
section
variable {X : Cx} {C fI : Addr} {f : Str}
/-- e.f, e the exception that the suite holds (at a; its class cls, its dict d) -/
def tExF (f : Str) (C : Addr) (a : Addr) (cls : Value) (d : Option Addr) (te : TE) : TE := fun τ H Q => te τ H fun x H1 => x = .ref a ∧ cls = .ref C ∧ ∃ (dd : Addr) (v : V) (fs : List (Str × V)), d = some dd ∧ H1 dd = some (.xd fs) ∧ fs.lookup f = some v ∧ Q v H1
theorem pe_exF {a : Addr} {oe : Obj} {cls : Value} {d : Option Addr} {e : Expr} {te : TE} {pos : Pos} (T : FoB.OErr X.K C fI f) (hz : Zc cls d oe) (hf : ∃ vs, oe.data = .fields vs) (hg2 : (a, oe) ∈ X.pn) (he : PE X e te)
    (hb : attributeBase e f X.env (eval e X.env) = eval e X.env := by rfl) :
    PE X (.Attribute e f pos) (tExF f C a cls d te) := by
  refine ⟨fun pz s τ H Q I h => ?_⟩
  refine attr_of hb (thn (he.run pz s τ H _ I h) fun u s1 hh => ?_)
  obtain ⟨x, H1, J1, rx, ex, ec, dd, v, fs, ed, ea, hl1, q⟩ := hh
  subst ex
  obtain rfl : u = Value.ref a := rx
  subst ec
  subst ed
  obtain ⟨ha, _⟩ := J1.pin (a, oe) (List.mem_append_left _ hg2)
  obtain ⟨vs, hd⟩ := hf
  have hx : ObjOk X.prog X.w H1 s1.heap dd (.xd fs) := J1.hok dd _ ea
  obtain ⟨mA, hns, hr⟩ := hx
  obtain ⟨od, ho, hn⟩ := lookIn_ns hns
  obtain ⟨u, hu, ru⟩ := RelO.some_of (v := v) (o := mA f) (by rw [← hl1]; exact hr f)
  have J : PySem.W.InstAt s1.heap a oe C (some od) := ⟨ha, hz.1, by unfold PySem.W.notCls; rw [hd] <;> rfl, by rw [hz.2]; exact ho⟩
  exact HandSPX.exc_get J1.kIn J T.ga T.gg T.ox.exC (PySem.W.findObj_own T.hd T.no rfl (by rw [hn, hu])) (handed_of ru) ⟨v, H1, J1.tok _, ru, q⟩
end
end FoC

set_option maxHeartbeats 4100000
/-! Classmethods that raise into a try, classmethods called by keywords alone, a class called by a local name. -/
namespace FoD
open PySem PySem.Spec PyProof.Rows L2 ClX
section
variable {X : Cx} {pz : List (Addr × Obj)} {τ : L2.St} {H : Hp} {s : Shared}
theorem run_cmS {CX : CXT} {k : Nat} {q g C : Addr} {sp : Sp} {fd : FuncData} {ps : List Str} {E : L2.St → XK} {Q : VK} {us : List Value} {vs : List V} (F : FnOk X.prog X.w X.K X.mg X.base CX k g fd ps sp) (hr : Room k X.A) (hb : Binds X.K fd ps []) (hx : PassesAt CX X τ (E τ))
    (I : Inv X ((q, PySem.W.methodObj (.ref g) (.ref C)) :: pz) τ H s) (r : Vals vs us) (h : sp (.ref C :: vs) H Q (E τ)) : wpAny (model X.prog X.w) X.A (call (.ref q) us) (EP X pz τ Q) X.xe s := by
  have rr : Vals (V.ref C :: vs) (Value.ref C :: us) := .cons rfl r
  have hn : (Value.ref C :: us).length = ps.length := by rw [← rr.length]; exact F.len _ _ _ _ h
  have b := hb s (Value.ref C :: us) I.kIn (by rw [List.append_nil]; exact hn)
  rw [List.append_nil] at b
  have z : wpAny (model X.prog X.w) X.A (call (.ref q) us) (EP X ((q, PySem.W.methodObj (.ref g) (.ref C)) :: pz) τ Q) X.xe s := by
    refine wpAny_call (PySem.W.method_call (pin_at I) (codeAny_mono (F.run X.A X.stack s H ⟨Value.ref C :: us, []⟩ (Value.ref C :: us) (V.ref C :: vs) Q (E τ) hr I.env0 b rr h) fun r s' hj => ?_))
    cases r with
    | error e => exact hx _ H s e s' I hj
    | ok fl =>
      cases fl with
      | ret u => exact I.after hj
      | next | brk | cont => exact False.elim hj
  exact thn z fun _ _ yy => unpinE yy
theorem run_cmN {CX : CXT} {k : Nat} {q g C : Addr} {sp : Sp} {fd : FuncData} {ps ks : List Str} {gf : List Value → List Value → List Value} {gV : List V → List V → List V} {E : XK} {Q : VK} {ws : List Value} {zs : List V} (F : FnOk X.prog X.w X.K X.mg X.base CX k g fd ps sp) (hr : Room k X.A) (hb : KBn X.K fd ps 1 ks gf gV) (hx : Passes CX X E)
    (I : Inv X ((q, PySem.W.methodObj (.ref g) (.ref C)) :: pz) τ H s) (rz : Vals zs ws) (l2 : zs.length = ks.length) (h : sp (gV [.ref C] zs) H Q E) : wpAny (model X.prog X.w) X.A (call (.ref q) [] (ks.zip ws)) (EP X pz τ Q) X.xe s := by
  have r1 : Vals [V.ref C] [Value.ref C] := .cons rfl .nil
  have rr := hb.rel r1 rz
  have z : wpAny (model X.prog X.w) X.A (call (.ref q) [] (ks.zip ws)) (EP X ((q, PySem.W.methodObj (.ref g) (.ref C)) :: pz) τ Q) X.xe s := by
    refine wpAny_call (PySem.W.method_call (pin_at I) (codeAny_mono (F.run X.A X.stack s H ⟨[Value.ref C], ks.zip ws⟩ (gf [Value.ref C] ws) _ Q E hr I.env0 (hb.to s [Value.ref C] ws I.kIn rfl (rz.length.symm.trans l2)) rr h) fun r s' hj => ?_))
    cases r with
    | error e => exact hx _ _ _ _ e s' I hj
    | ok fl =>
      cases fl with
      | ret u => exact I.after hj
      | next | brk | cont => exact False.elim hj
  exact thn z fun _ _ yy => unpinE yy
end
section
variable {X : Cx} {CX : CXT} {k : Nat} {C p g : Addr} {mc : Value} {sp : Sp} {fd : FuncData} {ps ks : List Str} {o e : Expr} {es : List Expr} {kws : List Keyword} {m : Str} {pos apos : Pos} {ta : TE} {t tk : TA} {pl : Sem Bool}
def tCMethS (C : Addr) (sp : Sp) (E : L2.St → XK) (ta : TE) (t : TA) : TE := fun τ H Q => ta τ H fun x H1 => x = .ref C ∧ t τ H1 fun vs H2 => sp (.ref C :: vs) H2 Q (E τ)
theorem pe_cmethS {E : L2.St → XK} (he : PE X o ta) (r : CRead X.K C mc) (c : CMet X.K C mc m p g) (F : FnOk X.prog X.w X.K X.mg X.base CX k g fd ps sp) (hr : Room k X.A) (hb : Binds X.K fd ps []) (hx : ∀ τ, PassesAt CX X τ (E τ)) (ha : PA X (e :: es) t)
    (hs2 : starEach (e :: es) X.env = (false, eval e X.env) :: starEach es X.env := by rfl) (hpq : (backTo pos (starEach es X.env)).any (·.1) = false := by rfl)
    (hev : eval (.Call (.Attribute o m apos) (e :: es) [] pos) X.env = (do
      let ov ← eval o X.env
      standAt apos.atName
      let (fn, fst) ← holding [ov] (getMethod ov m pl)
      callWith pos fn fst (backTo pos (starEach (e :: es) X.env)) (backToKw pos (keywordEach [] X.env))) := by rfl) :
    PE X (.Call (.Attribute o m apos) (e :: es) [] pos) (tCMethS C sp E ta t) := by
  refine ⟨fun pz s τ H Q I h => ?_⟩
  refine PySem.W.methodCall_KW (pl := pl) (thn (he.run pz s τ H _ I h) fun u s1 ⟨x, H1, I1, rx, ex, q⟩ => ?_) hev
  subst ex
  obtain rfl : u = Value.ref C := rx; refine getmethcm_ok I1 r c fun s2 I2 => ?_
  refine callwith_cm I2 (base_none I1 (Nat.le_refl _)) c.fi (thn (ha.run pos _ s2 τ H1 _ I2 q) fun us s3 ⟨vs, H2, I3, rv, q2⟩ => ⟨⟨pin_at I3, I3.kIn⟩, ?_⟩) hs2 hpq
  exact run_cmS F hr hb (hx τ) I3 rv q2
def tCMethN (C : Addr) (nk : Nat) (sp : Sp) (gV : List V → List V → List V) (E : XK) (ta : TE) (tk : TA) : TE := fun τ H Q => ta τ H fun x H1 => x = .ref C ∧ tk τ H1 fun zs H2 => zs.length = nk ∧ sp (gV [.ref C] zs) H2 Q E
theorem pe_cmethN0 {E : XK} {gf : List Value → List Value → List Value} {gV : List V → List V → List V} (he : PE X o ta) (r : CRead X.K C mc) (c : CMet X.K C mc m p g) (F : FnOk X.prog X.w X.K X.mg X.base CX k g fd ps sp) (hr : Room k X.A) (hb : KBn X.K fd ps 1 ks gf gV) (hx : Passes CX X E) (hkw : PK X kws tk)
    (hall : (backToKw pos (keywordEach kws X.env)).all (·.1.isSome) = true := by rfl) (hks : (backToKw pos (keywordEach kws X.env)).filterMap (·.1) = ks := by rfl)
    (hpq : ((backTo pos (starEach [] X.env)).any (·.1) || (backToKw pos (keywordEach kws X.env)).any (·.1.isNone)) = false := by rfl)
    (hev : eval (.Call (.Attribute o m apos) [] kws pos) X.env = (do
      let ov ← eval o X.env
      standAt apos.atName
      let (fn, fst) ← holding [ov] (getMethod ov m pl)
      callWith pos fn fst (backTo pos (starEach [] X.env)) (backToKw pos (keywordEach kws X.env))) := by rfl) :
    PE X (.Call (.Attribute o m apos) [] kws pos) (tCMethN C ks.length sp gV E ta tk) := by
  refine ⟨fun pz s τ H Q I h => ?_⟩
  refine PySem.W.methodCall_KW (pl := pl) (thn (he.run pz s τ H _ I h) fun u s1 ⟨x, H1, I1, rx, ex, q⟩ => ?_) hev
  subst ex
  obtain rfl : u = Value.ref C := rx; refine getmethcm_ok I1 r c fun s2 I2 => ?_
  refine PySem.W.callWith_of (P := PySem.W.MethP X.K s1.heap.objs.size g (.ref C)) hpq (PySem.W.keeps_M c.fi) (evalArgs_kw2_nil hall ?_)
  refine thn (hkw.run pos _ s2 τ H1 _ I2 q) fun ws s3 ⟨zs, H2, I3, rz, l2, q2⟩ => ⟨⟨pin_at I3, I3.kIn⟩, ?_⟩
  rw [hks]
  exact run_cmN F hr hb hx I3 rz l2 q2
end
/-! ### x(e, ..), x a local name that holds a class -/
section
variable {X : Cx} {CX : CXT} {k i : Nat} {f C : Addr} {fd : FuncData} {ps : List Str} {sp : Sp} {dvs : List V} {ds : List Value} {E : XK} {x : Str} {p pos : Pos} {e : Expr} {es : List Expr} {t : TA}
def tMakeL (i : Nat) (C : Addr) (sp : Sp) (dvs : List V) (E : XK) (t : TA) : TE := fun τ H Q => τ[i]? = some (some (.ref C)) ∧ tMake C sp dvs E t τ H Q
theorem pe_makeL (M : Mk X.K C f) (F : FnOk X.prog X.w X.K X.mg X.base CX k f fd ps sp) (hr : Room (k + 1) X.A) (hN : X.N[i]? = some x) (hv : Vis X.env.scope x) (hb : Binds X.K fd ps ds) (hd : Vals dvs ds) (hx : Passes CX X E) (ha : PA X (e :: es) t)
    (hdq : (x == ("__debug__" : Str)) = false := by decide) (hcq : (x == ("__classdict__" : Str)) = false := by decide)
    (hs2 : starEach (e :: es) X.env = (false, eval e X.env) :: starEach es X.env := by rfl) (hpq : (backTo pos (starEach es X.env)).any (·.1) = false := by rfl) : PE X (.Call (.Name x p) (e :: es) [] pos) (tMakeL i C sp dvs E t) := by
  refine ⟨fun pz s τ H Q I h => ?_⟩
  obtain ⟨hs, ht⟩ := h
  have look := (pe_var (pos := p) hN hv hdq hcq).run pz s τ H (fun v H1 => v = .ref C ∧ H1 = H) I ⟨.ref C, hs, rfl, rfl⟩
  refine wpAny_Call_Name_kw (thn look fun u s1 ⟨v, H1, I1, r1, q1⟩ => ?_)
  obtain ⟨rfl, rfl⟩ := q1
  cases r1
  refine PySem.W.callWith_K (h₀ := X.base) I.ok.mod.kin M.kp (thn (ha.run pos pz s1 τ _ _ I1 ht) fun us s2 ⟨vs, H2, I2, r, q⟩ => ⟨I2.kIn, ?_⟩) hs2 hpq
  exact run_make M F hr hb hd hx I2 r q
end
def creadB (x : Str) (K : PySem.W.Frag) : Bool := PySem.W.readsIn K (He.ga K x) (.type "type") && He.eqO (PySem.W.specialIn K (.ref (He.ga K x)) "__getattribute__") (some (some (.builtin "type.__getattribute__")))
theorem cread_ok {K : PySem.W.Frag} {x : Str} (h : creadB x K = true) : CRead K (He.ga K x) (.type "type") := by
  obtain ⟨h1, h2⟩ := He.ba h
  exact ⟨h1, He.eqO_ok h2⟩
def cmetB (x m : Str) (K : PySem.W.Frag) : Bool := He5.wrapB K (He.ga K x) "classmethod" "classmethod.__get__" m && PySem.W.fnIn K (He5.wf K (He.ga K x) "classmethod" m)
theorem cmet_ok {K : PySem.W.Frag} {x m : Str} (h : cmetB x m K = true) : CMet K (He.ga K x) (.type "type") m (He.ma K (He.ga K x) m) (He5.wf K (He.ga K x) "classmethod" m) := by
  obtain ⟨h1, h2⟩ := He.ba h
  exact He5.cmet_of h1 h2
end FoD

set_option maxHeartbeats 4100000
/-! repr of scalars, and of lists and tuples of scalars, whatever is under way below. -/
namespace FoR
open PySem PySem.Spec PyProof.Rows L2
/-- what stands below may be taken as known -/
theorem wpAny_guards {α : Type} {M : Model} {A : Around} {t : Sem α} {Q : α → Shared → Prop} {E : Value → Shared → Prop} {s : Shared} (h : ∀ g, wpAny M { A with guards := some g } t Q E s) : wpAny M A t Q E s :=
  fun Γ p hΓ => h (Γ.code.guards ++ guardsOf Γ.below) Γ p ⟨hΓ.1, hΓ.2.1, hΓ.2.2.1, fun g hgd => Option.some.inj hgd, hΓ.2.2.2.2⟩
abbrev gd (X : Cx) (g : List Code) : Cx := { X with A := { X.A with guards := some g } }
section
variable {X : Cx} {pz : List (Addr × Obj)} {τ : L2.St} {H : Hp} {s : Shared} {g : List Code}
theorem ok_gd (okx : X.Ok) : (gd X g).Ok :=
  ⟨okx.mod, okx.kind, okx.glob, okx.blt, okx.above, okx.inj, okx.has, okx.cab, okx.hd, okx.frames, okx.stk, okx.exf, okx.bs, okx.bsz, okx.noex, okx.exfs, okx.funs, okx.frf⟩
theorem inv_gd (I : Inv X pz τ H s) : Inv (gd X g) pz τ H s :=
  ⟨ok_gd I.ok, I.os, I.bare, I.base, I.loc, I.cell, I.free, I.freeC, I.pin, I.hok, I.len⟩
theorem inv_of {okx : X.Ok} (I : Inv (gd X g) pz τ H s) : Inv X pz τ H s :=
  ⟨okx, I.os, I.bare, I.base, I.loc, I.cell, I.free, I.freeC, I.pin, I.hok, I.len⟩
theorem pe_gd {e : Expr} {t : List Code → TE} (h : ∀ g, PE (gd X g) e (t g)) : PE X e (fun τ H Q => ∀ g, t g τ H Q) := by
  refine ⟨fun pz s τ H Q I q => wpAny_guards fun g => ?_⟩
  refine wpAny_mono ((h g).run pz s τ H Q (inv_gd I) (q g)) (fun u s' z => ?_) fun _ _ z => z
  obtain ⟨v, H', I', r, q'⟩ := z
  exact ⟨v, H', inv_of (okx := I.ok) I', r, q'⟩
end
/-! ### texts -/
def scText : V → Str
  | .non => "None"
  | .bl b => if b then "True" else "False"
  | .int i => toString i
  | .str x => reprText x
  | _ => "?"
inductive Sc : V → Prop where
  | non : Sc .non
  | bl (b : Bool) : Sc (.bl b)
  | int (i : Int) (h : i.natAbs.log2 < 1920) : Sc (.int i)
  | str (x : Str) (h : (reprText x).length ≤ sizeLine) : Sc (.str x)
def lstF (self : Value) : Code × Pos → Bool := fun
  | (.builtin "list.__repr__.loop" ⟨v :: _, _⟩, _) => Builtin.List.listSameRef v self
  | _ => false
theorem lstF_cons (self : Value) (id : String) (v : Value) (rest : List Value) (kw : List (Str × Value)) (p : Pos) : lstF self (.builtin id ⟨v :: rest, kw⟩, p) = (decide (id = "list.__repr__.loop") && Builtin.List.listSameRef v self) := by
  by_cases h : id = "list.__repr__.loop"
  · subst h
    simp [lstF]
  · simp only [h, decide_false, Bool.false_and]
    unfold lstF
    split <;> simp_all
theorem lstF_nil (self : Value) (id : String) (kw : List (Str × Value)) (p : Pos) : lstF self (.builtin id ⟨[], kw⟩, p) = false := by
  unfold lstF
  split <;> simp_all
theorem lstF_pos (self : Value) (c : Code) (p : Pos) : lstF self (c, p) = lstF self (c, default) := by
  cases c with
  | builtin id args =>
    obtain ⟨pos, kw⟩ := args
    cases pos with
    | nil => rw [lstF_nil, lstF_nil]
    | cons v rest => rw [lstF_cons, lstF_cons]
  | _ => rfl
theorem lstF_off (self : Value) (c : Code) (p : Pos) (hcc : c.isGuard = false) : lstF self (c, p) = false := by
  cases c with
  | builtin id args =>
    obtain ⟨pos, kw⟩ := args
    cases pos with
    | nil => exact lstF_nil _ _ _ _
    | cons v rest =>
      simp [Code.isGuard, guardIds] at hcc
      rw [lstF_cons]
      simp [hcc]
  | _ => rfl
def way (f : Code × Pos → Bool) (g : List Code) : Bool := g.any fun c => f (c, default)
/-- what repr tells, g what is under way below -/
def seqText (g : List Code) (a : Addr) : HO → Str
  | .lst xs => if xs = [] then "[]" else if way (lstF (.ref a)) g then "[...]" else listText (xs.map scText)
  | .tup xs => if way (tupGuardF (.ref a)) g then "(...)" else tupleText (xs.map scText)
  | .dK _ => if way (dictGuardF (.ref a)) g then "{...}" else "{}"
  | _ => "?"
def repText (g : List Code) (H : Hp) : V → Str
  | .ref a => match H a with
    | some o => seqText g a o
    | none => "?"
  | v => scText v
inductive Sho (H : Hp) : V → Prop where
  | sc {v : V} (h : Sc v) : Sho H v
  | lst {a : Addr} {xs : List V} (e : H a = some (.lst xs)) (h : ∀ y ∈ xs, Sc y) (z : (listText (xs.map scText)).length ≤ sizeLine) : Sho H (.ref a)
  | tup {a : Addr} {xs : List V} (e : H a = some (.tup xs)) (h : ∀ y ∈ xs, Sc y) (z : (tupleText (xs.map scText)).length ≤ sizeLine) : Sho H (.ref a)
  | dic {a : Addr} (e : H a = some (.dK [])) : Sho H (.ref a)
theorem sc_is {prog : Program} {w : World} {v : V} {u : Value} (h : Sc v) (r : RelV v u) : ReprIs prog w u (scText v) := by
  cases h with
  | non => cases r; exact ReprIs.none
  | bl b => cases r; exact ReprIs.bool b
  | int i z => obtain ⟨t, rfl⟩ := r; exact ReprIs.int t z
  | str x z => obtain ⟨t, rfl⟩ := r; exact ReprIs.str x t z
theorem sc_all {prog : Program} {w : World} : ∀ {l : List V} {its : List Value}, Vals l its → (∀ y ∈ l, Sc y) → ReprAll prog w its (l.map scText)
  | [], _, r, _ => by
    cases r
    exact .nil
  | y :: l, _, r, h => by
    cases r with
    | cons r1 r2 => exact .cons (sc_is (h y List.mem_cons_self) r1) (sc_all r2 fun z hz => h z (List.mem_cons_of_mem _ hz))
theorem all_item {prog : Program} {w : World} : ∀ {l : List V} {its : List Value}, Vals l its → (∀ y ∈ l, Sc y) → ∀ (i : Nat) (y : Value), its.toArray[i]? = some y → ∃ t, (l.map scText)[i]? = some t ∧ ReprIs prog w y t
  | _, _, .nil, _, i, y, e => by simp at e
  | x :: l, _, .cons r1 r2, h, 0, y, e => by
    simp at e
    subst e
    exact ⟨_, rfl, sc_is (h x List.mem_cons_self) r1⟩
  | x :: l, _, .cons r1 r2, h, i + 1, y, e => by
    obtain ⟨t, e1, e2⟩ := all_item r2 (fun z hz => h z (List.mem_cons_of_mem _ hz)) i y (by simpa using e)
    exact ⟨t, by simpa using e1, e2⟩
section
variable {prog : Program} {w : World} {A : Around} {E : Value → Shared → Prop} {s : Shared} {a : Addr} {o : Obj} {g : List Code}
theorem list_in {x : Value} {l : List Value} {n : Nat} {Q : Value → Shared → Prop} (hTy : s.TypeIs (.ref a) "list") (hgd : A.guards = some g) (hrun : way (lstF (.ref a)) g = true) (hat : s.heap.get? a = some o) (hd : o.data = .seq (x :: l).toArray n)
    (hQ : ∀ u tk, Q (.str "[...]" u) { s with toks := tk }) : wpAny (model prog w) A (call (.builtin "list.__repr__") [.ref a]) Q E s := by
  refine wpAny_call (codeAny_call_builtin_own (Code.quiet_builtin _ (by decide +kernel)) F.entry_list_repr (F.slot_list_repr.check _ _ _ _ _ _ _ _ hTy (F.args_list_repr_1 _) ?_))
  intro Γ p hcc hΓ
  show Sem.wp (model prog w) Γ (Builtin.listReprAt 0 ⟨[.ref a], []⟩) _ _ p s
  unfold Builtin.listReprAt
  have e : Γ.below.any (lstF (.ref a)) = true := by
    rw [PySem.any_eq_guards (lstF_off _) (lstF_pos _), hΓ.2.2.2.1 g hgd]
    exact hrun
  simp [slotArgs, Builtin.List.listItems, seqItems?, Sem.wp_load_of (h := hat), hd, stack]
  show Sem.wp (model prog w) Γ (if (Γ.below.any (lstF (.ref a))) = true then _ else _) _ _ p s
  rw [if_pos e]
  simp [rule, retStr, ret]
  exact (PySem.wpAny_mkStr (A := A.under Γ.code) (hQ _ _) (by decide +kernel)) Γ p hΓ.in
theorem dict_in {n : Nat} {Q : Value → Shared → Prop} (hs : (a == sysModules) = false) (hgd : A.guards = some g) (hat : s.heap.get? a = some o) (hcc : o.cls = .type "dict") (hd : o.data = .dict #[] n)
    (hQ : ∀ u tk, Q (.str (if way (dictGuardF (.ref a)) g then "{...}" else "{}") u) { s with toks := tk }) : wpAny (model prog w) A (call (.builtin "dict.__repr__") [.ref a]) Q E s := by
  have hTy : s.TypeIs (.ref a) "dict" := ⟨o, hat, hcc⟩
  refine wpAny_call (codeAny_call_builtin_own (Code.quiet_builtin _ (by decide +kernel)) F.entry_dict_repr (F.slot_dict_repr.check _ _ _ _ _ _ _ _ hTy (F.args_dict_repr_1 _) ?_))
  show wpOwn (model prog w) A _ (Builtin.dictReprAt 0 ⟨[.ref a], []⟩) _ _ s
  unfold Builtin.dictReprAt
  refine wpOwn_bind (wpOwn_of_wpAny ?_); unfold Builtin.Dict.dictSlotNone
  refine wpAny_bind (wpAny_notOrdered_dict hTy ?_); show wpAny _ _ (pure (Value.ref a)) _ _ s
  refine wpAny_pure ?_
  rw [dictReprRunning_eq]
  refine wpOwn_bind (wpOwn_stackTailAny hgd (dictGuardF_off _) (dictGuardF_pos _) ?_)
  show wpOwn _ _ _ (if way (dictGuardF (.ref a)) g = true then _ else _) _ _ s
  cases hw : way (dictGuardF (.ref a)) g with
  | true =>
    rw [hw] at hQ
    rw [if_pos rfl]
    refine wpOwn_of_wpAny (wpAny_bind (wpAny_rule (wpAny_bind (wpAny_mkStr (wpAny_pure ?_) (by decide +kernel)))))
    exact hQ _ _
  | false =>
    rw [hw] at hQ
    rw [if_neg Bool.false_ne_true]; refine wpOwn_of_wpAny ?_
    show wpAny _ _ (Builtin.Dict.addrOf (.ref a) >>= _) _ _ s; refine wpAny_bind (wpAny_pure ?_)
    show wpAny _ _ (Builtin.Dict.showsAll a >>= _) _ _ s; unfold Builtin.Dict.showsAll
    rw [if_neg (by rw [hs]; exact Bool.false_ne_true)]
    refine wpAny_bind (wpAny_pure ?_); refine wpAny_bind (wpAny_dictEpoch hat hd ?_)
    refine wpAny_bind (wpAny_dictEntries hat hd ?_)
    refine wpAny_bind ?_
    show wpAny _ _ (forIn [0:0] _ _) _ _ s
    rw [Std.Legacy.Range.forIn_eq_forIn_range']; simp only [Std.Legacy.Range.size, Nat.sub_zero, Nat.add_sub_cancel, Nat.div_one, List.range'_zero]
    refine wpAny_pure ?_
    refine wpAny_bind (wpAny_mkStr (wpAny_pure ?_) (by decide +kernel)); exact hQ _ _
theorem tup_in {items : Array Value} {n : Nat} {ts : List Str} {Q : Value → Shared → Prop} (hTy : s.TypeIs (.ref a) "tuple") (hgd : A.guards = some g) (hat : s.heap.get? a = some o) (hd : o.data = .seq items n) (hTp : ReprAll prog w items.toList ts)
    (hsz : (tupleText ts).length ≤ sizeLine) (hQ : ∀ u tk, Q (.str (if way (tupGuardF (.ref a)) g then "(...)" else tupleText ts) u) { s with toks := tk }) : wpAny (model prog w) A (call (.builtin "tuple.__repr__") [.ref a]) Q E s := by
  refine wpAny_call (codeAny_call_builtin_own (Code.quiet_builtin _ (by decide +kernel)) F.entry_tuple_repr (F.slot_tuple_repr.check _ _ _ _ _ _ _ _ hTy (F.args_tuple_repr_1 _) ?_))
  show wpOwn (model prog w) A _ (Builtin.tupleReprAt 0 ⟨[.ref a], []⟩) _ _ s
  rw [tuple_repr_tree, tupleReprUnderWay_eq]; refine wpOwn_bind (wpOwn_stackTailAny hgd (tupGuardF_off _) (tupGuardF_pos _) ?_)
  show wpOwn _ _ _ (if way (tupGuardF (.ref a)) g = true then _ else _) _ _ s
  cases hw : way (tupGuardF (.ref a)) g with
  | true =>
    rw [hw] at hQ
    rw [if_pos rfl]
    refine wpOwn_of_wpAny (wpAny_bind (wpAny_rule (wpAny_bind (wpAny_mkStr (wpAny_pure ?_) (by decide +kernel)))))
    exact hQ _ _
  | false =>
    rw [hw] at hQ
    rw [if_neg Bool.false_ne_true]; exact wpOwn_of_wpAny (wpAny_tupleReprRest hat hd hTp (fun u tk => hQ u tk) (by omega))
end
theorem seq_lst {g : List Code} {a : Addr} {y : V} {ys : List V} : seqText g a (.lst (y :: ys)) = if way (lstF (.ref a)) g then ("[...]" : Str) else listText ((y :: ys).map scText) := by
  show (if (y :: ys) = [] then ("[]" : Str) else if way (lstF (.ref a)) g then ("[...]" : Str) else listText ((y :: ys).map scText)) = _
  rw [if_neg (by simp)]
section
variable {X : Cx} {g : List Code}
theorem call_rep (hgd : X.A.guards = some g) (hu : X.A.units + 1 < cLine) : CallR X (.builtin "repr") (fun xs H Q => ∃ v, xs = [v] ∧ Sho H v ∧ Q (.str (repText g H v)) H) := by
  intro pz s τ H xs us Q I r h
  obtain ⟨v, rfl, hs, q⟩ := h
  obtain ⟨u, rfl, rv0⟩ := vals1 r
  cases hs with
  | sc hv =>
    cases hv with
    | non =>
      cases rv0
      exact PySem.P.repr_of_none ⟨.str _, H, I.tok _, ⟨_, rfl⟩, q⟩
    | bl b =>
      cases rv0
      exact PySem.P.repr_of_bool ⟨.str _, H, I.tok _, ⟨_, rfl⟩, q⟩
    | int i z =>
      obtain ⟨t, rfl⟩ := rv0
      exact PySem.P.repr_of_int z ⟨.str _, H, I.tok _, ⟨_, rfl⟩, q⟩
    | str x z =>
      obtain ⟨t, rfl⟩ := rv0
      exact PySem.P.repr_of_str ⟨.str _, H, I.tok _, ⟨_, rfl⟩, q⟩ z
  | @lst a ys e hy z =>
    cases rv0
    obtain ⟨_, its, n, rv, ho⟩ := (show ObjOk X.prog X.w H s.heap a (.lst ys) from I.hok a _ e)
    have hTp : s.TypeIs (.ref a) "list" := ⟨_, ho, rfl⟩
    have qt : repText g H (.ref a) = seqText g a (.lst ys) := by
      show (match H a with | some o => seqText g a o | none => "?") = _
      rw [e]
    rw [qt] at q
    refine call_repr_slot hu hTp F.slot_list_repr.toG ?_
    cases rv with
    | nil => exact call_list_repr_empty hTp ho rfl ⟨_, _, rfl, .str _, H, I.tok _, ⟨_, rfl⟩, q⟩
    | @cons y u0 ys us r1 r2 =>
      rw [seq_lst] at q
      cases hw : way (lstF (.ref a)) g with
      | true =>
        rw [hw, if_pos rfl] at q
        exact list_in (A := X.A.in1) hTp hgd hw ho rfl fun u tk => ⟨_, _, rfl, .str _, H, I.tok _, ⟨_, rfl⟩, q⟩
      | false =>
        rw [hw, if_neg Bool.false_ne_true] at q
        refine call_list_repr (A := X.A.in1) (ts := (y :: ys).map scText) hTp hgd (fun v rest kw hm => ?_) ho rfl (by simpa using (Vals.length r2)) (fun i x hx => all_item (.cons r1 r2) hy i x hx)
          (fun h' u tk hk => ⟨_, _, rfl, .str _, H, I.kept hk, ⟨_, rfl⟩, q⟩) z
        have z1 := List.any_eq_false.mp (show (g.any fun c => lstF (.ref a) (c, default)) = false from hw) _ hm
        rw [lstF_cons] at z1
        simpa using z1
  | @tup a ys e hy z =>
    cases rv0
    obtain ⟨_, its, rv, o, ho, hcc, n, hd⟩ := (show ObjOk X.prog X.w H s.heap a (.tup ys) from I.hok a _ e)
    have hTp : s.TypeIs (.ref a) "tuple" := ⟨_, ho, hcc⟩
    have qt : repText g H (.ref a) = seqText g a (.tup ys) := by
      show (match H a with | some o => seqText g a o | none => "?") = _
      rw [e]
    rw [qt] at q
    refine call_repr_slot hu hTp F.slot_tuple_repr ?_
    exact tup_in (A := X.A.in1) hTp hgd ho hd (sc_all rv hy) z fun u tk => ⟨_, _, rfl, .str _, H, I.tok _, ⟨_, rfl⟩, q⟩
  | @dic a e =>
    cases rv0
    obtain ⟨_, hs, vs, kv, o, es, ep, ho, hx, hd, hk, hp, hn⟩ := (show ObjOk X.prog X.w H s.heap a (.dK []) from I.hok a _ e)
    cases kv
    have e0 : es = #[] := by
      cases es with
      | mk l =>
        cases hp
        rfl
    subst e0
    have hTp : s.TypeIs (.ref a) "dict" := ⟨_, ho, hx.1⟩
    have qt : repText g H (.ref a) = seqText g a (.dK []) := by
      show (match H a with | some o => seqText g a o | none => "?") = _
      rw [e]
    rw [qt] at q
    refine call_repr_slot hu hTp F.slot_dict_repr ?_
    exact dict_in (A := X.A.in1) hs hgd ho hx.1 hd fun u tk => ⟨_, _, rfl, .str _, H, I.tok _, ⟨_, rfl⟩, q⟩
end
end FoR

set_option maxHeartbeats 4100000
/-! a != b where the class has an own __eq__ alone. -/
namespace FoN
open PySem PySem.Spec PyProof.Rows L2
section
variable {prog : Program} {w : World} {A : Around} {E : Value → Shared → Prop} {s : Shared} {K : PySem.W.Frag} {x C f : Addr} {ox : Obj} {od : Option Obj} {b : Value}
/-- object.__ne__ asks __eq__ -/
theorem ne_entry {Q : Fin → Shared → Prop} (hcl : A.units < cLine) (kin : K.In s.heap) (I : PySem.W.InstAt s.heap x ox C od) (he : PySem.W.findIn K (.ref C) "__eq__" = some (some (.ref f))) (hf : PySem.W.isFn K (.ref f) = true)
    (h : wpAny (model prog w) A (call (.ref f) [.ref x, b]) (fun v s' => ∃ c, v = .bool c ∧ Q (.done (.ret (.bool (!c)))) s') E s) : wpAny (model prog w) A (Builtin.«object.__ne__» ⟨[.ref x, b], []⟩) Q E s := by
  have ask : wpAny (model prog w) A (callSpecialIfBound? (.ref x) (Str.ofString "__eq__") [b]) (fun r s' => ∃ c, r = some (.bool c) ∧ Q (.done (.ret (.bool (!c)))) s') E s := by
    refine PySem.W.ifBound_K kin I he hf (wpAny_mono h (fun v s' z => ?_) fun _ _ z => z)
    obtain ⟨c, rfl, q⟩ := z
    exact ⟨c, rfl, q⟩
  unfold Builtin.«object.__ne__»; repeat (first
    | with_reducible refine wpAny_cRoomFor hcl ?_
    | (refine wpAny_bind (m := callSpecialIfBound? (.ref x) (Str.ofString "__eq__") [b]) (wpAny_mono ask (fun r s' z => ?_) fun _ _ z => z); obtain ⟨c, rfl, q⟩ := z)
    | exact q
    | exact wpAny_pure q
    | (refine wpAny_bind (m := truthy (.bool _)) (wpAny_truthy_bool ?_))
    | wp_step)
theorem try_ne {Q : Value → Shared → Prop} (hcl : A.units + 1 < cLine) (kin : K.In s.heap) (I : PySem.W.InstAt s.heap x ox C od) (hm : PySem.W.mroIn K C (.type "object") = some true) (hn : PySem.W.findIn K (.ref C) "__ne__" = some (some (.builtin "object.__ne__")))
    (he : PySem.W.findIn K (.ref C) "__eq__" = some (some (.ref f))) (hf : PySem.W.isFn K (.ref f) = true)
    (h : wpAny (model prog w) A.in1 (call (.ref f) [.ref x, b]) (fun v s' => ∃ c, v = .bool c ∧ Q (.bool (!c)) s') E s) : wpAny (model prog w) A (tryCompare (.ref x) "__ne__" b) (fun r s' => ∃ v, r = some v ∧ Q v s') E s := by
  have go : wpAny (model prog w) A (call (.builtin "object.__ne__") [.ref x, b]) (fun v s' => ∃ c, v = .bool c ∧ Q v s') E s := by
    refine wpAny_call (codeAny_call_builtin F.cmp_object.ne.plain F.cmpEntry_ne (PySem.W.check_slot F.cmpKind_ne F.cmpSplit_ne (I.type.andThen (PySem.W.looks_mroIn kin hm)) (F.cmpArgs_ne _ _) ?_))
    refine ne_entry (A := A.in1) hcl kin I he hf (wpAny_mono h (fun v s' z => ?_) fun _ _ z => z)
    obtain ⟨c, rfl, q⟩ := z
    exact ⟨c, rfl, _, rfl, q⟩
  have back : wpAny (model prog w) A (call (.builtin "object.__ne__") ([.ref x] ++ [b]) >>= fun v => pure (some v)) (fun r s' => ∃ c, r = some (.bool c) ∧ Q (.bool c) s') E s := by
    refine wpAny_bind (wpAny_mono go (fun v s' z => ?_) fun _ _ z => z)
    obtain ⟨c, rfl, q⟩ := z
    exact wpAny_pure ⟨c, rfl, q⟩
  unfold tryCompare
  have ask : wpAny (model prog w) A (callSpecialIfBound? (.ref x) "__ne__" [b]) (fun r s' => ∃ c, r = some (.bool c) ∧ Q (.bool c) s') E s := by
    unfold callSpecialIfBound? bindSpecialIfBound?
    refine wpAny_holding (wpAny_bind (wpAny_bind (wpAny_bind (I.type.here ((PySem.W.looks_findIn kin hn).here ?_)))))
    refine wpAny_bind (wpAny_askSetting (wpAny_ite ?_)); split
    · exact wpAny_bind (wpAny_of_eq (F.cmp_object.ne.bind _) (wpAny_pure (by exact back)))
    · exact wpAny_tryCatch (wpAny_bind (wpAny_of_eq (F.cmp_object.ne.bind _) (wpAny_pure (by exact back))))
  refine wpAny_bind (wpAny_mono ask (fun r s' z => ?_) fun _ _ z => z)
  obtain ⟨c, rfl, q⟩ := z
  exact wpAny_pure ⟨_, rfl, q⟩
end
section
variable {X : Cx} {CX : CXT} {k : Nat} {f C : Addr} {fd : FuncData} {ps : List Str} {sp : Sp} {E : XK}
structure NeC (K : PySem.W.Frag) (C : Addr) : Prop where
  ne : PySem.W.findIn K (.ref C) "__ne__" = some (some (.builtin "object.__ne__"))
  ob : PySem.W.mroIn K C (.type "object") = some true
def neB (x : Str) (K : PySem.W.Frag) : Bool := He.eqO (PySem.W.findIn K (.ref (He.ga K x)) "__ne__") (some (some (.builtin "object.__ne__"))) && decide (PySem.W.mroIn K (He.ga K x) (.type "object") = some true)
theorem ne_ok {K : PySem.W.Frag} {x : Str} (h : neB x K = true) : NeC K (He.ga K x) := by
  obtain ⟨h1, h2⟩ := He.ba h
  exact ⟨He.eqO_ok h1, of_decide_eq_true h2⟩
/-- the callee runs a unit deeper -/
theorem run_in1 {pz : List (Addr × Obj)} {τ : L2.St} {H : Hp} {s : Shared} {Q : VK} {us : List Value} {vs : List V} (F : FnOk X.prog X.w X.K X.mg X.base CX k f fd ps sp) (hr : Room (k + 1) X.A) (hb : Binds X.K fd ps []) (hx : Passes CX X E)
    (I : Inv X pz τ H s) (r : Vals vs us) (h : sp vs H Q E) : wpAny (model X.prog X.w) X.A.in1 (call (.ref f) us) (EP X pz τ Q) X.xe s := by
  have hn : us.length = ps.length := by rw [← r.length]; exact F.len _ _ _ _ h
  have b := hb s us I.kIn (by rw [List.append_nil]; exact hn)
  rw [List.append_nil] at b
  have hr1 : Room k X.A.in1 := ⟨hr.hd, by have := hr.dp; show X.A.depth + 3 * k + 5 < _; omega, by have := hr.un; show X.A.units + 1 + 16 * k + 200 < _; omega⟩
  refine wpAny_call (codeAny_mono (F.run X.A.in1 X.stack s H ⟨us, []⟩ us vs Q E hr1 I.env0.in1 b r h) fun r s' hj => ?_)
  cases r with
  | error e => exact hx pz τ H s e s' I hj
  | ok fl =>
    cases fl with
    | ret u => exact I.after hj
    | next => exact False.elim hj
    | brk => exact False.elim hj
    | cont => exact False.elim hj
def rNe (C : Addr) (sp : Sp) (E : XK) : R2 := fun x y H Q => ∃ a dx fs i, x = .ref a ∧ H a = some (.ins C dx fs) ∧ y = .int i ∧ sp [x, y] H (fun v H' => ∃ b, v = .bl b ∧ Q (.bl (!b)) H') E
theorem op_neC (F : FnOk X.prog X.w X.K X.mg X.base CX k f fd ps sp) (hr : Room (k + 1) X.A) (hb : Binds X.K fd ps []) (hx : Passes CX X E) (B : FoA.CmpC X.K C f .Eq) (N : NeC X.K C) : OpR X (compareOp .NotEq) (rNe C sp E) := by
  intro pz s τ H x y v u Q I ra ry h
  obtain ⟨a, dx, fs, i, rfl, ea, rfl, q⟩ := h
  cases ra
  obtain ⟨t, rfl⟩ := ry
  obtain ⟨mA, Jx, _⟩ := ins_get I.hok ea
  obtain ⟨od, Jx, _⟩ := Jx.look
  have hcl : X.A.units + 1 < cLine := hu_of hr
  have kin := I.kIn
  have one : wpAny (model X.prog X.w) X.A (tryCompare (.ref a) "__ne__" (.int i t)) (fun r s' => ∃ z, r = some z ∧ EP X pz τ Q z s') X.xe s := by
    refine FoN.try_ne hcl kin Jx N.ob N.ne B.at_ B.fn ?_
    refine wpAny_mono (run_in1 (us := [.ref a, .int i t]) (vs := [.ref a, .int i]) F hr hb hx I (.cons rfl (.cons ⟨t, rfl⟩ .nil)) q) (fun r s' z => ?_) fun _ _ z => z
    obtain ⟨v, H', I', rv, b, rfl, q'⟩ := z
    cases rv
    exact ⟨b, rfl, .bl (!b), H', I', rfl, q'⟩
  show wpAny _ _ (richCompare .NotEq (.ref a) (.int i t)) _ _ _
  have sub := B.nt "int" (by simp)
  unfold richCompare
  simp only [oneThing_ref]
  refine wpAny_holding ?_
  refine wpAny_bind (wpAny_cRoomFor (Nat.lt_of_succ_lt hcl) ?_)
  refine wpAny_bind (Jx.type.here ?_)
  refine wpAny_bind ((PySem.W.Looks.of_pure (rfl : typeOf (.int i t) = pure (.type "int"))).here ?_)
  rw [if_pos (by simp)]
  refine wpAny_bind ((PySem.W.looks_subIn kin sub).here ?_)
  rw [if_neg Bool.false_ne_true]; refine wpAny_bind (wpAny_mono one (fun r s' z => ?_) fun _ _ z => z)
  obtain ⟨v, rfl, q'⟩ := z
  exact wpAny_pure q'
end
section
variable {K : PySem.W.Frag}
theorem int_add : PySem.W.findIn K (.type "int") (PySem.dunder (Operator.info .Add).2) = some (some (.builtin "int.__add__")) := by kernel_rfl
theorem int_addR : PySem.W.findIn K (.type "int") (dunderR (Operator.info .Add).2) = some (some (.builtin "int.__radd__")) := by kernel_rfl
theorem int_sub : PySem.W.findIn K (.type "int") (PySem.dunder (Operator.info .Sub).2) = some (some (.builtin "int.__sub__")) := by kernel_rfl
theorem int_subR : PySem.W.findIn K (.type "int") (dunderR (Operator.info .Sub).2) = some (some (.builtin "int.__rsub__")) := by kernel_rfl
theorem int_mul : PySem.W.findIn K (.type "int") (PySem.dunder (Operator.info .Mult).2) = some (some (.builtin "int.__mul__")) := by kernel_rfl
theorem int_mulR : PySem.W.findIn K (.type "int") (dunderR (Operator.info .Mult).2) = some (some (.builtin "int.__rmul__")) := by kernel_rfl
end
end FoN

set_option maxHeartbeats 4100000
/-! math.lcm of greater whole numbers. -/
namespace FoL
open PySem PySem.Spec PyProof.Rows L2 PySem.W
theorem log_div {n k : Nat} (h : n < 2 ^ k) (l : k ≤ 13000) : ¬ n.log2 / 30 + 1 > 450 := by
  have z : n.log2 ≤ k := by
    by_cases h0 : n = 0
    · subst h0
      rw [Nat.log2_zero]
      exact Nat.zero_le _
    · exact Nat.le_of_lt ((Nat.log2_lt h0).mpr h)
  omega
/-- lcm(a, b), a and b of at most 6,000 bits -/
def rLcm : List V → Hp → VK → Prop := fun vs H Q => ∃ a b : Int, vs = [.int a, .int b] ∧ a.natAbs < 2 ^ 6000 ∧ b.natAbs < 2 ^ 6000 ∧ Q (.int ((Nat.lcm a.natAbs b.natAbs : Nat) : Int)) H
theorem cr_lcm {X : Cx} : CallR X (.builtin "math.lcm") rLcm := by
  intro pz s τ H vs us Q I r h
  obtain ⟨a, b, rfl, ha, hb, q⟩ := h
  obtain ⟨t, u, rfl⟩ := Vals.int2 r
  have e : (Nat.lcm 1 a.natAbs).lcm b.natAbs = Nat.lcm a.natAbs b.natAbs := by rw [Nat.lcm_one_left]
  have p1 : 1 < 2 ^ 6000 := Nat.one_lt_two_pow (by decide)
  have hm : Nat.lcm a.natAbs b.natAbs < 2 ^ 12000 := by
    have z : Nat.lcm a.natAbs b.natAbs ≤ a.natAbs * b.natAbs := by
      unfold Nat.lcm
      exact Nat.div_le_self _ _
    have z2 : a.natAbs * b.natAbs < 2 ^ 6000 * 2 ^ 6000 := Nat.mul_lt_mul'' ha hb
    rw [← Nat.pow_add] at z2
    exact Nat.lt_of_le_of_lt z z2
  have m1 : max 1 a.natAbs < 2 ^ 6000 := Nat.max_lt.mpr ⟨p1, ha⟩
  have m2 : max a.natAbs b.natAbs < 2 ^ 6000 := Nat.max_lt.mpr ⟨ha, hb⟩
  have hsz : ((((Nat.lcm 1 a.natAbs).lcm b.natAbs : Nat) : Int)).natAbs.log2 < bitsLine := by
    rw [e, Int.natAbs_natCast]
    have z : (Nat.lcm a.natAbs b.natAbs).log2 ≤ 12000 := by
      by_cases h0 : Nat.lcm a.natAbs b.natAbs = 0
      · rw [h0, Nat.log2_zero]
        exact Nat.zero_le _
      · exact Nat.le_of_lt ((Nat.log2_lt h0).mpr hm)
    exact Nat.lt_of_le_of_lt z (by decide +kernel)
  refine call_function_meets MGF.kind_lcm MGF.plain_lcm MGF.entry_lcm (MGF.args_lcm _ _) (mg_run_lcm a t b u (log_div m1 (by decide)) (log_div m2 (by decide)) hsz).meets ?_
  rw [e]
  exact ⟨.int _, H, I.tok _, ⟨_, rfl⟩, q⟩
section
variable {X : Cx} {CX : CXT} {k : Nat} {f C D : Addr} {fd : FuncData} {ps : List Str} {sp : Sp} {E : XK}
/-- len(a), a of an own class with its own __len__ -/
def rLenO (C : Addr) (sp : Sp) (E : XK) : List V → Hp → VK → Prop := fun xs H Q => ∃ a dx fs, xs = [.ref a] ∧ H a = some (.ins C dx fs) ∧ sp [.ref a] H (fun v H' => ∃ n : Nat, v = .int n ∧ (n : Int) < 2 ^ 63 ∧ Q (.int n) H') E
theorem call_lenO (F : FnOk X.prog X.w X.K X.mg X.base CX k f fd ps sp) (hr : Room (k + 1) X.A) (hb : Binds X.K fd ps []) (hx : Passes CX X E) (h1 : PySem.W.findIn X.K (.ref C) "__len__" = some (some (.ref f))) (h2 : PySem.W.isFn X.K (.ref f) = true) :
    CallR X (.builtin "len") (rLenO C sp E) := by
  intro pz s τ H xs us Q I r h
  obtain ⟨a, dx, fs, rfl, ea, q⟩ := h
  obtain ⟨u, rfl, ru⟩ := vals1 r
  cases ru
  obtain ⟨mA, J, _⟩ := ins_get I.hok ea
  obtain ⟨od, J, _⟩ := J.look
  obtain ⟨m, hF⟩ := I.fr
  refine PySem.W.len_K hF I.ok.mod.kin J h1 h2 ?_
  refine wpAny_mono (FoN.run_in1 (us := [.ref a]) (vs := [.ref a]) F hr hb hx I (.cons rfl .nil) q) (fun v s' z => ?_) fun _ _ z => z
  obtain ⟨y, H', I', rv, n, rfl, n1, q'⟩ := z
  obtain ⟨t, rfl⟩ := rv
  exact ⟨⟨by omega, n1⟩, .int n, H', I'.tok _, ⟨_, rfl⟩, q'⟩
/-- a == b by an own method, b an object of another own class -/
def rCmpO (C D : Addr) (sp : Sp) (E : XK) : R2 := fun x y H Q => ∃ a dx fs b dy gs, x = .ref a ∧ H a = some (.ins C dx fs) ∧ y = .ref b ∧ H b = some (.ins D dy gs) ∧ sp [x, y] H Q E
theorem op_ownO {op : CmpOp} (F : FnOk X.prog X.w X.K X.mg X.base CX k f fd ps sp) (hr : Room k X.A) (hb : Binds X.K fd ps []) (hx : Passes CX X E) (B : FoA.CmpC X.K C f op) (no : PySem.W.subIn X.K (.ref D) (.ref C) = some false)
    (ho : ∀ v u : Value, compareOp op v u = richCompare op v u) : OpR X (compareOp op) (rCmpO C D sp E) := by
  intro pz s τ H x y v u Q I rx ry h
  obtain ⟨a, dx, fs, b, dy, gs, rfl, ea, rfl, eb, q⟩ := h
  cases rx
  cases ry
  rw [ho]
  obtain ⟨mA, J, _⟩ := ins_get I.hok ea
  obtain ⟨od, J, _⟩ := J.look
  obtain ⟨mB, J', _⟩ := ins_get I.hok eb
  obtain ⟨od', J', _⟩ := J'.look
  obtain ⟨m, hF⟩ := I.fr
  have go := run_fn (us := [.ref a, .ref b]) (vs := [.ref a, .ref b]) (dvs := []) F hr hb .nil hx I (.cons rfl (.cons rfl .nil)) (by simpa using q)
  have nf : PySem.W.notFirst X.K C (.ref D) = true := by
    unfold PySem.W.notFirst
    rw [no]
    exact Bool.or_eq_true_iff.mpr (.inr (beq_self_eq_true _))
  exact PySem.W.cmp_K hr.units0 hF I.ok.mod.kin J J'.type nf B.at_ B.fn (wpAny_mono go (fun r s' z => FoA.back_ok z) fun _ _ z => z)
end
end FoL

set_option maxHeartbeats 4100000
/-! xs[::-1] of a list. -/
namespace FoV
open PySem PySem.Spec PyProof.Rows L2
theorem fm_congr {α β : Type} {f k : α → Option β} : ∀ {l : List α}, (∀ x ∈ l, f x = k x) → l.filterMap f = l.filterMap k
  | [], _ => rfl
  | x :: l, h => by
    rw [List.filterMap_cons, List.filterMap_cons, h x List.mem_cons_self, fm_congr fun y hy => h y (List.mem_cons_of_mem _ hy)]
theorem all_items {α : Type} : ∀ ys : List α, (List.range ys.length).filterMap (fun i => ys[i]?) = ys
  | [] => rfl
  | y :: ys => by
    rw [List.length_cons, List.range_succ_eq_map, List.filterMap_cons, List.filterMap_map]
    exact congrArg (y :: ·) (all_items ys)
theorem back_items {α : Type} (its : List α) : (List.range its.length).filterMap (fun i => its[its.length - 1 - i]?) = its.reverse := by
  have e : (List.range its.length).filterMap (fun i => its[its.length - 1 - i]?) = (List.range its.length).filterMap (fun i => its.reverse[i]?) := by
    refine fm_congr fun i hi => ?_
    exact (List.getElem?_reverse (List.mem_range.mp hi)).symm
  rw [e]
  have z := all_items its.reverse
  rw [List.length_reverse] at z
  exact z
theorem pick_back (its : List Value) : slicePick its.toArray none none (some (-1)) = its.reverse.toArray := by
  unfold slicePick
  have e : sliceBounds none none (some (-1)) its.toArray.size = (((its.length : Nat) : Int) - 1, -1, -1) := by
    simp [sliceBounds]
  rw [e]
  show (List.filterMap _ (sliceRange (((its.length : Nat) : Int) - 1) (-1) (-1))).toArray = _
  congr 1
  have e2 : sliceRange (((its.length : Nat) : Int) - 1) (-1) (-1) = (List.range its.length).map fun i => its.length - 1 - i := by
    unfold sliceRange
    have c : (if (-1 : Int) > 0 then (if ((its.length : Nat) : Int) - 1 < -1 then (-1 - (((its.length : Nat) : Int) - 1) + -1 - 1) / -1 else 0) else (if ((its.length : Nat) : Int) - 1 > -1 then (((its.length : Nat) : Int) - 1 - -1 - -1 - 1) / (- -1) else 0)).toNat = its.length := by
      rw [if_neg (by decide)]
      split
      · rw [show (- -1 : Int) = 1 by decide, Int.ediv_one]
        omega
      · omega
    show (List.range (if (-1 : Int) > 0 then (if ((its.length : Nat) : Int) - 1 < -1 then (-1 - (((its.length : Nat) : Int) - 1) + -1 - 1) / -1 else 0) else (if ((its.length : Nat) : Int) - 1 > -1 then (((its.length : Nat) : Int) - 1 - -1 - -1 - 1) / (- -1) else 0)).toNat).map _ = _
    rw [c]
    refine List.map_congr_left fun i hi => ?_
    have := List.mem_range.mp hi
    omega
  rw [e2, List.filterMap_map]
  have z := back_items its
  refine Eq.trans (fm_congr fun i hi => ?_) z
  simp
def tRevL (K : PySem.W.Frag) (te ts : TE) : TE := fun τ H Q => te τ H fun x H1 => ts τ H1 fun y H2 => y = .int (-1) ∧ ∃ a xs, x = .ref a ∧ SqL K H2 a xs ∧ ∀ p, H2 p = none → Q (.ref p) (upd H2 p (.lst xs.reverse))
section
variable {X : Cx} {e st : Expr} {te ts : TE} {p2 pos : Pos}
theorem pe_revL (he : PE X e te) (hs : PE X st ts) : PE X (.Subscript e (.Slice none none (some st) p2) pos) (tRevL X.K te ts) := by
  refine ⟨fun pz s τ H Q I h => ?_⟩
  refine Subscript_ (thn (he.run pz s τ H _ I h) fun v s1 ⟨x, H1, I1, r1, q1⟩ => ?_)
  refine wpAny_Slice ?_
  rw [evalPart_none, evalPart_some]
  refine wpAny_pure (wpAny_pure (thn (hs.run pz s1 τ H1 _ I1 q1) fun w s3 ⟨y, H3, I3, ry, ey, a, xs, ex, hx, q⟩ => ?_))
  subst ey ex
  cases r1
  obtain ⟨t, rfl⟩ := ry
  have I4 : Inv X pz τ H3 { s3 with heap := s3.heap.push { cls := .type "slice", data := .fields #[Value.none, Value.none, .int (-1) t] } } := I3.kept (t' := s3.toks) fun b ob z => Heap.get?_push_of_some _ z
  obtain ⟨its, r, ht, hz⟩ := I4.list hx
  have hn := r.length
  have got : wpAny (model X.prog X.w) X.A (getItem (.ref a) (.ref s3.heap.objs.size)) (EP X pz τ Q) X.xe { s3 with heap := s3.heap.push { cls := .type "slice", data := .fields #[Value.none, Value.none, .int (-1) t] } } := by
    refine wpAny_getItem_list_slice ht.isList (Heap.IsSliceOf.new ..) .none .none (.int (-1) t) (by simp) ?_ (by rw [List.size_toArray] <;> omega)
    rw [pick_back]
    refine ⟨.ref _, _, I4.laid (t' := s3.toks) (o := .lst xs.reverse) (fun b ob z => Heap.get?_push_of_some _ z) (Nat.le_refl _) ?_, rfl, q _ (I4.hok.fresh (Nat.le_refl _))⟩
    exact ⟨by rw [List.length_reverse]; exact hz, its.reverse, 0, r.reverse, Heap.get?_push_size _ rfl⟩
  exact tail_any (ops := [.ref a, .ref s3.heap.objs.size]) ht.isList.typeIs slot_list_getitem.lookup got (by with_unfolding_all rfl)
end
/-- a comprehension over a text's signs -/
theorem lc_str {z : Str} {g : TG} {tt : TT} {te : TE} {vs : List Nat} {τ : L2.St} {H1 : Hp} {D : Addr} {Qd : Hp → Prop} (Pv : Nat → Hp → Prop) (h0 : Pv 0 (upd H1 D (.lst [])))
    (hs : ∀ i c H, z.cps[i]? = some c → Pv i H → g (.str ⟨#[c]⟩) (wipe τ vs) H fun σ2 H2 => wipe σ2 vs = wipe τ vs ∧ tt σ2 H2 fun b H3 =>
      if b = true then te σ2 H3 fun y H4 => ∃ acc, H4 D = some (.lst acc) ∧ acc.length < sizeLine ∧ Pv (i + 1) (upd H4 D (.lst (acc ++ [y]))) else Pv (i + 1) H3) (hd : ∀ H, Pv z.cps.size H → Qd H)  : ∃ W : Nat → Nat → Hp → Prop, (∃ m, W 0 m (upd H1 D (.lst []))) ∧ ∀ i m H, W i m H →
      ((Its z).stop i H ∧ Qd H) ∨ ((Its z).go i H ∧ ∃ Nx : Hp → Prop, (∀ H', Nx H' → ∃ m', m' < m ∧ W (i + 1) m' H') ∧ ∀ x H', (Its z).yld i H x H' → g x (wipe τ vs) H' fun σ2 H2 => wipe σ2 vs = wipe τ vs ∧ tt σ2 H2 fun b H3 => if b = true then te σ2 H3 fun y H4 => ∃ acc, H4 D = some (.lst acc) ∧ acc.length < sizeLine ∧ Nx (upd H4 D (.lst (acc ++ [y]))) else Nx H3) := by
  refine ⟨fun i m H => m = z.cps.size - i ∧ i ≤ z.cps.size ∧ Pv i H, ⟨z.cps.size, by simp, Nat.zero_le _, h0⟩, ?_⟩
  rintro i m H ⟨rfl, hi, p⟩
  by_cases lt : i < z.cps.size
  · refine .inr ⟨lt, Pv (i + 1), fun H' p' => ⟨z.cps.size - (i + 1), by omega, rfl, lt, p'⟩, fun x H' y => ?_⟩
    obtain ⟨e, c, ec, ex⟩ := y
    subst e ex
    exact hs i c _ ec p
  · have e : i = z.cps.size := by omega
    subst e
    exact .inl ⟨Nat.le_refl z.cps.size, hd H p⟩
/-- a list of one-sign texts -/
def chs (l : List Nat) : List PyData := l.map fun c => .str ⟨#[c]⟩
theorem sign_ok : ∀ c : Nat, c < 128 → PyData.canLay0 (.str ⟨#[c]⟩) = true := by decide +kernel
theorem chs_lay : ∀ l : List Nat, (∀ c ∈ l, c < 128) → PyData.canLayAll0 (chs l) = true ∧ PyData.depthAll (chs l) = 0
  | [], _ => ⟨rfl, rfl⟩
  | c :: l, h => by
    obtain ⟨h1, h2⟩ := chs_lay l fun d hd => h d (List.mem_cons_of_mem _ hd)
    constructor
    · show (PyData.canLay0 (.str ⟨#[c]⟩) && PyData.canLayAll0 (chs l)) = true
      rw [sign_ok c (h c List.mem_cons_self), h1]
      rfl
    · show max 0 (PyData.depthAll (chs l)) = 0
      rw [h2]
      rfl
theorem chs_shaped (l : List Nat) (h : ∀ c ∈ l, c < 128) : SeqAt.shaped (.list (chs l)) = true := by
  obtain ⟨h1, h2⟩ := chs_lay l h
  show (PyData.canLayAll0 (chs l) && decide (PyData.depthAll (chs l) + 1 ≤ 64)) = true
  rw [h1, h2]
  rfl
theorem chs_nil (l : List Nat) : PyData.eqv (.list (chs l)) (.list []) = decide (l = []) := by
  cases l with
  | nil => rfl
  | cons c r => rfl
theorem chs_dp {K : PySem.W.Frag} {H : Hp} : ∀ l : List Nat, DpAll K H (l.map fun c => V.str ⟨#[c]⟩) (chs l)
  | [] => .nil
  | c :: l => .cons (.str _) (chs_dp l)
end FoV

/-! Fractions as rational numbers; lists of them without zeros at the end; products of polynomials. Plain mathematics. -/
namespace FoQ
open FoM
/-! ### lowest terms -/
theorem den_pos (r : Rat) : (0 : Int) < r.den := by
  have := r.den_pos
  omega
theorem den_ne (r : Rat) : (r.den : Int) ≠ 0 := by
  have := den_pos r
  omega
theorem fr_rat {u d : Int} (h : d ≠ 0) : frN u d = (Rat.divInt u d).num ∧ frD u d = ((Rat.divInt u d).den : Int) := by
  have e : Rat.divInt (Rat.divInt u d).num (Rat.divInt u d).den = Rat.divInt u d := Rat.num_divInt_den _
  rw [Rat.divInt_eq_divInt_iff (den_ne _) h] at e
  have z := fr_eq (u := u) (d := d) (u' := (Rat.divInt u d).num) (d' := ((Rat.divInt u d).den : Int)) h (den_ne _) (by rw [e])
  have w := fr_low (a := (Rat.divInt u d).num) (b := ((Rat.divInt u d).den : Int)) (den_pos _) (by simpa using (Rat.divInt u d).reduced)
  rw [w.1, w.2] at z
  exact z
theorem fr_of {u d : Int} {r : Rat} (h : d ≠ 0) (e : Rat.divInt u d = r) : frN u d = r.num ∧ frD u d = (r.den : Int) := by
  rw [← e]
  exact fr_rat h
theorem q_add (x z : Rat) : Rat.divInt (x.num * z.den + z.num * x.den) (x.den * z.den) = x + z := by
  rw [← Rat.divInt_add_divInt _ _ (den_ne x) (den_ne z), Rat.num_divInt_den, Rat.num_divInt_den]
theorem q_sub (x z : Rat) : Rat.divInt (x.num * z.den - z.num * x.den) (x.den * z.den) = x - z := by
  rw [← Rat.divInt_sub_divInt _ _ (den_ne x) (den_ne z), Rat.num_divInt_den, Rat.num_divInt_den]
theorem q_mul (x z : Rat) : Rat.divInt (x.num * z.num) (x.den * z.den) = x * z := by
  rw [← Rat.divInt_mul_divInt, Rat.num_divInt_den, Rat.num_divInt_den]
theorem q_neg (x : Rat) : Rat.divInt (-x.num) x.den = -x := by
  rw [← Rat.neg_divInt, Rat.num_divInt_den]
theorem q_div (x z : Rat) : Rat.divInt (x.num * z.den) (x.den * z.num) = x / z := by
  rw [Rat.divInt_eq_div, Rat.intCast_mul, Rat.intCast_mul]
  have e1 : x = (x.num : Rat) / (x.den : Int) := by
    rw [← Rat.divInt_eq_div, Rat.num_divInt_den]
  have e2 : z = (z.num : Rat) / (z.den : Int) := by
    rw [← Rat.divInt_eq_div, Rat.num_divInt_den]
  have d1 : ((x.den : Int) : Rat) ≠ 0 := by
    intro h
    exact den_ne x (by exact_mod_cast h)
  have d2 : ((z.den : Int) : Rat) ≠ 0 := by
    intro h
    exact den_ne z (by exact_mod_cast h)
  generalize ((x.den : Int) : Rat) = xd at *
  generalize ((z.den : Int) : Rat) = zd at *
  generalize (x.num : Rat) = xn at *
  generalize (z.num : Rat) = zn at *
  subst e1 e2
  grind
theorem q_int (n : Int) : Rat.divInt n 1 = (n : Rat) := by
  rw [Rat.divInt_eq_div]
  show (n : Rat) / ((1 : Int) : Rat) = n
  rw [show ((1 : Int) : Rat) = 1 from rfl]
  grind
theorem q_eq_iff (x z : Rat) : (x.num = z.num ∧ (x.den : Int) = z.den) ↔ x = z := ⟨fun h => Rat.ext h.1 (by have := h.2; omega), fun h => by subst h; exact ⟨rfl, rfl⟩⟩
theorem q_lt (x z : Rat) : x < z ↔ x.num * z.den < z.num * x.den := Rat.lt_iff x z
theorem q_le (x z : Rat) : x ≤ z ↔ x.num * z.den ≤ z.num * x.den := Rat.le_iff x z
theorem num0 {x : Rat} : x.num = 0 ↔ x = 0 := Rat.num_eq_zero
/-! ### sizes -/
def SzR (n : Nat) (r : Rat) : Prop := Sz n r.num ∧ Sz n r.den
theorem SzR.mono {n m : Nat} {r : Rat} (h : SzR n r) (l : n ≤ m) : SzR m r := ⟨h.1.mono l, h.2.mono l⟩
theorem SzR.divInt {n : Nat} {u d : Int} (hd : d ≠ 0) (h : Sz n u) (g : Sz n d) : SzR n (Rat.divInt u d) := by
  obtain ⟨e1, e2⟩ := fr_rat (u := u) hd
  refine ⟨?_, ?_⟩
  · rw [← e1]
    exact h.le (frN_le hd)
  · rw [← e2]
    exact g.le (frD_le hd)
theorem SzR.add {n m : Nat} {x z : Rat} (h : SzR n x) (g : SzR m z) : SzR (n + m + 1) (x + z) := by
  rw [← q_add]
  refine SzR.divInt (Int.mul_ne_zero (den_ne x) (den_ne z)) ((h.1.mul g.2).add ?_) ((h.2.mul g.2).mono (Nat.le_succ _))
  have := g.1.mul h.2
  rw [Nat.add_comm] at this
  exact this
theorem SzR.sub {n m : Nat} {x z : Rat} (h : SzR n x) (g : SzR m z) : SzR (n + m + 1) (x - z) := by
  rw [← q_sub]
  refine SzR.divInt (Int.mul_ne_zero (den_ne x) (den_ne z)) ((h.1.mul g.2).sub ?_) ((h.2.mul g.2).mono (Nat.le_succ _))
  have := g.1.mul h.2
  rw [Nat.add_comm] at this
  exact this
theorem SzR.mul {n m : Nat} {x z : Rat} (h : SzR n x) (g : SzR m z) : SzR (n + m) (x * z) := by
  rw [← q_mul]
  exact SzR.divInt (Int.mul_ne_zero (den_ne x) (den_ne z)) (h.1.mul g.1) (h.2.mul g.2)
theorem SzR.neg {n : Nat} {x : Rat} (h : SzR n x) : SzR n (-x) := by
  rw [← q_neg]
  exact SzR.divInt (den_ne x) h.1.neg h.2
theorem SzR.int {n : Nat} {i : Int} (h : Sz n i) (l : 0 < n) : SzR n (i : Rat) := by
  refine ⟨by rw [Rat.num_intCast]; exact h, ?_⟩
  rw [Rat.den_intCast]
  show (1 : Nat) < 2 ^ n
  exact Nat.one_lt_two_pow (by omega)
theorem SzR.zero {n : Nat} (l : 0 < n) : SzR n 0 := SzR.int (i := 0) (by unfold Sz; exact Nat.two_pow_pos n) l
/-! ### lists without zeros at the end -/
def co (l : List Rat) (n : Nat) : Rat := l.getD n 0
theorem co_nil (n : Nat) : co [] n = 0 := by simp [co]
theorem co_zero (x : Rat) (l : List Rat) : co (x :: l) 0 = x := by simp [co]
theorem co_succ (x : Rat) (l : List Rat) (n : Nat) : co (x :: l) (n + 1) = co l n := by simp [co]
theorem co_some {l : List Rat} {n : Nat} {x : Rat} (h : l[n]? = some x) : co l n = x := by simp [co, List.getD, h]
theorem co_lt {l : List Rat} {n : Nat} (h : n < l.length) : l[n]? = some (co l n) := by simp [co, List.getD, List.getElem?_eq_getElem h]
theorem co_ge {l : List Rat} {n : Nat} (h : l.length ≤ n) : co l n = 0 := by simp [co, List.getD, List.getElem?_eq_none h]
def trim : List Rat → List Rat
  | [] => []
  | x :: l => if x = 0 ∧ trim l = [] then [] else x :: trim l
theorem trim_co : ∀ (l : List Rat) (n : Nat), co (trim l) n = co l n
  | [], _ => rfl
  | x :: l, n => by
    unfold trim
    split
    · rename_i h
      cases n with
      | zero => rw [co_nil, co_zero, h.1]
      | succ n => rw [co_nil, co_succ, ← trim_co l n, h.2, co_nil]
    · cases n with
      | zero => rw [co_zero, co_zero]
      | succ n => rw [co_succ, co_succ, trim_co l n]
theorem trim_nil : ∀ {l : List Rat}, (∀ n, co l n = 0) → trim l = []
  | [], _ => rfl
  | x :: l, h => by
    unfold trim
    rw [if_pos ⟨by have := h 0; rwa [co_zero] at this, trim_nil fun n => by have := h (n + 1); rwa [co_succ] at this⟩]
theorem trim_ext : ∀ {l l' : List Rat}, (∀ n, co l n = co l' n) → trim l = trim l'
  | [], l', h => (trim_nil fun n => by rw [← h n, co_nil]).symm
  | x :: l, [], h => trim_nil fun n => by rw [h n, co_nil]
  | x :: l, y :: l', h => by
    have e0 := h 0
    rw [co_zero, co_zero] at e0
    have e1 := trim_ext (l := l) (l' := l') fun n => by have := h (n + 1); rwa [co_succ, co_succ] at this
    unfold trim
    rw [e0, e1]
theorem trim_self : ∀ {l : List Rat}, (l = [] ∨ co l (l.length - 1) ≠ 0) → trim l = l
  | [], _ => rfl
  | x :: l, h => by
    have h := h.resolve_left (by simp)
    unfold trim
    cases l with
    | nil =>
      rw [if_neg (fun z => h (by simpa [co] using z.1))]
      rfl
    | cons y l =>
      have e := trim_self (l := y :: l) (.inr (by
        have : co (x :: y :: l) ((x :: y :: l).length - 1) = co (y :: l) ((y :: l).length - 1) := by
          show co (x :: y :: l) (l.length + 1) = co (y :: l) l.length
          rw [co_succ]
        rw [← this]
        exact h))
      rw [if_neg (fun z => by rw [e] at z; exact absurd z.2 (by simp)), e]
theorem co_take (l : List Rat) (k n : Nat) : co (l.take k) n = if n < k then co l n else 0 := by
  by_cases h : n < k
  · rw [if_pos h]
    simp [co, List.getD, List.getElem?_take, h]
  · rw [if_neg h]
    simp [co, List.getD, List.getElem?_take, h]
/-- what a loop from the end leaves -/
theorem trim_take {l : List Rat} {k : Nat} (hk : k ≤ l.length) (hz : ∀ n, k ≤ n → co l n = 0) (hl : k = 0 ∨ co l (k - 1) ≠ 0) : trim l = l.take k := by
  have e : trim l = trim (l.take k) := trim_ext fun n => by
    rw [co_take]
    split
    · rfl
    · exact hz n (by omega)
  rw [e]
  refine trim_self ?_
  rcases hl with rfl | hl
  · exact .inl (by simp)
  · by_cases h0 : k = 0
    · subst h0
      exact .inl (by simp)
    refine .inr ?_
    rw [List.length_take, Nat.min_eq_left hk, co_take, if_pos (by omega)]
    exact hl
theorem trim_idem (l : List Rat) : trim (trim l) = trim l := trim_ext (trim_co l)
theorem trim_len : ∀ l : List Rat, (trim l).length ≤ l.length
  | [] => Nat.le_refl _
  | x :: l => by
    unfold trim
    split
    · simp
    · simp only [List.length_cons]
      have := trim_len l
      omega
theorem trim_eq (l : List Rat) : trim l = l.take (trim l).length := by
  refine List.ext_getElem? fun n => ?_
  rw [List.getElem?_take]
  by_cases h : n < (trim l).length
  · rw [if_pos h, co_lt h, trim_co]
    have := trim_len l
    rw [co_lt (by omega)]
  · rw [if_neg h, List.getElem?_eq_none (by omega)]
theorem trim_mem {l : List Rat} {x : Rat} (h : x ∈ trim l) : x ∈ l := by
  rw [trim_eq] at h
  exact List.mem_of_mem_take h
theorem trim_last {l : List Rat} : trim l = [] ∨ co l ((trim l).length - 1) ≠ 0 := by
  induction l with
  | nil => exact .inl rfl
  | cons x l ih =>
    unfold trim
    split
    · exact .inl rfl
    · rename_i h
      refine .inr ?_
      simp only [List.length_cons, Nat.add_sub_cancel]
      cases e : trim l with
      | nil =>
        rw [List.length_nil, co_zero]
        exact fun z => h ⟨z, e⟩
      | cons y r =>
        rw [List.length_cons, co_succ]
        have z := ih.resolve_left (by rw [e]; simp)
        rw [e] at z
        exact z
/-! ### products -/
/-- the n-th coefficient of the product, from the first j coefficients of f -/
def S (f g : Nat → Rat) : Nat → Nat → Rat
  | 0, _ => 0
  | j + 1, n => S f g j n + (if j ≤ n then f j * g (n - j) else 0)
/-- and the first k products of the next one -/
def SP (f g : Nat → Rat) (j k n : Nat) : Rat := S f g j n + (if j ≤ n ∧ n - j < k then f j * g (n - j) else 0)
theorem SP_zero (f g : Nat → Rat) (j n : Nat) : SP f g j 0 n = S f g j n := by
  unfold SP
  rw [if_neg (by omega)]
  grind
theorem SP_done {f g : Nat → Rat} {j k n : Nat} (h : ∀ m, k ≤ m → g m = 0) : SP f g j k n = S f g (j + 1) n := by
  unfold SP
  show _ = S f g j n + _
  congr 1
  by_cases h1 : j ≤ n
  · rw [if_pos h1]
    by_cases h2 : n - j < k
    · rw [if_pos ⟨h1, h2⟩]
    · rw [if_neg (fun z => h2 z.2), h _ (by omega)]
      grind
  · rw [if_neg h1, if_neg (fun z => h1 z.1)]
theorem SP_here (f g : Nat → Rat) (j k : Nat) : SP f g j (k + 1) (j + k) = SP f g j k (j + k) + f j * g k := by
  unfold SP
  rw [if_pos ⟨by omega, by omega⟩, if_neg (by omega)]
  rw [show j + k - j = k by omega]
  grind
theorem SP_else {f g : Nat → Rat} {j k n : Nat} (h : n ≠ j + k) : SP f g j (k + 1) n = SP f g j k n := by
  unfold SP
  congr 1
  by_cases h1 : j ≤ n ∧ n - j < k
  · rw [if_pos h1, if_pos ⟨h1.1, by omega⟩]
  · rw [if_neg h1, if_neg (by omega)]
theorem S_more {f g : Nat → Rat} {j n : Nat} (h : ∀ i, j ≤ i → f i = 0) : ∀ k, S f g (j + k) n = S f g j n
  | 0 => rfl
  | k + 1 => by
    show S f g (j + k) n + (if j + k ≤ n then f (j + k) * g (n - (j + k)) else 0) = _
    rw [S_more h k, h (j + k) (by omega)]
    split <;> grind
theorem S_congr {f g f' g' : Nat → Rat} (h1 : ∀ i, f i = f' i) (h2 : ∀ i, g i = g' i) : ∀ j n, S f g j n = S f' g' j n
  | 0, _ => rfl
  | j + 1, n => by
    show S f g j n + _ = S f' g' j n + _
    rw [S_congr h1 h2 j n, h1 j, h2 (n - j)]
theorem S_far {f g : Nat → Rat} {m : Nat} (hg : ∀ i, m ≤ i → g i = 0) : ∀ j n, j + m ≤ n + 1 → S f g j n = 0
  | 0, _, _ => rfl
  | j + 1, n, h => by
    show S f g j n + _ = 0
    rw [S_far hg j n (by omega)]
    split
    · rw [hg (n - j) (by omega)]
      grind
    · grind
/-- the product's coefficients -/
def prod (xs ys : List Rat) : List Rat := trim ((List.range (xs.length + ys.length)).map (S (co xs) (co ys) xs.length))
theorem co_map {f : Nat → Rat} {m n : Nat} : co ((List.range m).map f) n = if n < m then f n else 0 := by
  by_cases h : n < m
  · rw [if_pos h]
    simp [co, List.getD, h]
  · rw [if_neg h]
    simp [co, List.getD, h]
theorem prod_co (xs ys : List Rat) (n : Nat) : co (prod xs ys) n = S (co xs) (co ys) xs.length n := by
  unfold prod
  rw [trim_co, co_map]
  split
  · rfl
  · rw [S_far (m := ys.length) (fun i hi => co_ge hi) _ _ (by omega)]
/-- a list that holds them all -/
theorem prod_of {xs ys us vs l : List Rat} (hx : ∀ n, co xs n = co us n) (hy : ∀ n, co ys n = co vs n) (h : ∀ n, co l n = S (co us) (co vs) us.length n) : trim l = prod xs ys := by
  unfold prod
  refine trim_ext fun n => ?_
  rw [h n, co_map]
  have e : S (co us) (co vs) us.length n = S (co xs) (co ys) xs.length n := by
    rw [S_congr (fun i => (hx i).symm) (fun i => (hy i).symm)]
    rcases Nat.le_total xs.length us.length with z | z
    · have := S_more (f := co xs) (g := co ys) (j := xs.length) (n := n) (fun i hi => co_ge hi) (us.length - xs.length)
      rw [show xs.length + (us.length - xs.length) = us.length by omega] at this
      exact this
    · have := S_more (f := co xs) (g := co ys) (j := us.length) (n := n) (fun i hi => by rw [hx]; exact co_ge hi) (xs.length - us.length)
      rw [show us.length + (xs.length - us.length) = xs.length by omega] at this
      exact this.symm
  rw [e]
  split
  · rfl
  · exact S_far (m := ys.length) (fun i hi => co_ge hi) _ _ (by omega)
end FoQ

/-! Common denominators; products by whole numbers; values of polynomials. Plain mathematics. -/
namespace FoQ
open FoM
def AllSz' (n : Nat) (l : List Rat) : Prop := ∀ i, SzR n (co l i)
/-! ### one denominator for all -/
def lcmD (l : List Rat) : Nat := l.foldl (fun b r => Nat.lcm b r.den) 1
theorem lcmD_snoc (l : List Rat) (r : Rat) : lcmD (l ++ [r]) = Nat.lcm (lcmD l) r.den := by
  unfold lcmD
  rw [List.foldl_append]
  rfl
theorem take_snoc {l : List Rat} {i : Nat} (h : i < l.length) : l.take (i + 1) = l.take i ++ [co l i] := by
  rw [List.take_add_one, co_lt h]
  rfl
theorem lcmD_take {l : List Rat} {i : Nat} (h : i < l.length) : lcmD (l.take (i + 1)) = Nat.lcm (lcmD (l.take i)) (co l i).den := by
  rw [take_snoc h, lcmD_snoc]
theorem lcmD_ind {l : List Rat} {p : Nat → Prop} (h0 : p 1) (hs : ∀ i b, i < l.length → p b → p (Nat.lcm b (co l i).den)) : ∀ i, i ≤ l.length → p (lcmD (l.take i))
  | 0, _ => by simpa [lcmD] using h0
  | i + 1, h => by
    rw [lcmD_take (by omega)]
    exact hs i _ (by omega) (lcmD_ind h0 hs i (by omega))
theorem lcmD_pos (l : List Rat) : 0 < lcmD l := by
  have := lcmD_ind (l := l) (p := fun b => 0 < b) (by decide) (fun i b _ hb => Nat.lcm_pos hb (co l i).den_pos) l.length (Nat.le_refl _)
  rwa [List.take_length] at this
theorem lcmD_pos' (l : List Rat) (i : Nat) : 0 < lcmD (l.take i) := lcmD_pos _
theorem lcmD_dvd {l : List Rat} {i : Nat} (h : i < l.length) : (co l i).den ∣ lcmD l := by
  have key : ∀ k, k ≤ l.length → i < k → (co l i).den ∣ lcmD (l.take k) := by
    intro k
    induction k with
    | zero => intro _ h; omega
    | succ k ih =>
      intro hk hi
      rw [lcmD_take (by omega)]
      by_cases c : i = k
      · subst c
        exact Nat.dvd_lcm_right _ _
      · exact Nat.dvd_trans (ih (by omega) (by omega)) (Nat.dvd_lcm_left _ _)
  have := key l.length (Nat.le_refl _) h
  rwa [List.take_length] at this
theorem lcm_sz {n m a b : Nat} (h : Sz n (a : Int)) (g : Sz m (b : Int)) : Sz (n + m) ((Nat.lcm a b : Nat) : Int) := by
  have z : Nat.lcm a b ≤ a * b := by
    unfold Nat.lcm
    exact Nat.div_le_self _ _
  refine Sz.le (h.mul g) ?_
  rw [Int.natAbs_natCast, ← Int.natCast_mul, Int.natAbs_natCast]
  exact z
theorem lcmD_sz {n : Nat} {l : List Rat} (h : ∀ i, SzR n (co l i)) : ∀ i, i ≤ l.length → Sz (n * i + 1) ((lcmD (l.take i) : Nat) : Int)
  | 0, _ => by
    simp [lcmD, Sz]
  | i + 1, hi => by
    rw [lcmD_take (by omega)]
    have := lcm_sz (lcmD_sz h i (by omega)) (h i).2
    rw [show n * i + 1 + n = n * (i + 1) + 1 by rw [Nat.mul_add]; omega] at this
    exact this
/-- a fraction, times a whole number that its denominator divides -/
theorem whole_eq {r : Rat} {M : Nat} (h : r.den ∣ M) : ((r.num * ((M : Int).fdiv (r.den : Int)) : Int) : Rat) = r * (M : Int) := by
  obtain ⟨k, rfl⟩ := h
  have e : (((r.den * k : Nat) : Int)).fdiv (r.den : Int) = (k : Int) := by
    rw [Int.natCast_mul, Int.mul_comm]
    exact Int.mul_fdiv_cancel _ (den_ne r)
  rw [e]
  have e1 : r = (r.num : Rat) / ((r.den : Int) : Rat) := by
    rw [← Rat.divInt_eq_div, Rat.num_divInt_den]
  have d1 : ((r.den : Int) : Rat) ≠ 0 := by
    intro z
    exact den_ne r (by exact_mod_cast z)
  rw [Int.natCast_mul, Rat.intCast_mul, Rat.intCast_mul]
  generalize ((k : Int) : Rat) = kk at *
  generalize hD : ((r.den : Int) : Rat) = D at *
  generalize hN : (r.num : Rat) = N at *
  rw [e1]
  grind
theorem whole_sz {n m : Nat} {r : Rat} {M : Nat} (h : SzR n r) (g : Sz m (M : Int)) : Sz (n + m) (r.num * ((M : Int).fdiv (r.den : Int))) := by
  refine h.1.mul (Sz.le g ?_)
  rw [Int.fdiv_eq_ediv_of_nonneg _ (by omega)]
  have z : ((M : Int) / (r.den : Int)) = ((M / r.den : Nat) : Int) := by rw [Int.natCast_ediv]
  rw [z, Int.natAbs_natCast, Int.natAbs_natCast]
  exact Nat.div_le_self _ _
theorem fdiv_whole {M d : Nat} : ((M : Int).fdiv (d : Int)) = ((M / d : Nat) : Int) := by
  rw [Int.fdiv_eq_ediv_of_nonneg _ (by omega), Int.natCast_ediv]
/-! ### whole coefficients -/
def ci (xs : List Int) (i : Nat) : Rat := ((xs.getD i 0 : Int) : Rat)
theorem ci_ge {xs : List Int} {i : Nat} (h : xs.length ≤ i) : ci xs i = 0 := by
  unfold ci
  rw [List.getD_eq_getElem?_getD, List.getElem?_eq_none h]
  rfl
theorem S_scale (a b : Rat) (f g : Nat → Rat) : ∀ j n, S (fun i => f i * a) (fun i => g i * b) j n = S f g j n * (a * b)
  | 0, n => by
    show (0 : Rat) = 0 * (a * b)
    grind
  | j + 1, n => by
    show S _ _ j n + _ = (S f g j n + _) * (a * b)
    rw [S_scale a b f g j n]
    split <;> grind
theorem S_zero {f g : Nat → Rat} (h : ∀ i, g i = 0) : ∀ j n, S f g j n = 0
  | 0, _ => rfl
  | j + 1, n => by
    show S f g j n + (if j ≤ n then f j * g (n - j) else 0) = 0
    rw [S_zero h j n, h]
    split <;> grind
theorem ci_set {cs : List Int} {i n : Nat} {v : Int} (h : i < cs.length) : ci (cs.set i v) n = if n = i then (v : Rat) else ci cs n := by
  unfold ci
  rw [List.getD_eq_getElem?_getD, List.getD_eq_getElem?_getD, List.getElem?_set]
  by_cases e : i = n
  · subst e
    rw [if_pos rfl, if_pos h, if_pos rfl]
    rfl
  · rw [if_neg e, if_neg (Ne.symm e)]
theorem getD_set {cs : List Int} {i n : Nat} {v : Int} (h : i < cs.length) : (cs.set i v).getD n 0 = if n = i then v else cs.getD n 0 := by
  rw [List.getD_eq_getElem?_getD, List.getD_eq_getElem?_getD, List.getElem?_set]
  by_cases e : i = n
  · subst e
    rw [if_pos rfl, if_pos h, if_pos rfl]
    rfl
  · rw [if_neg e, if_neg (Ne.symm e)]
theorem ci_rep (n m : Nat) : ci (List.replicate m 0) n = 0 := by
  unfold ci
  have : (List.replicate m (0 : Int)).getD n 0 = 0 := by
    rw [List.getD_eq_getElem?_getD, List.getElem?_replicate]
    split <;> rfl
  rw [this]
  rfl
/-- and divided by it again -/
theorem divInt_whole {c : Int} {s : Rat} {M T : Nat} (hM : 0 < M) (hT : 0 < T) (h : (c : Rat) = s * ((M : Int) * (T : Int))) : Rat.divInt c ((M : Int) * (T : Int)) = s := by
  rw [Rat.divInt_eq_div, h, Rat.intCast_mul]
  have m0 : ((M : Int) : Rat) ≠ 0 := by
    intro z
    have : (M : Int) = 0 := by exact_mod_cast z
    omega
  have t0 : ((T : Int) : Rat) ≠ 0 := by
    intro z
    have : (T : Int) = 0 := by exact_mod_cast z
    omega
  generalize ((M : Int) : Rat) = m at *
  generalize ((T : Int) : Rat) = t at *
  grind
/-! ### values -/
def hor (x : Rat) : List Rat → Rat
  | [] => 0
  | c :: l => hor x l * x + c
theorem hor_trim (x : Rat) : ∀ l : List Rat, hor x (trim l) = hor x l
  | [] => rfl
  | c :: l => by
    unfold trim
    split
    · rename_i h
      have z := hor_trim x l
      rw [h.2] at z
      show (0 : Rat) = hor x l * x + c
      rw [← z, h.1]
      show (0 : Rat) = 0 * x + 0
      grind
    · show hor x (trim l) * x + c = hor x l * x + c
      rw [hor_trim x l]
theorem hor_drop {x : Rat} {l : List Rat} {i : Nat} (h : i < l.length) : hor x (l.drop i) = hor x (l.drop (i + 1)) * x + co l i := by
  rw [List.drop_eq_getElem_cons h]
  show hor x (l.drop (i + 1)) * x + l[i] = _
  have := co_lt h
  rw [List.getElem?_eq_getElem h] at this
  rw [Option.some.inj this]
theorem hor_sz {n m : Nat} {x : Rat} {l : List Rat} (h : ∀ i, SzR n (co l i)) (g : SzR m x) : ∀ k, k ≤ l.length → SzR ((n + m + 1) * k + 1) (hor x (l.drop (l.length - k)))
  | 0, _ => by
    rw [Nat.sub_zero, List.drop_length]
    exact SzR.zero (by omega)
  | k + 1, hk => by
    rw [hor_drop (by omega), show l.length - (k + 1) + 1 = l.length - k by omega]
    have := ((hor_sz h g k (by omega)).mul g).add (h (l.length - (k + 1)))
    rw [show (n + m + 1) * k + 1 + m + n + 1 = (n + m + 1) * (k + 1) + 1 by rw [Nat.mul_add]; omega] at this
    exact this
end FoQ

set_option maxHeartbeats 4100000
/-! A list comprehension whose step may raise (a call in it). -/
namespace FoE
open PySem PySem.Spec PyProof.Rows L2
theorem note_frame {e : Value} {a b : Env} (h : a.frame = b.frame) : noteFrame e a = noteFrame e b := by
  unfold noteFrame PySem.frameOf
  simp only [h]
/-- what is left to do behind the block, whose names stand in ce -/
def After (M : Model) (A : Around) (E : Value → Shared → Prop) (u? : Option (Value → Sem Unit)) (R : Value → Shared → Prop) (l : Value) (ce : Env) : Result → Shared → Prop := fun r t =>
  match r, u? with
  | .ok _, none => ∃ m, t.heap.Ns ce.locals m ∧ ∀ g, Heap.SameBut ce.locals t.heap g → R l { t with heap := g }
  | .ok _, some u => wpAny M A (u l) (fun _ t' => ∃ m, t'.heap.Ns ce.locals m ∧ ∀ g, Heap.SameBut ce.locals t'.heap g → R .none { t' with heap := g }) E t
  | .error x, _ => ∃ m, t.heap.Ns ce.locals m ∧ ∀ g, Heap.SameBut ce.locals t.heap g → wpAny M A (PySem.passOn "comprehension.variables-let-go" x ce : Sem Value) R E { t with heap := g }
section
variable {M : Model} {A : Around} {E : Value → Shared → Prop} {t : Shared} {env : Env}
theorem comp_all {e : Expr} {sc : Scope} {env : Env} {pos : Pos} {newAcc first : Sem Value} {c : Comprehension} {cs : List Comprehension} {cl : List (Str × Addr)} {u? : Option (Value → Sem Unit)} {R : Value → Shared → Prop}
    (h1 : clausesOf e = c :: cs) (h2 : ∀ x, foldedSetIterable c.iter env x = pure x) (h3 : closureFor sc env = pure cl)
    (h4 : sc.kind = .function) (h5 : ∀ x ∈ sc.names, x.2 = .local → sc.names.lookup x.1 = some .local)
    (go : wpAny M A first (fun x s1 => wpAny M A (pyIter x) (fun it s2 => wpAny M A newAcc (fun l s3 =>
      wpAny M A (newFunctionEnv sc env.globals cl [] env.qual none .none (some env)) (fun ce s4 =>
        codeAny M A (.compStart e 0 it l { ce with scope := relabel sc env }) (After M A E u? R l { ce with scope := relabel sc env }) s4) E s3) E s2) E s1) E t) :
    wpAny M A (comprehension e sc env pos newAcc false first u?) R E t := by
  unfold comprehension
  rw [h3, h1]
  refine wpAny_bind (wpAny_mono go (fun x s1 g1 => wpAny_bind (wpAny_standAt (wpAny_bind (wpAny_of_eq (h2 x) (wpAny_bind (wpAny_holding (wpAny_mono g1 (fun it s2 g2 => wpAny_standIf (wpAny_bind (wpAny_mono g2 (fun l s3 g3 => wpAny_bind (wpAny_pure (wpAny_bind (wpAny_mono g3 (fun ce s4 g4 => ?_) fun _ _ z => z)))) fun _ _ z => z))) fun _ _ z => z))))))) fun _ _ z => z)
  dsimp only
  have v1 : ∀ x ∈ (sc.names.filter fun x => (x.2 == .local || x.2 == .cell) && x.1 != (".0" : Str)).reverse, x.2 = .local → Env.kindOf { ce with scope := relabel sc env } x.1 = some .local :=
    fun x hx hl => lookup_relabel_local (h5 x (List.mem_filter.mp (List.mem_reverse.mp hx)).1 hl)
  have v2 : ∀ x ∈ (sc.names.filter fun x => (x.2 == .local || x.2 == .cell) && x.1 != (".0" : Str)).reverse.drop 1 ++ (sc.names.filter fun x => (x.2 == .local || x.2 == .cell) && x.1 != (".0" : Str)).reverse.take 1, x.2 = .local → Env.kindOf { ce with scope := relabel sc env } x.1 = some .local := fun x hx hl =>
    (List.mem_append.mp hx).elim (fun z => v1 x (List.mem_of_mem_drop z) hl) (fun z => v1 x (List.mem_of_mem_take z) hl)
  refine wpAny_holding (wpAny_bind (wpAny_attempt (wpAny_holding (wpAny_run (codeAny_mono g4 fun r s5 q => ?_)))))
  cases r with
  | ok f =>
    cases u? with
    | none =>
      obtain ⟨m, n, q⟩ := q
      exact wpAny_bind (wpAny_holding (wpAny_comp_letGo (cenv := { ce with scope := relabel sc env }) h4 _ s5 m v1 n fun g _ _ sb => wpAny_pure (q g sb)))
    | some u =>
      refine wpAny_bind (wpAny_rule (wpAny_bind (wpAny_holding (wpAny_mono q (fun _ s6 q' => ?_) fun _ _ z => z))))
      obtain ⟨m, n, q'⟩ := q'
      exact wpAny_bind (wpAny_comp_letGo (cenv := { ce with scope := relabel sc env }) h4 _ s6 m v2 n fun g _ _ sb => wpAny_pure (q' g sb))
  | error x =>
    have q' : ∃ m, s5.heap.Ns ce.locals m ∧ ∀ g, Heap.SameBut ce.locals s5.heap g → wpAny M A (PySem.passOn "comprehension.variables-let-go" x { ce with scope := relabel sc env } : Sem Value) R E { s5 with heap := g } := by cases u? <;> exact q
    obtain ⟨m, n, q'⟩ := q'
    exact wpAny_bind (wpAny_holding (wpAny_comp_letGo (cenv := { ce with scope := relabel sc env }) h4 _ s5 m v1 n fun g _ _ sb => q' g sb))
end
/-! ### an exception of a block, whose names stand at C -/
/-- as XE, noted already if b, and without what stands at C -/
def XC (X : Cx) (W : WX) (C : Addr) (b : Bool) (u : Value) (t : Shared) : Prop :=
  ∃ (a : Addr) (B : Heap) (sI : Shared) (pins : List (Addr × Obj)) (σ : L2.St) (H : Hp) (cls : Value) (d : Option Addr),
    u = .ref a ∧ Inv X pins σ H sI ∧ (∀ b o, sI.heap.get? b = some o → b ∉ frs X.stack → B.get? b = some o) ∧ sI.heap.UpToSlots t.heap ∧
      (if b then HandSPX.HeldZ B X.stack a (Zc cls d) X.env.locals t.heap else HandSPX.FlyingZ B X.stack a (Zc cls d) t.heap) ∧ H a = none ∧ t.os = sI.os ∧ AllBare t.gens ∧ W cls d σ H ∧
      B.get? C = none ∧ sI.heap.get? C = none
section
variable {X : Cx} {W : WX} {C : Addr} {u : Value} {t : Shared}
theorem XC.xe (x : XC X W C true u t) : XE X W u t := by
  obtain ⟨a, B, sI, pins, σ, H, cls, d, e, I, nb, up, sky, na, os, ag, w, _, _⟩ := x
  exact ⟨a, B, sI, pins, σ, H, cls, d, e, I, nb, up, .inr (.inr sky), na, os, ag, w⟩
/-- the def's frame notes it -/
theorem XC.noted {ce : Env} {Q : Unit → Shared → Prop} {E : Value → Shared → Prop} (x : XC X W C false u t) (ok : X.A.frames = some X.stack) (hs : X.stack = X.env :: X.outer) (hf : X.env.frame = some X.env.locals) (hce : ce.frame = X.env.frame)
    (hQ : ∀ g, t.heap.UpToSlots g → XC X W C true u { t with heap := g } → Q () { t with heap := g }) : wpAny (model X.prog X.w) X.A (noteFrame u ce) Q E t := by
  obtain ⟨a, B, sI, pins, σ, H, cls, d, rfl, I, nb, up, sky, na, os, ag, w, c1, c2⟩ := x
  rw [note_frame hce]
  have fl : HandSPX.FlyingZ B (X.env :: X.outer) a (Zc cls d) t.heap := by rw [← hs]; exact sky
  refine HandSPX.looks_onZ Zc.steady (by rw [ok, hs]) hf fl fun g hh ug => hQ g ug ?_
  exact ⟨a, B, sI, pins, σ, H, cls, d, rfl, I, nb, up.trans ug, by rw [hs]; exact hh, na, os, ag, w, c1, c2⟩
/-- what stands at C changes -/
theorem frames_but {B h g : Heap} : ∀ {l : List Env}, h.FunFrames B l → (∀ L ∈ frs l, g.get? L = h.get? L) → g.FunFrames B l
  | [], _, _ => trivial
  | env :: l, x, k => by
    obtain ⟨x1, ⟨L, o, x2, x3, x4, x5⟩, x6⟩ := x
    have m : L ∈ frs (env :: l) := List.mem_filterMap.mpr ⟨env, List.mem_cons_self, x2⟩
    refine ⟨x1, ⟨L, o, x2, x3, (k L m).trans x4, x5⟩, frames_but x6 fun b hb => k b ?_⟩
    obtain ⟨e, he, q⟩ := List.mem_filterMap.mp hb
    exact List.mem_filterMap.mpr ⟨e, List.mem_cons_of_mem _ he, q⟩
theorem XC.but {m : Str → Option Value} {g : Heap} (x : XC X W C true u t) (n : t.heap.Ns C m) (sb : Heap.SameBut C t.heap g) (hC : C ∉ frs X.stack) : XC X W C true u { t with heap := g } := by
  obtain ⟨a, B, sI, pins, σ, H, cls, d, rfl, I, nb, up, sky, na, os, ag, w, c1, c2⟩ := x
  obtain ⟨k1, k2, k3, oe, vs, T, oT, ts, he, hz, hd, h1, hnT, hTe, hT, hdT, h3⟩ := (show HandSPX.HeldZ B X.stack a (Zc cls d) X.env.locals t.heap from sky)
  obtain ⟨oC, es, ep, eC, dC, _⟩ := n
  have aC : a ≠ C := fun z => by
    rw [z, eC] at he
    cases he
    rw [dC] at hd
    cases hd
  have tC : T ≠ C := fun z => by
    rw [z, eC] at hT
    cases hT
    rw [dC] at hdT
    cases hdT
  have st : B.StaysIn g := fun b o e => (sb.2 b fun z => by rw [z, c1] at e; cases e).trans (k1 b o e)
  refine ⟨a, B, sI, pins, σ, H, cls, d, rfl, I, nb, fun b o e f => ?_, ?_, na, os, ag, w, c1, c2⟩
  · obtain ⟨sl, q⟩ := up b o e f
    exact ⟨sl, (sb.2 b fun z => by rw [z, c2] at e; cases e).trans q⟩
  · exact ⟨st, k2, frames_but k3 fun L hL => sb.2 L fun z => hC (z ▸ hL), oe, vs, T, oT, ts, (sb.2 a aC).trans he, hz, hd, h1, hnT, hTe, (sb.2 T tC).trans hT, hdT, h3⟩
theorem XC.pass {ce : Env} {R : Value → Shared → Prop} (x : XC X W C true u t) (hf : X.env.frame = some X.env.locals) (hce : ce.frame = X.env.frame) (tk : Takes X W) :
    wpAny (model X.prog X.w) X.A (PySem.passOn "comprehension.variables-let-go" u ce : Sem Value) R X.xe t := by
  obtain ⟨a, B, sI, pins, σ, H, cls, d, rfl, I, nb, up, sky, na, os, ag, w, c1, c2⟩ := x
  have sky : HandSPX.HeldZ B X.stack a (Zc cls d) X.env.locals t.heap := sky
  obtain ⟨k1, k2, k3, oe, vs, T, oT, ts, he, hz, hd, h1, _⟩ := id sky
  unfold PySem.passOn
  refine wpAny_bind (wpAny_field he hd h1 ?_)
  rw [if_neg (show ¬ ((Value.ref T == Value.none) = true) from by simp)]
  have fin : wpAny (model X.prog X.w) X.A (setFlight (.ref a) ce.frame) (fun _ s4 => wpAny (model X.prog X.w) X.A (throw (.ref a) : Sem Value) R X.xe s4) X.xe t := by
    rw [hce, hf]
    refine HandSPX.setFlight_onZ sky fun g hh ug => wpAny_throw (tk _ _ ?_)
    exact ⟨a, B, sI, pins, σ, H, cls, d, rfl, I, nb, up.trans ug, .inr (.inr hh), na, os, ag, w⟩
  first
    | exact wpAny_bind (wpAny_pure (wpAny_bind fin))
    | exact wpAny_bind fin
end

/-- a block's context, with a wish about what is raised in it -/
abbrev blkX (X : Cx) (s : Shared) (H : Hp) (sc : Scope) (ce : Env) (fp : List Addr) (xe : Value → Shared → Prop) : Cx := { X.blk s H sc ce fp with xe := xe }
theorem toX {X : Cx} {s t : Shared} {H H' : Hp} {sc : Scope} {ce : Env} {fp : List Addr} {xe : Value → Shared → Prop} {pz : List (Addr × Obj)} {τ : L2.St} (I : Inv (X.blk s H sc ce fp) pz τ H' t) : Inv (blkX X s H sc ce fp xe) pz τ H' t :=
  ⟨⟨I.ok.mod, I.ok.kind, I.ok.glob, I.ok.blt, I.ok.above, I.ok.inj, I.ok.has, I.ok.cab, I.ok.hd, I.ok.frames, I.ok.stk, I.ok.exf, I.ok.bs, I.ok.bsz, I.ok.noex, I.ok.exfs, I.ok.funs, I.ok.frf⟩, I.os, I.bare, I.base, I.loc, I.cell, I.free, I.freeC, I.pin, I.hok, I.len⟩
theorem ofX {X : Cx} {s t : Shared} {H H' : Hp} {sc : Scope} {ce : Env} {fp : List Addr} {xe : Value → Shared → Prop} {pz : List (Addr × Obj)} {τ : L2.St} (I : Inv (blkX X s H sc ce fp xe) pz τ H' t) : Inv (X.blk s H sc ce fp) pz τ H' t :=
  ⟨⟨I.ok.mod, I.ok.kind, I.ok.glob, I.ok.blt, I.ok.above, I.ok.inj, I.ok.has, I.ok.cab, I.ok.hd, I.ok.frames, I.ok.stk, I.ok.exf, I.ok.bs, I.ok.bsz, I.ok.noex, I.ok.exfs, I.ok.funs, I.ok.frf⟩, I.os, I.bare, I.base, I.loc, I.cell, I.free, I.freeC, I.pin, I.hok, I.len⟩
/-- what a call of a block let out, as the def sees it -/
theorem XC.of_call {X : Cx} {s3 s5 s' : Shared} {H3 H5 : Hp} {sc : Scope} {ce : Env} {fp : List Addr} {pins pz : List (Addr × Obj)} {σ τ : L2.St} {W : WX} {E : XK} {u : Value} (I3 : Inv X pins σ H3 s3) (I : Inv (X.blk s3 H3 sc ce fp) pz τ H5 s5)
    (hfp : ∀ b ∈ fp, FpOk X pins H3 b ∧ b < s3.heap.objs.size) (cL : ce.locals = s3.heap.objs.size) (hW : ∀ cls d H', E cls d H' → W cls d σ H') (c : L2.CX X.prog X.w X.stack H5 s5 E u s') : XC X W s3.heap.objs.size false u s' := by
  obtain ⟨a, B, H', cls, d, rfl, fl, hok, ub, na, os, ag, hE⟩ := c
  obtain ⟨G, g1, g2⟩ := restrict s'.heap fun b => ((B.get? b).isSome && decide (b ≠ s3.heap.objs.size)) || decide (b ∈ frs X.stack)
  have st : B.StaysIn s'.heap := fl.1
  have nC : s3.heap.get? s3.heap.objs.size = none := by
    cases e : s3.heap.get? s3.heap.objs.size with
    | none => rfl
    | some o => exact absurd (Heap.lt_size e) (Nat.lt_irrefl _)
  have hC0 : s3.heap.objs.size ∉ frs X.stack := fun z => by
    obtain ⟨_, o, e, _⟩ := I3.stack.mem z
    rw [nC] at e
    cases e
  have gB : ∀ b o, B.get? b = some o → b ≠ s3.heap.objs.size → G.get? b = some o := fun b o e n => by
    rw [g1 b (by simp [e, n])]
    exact st b o e
  have gF : ∀ b, b ∈ frs X.stack → G.get? b = s'.heap.get? b := fun b hb => g1 b (by simp [hb])
  have og : ∀ b o, G.get? b = some o → s'.heap.get? b = some o ∧ (((B.get? b).isSome = true ∧ b ≠ s3.heap.objs.size) ∨ b ∈ frs X.stack) := fun b o e => by
    cases q : (((B.get? b).isSome && decide (b ≠ s3.heap.objs.size)) || decide (b ∈ frs X.stack)) with
    | false => rw [g2 b q] at e; cases e
    | true =>
      rw [g1 b q] at e
      exact ⟨e, by simpa [Bool.or_eq_true] using q⟩
  have ne3 : ∀ b o, s3.heap.get? b = some o → b ≠ s3.heap.objs.size := fun b o e z => by rw [z, nC] at e; cases e
  have HC : H' s3.heap.objs.size = none := by
    obtain ⟨m, ⟨oC, es, ep, eC, _⟩, _⟩ := I.loc
    have eC : s5.heap.get? ce.locals = some oC := eC
    have z : H5 ce.locals = none := I.free
    rw [cL] at eC z
    exact ub.free _ _ eC z
  have hokG : HOk X.prog X.w H' G := fun b o q => (hok b o q).stay (fun c v hc r => gB c v r fun z => by
    rcases hc with hc | hc
    · rw [hc] at z
      rw [z, HC] at q
      cases q
    · rw [z, HC] at hc
      cases hc) (fun _ r => r) fun _ _ r => r
  have un := I.base
  have un : Un (frs X.stack) fp H3 H5 s3.heap s5.heap := un
  have J : Inv X pins σ H' { s5 with heap := G, gens := s'.gens, drawn := s'.drawn, toks := s'.toks } := by
    refine I3.call' (ch := fp) I.os ⟨fun b o e n h1 h2 => ?_, fun b o e n h1 h2 => ?_, fun b o e n h2 => ?_, fun b o e h2 => ?_, fun b xs q => ub.tups b xs (un.tups b xs q), fun b o v q => ub.frzs b o v (un.frzs b o v q), fun b ps q => ?_⟩ hokG ag
      fun b hb => ⟨(hfp b hb).1.2.2.2.1, (hfp b hb).1.2.1, (hfp b hb).1.2.2.2.2.1, (hfp b hb).1.2.2.2.2.2⟩
    · exact gB b o (ub.keep b o (un.keep b o e n h1 h2) (un.free b o e n h2) h1) (ne3 b o e)
    · obtain ⟨sl, q⟩ := un.slot b o e n h1 h2
      obtain ⟨sl2, q2⟩ := ub.slot b _ q h1
      exact ⟨sl2, by rw [gF b h1]; exact q2⟩
    · by_cases hb : b ∈ frs X.stack
      · obtain ⟨sl, q⟩ := un.slot b o e n hb h2
        exact ub.free b _ q (un.free b o e n h2)
      · exact ub.free b o (un.keep b o e n hb h2) (un.free b o e n h2)
    · obtain ⟨o1, q1⟩ := un.there b o e h2
      by_cases hb : b ∈ frs X.stack
      · obtain ⟨sl, q⟩ := ub.slot b o1 q1 hb
        exact ⟨_, by rw [gF b hb]; exact q⟩
      · obtain ⟨o', q⟩ := ub.there b o1 q1 hb
        exact ⟨o', gB b o' q (ne3 b o e)⟩
    · obtain ⟨m1, q1⟩ := un.tbls b ps q
      obtain ⟨m2, q2⟩ := ub.tbls b _ q1
      exact ⟨m1 ++ m2, by rw [q2, Array.append_assoc]⟩
  refine ⟨a, PySem.W.hideAll B [s3.heap.objs.size], { s5 with heap := G, gens := s'.gens, drawn := s'.drawn, toks := s'.toks }, pins, σ, H', cls, d, rfl, J, fun b o e hb => ?_, Heap.UpToSlots.of_keeps fun b o e => (og b o e).1, ?_, na, os, ag, hW _ _ _ hE, ?_, ?_⟩
  · obtain ⟨e', h⟩ := og b o e
    rcases h with ⟨h, n⟩ | h
    · obtain ⟨o', q⟩ := Option.isSome_iff_exists.mp h
      have z := st b o' q
      rw [e'] at z
      cases z
      exact PySem.W.hideAll_get _ q (by simpa using n)
    · exact absurd h hb
  · obtain ⟨k1, k2, k3, oe, vs, T, oT, ts, he, hz, hd, h1, hnT, hTe, hT, hdT, h3⟩ := fl
    have hid : ∀ {b : Addr}, B.get? b = none → (PySem.W.hideAll B [s3.heap.objs.size]).get? b = none := fun {b} z => by
      cases q : (PySem.W.hideAll B [s3.heap.objs.size]).get? b with
      | none => rfl
      | some o =>
        have y := PySem.W.of_hideAll _ q
        rw [z] at y
        cases y
    exact ⟨fun b o e => st b o (PySem.W.of_hideAll _ e), hid k2, funFrames_none k3 fun L hL => hid (k3.mem hL).1, oe, vs, T, oT, ts, he, hz, hd, h1, hid hnT, hTe, hT, hdT, h3⟩
  · exact PySem.W.hideAll_none _ (by simp)
  · refine g2 _ ?_
    simp [hC0]

/-- [elt for target in iter if ..], a step may raise: te is told what is wished of an exception of it -/
def tLcX (wi : TI) (g : TG) (tt : TT) (te : WX → TE) (vs : List Nat) (W : WX) : TE := fun τ H Q => wi τ H fun J H1 => ∀ D, H1 D = none → ∃ V : Nat → Nat → Hp → Prop, (∃ m, V 0 m (upd H1 D (.lst []))) ∧ ∀ i m H, V i m H →
  (J.stop i H ∧ Q (.ref D) H) ∨ (J.go i H ∧ ∃ Nx : Hp → Prop, (∀ H', Nx H' → ∃ m', m' < m ∧ V (i + 1) m' H') ∧ ∀ x H', J.yld i H x H' → g x (wipe τ vs) H' fun σ2 H2 => wipe σ2 vs = wipe τ vs ∧ tt σ2 H2 fun b H3 =>
    if b = true then te (fun cls d _ H => W cls d τ H) σ2 H3 fun y H4 => ∃ acc, H4 D = some (.lst acc) ∧ acc.length < sizeLine ∧ Nx (upd H4 D (.lst (acc ++ [y]))) else Nx H3)
section
variable {X : Cx} {elt tg iter : Expr} {ifs : List Expr} {scope : Scope} {own : List (Str × Nat)} {pos pos' : Pos} {wi : TI} {g : TG} {tt : TT} {te : WX → TE} {W : WX}
theorem core {pz : List (Addr × Obj)} {s : Shared} {τ : L2.St} {H : Hp} {Q : VK} {u? : Option (Value → Sem Unit)} {Qf : Value → Shared → Prop}
    (hs : X.stack = X.env :: X.outer) (hf : X.env.frame = some X.env.locals) (tk : Takes X W) (hc : X.calm = true) (hN : X.N.Nodup) (I : Inv X pz τ H s) (hi : PI X tg iter wi) (ok : BlkOk X.N X.env.scope scope own)
    (hg : ∀ s H C cl fp xe, PG (blkX X s H scope (compEnvC scope cl C X.env) fp xe) tg g) (ht : ∀ s H C cl fp xe, PTs (blkX X s H scope (compEnvC scope cl C X.env) fp xe) ifs tt)
    (he : ∀ s H C cl fp xe V, (∀ σ, PassesAt (L2.CX X.prog X.w) (blkX X s H scope (compEnvC scope cl C X.env) fp xe) σ (WE V σ)) → PE (blkX X s H scope (compEnvC scope cl C X.env) fp xe) elt (te V)) (hset : ∀ x, foldedSetIterable iter X.env x = pure x)
    (h : tLcX wi g tt te (own.map (·.2)) W τ H Q)
    (hR : ∀ D ce s' m H', Inv X pz τ H' s' → Q (.ref D) H' → s'.heap.Ns ce.locals m → FpOk X pz H' ce.locals → After (model X.prog X.w) X.A X.xe u? Qf (.ref D) ce (.ok .next) s') :
    wpAny (model X.prog X.w) X.A (comprehension (.ListComp elt [⟨tg, iter, ifs, 0⟩] scope pos) scope X.env pos' (newList []) false (eval iter X.env) u?) Qf X.xe s := by
  have hfree : ∀ y ∈ scope.names, y.2 = .free → ∃ c, X.env.cells.lookup y.1 = some c := fun y hy e =>
    (ok.free y hy e).elim (fun k => I.ok.has _ (.inl k)) (fun k => I.ok.has _ (.inr k))
  refine comp_all (u? := u?) rfl hset (closure_ok hfree) ok.kind (fun y hy e => by rw [ok.uniq y hy, e]) (thn (hi.run pz s τ H _ I h) fun xv s1 hx => thn hx fun itv s2 h2 => ?_)
  obtain ⟨it, fp, tn, J, H2, e, I2, T, st2, f2, q⟩ := h2
  subst e
  refine wpAny_newObj_type (newEnv_comp ?_) (by show 0 ≤ sizeLine; decide)
  generalize hD : s2.heap.objs.size = D
  have hDn : H2 D = none := I2.hok.fresh (Nat.le_of_eq hD)
  obtain ⟨V, ⟨m0, w0⟩, turn⟩ := q D hDn
  generalize hs3 : ({ s2 with heap := s2.heap.push { cls := .type "list", data := .seq ([] : List Value).toArray } } : Shared) = s3
  have I3 : Inv X pz τ (upd H2 D (.lst [])) s3 := by
    rw [← hs3]
    exact I2.laid (t' := s2.toks) (fun b o e => Heap.get?_push_of_some _ e) (Nat.le_of_eq hD) ⟨Nat.zero_le _, [], 0, .nil, by rw [← hD]; exact Heap.get?_push_size _ rfl⟩
  have h3 : s3.heap = s2.heap.push { cls := .type "list", data := .seq ([] : List Value).toArray } := by rw [← hs3]
  have f3 : ∀ b ∈ fp, FpOk X pz (upd H2 D (.lst [])) b ∧ b < s3.heap.objs.size := fun b hb => by
    obtain ⟨o, e, _⟩ := T.obj _ _ st2 b hb
    have hlt := Heap.lt_size e
    exact ⟨⟨by rw [upd_ne (by rw [← hD]; exact Nat.ne_of_lt hlt)]; exact (f2 b hb).1, (f2 b hb).2⟩, by rw [h3, Heap.size_push]; exact Nat.lt_succ_of_lt hlt⟩
  have st3 : tn 0 s3.heap := T.keep _ _ _ st2 fun b _ o e => by rw [h3]; exact Heap.get?_push_of_some _ e
  have I4 := block_start I3 ok hN f3
  show codeAny _ _ (.compStart (.ListComp elt [⟨tg, iter, ifs, 0⟩] scope pos) 0 (.ref it) (.ref D) (compEnvC scope (cellsFrom (s3.heap.objs.size + 1) scope.names (cloFrom X.env.cells scope.names [])) s3.heap.objs.size X.env)) (After (model X.prog X.w) X.A X.xe u? Qf (.ref D) (compEnvC scope (cellsFrom (s3.heap.objs.size + 1) scope.names (cloFrom X.env.cells scope.names [])) s3.heap.objs.size X.env)) { s3 with heap := pushCells (s3.heap.push { cls := .type "dict", data := .dict #[] }) scope.names }
  have nfp : ∀ b ∈ fp, (upd H2 D (.lst [])) b = none := fun b hb => (f3 b hb).1.1
  generalize hcl : cellsFrom (s3.heap.objs.size + 1) scope.names (cloFrom X.env.cells scope.names []) = cl at I4 ⊢
  generalize hce : compEnvC scope cl s3.heap.objs.size X.env = ce at I4 ⊢
  have cL : ce.locals = s3.heap.objs.size := by subst hce; rfl
  have cF : ce.frame = X.env.frame := by subst hce; rfl
  generalize hH3 : upd H2 D (.lst []) = H3 at I3 I4 w0 nfp f3
  generalize hs4 : ({ s3 with heap := pushCells (s3.heap.push { cls := .type "dict", data := .dict #[] }) scope.names } : Shared) = s4 at I4 ⊢
  have st4 : tn 0 s4.heap := T.keep _ _ _ st3 fun b _ o e => by rw [← hs4]; exact pushCells_keeps _ _ _ _ (Heap.get?_push_of_some _ e)
  -- what is wished of an exception in the block
  generalize hxe : notedBy (model X.prog X.w) X.A ce (fun e s' => After (model X.prog X.w) X.A X.xe u? Qf (.ref D) ce (.error e) s') = xe
  have pg := hg s3 H3 s3.heap.objs.size cl fp xe
  have pt := ht s3 H3 s3.heap.objs.size cl fp xe
  have pe := he s3 H3 s3.heap.objs.size cl fp xe (fun cls d _ H => W cls d τ H)
  rw [hce] at pg pt pe
  have hC0 : s3.heap.objs.size ∉ frs X.stack := fun z => by
    obtain ⟨_, o, e, _⟩ := I3.stack.mem z
    exact absurd (Heap.lt_size e) (Nat.lt_irrefl _)
  have pe := pe fun σ2 pz2 H5 s5 e s6 I5 c => by
    have x : XC X W s3.heap.objs.size false e s6 := XC.of_call I3 (ofX I5) f3 cL (fun cls d H' h => h) c
    have n6 : ∃ m, s6.heap.Ns ce.locals m := by
      obtain ⟨a, B, H', cls, d, _, fl, _, ub, _⟩ := c
      obtain ⟨m, ⟨oC, es, ep, eC, r⟩, _⟩ := I5.loc
      have eC : s5.heap.get? ce.locals = some oC := eC
      have z : H5 ce.locals = none := I5.free
      exact ⟨m, oC, es, ep, fl.1 _ _ (ub.keep _ _ eC z (by rw [cL]; exact hC0)), r⟩
    show xe e s6
    rw [← hxe]
    refine x.noted I3.ok.frames hs hf cF fun g6 ug x6 => ?_
    obtain ⟨m, oC, es, ep, eC, dC, r⟩ := n6
    obtain ⟨sl, eg⟩ := ug _ _ eC (fun vs z => by rw [dC] at z; cases z)
    have ng : Heap.Ns g6 ce.locals m := ⟨_, es, ep, eg, dC, r⟩
    show ∃ m, Heap.Ns g6 ce.locals m ∧ _
    refine ⟨m, ng, fun g7 sb => ?_⟩
    rw [cL] at ng sb
    exact (XC.but x6 ng sb hC0).pass hf cF tk
  have stat : ∀ {σ' : L2.St} {H' : Hp} {s' : Shared}, Inv (blkX X s3 H3 scope ce fp xe) [] σ' H' s' → (∀ b ∈ fp, H' b = none) → ∀ b ∈ fp, FpOk (blkX X s3 H3 scope ce fp xe) [] H' b := fun {σ' H' s'} I' hn b hb =>
    ⟨hn b hb, (I'.ok.exf b hb).1, I'.ok.exfs b hb, .inl hb, fun x c e => (I'.ok.exf b hb).2 x c e, fun p hp => absurd (show p ∈ ([] : List (Addr × Obj)) ++ [] from hp) (by simp)⟩
  have loop : codeAny (model X.prog X.w) X.A (.compLoop (.ListComp elt [⟨tg, iter, ifs, 0⟩] scope pos) 0 (.ref it) (.ref D) ce) (After (model X.prog X.w) X.A X.xe u? Qf (.ref D) ce) s4 := by
    refine compLoop_any (fun n s' => ∃ i H', Inv (blkX X s3 H3 scope ce fp xe) [] (wipe τ (own.map (·.2))) H' s' ∧ tn i s'.heap ∧ (∀ b ∈ fp, H' b = none) ∧ V i n H') ?_ m0 ⟨0, H3, toX I4, st4, nfp, w0⟩
    rintro n s5 ⟨i, H5, I5, st5, n5, w5⟩
    rw [hxe]
    rcases turn i n H5 w5 with ⟨stop, qq⟩ | ⟨go, Nx, hNx, step⟩
    · refine thnF (T.done (blkX X s3 H3 scope ce fp xe) rfl rfl rfl hc i [] s5 _ H5 (fun _ _ => False) I5 (stat I5 n5) st5 stop) fun r s6 ⟨hr, I6⟩ => ?_
      subst hr
      have I7 : Inv X pz τ H5 s6 := I3.call' (ch := fp) I6.os I6.base I6.hok I6.bare fun b hb => ⟨(f3 b hb).1.2.2.2.1, (f3 b hb).1.2.1, (f3 b hb).1.2.2.2.2.1, (f3 b hb).1.2.2.2.2.2⟩
      obtain ⟨m, hn, _⟩ := I6.loc
      have z : H5 ce.locals = none := I6.free
      exact hR D ce s6 m H5 I7 qq hn (I3.fpOk (by rw [cL]; exact Nat.le_refl _) z)
    · refine thnF (T.item (blkX X s3 H3 scope ce fp xe) rfl rfl rfl hc i [] s5 _ H5 (fun _ _ => False) I5 (stat I5 n5) st5 go) fun r s6 ⟨u, hr, h6⟩ => ?_
      subst hr
      refine thnF h6 fun _ s7 ⟨x, H7, I7, r7, y7, st7, n7⟩ => ?_
      have I7' := I7.pinned (stat I7 n7) (T.obj _ _ st7)
      refine thn (pg.run _ s7 _ H7 x u _ I7' r7 (step x H7 y7)) fun _ s8 ⟨σ8, H8, I8, hw8, q8⟩ => ?_
      refine thn (pt.run _ s8 σ8 H8 _ I8 q8) fun b s9 ⟨H9, I9, q9⟩ => ?_
      have fin : ∀ {s' : Shared} {H' : Hp}, Inv (blkX X s3 H3 scope ce fp xe) ([] ++ pinsAt fp s7.heap) σ8 H' s' → Nx H' → ∃ m, m < n ∧ ∃ i H', Inv (blkX X s3 H3 scope ce fp xe) [] (wipe τ (own.map (·.2))) H' s' ∧ tn i s'.heap ∧ (∀ b ∈ fp, H' b = none) ∧ V i m H' := fun {s' H'} I' nx => by
        obtain ⟨m', hm, w'⟩ := hNx H' nx
        have pin' : ∀ b ∈ fp, ∀ o, s7.heap.get? b = some o → s'.heap.get? b = some o ∧ H' b = none := fun b hb o e =>
          let z := I'.pin (b, o) (List.mem_append_right _ (List.mem_append_right _ (mem_pinsAt hb e)))
          ⟨z.1, z.2.1⟩
        have hl : (wipe τ (own.map (·.2))).length = σ8.length := by rw [← hw8, wipe_length]
        refine ⟨m', hm, i + 1, H', (I'.unpinned (pins := [])).weak hl (fun j v e => ?_), T.keep _ _ _ st7 fun b hb o e => (pin' b hb o e).1, fun b hb => ?_, w'⟩
        · rw [← hw8] at e
          exact (wipe_some e).1
        · obtain ⟨o, e, _⟩ := T.obj _ _ st7 b hb
          exact (pin' b hb o e).2
      cases b with
      | false =>
        simp only [Bool.false_eq_true, if_false] at q9 ⊢
        exact fin I9 q9
      | true =>
        simp only [if_true] at q9 ⊢
        refine thn (pe.run _ s9 σ8 H9 _ I9 q9) fun z s10 ⟨yv, H10, I10, r10, acc, hD10, hz10, nx⟩ => ?_
        exact app_ok (X := blkX X s3 H3 scope ce fp xe) I10 hD10 hz10 r10 fun s11 I11 => fin I11 nx
  exact codeAny_compStart_list loop (T.self X.A 0 _ _ _ st4 loop)
/-- as a value -/
theorem pe_lcX (hs : X.stack = X.env :: X.outer) (hf : X.env.frame = some X.env.locals) (tk : Takes X W) (hc : X.calm = true) (hN : X.N.Nodup) (hi : PI X tg iter wi) (ok : BlkOk X.N X.env.scope scope own)
    (hg : ∀ s H C cl fp xe, PG (blkX X s H scope (compEnvC scope cl C X.env) fp xe) tg g) (ht : ∀ s H C cl fp xe, PTs (blkX X s H scope (compEnvC scope cl C X.env) fp xe) ifs tt)
    (he : ∀ s H C cl fp xe V, (∀ σ, PassesAt (L2.CX X.prog X.w) (blkX X s H scope (compEnvC scope cl C X.env) fp xe) σ (WE V σ)) → PE (blkX X s H scope (compEnvC scope cl C X.env) fp xe) elt (te V))
    (hset : ∀ x, foldedSetIterable iter X.env x = pure x := by intro _; rfl) :
    PE X (.ListComp elt [⟨tg, iter, ifs, 0⟩] scope pos) (tLcX wi g tt te (own.map (·.2)) W) := by
  refine ⟨fun pz s τ H Q I h => ?_⟩
  rw [eval_ListComp]
  refine core hs hf tk hc hN I hi ok hg ht he hset h fun D ce s' m H' I' q hn f => ⟨m, hn, fun h'' sb => ?_⟩
  obtain ⟨f0, f1, f2, f3, f4, f5⟩ := f
  exact ⟨.ref D, H', I'.turned (t' := s'.toks) (fun b o hb e => (sb.2 b hb).trans e) f0 f1 f3 f4 f5, rfl, q⟩
end
end FoE

set_option maxHeartbeats 4100000
/-! == of tuples, whose items are told by their own == . -/
namespace FoG
open PySem PySem.Spec PyProof.Rows L2
def inN : Nat → Around → Around
  | 0, A => A
  | n + 1, A => (inN n A).in1
theorem inN_room {A : Around} : ∀ {n k : Nat}, Room (k + n) A → Room k (inN n A)
  | 0, _, r => r
  | n + 1, k, r => by
    have z : Room (k + 1) (inN n A) := inN_room (by rw [Nat.add_right_comm]; exact r)
    exact ⟨z.hd, by have := z.dp; show (inN n A).depth + 3 * k + 5 < _; omega, by have := z.un; show (inN n A).units + 1 + 16 * k + 200 < _; omega⟩
theorem inN_env {P : Program} {w : World} {K : PySem.W.Frag} {mg : Str → Option Value} {base : Heap} {A : Around} {outer : List Env} {s : Shared} {H : Hp} (e : Env0 P w K mg base A outer s H) : ∀ n, Env0 P w K mg base (inN n A) outer s H
  | 0 => e
  | n + 1 => (inN_env e n).in1
/-- x == y, n units deeper: it is b, and nothing has changed -/
def EqW (X : Cx) (n : Nat) (H : Hp) (x y : V) (b : Bool) : Prop := ∀ pz τ s v u (Q : Bool → Shared → Prop), Inv X pz τ H s → RelV x v → RelV y u → (∀ s', Inv X pz τ H s' → Q b s') → wpAny (model X.prog X.w) (inN n X.A) (eqBool v u) Q X.xe s
section
variable {X : Cx} {CX : CXT} {k n : Nat} {f C a b : Addr} {fd : FuncData} {ps : List Str} {sp : Sp} {E : XK} {H : Hp}
theorem ask_refs {M : Model} {A : Around} {E : Value → Shared → Prop} {Q : Bool → Shared → Prop} {s : Shared} (h1 : a = b → Q true s) (h : a ≠ b → wpAny M A (richCompare .Eq (.ref a) (.ref b)) (fun v s' => ∃ c, v = .bool c ∧ Q c s') E s) : wpAny M A (eqBool (.ref a) (.ref b)) Q E s := by
  unfold eqBool
  refine wpAny_holding ?_
  by_cases e : a = b
  · subst e
    rw [if_pos (beq_self_eq_true _)]
    exact wpAny_bind (wpAny_rule (wpAny_pure (h1 rfl)))
  · rw [if_neg (fun z => e (by have z := eq_of_beq z; injection z))]
    refine wpAny_bind (wpAny_mono (h e) (fun v s' z => ?_) fun _ _ z => z)
    obtain ⟨c, rfl, q⟩ := z
    exact wpAny_truthy_bool q
theorem eqW_own (F : FnOk X.prog X.w X.K X.mg X.base CX k f fd ps sp) (hr : Room (k + n) X.A) (hb : Binds X.K fd ps []) (hx : Passes CX X E) (B : FoA.CmpC X.K C f .Eq) {dx dy : Addr} {fs gs : List (Str × V)} (ea : H a = some (.ins C dx fs)) (eb : H b = some (.ins C dy gs))
    {c : Bool} (hc : a = b → c = true) (h : sp [.ref a, .ref b] H (fun v H' => v = .bl c ∧ H' = H) E) : EqW X n H (.ref a) (.ref b) c := by
  intro pz τ s v u Q I rv ru q
  cases rv
  cases ru
  refine ask_refs (fun e => by rw [hc e] at q; exact q s I) fun _ => ?_
  obtain ⟨mA, J, _⟩ := ins_get I.hok ea
  obtain ⟨od, J, _⟩ := J.look
  obtain ⟨mB, J', _⟩ := ins_get I.hok eb
  obtain ⟨od', J', _⟩ := J'.look
  obtain ⟨m, hF⟩ := I.fr
  have hr1 : Room k (inN n X.A) := inN_room hr
  have bd := hb s [.ref a, .ref b] I.kIn (by rw [List.append_nil]; exact F.len _ _ _ _ h)
  rw [List.append_nil] at bd
  refine PySem.W.cmp_K hr1.units0 hF I.ok.mod.kin J J'.type (by simp [PySem.W.notFirst]) B.at_ B.fn ?_
  refine wpAny_call (codeAny_mono (F.run (inN n X.A) X.stack s H ⟨[.ref a, .ref b], []⟩ [.ref a, .ref b] [.ref a, .ref b] _ E hr1 (inN_env I.env0 n) bd (.cons rfl (.cons rfl .nil)) h) fun r s' hj => ?_)
  cases r with
  | error e => exact hx pz τ H s e s' I hj
  | ok fl =>
    cases fl with
    | ret w =>
      obtain ⟨y, H', I', rv, e1, e2⟩ := I.after hj
      subst e1 e2
      cases rv
      exact ⟨c, rfl, q _ I'⟩
    | next => exact False.elim hj
    | brk => exact False.elim hj
    | cont => exact False.elim hj
/-- the items' answers, one after the other -/
inductive EqWs (X : Cx) (n : Nat) (H : Hp) : List V → List V → Bool → Prop where
  | nil : EqWs X n H [] [] true
  | left {x : V} {xs : List V} : EqWs X n H (x :: xs) [] false
  | right {y : V} {ys : List V} : EqWs X n H [] (y :: ys) false
  | cons {x y : V} {xs ys : List V} {b c : Bool} (h : EqW X n H x y b) (t : EqWs X n H xs ys c) : EqWs X n H (x :: xs) (y :: ys) (b && c)
theorem EqWs.len {n : Nat} {H : Hp} : ∀ {xs ys : List V} {c : Bool}, EqWs X n H xs ys c → c = true → xs.length = ys.length
  | _, _, _, .nil, _ => rfl
  | _, _, _, .cons h t, e => by
    rw [Bool.and_eq_true] at e
    rw [List.length_cons, List.length_cons, t.len e.2]
theorem tup_builtin {pz : List (Addr × Obj)} {τ : L2.St} {s : Shared} {xs ys : List V} {c : Bool} {P : Fin → Shared → Prop} (n : Nat) (I : Inv X pz τ H s) (ha : SqT X.K H a xs) (hb : SqT X.K H b ys) (e : EqWs X n H xs ys c)
    (h : ∀ s', Inv X pz τ H s' → P (.done (.ret (.bool c))) s') : wpAny (model X.prog X.w) (inN n X.A) (Builtin.«tuple.__eq__» ⟨[.ref a, .ref b], []⟩) P X.xe s := by
  obtain ⟨as, ra, ⟨oa, hoa, hca, na, hda⟩, _⟩ := I.tuple ha
  obtain ⟨bs, rb, ⟨ob, hob, hcb, nb, hdb⟩, _⟩ := I.tuple hb
  have hTb : s.TypeIs (.ref b) "tuple" := ⟨ob, hob, hcb⟩
  show wpAny _ _ (isInstance (.ref b) (.type "tuple") >>= _) _ _ s
  refine wpAny_bind (wpAny_isInstance hTb isSubtype_tuple_tuple ?_)
  simp only [Bool.not_true, Bool.false_eq_true, if_false]
  refine wpAny_bind (wpAny_tupleItemsOf hoa hda (wpAny_bind (wpAny_tupleItemsOf hob hdb (wpAny_bind ?_))))
  have zl : ((as.toArray.size == bs.toArray.size) = true) = (xs.length = ys.length) := by
    have e1 := ra.length
    have e2 := rb.length
    simp [e1, e2]
  refine wpAny_forIn_list _ (fun rest r t => r.1 = none ∧ Inv X pz τ H t ∧ ∃ xs' ys' as' bs' d, rest = List.zip as' bs' ∧ Vals xs' as' ∧ Vals ys' bs' ∧ EqWs X n H xs' ys' d ∧ d = c ∧ (xs'.length = ys'.length ↔ xs.length = ys.length)) _ ?_ ?_ _ _ ⟨rfl, I, xs, ys, as, bs, c, rfl, ra, rb, e, rfl, Iff.rfl⟩
  · rintro ⟨u, v⟩ rest r t ⟨hr, It, xs', ys', as', bs', d, hz, r1, r2, e', hd, hl⟩
    cases e' with
    | nil =>
      cases r1
      simp at hz
    | left =>
      cases r2
      simp at hz
    | right =>
      cases r1
      simp at hz
    | @cons x y xs2 ys2 b1 c1 h1 t1 =>
      cases r1 with
      | cons q1 w1 =>
        cases r2 with
        | cons q2 w2 =>
          simp only [List.zip_cons_cons, List.cons.injEq, Prod.mk.injEq] at hz
          obtain ⟨⟨rfl, rfl⟩, rfl⟩ := hz
          refine wpAny_bind (h1 pz τ t _ _ _ It q1 q2 fun t' It' => ?_)
          cases b1 with
          | true =>
            simp only [Bool.not_true, Bool.false_eq_true, if_false]
            exact wpAny_pure ⟨rfl, It', xs2, ys2, _, _, c1, rfl, w1, w2, t1, by rw [← hd, Bool.true_and], by rw [← hl]; simp⟩
          | false =>
            simp only [Bool.not_false, if_true]
            have hc : c = false := by rw [← hd, Bool.false_and]
            rw [hc] at h
            exact wpAny_bind (wpAny_pure (wpAny_pure (wpAny_pure (h t' It'))))
  · rintro ⟨r1, r2⟩ t ⟨hr, It, xs', ys', as', bs', d, hz, q1, q2, e', hd, hl⟩
    simp only at hr
    subst hr
    refine wpAny_pure ?_
    have fin : (as.toArray.size == bs.toArray.size) = c := by
      cases e' with
      | nil =>
        rw [← hd]
        exact zl.symm ▸ (hl.mp rfl)
      | left =>
        rw [← hd]
        cases q : (as.toArray.size == bs.toArray.size) with
        | false => rfl
        | true => exact absurd (hl.mpr (zl ▸ q)) (by simp)
      | right =>
        rw [← hd]
        cases q : (as.toArray.size == bs.toArray.size) with
        | false => rfl
        | true => exact absurd (hl.mpr (zl ▸ q)) (by simp)
      | cons _ _ =>
        cases q1
        cases q2
        simp at hz
    show P (.done (.ret (.bool (as.toArray.size == bs.toArray.size)))) t
    rw [fin]
    exact h t It
/-- two tuples, by richCompare -/
theorem rc_tups {pz : List (Addr × Obj)} {τ : L2.St} {s : Shared} {xs ys : List V} {c : Bool} {Q : Value → Shared → Prop} (n : Nat) (hu : (inN n X.A).units < cLine) (I : Inv X pz τ H s) (ha : SqT X.K H a xs) (hb : SqT X.K H b ys) (e : EqWs X (n + 1) H xs ys c)
    (h : ∀ s', Inv X pz τ H s' → Q (.bool c) s') : wpAny (model X.prog X.w) (inN n X.A) (richCompare .Eq (.ref a) (.ref b)) Q X.xe s := by
  obtain ⟨as, ra, ⟨oa, hoa, hca, na, hda⟩, _⟩ := I.tuple ha
  obtain ⟨bs, rb, ⟨ob, hob, hcb, nb, hdb⟩, _⟩ := I.tuple hb
  have ta : s.TypeIs (.ref a) "tuple" := ⟨oa, hoa, hca⟩
  have tb : s.TypeIs (.ref b) "tuple" := ⟨ob, hob, hcb⟩
  refine wpAny_richCompare_same_room (op := .Eq) ta tb F.slot_tuple_eq (wpAny_call_entry F.slot_tuple_eq ta F.entry_tuple_eq ?_ (F.args_tuple_eq_2 _ _)) hu
  exact tup_builtin (n + 1) I ha hb e fun s' I' => ⟨_, rfl, (fun z => nomatch z), h s' I'⟩
theorem eqW_tup {xs ys : List V} {c : Bool} (hu : (inN n X.A).units < cLine) (ha : SqT X.K H a xs) (hb : SqT X.K H b ys) (e : EqWs X (n + 1) H xs ys c) (hc : a = b → c = true) : EqW X n H (.ref a) (.ref b) c := by
  intro pz τ s v u Q I rv ru q
  cases rv
  cases ru
  refine ask_refs (fun z => by rw [hc z] at q; exact q s I) fun _ => ?_
  exact rc_tups n hu I ha hb e fun s' I' => ⟨c, rfl, q s' I'⟩
/-- a == b, both tuples -/
def rEqT (X : Cx) : R2 := fun x y H Q => ∃ a b xs ys c, x = .ref a ∧ y = .ref b ∧ SqT X.K H a xs ∧ SqT X.K H b ys ∧ EqWs X 1 H xs ys c ∧ Q (.bl c) H
theorem op_eqT (hu : X.A.units < cLine) : OpR X (compareOp .Eq) (rEqT X) := by
  intro pz s τ H x y v u Q I rv ru h
  obtain ⟨a, b, xs, ys, c, rfl, rfl, ha, hb, e, q⟩ := h
  cases rv
  cases ru
  show wpAny _ _ (richCompare .Eq (.ref a) (.ref b)) _ _ _
  exact rc_tups 0 hu I ha hb e fun s' I' => ⟨.bl c, H, I', rfl, q⟩
end
end FoG

/-! Rules with the frame named: for the inside of a comprehension. -/
namespace FoK
open PySem PySem.Spec PyProof.Rows L2
section
variable {X : Cx} {K' : PySem.W.Frag} {e : Expr} {f : Str} {pos : Pos} {ta : TE}
theorem pe_fldK (he : PE X e ta) (hb : attributeBase e f X.env (eval e X.env) = eval e X.env) (hK : X.K = K') : PE X (.Attribute e f pos) (tFld K' ta f) := hK ▸ pe_fld he hb
theorem pg_tupK {es : List Expr} {k n : Nat} {t : TGs} (hK : X.K = K') (hc : X.calm = true) (h : PGs X es t) (hn : (assignEach es X.env).length = n := by rfl) (hst : (assignEach es X.env).findIdx? (·.1) = none := by rfl) : PG X (.Tuple es k pos) (gTup K' n t) := hK ▸ pg_tup hc h hn hst
theorem ix_listK (hK : X.K = K') : IxR X (rIxL K') := hK ▸ ix_list
theorem ix_tupK (hK : X.K = K') : IxR X (rIxT K') := hK ▸ ix_tup
theorem call_lenK (hK : X.K = K') : CallR X (.builtin "len") (fun xs H Q => ∃ p ys, xs = [.ref p] ∧ (SqL K' H p ys ∨ SqT K' H p ys) ∧ Q (.int ys.length) H) := hK ▸ call_len_seq
theorem call_isiK (hK : X.K = K') : CallR X (.builtin "isinstance") (rIsi K') := hK ▸ call_isi
theorem call_isiTK (hK : X.K = K') : CallR X (.builtin "isinstance") (rIsiT K') := hK ▸ call_isiT
theorem op_eqDK (hK : X.K = K') (hu : X.A.units + 64 < cLine) : OpR X (compareOp .Eq) (rEqD K') := hK ▸ op_eqD hu
theorem op_neDK (hK : X.K = K') (hu : X.A.units + 64 < cLine) : OpR X (compareOp .NotEq) (rNeD K') := hK ▸ op_neD hu
theorem call_tupleK (hK : X.K = K') : CallR X (.type "tuple") (fun xs H Q => ∃ p ys, xs = [.ref p] ∧ ((SqL K' H p ys ∧ ∀ l, H l = none → Q (.ref l) (upd H l (.tup ys))) ∨ (SqT K' H p ys ∧ Q (.ref p) H))) := by
  subst hK
  exact call_tuple_of
theorem pi_listK {tg l : Expr} {tl : TE} (hK : X.K = K') (hl : PE X l tl) : PI X tg l (iList K' tl) := by
  subst hK
  exact pi_list hl
theorem pi_tupK {tg l : Expr} {tl : TE} (hK : X.K = K') (hl : PE X l tl) : PI X tg l (iTup K' tl) := by
  subst hK
  exact pi_tup hl
end
end FoK

set_option maxHeartbeats 4100000
/-! for i, x in enumerate(t), t a tuple. -/
namespace FoW
open PySem PySem.Spec PyProof.Rows L2
theorem meets_new1 {v : Value} {o : Obj} {H : Heap → Prop} (B : Begins v o H) :
    Meets (Builtin.«enumerate.__new__» ⟨[.type "enumerate", v], []⟩) (fun _ R s => H s.heap ∧
      R (.ok (.ret (.ref (s.heap.push o).objs.size))) { s with heap := (s.heap.push o).push { cls := .type "enumerate", data := .fields #[.none, .bool false, .ref s.heap.objs.size, rawInt 0, .none, .none] } }) :=
  .of_wp fun prog w A R s h => by
    obtain ⟨hp, g, d, tk, os⟩ := s; obtain ⟨hH, h⟩ := h
    have hsub := sub_enumerate
    have q1 : ∀ {A' : Around} {E : Value → Shared → Prop} {Q : Value → Shared → Prop}, Q (.ref hp.objs.size) ⟨hp.push o, g, d, tk, os⟩ → wpAny (model prog w) A' (pyIter v) Q E ⟨hp, g, d, tk, os⟩ := fun q => B.iter prog w _ _ ⟨hp, g, d, tk, os⟩ _ hH q
    wp_walk using q1
    refine wpAny_stack_any fun st => wpAny_pure ?_
    split
    · rename_i c _ _ _ _ _
      cases (c == Value.type "enumerate")
      · wp_walk using q1; exact ⟨_, rfl, h⟩
      · wp_walk using q1; exact ⟨_, rfl, h⟩
    · wp_walk using q1; exact ⟨_, rfl, h⟩
section
variable {prog : Program} {w : World} {A : Around} {E : Value → Shared → Prop} {s : Shared}
theorem begins1 {v : Value} {o : Obj} {H : Heap → Prop} {Q : Value → Shared → Prop} (B : Begins v o H) (h1 : H s.heap)
    (h : ∀ g, IsEnum g (s.heap.objs.size + 1) s.heap.objs.size 0 .none → g.get? s.heap.objs.size = some o → (∀ b u, s.heap.get? b = some u → g.get? b = some u) → Q (.ref (s.heap.objs.size + 1)) { s with heap := g }) :
    wpAny (model prog w) A (call (.type "enumerate") [v]) Q E s := by
  refine callType_new F.called_enumerate (by decide) (F.typeCall_enumerate_1 _) (F.newCall_enumerate_1 _) (fun obj => F.args_object_init_2 obj _) F.entry_enumerate_new (meets_new1 B) ⟨h1, ?_⟩
  have z : (s.heap.push o).objs.size = s.heap.objs.size + 1 := Heap.size_push ..
  show _ ∧ _
  rw [z]
  have e : IsEnum ((s.heap.push o).push { cls := .type "enumerate", data := .fields #[.none, .bool false, .ref s.heap.objs.size, rawInt 0, .none, .none] }) (s.heap.objs.size + 1) s.heap.objs.size 0 .none := by
    have q := Heap.get?_push_size (s.heap.push o) (o := { cls := .type "enumerate", data := .fields #[.none, .bool false, .ref s.heap.objs.size, rawInt 0, .none, .none] }) rfl
    rw [z] at q
    exact q
  exact ⟨⟨_, e, rfl⟩, h _ e (Heap.get?_push_of_some _ (Heap.get?_push_size _ B.free)) fun b u x => Heap.get?_push_of_some _ (Heap.get?_push_of_some _ x)⟩
end
/-- the tuple at a, each item in a new pair -/
def IteT (K : PySem.W.Frag) (a : Addr) : It :=
  ⟨fun i H => ∃ (xs : List V) (x : V), SqT K H a xs ∧ xs[i]? = some x, fun i H v H' => ∃ p x, v = .ref p ∧ H p = none ∧ H' = upd H p (.tup [.int (i : Nat), x]) ∧ ∀ xs, SqT K H a xs → xs[i]? = some x, fun i H => ∃ xs : List V, SqT K H a xs ∧ xs.length ≤ i⟩
theorem turn_enumT {P : Program} {w : World} {K : PySem.W.Frag} {elts : List Expr} {kk : Nat} {tpos : Pos} (a e it : Addr) (hai : a ≠ it) (hae : a ≠ e) :
    Turn P w K (.Tuple elts kk tpos) (IteT K a) [e, it] e (fun i h => (∃ old, IsEnum h e it ((i : Nat) : Int) old) ∧ h.IsTupleIter it a i ∧ e ≠ it) where
  mem := by simp
  obj := fun i h st b hb => by
    obtain ⟨⟨old, he⟩, ⟨o, ho, hc, hd⟩, _⟩ := st
    rcases (show b = e ∨ b = it by simpa using hb) with z | z
    · rw [z]; exact ⟨_, he, fun v q => nomatch q⟩
    · rw [z]; exact ⟨o, ho, fun v q => by rw [hd] at q; cases q⟩
  keep := fun i h h' st k => ⟨⟨st.1.choose, k e (by simp) _ st.1.choose_spec⟩, st.2.1.at fun o q => k it (by simp) o q, st.2.2⟩
  item := by
    intro X hP hw hK hc i pz s τ H E I hf st hg
    subst hP hw hK
    obtain ⟨⟨old, he⟩, hit, hne⟩ := st
    obtain ⟨xs, x, hq, hx⟩ := hg
    obtain ⟨its, rv, p, hz⟩ := I.tuple hq
    obtain ⟨u, hu, ru⟩ := rv.get hx
    have el : e < s.heap.objs.size := Heap.lt_size he
    have il : it < s.heap.objs.size := by obtain ⟨_, q, _⟩ := hit; exact Heap.lt_size q
    have hlt : i < its.toArray.size := by
      have := (List.getElem?_eq_some_iff.mp hu).1
      simpa using this
    have hT : Heap.IsTuple s.heap a its.toArray := let ⟨o, q1, q2, n, q3⟩ := p; ⟨o, q1, q2, n, q3⟩
    refine wpAny_pyNext_enum_itemD (Draws.tuple (prog := X.prog) (w := X.w) (A := X.A.in1) (show X.A.in1.handled = none from I.ok.hd hc) it a hai its.toArray) he ⟨hit, hT⟩ hlt hne (by simp [hne, Ne.symm hae]) fun y h' tk py ho st' hTn hsz hk => ?_
    have ey : y = u := by
      have hu' : its.toArray[i]? = some u := by simpa using hu
      rw [hu'] at py
      exact (Option.some.inj py).symm
    subst ey
    refine ⟨_, rfl, wpAny_letOwnedTupleGo_enum (s := { s with heap := h', toks := tk + 1 }) ho fun h2 he2 sb => ?_⟩
    have hT2 : h2.get? s.heap.objs.size = some { cls := .type "tuple", data := .seq #[.int i tk, y] } := (sb.2 _ (Nat.ne_of_gt el)).trans hTn
    have new : ObjOk X.prog X.w (upd H s.heap.objs.size (.tup [.int (i : Nat), x])) h2 s.heap.objs.size (.tup [.int (i : Nat), x]) :=
      ⟨by show 2 ≤ sizeLine; rw [sizeLine_eq]; decide, [.int i tk, y], .cons ⟨_, rfl⟩ (.cons ru .nil), ⟨_, hT2, rfl, _, rfl⟩⟩
    have I1 : Inv X pz τ (upd H s.heap.objs.size (.tup [.int (i : Nat), x])) { s with heap := h2, toks := tk + 1 } :=
      I.turnedNew (ch := [e, it]) (fun b ob hb q => (sb.2 b (fun z => hb (by simp [z]))).trans (hk b ob (fun z => hb (by simp [z])) (fun z => hb (by simp [z])) q)) hf (Nat.le_refl _) new
    refine ⟨.ref s.heap.objs.size, _, I1, rfl, ⟨_, x, rfl, I.hok.fresh (Nat.le_refl _), rfl, fun ys hy => by rw [I.tuple_inj hy hq]; exact hx⟩, ⟨⟨y, ?_⟩, st'.1.at fun o q => (sb.2 it (Ne.symm hne)).trans q, hne⟩, fun b hb => ?_⟩
    · rw [show ((i + 1 : Nat) : Int) = (i : Int) + 1 by omega]
      exact he2
    · have hb' : b < s.heap.objs.size := by
        rcases (show b = e ∨ b = it by simpa using hb) with z | z
        · rw [z]; exact el
        · rw [z]; exact il
      rw [upd_ne (Nat.ne_of_lt hb')]
      exact (hf b hb).1
  done := by
    intro X hP hw hK hc i pz s τ H E I hf st hg
    subst hP hw hK
    obtain ⟨⟨old, he⟩, hit, hne⟩ := st
    obtain ⟨xs, hq, hx⟩ := hg
    obtain ⟨its, rv, p, hz⟩ := I.tuple hq
    obtain ⟨f0, f1, f2, f3, f4, f5⟩ := hf it (by simp)
    have hl := rv.length
    have hT : Heap.IsTuple s.heap a its.toArray := let ⟨o, q1, q2, n, q3⟩ := p; ⟨o, q1, q2, n, q3⟩
    have hT' := id hit
    unfold pyNext
    have ty : s.TypeIs (.ref e) "enumerate" := ⟨_, he, rfl⟩
    refine wpAny_bind (wpAny_attempt (wpAny_callSpecial?_slot (name := Str.ofString "__next__") ty F.slot_enumerate_next (wpAny_call_entry F.slot_enumerate_next ty F.entry_enumerate_next ?_ (F.args_enumerate_next_1 _))))
    show wpAny _ _ (field (.ref e) 2 >>= _) _ _ _
    refine wpAny_bind (wpAny_field he rfl (x := .ref it) rfl (wpAny_bind (wpAny_nextOf_tuple_end (I.ok.hd hc) hit hT (by simp; omega) fun h' x he' hx' => ?_)))
    obtain ⟨o, ho, hcl⟩ := hx'
    refine wpAny_bind (wpAny_isInstance (T := "StopIteration") (b := true) ⟨o, ho, hcl⟩ isSubtype_stop (wpAny_pure ⟨rfl, ?_⟩))
    exact I.turned (t' := s.toks) (fun b u hb q => he' b u hb q) f0 f1 f3 f4 f5
  self := fun A i s Q E st h => let ⟨⟨_, he⟩, _⟩ := st; wpAny_pyIter_enum he h
def iEnumT (K : PySem.W.Frag) (ta : TA) : TI := fun τ H R => ta τ H fun vs H1 => ∃ a xs, vs = [.ref a] ∧ SqT K H1 a xs ∧ R (IteT K a) H1
theorem pi_enumT {X : Cx} {e : Expr} {ta : TA} {p pos tpos : Pos} {elts : List Expr} {kk : Nat} (hg : Gl X "enumerate") (hm : X.mg "enumerate" = none) (ha : PA X [e] ta) (hs : starEach [e] X.env = [(false, eval e X.env)] := by rfl) :
    PI X (.Tuple elts kk tpos) (.Call (.Name "enumerate" p) [e] [] pos) (iEnumT X.K ta) := by
  refine ⟨fun pz s τ H R I h => ?_⟩
  refine Call_ (ld_blt I hg hm boot_enumerate (PyProof.Rows.callWith_type1 (thn (ha.run pos pz s τ H _ I h) fun us s1 ⟨vs, H1, I1, r1, q1⟩ => ?_) hs rfl))
  obtain ⟨a, xs, ex, hq, q⟩ := q1
  subst ex
  cases r1 with
  | cons r rr =>
    cases rr
    cases r
    obtain ⟨its, rv, p', hz⟩ := I1.tuple hq
    have hT : Heap.IsTuple s1.heap a its.toArray := let ⟨o, q1, q2, n, q3⟩ := p'; ⟨o, q1, q2, n, q3⟩
    have al : a < s1.heap.objs.size := by obtain ⟨o, q1, _⟩ := p'; exact Heap.lt_size q1
    refine begins1 (begins_tuple a its.toArray) hT fun g he hit hk => wpAny_pyIter_enum he ?_
    have I2 : Inv X pz τ H1 { s1 with heap := g } := I1.kept (t' := s1.toks) hk
    refine ⟨s1.heap.objs.size + 1, [s1.heap.objs.size + 1, s1.heap.objs.size], _, _, H1, rfl, I2, turn_enumT a (s1.heap.objs.size + 1) s1.heap.objs.size (Nat.ne_of_lt al) (Nat.ne_of_lt (Nat.lt_succ_of_lt al)), ⟨⟨.none, he⟩, ⟨_, hit, rfl, rfl⟩, Nat.succ_ne_self _⟩, fun b hb => ?_, q⟩
    have hle : s1.heap.objs.size ≤ b := by
      rcases (show b = s1.heap.objs.size + 1 ∨ b = s1.heap.objs.size by simpa using hb) with z | z
      · rw [z]; exact Nat.le_add_right _ _
      · rw [z]; exact Nat.le_refl _
    exact I1.fpOk hle (I1.hok.fresh hle)
/-- the walk, in a comprehension -/
theorem lc_enumT {K : PySem.W.Frag} {a : Addr} {xs : List V} {g : TG} {tt : TT} {te : TE} {vs : List Nat} {τ : L2.St} {H1 : Hp} {D : Addr} {Qd : Hp → Prop} (Pv : Nat → Hp → Prop) (h0 : Pv 0 (upd H1 D (.lst []))) (hl : ∀ i H, i ≤ xs.length → Pv i H → SqT K H a xs)
    (hs : ∀ i x H p, xs[i]? = some x → H p = none → Pv i H → g (.ref p) (wipe τ vs) (upd H p (.tup [.int (i : Nat), x])) fun σ2 H2 => wipe σ2 vs = wipe τ vs ∧ tt σ2 H2 fun b H3 =>
      if b = true then te σ2 H3 fun y H4 => ∃ acc, H4 D = some (.lst acc) ∧ acc.length < sizeLine ∧ Pv (i + 1) (upd H4 D (.lst (acc ++ [y]))) else Pv (i + 1) H3) (hd : ∀ H, Pv xs.length H → Qd H) :
    ∃ W : Nat → Nat → Hp → Prop, (∃ m, W 0 m (upd H1 D (.lst []))) ∧ ∀ i m H, W i m H →
      ((IteT K a).stop i H ∧ Qd H) ∨ ((IteT K a).go i H ∧ ∃ Nx : Hp → Prop, (∀ H', Nx H' → ∃ m', m' < m ∧ W (i + 1) m' H') ∧ ∀ x H', (IteT K a).yld i H x H' → g x (wipe τ vs) H' fun σ2 H2 => wipe σ2 vs = wipe τ vs ∧ tt σ2 H2 fun b H3 =>
        if b = true then te σ2 H3 fun y H4 => ∃ acc, H4 D = some (.lst acc) ∧ acc.length < sizeLine ∧ Nx (upd H4 D (.lst (acc ++ [y]))) else Nx H3) := by
  refine ⟨fun i m H => m = xs.length - i ∧ i ≤ xs.length ∧ Pv i H, ⟨xs.length, by simp, Nat.zero_le _, h0⟩, ?_⟩
  rintro i m H ⟨rfl, hi, pv⟩
  have q := hl i H hi pv
  by_cases lt : i < xs.length
  · refine .inr ⟨⟨xs, xs[i], q, by simp [lt]⟩, Pv (i + 1), fun H' p' => ⟨xs.length - (i + 1), by omega, rfl, lt, p'⟩, fun x H' y => ?_⟩
    obtain ⟨p, z, rfl, hp, rfl, hz⟩ := y
    exact hs i z H p (hz xs q) hp pv
  · have e : i = xs.length := by omega
    subst e
    exact .inl ⟨⟨xs, q, Nat.le_refl _⟩, hd H pv⟩
theorem walk_enumT {K : PySem.W.Frag} {a : Addr} {xs : List V} : Walk (IteT K a) xs.length (fun H => SqT K H a xs) (YPair (fun i => some (.int (i : Nat))) (fun i => xs[i]?)) := by
  refine ⟨fun i _ hi q => ⟨xs, xs[i], q, by simp [hi]⟩, fun _ q => ⟨xs, q, Nat.le_refl _⟩, fun i H v H' _ q y => ?_⟩
  obtain ⟨p, x, h1, h2, h3, h4⟩ := y
  exact ⟨p, .int (i : Nat), x, h1, h2, h3, rfl, h4 xs q⟩
theorem walk_revT {K : PySem.W.Frag} {a : Addr} {xs : List V} : Walk (RT.ItvT K a xs.length) xs.length (fun H => SqT K H a xs) (fun i H x H' => H' = H ∧ xs[xs.length - 1 - i]? = some x) :=
  ⟨fun i _ hi q => ⟨hi, xs, xs[xs.length - 1 - i]'(by omega), q, by simp [show xs.length - 1 - i < xs.length by omega]⟩, fun _ _ => Nat.le_refl _, fun _ _ _ _ _ q y => ⟨y.1, y.2 xs q⟩⟩
end FoW

set_option maxHeartbeats 4100000
/-! all of a list of truths; two readings of one walk or value. -/
namespace FoY
open PySem PySem.Spec PyProof.Rows L2
theorem pi_or {X : Cx} {tg e : Expr} {w1 w2 : TI} (h1 : PI X tg e w1) (h2 : PI X tg e w2) : PI X tg e (fun τ H R => w1 τ H R ∨ w2 τ H R) :=
  ⟨fun pz s τ H R I h => h.elim (h1.run pz s τ H R I) (h2.run pz s τ H R I)⟩
theorem pe_or {X : Cx} {e : Expr} {t1 t2 : TE} (h1 : PE X e t1) (h2 : PE X e t2) : PE X e (fun τ H Q => t1 τ H Q ∨ t2 τ H Q) :=
  ⟨fun pz s τ H Q I h => h.elim (h1.run pz s τ H Q I) (h2.run pz s τ H Q I)⟩
theorem reads_bools {h : Heap} : ∀ {bs : List Bool} {us : List Value}, Vals (bs.map V.bl) us → ReadsAll h us (bs.map PyData.bool) []
  | [], _, .nil => .nil
  | b :: bs, _, .cons r rr => by
    cases r
    exact ReadsAll.cons (as := []) (bs := []) (.bool b) (reads_bools rr)
theorem plain_bools : ∀ bs : List Bool, PyData.plainAll (bs.map PyData.bool) = true
  | [] => rfl
  | b :: bs => by
    show (PyData.plain (.bool b) && PyData.plainAll (bs.map PyData.bool)) = true
    rw [plain_bools bs]
    rfl
def rAll (K : PySem.W.Frag) : List V → Hp → VK → Prop := fun xs H Q => ∃ (a : Addr) (bs : List Bool), xs = [V.ref a] ∧ SqL K H a (bs.map V.bl) ∧ Q (.bl (bs.all id)) H
theorem call_all {X : Cx} {K' : PySem.W.Frag} (hc : X.calm = true) (hK : X.K = K') : CallR X (.builtin "all") (rAll K') := by
  subst hK
  intro pz s τ H vs us Q I r h
  obtain ⟨a, bs, rfl, hS, q⟩ := h
  obtain ⟨its, rv, hl, _⟩ := I.list hS
  rw [Vals.ref1 r]
  refine PySem.W.all_list_data (I.ok.hd hc) hl.isList (reads_bools rv) (plain_bools bs) (fun x hx => ?_) fun h' tk hk => ?_
  · obtain ⟨b, _, rfl⟩ := List.mem_map.mp hx
    trivial
  · have e : (bs.map PyData.bool).all PyData.truthy = bs.all id := by
      rw [List.all_map]
      rfl
    rw [e]
    exact ⟨.bl _, H, I.kept hk, rfl, q⟩
end FoY

set_option maxHeartbeats 4100000
namespace Fo
open PySem PySem.Spec PyProof.Rows L2
def top (i : Nat) : Stmt := PySem.Challenge.pw_filterorders_k28_shapes.main.body.getD i (.Pass ⟨0, 0, 0, 0⟩)
abbrev s_Ratio_init : Stmt := inClass (top 12) 0
theorem sc_Ratio_init : FnScope ["self", "top", "bottom", "shared"] ["self", "top", "bottom"] (defScope s_Ratio_init) := ⟨rfl, rfl, rfl, by decide +kernel, rfl, by decide +kernel, by decide +kernel⟩
abbrev s_Ratio_top : Stmt := inClass (top 12) 2
theorem sc_Ratio_top : FnScope ["self"] ["self"] (defScope s_Ratio_top) := ⟨rfl, rfl, rfl, by decide +kernel, rfl, by decide +kernel, by decide +kernel⟩
abbrev s_Ratio_bottom : Stmt := inClass (top 12) 3
theorem sc_Ratio_bottom : FnScope ["self"] ["self"] (defScope s_Ratio_bottom) := ⟨rfl, rfl, rfl, by decide +kernel, rfl, by decide +kernel, by decide +kernel⟩
abbrev s_Ratio_eq : Stmt := inClass (top 12) 4
theorem sc_Ratio_eq : FnScope ["self", "other"] ["self", "other"] (defScope s_Ratio_eq) := ⟨rfl, rfl, rfl, by decide +kernel, rfl, by decide +kernel, by decide +kernel⟩
abbrev s_Ratio_add : Stmt := inClass (top 12) 7
theorem sc_Ratio_add : FnScope ["self", "other", "right"] ["self", "other"] (defScope s_Ratio_add) := ⟨rfl, rfl, rfl, by decide +kernel, rfl, by decide +kernel, by decide +kernel⟩
abbrev s_Ratio_sub : Stmt := inClass (top 12) 8
theorem sc_Ratio_sub : FnScope ["self", "other", "right"] ["self", "other"] (defScope s_Ratio_sub) := ⟨rfl, rfl, rfl, by decide +kernel, rfl, by decide +kernel, by decide +kernel⟩
abbrev s_Ratio_mul : Stmt := inClass (top 12) 9
theorem sc_Ratio_mul : FnScope ["self", "other", "right"] ["self", "other"] (defScope s_Ratio_mul) := ⟨rfl, rfl, rfl, by decide +kernel, rfl, by decide +kernel, by decide +kernel⟩
abbrev s_Ratio_neg : Stmt := inClass (top 12) 10
theorem sc_Ratio_neg : FnScope ["self"] ["self"] (defScope s_Ratio_neg) := ⟨rfl, rfl, rfl, by decide +kernel, rfl, by decide +kernel, by decide +kernel⟩
abbrev s_is_whole : Stmt := top 13
theorem sc_is_whole : FnScope ["given"] ["given"] (defScope s_is_whole) := ⟨rfl, rfl, rfl, by decide +kernel, rfl, by decide +kernel, by decide +kernel⟩
abbrev s_is_number : Stmt := top 14
theorem sc_is_number : FnScope ["given"] ["given"] (defScope s_is_number) := ⟨rfl, rfl, rfl, by decide +kernel, rfl, by decide +kernel, by decide +kernel⟩
abbrev s_as_ratio : Stmt := top 15
theorem sc_as_ratio : FnScope ["given"] ["given"] (defScope s_as_ratio) := ⟨rfl, rfl, rfl, by decide +kernel, rfl, by decide +kernel, by decide +kernel⟩
abbrev s_trimmed : Stmt := top 20
theorem sc_trimmed : FnScope ["terms", "many"] ["terms"] (defScope s_trimmed) := ⟨rfl, rfl, rfl, by decide +kernel, rfl, by decide +kernel, by decide +kernel⟩
abbrev s_shared_bottom : Stmt := top 21
theorem sc_shared_bottom : FnScope ["ratios", "bottom", "ratio"] ["ratios"] (defScope s_shared_bottom) := ⟨rfl, rfl, rfl, by decide +kernel, rfl, by decide +kernel, by decide +kernel⟩
abbrev s_multiplied : Stmt := top 22
theorem sc_multiplied : FnScope ["ratios", "bottom", "ratio"] ["ratios", "bottom"] (defScope s_multiplied) := ⟨rfl, rfl, rfl, by decide +kernel, rfl, by decide +kernel, by decide +kernel⟩
abbrev s_whole_product : Stmt := top 23
theorem sc_whole_product : FnScope ["one", "other", "_", "found", "start", "factor", "at", "term"] ["one", "other"] (defScope s_whole_product) := ⟨rfl, rfl, rfl, by decide +kernel, rfl, by decide +kernel, by decide +kernel⟩
abbrev s_Formula_init : Stmt := inClass (top 25) 0
theorem sc_Formula_init : FnScope ["self", "terms", "row", "number"] ["self", "terms"] (defScope s_Formula_init) := ⟨rfl, rfl, rfl, by decide +kernel, rfl, by decide +kernel, by decide +kernel⟩
abbrev s_Formula_terms : Stmt := inClass (top 25) 2
theorem sc_Formula_terms : FnScope ["self"] ["self"] (defScope s_Formula_terms) := ⟨rfl, rfl, rfl, by decide +kernel, rfl, by decide +kernel, by decide +kernel⟩
abbrev s_Formula_eq : Stmt := inClass (top 25) 3
theorem sc_Formula_eq : FnScope ["self", "other"] ["self", "other"] (defScope s_Formula_eq) := ⟨rfl, rfl, rfl, by decide +kernel, rfl, by decide +kernel, by decide +kernel⟩
abbrev s_Formula_add : Stmt := inClass (top 25) 4
theorem sc_Formula_add : FnScope ["self", "other", "total", "row", "number"] ["self", "other"] (defScope s_Formula_add) := ⟨rfl, rfl, rfl, by decide +kernel, rfl, by decide +kernel, by decide +kernel⟩
abbrev s_Formula_sub : Stmt := inClass (top 25) 5
theorem sc_Formula_sub : FnScope ["self", "other"] ["self", "other"] (defScope s_Formula_sub) := ⟨rfl, rfl, rfl, by decide +kernel, rfl, by decide +kernel, by decide +kernel⟩
abbrev s_Formula_mul : Stmt := inClass (top 25) 6
theorem sc_Formula_mul : FnScope ["self", "other", "total", "row", "number", "behind", "factor", "whole"] ["self", "other"] (defScope s_Formula_mul) := ⟨rfl, rfl, rfl, by decide +kernel, rfl, by decide +kernel, by decide +kernel⟩
abbrev s_Formula_neg : Stmt := inClass (top 25) 7
theorem sc_Formula_neg : FnScope ["self", "row", "number"] ["self"] (defScope s_Formula_neg) := ⟨rfl, rfl, rfl, by decide +kernel, rfl, by decide +kernel, by decide +kernel⟩
abbrev s_Formula_mirror : Stmt := inClass (top 25) 9
theorem sc_Formula_mirror : FnScope ["self", "row", "number"] ["self"] (defScope s_Formula_mirror) := ⟨rfl, rfl, rfl, by decide +kernel, rfl, by decide +kernel, by decide +kernel⟩
abbrev s_Formula_is_mirror : Stmt := inClass (top 25) 10
theorem sc_Formula_is_mirror : FnScope ["self"] ["self"] (defScope s_Formula_is_mirror) := ⟨rfl, rfl, rfl, by decide +kernel, rfl, by decide +kernel, by decide +kernel⟩
abbrev s_is_row : Stmt := top 26
theorem sc_is_row : FnScope ["given", "letter"] ["given"] (defScope s_is_row) := ⟨rfl, rfl, rfl, by decide +kernel, rfl, by decide +kernel, by decide +kernel⟩
abbrev s_shortened : Stmt := top 27
theorem sc_shortened : FnScope ["row", "found", "letter"] ["row"] (defScope s_shortened) := ⟨rfl, rfl, rfl, by decide +kernel, rfl, by decide +kernel, by decide +kernel⟩
abbrev s_form_of : Stmt := top 28
theorem sc_form_of : FnScope ["terms", "total", "row", "number", "short", "in_order"] ["terms"] (defScope s_form_of) := ⟨rfl, rfl, rfl, by decide +kernel, rfl, by decide +kernel, by decide +kernel⟩
abbrev s_Polynomial_init : Stmt := inClass (top 33) 0
theorem sc_Polynomial_init : FnScope ["self", "numbers", "number"] ["self", "numbers"] (defScope s_Polynomial_init) := ⟨rfl, rfl, rfl, by decide +kernel, rfl, by decide +kernel, by decide +kernel⟩
abbrev s_Polynomial_terms : Stmt := inClass (top 33) 1
theorem sc_Polynomial_terms : FnScope ["self"] ["self"] (defScope s_Polynomial_terms) := ⟨rfl, rfl, rfl, by decide +kernel, rfl, by decide +kernel, by decide +kernel⟩
abbrev s_Polynomial_len : Stmt := inClass (top 33) 2
theorem sc_Polynomial_len : FnScope ["self"] ["self"] (defScope s_Polynomial_len) := ⟨rfl, rfl, rfl, by decide +kernel, rfl, by decide +kernel, by decide +kernel⟩
abbrev s_Polynomial_add : Stmt := inClass (top 33) 4
theorem sc_Polynomial_add : FnScope ["self", "other", "many", "at"] ["self", "other"] (defScope s_Polynomial_add) := ⟨rfl, rfl, rfl, by decide +kernel, rfl, by decide +kernel, by decide +kernel⟩
abbrev s_Polynomial_sub : Stmt := inClass (top 33) 5
theorem sc_Polynomial_sub : FnScope ["self", "other", "many", "at"] ["self", "other"] (defScope s_Polynomial_sub) := ⟨rfl, rfl, rfl, by decide +kernel, rfl, by decide +kernel, by decide +kernel⟩
abbrev s_Polynomial_mul : Stmt := inClass (top 33) 6
theorem sc_Polynomial_mul : FnScope ["self", "other", "mine", "theirs", "found", "term"] ["self", "other"] (defScope s_Polynomial_mul) := ⟨rfl, rfl, rfl, by decide +kernel, rfl, by decide +kernel, by decide +kernel⟩
abbrev s_Polynomial_worth : Stmt := inClass (top 33) 8
theorem sc_Polynomial_worth : FnScope ["self", "number", "place", "value", "term"] ["self", "number"] (defScope s_Polynomial_worth) := ⟨rfl, rfl, rfl, by decide +kernel, rfl, by decide +kernel, by decide +kernel⟩
abbrev s_term_at : Stmt := top 34
theorem sc_term_at : FnScope ["terms", "at"] ["terms", "at"] (defScope s_term_at) := ⟨rfl, rfl, rfl, by decide +kernel, rfl, by decide +kernel, by decide +kernel⟩
abbrev s_plane_factors : Stmt := top 36
theorem sc_plane_factors : FnScope ["formula", "terms"] ["formula"] (defScope s_plane_factors) := ⟨rfl, rfl, rfl, by decide +kernel, rfl, by decide +kernel, by decide +kernel⟩
abbrev s_shape : Stmt := top 37
theorem sc_shape : FnScope ["formula", "constant", "ps", "qs", "mixed", "_", "angle_number", "trace", "determinant"] ["formula"] (defScope s_shape) := ⟨rfl, rfl, rfl, by decide +kernel, rfl, by decide +kernel, by decide +kernel⟩
abbrev s_factor_of : Stmt := top 38
theorem sc_factor_of : FnScope ["terms", "letters", "size", "row", "lengths", "length"] ["terms", "letters", "size"] (defScope s_factor_of) := ⟨rfl, rfl, rfl, by decide +kernel, rfl, by decide +kernel, by decide +kernel⟩
abbrev s_cell : Stmt := top 40
theorem sc_cell : FnScope ["_law_script", "_law_k"] ["_law_script", "_law_k"] (defScope s_cell) := ⟨rfl, rfl, rfl, by decide +kernel, rfl, by decide +kernel, by decide +kernel⟩
abbrev s_box : Stmt := top 41
theorem sc_box : FnScope ["_law_script", "_law_k"] ["_law_script", "_law_k"] (defScope s_box) := ⟨rfl, rfl, rfl, by decide +kernel, rfl, by decide +kernel, by decide +kernel⟩
abbrev s_take : Stmt := top 42
theorem sc_take : FnScope ["_law_box_here", "_law_many", "_law_digit", "_law_mixed"] ["_law_box_here", "_law_many"] (defScope s_take) := ⟨rfl, rfl, rfl, by decide +kernel, rfl, by decide +kernel, by decide +kernel⟩
abbrev s_frac : Stmt := top 43
theorem sc_frac : FnScope ["_law_up", "_law_down", "_law_one", "_law_other"] ["_law_up", "_law_down"] (defScope s_frac) := ⟨rfl, rfl, rfl, by decide +kernel, rfl, by decide +kernel, by decide +kernel⟩
abbrev s_plus : Stmt := top 44
theorem sc_plus : FnScope ["_law_x", "_law_y"] ["_law_x", "_law_y"] (defScope s_plus) := ⟨rfl, rfl, rfl, by decide +kernel, rfl, by decide +kernel, by decide +kernel⟩
abbrev s_times : Stmt := top 45
theorem sc_times : FnScope ["_law_x", "_law_y"] ["_law_x", "_law_y"] (defScope s_times) := ⟨rfl, rfl, rfl, by decide +kernel, rfl, by decide +kernel, by decide +kernel⟩
abbrev s_minus : Stmt := top 46
theorem sc_minus : FnScope ["_law_x", "_law_y"] ["_law_x", "_law_y"] (defScope s_minus) := ⟨rfl, rfl, rfl, by decide +kernel, rfl, by decide +kernel, by decide +kernel⟩
abbrev s_number : Stmt := top 48
theorem sc_number : FnScope ["_law_box_here", "_law_most", "_law_up"] ["_law_box_here", "_law_most"] (defScope s_number) := ⟨rfl, rfl, rfl, by decide +kernel, rfl, by decide +kernel, by decide +kernel⟩
abbrev s_short : Stmt := top 51
theorem sc_short : FnScope ["_law_row_here", "_law_found", "_law_letter"] ["_law_row_here"] (defScope s_short) := ⟨rfl, rfl, rfl, by decide +kernel, rfl, by decide +kernel, by decide +kernel⟩
abbrev s_form : Stmt := top 52
theorem sc_form : FnScope ["_law_pairs", "_law_found", "_law_row_here", "_law_x", "_law_key", "_law_made", "_law_size"] ["_law_pairs"] (defScope s_form) := ⟨rfl, rfl, rfl, by decide +kernel, rfl, by decide +kernel, by decide +kernel⟩
abbrev s_row : Stmt := top 53
theorem sc_row : FnScope ["_law_box_here", "_law_most", "_law_k"] ["_law_box_here", "_law_most"] (defScope s_row) := ⟨rfl, rfl, rfl, by decide +kernel, rfl, by decide +kernel, by decide +kernel⟩
abbrev s_terms : Stmt := top 54
theorem sc_terms : FnScope ["_law_box_here", "_law_most", "_law_size", "_law_found", "_law_k", "_law_row_here", "_law_pair"] ["_law_box_here", "_law_most", "_law_size"] (defScope s_terms) := ⟨rfl, rfl, rfl, by decide +kernel, rfl, by decide +kernel, by decide +kernel⟩
abbrev s_formula : Stmt := top 55
theorem sc_formula : FnScope ["_law_pairs", "_law_terms_here", "_law_row_here", "_law_x"] ["_law_pairs"] (defScope s_formula) := ⟨rfl, rfl, rfl, by decide +kernel, rfl, by decide +kernel, by decide +kernel⟩
abbrev s_times_tables : Stmt := top 56
theorem sc_times_tables : FnScope ["_law_one", "_law_other", "_law_size", "_law_found", "_law_j", "_law_row_here", "_law_k", "_law_total", "_law_i"] ["_law_one", "_law_other"] (defScope s_times_tables) := ⟨rfl, rfl, rfl, by decide +kernel, rfl, by decide +kernel, by decide +kernel⟩
abbrev s_added : Stmt := top 57
theorem sc_added : FnScope ["_law_one", "_law_other", "_law_factor", "_law_found", "_law_j", "_law_k"] ["_law_one", "_law_other", "_law_factor"] (defScope s_added) := ⟨rfl, rfl, rfl, by decide +kernel, rfl, by decide +kernel, by decide +kernel⟩
abbrev s_unit : Stmt := top 58
theorem sc_unit : FnScope ["_law_size", "_law_j", "_law_k"] ["_law_size"] (defScope s_unit) := ⟨rfl, rfl, rfl, by decide +kernel, rfl, by decide +kernel, by decide +kernel⟩
abbrev s_flipped : Stmt := top 59
theorem sc_flipped : FnScope ["_law_rows", "_law_j", "_law_k"] ["_law_rows"] (defScope s_flipped) := ⟨rfl, rfl, rfl, by decide +kernel, rfl, by decide +kernel, by decide +kernel⟩
abbrev s_plane : Stmt := top 62
theorem sc_plane : FnScope ["_law_m", "_law_square", "_law_down", "_law_back", "_law_c", "_law_s", "_law_first"] ["_law_m"] (defScope s_plane) := ⟨rfl, rfl, rfl, by decide +kernel, rfl, by decide +kernel, by decide +kernel⟩
abbrev s_value : Stmt := top 63
theorem sc_value : FnScope ["_law_pairs", "_law_first", "_law_second", "_law_size", "_law_found", "_law_row_here", "_law_x", "_law_made", "_law_letter"] ["_law_pairs", "_law_first", "_law_second"] (defScope s_value) := ⟨rfl, rfl, rfl, by decide +kernel, rfl, by decide +kernel, by decide +kernel⟩
abbrev s_mirrored : Stmt := top 65
theorem sc_mirrored : FnScope ["_law_pairs", "_law_found", "_law_row_here", "_law_x", "_law_key"] ["_law_pairs"] (defScope s_mirrored) := ⟨rfl, rfl, rfl, by decide +kernel, rfl, by decide +kernel, by decide +kernel⟩
abbrev s_shape_told : Stmt := top 66
theorem sc_shape_told : FnScope ["_law_formula_here"] ["_law_formula_here"] (defScope s_shape_told) := ⟨rfl, rfl, rfl, by decide +kernel, rfl, by decide +kernel, by decide +kernel⟩
abbrev s_fits : Stmt := top 67
theorem sc_fits : FnScope ["_law_polys", "_law_rows", "_law_t", "_law_x", "_law_trace_here", "_law_flat_here", "_law_square"] ["_law_polys", "_law_rows", "_law_t"] (defScope s_fits) := ⟨rfl, rfl, rfl, by decide +kernel, rfl, by decide +kernel, by decide +kernel⟩
abbrev s_law : Stmt := top 68
theorem sc_law : FnScope ["_law_script", "_law_box_here", "_law_pairs", "_law_mine", "_law_formula_here", "_law_form_here", "_law_row_here", "_law_x", "_law_even", "_law_told_here", "_law_k", "_law_first", "_law_second", "_law_t", "_law_rows"] ["_law_script"] (defScope s_law) := ⟨rfl, rfl, rfl, by decide +kernel, rfl, by decide +kernel, by decide +kernel⟩
structure Tx (K : PySem.W.Frag) (mg : Str → Option Value) : Type where
  fd_Ratio_init : FuncData
  F_Ratio_init : FunD K "__init__" "Ratio.__init__" (defArgs s_Ratio_init) (defBody s_Ratio_init) (defScope s_Ratio_init) [V.int 1] [] (He.ma K (He.ga K "Ratio") "__init__") fd_Ratio_init
  fd_Ratio_top : FuncData
  F_Ratio_top : Fun K "top" "Ratio.top" s_Ratio_top (FoZ.pg K "Ratio" "top") fd_Ratio_top
  b_Ratio_top : Binds K fd_Ratio_top ["self"] []
  fd_Ratio_bottom : FuncData
  F_Ratio_bottom : Fun K "bottom" "Ratio.bottom" s_Ratio_bottom (FoZ.pg K "Ratio" "bottom") fd_Ratio_bottom
  b_Ratio_bottom : Binds K fd_Ratio_bottom ["self"] []
  fd_Ratio_eq : FuncData
  F_Ratio_eq : Fun K "__eq__" "Ratio.__eq__" s_Ratio_eq (He.ma K (He.ga K "Ratio") "__eq__") fd_Ratio_eq
  b_Ratio_eq : Binds K fd_Ratio_eq ["self", "other"] []
  fd_Ratio_add : FuncData
  F_Ratio_add : Fun K "__add__" "Ratio.__add__" s_Ratio_add (He.ma K (He.ga K "Ratio") "__add__") fd_Ratio_add
  b_Ratio_add : Binds K fd_Ratio_add ["self", "other"] []
  fd_Ratio_sub : FuncData
  F_Ratio_sub : Fun K "__sub__" "Ratio.__sub__" s_Ratio_sub (He.ma K (He.ga K "Ratio") "__sub__") fd_Ratio_sub
  b_Ratio_sub : Binds K fd_Ratio_sub ["self", "other"] []
  fd_Ratio_mul : FuncData
  F_Ratio_mul : Fun K "__mul__" "Ratio.__mul__" s_Ratio_mul (He.ma K (He.ga K "Ratio") "__mul__") fd_Ratio_mul
  b_Ratio_mul : Binds K fd_Ratio_mul ["self", "other"] []
  fd_Ratio_neg : FuncData
  F_Ratio_neg : Fun K "__neg__" "Ratio.__neg__" s_Ratio_neg (He.ma K (He.ga K "Ratio") "__neg__") fd_Ratio_neg
  b_Ratio_neg : Binds K fd_Ratio_neg ["self"] []
  fd_is_whole : FuncData
  F_is_whole : Fun K "is_whole" "is_whole" s_is_whole (He.ga K "is_whole") fd_is_whole
  b_is_whole : Binds K fd_is_whole ["given"] []
  g_is_whole : mg "is_whole" = some (.ref (He.ga K "is_whole"))
  fd_is_number : FuncData
  F_is_number : Fun K "is_number" "is_number" s_is_number (He.ga K "is_number") fd_is_number
  b_is_number : Binds K fd_is_number ["given"] []
  g_is_number : mg "is_number" = some (.ref (He.ga K "is_number"))
  fd_as_ratio : FuncData
  F_as_ratio : Fun K "as_ratio" "as_ratio" s_as_ratio (He.ga K "as_ratio") fd_as_ratio
  b_as_ratio : Binds K fd_as_ratio ["given"] []
  g_as_ratio : mg "as_ratio" = some (.ref (He.ga K "as_ratio"))
  fd_trimmed : FuncData
  F_trimmed : Fun K "trimmed" "trimmed" s_trimmed (He.ga K "trimmed") fd_trimmed
  b_trimmed : Binds K fd_trimmed ["terms"] []
  g_trimmed : mg "trimmed" = some (.ref (He.ga K "trimmed"))
  fd_shared_bottom : FuncData
  F_shared_bottom : Fun K "shared_bottom" "shared_bottom" s_shared_bottom (He.ga K "shared_bottom") fd_shared_bottom
  b_shared_bottom : Binds K fd_shared_bottom ["ratios"] []
  g_shared_bottom : mg "shared_bottom" = some (.ref (He.ga K "shared_bottom"))
  fd_multiplied : FuncData
  F_multiplied : Fun K "multiplied" "multiplied" s_multiplied (He.ga K "multiplied") fd_multiplied
  b_multiplied : Binds K fd_multiplied ["ratios", "bottom"] []
  g_multiplied : mg "multiplied" = some (.ref (He.ga K "multiplied"))
  fd_whole_product : FuncData
  F_whole_product : Fun K "whole_product" "whole_product" s_whole_product (He.ga K "whole_product") fd_whole_product
  b_whole_product : Binds K fd_whole_product ["one", "other"] []
  g_whole_product : mg "whole_product" = some (.ref (He.ga K "whole_product"))
  fd_Formula_init : FuncData
  F_Formula_init : Fun K "__init__" "Formula.__init__" s_Formula_init (He.ma K (He.ga K "Formula") "__init__") fd_Formula_init
  b_Formula_init : Binds K fd_Formula_init ["self", "terms"] []
  fd_Formula_terms : FuncData
  F_Formula_terms : Fun K "terms" "Formula.terms" s_Formula_terms (He.ma K (He.ga K "Formula") "terms") fd_Formula_terms
  b_Formula_terms : Binds K fd_Formula_terms ["self"] []
  fd_Formula_eq : FuncData
  F_Formula_eq : Fun K "__eq__" "Formula.__eq__" s_Formula_eq (He.ma K (He.ga K "Formula") "__eq__") fd_Formula_eq
  b_Formula_eq : Binds K fd_Formula_eq ["self", "other"] []
  fd_Formula_add : FuncData
  F_Formula_add : Fun K "__add__" "Formula.__add__" s_Formula_add (He.ma K (He.ga K "Formula") "__add__") fd_Formula_add
  b_Formula_add : Binds K fd_Formula_add ["self", "other"] []
  fd_Formula_sub : FuncData
  F_Formula_sub : Fun K "__sub__" "Formula.__sub__" s_Formula_sub (He.ma K (He.ga K "Formula") "__sub__") fd_Formula_sub
  b_Formula_sub : Binds K fd_Formula_sub ["self", "other"] []
  fd_Formula_mul : FuncData
  F_Formula_mul : Fun K "__mul__" "Formula.__mul__" s_Formula_mul (He.ma K (He.ga K "Formula") "__mul__") fd_Formula_mul
  b_Formula_mul : Binds K fd_Formula_mul ["self", "other"] []
  fd_Formula_neg : FuncData
  F_Formula_neg : Fun K "__neg__" "Formula.__neg__" s_Formula_neg (He.ma K (He.ga K "Formula") "__neg__") fd_Formula_neg
  b_Formula_neg : Binds K fd_Formula_neg ["self"] []
  fd_Formula_mirror : FuncData
  F_Formula_mirror : Fun K "mirror" "Formula.mirror" s_Formula_mirror (He.ma K (He.ga K "Formula") "mirror") fd_Formula_mirror
  b_Formula_mirror : Binds K fd_Formula_mirror ["self"] []
  fd_Formula_is_mirror : FuncData
  F_Formula_is_mirror : Fun K "is_mirror" "Formula.is_mirror" s_Formula_is_mirror (He.ma K (He.ga K "Formula") "is_mirror") fd_Formula_is_mirror
  b_Formula_is_mirror : Binds K fd_Formula_is_mirror ["self"] []
  fd_is_row : FuncData
  F_is_row : Fun K "_is_row" "_is_row" s_is_row (He.ga K "_is_row") fd_is_row
  b_is_row : Binds K fd_is_row ["given"] []
  g_is_row : mg "_is_row" = some (.ref (He.ga K "_is_row"))
  fd_shortened : FuncData
  F_shortened : Fun K "_shortened" "_shortened" s_shortened (He.ga K "_shortened") fd_shortened
  b_shortened : Binds K fd_shortened ["row"] []
  g_shortened : mg "_shortened" = some (.ref (He.ga K "_shortened"))
  fd_form_of : FuncData
  F_form_of : Fun K "_form_of" "_form_of" s_form_of (He.ga K "_form_of") fd_form_of
  b_form_of : Binds K fd_form_of ["terms"] []
  g_form_of : mg "_form_of" = some (.ref (He.ga K "_form_of"))
  fd_Polynomial_init : FuncData
  F_Polynomial_init : Fun K "__init__" "Polynomial.__init__" s_Polynomial_init (He.ma K (He.ga K "Polynomial") "__init__") fd_Polynomial_init
  b_Polynomial_init : Binds K fd_Polynomial_init ["self", "numbers"] []
  fd_Polynomial_terms : FuncData
  F_Polynomial_terms : Fun K "terms" "Polynomial.terms" s_Polynomial_terms (He.ma K (He.ga K "Polynomial") "terms") fd_Polynomial_terms
  b_Polynomial_terms : Binds K fd_Polynomial_terms ["self"] []
  fd_Polynomial_len : FuncData
  F_Polynomial_len : Fun K "__len__" "Polynomial.__len__" s_Polynomial_len (He.ma K (He.ga K "Polynomial") "__len__") fd_Polynomial_len
  b_Polynomial_len : Binds K fd_Polynomial_len ["self"] []
  fd_Polynomial_add : FuncData
  F_Polynomial_add : Fun K "__add__" "Polynomial.__add__" s_Polynomial_add (He.ma K (He.ga K "Polynomial") "__add__") fd_Polynomial_add
  b_Polynomial_add : Binds K fd_Polynomial_add ["self", "other"] []
  fd_Polynomial_sub : FuncData
  F_Polynomial_sub : Fun K "__sub__" "Polynomial.__sub__" s_Polynomial_sub (He.ma K (He.ga K "Polynomial") "__sub__") fd_Polynomial_sub
  b_Polynomial_sub : Binds K fd_Polynomial_sub ["self", "other"] []
  fd_Polynomial_mul : FuncData
  F_Polynomial_mul : Fun K "__mul__" "Polynomial.__mul__" s_Polynomial_mul (He.ma K (He.ga K "Polynomial") "__mul__") fd_Polynomial_mul
  b_Polynomial_mul : Binds K fd_Polynomial_mul ["self", "other"] []
  fd_Polynomial_worth : FuncData
  F_Polynomial_worth : Fun K "worth" "Polynomial.worth" s_Polynomial_worth (He.ma K (He.ga K "Polynomial") "worth") fd_Polynomial_worth
  b_Polynomial_worth : Binds K fd_Polynomial_worth ["self", "number"] []
  fd_term_at : FuncData
  F_term_at : Fun K "_term_at" "_term_at" s_term_at (He.ga K "_term_at") fd_term_at
  b_term_at : Binds K fd_term_at ["terms", "at"] []
  g_term_at : mg "_term_at" = some (.ref (He.ga K "_term_at"))
  fd_plane_factors : FuncData
  F_plane_factors : Fun K "plane_factors" "plane_factors" s_plane_factors (He.ga K "plane_factors") fd_plane_factors
  b_plane_factors : Binds K fd_plane_factors ["formula"] []
  g_plane_factors : mg "plane_factors" = some (.ref (He.ga K "plane_factors"))
  fd_shape : FuncData
  F_shape : Fun K "shape" "shape" s_shape (He.ga K "shape") fd_shape
  b_shape : Binds K fd_shape ["formula"] []
  g_shape : mg "shape" = some (.ref (He.ga K "shape"))
  fd_factor_of : FuncData
  F_factor_of : Fun K "_factor_of" "_factor_of" s_factor_of (He.ga K "_factor_of") fd_factor_of
  b_factor_of : Binds K fd_factor_of ["terms", "letters", "size"] []
  g_factor_of : mg "_factor_of" = some (.ref (He.ga K "_factor_of"))
  fd_cell : FuncData
  F_cell : Fun K "_law_cell" "_law_cell" s_cell (He.ga K "_law_cell") fd_cell
  b_cell : Binds K fd_cell ["_law_script", "_law_k"] []
  g_cell : mg "_law_cell" = some (.ref (He.ga K "_law_cell"))
  fd_box : FuncData
  F_box : Fun K "_law_box" "_law_box" s_box (He.ga K "_law_box") fd_box
  b_box : Binds K fd_box ["_law_script", "_law_k"] []
  g_box : mg "_law_box" = some (.ref (He.ga K "_law_box"))
  fd_take : FuncData
  F_take : Fun K "_law_take" "_law_take" s_take (He.ga K "_law_take") fd_take
  b_take : Binds K fd_take ["_law_box_here", "_law_many"] []
  g_take : mg "_law_take" = some (.ref (He.ga K "_law_take"))
  fd_frac : FuncData
  F_frac : Fun K "_law_frac" "_law_frac" s_frac (He.ga K "_law_frac") fd_frac
  b_frac : Binds K fd_frac ["_law_up", "_law_down"] []
  g_frac : mg "_law_frac" = some (.ref (He.ga K "_law_frac"))
  fd_plus : FuncData
  F_plus : Fun K "_law_plus" "_law_plus" s_plus (He.ga K "_law_plus") fd_plus
  b_plus : Binds K fd_plus ["_law_x", "_law_y"] []
  g_plus : mg "_law_plus" = some (.ref (He.ga K "_law_plus"))
  fd_times : FuncData
  F_times : Fun K "_law_times" "_law_times" s_times (He.ga K "_law_times") fd_times
  b_times : Binds K fd_times ["_law_x", "_law_y"] []
  g_times : mg "_law_times" = some (.ref (He.ga K "_law_times"))
  fd_minus : FuncData
  F_minus : Fun K "_law_minus" "_law_minus" s_minus (He.ga K "_law_minus") fd_minus
  b_minus : Binds K fd_minus ["_law_x", "_law_y"] []
  g_minus : mg "_law_minus" = some (.ref (He.ga K "_law_minus"))
  fd_number : FuncData
  F_number : Fun K "_law_number" "_law_number" s_number (He.ga K "_law_number") fd_number
  b_number : Binds K fd_number ["_law_box_here", "_law_most"] []
  g_number : mg "_law_number" = some (.ref (He.ga K "_law_number"))
  fd_short : FuncData
  F_short : Fun K "_law_short" "_law_short" s_short (He.ga K "_law_short") fd_short
  b_short : Binds K fd_short ["_law_row_here"] []
  g_short : mg "_law_short" = some (.ref (He.ga K "_law_short"))
  fd_form : FuncData
  F_form : Fun K "_law_form" "_law_form" s_form (He.ga K "_law_form") fd_form
  b_form : Binds K fd_form ["_law_pairs"] []
  g_form : mg "_law_form" = some (.ref (He.ga K "_law_form"))
  fd_row : FuncData
  F_row : Fun K "_law_row" "_law_row" s_row (He.ga K "_law_row") fd_row
  b_row : Binds K fd_row ["_law_box_here", "_law_most"] []
  g_row : mg "_law_row" = some (.ref (He.ga K "_law_row"))
  fd_terms : FuncData
  F_terms : Fun K "_law_terms" "_law_terms" s_terms (He.ga K "_law_terms") fd_terms
  b_terms : Binds K fd_terms ["_law_box_here", "_law_most", "_law_size"] []
  g_terms : mg "_law_terms" = some (.ref (He.ga K "_law_terms"))
  fd_formula : FuncData
  F_formula : Fun K "_law_formula" "_law_formula" s_formula (He.ga K "_law_formula") fd_formula
  b_formula : Binds K fd_formula ["_law_pairs"] []
  g_formula : mg "_law_formula" = some (.ref (He.ga K "_law_formula"))
  fd_times_tables : FuncData
  F_times_tables : Fun K "_law_times_tables" "_law_times_tables" s_times_tables (He.ga K "_law_times_tables") fd_times_tables
  b_times_tables : Binds K fd_times_tables ["_law_one", "_law_other"] []
  g_times_tables : mg "_law_times_tables" = some (.ref (He.ga K "_law_times_tables"))
  fd_added : FuncData
  F_added : Fun K "_law_added" "_law_added" s_added (He.ga K "_law_added") fd_added
  b_added : Binds K fd_added ["_law_one", "_law_other", "_law_factor"] []
  g_added : mg "_law_added" = some (.ref (He.ga K "_law_added"))
  fd_unit : FuncData
  F_unit : Fun K "_law_unit" "_law_unit" s_unit (He.ga K "_law_unit") fd_unit
  b_unit : Binds K fd_unit ["_law_size"] []
  g_unit : mg "_law_unit" = some (.ref (He.ga K "_law_unit"))
  fd_flipped : FuncData
  F_flipped : Fun K "_law_flipped" "_law_flipped" s_flipped (He.ga K "_law_flipped") fd_flipped
  b_flipped : Binds K fd_flipped ["_law_rows"] []
  g_flipped : mg "_law_flipped" = some (.ref (He.ga K "_law_flipped"))
  fd_plane : FuncData
  F_plane : Fun K "_law_plane" "_law_plane" s_plane (He.ga K "_law_plane") fd_plane
  b_plane : Binds K fd_plane ["_law_m"] []
  g_plane : mg "_law_plane" = some (.ref (He.ga K "_law_plane"))
  fd_value : FuncData
  F_value : Fun K "_law_value" "_law_value" s_value (He.ga K "_law_value") fd_value
  b_value : Binds K fd_value ["_law_pairs", "_law_first", "_law_second"] []
  g_value : mg "_law_value" = some (.ref (He.ga K "_law_value"))
  fd_mirrored : FuncData
  F_mirrored : Fun K "_law_mirrored" "_law_mirrored" s_mirrored (He.ga K "_law_mirrored") fd_mirrored
  b_mirrored : Binds K fd_mirrored ["_law_pairs"] []
  g_mirrored : mg "_law_mirrored" = some (.ref (He.ga K "_law_mirrored"))
  fd_shape_told : FuncData
  F_shape_told : Fun K "_law_shape_told" "_law_shape_told" s_shape_told (He.ga K "_law_shape_told") fd_shape_told
  b_shape_told : Binds K fd_shape_told ["_law_formula_here"] []
  g_shape_told : mg "_law_shape_told" = some (.ref (He.ga K "_law_shape_told"))
  fd_fits : FuncData
  F_fits : Fun K "_law_fits" "_law_fits" s_fits (He.ga K "_law_fits") fd_fits
  b_fits : Binds K fd_fits ["_law_polys", "_law_rows", "_law_t"] []
  g_fits : mg "_law_fits" = some (.ref (He.ga K "_law_fits"))
  fd_law : FuncData
  F_law : Fun K "law" "law" s_law (He.ga K "law") fd_law
  b_law : Binds K fd_law ["_law_script"] []
  g_law : mg "law" = some (.ref (He.ga K "law"))
  z_abs : mg "abs" = none
  z_all : mg "all" = none
  z_bool : mg "bool" = none
  z_classmethod : mg "classmethod" = none
  z_dict : mg "dict" = none
  z_divmod : mg "divmod" = none
  z_enumerate : mg "enumerate" = none
  z_int : mg "int" = none
  z_isinstance : mg "isinstance" = none
  z_len : mg "len" = none
  z_list : mg "list" = none
  z_max : mg "max" = none
  z_property : mg "property" = none
  z_range : mg "range" = none
  z_reversed : mg "reversed" = none
  z_sorted : mg "sorted" = none
  z_str : mg "str" = none
  z_tuple : mg "tuple" = none
  i_gcd : mg "gcd" = some (.builtin "math.gcd")
  i_lcm : mg "lcm" = some (.builtin "math.lcm")
  c_Ratio : mg "Ratio" = some (.ref (He.ga K "Ratio"))
  cl_R : Cls K (He.ga K "Ratio")
  nT_R : NoAttr K (He.ga K "Ratio") "_top"
  nB_R : NoAttr K (He.ga K "Ratio") "_bottom"
  mk_R : Mk K (He.ga K "Ratio") (He.ma K (He.ga K "Ratio") "__init__")
  p_top : PropOf K (He.ga K "Ratio") "top" (He.ma K (He.ga K "Ratio") "top") (FoZ.pg K "Ratio" "top")
  p_bottom : PropOf K (He.ga K "Ratio") "bottom" (He.ma K (He.ga K "Ratio") "bottom") (FoZ.pg K "Ratio" "bottom")
  bi_add : FoA.BinC K (He.ga K "Ratio") (He.ma K (He.ga K "Ratio") "__add__") .Add
  bi_sub : FoA.BinC K (He.ga K "Ratio") (He.ma K (He.ga K "Ratio") "__sub__") .Sub
  bi_mul : FoA.BinC K (He.ga K "Ratio") (He.ma K (He.ga K "Ratio") "__mul__") .Mult
  cm_eq : FoA.CmpC K (He.ga K "Ratio") (He.ma K (He.ga K "Ratio") "__eq__") .Eq
  m_neg : Meth K (He.ga K "Ratio") "__neg__" (He.ma K (He.ga K "Ratio") "__neg__")
  is_R : FoB.Isi K (He.ga K "Ratio")
  c_BadNumber : mg "BadNumber" = some (.ref (He.ga K "BadNumber"))
  e_BadNumber : FoB.OErr K (He.ga K "BadNumber") (He.ma K (He.ga K "BadNumber") "__init__") "given"
  ne_R : FoN.NeC K (He.ga K "Ratio")
  c_Formula : mg "Formula" = some (.ref (He.ga K "Formula"))
  cl_F : Cls K (He.ga K "Formula")
  mk_F : Mk K (He.ga K "Formula") (He.ma K (He.ga K "Formula") "__init__")
  nT_F : NoAttr K (He.ga K "Formula") "_terms"
  is_F : FoB.Isi K (He.ga K "Formula")
  c_Polynomial : mg "Polynomial" = some (.ref (He.ga K "Polynomial"))
  cl_P : Cls K (He.ga K "Polynomial")
  mk_P : Mk K (He.ga K "Polynomial") (He.ma K (He.ga K "Polynomial") "__init__")
  nT_P : NoAttr K (He.ga K "Polynomial") "_terms"
  is_P : FoB.Isi K (He.ga K "Polynomial")
  mF_terms : Meth K (He.ga K "Formula") "terms" (He.ma K (He.ga K "Formula") "terms")
  mF_mirror : Meth K (He.ga K "Formula") "mirror" (He.ma K (He.ga K "Formula") "mirror")
  mF_is_mirror : Meth K (He.ga K "Formula") "is_mirror" (He.ma K (He.ga K "Formula") "is_mirror")
  mF_neg : Meth K (He.ga K "Formula") "__neg__" (He.ma K (He.ga K "Formula") "__neg__")
  mP_terms : Meth K (He.ga K "Polynomial") "terms" (He.ma K (He.ga K "Polynomial") "terms")
  mP_worth : Meth K (He.ga K "Polynomial") "worth" (He.ma K (He.ga K "Polynomial") "worth")
  mP_len : Meth K (He.ga K "Polynomial") "__len__" (He.ma K (He.ga K "Polynomial") "__len__")
  biF_add : FoA.BinC K (He.ga K "Formula") (He.ma K (He.ga K "Formula") "__add__") .Add
  biF_sub : FoA.BinC K (He.ga K "Formula") (He.ma K (He.ga K "Formula") "__sub__") .Sub
  biF_mul : FoA.BinC K (He.ga K "Formula") (He.ma K (He.ga K "Formula") "__mul__") .Mult
  biP_add : FoA.BinC K (He.ga K "Polynomial") (He.ma K (He.ga K "Polynomial") "__add__") .Add
  biP_sub : FoA.BinC K (He.ga K "Polynomial") (He.ma K (He.ga K "Polynomial") "__sub__") .Sub
  biP_mul : FoA.BinC K (He.ga K "Polynomial") (He.ma K (He.ga K "Polynomial") "__mul__") .Mult
  cmF_eq : FoA.CmpC K (He.ga K "Formula") (He.ma K (He.ga K "Formula") "__eq__") .Eq
  c_NotMirror : mg "NotMirror" = some (.ref (He.ga K "NotMirror"))
  e_NotMirror : FoB.ErrC K (He.ga K "NotMirror")
end Fo

set_option maxHeartbeats 4100000
namespace Fo
open PySem PySem.Spec PyProof.Rows L2
def hb0 : List (PySem.W.Frag → Bool) := [(He.Fa.glo "is_whole").ok,
  (He.Fa.glo "is_number").ok,
  (He.Fa.glo "as_ratio").ok,
  (He.Fa.glo "trimmed").ok,
  (He.Fa.glo "shared_bottom").ok,
  (He.Fa.glo "multiplied").ok,
  (He.Fa.glo "whole_product").ok,
  (He.Fa.glo "_is_row").ok,
  (He.Fa.glo "_shortened").ok,
  (He.Fa.glo "_form_of").ok,
  (He.Fa.glo "_term_at").ok,
  (He.Fa.glo "plane_factors").ok,
  (He.Fa.glo "shape").ok,
  (He.Fa.glo "_factor_of").ok,
  (He.Fa.glo "_law_cell").ok,
  (He.Fa.glo "_law_box").ok,
  (He.Fa.glo "_law_take").ok,
  (He.Fa.glo "_law_frac").ok,
  (He.Fa.glo "_law_plus").ok,
  (He.Fa.glo "_law_times").ok,
  (He.Fa.glo "_law_minus").ok,
  (He.Fa.glo "_law_number").ok,
  (He.Fa.glo "_law_short").ok,
  (He.Fa.glo "_law_form").ok,
  (He.Fa.glo "_law_row").ok,
  (He.Fa.glo "_law_terms").ok,
  (He.Fa.glo "_law_formula").ok,
  (He.Fa.glo "_law_times_tables").ok,
  (He.Fa.glo "_law_added").ok,
  (He.Fa.glo "_law_unit").ok,
  (He.Fa.glo "_law_flipped").ok,
  (He.Fa.glo "_law_plane").ok,
  (He.Fa.glo "_law_value").ok,
  (He.Fa.glo "_law_mirrored").ok,
  (He.Fa.glo "_law_shape_told").ok,
  (He.Fa.glo "_law_fits").ok,
  (He.Fa.glo "law").ok,
  (He.Fa.free "abs").ok,
  (He.Fa.free "all").ok,
  (He.Fa.free "bool").ok,
  (He.Fa.free "classmethod").ok,
  (He.Fa.free "dict").ok,
  (He.Fa.free "divmod").ok,
  (He.Fa.free "enumerate").ok,
  (He.Fa.free "int").ok,
  (He.Fa.free "isinstance").ok,
  (He.Fa.free "len").ok,
  (He.Fa.free "list").ok,
  (He.Fa.free "max").ok,
  (He.Fa.free "property").ok]
def hd0 : List He5.DefA := [⟨fun K => (He.ma K (He.ga K "Ratio") "__init__"), "__init__", "Ratio.__init__", defArgs s_Ratio_init, defBody s_Ratio_init, defScope s_Ratio_init, [.int 1], []⟩,
  ⟨fun K => (FoZ.pg K "Ratio" "top"), "top", "Ratio.top", defArgs s_Ratio_top, defBody s_Ratio_top, defScope s_Ratio_top, [], []⟩,
  ⟨fun K => (FoZ.pg K "Ratio" "bottom"), "bottom", "Ratio.bottom", defArgs s_Ratio_bottom, defBody s_Ratio_bottom, defScope s_Ratio_bottom, [], []⟩,
  ⟨fun K => (He.ma K (He.ga K "Ratio") "__eq__"), "__eq__", "Ratio.__eq__", defArgs s_Ratio_eq, defBody s_Ratio_eq, defScope s_Ratio_eq, [], []⟩,
  ⟨fun K => (He.ma K (He.ga K "Ratio") "__add__"), "__add__", "Ratio.__add__", defArgs s_Ratio_add, defBody s_Ratio_add, defScope s_Ratio_add, [], []⟩,
  ⟨fun K => (He.ma K (He.ga K "Ratio") "__sub__"), "__sub__", "Ratio.__sub__", defArgs s_Ratio_sub, defBody s_Ratio_sub, defScope s_Ratio_sub, [], []⟩,
  ⟨fun K => (He.ma K (He.ga K "Ratio") "__mul__"), "__mul__", "Ratio.__mul__", defArgs s_Ratio_mul, defBody s_Ratio_mul, defScope s_Ratio_mul, [], []⟩,
  ⟨fun K => (He.ma K (He.ga K "Ratio") "__neg__"), "__neg__", "Ratio.__neg__", defArgs s_Ratio_neg, defBody s_Ratio_neg, defScope s_Ratio_neg, [], []⟩,
  ⟨fun K => (He.ga K "is_whole"), "is_whole", "is_whole", defArgs s_is_whole, defBody s_is_whole, defScope s_is_whole, [], []⟩,
  ⟨fun K => (He.ga K "is_number"), "is_number", "is_number", defArgs s_is_number, defBody s_is_number, defScope s_is_number, [], []⟩,
  ⟨fun K => (He.ga K "as_ratio"), "as_ratio", "as_ratio", defArgs s_as_ratio, defBody s_as_ratio, defScope s_as_ratio, [], []⟩,
  ⟨fun K => (He.ga K "trimmed"), "trimmed", "trimmed", defArgs s_trimmed, defBody s_trimmed, defScope s_trimmed, [], []⟩,
  ⟨fun K => (He.ga K "shared_bottom"), "shared_bottom", "shared_bottom", defArgs s_shared_bottom, defBody s_shared_bottom, defScope s_shared_bottom, [], []⟩,
  ⟨fun K => (He.ga K "multiplied"), "multiplied", "multiplied", defArgs s_multiplied, defBody s_multiplied, defScope s_multiplied, [], []⟩,
  ⟨fun K => (He.ga K "whole_product"), "whole_product", "whole_product", defArgs s_whole_product, defBody s_whole_product, defScope s_whole_product, [], []⟩,
  ⟨fun K => (He.ma K (He.ga K "Formula") "__init__"), "__init__", "Formula.__init__", defArgs s_Formula_init, defBody s_Formula_init, defScope s_Formula_init, [], []⟩,
  ⟨fun K => (He.ma K (He.ga K "Formula") "terms"), "terms", "Formula.terms", defArgs s_Formula_terms, defBody s_Formula_terms, defScope s_Formula_terms, [], []⟩,
  ⟨fun K => (He.ma K (He.ga K "Formula") "__eq__"), "__eq__", "Formula.__eq__", defArgs s_Formula_eq, defBody s_Formula_eq, defScope s_Formula_eq, [], []⟩,
  ⟨fun K => (He.ma K (He.ga K "Formula") "__add__"), "__add__", "Formula.__add__", defArgs s_Formula_add, defBody s_Formula_add, defScope s_Formula_add, [], []⟩,
  ⟨fun K => (He.ma K (He.ga K "Formula") "__sub__"), "__sub__", "Formula.__sub__", defArgs s_Formula_sub, defBody s_Formula_sub, defScope s_Formula_sub, [], []⟩,
  ⟨fun K => (He.ma K (He.ga K "Formula") "__mul__"), "__mul__", "Formula.__mul__", defArgs s_Formula_mul, defBody s_Formula_mul, defScope s_Formula_mul, [], []⟩,
  ⟨fun K => (He.ma K (He.ga K "Formula") "__neg__"), "__neg__", "Formula.__neg__", defArgs s_Formula_neg, defBody s_Formula_neg, defScope s_Formula_neg, [], []⟩,
  ⟨fun K => (He.ma K (He.ga K "Formula") "mirror"), "mirror", "Formula.mirror", defArgs s_Formula_mirror, defBody s_Formula_mirror, defScope s_Formula_mirror, [], []⟩,
  ⟨fun K => (He.ma K (He.ga K "Formula") "is_mirror"), "is_mirror", "Formula.is_mirror", defArgs s_Formula_is_mirror, defBody s_Formula_is_mirror, defScope s_Formula_is_mirror, [], []⟩,
  ⟨fun K => (He.ga K "_is_row"), "_is_row", "_is_row", defArgs s_is_row, defBody s_is_row, defScope s_is_row, [], []⟩,
  ⟨fun K => (He.ga K "_shortened"), "_shortened", "_shortened", defArgs s_shortened, defBody s_shortened, defScope s_shortened, [], []⟩,
  ⟨fun K => (He.ga K "_form_of"), "_form_of", "_form_of", defArgs s_form_of, defBody s_form_of, defScope s_form_of, [], []⟩,
  ⟨fun K => (He.ma K (He.ga K "Polynomial") "__init__"), "__init__", "Polynomial.__init__", defArgs s_Polynomial_init, defBody s_Polynomial_init, defScope s_Polynomial_init, [], []⟩,
  ⟨fun K => (He.ma K (He.ga K "Polynomial") "terms"), "terms", "Polynomial.terms", defArgs s_Polynomial_terms, defBody s_Polynomial_terms, defScope s_Polynomial_terms, [], []⟩,
  ⟨fun K => (He.ma K (He.ga K "Polynomial") "__len__"), "__len__", "Polynomial.__len__", defArgs s_Polynomial_len, defBody s_Polynomial_len, defScope s_Polynomial_len, [], []⟩,
  ⟨fun K => (He.ma K (He.ga K "Polynomial") "__add__"), "__add__", "Polynomial.__add__", defArgs s_Polynomial_add, defBody s_Polynomial_add, defScope s_Polynomial_add, [], []⟩]
def hb1 : List (PySem.W.Frag → Bool) := [(He.Fa.free "range").ok,
  (He.Fa.free "reversed").ok,
  (He.Fa.free "sorted").ok,
  (He.Fa.free "str").ok,
  (He.Fa.free "tuple").ok,
  FoZ.impB "gcd" "math.gcd",
  FoZ.impB "lcm" "math.lcm",
  (He.Fa.glo "Ratio").ok,
  (He.Fa.cls "Ratio").ok,
  (He.Fa.noat "Ratio" "_top").ok,
  (He.Fa.noat "Ratio" "_bottom").ok,
  (He.Fa.mkr "Ratio").ok,
  FoZ.propB "Ratio" "top",
  FoZ.propB "Ratio" "bottom",
  FoZ.binB "Ratio" "__add__" "__radd__",
  FoZ.binB "Ratio" "__sub__" "__rsub__",
  FoZ.binB "Ratio" "__mul__" "__rmul__",
  FoZ.cmpB "Ratio" "__eq__",
  (He.Fa.meth "Ratio" "__neg__").ok,
  FoB.isiB "Ratio",
  (He.Fa.glo "BadNumber").ok,
  FoB.oexB "BadNumber" "given",
  FoN.neB "Ratio",
  (He.Fa.glo "Formula").ok,
  (He.Fa.cls "Formula").ok,
  (He.Fa.mkr "Formula").ok,
  (He.Fa.noat "Formula" "_terms").ok,
  FoB.isiB "Formula",
  (He.Fa.glo "Polynomial").ok,
  (He.Fa.cls "Polynomial").ok,
  (He.Fa.mkr "Polynomial").ok,
  (He.Fa.noat "Polynomial" "_terms").ok,
  FoB.isiB "Polynomial",
  (He.Fa.meth "Formula" "terms").ok,
  (He.Fa.meth "Formula" "mirror").ok,
  (He.Fa.meth "Formula" "is_mirror").ok,
  (He.Fa.meth "Formula" "__neg__").ok,
  (He.Fa.meth "Polynomial" "terms").ok,
  (He.Fa.meth "Polynomial" "worth").ok,
  (He.Fa.meth "Polynomial" "__len__").ok,
  FoZ.binB "Formula" "__add__" "__radd__",
  FoZ.binB "Formula" "__sub__" "__rsub__",
  FoZ.binB "Formula" "__mul__" "__rmul__",
  FoZ.binB "Polynomial" "__add__" "__radd__",
  FoZ.binB "Polynomial" "__sub__" "__rsub__",
  FoZ.binB "Polynomial" "__mul__" "__rmul__",
  FoZ.cmpB "Formula" "__eq__",
  (He.Fa.glo "NotMirror").ok,
  FoB.errB "NotMirror"]
def hd1 : List He5.DefA := [⟨fun K => (He.ma K (He.ga K "Polynomial") "__sub__"), "__sub__", "Polynomial.__sub__", defArgs s_Polynomial_sub, defBody s_Polynomial_sub, defScope s_Polynomial_sub, [], []⟩,
  ⟨fun K => (He.ma K (He.ga K "Polynomial") "__mul__"), "__mul__", "Polynomial.__mul__", defArgs s_Polynomial_mul, defBody s_Polynomial_mul, defScope s_Polynomial_mul, [], []⟩,
  ⟨fun K => (He.ma K (He.ga K "Polynomial") "worth"), "worth", "Polynomial.worth", defArgs s_Polynomial_worth, defBody s_Polynomial_worth, defScope s_Polynomial_worth, [], []⟩,
  ⟨fun K => (He.ga K "_term_at"), "_term_at", "_term_at", defArgs s_term_at, defBody s_term_at, defScope s_term_at, [], []⟩,
  ⟨fun K => (He.ga K "plane_factors"), "plane_factors", "plane_factors", defArgs s_plane_factors, defBody s_plane_factors, defScope s_plane_factors, [], []⟩,
  ⟨fun K => (He.ga K "shape"), "shape", "shape", defArgs s_shape, defBody s_shape, defScope s_shape, [], []⟩,
  ⟨fun K => (He.ga K "_factor_of"), "_factor_of", "_factor_of", defArgs s_factor_of, defBody s_factor_of, defScope s_factor_of, [], []⟩,
  ⟨fun K => (He.ga K "_law_cell"), "_law_cell", "_law_cell", defArgs s_cell, defBody s_cell, defScope s_cell, [], []⟩,
  ⟨fun K => (He.ga K "_law_box"), "_law_box", "_law_box", defArgs s_box, defBody s_box, defScope s_box, [], []⟩,
  ⟨fun K => (He.ga K "_law_take"), "_law_take", "_law_take", defArgs s_take, defBody s_take, defScope s_take, [], []⟩,
  ⟨fun K => (He.ga K "_law_frac"), "_law_frac", "_law_frac", defArgs s_frac, defBody s_frac, defScope s_frac, [], []⟩,
  ⟨fun K => (He.ga K "_law_plus"), "_law_plus", "_law_plus", defArgs s_plus, defBody s_plus, defScope s_plus, [], []⟩,
  ⟨fun K => (He.ga K "_law_times"), "_law_times", "_law_times", defArgs s_times, defBody s_times, defScope s_times, [], []⟩,
  ⟨fun K => (He.ga K "_law_minus"), "_law_minus", "_law_minus", defArgs s_minus, defBody s_minus, defScope s_minus, [], []⟩,
  ⟨fun K => (He.ga K "_law_number"), "_law_number", "_law_number", defArgs s_number, defBody s_number, defScope s_number, [], []⟩,
  ⟨fun K => (He.ga K "_law_short"), "_law_short", "_law_short", defArgs s_short, defBody s_short, defScope s_short, [], []⟩,
  ⟨fun K => (He.ga K "_law_form"), "_law_form", "_law_form", defArgs s_form, defBody s_form, defScope s_form, [], []⟩,
  ⟨fun K => (He.ga K "_law_row"), "_law_row", "_law_row", defArgs s_row, defBody s_row, defScope s_row, [], []⟩,
  ⟨fun K => (He.ga K "_law_terms"), "_law_terms", "_law_terms", defArgs s_terms, defBody s_terms, defScope s_terms, [], []⟩,
  ⟨fun K => (He.ga K "_law_formula"), "_law_formula", "_law_formula", defArgs s_formula, defBody s_formula, defScope s_formula, [], []⟩,
  ⟨fun K => (He.ga K "_law_times_tables"), "_law_times_tables", "_law_times_tables", defArgs s_times_tables, defBody s_times_tables, defScope s_times_tables, [], []⟩,
  ⟨fun K => (He.ga K "_law_added"), "_law_added", "_law_added", defArgs s_added, defBody s_added, defScope s_added, [], []⟩,
  ⟨fun K => (He.ga K "_law_unit"), "_law_unit", "_law_unit", defArgs s_unit, defBody s_unit, defScope s_unit, [], []⟩,
  ⟨fun K => (He.ga K "_law_flipped"), "_law_flipped", "_law_flipped", defArgs s_flipped, defBody s_flipped, defScope s_flipped, [], []⟩,
  ⟨fun K => (He.ga K "_law_plane"), "_law_plane", "_law_plane", defArgs s_plane, defBody s_plane, defScope s_plane, [], []⟩,
  ⟨fun K => (He.ga K "_law_value"), "_law_value", "_law_value", defArgs s_value, defBody s_value, defScope s_value, [], []⟩,
  ⟨fun K => (He.ga K "_law_mirrored"), "_law_mirrored", "_law_mirrored", defArgs s_mirrored, defBody s_mirrored, defScope s_mirrored, [], []⟩,
  ⟨fun K => (He.ga K "_law_shape_told"), "_law_shape_told", "_law_shape_told", defArgs s_shape_told, defBody s_shape_told, defScope s_shape_told, [], []⟩,
  ⟨fun K => (He.ga K "_law_fits"), "_law_fits", "_law_fits", defArgs s_fits, defBody s_fits, defScope s_fits, [], []⟩,
  ⟨fun K => (He.ga K "law"), "law", "law", defArgs s_law, defBody s_law, defScope s_law, [], []⟩]
def hb : List (PySem.W.Frag → Bool) := hb0 ++ hb1
def hd : List He5.DefA := hd0 ++ hd1
abbrev R : PySem.W.OpenRow := PySem.W.OpenLaw.row PySem.Challenge.rw_filterorders_k28_shapes
def adrs : List Addr := ([3, 6, 4, 49, 59, 72, 91, 103, 122, 134, 243, 254, 261, 268, 275, 282, 289, 296, 303, 308, 313, 409, 418, 425, 430, 437, 444, 451, 528, 539, 546, 553, 558, 565, 572, 579, 586, 593, 600, 607, 614, 621, 628, 635, 642, 647, 652, 657, 664, 671, 676, 681, 686, 693, 700, 707, 714, 721, 726, 733] : List Addr) ++ ([740, 745, 0, 48, 58, 71, 90, 102, 121, 133, 242, 253, 260, 267, 274, 281, 288, 295, 302, 307, 312, 408, 417, 424, 429, 436, 443, 450, 527, 538, 545, 552, 557, 564, 571, 578, 585, 592, 599, 606, 613, 620, 627, 634, 641, 646, 651, 656, 663, 670, 675, 680, 685, 692, 699, 706, 713, 720, 725, 732] : List Addr) ++ ([739, 744, 43, 44, 45, 46, 47, 57, 60, 70, 88, 89, 101, 119, 120, 132, 151, 160, 169, 177, 184, 191, 198, 205, 212, 219, 226, 233, 240, 241, 244, 245, 248, 249, 250, 251, 252, 255, 256, 257, 258, 259, 262, 263, 264, 265, 266, 269, 270, 271, 272, 273, 276, 277, 278, 279, 280, 283, 284, 285] : List Addr) ++ ([286, 287, 290, 291, 292, 293, 294, 297, 298, 299, 300, 301, 304, 305, 306, 309, 310, 311, 325, 334, 342, 349, 356, 363, 370, 375, 380, 385, 392, 399, 406, 407, 410, 411, 414, 415, 416, 419, 420, 421, 422, 423, 426, 427, 428, 431, 432, 433, 434, 435, 438, 439, 440, 441, 442, 445, 446, 447, 448, 449] : List Addr) ++ ([463, 470, 477, 484, 489, 494, 499, 504, 511, 518, 525, 526, 529, 530, 533, 534, 535, 536, 537, 540, 541, 542, 543, 544, 547, 548, 549, 550, 551, 554, 555, 556, 559, 560, 561, 562, 563, 566, 567, 568, 569, 570, 573, 574, 575, 576, 577, 580, 581, 582, 583, 584, 587, 588, 589, 590, 591, 594, 595, 596] : List Addr) ++ ([597, 598, 601, 602, 603, 604, 605, 608, 609, 610, 611, 612, 615, 616, 617, 618, 619, 622, 623, 624, 625, 626, 629, 630, 631, 632, 633, 636, 637, 638, 639, 640, 643, 644, 645, 648, 649, 650, 653, 654, 655, 658, 659, 660, 661, 662, 665, 666, 667, 668, 669, 672, 673, 674, 677, 678, 679, 682, 683, 684] : List Addr) ++ ([687, 688, 689, 690, 691, 694, 695, 696, 697, 698, 701, 702, 703, 704, 705, 708, 709, 710, 711, 712, 715, 716, 717, 718, 719, 722, 723, 724, 727, 728, 729, 730, 731, 734, 735, 736, 737, 738, 741, 742, 743, 87, 118, 150, 144, 158, 159, 168, 176, 183, 190, 197, 204, 211, 218, 225, 232, 239, 324, 332] : List Addr) ++ ([333, 341, 348, 355, 362, 369, 374, 379, 384, 391, 398, 405, 462, 469, 476, 483, 488, 493, 498, 503, 510, 517, 524, 82, 83, 84, 85, 86, 113, 114, 115, 116, 117, 145, 146, 147, 148, 149, 157, 161, 167, 175, 178, 179, 180, 181, 182, 185, 186, 187, 188, 189, 192, 193, 194, 195, 196, 199, 200, 201] : List Addr) ++ ([202, 203, 206, 207, 208, 209, 210, 213, 214, 215, 216, 217, 220, 221, 222, 223, 224, 227, 228, 229, 230, 231, 234, 235, 236, 237, 238, 321, 322, 323, 331, 335, 336, 337, 338, 339, 340, 343, 344, 345, 346, 347, 350, 351, 352, 353, 354, 357, 358, 359, 360, 361, 364, 365, 366, 367, 368, 371, 372, 373] : List Addr) ++ ([376, 377, 378, 381, 382, 383, 386, 387, 388, 389, 390, 393, 394, 395, 396, 397, 400, 401, 402, 403, 404, 459, 460, 461, 464, 465, 466, 467, 468, 471, 472, 473, 474, 475, 478, 479, 480, 481, 482, 485, 486, 487, 490, 491, 492, 495, 496, 497, 500, 501, 502, 505, 506, 507, 508, 509, 512, 513, 514, 515] : List Addr) ++ ([516, 519, 520, 521, 522, 523, 152, 153, 154, 155, 156, 162, 163, 164, 165, 166, 170, 171, 172, 173, 174, 326, 327, 328, 329, 330, 2] : List Addr)
abbrev hk : PySem.W.Hook := FoZ.hookL adrs hb hd
def ob (s : PySem.W.SharedT) : Bool × List He.FnW := FoZ.lookL adrs hb hd (HandSHeadRun.getT s)
theorem ob_eq (s : PySem.W.SharedT) : ob s = hk.obs s.abs := FoZ.lookL_eq (HandSHeadRun.getT_eq s)
def loose : List PySem.Str := (["gcd", "lcm", "_wall", "FilterError", "ByZero", "BadNumber", "BadText", "BadRow", "NotMirror", "PIECE_DIGITS", "PIECE", "Ratio", "is_whole", "is_number", "as_ratio", "_has_only_digits", "_decimal", "_integer_of", "trimmed", "shared_bottom", "multiplied", "whole_product", "Formula", "_is_row", "_shortened", "_form_of", "_term_text", "_terms_of", "_read_term", "Polynomial"] : List PySem.Str) ++ (["_term_at", "plane_factors", "shape", "_factor_of", "_law_cell", "_law_box", "_law_take", "_law_frac", "_law_plus", "_law_times", "_law_minus", "_law_less", "_law_number", "_law_handed", "_law_told", "_law_short", "_law_form", "_law_row", "_law_terms", "_law_formula", "_law_times_tables", "_law_added", "_law_unit", "_law_flipped", "_law_sent", "_law_trace", "_law_plane", "_law_value", "_law_flat", "_law_mirrored"] : List PySem.Str) ++ (["_law_shape_told", "_law_fits"] : List PySem.Str)
theorem run1 (w : World) : (FoI.endI HandSHeadRun.tabQ (HandSHeadRun.stepQ (HandSHeadRun.denQ HandSHeadRun.tabQ) R.prog w) 20000 R.prog w).map (fun s => FoI.looksI R.prog s.1 s.2.abs) = some true := by
  kernel_rfl
theorem run2 (w : World) : (FoI.endI HandSHeadRun.tabQ (HandSHeadRun.stepQ (HandSHeadRun.denQ HandSHeadRun.tabQ) R.prog w) 20000 R.prog w).map (fun s => HandSHeadRun.seenQ (PySem.W.view R.prog [68]) loose (PySem.importedModules R.prog.main.body) (fun s => PySem.W.xlAt (PySem.W.view R.prog [68]) [] s && PySem.W.recOk R.toRowW.records s) s.2.abs) = some (PySem.W.openGood (PySem.W.view R.prog [68]) loose) := by
  kernel_rfl
theorem look0 (w : World) : (FoI.endI HandSHeadRun.tabQ (HandSHeadRun.stepQ (HandSHeadRun.denQ HandSHeadRun.tabQ) R.prog w) 20000 R.prog w).map (fun s => FoZ.lookL adrs hb0 hd0 (HandSHeadRun.getT s.2)) = some (FoZ.want hd0) := by
  kernel_rfl
theorem look1 (w : World) : (FoI.endI HandSHeadRun.tabQ (HandSHeadRun.stepQ (HandSHeadRun.denQ HandSHeadRun.tabQ) R.prog w) 20000 R.prog w).map (fun s => FoZ.lookL adrs hb1 hd1 (HandSHeadRun.getT s.2)) = some (FoZ.want hd1) := by
  kernel_rfl
theorem run3 (w : World) : (FoI.endI HandSHeadRun.tabQ (HandSHeadRun.stepQ (HandSHeadRun.denQ HandSHeadRun.tabQ) R.prog w) 20000 R.prog w).map (fun s => ob s.2) = some (hk.val w) := (FoI.looks_mapL (look0 w) (look1 w))
theorem run (w : World) : FoI.RunI R (PySem.W.view R.prog [68]) hk ob 20000 loose w := FoI.run_of (run1 w) (run2 w) (run3 w)
theorem facts {K : PySem.W.Frag} {h : Heap} {mg : Str → Option Value} (X : K.In h) (G : h.Ns mainGlobals mg) (c : FoZ.Told hb hd K) : Nonempty (Tx K mg) := by
  obtain ⟨fd0, F0⟩ := c.defn 0
  obtain ⟨fd1, F1⟩ := c.defn 1
  obtain ⟨fd2, F2⟩ := c.defn 2
  obtain ⟨fd3, F3⟩ := c.defn 3
  obtain ⟨fd4, F4⟩ := c.defn 4
  obtain ⟨fd5, F5⟩ := c.defn 5
  obtain ⟨fd6, F6⟩ := c.defn 6
  obtain ⟨fd7, F7⟩ := c.defn 7
  obtain ⟨fd8, F8⟩ := c.defn 8
  obtain ⟨fd9, F9⟩ := c.defn 9
  obtain ⟨fd10, F10⟩ := c.defn 10
  obtain ⟨fd11, F11⟩ := c.defn 11
  obtain ⟨fd12, F12⟩ := c.defn 12
  obtain ⟨fd13, F13⟩ := c.defn 13
  obtain ⟨fd14, F14⟩ := c.defn 14
  obtain ⟨fd15, F15⟩ := c.defn 15
  obtain ⟨fd16, F16⟩ := c.defn 16
  obtain ⟨fd17, F17⟩ := c.defn 17
  obtain ⟨fd18, F18⟩ := c.defn 18
  obtain ⟨fd19, F19⟩ := c.defn 19
  obtain ⟨fd20, F20⟩ := c.defn 20
  obtain ⟨fd21, F21⟩ := c.defn 21
  obtain ⟨fd22, F22⟩ := c.defn 22
  obtain ⟨fd23, F23⟩ := c.defn 23
  obtain ⟨fd24, F24⟩ := c.defn 24
  obtain ⟨fd25, F25⟩ := c.defn 25
  obtain ⟨fd26, F26⟩ := c.defn 26
  obtain ⟨fd27, F27⟩ := c.defn 27
  obtain ⟨fd28, F28⟩ := c.defn 28
  obtain ⟨fd29, F29⟩ := c.defn 29
  obtain ⟨fd30, F30⟩ := c.defn 30
  obtain ⟨fd31, F31⟩ := c.defn 31
  obtain ⟨fd32, F32⟩ := c.defn 32
  obtain ⟨fd33, F33⟩ := c.defn 33
  obtain ⟨fd34, F34⟩ := c.defn 34
  obtain ⟨fd35, F35⟩ := c.defn 35
  obtain ⟨fd36, F36⟩ := c.defn 36
  obtain ⟨fd37, F37⟩ := c.defn 37
  obtain ⟨fd38, F38⟩ := c.defn 38
  obtain ⟨fd39, F39⟩ := c.defn 39
  obtain ⟨fd40, F40⟩ := c.defn 40
  obtain ⟨fd41, F41⟩ := c.defn 41
  obtain ⟨fd42, F42⟩ := c.defn 42
  obtain ⟨fd43, F43⟩ := c.defn 43
  obtain ⟨fd44, F44⟩ := c.defn 44
  obtain ⟨fd45, F45⟩ := c.defn 45
  obtain ⟨fd46, F46⟩ := c.defn 46
  obtain ⟨fd47, F47⟩ := c.defn 47
  obtain ⟨fd48, F48⟩ := c.defn 48
  obtain ⟨fd49, F49⟩ := c.defn 49
  obtain ⟨fd50, F50⟩ := c.defn 50
  obtain ⟨fd51, F51⟩ := c.defn 51
  obtain ⟨fd52, F52⟩ := c.defn 52
  obtain ⟨fd53, F53⟩ := c.defn 53
  obtain ⟨fd54, F54⟩ := c.defn 54
  obtain ⟨fd55, F55⟩ := c.defn 55
  obtain ⟨fd56, F56⟩ := c.defn 56
  obtain ⟨fd57, F57⟩ := c.defn 57
  obtain ⟨fd58, F58⟩ := c.defn 58
  obtain ⟨fd59, F59⟩ := c.defn 59
  obtain ⟨fd60, F60⟩ := c.defn 60
  exact ⟨⟨fd0,
    F0,
    fd1,
    He5.fun_of (st := s_Ratio_top) F1,
    ((He5.fun_of (st := s_Ratio_top) F1).binds (ps := ["self"]) fun _ _ _ _ _ _ us hl => match us, hl with | [_], _ => rfl),
    fd2,
    He5.fun_of (st := s_Ratio_bottom) F2,
    ((He5.fun_of (st := s_Ratio_bottom) F2).binds (ps := ["self"]) fun _ _ _ _ _ _ us hl => match us, hl with | [_], _ => rfl),
    fd3,
    He5.fun_of (st := s_Ratio_eq) F3,
    ((He5.fun_of (st := s_Ratio_eq) F3).binds (ps := ["self", "other"]) fun _ _ _ _ _ _ us hl => match us, hl with | [_, _], _ => rfl),
    fd4,
    He5.fun_of (st := s_Ratio_add) F4,
    ((He5.fun_of (st := s_Ratio_add) F4).binds (ps := ["self", "other"]) fun _ _ _ _ _ _ us hl => match us, hl with | [_, _], _ => rfl),
    fd5,
    He5.fun_of (st := s_Ratio_sub) F5,
    ((He5.fun_of (st := s_Ratio_sub) F5).binds (ps := ["self", "other"]) fun _ _ _ _ _ _ us hl => match us, hl with | [_, _], _ => rfl),
    fd6,
    He5.fun_of (st := s_Ratio_mul) F6,
    ((He5.fun_of (st := s_Ratio_mul) F6).binds (ps := ["self", "other"]) fun _ _ _ _ _ _ us hl => match us, hl with | [_, _], _ => rfl),
    fd7,
    He5.fun_of (st := s_Ratio_neg) F7,
    ((He5.fun_of (st := s_Ratio_neg) F7).binds (ps := ["self"]) fun _ _ _ _ _ _ us hl => match us, hl with | [_], _ => rfl),
    fd8,
    He5.fun_of (st := s_is_whole) F8,
    ((He5.fun_of (st := s_is_whole) F8).binds (ps := ["given"]) fun _ _ _ _ _ _ us hl => match us, hl with | [_], _ => rfl),
    He.glo_ok X G (c.bool 0),
    fd9,
    He5.fun_of (st := s_is_number) F9,
    ((He5.fun_of (st := s_is_number) F9).binds (ps := ["given"]) fun _ _ _ _ _ _ us hl => match us, hl with | [_], _ => rfl),
    He.glo_ok X G (c.bool 1),
    fd10,
    He5.fun_of (st := s_as_ratio) F10,
    ((He5.fun_of (st := s_as_ratio) F10).binds (ps := ["given"]) fun _ _ _ _ _ _ us hl => match us, hl with | [_], _ => rfl),
    He.glo_ok X G (c.bool 2),
    fd11,
    He5.fun_of (st := s_trimmed) F11,
    ((He5.fun_of (st := s_trimmed) F11).binds (ps := ["terms"]) fun _ _ _ _ _ _ us hl => match us, hl with | [_], _ => rfl),
    He.glo_ok X G (c.bool 3),
    fd12,
    He5.fun_of (st := s_shared_bottom) F12,
    ((He5.fun_of (st := s_shared_bottom) F12).binds (ps := ["ratios"]) fun _ _ _ _ _ _ us hl => match us, hl with | [_], _ => rfl),
    He.glo_ok X G (c.bool 4),
    fd13,
    He5.fun_of (st := s_multiplied) F13,
    ((He5.fun_of (st := s_multiplied) F13).binds (ps := ["ratios", "bottom"]) fun _ _ _ _ _ _ us hl => match us, hl with | [_, _], _ => rfl),
    He.glo_ok X G (c.bool 5),
    fd14,
    He5.fun_of (st := s_whole_product) F14,
    ((He5.fun_of (st := s_whole_product) F14).binds (ps := ["one", "other"]) fun _ _ _ _ _ _ us hl => match us, hl with | [_, _], _ => rfl),
    He.glo_ok X G (c.bool 6),
    fd15,
    He5.fun_of (st := s_Formula_init) F15,
    ((He5.fun_of (st := s_Formula_init) F15).binds (ps := ["self", "terms"]) fun _ _ _ _ _ _ us hl => match us, hl with | [_, _], _ => rfl),
    fd16,
    He5.fun_of (st := s_Formula_terms) F16,
    ((He5.fun_of (st := s_Formula_terms) F16).binds (ps := ["self"]) fun _ _ _ _ _ _ us hl => match us, hl with | [_], _ => rfl),
    fd17,
    He5.fun_of (st := s_Formula_eq) F17,
    ((He5.fun_of (st := s_Formula_eq) F17).binds (ps := ["self", "other"]) fun _ _ _ _ _ _ us hl => match us, hl with | [_, _], _ => rfl),
    fd18,
    He5.fun_of (st := s_Formula_add) F18,
    ((He5.fun_of (st := s_Formula_add) F18).binds (ps := ["self", "other"]) fun _ _ _ _ _ _ us hl => match us, hl with | [_, _], _ => rfl),
    fd19,
    He5.fun_of (st := s_Formula_sub) F19,
    ((He5.fun_of (st := s_Formula_sub) F19).binds (ps := ["self", "other"]) fun _ _ _ _ _ _ us hl => match us, hl with | [_, _], _ => rfl),
    fd20,
    He5.fun_of (st := s_Formula_mul) F20,
    ((He5.fun_of (st := s_Formula_mul) F20).binds (ps := ["self", "other"]) fun _ _ _ _ _ _ us hl => match us, hl with | [_, _], _ => rfl),
    fd21,
    He5.fun_of (st := s_Formula_neg) F21,
    ((He5.fun_of (st := s_Formula_neg) F21).binds (ps := ["self"]) fun _ _ _ _ _ _ us hl => match us, hl with | [_], _ => rfl),
    fd22,
    He5.fun_of (st := s_Formula_mirror) F22,
    ((He5.fun_of (st := s_Formula_mirror) F22).binds (ps := ["self"]) fun _ _ _ _ _ _ us hl => match us, hl with | [_], _ => rfl),
    fd23,
    He5.fun_of (st := s_Formula_is_mirror) F23,
    ((He5.fun_of (st := s_Formula_is_mirror) F23).binds (ps := ["self"]) fun _ _ _ _ _ _ us hl => match us, hl with | [_], _ => rfl),
    fd24,
    He5.fun_of (st := s_is_row) F24,
    ((He5.fun_of (st := s_is_row) F24).binds (ps := ["given"]) fun _ _ _ _ _ _ us hl => match us, hl with | [_], _ => rfl),
    He.glo_ok X G (c.bool 7),
    fd25,
    He5.fun_of (st := s_shortened) F25,
    ((He5.fun_of (st := s_shortened) F25).binds (ps := ["row"]) fun _ _ _ _ _ _ us hl => match us, hl with | [_], _ => rfl),
    He.glo_ok X G (c.bool 8),
    fd26,
    He5.fun_of (st := s_form_of) F26,
    ((He5.fun_of (st := s_form_of) F26).binds (ps := ["terms"]) fun _ _ _ _ _ _ us hl => match us, hl with | [_], _ => rfl),
    He.glo_ok X G (c.bool 9),
    fd27,
    He5.fun_of (st := s_Polynomial_init) F27,
    ((He5.fun_of (st := s_Polynomial_init) F27).binds (ps := ["self", "numbers"]) fun _ _ _ _ _ _ us hl => match us, hl with | [_, _], _ => rfl),
    fd28,
    He5.fun_of (st := s_Polynomial_terms) F28,
    ((He5.fun_of (st := s_Polynomial_terms) F28).binds (ps := ["self"]) fun _ _ _ _ _ _ us hl => match us, hl with | [_], _ => rfl),
    fd29,
    He5.fun_of (st := s_Polynomial_len) F29,
    ((He5.fun_of (st := s_Polynomial_len) F29).binds (ps := ["self"]) fun _ _ _ _ _ _ us hl => match us, hl with | [_], _ => rfl),
    fd30,
    He5.fun_of (st := s_Polynomial_add) F30,
    ((He5.fun_of (st := s_Polynomial_add) F30).binds (ps := ["self", "other"]) fun _ _ _ _ _ _ us hl => match us, hl with | [_, _], _ => rfl),
    fd31,
    He5.fun_of (st := s_Polynomial_sub) F31,
    ((He5.fun_of (st := s_Polynomial_sub) F31).binds (ps := ["self", "other"]) fun _ _ _ _ _ _ us hl => match us, hl with | [_, _], _ => rfl),
    fd32,
    He5.fun_of (st := s_Polynomial_mul) F32,
    ((He5.fun_of (st := s_Polynomial_mul) F32).binds (ps := ["self", "other"]) fun _ _ _ _ _ _ us hl => match us, hl with | [_, _], _ => rfl),
    fd33,
    He5.fun_of (st := s_Polynomial_worth) F33,
    ((He5.fun_of (st := s_Polynomial_worth) F33).binds (ps := ["self", "number"]) fun _ _ _ _ _ _ us hl => match us, hl with | [_, _], _ => rfl),
    fd34,
    He5.fun_of (st := s_term_at) F34,
    ((He5.fun_of (st := s_term_at) F34).binds (ps := ["terms", "at"]) fun _ _ _ _ _ _ us hl => match us, hl with | [_, _], _ => rfl),
    He.glo_ok X G (c.bool 10),
    fd35,
    He5.fun_of (st := s_plane_factors) F35,
    ((He5.fun_of (st := s_plane_factors) F35).binds (ps := ["formula"]) fun _ _ _ _ _ _ us hl => match us, hl with | [_], _ => rfl),
    He.glo_ok X G (c.bool 11),
    fd36,
    He5.fun_of (st := s_shape) F36,
    ((He5.fun_of (st := s_shape) F36).binds (ps := ["formula"]) fun _ _ _ _ _ _ us hl => match us, hl with | [_], _ => rfl),
    He.glo_ok X G (c.bool 12),
    fd37,
    He5.fun_of (st := s_factor_of) F37,
    ((He5.fun_of (st := s_factor_of) F37).binds (ps := ["terms", "letters", "size"]) fun _ _ _ _ _ _ us hl => match us, hl with | [_, _, _], _ => rfl),
    He.glo_ok X G (c.bool 13),
    fd38,
    He5.fun_of (st := s_cell) F38,
    ((He5.fun_of (st := s_cell) F38).binds (ps := ["_law_script", "_law_k"]) fun _ _ _ _ _ _ us hl => match us, hl with | [_, _], _ => rfl),
    He.glo_ok X G (c.bool 14),
    fd39,
    He5.fun_of (st := s_box) F39,
    ((He5.fun_of (st := s_box) F39).binds (ps := ["_law_script", "_law_k"]) fun _ _ _ _ _ _ us hl => match us, hl with | [_, _], _ => rfl),
    He.glo_ok X G (c.bool 15),
    fd40,
    He5.fun_of (st := s_take) F40,
    ((He5.fun_of (st := s_take) F40).binds (ps := ["_law_box_here", "_law_many"]) fun _ _ _ _ _ _ us hl => match us, hl with | [_, _], _ => rfl),
    He.glo_ok X G (c.bool 16),
    fd41,
    He5.fun_of (st := s_frac) F41,
    ((He5.fun_of (st := s_frac) F41).binds (ps := ["_law_up", "_law_down"]) fun _ _ _ _ _ _ us hl => match us, hl with | [_, _], _ => rfl),
    He.glo_ok X G (c.bool 17),
    fd42,
    He5.fun_of (st := s_plus) F42,
    ((He5.fun_of (st := s_plus) F42).binds (ps := ["_law_x", "_law_y"]) fun _ _ _ _ _ _ us hl => match us, hl with | [_, _], _ => rfl),
    He.glo_ok X G (c.bool 18),
    fd43,
    He5.fun_of (st := s_times) F43,
    ((He5.fun_of (st := s_times) F43).binds (ps := ["_law_x", "_law_y"]) fun _ _ _ _ _ _ us hl => match us, hl with | [_, _], _ => rfl),
    He.glo_ok X G (c.bool 19),
    fd44,
    He5.fun_of (st := s_minus) F44,
    ((He5.fun_of (st := s_minus) F44).binds (ps := ["_law_x", "_law_y"]) fun _ _ _ _ _ _ us hl => match us, hl with | [_, _], _ => rfl),
    He.glo_ok X G (c.bool 20),
    fd45,
    He5.fun_of (st := s_number) F45,
    ((He5.fun_of (st := s_number) F45).binds (ps := ["_law_box_here", "_law_most"]) fun _ _ _ _ _ _ us hl => match us, hl with | [_, _], _ => rfl),
    He.glo_ok X G (c.bool 21),
    fd46,
    He5.fun_of (st := s_short) F46,
    ((He5.fun_of (st := s_short) F46).binds (ps := ["_law_row_here"]) fun _ _ _ _ _ _ us hl => match us, hl with | [_], _ => rfl),
    He.glo_ok X G (c.bool 22),
    fd47,
    He5.fun_of (st := s_form) F47,
    ((He5.fun_of (st := s_form) F47).binds (ps := ["_law_pairs"]) fun _ _ _ _ _ _ us hl => match us, hl with | [_], _ => rfl),
    He.glo_ok X G (c.bool 23),
    fd48,
    He5.fun_of (st := s_row) F48,
    ((He5.fun_of (st := s_row) F48).binds (ps := ["_law_box_here", "_law_most"]) fun _ _ _ _ _ _ us hl => match us, hl with | [_, _], _ => rfl),
    He.glo_ok X G (c.bool 24),
    fd49,
    He5.fun_of (st := s_terms) F49,
    ((He5.fun_of (st := s_terms) F49).binds (ps := ["_law_box_here", "_law_most", "_law_size"]) fun _ _ _ _ _ _ us hl => match us, hl with | [_, _, _], _ => rfl),
    He.glo_ok X G (c.bool 25),
    fd50,
    He5.fun_of (st := s_formula) F50,
    ((He5.fun_of (st := s_formula) F50).binds (ps := ["_law_pairs"]) fun _ _ _ _ _ _ us hl => match us, hl with | [_], _ => rfl),
    He.glo_ok X G (c.bool 26),
    fd51,
    He5.fun_of (st := s_times_tables) F51,
    ((He5.fun_of (st := s_times_tables) F51).binds (ps := ["_law_one", "_law_other"]) fun _ _ _ _ _ _ us hl => match us, hl with | [_, _], _ => rfl),
    He.glo_ok X G (c.bool 27),
    fd52,
    He5.fun_of (st := s_added) F52,
    ((He5.fun_of (st := s_added) F52).binds (ps := ["_law_one", "_law_other", "_law_factor"]) fun _ _ _ _ _ _ us hl => match us, hl with | [_, _, _], _ => rfl),
    He.glo_ok X G (c.bool 28),
    fd53,
    He5.fun_of (st := s_unit) F53,
    ((He5.fun_of (st := s_unit) F53).binds (ps := ["_law_size"]) fun _ _ _ _ _ _ us hl => match us, hl with | [_], _ => rfl),
    He.glo_ok X G (c.bool 29),
    fd54,
    He5.fun_of (st := s_flipped) F54,
    ((He5.fun_of (st := s_flipped) F54).binds (ps := ["_law_rows"]) fun _ _ _ _ _ _ us hl => match us, hl with | [_], _ => rfl),
    He.glo_ok X G (c.bool 30),
    fd55,
    He5.fun_of (st := s_plane) F55,
    ((He5.fun_of (st := s_plane) F55).binds (ps := ["_law_m"]) fun _ _ _ _ _ _ us hl => match us, hl with | [_], _ => rfl),
    He.glo_ok X G (c.bool 31),
    fd56,
    He5.fun_of (st := s_value) F56,
    ((He5.fun_of (st := s_value) F56).binds (ps := ["_law_pairs", "_law_first", "_law_second"]) fun _ _ _ _ _ _ us hl => match us, hl with | [_, _, _], _ => rfl),
    He.glo_ok X G (c.bool 32),
    fd57,
    He5.fun_of (st := s_mirrored) F57,
    ((He5.fun_of (st := s_mirrored) F57).binds (ps := ["_law_pairs"]) fun _ _ _ _ _ _ us hl => match us, hl with | [_], _ => rfl),
    He.glo_ok X G (c.bool 33),
    fd58,
    He5.fun_of (st := s_shape_told) F58,
    ((He5.fun_of (st := s_shape_told) F58).binds (ps := ["_law_formula_here"]) fun _ _ _ _ _ _ us hl => match us, hl with | [_], _ => rfl),
    He.glo_ok X G (c.bool 34),
    fd59,
    He5.fun_of (st := s_fits) F59,
    ((He5.fun_of (st := s_fits) F59).binds (ps := ["_law_polys", "_law_rows", "_law_t"]) fun _ _ _ _ _ _ us hl => match us, hl with | [_, _, _], _ => rfl),
    He.glo_ok X G (c.bool 35),
    fd60,
    He5.fun_of (st := s_law) F60,
    ((He5.fun_of (st := s_law) F60).binds (ps := ["_law_script"]) fun _ _ _ _ _ _ us hl => match us, hl with | [_], _ => rfl),
    He.glo_ok X G (c.bool 36),
    He.free_ok X G (c.bool 37),
    He.free_ok X G (c.bool 38),
    He.free_ok X G (c.bool 39),
    He.free_ok X G (c.bool 40),
    He.free_ok X G (c.bool 41),
    He.free_ok X G (c.bool 42),
    He.free_ok X G (c.bool 43),
    He.free_ok X G (c.bool 44),
    He.free_ok X G (c.bool 45),
    He.free_ok X G (c.bool 46),
    He.free_ok X G (c.bool 47),
    He.free_ok X G (c.bool 48),
    He.free_ok X G (c.bool 49),
    He.free_ok X G (c.bool 50),
    He.free_ok X G (c.bool 51),
    He.free_ok X G (c.bool 52),
    He.free_ok X G (c.bool 53),
    He.free_ok X G (c.bool 54),
    FoZ.imp_ok X G (c.bool 55),
    FoZ.imp_ok X G (c.bool 56),
    He.glo_ok X G (c.bool 57),
    He.cls_ok (c.bool 58),
    He.noat_ok (c.bool 59),
    He.noat_ok (c.bool 60),
    He.mkr_ok (c.bool 61),
    FoZ.prop_ok (c.bool 62),
    FoZ.prop_ok (c.bool 63),
    FoB.bin_add (c.bool 64),
    FoB.bin_sub (c.bool 65),
    FoB.bin_mul (c.bool 66),
    FoB.cmp_eq (c.bool 67),
    He.meth_ok (c.bool 68),
    FoB.isi_ok (c.bool 69),
    He.glo_ok X G (c.bool 70),
    FoB.oerr_ok (c.bool 71),
    FoN.ne_ok (c.bool 72),
    He.glo_ok X G (c.bool 73),
    He.cls_ok (c.bool 74),
    He.mkr_ok (c.bool 75),
    He.noat_ok (c.bool 76),
    FoB.isi_ok (c.bool 77),
    He.glo_ok X G (c.bool 78),
    He.cls_ok (c.bool 79),
    He.mkr_ok (c.bool 80),
    He.noat_ok (c.bool 81),
    FoB.isi_ok (c.bool 82),
    He.meth_ok (c.bool 83),
    He.meth_ok (c.bool 84),
    He.meth_ok (c.bool 85),
    He.meth_ok (c.bool 86),
    He.meth_ok (c.bool 87),
    He.meth_ok (c.bool 88),
    He.meth_ok (c.bool 89),
    FoB.bin_add (c.bool 90),
    FoB.bin_sub (c.bool 91),
    FoB.bin_mul (c.bool 92),
    FoB.bin_add (c.bool 93),
    FoB.bin_sub (c.bool 94),
    FoB.bin_mul (c.bool 95),
    FoB.cmp_eq (c.bool 96),
    He.glo_ok X G (c.bool 97),
    FoB.err_ok (c.bool 98)⟩⟩
end Fo

set_option maxHeartbeats 4100000
namespace Fo
open PySem PySem.Spec PyProof.Rows L2
/-! ### what the law's own helpers promise -/
/-- the drawing box at p, drawn from at most n times -/
def BoxAt (H : Hp) (p : Addr) (n : Nat) : Prop := ∃ x c sd : Int, H p = some (.lst [.int x, .int c, .int sd]) ∧ 0 ≤ x ∧ 0 ≤ c ∧ c ≤ n ∧ 0 ≤ sd ∧ sd ≤ 2 ^ 40
/-- all but the object at p stands as it stood -/
def But (p : Addr) (H H' : Hp) : Prop := ∀ b o, H b = some o → b ≠ p → H' b = some o
theorem But.refl (p : Addr) (H : Hp) : But p H H := fun _ _ h _ => h
theorem But.trans {p : Addr} {H H1 H2 : Hp} (a : But p H H1) (b : But p H1 H2) : But p H H2 := fun c o h n => b c o (a c o h n) n
theorem But.of_same {p : Addr} {H H' : Hp} (a : Same H H') : But p H H' := fun c o h _ => a c o h
theorem Same.upd {H : Hp} {p : Addr} {o : HO} (h : H p = none) : Same H (upd H p o) := fun b u e => by
  rw [upd_ne (ne_of_none e h)]
  exact e
theorem But.upd {H : Hp} {p : Addr} {o : HO} : But p H (upd H p o) := fun b u e n => by
  rw [upd_ne n]
  exact e
theorem SqT.same {K : PySem.W.Frag} {H H' : Hp} {a : Addr} {xs : List V} (e : Same H H') (h : H a = some (.tup xs)) : SqT K H' a xs := SqT.of (e _ _ h)
def spCell (K : PySem.W.Frag) : Sp := fun vs H Q _ => ∃ (a : Addr) (ns : List Int) (i : Nat), vs = [.ref a, .int i] ∧ SqL K H a (ns.map V.int) ∧ Q (.int (ns.getD i 0)) H
def spBox (K : PySem.W.Frag) : Sp := fun vs H Q _ => ∃ (a : Addr) (ns : List Int) (i : Nat), vs = [.ref a, .int i] ∧ SqL K H a (ns.map V.int) ∧ i ≤ 1000 ∧ ∀ p H', H p = none → Same H H' → BoxAt H' p 0 → Q (.ref p) H'
def spTake : Sp := fun vs H Q _ => ∃ (p : Addr) (m : Int) (n : Nat), vs = [.ref p, .int m] ∧ BoxAt H p n ∧ n ≤ 100000 ∧ 0 < m ∧ FoM.Sz 4000 m ∧
  ∀ d H', 0 ≤ d → d < m → BoxAt H' p (n + 1) → But p H H' → Q (.int d) H'
/-- a fraction's tuple -/
def FrAt (K : PySem.W.Frag) (H : Hp) (a : Addr) (u d : Int) : Prop := SqT K H a [.int u, .int d]
def spFrac : Sp := fun vs H Q _ => ∃ u d : Int, vs = [.int u, .int d] ∧ d ≠ 0 ∧ FoM.Sz 4000 d ∧ ∀ p, H p = none → Q (.ref p) (upd H p (.tup [.int (FoM.frN u d), .int (FoM.frD u d)]))
/-- two fractions, and what is reckoned of them -/
def sp2 (K : PySem.W.Frag) (N D : Int → Int → Int → Int → Int) : Sp := fun vs H Q _ => ∃ (a b : Addr) (u d v e : Int), vs = [.ref a, .ref b] ∧ FrAt K H a u d ∧ FrAt K H b v e ∧ d ≠ 0 ∧ e ≠ 0 ∧
  FoM.Sz 1900 u ∧ FoM.Sz 1900 d ∧ FoM.Sz 1900 v ∧ FoM.Sz 1900 e ∧ ∀ p, H p = none → Q (.ref p) (upd H p (.tup [.int (FoM.frN (N u d v e) (D u d v e)), .int (FoM.frD (N u d v e) (D u d v e))]))
abbrev spPlus (K : PySem.W.Frag) : Sp := sp2 K (fun u d v e => u * e + v * d) (fun _ d _ e => d * e)
abbrev spMinus (K : PySem.W.Frag) : Sp := sp2 K (fun u d v e => u * e - v * d) (fun _ d _ e => d * e)
abbrev spTimes (K : PySem.W.Frag) : Sp := sp2 K (fun u _ v _ => u * v) (fun _ d _ e => d * e)
def spLess (K : PySem.W.Frag) : Sp := fun vs H Q _ => ∃ (a b : Addr) (u d v e : Int), vs = [.ref a, .ref b] ∧ FrAt K H a u d ∧ FrAt K H b v e ∧
  FoM.Sz 1900 u ∧ FoM.Sz 1900 d ∧ FoM.Sz 1900 v ∧ FoM.Sz 1900 e ∧ Q (.bl (decide (u * e < v * d))) H
theorem pow18 : ((10 : Int) ^ (18 : Int).toNat) = 1000000000000000000 := by decide
theorem sz_of {n : Nat} {i : Int} (m : Int) (h : -m < i) (g : i < m) (e : m.natAbs ≤ 2 ^ n) : FoM.Sz n i := Nat.lt_of_lt_of_le (by omega) e
theorem pow3 (i : Int) : i ^ (3 : Int).toNat = i * i * i := by
  show i ^ 3 = _
  rw [Int.pow_succ, Int.pow_succ, Int.pow_succ, Int.pow_zero, Int.one_mul]
section
variable {P : Program} {w : World} {K : PySem.W.Frag} {mg : Str → Option Value} {base : Heap}
theorem ok_cell (T : Tx K mg) : FnOk P w K mg base CX0 1 (He.ga K "_law_cell") T.fd_cell ["_law_script", "_law_k"] (spCell K) := by
  refine T.F_cell.ok sc_cell (fun vs H Q E h => ?_) (fun cdv A outer s H vs Q E hr h => ?_)
  · obtain ⟨a, ns, i, rfl, _⟩ := h
    rfl
  · obtain ⟨a, ns, i, rfl, hS, q⟩ := h
    refine ⟨_, (pss_one (ps_ret (pe_ifExp (pt_cmpR op_lt (pv 1) (pe_callB call_len_seq (by rfl) T.z_len PySem.boot_len (pa_cons (pv 0) pa_nil)) (nomark _)) (pe_ix ix_list (pv 0) (pv 1) (fun _ _ => rfl)) pe_int))), ?_⟩
    refine ⟨_, rfl, _, rfl, a, _, rfl, .inl hS, _, _, rfl, rfl, _, rfl, ite2 (fun e => ?_) (fun e => ?_)⟩
    · have e1 : i < ns.length := by
        have e0 := of_decide_eq_true e
        rw [List.length_map] at e0
        omega
      refine ⟨_, rfl, _, rfl, a, _, _, _, rfl, rfl, hS, atI_nat (by rw [List.getElem?_map, List.getElem?_eq_getElem e1]; rfl), ?_⟩
      have e2 : ns.getD i 0 = ns[i] := by simp [List.getD, List.getElem?_eq_getElem e1]
      rw [← e2]
      exact q
    · have e1 : ¬ i < ns.length := fun z => e (decide_eq_true (by rw [List.length_map]; omega))
      have e2 : ns.getD i 0 = 0 := by simp [List.getD, List.getElem?_eq_none (Nat.le_of_not_lt e1)]
      rw [e2] at q
      exact q
theorem ok_box (T : Tx K mg) : FnOk P w K mg base CX0 2 (He.ga K "_law_box") T.fd_box ["_law_script", "_law_k"] (spBox K) := by
  refine T.F_box.ok sc_box (fun vs H Q E h => ?_) (fun cdv A outer s H vs Q E hr h => ?_)
  · obtain ⟨a, ns, i, rfl, _⟩ := h
    rfl
  · obtain ⟨a, ns, i, rfl, hS, hi, q⟩ := h
    refine ⟨_, (pss_one (ps_ret (pe_lst (pa_cons (pe_callB call_abs (by rfl) T.z_abs (by decide +kernel) (pa_cons (pe_callTy FoA.call_intI (by rfl) T.z_int (by decide +kernel) (pa_cons (pe_call (ok_cell T) (hr.mono (by decide)) (by rfl) T.g_cell T.F_cell.kp T.b_cell .nil pass0 (pa_cons (pv 0) (pa_cons (pv 1) pa_nil))) pa_nil)) pa_nil)) (pa_cons pe_int (pa_cons (pe_op op_add (pe_op op_mulW pe_int (pv 1)) pe_int) pa_nil)))))), ?_⟩
    refine ⟨_, rfl, _, rfl, a, ns, i, rfl, hS, _, rfl, _, rfl, _, rfl, _, _, rfl, rfl, FoM.Sz.mulok (n := 20) (m := 20) (sz_of 1000000 (by decide) (by decide) (by decide)) (sz_of 1000000 (by omega) (by omega) (by decide)), _, _, rfl, rfl, ?_⟩
    refine ⟨(by show 3 ≤ sizeLine; rw [sizeLine_eq]; decide), fun p hp => ?_⟩
    refine q p _ hp (Same.upd hp) ⟨_, _, _, upd_same, ?_, ?_, ?_, ?_, ?_⟩
    · split <;> omega
    · omega
    · omega
    · omega
    · omega
theorem ok_take (T : Tx K mg) : FnOk P w K mg base CX0 1 (He.ga K "_law_take") T.fd_take ["_law_box_here", "_law_many"] spTake := by
  refine T.F_take.ok sc_take (fun vs H Q E h => ?_) (fun cdv A outer s H vs Q E hr h => ?_)
  · obtain ⟨p, m, n, rfl, _⟩ := h
    rfl
  · obtain ⟨p, m, n, rfl, ⟨x, c, sd, hB, hx, hc, hcn, hs, hs2⟩, hn, hm, hz, q⟩ := h
    have hL : SqL K H p [.int x, .int c, .int sd] := SqL.of hB
    refine ⟨_, (pss_cons (ps_if (pt_cmpR op_ge (pe_ix ix_list (pv 0) pe_int (fun _ _ => rfl)) (pe_op FoA.op_powW pe_int pe_int) (nomark _)) (pss_cons (ps_set (i := 2) sc_take.nd rfl (.inl rfl) (pe_op op_mod (pe_callTy FoA.call_intI (by rfl) T.z_int (by decide +kernel) (pa_cons (pe_ix ix_list (pv 0) pe_int (fun _ _ => rfl)) pa_nil)) (pv 1)))
      (pss_cons (ps_asg (pe_op op_fdivW (pe_ix ix_list (pv 0) pe_int (fun _ _ => rfl)) (pv 1)) (pg_sub (pv 0) pe_int set_list))
      (pss_one (ps_ret (pv 2))))) pss_nil)
      (pss_cons (ps_asg (pe_op op_add (pe_ix ix_list (pv 0) pe_int (fun _ _ => rfl)) pe_int) (pg_sub (pv 0) pe_int set_list))
      (pss_cons (ps_set (i := 3) sc_take.nd rfl (.inl rfl) (pe_op op_mod (pe_op FoA.op_powW (pe_callTy FoA.call_intI (by rfl) T.z_int (by decide +kernel) (pa_cons (pe_op op_add (pe_op op_add (pe_op op_mulW (pe_op op_add (pe_ix ix_list (pv 0) pe_int (fun _ _ => rfl)) pe_int) pe_int) (pe_op op_mulW (pe_ix ix_list (pv 0) pe_int (fun _ _ => rfl)) pe_int)) (pe_ix ix_list (pv 0) pe_int (fun _ _ => rfl))) pa_nil)) pe_int) pe_int))
      (pss_cons (ps_set (i := 3) sc_take.nd rfl (.inl rfl) (pe_op op_mod (pe_op FoA.op_powW (pe_callTy FoA.call_intI (by rfl) T.z_int (by decide +kernel) (pa_cons (pe_op op_add (pv 3) (pe_op op_mulW (pe_ix ix_list (pv 0) pe_int (fun _ _ => rfl)) pe_int)) pa_nil)) pe_int) pe_int))
      (pss_one (ps_ret (pe_op op_mod (pe_callTy FoA.call_intI (by rfl) T.z_int (by decide +kernel) (pa_cons (pe_op op_fdivW (pv 3) pe_int) pa_nil)) (pv 1)))))))), ?_⟩
    refine ⟨_, rfl, _, _, _, _, rfl, rfl, hL, rfl, _, _, rfl, rfl, ⟨by decide, by decide, by decide⟩, _, _, rfl, rfl, _, rfl, ite2 (fun e => ?_) (fun e => ?_)⟩
    · -- a digit of the number itself
      have hdv : CDivW x m := wide_div hm hz (by decide) (by decide)
      refine ⟨_, rfl, _, _, _, _, rfl, rfl, hL, rfl, _, rfl, _, rfl, _, _, rfl, rfl, hm, ?_⟩
      refine ⟨_, rfl, _, _, _, _, rfl, rfl, hL, rfl, _, rfl, _, _, rfl, rfl, hdv, _, rfl, p, _, 0, 0, rfl, rfl, hB, rfl, ?_⟩
      refine ⟨_, rfl, q _ _ (Int.emod_nonneg _ (by omega)) (Int.emod_lt_of_pos _ hm) ⟨x / m, c, sd, upd_same, Int.ediv_nonneg hx (by omega), hc, by omega, hs, hs2⟩ But.upd⟩
    · have hx2 : x < 1000000000000000000 := by
        rw [pow18] at e
        have e2 := of_decide_eq_false (Bool.eq_false_iff.mpr e)
        omega
      -- counted up
      refine ⟨_, rfl, _, _, _, _, rfl, rfl, hL, rfl, _, _, rfl, rfl, _, rfl, p, _, 1, 1, rfl, rfl, hB, rfl, ?_⟩
      have hL1 : SqL K (upd H p (.lst [.int x, .int (c + 1), .int sd])) p [.int x, .int (c + 1), .int sd] := SqL.of upd_same
      refine ⟨_, rfl, _, _, _, _, rfl, rfl, hL1, rfl, _, _, rfl, rfl, _, _, rfl, rfl, FoM.Sz.mulok (n := 64) (m := 20) (sz_of 2000000000000000000 (by omega) (by omega) (by decide)) (sz_of 1000000 (by decide) (by decide) (by decide)),
        _, rfl, _, _, _, _, rfl, rfl, hL1, rfl, _, _, rfl, rfl, FoM.Sz.mulok (n := 20) (m := 20) (sz_of 1000000 (by omega) (by omega) (by decide)) (sz_of 1000000 (by decide) (by decide) (by decide)), _, _, rfl, rfl,
        _, rfl, _, _, _, _, rfl, rfl, hL1, rfl, _, _, rfl, rfl, _, rfl, _, _, rfl, rfl, ⟨by decide, by decide, ?_⟩, _, _, rfl, rfl, (by show (0 : Int) < 2147483647; decide), ?_⟩
      · exact sz_of (n := 1000) 1000000000000000000000000000000 (by omega) (by omega) (by decide)
      generalize hg : ((x + 7) * 69069 + (c + 1) * 40692 + sd) ^ (3 : Int).toNat % 2147483647 = g
      have g0 : 0 ≤ g := by
        rw [← hg]
        exact Int.emod_nonneg _ (by decide)
      have g1 : g < 2147483647 := by
        rw [← hg]
        exact Int.emod_lt_of_pos _ (by decide)
      refine ⟨_, rfl, _, rfl, _, _, _, _, rfl, rfl, hL1, rfl, _, _, rfl, rfl, FoM.Sz.mulok (n := 20) (m := 20) (sz_of 1000000 (by omega) (by omega) (by decide)) (sz_of 1000000 (by decide) (by decide) (by decide)), _, _, rfl, rfl, _, rfl, _, _, rfl, rfl, ⟨by decide, by decide, ?_⟩, _, _, rfl, rfl, (by show (0 : Int) < 2147483399; decide), ?_⟩
      · exact sz_of (n := 1000) 1000000000000000000000000000000 (by omega) (by omega) (by decide)
      generalize hk : (g + (c + 1) * 17389) ^ (3 : Int).toNat % 2147483399 = k
      have k0 : 0 ≤ k := by
        rw [← hk]
        exact Int.emod_nonneg _ (by decide)
      refine ⟨_, rfl, _, _, rfl, rfl, wide_div (b := 20) (by decide) (by decide) (by decide) (by decide), _, rfl, _, rfl, _, _, rfl, rfl, hm, ?_⟩
      exact q _ _ (Int.emod_nonneg _ (by omega)) (Int.emod_lt_of_pos _ hm) ⟨x, c + 1, sd, upd_same, hx, by omega, by omega, hs, hs2⟩ But.upd
theorem ok_frac (T : Tx K mg) : FnOk P w K mg base CX0 1 (He.ga K "_law_frac") T.fd_frac ["_law_up", "_law_down"] spFrac := by
  refine T.F_frac.ok sc_frac (fun vs H Q E h => ?_) (fun cdv A outer s H vs Q E hr h => ?_)
  · obtain ⟨u, d, rfl, _⟩ := h
    rfl
  · obtain ⟨u, d, rfl, hd, hz, q⟩ := h
    refine ⟨_, (pss_cons (ps_par (i := 2) (j := 3) (by rfl) sc_frac.nd rfl rfl (by decide) rfl rfl (pa_cons (pe_callB call_abs (by rfl) T.z_abs (by decide +kernel) (pa_cons (pv 0) pa_nil)) (pa_cons (pe_callB call_abs (by rfl) T.z_abs (by decide +kernel) (pa_cons (pv 1) pa_nil)) pa_nil)) (by rfl))
      (pss_cons (ps_while PassesOwn.never (pt_cmpR op_gt (pv 3) pe_int (nomark _)) (pss_one (ps_par (i := 2) (j := 3) (by rfl) sc_frac.nd rfl rfl (by decide) rfl rfl (pa_cons (pv 3) (pa_cons (pe_op op_mod (pv 2) (pv 3)) pa_nil)) (by rfl))))
      (pss_cons (ps_if (pt_cmpR op_lt (pv 1) pe_int (nomark _)) (pss_one (ps_set (i := 2) sc_frac.nd rfl (.inl rfl) (pe_op op_sub pe_int (pv 2)))) pss_nil)
      (pss_one (ps_ret (pe_tup (pa_cons (pe_op FoA.op_fdivZ (pv 0) (pv 2)) (pa_cons (pe_op FoA.op_fdivZ (pv 1) (pv 2)) pa_nil)))))))), ?_⟩
    refine ⟨_, rfl, _, rfl, _, rfl, _, rfl, _, _, rfl, ?_⟩
    -- the greatest common divisor
    refine ⟨fun k σ H2 => H2 = H ∧ ∃ a b : Int, σ = [some (.int u), some (.int d), some (.int a), some (.int b)] ∧ 0 ≤ a ∧ 0 ≤ b ∧ k = b.toNat ∧ Nat.gcd a.natAbs b.natAbs = Nat.gcd u.natAbs d.natAbs, ⟨_, rfl, _, _, rfl, ?_, ?_, rfl, ?_⟩, ?_⟩
    · split <;> omega
    · split <;> omega
    · congr 1 <;> (split <;> omega)
    rintro k σ H2 ⟨rfl, a, b, rfl, ha, hb, rfl, hg⟩
    refine ⟨_, rfl, _, _, rfl, rfl, _, rfl, ite2 (fun e => ?_) (fun e => ?_)⟩
    · have hb0 : 0 < b := of_decide_eq_true e
      refine ⟨fun σ' H' => H' = H2 ∧ σ' = [some (.int u), some (.int d), some (.int b), some (.int (a % b))], fun σ' H' h => ?_, ?_⟩
      · obtain ⟨rfl, rfl⟩ := h
        have l1 := Int.emod_lt_of_pos a hb0
        have l0 := Int.emod_nonneg a (show b ≠ 0 by omega)
        refine ⟨(a % b).toNat, by omega, rfl, b, a % b, rfl, hb, l0, rfl, ?_⟩
        rw [← hg]
        have e1 : (a % b).natAbs = a.natAbs % b.natAbs := by
          have e2 : ((a.natAbs : Int) % (b.natAbs : Int)) = a % b := by
            rw [Int.natAbs_of_nonneg ha, Int.natAbs_of_nonneg hb]
          rw [← e2]
          omega
        rw [e1, Nat.gcd_comm a.natAbs, Nat.gcd_rec b.natAbs a.natAbs, Nat.gcd_comm]
      · exact ⟨_, rfl, _, rfl, _, rfl, _, _, rfl, rfl, hb0, _, _, rfl, rfl, rfl⟩
    · have hb0 : b = 0 := by
        have := of_decide_eq_false (Bool.eq_false_iff.mpr e)
        omega
      subst hb0
      have hga : a = ((Nat.gcd u.natAbs d.natAbs : Nat) : Int) := by
        rw [← hg]
        simp
        omega
      have hne := FoM.gc_ne (u := u) hd
      have hle := FoM.gc_le (u := u) hd
      have hdz : FoA.CDivZ u (FoM.gc u d) := FoA.divZ_of hne (FoM.Sz.le hz hle) (by decide) (by decide)
      have hdz2 : FoA.CDivZ d (FoM.gc u d) := FoA.divZ_of hne (FoM.Sz.le hz hle) (by decide) (by decide)
      refine ⟨_, rfl, _, _, rfl, rfl, _, rfl, ite2 (fun e2 => ?_) (fun e2 => ?_)⟩
      · have hd0 : d < 0 := of_decide_eq_true e2
        have eg : (0 : Int) - a = FoM.gc u d := by
          unfold FoM.gc
          rw [if_pos hd0, hga]
          omega
        rw [← eg] at hdz hdz2
        refine ⟨_, rfl, _, _, rfl, rfl, _, rfl, _, rfl, _, _, rfl, rfl, hdz, _, rfl, _, rfl, _, _, rfl, rfl, hdz2, (by show 2 ≤ sizeLine; rw [sizeLine_eq]; decide), fun p hp => ?_⟩
        have z := q p hp
        unfold FoM.frN FoM.frD at z
        rw [← eg] at z
        exact z
      · have hd0 : ¬ d < 0 := of_decide_eq_false (Bool.eq_false_iff.mpr e2)
        have eg : a = FoM.gc u d := by
          unfold FoM.gc
          rw [if_neg hd0, hga]
        rw [← eg] at hdz hdz2
        refine ⟨_, rfl, _, rfl, _, _, rfl, rfl, hdz, _, rfl, _, rfl, _, _, rfl, rfl, hdz2, (by show 2 ≤ sizeLine; rw [sizeLine_eq]; decide), fun p hp => ?_⟩
        have z := q p hp
        unfold FoM.frN FoM.frD at z
        rw [← eg] at z
        exact z
theorem ok_plus (T : Tx K mg) : FnOk P w K mg base CX0 2 (He.ga K "_law_plus") T.fd_plus ["_law_x", "_law_y"] (spPlus K) := by
  refine T.F_plus.ok sc_plus (fun vs H Q E h => ?_) (fun cdv A outer s H vs Q E hr h => ?_)
  · obtain ⟨a, b, u, d, v, e, rfl, _⟩ := h
    rfl
  · obtain ⟨a, b, u, d, v, e, rfl, ha, hb, hd, he, zu, zd, zv, ze, q⟩ := h
    refine ⟨_, (pss_one (ps_ret (pe_call (ok_frac T) (hr.mono (by decide)) (by rfl) T.g_frac T.F_frac.kp T.b_frac .nil pass0 (pa_cons (pe_op op_add (pe_op op_mulW (pe_ix ix_tup (pv 0) pe_int (fun _ _ => rfl)) (pe_ix ix_tup (pv 1) pe_int (fun _ _ => rfl))) (pe_op op_mulW (pe_ix ix_tup (pv 1) pe_int (fun _ _ => rfl)) (pe_ix ix_tup (pv 0) pe_int (fun _ _ => rfl)))) (pa_cons (pe_op op_mulW (pe_ix ix_tup (pv 0) pe_int (fun _ _ => rfl)) (pe_ix ix_tup (pv 1) pe_int (fun _ _ => rfl))) pa_nil))))), ?_⟩
    exact ⟨_, rfl, _, _, _, _, rfl, rfl, ha, rfl, _, rfl, _, _, _, _, rfl, rfl, hb, rfl, _, _, rfl, rfl, FoM.Sz.mulok zu ze, _, rfl, _, _, _, _, rfl, rfl, hb, rfl, _, rfl, _, _, _, _, rfl, rfl, ha, rfl, _, _, rfl, rfl, FoM.Sz.mulok zv zd, _, _, rfl, rfl,
      _, rfl, _, _, _, _, rfl, rfl, ha, rfl, _, rfl, _, _, _, _, rfl, rfl, hb, rfl, _, _, rfl, rfl, FoM.Sz.mulok zd ze, _, _, rfl, Int.mul_ne_zero hd he, (zd.mul ze).mono (by decide), q⟩
theorem ok_minus (T : Tx K mg) : FnOk P w K mg base CX0 2 (He.ga K "_law_minus") T.fd_minus ["_law_x", "_law_y"] (spMinus K) := by
  refine T.F_minus.ok sc_minus (fun vs H Q E h => ?_) (fun cdv A outer s H vs Q E hr h => ?_)
  · obtain ⟨a, b, u, d, v, e, rfl, _⟩ := h
    rfl
  · obtain ⟨a, b, u, d, v, e, rfl, ha, hb, hd, he, zu, zd, zv, ze, q⟩ := h
    refine ⟨_, (pss_one (ps_ret (pe_call (ok_frac T) (hr.mono (by decide)) (by rfl) T.g_frac T.F_frac.kp T.b_frac .nil pass0 (pa_cons (pe_op op_sub (pe_op op_mulW (pe_ix ix_tup (pv 0) pe_int (fun _ _ => rfl)) (pe_ix ix_tup (pv 1) pe_int (fun _ _ => rfl))) (pe_op op_mulW (pe_ix ix_tup (pv 1) pe_int (fun _ _ => rfl)) (pe_ix ix_tup (pv 0) pe_int (fun _ _ => rfl)))) (pa_cons (pe_op op_mulW (pe_ix ix_tup (pv 0) pe_int (fun _ _ => rfl)) (pe_ix ix_tup (pv 1) pe_int (fun _ _ => rfl))) pa_nil))))), ?_⟩
    exact ⟨_, rfl, _, _, _, _, rfl, rfl, ha, rfl, _, rfl, _, _, _, _, rfl, rfl, hb, rfl, _, _, rfl, rfl, FoM.Sz.mulok zu ze, _, rfl, _, _, _, _, rfl, rfl, hb, rfl, _, rfl, _, _, _, _, rfl, rfl, ha, rfl, _, _, rfl, rfl, FoM.Sz.mulok zv zd, _, _, rfl, rfl,
      _, rfl, _, _, _, _, rfl, rfl, ha, rfl, _, rfl, _, _, _, _, rfl, rfl, hb, rfl, _, _, rfl, rfl, FoM.Sz.mulok zd ze, _, _, rfl, Int.mul_ne_zero hd he, (zd.mul ze).mono (by decide), q⟩
theorem ok_times (T : Tx K mg) : FnOk P w K mg base CX0 2 (He.ga K "_law_times") T.fd_times ["_law_x", "_law_y"] (spTimes K) := by
  refine T.F_times.ok sc_times (fun vs H Q E h => ?_) (fun cdv A outer s H vs Q E hr h => ?_)
  · obtain ⟨a, b, u, d, v, e, rfl, _⟩ := h
    rfl
  · obtain ⟨a, b, u, d, v, e, rfl, ha, hb, hd, he, zu, zd, zv, ze, q⟩ := h
    refine ⟨_, (pss_one (ps_ret (pe_call (ok_frac T) (hr.mono (by decide)) (by rfl) T.g_frac T.F_frac.kp T.b_frac .nil pass0 (pa_cons (pe_op op_mulW (pe_ix ix_tup (pv 0) pe_int (fun _ _ => rfl)) (pe_ix ix_tup (pv 1) pe_int (fun _ _ => rfl))) (pa_cons (pe_op op_mulW (pe_ix ix_tup (pv 0) pe_int (fun _ _ => rfl)) (pe_ix ix_tup (pv 1) pe_int (fun _ _ => rfl))) pa_nil))))), ?_⟩
    exact ⟨_, rfl, _, _, _, _, rfl, rfl, ha, rfl, _, rfl, _, _, _, _, rfl, rfl, hb, rfl, _, _, rfl, rfl, FoM.Sz.mulok zu zv, _, rfl, _, _, _, _, rfl, rfl, ha, rfl, _, rfl, _, _, _, _, rfl, rfl, hb, rfl, _, _, rfl, rfl, FoM.Sz.mulok zd ze, _, _, rfl, Int.mul_ne_zero hd he, (zd.mul ze).mono (by decide), q⟩
end

/-! ### with rational numbers -/
/-- a fraction's tuple as it stands -/
abbrev qt (r : Rat) : HO := .tup [.int r.num, .int r.den]
def FrQ (H : Hp) (p : Addr) (r : Rat) : Prop := H p = some (qt r)
theorem FrQ.at_ {K : PySem.W.Frag} {H : Hp} {p : Addr} {r : Rat} (h : FrQ H p r) : FrAt K H p r.num r.den := SqT.of h
theorem FrQ.same {H H' : Hp} {p : Addr} {r : Rat} (h : FrQ H p r) (e : Same H H') : FrQ H' p r := e _ _ h
theorem qt_fr {u d : Int} (h : d ≠ 0) : (HO.tup [.int (FoM.frN u d), .int (FoM.frD u d)]) = qt (Rat.divInt u d) := by
  rw [(FoQ.fr_rat h).1, (FoQ.fr_rat h).2]
theorem qt_of {u d : Int} {r : Rat} (h : d ≠ 0) (e : Rat.divInt u d = r) : (HO.tup [.int (FoM.frN u d), .int (FoM.frD u d)]) = qt r := by
  rw [qt_fr h, e]
def spFracQ : Sp := fun vs H Q _ => ∃ u d : Int, vs = [.int u, .int d] ∧ d ≠ 0 ∧ FoM.Sz 4000 d ∧ ∀ p, H p = none → Q (.ref p) (upd H p (qt (Rat.divInt u d)))
def sp2Q (f : Rat → Rat → Rat) : Sp := fun vs H Q _ => ∃ (a b : Addr) (x z : Rat), vs = [.ref a, .ref b] ∧ FrQ H a x ∧ FrQ H b z ∧ FoQ.SzR 1900 x ∧ FoQ.SzR 1900 z ∧ ∀ p, H p = none → Q (.ref p) (upd H p (qt (f x z)))
section
variable {P : Program} {w : World} {K : PySem.W.Frag} {mg : Str → Option Value} {base : Heap}
theorem ok_fracQ (T : Tx K mg) : FnOk P w K mg base CX0 1 (He.ga K "_law_frac") T.fd_frac ["_law_up", "_law_down"] spFracQ := (ok_frac T).imp fun vs H Q E h => by
  obtain ⟨u, d, e, hd, hz, q⟩ := h
  exact ⟨u, d, e, hd, hz, fun p hp => by rw [qt_fr hd]; exact q p hp⟩
theorem ok_plusQ (T : Tx K mg) : FnOk P w K mg base CX0 2 (He.ga K "_law_plus") T.fd_plus ["_law_x", "_law_y"] (sp2Q (· + ·)) := (ok_plus T).imp fun vs H Q E h => by
  obtain ⟨a, b, x, z, e, ha, hb, hx, hz, q⟩ := h
  exact ⟨a, b, x.num, x.den, z.num, z.den, e, ha.at_, hb.at_, FoQ.den_ne x, FoQ.den_ne z, hx.1, hx.2, hz.1, hz.2, fun p hp => by rw [qt_of (Int.mul_ne_zero (FoQ.den_ne x) (FoQ.den_ne z)) (FoQ.q_add x z)]; exact q p hp⟩
theorem ok_minusQ (T : Tx K mg) : FnOk P w K mg base CX0 2 (He.ga K "_law_minus") T.fd_minus ["_law_x", "_law_y"] (sp2Q (· - ·)) := (ok_minus T).imp fun vs H Q E h => by
  obtain ⟨a, b, x, z, e, ha, hb, hx, hz, q⟩ := h
  exact ⟨a, b, x.num, x.den, z.num, z.den, e, ha.at_, hb.at_, FoQ.den_ne x, FoQ.den_ne z, hx.1, hx.2, hz.1, hz.2, fun p hp => by rw [qt_of (Int.mul_ne_zero (FoQ.den_ne x) (FoQ.den_ne z)) (FoQ.q_sub x z)]; exact q p hp⟩
theorem ok_timesQ (T : Tx K mg) : FnOk P w K mg base CX0 2 (He.ga K "_law_times") T.fd_times ["_law_x", "_law_y"] (sp2Q (· * ·)) := (ok_times T).imp fun vs H Q E h => by
  obtain ⟨a, b, x, z, e, ha, hb, hx, hz, q⟩ := h
  exact ⟨a, b, x.num, x.den, z.num, z.den, e, ha.at_, hb.at_, FoQ.den_ne x, FoQ.den_ne z, hx.1, hx.2, hz.1, hz.2, fun p hp => by rw [qt_of (Int.mul_ne_zero (FoQ.den_ne x) (FoQ.den_ne z)) (FoQ.q_mul x z)]; exact q p hp⟩
end

end Fo

set_option maxHeartbeats 4100000
namespace Fo
open PySem PySem.Spec PyProof.Rows L2
/-! ### the class Ratio -/
abbrev RC (K : PySem.W.Frag) : Addr := He.ga K "Ratio"
def rf (a b : Int) : List (Str × V) := putF "_bottom" (.int b) (putF "_top" (.int a) [])
theorem tb_ne : ¬ (("_top" : Str) = "_bottom") := by decide +kernel
theorem rf_top (a b : Int) : (rf a b).lookup ("_top" : Str) = some (.int a) := by
  unfold rf
  rw [lookup_putF, if_neg tb_ne, lookup_putF, if_pos rfl]
theorem rf_bot (a b : Int) : (rf a b).lookup ("_bottom" : Str) = some (.int b) := by
  unfold rf
  rw [lookup_putF, if_pos rfl]
theorem rf_no (a b : Int) {m : Str} (h1 : ¬ m = "_bottom") (h2 : ¬ m = "_top") : (rf a b).lookup m = none := by
  unfold rf
  rw [lookup_putF, if_neg h1, lookup_putF, if_neg h2]
  rfl
/-- at p: the Ratio a / b as its object keeps it -/
def RatAt (K : PySem.W.Frag) (H : Hp) (p : Addr) (a b : Int) : Prop := ∃ dx, H p = some (.ins (RC K) dx (rf a b))
theorem RatAt.same {K : PySem.W.Frag} {H H' : Hp} {p : Addr} {a b : Int} (h : RatAt K H p a b) (e : Same H H') : RatAt K H' p a b :=
  let ⟨dx, q⟩ := h
  ⟨dx, e _ _ q⟩
/-- a number: a Ratio, or an int -/
def NumV (K : PySem.W.Frag) (H : Hp) (y : V) (v e : Int) : Prop := (∃ b, y = .ref b ∧ RatAt K H b v e) ∨ (y = .int v ∧ e = 1)
theorem NumV.same {K : PySem.W.Frag} {H H' : Hp} {y : V} {v e : Int} (h : NumV K H y v e) (s : Same H H') : NumV K H' y v e := by
  rcases h with ⟨b, h1, h2⟩ | h
  · exact .inl ⟨b, h1, h2.same s⟩
  · exact .inr h
/-- a value that is no number -/
inductive NoNum (H : Hp) : V → Prop where
  | non : NoNum H .non
  | bl (b : Bool) : NoNum H (.bl b)
  | str (x : Str) : NoNum H (.str x)
  | lst {a : Addr} {xs : List V} (e : H a = some (.lst xs)) : NoNum H (.ref a)
  | tup {a : Addr} {xs : List V} (e : H a = some (.tup xs)) : NoNum H (.ref a)
  | dK {a : Addr} {xs : List (Key × V)} (e : H a = some (.dK xs)) : NoNum H (.ref a)
theorem NoNum.oth {H : Hp} {C : Addr} {y : V} (h : NoNum H y) : FoA.OthV H C y := by
  cases h with
  | non => exact .non
  | bl b => exact .bl b
  | str x => exact .str x
  | lst e => exact .lst e
  | tup e => exact .tup e
  | dK e => exact .dK e
theorem NumV.oth {K : PySem.W.Frag} {H : Hp} {y : V} {v e : Int} (h : NumV K H y v e) : FoA.OthV H (RC K) y := by
  rcases h with ⟨b, rfl, dx, q⟩ | ⟨rfl, _⟩
  · exact .ins q
  · exact .int _
/-- a plain value's type, and what isinstance tells of it -/
theorem NoNum.ty {K : PySem.W.Frag} {H : Hp} {y : V} (h : NoNum H y) : ∃ T, T ∈ FoZ.tyNames ∧ TyX K H y (.type T) ∧ ∃ b1 b2, PySem.W.kitOne K (.type T) (.type "int") = some b1 ∧ PySem.W.kitOne K (.type T) (.type "bool") = some b2 ∧ (b1 && !b2) = false := by
  cases h with
  | non => exact ⟨"NoneType", by decide, .base .non, false, false, kit_ty (by decide +kernel), kit_ty (by decide +kernel), rfl⟩
  | bl b => exact ⟨"bool", by decide, .base (.bl b), true, true, kit_ty (by decide +kernel), kit_ty (by decide +kernel), rfl⟩
  | str x => exact ⟨"str", by decide, .base (.str x), false, false, kit_ty (by decide +kernel), kit_ty (by decide +kernel), rfl⟩
  | lst e => exact ⟨"list", by decide, .base (.lst e), false, false, kit_ty (by decide +kernel), kit_ty (by decide +kernel), rfl⟩
  | tup e => exact ⟨"tuple", by decide, .base (.tup e), false, false, kit_ty (by decide +kernel), kit_ty (by decide +kernel), rfl⟩
  | dK e => exact ⟨"dict", by decide, .base (.dK e), false, false, kit_ty (by decide +kernel), kit_ty (by decide +kernel), rfl⟩
theorem kit_int {K : PySem.W.Frag} : PySem.W.kitOne K (.type "int") (.type "int") = some true ∧ PySem.W.kitOne K (.type "int") (.type "bool") = some false := ⟨kit_ty (by decide +kernel), kit_ty (by decide +kernel)⟩
def sgn (v : Int) : Int := if v = 0 then 0 else if 0 < v then 1 else -1
/-! ### promises -/
def spInit (K : PySem.W.Frag) : Sp := fun vs H Q _ => ∃ (p dx : Addr) (t b : Int), vs = [.ref p, .int t, .int b] ∧ H p = some (.ins (RC K) dx []) ∧ b ≠ 0 ∧ FoM.Sz 4000 b ∧ ∀ H', RatAt K H' p (FoM.frN t b) (FoM.frD t b) → But p H H' → Q .non H'
def spTop (K : PySem.W.Frag) : Sp := fun vs H Q _ => ∃ (a : Addr) (u d : Int), vs = [.ref a] ∧ RatAt K H a u d ∧ Q (.int u) H
def spBot (K : PySem.W.Frag) : Sp := fun vs H Q _ => ∃ (a : Addr) (u d : Int), vs = [.ref a] ∧ RatAt K H a u d ∧ Q (.int d) H
def spIsInt (K : PySem.W.Frag) : Sp := fun vs H Q _ => ∃ y : V, vs = [y] ∧ (((∃ i, y = .int i) ∧ Q (.bl true) H) ∨ (NoNum H y ∧ Q (.bl false) H))
def spIsNumber (K : PySem.W.Frag) : Sp := fun vs H Q _ => ∃ y : V, vs = [y] ∧ ((∃ v e, NumV K H y v e ∧ Q (.bl true) H) ∨ (NoNum H y ∧ Q (.bl false) H))
def spAs (K : PySem.W.Frag) : Sp := fun vs H Q _ => ∃ (y : V) (v e : Int), vs = [y] ∧ NumV K H y v e ∧ ∀ b H', Same H H' → RatAt K H' b v e → Q (.ref b) H'
def spSign (K : PySem.W.Frag) : Sp := fun vs H Q _ => ∃ (y : V) (v e : Int), vs = [y] ∧ NumV K H y v e ∧ ∀ H', Same H H' → Q (.int (sgn v)) H'
def spEq (K : PySem.W.Frag) : Sp := fun vs H Q _ => ∃ (a : Addr) (y : V) (u d : Int), vs = [.ref a, y] ∧ RatAt K H a u d ∧
  ((∃ (b : Addr) (v e : Int), y = .ref b ∧ RatAt K H b v e ∧ Q (.bl (decide (u = v) && decide (d = e))) H) ∨ (∃ i, y = .int i ∧ Q (.bl (decide (d = 1) && decide (u = i))) H) ∨ (NoNum H y ∧ Q (.bl false) H))
/-- an operation of a Ratio and a number: what is told -/
def spCmp (K : PySem.W.Frag) (f : Int → Int → Bool) : Sp := fun vs H Q _ => ∃ (a : Addr) (y : V) (u d v e : Int), vs = [.ref a, y] ∧ RatAt K H a u d ∧ NumV K H y v e ∧
  FoM.Sz 1900 u ∧ FoM.Sz 1900 d ∧ FoM.Sz 1900 v ∧ FoM.Sz 1900 e ∧ ∀ H', Same H H' → Q (.bl (f (u * e) (v * d))) H'
def spOp (K : PySem.W.Frag) (N D : Int → Int → Int → Int → Int) (C : Int → Int → Prop) : Sp := fun vs H Q _ => ∃ (a : Addr) (y : V) (u d v e : Int), vs = [.ref a, y] ∧ RatAt K H a u d ∧ NumV K H y v e ∧ d ≠ 0 ∧ C v e ∧
  FoM.Sz 1900 u ∧ FoM.Sz 1900 d ∧ FoM.Sz 1900 v ∧ FoM.Sz 1900 e ∧ ∀ p H', H p = none → Same H H' → RatAt K H' p (FoM.frN (N u d v e) (D u d v e)) (FoM.frD (N u d v e) (D u d v e)) → Q (.ref p) H'
abbrev spAdd (K : PySem.W.Frag) : Sp := spOp K (fun u d v e => u * e + v * d) (fun _ d _ e => d * e) (fun _ e => e ≠ 0)
abbrev spSub (K : PySem.W.Frag) : Sp := spOp K (fun u d v e => u * e - v * d) (fun _ d _ e => d * e) (fun _ e => e ≠ 0)
abbrev spMul (K : PySem.W.Frag) : Sp := spOp K (fun u _ v _ => u * v) (fun _ d _ e => d * e) (fun _ e => e ≠ 0)
abbrev spOver (K : PySem.W.Frag) : Sp := spOp K (fun u _ _ e => u * e) (fun _ d v _ => d * v) (fun v _ => v ≠ 0)
def spNeg (K : PySem.W.Frag) : Sp := fun vs H Q _ => ∃ (a : Addr) (u d : Int), vs = [.ref a] ∧ RatAt K H a u d ∧ d ≠ 0 ∧ FoM.Sz 4000 d ∧ ∀ p H', H p = none → Same H H' → RatAt K H' p (FoM.frN (-u) d) (FoM.frD (-u) d) → Q (.ref p) H'
section
variable {P : Program} {w : World} {K : PySem.W.Frag} {mg : Str → Option Value} {base : Heap}
theorem bind_init2 (T : Tx K mg) : Binds K T.fd_Ratio_init ["self", "top", "bottom"] [] := by
  obtain ⟨ds, v, b⟩ := T.F_Ratio_init.binds1 (ps := ["self", "top", "bottom"]) 3 1 (by simp) rfl (fun X kV doc pm an cdv ct us its l1 l2 => match us, its, l1, l2 with | [_, _, _], [_], _, _ => ⟨_, rfl, rfl⟩)
  cases v
  exact b
theorem bind_init1 (T : Tx K mg) : ∃ ds, Vals [.int 1] ds ∧ Binds K T.fd_Ratio_init ["self", "top", "bottom"] ds :=
  T.F_Ratio_init.binds1 (ps := ["self", "top", "bottom"]) 2 0 (by simp) rfl (fun X kV doc pm an cdv ct us its l1 l2 => match us, its, l1, l2 with | [_, _], [_], _, _ => ⟨_, rfl, rfl⟩)
theorem ok_Ratio_init (T : Tx K mg) : FnOk P w K mg base CX0 1 (He.ma K (He.ga K "Ratio") "__init__") T.fd_Ratio_init ["self", "top", "bottom"] (spInit K) := by
  refine T.F_Ratio_init.ok sc_Ratio_init (fun vs H Q E h => ?_) (fun cdv A outer s H vs Q E hr h => ?_)
  · obtain ⟨p, dx, t, b, rfl, _⟩ := h
    rfl
  · obtain ⟨p, dx, t, b, rfl, hp, hb, hz, q⟩ := h
    refine ⟨_, (pss_cons (ps_if (pt_cmpR op_eq (pv 2) pe_int (nomark _)) (pss_one ps_never) pss_nil)
      (pss_cons (ps_set (i := 3) sc_Ratio_init.nd rfl (.inl rfl) (pe_callBfun cr_gcd (by rfl) T.i_gcd (pa_cons (pv 1) (pa_cons (pv 2) pa_nil))))
      (pss_cons (ps_if (pt_cmpR op_lt (pv 2) pe_int (nomark _)) (pss_one (ps_set (i := 3) sc_Ratio_init.nd rfl (.inl rfl) (pe_un un_neg (pv 3)))) pss_nil)
      (pss_cons (ps_fld (pv 0) (pe_op FoA.op_fdivZ (pv 1) (pv 3)) rfl)
      (pss_one (ps_fld (pv 0) (pe_op FoA.op_fdivZ (pv 2) (pv 3)) rfl)))))), ?_⟩
    refine ⟨_, rfl, rfl, _, rfl, ite2 (fun e => absurd (V.int.inj (of_decide_eq_true e)) hb) (fun e => ?_)⟩
    refine ⟨_, rfl, _, rfl, _, _, rfl, ?_⟩
    have hne := FoM.gc_ne (u := t) hb
    have hle := FoM.gc_le (u := t) hb
    have hdz : FoA.CDivZ t (FoM.gc t b) := FoA.divZ_of hne (FoM.Sz.le hz hle) (by decide) (by decide)
    have hdz2 : FoA.CDivZ b (FoM.gc t b) := FoA.divZ_of hne (FoM.Sz.le hz hle) (by decide) (by decide)
    have fin : RatAt K (upd (upd H p (.ins (RC K) dx (putF "_top" (.int (FoM.frN t b)) []))) p (.ins (RC K) dx (putF "_bottom" (.int (FoM.frD t b)) (putF "_top" (.int (FoM.frN t b)) [])))) p (FoM.frN t b) (FoM.frD t b) := ⟨dx, upd_same⟩
    have fb : But p H (upd (upd H p (.ins (RC K) dx (putF "_top" (.int (FoM.frN t b)) []))) p (.ins (RC K) dx (putF "_bottom" (.int (FoM.frD t b)) (putF "_top" (.int (FoM.frN t b)) [])))) := But.upd.trans But.upd
    have last := q _ fin fb
    unfold FoM.frN FoM.frD at last
    refine ⟨_, rfl, _, _, rfl, rfl, _, rfl, ite2 (fun e2 => ?_) (fun e2 => ?_)⟩
    · have hd0 : b < 0 := of_decide_eq_true e2
      have eg : -((Nat.gcd t.natAbs b.natAbs : Nat) : Int) = FoM.gc t b := by
        unfold FoM.gc
        rw [if_pos hd0]
      rw [← eg] at hdz hdz2 last
      exact ⟨_, rfl, _, rfl, _, rfl, _, rfl, _, _, rfl, rfl, hdz, _, rfl, p, _, dx, _, rfl, hp, T.cl_R, T.nT_R, (by show 0 < 1000; decide), _, rfl, _, rfl, _, _, rfl, rfl, hdz2, _, rfl, p, _, dx, _, rfl, upd_same, T.cl_R, T.nB_R, (by show 1 < 1000; decide), last⟩
    · have hd0 : ¬ b < 0 := of_decide_eq_false (Bool.eq_false_iff.mpr e2)
      have eg : ((Nat.gcd t.natAbs b.natAbs : Nat) : Int) = FoM.gc t b := by
        unfold FoM.gc
        rw [if_neg hd0]
      rw [← eg] at hdz hdz2 last
      exact ⟨_, rfl, _, rfl, _, _, rfl, rfl, hdz, _, rfl, p, _, dx, _, rfl, hp, T.cl_R, T.nT_R, (by show 0 < 1000; decide), _, rfl, _, rfl, _, _, rfl, rfl, hdz2, _, rfl, p, _, dx, _, rfl, upd_same, T.cl_R, T.nB_R, (by show 1 < 1000; decide), last⟩
/-- what a call of Ratio asks, of a number and another one that is not 0 -/
theorem rd_make {H : Hp} {t b : Int} {Q : VK} {E : XK} (hb : b ≠ 0) (hz : FoM.Sz 4000 b) (q : ∀ p H', H p = none → Same H H' → RatAt K H' p (FoM.frN t b) (FoM.frD t b) → Q (.ref p) H') :
    ∀ x dx, H x = none → H dx = none → dx ≠ x → spInit K [.ref x, .int t, .int b] (upd (upd H dx (.own x)) x (.ins (RC K) dx [])) (fun v H2 => v = .non ∧ Q (.ref x) H2) E := fun x dx nx ndx ne =>
  ⟨x, dx, t, b, rfl, upd_same, hb, hz, fun H' hR hB => ⟨rfl, q x H' nx (Same.made nx ndx hB) hR⟩⟩
theorem ok_Ratio_top (T : Tx K mg) : FnOk P w K mg base CX0 1 (FoZ.pg K "Ratio" "top") T.fd_Ratio_top ["self"] (spTop K) := by
  refine T.F_Ratio_top.ok sc_Ratio_top (fun vs H Q E h => ?_) (fun cdv A outer s H vs Q E hr h => ?_)
  · obtain ⟨a, u, d, rfl, _⟩ := h
    rfl
  · obtain ⟨a, u, d, rfl, ⟨dx, ha⟩, q⟩ := h
    exact ⟨_, (pss_one (ps_ret (pe_fld (pv 0) rfl))), ⟨_, rfl, a, _, dx, _, _, rfl, ha, T.cl_R, T.nT_R, rf_top _ _, q⟩⟩
theorem ok_Ratio_bottom (T : Tx K mg) : FnOk P w K mg base CX0 1 (FoZ.pg K "Ratio" "bottom") T.fd_Ratio_bottom ["self"] (spBot K) := by
  refine T.F_Ratio_bottom.ok sc_Ratio_bottom (fun vs H Q E h => ?_) (fun cdv A outer s H vs Q E hr h => ?_)
  · obtain ⟨a, u, d, rfl, _⟩ := h
    rfl
  · obtain ⟨a, u, d, rfl, ⟨dx, ha⟩, q⟩ := h
    exact ⟨_, (pss_one (ps_ret (pe_fld (pv 0) rfl))), ⟨_, rfl, a, _, dx, _, _, rfl, ha, T.cl_R, T.nB_R, rf_bot _ _, q⟩⟩
theorem ok_is_whole (T : Tx K mg) : FnOk P w K mg base CX0 1 (He.ga K "is_whole") T.fd_is_whole ["given"] (spIsInt K) := by
  refine T.F_is_whole.ok sc_is_whole (fun vs H Q E h => ?_) (fun cdv A outer s H vs Q E hr h => ?_)
  · obtain ⟨y, rfl, _⟩ := h
    rfl
  · obtain ⟨y, rfl, h⟩ := h
    refine ⟨_, (pss_one (ps_ret (pe_and (pe_callB call_isi (by rfl) T.z_isinstance (by decide +kernel) (pa_cons (pv 0) (pa_cons (pe_bltn (v := V.ty "int") (u := Value.type "int") (by rfl) T.z_int (by decide +kernel) rfl) pa_nil))) (pe_one (pe_not (pe_callB call_isi (by rfl) T.z_isinstance (by decide +kernel) (pa_cons (pv 0) (pa_cons (pe_bltn (v := V.ty "bool") (u := Value.type "bool") (by rfl) T.z_bool (by decide +kernel) rfl) pa_nil)))))))), ?_⟩
    rcases h with ⟨⟨i, rfl⟩, q⟩ | ⟨hN, q⟩
    · refine ⟨_, rfl, _, _, _, _, _, rfl, .ty _, .base (.int i), kit_int.1, _, rfl, iteT ?_⟩
      exact ⟨_, rfl, _, _, _, _, _, rfl, .ty _, .base (.int i), kit_int.2, _, rfl, q⟩
    · obtain ⟨X, hX, ty, b1, b2, k1, k2, hb⟩ := hN.ty (K := K)
      refine ⟨_, rfl, _, _, _, _, _, rfl, .ty _, ty, k1, _, rfl, ?_⟩
      cases b1 with
      | false => exact iteF q
      | true =>
        cases b2 with
        | false => cases hb
        | true => exact iteT ⟨_, rfl, _, _, _, _, _, rfl, .ty _, ty, k2, _, rfl, q⟩
theorem ok_is_number (T : Tx K mg) : FnOk P w K mg base CX0 2 (He.ga K "is_number") T.fd_is_number ["given"] (spIsNumber K) := by
  refine T.F_is_number.ok sc_is_number (fun vs H Q E h => ?_) (fun cdv A outer s H vs Q E hr h => ?_)
  · obtain ⟨y, rfl, _⟩ := h
    rfl
  · obtain ⟨y, rfl, h⟩ := h
    refine ⟨_, (pss_one (ps_ret (pe_or (pe_callB call_isi (by rfl) T.z_isinstance (by decide +kernel) (pa_cons (pv 0) (pa_cons (pe_glob (v := V.ref (He.ga K "Ratio")) (by rfl) T.c_Ratio rfl) pa_nil))) (pe_one (pe_call (ok_is_whole T) (hr.mono (by decide)) (by rfl) T.g_is_whole T.F_is_whole.kp T.b_is_whole .nil pass0 (pa_cons (pv 0) pa_nil)))))), ?_⟩
    rcases h with ⟨v, e, ⟨b, rfl, dx, hb⟩ | ⟨rfl, rfl⟩, q⟩ | ⟨hN, q⟩
    · exact ⟨_, rfl, _, _, _, _, _, rfl, .own _, FoB.TyI T.is_R T.cl_R hb, FoB.kit_self, _, rfl, iteT q⟩
    · refine ⟨_, rfl, _, _, _, _, _, rfl, .own _, .base (.int v), T.is_R.kt "int" (by decide), _, rfl, iteF ?_⟩
      exact ⟨_, rfl, _, rfl, .inl ⟨⟨v, rfl⟩, q⟩⟩
    · obtain ⟨X, hX, ty, _⟩ := hN.ty (K := K)
      refine ⟨_, rfl, _, _, _, _, _, rfl, .own _, ty, T.is_R.kt X hX, _, rfl, iteF ?_⟩
      exact ⟨_, rfl, _, rfl, .inr ⟨hN, q⟩⟩
theorem ok_as_ratio (T : Tx K mg) : FnOk P w K mg base CX0 3 (He.ga K "as_ratio") T.fd_as_ratio ["given"] (spAs K) := by
  refine T.F_as_ratio.ok sc_as_ratio (fun vs H Q E h => ?_) (fun cdv A outer s H vs Q E hr h => ?_)
  · obtain ⟨y, v, e, rfl, _⟩ := h
    rfl
  · obtain ⟨y, v, e, rfl, hy, q⟩ := h
    obtain ⟨ds, vd, bd⟩ := bind_init1 T
    refine ⟨_, (pss_cons (ps_if (pt_not (pt_val (pe_call (ok_is_number T) (hr.mono (by decide)) (by rfl) T.g_is_number T.F_is_number.kp T.b_is_number .nil pass0 (pa_cons (pv 0) pa_nil)))) (pss_one ps_never) pss_nil)
      (pss_one (ps_ret (pe_ifExp (pt_val (pe_callB call_isi (by rfl) T.z_isinstance (by decide +kernel) (pa_cons (pv 0) (pa_cons (pe_glob (v := V.ref (He.ga K "Ratio")) (by rfl) T.c_Ratio rfl) pa_nil)))) (pv 0) (pe_make T.mk_R (ok_Ratio_init T) (hr.mono (by decide)) (by rfl) T.c_Ratio bd vd pass0 (pa_cons (pv 0) pa_nil)))))), ?_⟩
    refine ⟨_, rfl, y, rfl, .inl ⟨v, e, hy, _, rfl, iteF ?_⟩⟩
    rcases hy with ⟨b, rfl, hb⟩ | ⟨rfl, rfl⟩
    · obtain ⟨dx, hb'⟩ := id hb
      refine ⟨_, rfl, _, _, _, _, _, rfl, .own _, FoB.TyI T.is_R T.cl_R hb', FoB.kit_self, _, rfl, iteT ?_⟩
      exact ⟨_, rfl, q b H (Same.refl H) hb⟩
    · refine ⟨_, rfl, _, _, _, _, _, rfl, .own _, .base (.int v), T.is_R.kt "int" (by decide), _, rfl, iteF ?_⟩
      refine ⟨_, rfl, rd_make (by decide) (sz_of 1000000 (by decide) (by decide) (Nat.le_trans (by decide) (Nat.pow_le_pow_right (by decide) (show 20 ≤ 4000 by decide)))) fun p H' np sm hR => ?_⟩
      rw [(FoM.fr_one v).1, (FoM.fr_one v).2] at hR
      exact q p H' sm hR
theorem ok_Ratio_eq (T : Tx K mg) : FnOk P w K mg base CX0 2 (He.ma K (He.ga K "Ratio") "__eq__") T.fd_Ratio_eq ["self", "other"] (spEq K) := by
  refine T.F_Ratio_eq.ok sc_Ratio_eq (fun vs H Q E h => ?_) (fun cdv A outer s H vs Q E hr h => ?_)
  · obtain ⟨a, y, u, d, rfl, _⟩ := h
    rfl
  · obtain ⟨a, y, u, d, rfl, ⟨dx, ha⟩, h⟩ := h
    refine ⟨_, (pss_cons (ps_if (pt_val (pe_callB call_isi (by rfl) T.z_isinstance (by decide +kernel) (pa_cons (pv 1) (pa_cons (pe_glob (v := V.ref (He.ga K "Ratio")) (by rfl) T.c_Ratio rfl) pa_nil)))) (pss_one (ps_ret (pe_and (pe_cmpR op_eq (pe_fld (pv 0) rfl) (pe_fld (pv 1) rfl) (nomark _)) (pe_one (pe_cmpR op_eq (pe_fld (pv 0) rfl) (pe_fld (pv 1) rfl) (nomark _)))))) pss_nil)
      (pss_one (ps_ret (pe_and (pe_call (ok_is_whole T) (hr.mono (by decide)) (by rfl) T.g_is_whole T.F_is_whole.kp T.b_is_whole .nil pass0 (pa_cons (pv 1) pa_nil)) (pe_and (pe_cmpR op_eq (pe_fld (pv 0) rfl) pe_int (nomark _)) (pe_one (pe_cmpR op_eq (pe_fld (pv 0) rfl) (pv 1) (nomark _)))))))), ?_⟩
    rcases h with ⟨b, v, e, rfl, ⟨dy, hb⟩, q⟩ | ⟨i, rfl, q⟩ | ⟨hN, q⟩
    · refine ⟨_, rfl, _, _, _, _, _, rfl, .own _, FoB.TyI T.is_R T.cl_R hb, FoB.kit_self, _, rfl, iteT ?_⟩
      refine ⟨_, rfl, a, _, dx, _, _, rfl, ha, T.cl_R, T.nT_R, rf_top _ _, _, rfl, b, _, dy, _, _, rfl, hb, T.cl_R, T.nT_R, rf_top _ _, rfl, _, rfl, ?_⟩
      by_cases e1 : u = v
      · rw [decide_eq_true e1, Bool.true_and] at q
        rw [decide_eq_true (show V.int u = V.int v by rw [e1])]
        refine iteT ⟨_, rfl, a, _, dx, _, _, rfl, ha, T.cl_R, T.nB_R, rf_bot _ _, _, rfl, b, _, dy, _, _, rfl, hb, T.cl_R, T.nB_R, rf_bot _ _, rfl, ?_⟩
        have e2 : decide (V.int d = V.int e) = decide (d = e) := by
          by_cases z : d = e
          · rw [z]; simp
          · rw [decide_eq_false z, decide_eq_false (fun h => z (V.int.inj h))]
        show Q (.bl (decide (V.int d = V.int e))) H
        rw [e2]
        exact q
      · rw [decide_eq_false e1, Bool.false_and] at q
        rw [decide_eq_false (fun h : V.int u = V.int v => e1 (V.int.inj h))]
        exact iteF q
    · refine ⟨_, rfl, _, _, _, _, _, rfl, .own _, .base (.int i), T.is_R.kt "int" (by decide), _, rfl, iteF ?_⟩
      refine ⟨_, rfl, _, rfl, .inl ⟨⟨i, rfl⟩, _, rfl, iteT ?_⟩⟩
      refine ⟨_, rfl, a, _, dx, _, _, rfl, ha, T.cl_R, T.nB_R, rf_bot _ _, rfl, _, rfl, ?_⟩
      by_cases e1 : d = 1
      · rw [decide_eq_true e1, Bool.true_and] at q
        rw [decide_eq_true (show V.int d = V.int 1 by rw [e1])]
        refine iteT ⟨_, rfl, a, _, dx, _, _, rfl, ha, T.cl_R, T.nT_R, rf_top _ _, _, rfl, rfl, ?_⟩
        have e2 : decide (V.int u = V.int i) = decide (u = i) := by
          by_cases z : u = i
          · rw [z]; simp
          · rw [decide_eq_false z, decide_eq_false (fun h => z (V.int.inj h))]
        show Q (.bl (decide (V.int u = V.int i))) H
        rw [e2]
        exact q
      · rw [decide_eq_false e1, Bool.false_and] at q
        rw [decide_eq_false (fun h : V.int d = V.int 1 => e1 (V.int.inj h))]
        exact iteF q
    · obtain ⟨X, hX, ty, _⟩ := hN.ty (K := K)
      refine ⟨_, rfl, _, _, _, _, _, rfl, .own _, ty, T.is_R.kt X hX, _, rfl, iteF ?_⟩
      exact ⟨_, rfl, _, rfl, .inr ⟨hN, _, rfl, iteF q⟩⟩
theorem ok_Ratio_add (T : Tx K mg) : FnOk P w K mg base CX0 4 (He.ma K (He.ga K "Ratio") "__add__") T.fd_Ratio_add ["self", "other"] (spAdd K) := by
  refine T.F_Ratio_add.ok sc_Ratio_add (fun vs H Q E h => ?_) (fun cdv A outer s H vs Q E hr h => ?_)
  · obtain ⟨a, y, u, d, v, e, rfl, _⟩ := h
    rfl
  · obtain ⟨a, y, u, d, v, e, rfl, ha, hy, hd, he, zu, zd, zv, ze, q⟩ := h
    refine ⟨_, (pss_cons (ps_set (i := 2) sc_Ratio_add.nd rfl (.inl rfl) (pe_call (ok_as_ratio T) (hr.mono (by decide)) (by rfl) T.g_as_ratio T.F_as_ratio.kp T.b_as_ratio .nil pass0 (pa_cons (pv 1) pa_nil)))
      (pss_one (ps_ret (pe_make T.mk_R (ok_Ratio_init T) (hr.mono (by decide)) (by rfl) T.c_Ratio (bind_init2 T) .nil pass0 (pa_cons (pe_op op_add (pe_op op_mulW (pe_fld (pv 0) rfl) (pe_fld (pv 2) rfl)) (pe_op op_mulW (pe_fld (pv 2) rfl) (pe_fld (pv 0) rfl))) (pa_cons (pe_op op_mulW (pe_fld (pv 0) rfl) (pe_fld (pv 2) rfl)) pa_nil)))))), ?_⟩
    refine ⟨_, rfl, y, v, e, rfl, hy, fun b H' sm hb => ?_⟩
    obtain ⟨dx, ha'⟩ := ha.same sm
    obtain ⟨dy, hb'⟩ := hb
    exact ⟨_, rfl, a, _, dx, _, _, rfl, ha', T.cl_R, T.nT_R, rf_top _ _, _, rfl, b, _, dy, _, _, rfl, hb', T.cl_R, T.nB_R, rf_bot _ _, _, _, rfl, rfl, FoM.Sz.mulok zu ze, _, rfl, b, _, dy, _, _, rfl, hb', T.cl_R, T.nT_R, rf_top _ _, _, rfl, a, _, dx, _, _, rfl, ha', T.cl_R, T.nB_R, rf_bot _ _, _, _, rfl, rfl, FoM.Sz.mulok zv zd, _, _, rfl, rfl,
      _, rfl, a, _, dx, _, _, rfl, ha', T.cl_R, T.nB_R, rf_bot _ _, _, rfl, b, _, dy, _, _, rfl, hb', T.cl_R, T.nB_R, rf_bot _ _, _, _, rfl, rfl, FoM.Sz.mulok zd ze, rd_make (Int.mul_ne_zero hd he) ((zd.mul ze).mono (by decide)) fun p H2 np sm2 hR => q p H2 (sm.free np) (sm.trans sm2) hR⟩
theorem ok_Ratio_sub (T : Tx K mg) : FnOk P w K mg base CX0 4 (He.ma K (He.ga K "Ratio") "__sub__") T.fd_Ratio_sub ["self", "other"] (spSub K) := by
  refine T.F_Ratio_sub.ok sc_Ratio_sub (fun vs H Q E h => ?_) (fun cdv A outer s H vs Q E hr h => ?_)
  · obtain ⟨a, y, u, d, v, e, rfl, _⟩ := h
    rfl
  · obtain ⟨a, y, u, d, v, e, rfl, ha, hy, hd, he, zu, zd, zv, ze, q⟩ := h
    refine ⟨_, (pss_cons (ps_set (i := 2) sc_Ratio_sub.nd rfl (.inl rfl) (pe_call (ok_as_ratio T) (hr.mono (by decide)) (by rfl) T.g_as_ratio T.F_as_ratio.kp T.b_as_ratio .nil pass0 (pa_cons (pv 1) pa_nil)))
      (pss_one (ps_ret (pe_make T.mk_R (ok_Ratio_init T) (hr.mono (by decide)) (by rfl) T.c_Ratio (bind_init2 T) .nil pass0 (pa_cons (pe_op op_sub (pe_op op_mulW (pe_fld (pv 0) rfl) (pe_fld (pv 2) rfl)) (pe_op op_mulW (pe_fld (pv 2) rfl) (pe_fld (pv 0) rfl))) (pa_cons (pe_op op_mulW (pe_fld (pv 0) rfl) (pe_fld (pv 2) rfl)) pa_nil)))))), ?_⟩
    refine ⟨_, rfl, y, v, e, rfl, hy, fun b H' sm hb => ?_⟩
    obtain ⟨dx, ha'⟩ := ha.same sm
    obtain ⟨dy, hb'⟩ := hb
    exact ⟨_, rfl, a, _, dx, _, _, rfl, ha', T.cl_R, T.nT_R, rf_top _ _, _, rfl, b, _, dy, _, _, rfl, hb', T.cl_R, T.nB_R, rf_bot _ _, _, _, rfl, rfl, FoM.Sz.mulok zu ze, _, rfl, b, _, dy, _, _, rfl, hb', T.cl_R, T.nT_R, rf_top _ _, _, rfl, a, _, dx, _, _, rfl, ha', T.cl_R, T.nB_R, rf_bot _ _, _, _, rfl, rfl, FoM.Sz.mulok zv zd, _, _, rfl, rfl,
      _, rfl, a, _, dx, _, _, rfl, ha', T.cl_R, T.nB_R, rf_bot _ _, _, rfl, b, _, dy, _, _, rfl, hb', T.cl_R, T.nB_R, rf_bot _ _, _, _, rfl, rfl, FoM.Sz.mulok zd ze, rd_make (Int.mul_ne_zero hd he) ((zd.mul ze).mono (by decide)) fun p H2 np sm2 hR => q p H2 (sm.free np) (sm.trans sm2) hR⟩
theorem ok_Ratio_mul (T : Tx K mg) : FnOk P w K mg base CX0 4 (He.ma K (He.ga K "Ratio") "__mul__") T.fd_Ratio_mul ["self", "other"] (spMul K) := by
  refine T.F_Ratio_mul.ok sc_Ratio_mul (fun vs H Q E h => ?_) (fun cdv A outer s H vs Q E hr h => ?_)
  · obtain ⟨a, y, u, d, v, e, rfl, _⟩ := h
    rfl
  · obtain ⟨a, y, u, d, v, e, rfl, ha, hy, hd, he, zu, zd, zv, ze, q⟩ := h
    refine ⟨_, (pss_cons (ps_set (i := 2) sc_Ratio_mul.nd rfl (.inl rfl) (pe_call (ok_as_ratio T) (hr.mono (by decide)) (by rfl) T.g_as_ratio T.F_as_ratio.kp T.b_as_ratio .nil pass0 (pa_cons (pv 1) pa_nil)))
      (pss_one (ps_ret (pe_make T.mk_R (ok_Ratio_init T) (hr.mono (by decide)) (by rfl) T.c_Ratio (bind_init2 T) .nil pass0 (pa_cons (pe_op op_mulW (pe_fld (pv 0) rfl) (pe_fld (pv 2) rfl)) (pa_cons (pe_op op_mulW (pe_fld (pv 0) rfl) (pe_fld (pv 2) rfl)) pa_nil)))))), ?_⟩
    refine ⟨_, rfl, y, v, e, rfl, hy, fun b H' sm hb => ?_⟩
    obtain ⟨dx, ha'⟩ := ha.same sm
    obtain ⟨dy, hb'⟩ := hb
    exact ⟨_, rfl, a, _, dx, _, _, rfl, ha', T.cl_R, T.nT_R, rf_top _ _, _, rfl, b, _, dy, _, _, rfl, hb', T.cl_R, T.nT_R, rf_top _ _, _, _, rfl, rfl, FoM.Sz.mulok zu zv,
      _, rfl, a, _, dx, _, _, rfl, ha', T.cl_R, T.nB_R, rf_bot _ _, _, rfl, b, _, dy, _, _, rfl, hb', T.cl_R, T.nB_R, rf_bot _ _, _, _, rfl, rfl, FoM.Sz.mulok zd ze, rd_make (Int.mul_ne_zero hd he) ((zd.mul ze).mono (by decide)) fun p H2 np sm2 hR => q p H2 (sm.free np) (sm.trans sm2) hR⟩
theorem ok_Ratio_neg (T : Tx K mg) : FnOk P w K mg base CX0 3 (He.ma K (He.ga K "Ratio") "__neg__") T.fd_Ratio_neg ["self"] (spNeg K) := by
  refine T.F_Ratio_neg.ok sc_Ratio_neg (fun vs H Q E h => ?_) (fun cdv A outer s H vs Q E hr h => ?_)
  · obtain ⟨a, u, d, rfl, _⟩ := h
    rfl
  · obtain ⟨a, u, d, rfl, ⟨dx, ha'⟩, hd, hz, q⟩ := h
    refine ⟨_, (pss_one (ps_ret (pe_make T.mk_R (ok_Ratio_init T) (hr.mono (by decide)) (by rfl) T.c_Ratio (bind_init2 T) .nil pass0 (pa_cons (pe_un un_neg (pe_fld (pv 0) rfl)) (pa_cons (pe_fld (pv 0) rfl) pa_nil))))), ?_⟩
    exact ⟨_, rfl, a, _, dx, _, _, rfl, ha', T.cl_R, T.nT_R, rf_top _ _, _, rfl, _, rfl, a, _, dx, _, _, rfl, ha', T.cl_R, T.nB_R, rf_bot _ _, rd_make hd hz q⟩
end

/-! ### the class Ratio, with rational numbers -/
def RtAt (K : PySem.W.Frag) (H : Hp) (p : Addr) (r : Rat) : Prop := RatAt K H p r.num r.den
theorem RtAt.same {K : PySem.W.Frag} {H H' : Hp} {p : Addr} {r : Rat} (h : RtAt K H p r) (e : Same H H') : RtAt K H' p r := RatAt.same h e
def NmV (K : PySem.W.Frag) (H : Hp) (y : V) (r : Rat) : Prop := (∃ b, y = .ref b ∧ RtAt K H b r) ∨ (∃ i : Int, y = .int i ∧ r = (i : Rat))
theorem NmV.num {K : PySem.W.Frag} {H : Hp} {y : V} {r : Rat} (h : NmV K H y r) : NumV K H y r.num r.den := by
  rcases h with ⟨b, rfl, hb⟩ | ⟨i, rfl, rfl⟩
  · exact .inl ⟨b, rfl, hb⟩
  · refine .inr ⟨?_, ?_⟩
    · rw [Rat.num_intCast]
    · rw [Rat.den_intCast]
      rfl
theorem NmV.same {K : PySem.W.Frag} {H H' : Hp} {y : V} {r : Rat} (h : NmV K H y r) (s : Same H H') : NmV K H' y r := by
  rcases h with ⟨b, h1, h2⟩ | h
  · exact .inl ⟨b, h1, h2.same s⟩
  · exact .inr h
theorem RtAt.nm {K : PySem.W.Frag} {H : Hp} {p : Addr} {r : Rat} (h : RtAt K H p r) : NmV K H (.ref p) r := .inl ⟨p, rfl, h⟩
theorem rt_of {K : PySem.W.Frag} {H : Hp} {p : Addr} {u d : Int} {r : Rat} (h : d ≠ 0) (e : Rat.divInt u d = r) (q : RatAt K H p (FoM.frN u d) (FoM.frD u d)) : RtAt K H p r := by
  rw [(FoQ.fr_of h e).1, (FoQ.fr_of h e).2] at q
  exact q
def spInitQ (K : PySem.W.Frag) : Sp := fun vs H Q _ => ∃ (p dx : Addr) (t b : Int), vs = [.ref p, .int t, .int b] ∧ H p = some (.ins (RC K) dx []) ∧ b ≠ 0 ∧ FoM.Sz 4000 b ∧ ∀ H', RtAt K H' p (Rat.divInt t b) → But p H H' → Q .non H'
def spTopQ (K : PySem.W.Frag) : Sp := fun vs H Q _ => ∃ (a : Addr) (r : Rat), vs = [.ref a] ∧ RtAt K H a r ∧ Q (.int r.num) H
def spBotQ (K : PySem.W.Frag) : Sp := fun vs H Q _ => ∃ (a : Addr) (r : Rat), vs = [.ref a] ∧ RtAt K H a r ∧ Q (.int r.den) H
def spAsQ (K : PySem.W.Frag) : Sp := fun vs H Q _ => ∃ (y : V) (r : Rat), vs = [y] ∧ NmV K H y r ∧ ∀ b H', Same H H' → RtAt K H' b r → Q (.ref b) H'
def spEqQ (K : PySem.W.Frag) : Sp := fun vs H Q _ => ∃ (a : Addr) (y : V) (x : Rat), vs = [.ref a, y] ∧ RtAt K H a x ∧ ((∃ z, NmV K H y z ∧ Q (.bl (decide (x = z))) H) ∨ (NoNum H y ∧ Q (.bl false) H))
def spOpQ (K : PySem.W.Frag) (f : Rat → Rat → Rat) (C : Rat → Prop) : Sp := fun vs H Q _ => ∃ (a : Addr) (y : V) (x z : Rat), vs = [.ref a, y] ∧ RtAt K H a x ∧ NmV K H y z ∧ C z ∧ FoQ.SzR 1900 x ∧ FoQ.SzR 1900 z ∧
  ∀ p H', H p = none → Same H H' → RtAt K H' p (f x z) → Q (.ref p) H'
def spCmpQ (K : PySem.W.Frag) (f : Rat → Rat → Bool) : Sp := fun vs H Q _ => ∃ (a : Addr) (y : V) (x z : Rat), vs = [.ref a, y] ∧ RtAt K H a x ∧ NmV K H y z ∧ FoQ.SzR 1900 x ∧ FoQ.SzR 1900 z ∧ ∀ H', Same H H' → Q (.bl (f x z)) H'
def spNegQ (K : PySem.W.Frag) : Sp := fun vs H Q _ => ∃ (a : Addr) (x : Rat), vs = [.ref a] ∧ RtAt K H a x ∧ FoQ.SzR 4000 x ∧ ∀ p H', H p = none → Same H H' → RtAt K H' p (-x) → Q (.ref p) H'
def spSignQ (K : PySem.W.Frag) : Sp := fun vs H Q _ => ∃ (y : V) (r : Rat), vs = [y] ∧ NmV K H y r ∧ ∀ H', Same H H' → Q (.int (sgn r.num)) H'
theorem eq_bool {x z : Rat} : (decide (x.num = z.num) && decide ((x.den : Int) = z.den)) = decide (x = z) := by
  by_cases h : x = z
  · subst h
    simp
  · rw [decide_eq_false h]
    cases e : (decide (x.num = z.num) && decide ((x.den : Int) = z.den)) with
    | false => rfl
    | true =>
      rw [Bool.and_eq_true] at e
      exact absurd ((FoQ.q_eq_iff x z).mp ⟨of_decide_eq_true e.1, of_decide_eq_true e.2⟩) h
section
variable {P : Program} {w : World} {K : PySem.W.Frag} {mg : Str → Option Value} {base : Heap}
theorem ok_initQ (T : Tx K mg) : FnOk P w K mg base CX0 1 (He.ma K (He.ga K "Ratio") "__init__") T.fd_Ratio_init ["self", "top", "bottom"] (spInitQ K) := (ok_Ratio_init T).imp fun vs H Q E h => by
  obtain ⟨p, dx, t, b, e, hp, hb, hz, q⟩ := h
  exact ⟨p, dx, t, b, e, hp, hb, hz, fun H' hR bt => q H' (rt_of hb rfl hR) bt⟩
/-- what a call of Ratio asks -/
theorem rq_make {H : Hp} {t b : Int} {r : Rat} {R : Addr → VK} {E : XK} (hb : b ≠ 0) (hz : FoM.Sz 4000 b) (e : Rat.divInt t b = r) (q : ∀ p H', H p = none → Same H H' → RtAt K H' p r → R p .non H') :
    ∀ x dx, H x = none → H dx = none → dx ≠ x → spInitQ K [.ref x, .int t, .int b] (upd (upd H dx (.own x)) x (.ins (RC K) dx [])) (R x) E := fun x dx nx ndx ne =>
  ⟨x, dx, t, b, rfl, upd_same, hb, hz, fun H' hR hB => q x H' nx (Same.made nx ndx hB) (by rw [← e]; exact hR)⟩
theorem ok_topQ (T : Tx K mg) : FnOk P w K mg base CX0 1 (FoZ.pg K "Ratio" "top") T.fd_Ratio_top ["self"] (spTopQ K) := (ok_Ratio_top T).imp fun vs H Q E h => by
  obtain ⟨a, r, e, ha, q⟩ := h
  exact ⟨a, r.num, r.den, e, ha, q⟩
theorem ok_bottomQ (T : Tx K mg) : FnOk P w K mg base CX0 1 (FoZ.pg K "Ratio" "bottom") T.fd_Ratio_bottom ["self"] (spBotQ K) := (ok_Ratio_bottom T).imp fun vs H Q E h => by
  obtain ⟨a, r, e, ha, q⟩ := h
  exact ⟨a, r.num, r.den, e, ha, q⟩
theorem ok_asQ (T : Tx K mg) : FnOk P w K mg base CX0 3 (He.ga K "as_ratio") T.fd_as_ratio ["given"] (spAsQ K) := (ok_as_ratio T).imp fun vs H Q E h => by
  obtain ⟨y, r, e, hy, q⟩ := h
  exact ⟨y, r.num, r.den, e, hy.num, q⟩
theorem ok_eqQ (T : Tx K mg) : FnOk P w K mg base CX0 2 (He.ma K (He.ga K "Ratio") "__eq__") T.fd_Ratio_eq ["self", "other"] (spEqQ K) := (ok_Ratio_eq T).imp fun vs H Q E h => by
  obtain ⟨a, y, x, e, ha, h⟩ := h
  refine ⟨a, y, x.num, x.den, e, ha, ?_⟩
  rcases h with ⟨z, ⟨b, rfl, hb⟩ | ⟨i, rfl, rfl⟩, q⟩ | h
  · exact .inl ⟨b, z.num, z.den, rfl, hb, by rw [eq_bool]; exact q⟩
  · refine .inr (.inl ⟨i, rfl, ?_⟩)
    have e2 : (decide ((x.den : Int) = 1) && decide (x.num = i)) = decide (x = (i : Rat)) := by
      rw [← eq_bool, Rat.num_intCast, Rat.den_intCast, Bool.and_comm]
      rfl
    rw [e2]
    exact q
  · exact .inr (.inr h)
theorem ok_addQ (T : Tx K mg) : FnOk P w K mg base CX0 4 (He.ma K (He.ga K "Ratio") "__add__") T.fd_Ratio_add ["self", "other"] (spOpQ K (· + ·) fun _ => True) := (ok_Ratio_add T).imp fun vs H Q E h => by
  obtain ⟨a, y, x, z, e, ha, hy, _, hx, hz, q⟩ := h
  exact ⟨a, y, x.num, x.den, z.num, z.den, e, ha, hy.num, FoQ.den_ne x, FoQ.den_ne z, hx.1, hx.2, hz.1, hz.2, fun p H' n s hR => q p H' n s (rt_of (Int.mul_ne_zero (FoQ.den_ne x) (FoQ.den_ne z)) (FoQ.q_add x z) hR)⟩
theorem ok_subQ (T : Tx K mg) : FnOk P w K mg base CX0 4 (He.ma K (He.ga K "Ratio") "__sub__") T.fd_Ratio_sub ["self", "other"] (spOpQ K (· - ·) fun _ => True) := (ok_Ratio_sub T).imp fun vs H Q E h => by
  obtain ⟨a, y, x, z, e, ha, hy, _, hx, hz, q⟩ := h
  exact ⟨a, y, x.num, x.den, z.num, z.den, e, ha, hy.num, FoQ.den_ne x, FoQ.den_ne z, hx.1, hx.2, hz.1, hz.2, fun p H' n s hR => q p H' n s (rt_of (Int.mul_ne_zero (FoQ.den_ne x) (FoQ.den_ne z)) (FoQ.q_sub x z) hR)⟩
theorem ok_mulQ (T : Tx K mg) : FnOk P w K mg base CX0 4 (He.ma K (He.ga K "Ratio") "__mul__") T.fd_Ratio_mul ["self", "other"] (spOpQ K (· * ·) fun _ => True) := (ok_Ratio_mul T).imp fun vs H Q E h => by
  obtain ⟨a, y, x, z, e, ha, hy, _, hx, hz, q⟩ := h
  exact ⟨a, y, x.num, x.den, z.num, z.den, e, ha, hy.num, FoQ.den_ne x, FoQ.den_ne z, hx.1, hx.2, hz.1, hz.2, fun p H' n s hR => q p H' n s (rt_of (Int.mul_ne_zero (FoQ.den_ne x) (FoQ.den_ne z)) (FoQ.q_mul x z) hR)⟩
theorem ok_negQ (T : Tx K mg) : FnOk P w K mg base CX0 3 (He.ma K (He.ga K "Ratio") "__neg__") T.fd_Ratio_neg ["self"] (spNegQ K) := (ok_Ratio_neg T).imp fun vs H Q E h => by
  obtain ⟨a, x, e, ha, hx, q⟩ := h
  exact ⟨a, x.num, x.den, e, ha, FoQ.den_ne x, hx.2, fun p H' n s hR => q p H' n s (rt_of (FoQ.den_ne x) (FoQ.q_neg x) hR)⟩
end

end Fo

set_option maxHeartbeats 4100000
/-! zip of a row of tuples: one new tuple at each turn. -/
namespace FoU
open PySem PySem.Spec PyProof.Rows L2
section
variable {prog : Program} {w : World} {A : Around} {E : Value → Shared → Prop} {s : Shared}
theorem alive_any {a : Addr} {Q : Option Obj → Shared → Prop} (h : Q (s.heap.get? a) s) : wpAny (model prog w) A (loadIfAlive a) Q E s := fun _ _ _ => h
abbrev ZRec (h : Heap) (z TI TO : Addr) (f0 f1 : Value) : Prop := h.get? z = some { cls := .type "zip", dict := none, data := .fields #[f0, f1, .bool false, .ref TI, .ref TO], slots := #[] }
abbrev TupAt (h : Heap) (T : Addr) (vs : Array Value) : Prop := h.get? T = some { cls := .type "tuple", data := .seq vs }
/-- the cells of such a zip lie apart -/
structure ZA (z TI TO : Addr) (is ls : List Addr) : Prop where
  TIz : TI ≠ z
  TOz : TO ≠ z
  TITO : TI ≠ TO
  nod : is.Nodup
  zi : z ∉ is
  TIi : TI ∉ is
  TOi : TO ∉ is
  lz : ∀ l ∈ ls, l ≠ z ∧ l ≠ TO ∧ l ∉ is
  len : ls.length = is.length
  ne : is ≠ []
/-- the tuples' iterators, each where k says -/
def Its (h : Heap) (is ls : List Addr) (k : Nat → Nat) : Prop := ∀ (j : Nat) (i l : Addr), is[j]? = some i → ls[j]? = some l → h.IsTupleIter i l (k j)
/-- the values at place k of the tuples -/
def Tups (h : Heap) (ls : List Addr) (k : Nat) (vals : List Value) : Prop := ∀ (j : Nat) (l : Addr) (x : Value), ls[j]? = some l → vals[j]? = some x → ∃ items, h.IsTuple l items ∧ items[k]? = some x
theorem nodup_ix {l : List Addr} {a : Addr} {i j : Nat} (h : l.Nodup) (hi : l[i]? = some a) (hj : l[j]? = some a) : i = j := by
  obtain ⟨h1, e1⟩ := List.getElem?_eq_some_iff.mp hi
  obtain ⟨h2, e2⟩ := List.getElem?_eq_some_iff.mp hj
  have p := List.pairwise_iff_getElem.mp h
  rcases Nat.lt_trichotomy i j with c | c | c
  · exact absurd (e1.trans e2.symm) (p i j h1 h2 c)
  · exact c
  · exact absurd (e2.trans e1.symm) (p j i h2 h1 c)
theorem upd_tup {T : Addr} {vs : Array Value} {x : Value} {k : Nat} {Q : Unit → Shared → Prop} (hsz : vs.size ≤ 1000) (hT : TupAt s.heap T vs)
    (h : ∀ h', TupAt h' T (vs.setIfInBounds k x) → Heap.SameBut T s.heap h' → Q () { s with heap := h' }) :
    wpAny (model prog w) A (updateSeq T (·.setIfInBounds k x)) Q E s := by
  have h16 := sizeLine_eq
  refine wpAny_updateSeq hT rfl (h _ ?_ (Heap.SameBut.update ..)) (by omega) (by rw [Array.size_setIfInBounds]; omega)
  show Heap.get? _ T = _
  rw [Heap.get?_update_self _ hT rfl]
  simp [Obj.mapSeq]
/-- is the tuple of before free? -/
theorem held_any {z TI TO : Addr} {f0 f1 : Value} {Q : Bool → Shared → Prop} (hz : ZRec s.heap z TI TO f0 f1) (hf : f0 = .none ∨ ∃ T : Nat, f0 = rawInt T)
    (h1 : Q true s) (h2 : ∀ h', ZRec h' z TI TO f0 (.bool true) → Heap.SameBut z s.heap h' → Q false { s with heap := h' }) : wpAny (model prog w) A (Builtin.SmallTypes.ownedTupleIsFree (.ref z)) Q E s := by
  unfold Builtin.SmallTypes.ownedTupleIsFree
  rcases hf with rfl | ⟨T, rfl⟩
  · exact wpAny_bind (wpAny_field hz rfl (x := .none) rfl (wpAny_pure h1))
  · refine wpAny_bind (wpAny_field hz rfl (x := rawInt T) rfl ?_)
    show wpAny _ _ (loadIfAlive ((T : Int).toNat) >>= _) _ _ _
    refine wpAny_bind (alive_any ?_)
    cases hT : s.heap.get? ((T : Int).toNat) with
    | none =>
      simp only [Option.isNone_none, if_true]
      exact wpAny_pure h1
    | some o =>
      simp only [Option.isNone_some, Bool.false_eq_true, if_false]
      refine wpAny_bind (wpAny_field hz rfl (x := f1) rfl ?_)
      by_cases e : f1 = .bool true
      · subst e
        rw [if_neg (show ¬ ((Value.bool true != Value.bool true) = true) from Bool.false_ne_true)]
        exact wpAny_pure (h2 s.heap hz (Heap.SameBut.refl _ _))
      · have e2 : (f1 != Value.bool true) = true := by simpa using e
        rw [if_pos e2]
        exact wpAny_bind (wpAny_setField_rec hz (by simp) fun h₁ hz₁ hs₁ => wpAny_pure (h2 h₁ hz₁ hs₁))
theorem zn_item {z TI TO : Addr} {is ls : List Addr} {k : Nat} {vals : List Value} {f0 f1 : Value} {ow : Array Value} {Q : Value → Shared → Prop} (D : ZA z TI TO is ls) (hz : ZRec s.heap z TI TO f0 f1) (hf : f0 = .none ∨ ∃ T : Nat, f0 = rawInt T)
    (hTI : TupAt s.heap TI (is.map Value.ref).toArray) (hTO : TupAt s.heap TO ow) (how : ow.size = is.length) (hI : Its s.heap is ls fun _ => k) (hV : Tups s.heap ls k vals) (hl : vals.length = is.length) (h1000 : is.length ≤ 1000)
    (hQ : ∀ h' f0' f1' ow', (f0' = .none ∨ ∃ T : Nat, f0' = rawInt T) → ZRec h' z TI TO f0' f1' → TupAt h' TO ow' → ow'.size = is.length → Its h' is ls (fun _ => k + 1) → TupAt h' s.heap.objs.size vals.toArray → h'.objs.size = s.heap.objs.size + 1 →
      (∀ c o, c ≠ z → c ≠ TO → c ∉ is → s.heap.get? c = some o → h'.get? c = some o) → Q (.ref s.heap.objs.size) { s with heap := h' }) :
    wpAny (model prog w) A (Builtin.«zip.__next__» ⟨[.ref z], []⟩) (fun fin s' => ∃ v, fin = .done (.ret v) ∧ Q v s') E s := by
  show wpAny _ _ (field (.ref z) 2 >>= _) _ _ _
  refine wpAny_bind (wpAny_field hz rfl (x := .bool false) rfl ?_)
  show wpAny _ _ (field (.ref z) 3 >>= _) _ _ _
  refine wpAny_bind (wpAny_field hz rfl (x := .ref TI) rfl ?_)
  refine wpAny_bind (wpAny_seqItems hTI rfl ?_)
  have h16 := sizeLine_eq
  obtain ⟨i0, is', e0⟩ : ∃ i0 is', is = i0 :: is' := by
    cases is with
    | nil => exact absurd rfl D.ne
    | cons a l => exact ⟨a, l, rfl⟩
  have hne : ((is.map Value.ref).toArray).isEmpty = false := by rw [e0]; rfl
  dsimp only
  rw [if_neg (by rw [hne]; exact Bool.false_ne_true)]
  show wpAny _ _ (Builtin.SmallTypes.ownedTupleIsFree (.ref z) >>= _) _ _ _
  refine wpAny_bind (held_any hz hf ?_ fun h₁ hz₁ hs₁ => ?_)
  · simp only [if_true]
    refine wpAny_bind (wpAny_rule ?_)
    refine wpAny_bind (wpAny_field hz rfl (x := .ref TO) rfl ?_)
    refine wpAny_bind (wpAny_setField_rec hz (by simp) fun h₁ hz₁ hs₁ => ?_)
    replace hz₁ : ZRec h₁ z TI TO .ellipsis f1 := hz₁
    refine wpAny_bind ?_
    refine wpAny_forIn_list _ (fun rest b s' => ∃ (j : Nat) (h' : Heap) (ow' : Array Value), rest = ((is.drop j).map Value.ref).zipIdx j ∧ j ≤ is.length ∧ b = (none, ()) ∧ s' = { s with heap := h' } ∧ ZRec h' z TI TO .ellipsis f1 ∧ TupAt h' TO ow' ∧ ow'.size = is.length ∧
      (∀ i, i < j → ow'[i]? = vals[i]?) ∧ Its h' is ls (fun i => if i < j then k + 1 else k) ∧ h'.objs.size = s.heap.objs.size ∧ (∀ c o, c ≠ z → c ≠ TO → c ∉ is → s.heap.get? c = some o → h'.get? c = some o)) _ ?_ ?_ _ _
      ⟨0, h₁, ow, by simp, Nat.zero_le _, rfl, rfl, hz₁, hs₁.extBut _ _ D.TOz hTO, how, fun i hi => absurd hi (Nat.not_lt_zero _), fun j i l hi hl' => ?_, hs₁.1, fun c o c1 c2 c3 e => hs₁.extBut _ _ c1 e⟩
    · rintro x rest b s' ⟨j, h', ow', hr, hj, rfl, rfl, hz', hTO', hsz', hv', hI', hS', hk'⟩
      have hjl : j < is.length := by
        rcases Nat.lt_or_ge j is.length with h | h
        · exact h
        · rw [List.drop_of_length_le h] at hr
          exact nomatch hr
      have hd : is.drop j = is[j] :: is.drop (j + 1) := List.drop_eq_getElem_cons hjl
      have ei : is[j]? = some is[j] := List.getElem?_eq_getElem hjl
      have hll : j < ls.length := by rw [D.len]; exact hjl
      have hvl : j < vals.length := by rw [hl]; exact hjl
      have el : ls[j]? = some ls[j] := List.getElem?_eq_getElem hll
      have eV : vals[j]? = some vals[j] := List.getElem?_eq_getElem hvl
      obtain ⟨items, ⟨ot, eot, rot⟩, hx⟩ := hV j _ _ el eV
      obtain ⟨lz1, lz2, lz3⟩ := D.lz _ (List.mem_of_getElem? el)
      have ht' : h'.IsTuple ls[j] items := ⟨ot, hk' _ _ lz1 lz2 lz3 eot, rot⟩
      have hit := hI' j _ _ ei el
      dsimp only at hit
      rw [if_neg (Nat.lt_irrefl _)] at hit
      have iz : is[j] ≠ z := fun q => D.zi (by rw [← q]; exact List.mem_of_getElem? ei)
      have iTO : is[j] ≠ TO := fun q => D.TOi (by rw [← q]; exact List.mem_of_getElem? ei)
      have far : ∀ {j' : Nat} {i : Addr}, is[j']? = some i → j' ≠ j → i ≠ is[j] := fun {j' i} e n q => by
        rw [q] at e
        exact n (nodup_ix D.nod e ei)
      rw [hd, List.map_cons, List.zipIdx_cons] at hr
      obtain ⟨rfl, h2⟩ := List.cons.inj hr
      refine wpAny_bind (wpAny_onRaise ?_)
      show wpAny _ _ (Builtin.SmallTypes.nextOf (.ref is[j]) >>= _) _ _ _
      refine wpAny_bind (RZ.nextOf_tuple_item hit ht' hx fun h₂ hit₂ hs₂ => wpAny_pure ?_)
      have hTO₂ : TupAt h₂ TO ow' := hs₂.extBut _ _ (Ne.symm iTO) hTO'
      refine wpAny_bind (wpAny_seqItems hTO₂ rfl ?_)
      refine wpAny_bind (upd_tup (by omega) hTO₂ fun h₃ hTO₃ hs₃ => ?_)
      refine wpAny_bind (wpAny_letGo (wpAny_pure ?_))
      refine ⟨j + 1, h₃, _, h2, hjl, rfl, rfl, hs₃.extBut _ _ (Ne.symm D.TOz) (hs₂.extBut _ _ (Ne.symm iz) hz'), hTO₃, by rw [Array.size_setIfInBounds]; exact hsz', fun i hi => ?_, fun j' i l e1 e2 => ?_, by rw [hs₃.1, hs₂.1]; exact hS',
        fun c o c1 c2 c3 e => hs₃.extBut _ _ c2 (hs₂.extBut _ _ (fun q => c3 (by rw [q]; exact List.mem_of_getElem? ei)) (hk' c o c1 c2 c3 e))⟩
      · rw [Array.getElem?_setIfInBounds]
        by_cases q : j = i
        · subst q
          rw [if_pos rfl, if_pos (by omega), eV]
        · rw [if_neg q]
          exact hv' i (by omega)
      · have iT : i ≠ TO := fun q => D.TOi (by rw [← q]; exact List.mem_of_getElem? e1)
        by_cases q : j' = j
        · subst q
          rw [ei] at e1
          rw [el] at e2
          cases e1
          cases e2
          show h₃.IsTupleIter _ _ (if j' < j' + 1 then k + 1 else k)
          rw [if_pos (Nat.lt_succ_self _)]
          exact hit₂.extBut hs₃.extBut iT
        · have z1 := hI' j' i l e1 e2
          dsimp only at z1 ⊢
          have e3 : (if j' < j + 1 then k + 1 else k) = (if j' < j then k + 1 else k) := by
            by_cases c : j' < j
            · rw [if_pos c, if_pos (by omega)]
            · rw [if_neg c, if_neg (by omega)]
          rw [e3]
          exact (z1.extBut hs₂.extBut (far e1 q)).extBut hs₃.extBut iT
    · rintro b s' ⟨j, h', ow', hr, hj, rfl, rfl, hz', hTO', hsz', hv', hI', hS', hk'⟩
      have hjn : j = is.length := by
        rcases Nat.lt_or_ge j is.length with h | h
        · rw [List.drop_eq_getElem_cons h, List.map_cons, List.zipIdx_cons] at hr
          exact nomatch hr
        · exact Nat.le_antisymm hj h
      subst hjn
      have ev : ow' = vals.toArray := by
        apply Array.ext_getElem?
        intro i
        rcases Nat.lt_or_ge i is.length with h | h
        · rw [hv' i h]
          simp
        · rw [Array.getElem?_eq_none (by omega)]
          simp only [List.getElem?_toArray]
          rw [List.getElem?_eq_none (by omega)]
      subst ev
      dsimp only
      refine wpAny_bind (wpAny_seqItems hTO' rfl ?_)
      refine wpAny_bind (wpAny_newTuple ?_ (by rw [List.size_toArray] at hsz'; show (vals.toArray.toList).length ≤ sizeLine; simp; omega))
      have hzlt : z < h'.objs.size := Heap.lt_size hz'
      show wpAny _ _ (Builtin.SmallTypes.ownedTupleHandOut (.ref z) (.ref h'.objs.size) >>= _) _ _ _
      refine wpAny_bind ?_
      unfold Builtin.SmallTypes.ownedTupleHandOut
      have hz₆ : ZRec (h'.push { cls := .type "tuple", data := .seq vals.toArray.toList.toArray }) z TI TO .ellipsis f1 := Heap.get?_push_of_some _ hz'
      refine wpAny_bind (wpAny_setField_rec hz₆ (by simp) fun h₇ hz₇ hs₇ => ?_)
      replace hz₇ : ZRec h₇ z TI TO (rawInt h'.objs.size) f1 := hz₇
      refine wpAny_setField_rec hz₇ (by simp) fun h₈ hz₈ hs₈ => ?_
      replace hz₈ : ZRec h₈ z TI TO (rawInt h'.objs.size) (.bool false) := hz₈
      have up : ∀ c o, c ≠ z → h'.get? c = some o → h₈.get? c = some o := fun c o c1 e => hs₈.extBut _ _ c1 (hs₇.extBut _ _ c1 (Heap.get?_push_of_some _ e))
      have hT₈ : TupAt h₈ h'.objs.size vals.toArray := hs₈.extBut _ _ (Nat.ne_of_gt hzlt) (hs₇.extBut _ _ (Nat.ne_of_gt hzlt) (Heap.get?_push_size _ rfl))
      have hz8 : h₈.objs.size = h'.objs.size + 1 := by rw [hs₈.1, hs₇.1, Heap.size_push]
      rw [hS'] at hT₈ hz8
      refine wpAny_pure ⟨_, rfl, ?_⟩
      show Q (.ref h'.objs.size) _
      rw [hS']
      refine hQ h₈ _ _ _ (.inr ⟨_, rfl⟩) hz₈ (up _ _ D.TOz hTO') hsz' (fun j i l e1 e2 => ?_) hT₈ hz8 fun c o c1 c2 c3 e => up c o c1 (hk' c o c1 c2 c3 e)
      have z1 := hI' j i l e1 e2
      dsimp only at z1
      rw [if_pos (List.getElem?_eq_some_iff.mp e1).1] at z1
      exact z1.at fun o e => up _ o (fun q => D.zi (by rw [← q]; exact List.mem_of_getElem? e1)) e
    · show h₁.IsTupleIter i l (if j < 0 then k + 1 else k)
      rw [if_neg (Nat.not_lt_zero _)]
      exact (hI j i l hi hl').extBut hs₁.extBut (fun q => D.zi (by rw [← q]; exact List.mem_of_getElem? hi))
  · simp only [Bool.false_eq_true, if_false]
    refine wpAny_bind ?_
    rw [← Array.forIn_toList]
    refine wpAny_forIn_list _ (fun rest b s' => ∃ (j : Nat) (h' : Heap), rest = (is.drop j).map Value.ref ∧ j ≤ is.length ∧ b = (none, (vals.take j).toArray) ∧ s' = { s with heap := h' } ∧ ZRec h' z TI TO f0 (.bool true) ∧ TupAt h' TO ow ∧
      Its h' is ls (fun i => if i < j then k + 1 else k) ∧ h'.objs.size = s.heap.objs.size ∧ (∀ c o, c ≠ z → c ∉ is → s.heap.get? c = some o → h'.get? c = some o)) _ ?_ ?_ _ _
      ⟨0, h₁, by simp, Nat.zero_le _, rfl, rfl, hz₁, hs₁.extBut _ _ D.TOz hTO, fun j i l hi hl' => ?_, hs₁.1, fun c o c1 c3 e => hs₁.extBut _ _ c1 e⟩
    · rintro x rest b s' ⟨j, h', hr, hj, rfl, rfl, hz', hTO', hI', hS', hk'⟩
      have hjl : j < is.length := by
        rcases Nat.lt_or_ge j is.length with h | h
        · exact h
        · rw [List.drop_of_length_le h] at hr
          exact nomatch hr
      have hd : is.drop j = is[j] :: is.drop (j + 1) := List.drop_eq_getElem_cons hjl
      have ei : is[j]? = some is[j] := List.getElem?_eq_getElem hjl
      have hll : j < ls.length := by rw [D.len]; exact hjl
      have hvl : j < vals.length := by rw [hl]; exact hjl
      have el : ls[j]? = some ls[j] := List.getElem?_eq_getElem hll
      have eV : vals[j]? = some vals[j] := List.getElem?_eq_getElem hvl
      obtain ⟨items, ⟨ot, eot, rot⟩, hx⟩ := hV j _ _ el eV
      obtain ⟨lz1, lz2, lz3⟩ := D.lz _ (List.mem_of_getElem? el)
      have ht' : h'.IsTuple ls[j] items := ⟨ot, hk' _ _ lz1 lz3 eot, rot⟩
      have hit := hI' j _ _ ei el
      dsimp only at hit
      rw [if_neg (Nat.lt_irrefl _)] at hit
      have iz : is[j] ≠ z := fun q => D.zi (by rw [← q]; exact List.mem_of_getElem? ei)
      have iTO : is[j] ≠ TO := fun q => D.TOi (by rw [← q]; exact List.mem_of_getElem? ei)
      have far : ∀ {j' : Nat} {i : Addr}, is[j']? = some i → j' ≠ j → i ≠ is[j] := fun {j' i} e n q => by
        rw [q] at e
        exact n (nodup_ix D.nod e ei)
      rw [hd, List.map_cons] at hr
      obtain ⟨rfl, h2⟩ := List.cons.inj hr
      refine wpAny_bind (wpAny_holding ?_)
      show wpAny _ _ (Builtin.SmallTypes.nextOf (.ref is[j]) >>= _) _ _ _
      refine wpAny_bind (RZ.nextOf_tuple_item hit ht' hx fun h₂ hit₂ hs₂ => wpAny_pure (wpAny_pure ?_))
      refine ⟨j + 1, h₂, h2, hjl, ?_, rfl, hs₂.extBut _ _ (Ne.symm iz) hz', hs₂.extBut _ _ (Ne.symm iTO) hTO', fun j' i l e1 e2 => ?_, by rw [hs₂.1]; exact hS',
        fun c o c1 c3 e => hs₂.extBut _ _ (fun q => c3 (by rw [q]; exact List.mem_of_getElem? ei)) (hk' c o c1 c3 e)⟩
      · rw [List.take_add_one, eV]
        simp
      · by_cases q : j' = j
        · subst q
          rw [ei] at e1
          rw [el] at e2
          cases e1
          cases e2
          show h₂.IsTupleIter _ _ (if j' < j' + 1 then k + 1 else k)
          rw [if_pos (Nat.lt_succ_self _)]
          exact hit₂
        · have z1 := hI' j' i l e1 e2
          dsimp only at z1 ⊢
          have e3 : (if j' < j + 1 then k + 1 else k) = (if j' < j then k + 1 else k) := by
            by_cases c : j' < j
            · rw [if_pos c, if_pos (by omega)]
            · rw [if_neg c, if_neg (by omega)]
          rw [e3]
          exact z1.extBut hs₂.extBut (far e1 q)
    · rintro b s' ⟨j, h', hr, hj, rfl, rfl, hz', hTO', hI', hS', hk'⟩
      have hjn : j = is.length := by
        rcases Nat.lt_or_ge j is.length with h | h
        · rw [List.drop_eq_getElem_cons h, List.map_cons] at hr
          exact nomatch hr
        · exact Nat.le_antisymm hj h
      subst hjn
      dsimp only
      rw [← hl, List.take_length]
      refine wpAny_bind (wpAny_newTuple ?_ (by show (vals.toArray.toList).length ≤ sizeLine; simp; omega))
      refine wpAny_pure ⟨_, rfl, ?_⟩
      show Q (.ref h'.objs.size) _
      have hT : TupAt (h'.push { cls := .type "tuple", data := .seq vals.toArray.toList.toArray }) h'.objs.size vals.toArray := Heap.get?_push_size _ rfl
      have hz8 : (h'.push { cls := .type "tuple", data := .seq vals.toArray.toList.toArray }).objs.size = h'.objs.size + 1 := Heap.size_push ..
      rw [hS'] at hT hz8
      rw [hS']
      refine hQ _ _ _ _ hf (Heap.get?_push_of_some _ hz') (Heap.get?_push_of_some _ hTO') how (fun j i l e1 e2 => ?_) hT hz8 fun c o c1 c2 c3 e => Heap.get?_push_of_some _ (hk' c o c1 c3 e)
      have z1 := hI' j i l e1 e2
      dsimp only at z1
      rw [if_pos (List.getElem?_eq_some_iff.mp e1).1] at z1
      exact z1.at fun o e => Heap.get?_push_of_some _ e
    · show h₁.IsTupleIter i l (if j < 0 then k + 1 else k)
      rw [if_neg (Nat.not_lt_zero _)]
      exact (hI j i l hi hl').extBut hs₁.extBut (fun q => D.zi (by rw [← q]; exact List.mem_of_getElem? hi))
theorem zn_end {z TI TO : Addr} {is ls : List Addr} {k : Nat} {f0 f1 : Value} {ow : Array Value} {Q : PySem.Fin → Shared → Prop} (hh : A.handled = none) (D : ZA z TI TO is ls) (hz : ZRec s.heap z TI TO f0 f1) (hf : f0 = .none ∨ ∃ T : Nat, f0 = rawInt T)
    (hTI : TupAt s.heap TI (is.map Value.ref).toArray) (hTO : TupAt s.heap TO ow) (hI : Its s.heap is ls fun _ => k) (hV : ∀ l, ls[0]? = some l → ∃ items, s.heap.IsTuple l items ∧ items[k]? = none)
    (hE : ∀ h' e, (∀ c o, c ≠ z → c ≠ TO → c ∉ is → s.heap.get? c = some o → h'.get? c = some o) → (∃ o, h'.get? e = some o ∧ o.cls = .type "StopIteration") → E (.ref e) { s with heap := h' }) :
    wpAny (model prog w) A (Builtin.«zip.__next__» ⟨[.ref z], []⟩) Q E s := by
  show wpAny _ _ (field (.ref z) 2 >>= _) _ _ _
  refine wpAny_bind (wpAny_field hz rfl (x := .bool false) rfl ?_)
  show wpAny _ _ (field (.ref z) 3 >>= _) _ _ _
  refine wpAny_bind (wpAny_field hz rfl (x := .ref TI) rfl ?_)
  refine wpAny_bind (wpAny_seqItems hTI rfl ?_)
  obtain ⟨i0, is', e0⟩ : ∃ i0 is', is = i0 :: is' := by
    cases is with
    | nil => exact absurd rfl D.ne
    | cons a l => exact ⟨a, l, rfl⟩
  obtain ⟨l0, ls', e1⟩ : ∃ l0 ls', ls = l0 :: ls' := by
    cases ls with
    | nil =>
      have q := D.len
      rw [e0] at q
      cases q
    | cons a l => exact ⟨a, l, rfl⟩
  subst e0 e1
  have hne : (((i0 :: is').map Value.ref).toArray).isEmpty = false := rfl
  dsimp only
  rw [if_neg (by rw [hne]; exact Bool.false_ne_true)]
  obtain ⟨items, ⟨ot, eot, rot⟩, hx⟩ := hV l0 rfl
  obtain ⟨lz1, lz2, lz3⟩ := D.lz l0 List.mem_cons_self
  have hit := hI 0 i0 l0 rfl rfl
  have iz : i0 ≠ z := fun q => D.zi (by rw [← q]; exact List.mem_cons_self)
  show wpAny _ _ (Builtin.SmallTypes.ownedTupleIsFree (.ref z) >>= _) _ _ _
  refine wpAny_bind (held_any hz hf ?_ fun h₁ hz₁ hs₁ => ?_)
  · simp only [if_true]
    refine wpAny_bind (wpAny_rule ?_)
    refine wpAny_bind (wpAny_field hz rfl (x := .ref TO) rfl ?_)
    refine wpAny_bind (wpAny_setField_rec hz (by simp) fun h₁ hz₁ hs₁ => ?_)
    replace hz₁ : ZRec h₁ z TI TO .ellipsis f1 := hz₁
    refine wpAny_bind ?_
    simp only [List.map_cons, List.zipIdx_cons, List.forIn_cons]
    refine wpAny_bind (wpAny_bind (wpAny_onRaise ?_))
    show wpAny _ _ (Builtin.SmallTypes.nextOf (.ref i0) >>= _) _ _ _
    refine wpAny_bind (RZ.nextOf_tuple_end hh (hit.extBut hs₁.extBut iz) ⟨ot, hs₁.extBut _ _ lz1 eot, rot⟩ hx fun h₂ e hs₂ he => ?_)
    obtain ⟨oe, hoe, hce⟩ := he
    have hz₂ : ZRec h₂ z TI TO .ellipsis f1 := hs₂ _ _ (Ne.symm iz) hz₁
    have hez : e ≠ z := fun x => by
      subst x
      rw [hz₂] at hoe
      cases hoe
      simp at hce
    refine wpAny_setField_rec hz₂ (by simp) fun h₃ _ hs₃ => hE h₃ e (fun c o c1 _ c3 x => hs₃.extBut _ _ c1 (hs₂ _ _ (fun q => c3 (by rw [q]; exact List.mem_cons_self)) (hs₁.extBut _ _ c1 x))) ⟨oe, hs₃.extBut _ _ hez hoe, hce⟩
  · simp only [Bool.false_eq_true, if_false]
    refine wpAny_bind ?_
    rw [← Array.forIn_toList]
    simp only [List.map_cons, List.forIn_cons]
    refine wpAny_bind (wpAny_bind (wpAny_holding ?_))
    show wpAny _ _ (Builtin.SmallTypes.nextOf (.ref i0) >>= _) _ _ _
    refine wpAny_bind (RZ.nextOf_tuple_end hh (hit.extBut hs₁.extBut iz) ⟨ot, hs₁.extBut _ _ lz1 eot, rot⟩ hx fun h₂ e hs₂ he => ?_)
    exact hE h₂ e (fun c o c1 _ c3 x => hs₂ _ _ (fun q => c3 (by rw [q]; exact List.mem_cons_self)) (hs₁.extBut _ _ c1 x)) he
theorem next_item {z TI TO : Addr} {is ls : List Addr} {k : Nat} {vals : List Value} {f0 f1 : Value} {ow : Array Value} {Q : Option Value → Shared → Prop} (D : ZA z TI TO is ls) (hz : ZRec s.heap z TI TO f0 f1) (hf : f0 = .none ∨ ∃ T : Nat, f0 = rawInt T)
    (hTI : TupAt s.heap TI (is.map Value.ref).toArray) (hTO : TupAt s.heap TO ow) (how : ow.size = is.length) (hI : Its s.heap is ls fun _ => k) (hV : Tups s.heap ls k vals) (hl : vals.length = is.length) (h1000 : is.length ≤ 1000)
    (hQ : ∀ h' f0' f1' ow', (f0' = .none ∨ ∃ T : Nat, f0' = rawInt T) → ZRec h' z TI TO f0' f1' → TupAt h' TO ow' → ow'.size = is.length → Its h' is ls (fun _ => k + 1) → TupAt h' s.heap.objs.size vals.toArray → h'.objs.size = s.heap.objs.size + 1 →
      (∀ c o, c ≠ z → c ≠ TO → c ∉ is → s.heap.get? c = some o → h'.get? c = some o) → Q (some (.ref s.heap.objs.size)) { s with heap := h' }) : wpAny (model prog w) A (pyNext (.ref z)) Q E s := by
  have hT : s.TypeIs (.ref z) "zip" := ⟨_, hz, rfl⟩
  unfold pyNext
  exact wpAny_bind (wpAny_attempt (wpAny_callSpecial?_slot (name := Str.ofString "__next__") hT F.slot_zip_next
    (wpAny_call_entry F.slot_zip_next hT F.entry_zip_next (zn_item D hz hf hTI hTO how hI hV hl h1000 fun h' a b c a1 a2 a3 a4 a5 a6 a7 a8 => wpAny_pure (hQ h' a b c a1 a2 a3 a4 a5 a6 a7 a8)) (F.args_zip_next_1 _))))
theorem next_end {z TI TO : Addr} {is ls : List Addr} {k : Nat} {f0 f1 : Value} {ow : Array Value} {Q : Option Value → Shared → Prop} (hh : A.handled = none) (D : ZA z TI TO is ls) (hz : ZRec s.heap z TI TO f0 f1) (hf : f0 = .none ∨ ∃ T : Nat, f0 = rawInt T)
    (hTI : TupAt s.heap TI (is.map Value.ref).toArray) (hTO : TupAt s.heap TO ow) (hI : Its s.heap is ls fun _ => k) (hV : ∀ l, ls[0]? = some l → ∃ items, s.heap.IsTuple l items ∧ items[k]? = none)
    (hQ : ∀ h', (∀ c o, c ≠ z → c ≠ TO → c ∉ is → s.heap.get? c = some o → h'.get? c = some o) → Q none { s with heap := h' }) : wpAny (model prog w) A (pyNext (.ref z)) Q E s := by
  have hT : s.TypeIs (.ref z) "zip" := ⟨_, hz, rfl⟩
  unfold pyNext
  refine wpAny_bind (wpAny_attempt (wpAny_callSpecial?_slot (name := Str.ofString "__next__") hT F.slot_zip_next
    (wpAny_call_entry F.slot_zip_next hT F.entry_zip_next (zn_end hh D hz hf hTI hTO hI hV fun h' e hk he => ?_) (F.args_zip_next_1 _))))
  obtain ⟨o, ho, hc⟩ := he
  refine wpAny_bind (wpAny_isInstance (T := "StopIteration") (b := true) ⟨o, ho, hc⟩ isSubtype_stop ?_)
  exact wpAny_pure (hQ _ hk)
theorem iter_self {z TI TO : Addr} {f0 f1 : Value} {Q : Value → Shared → Prop} (hz : ZRec s.heap z TI TO f0 f1) (h : Q (.ref z) s) : wpAny (model prog w) A (pyIter (.ref z)) Q E s := by
  have hT : s.TypeIs (.ref z) "zip" := ⟨_, hz, rfl⟩
  refine wpAny_pyIter_slot hT F.slot_zip_iter (wpAny_call_entry F.slot_zip_iter hT F.entry_zip_iter ?_ (F.args_zip_iter_1 _))
  show wpAny _ _ (ret (.ref z)) _ _ s
  exact wpAny_pure ⟨_, rfl, "zip", _, hT, F.slot_zip_next.lookup, h⟩
theorem type_ok (us : List Value) : checkTypeCall "zip" ⟨us, []⟩ = pure () := by kernel_rfl
theorem new_ok (u : Value) (us : List Value) : checkBuiltinCall "zip.__new__" ⟨.type "zip" :: u :: us, []⟩ = pure () := by kernel_rfl
theorem init_ok (v : Value) (us : List Value) : argsOk "object.__init__" ⟨v :: us, []⟩ := by unfold argsOk; kernel_rfl
/-- the heap with an iterator for each of the tuples -/
def itH : Heap → List Addr → Heap
  | h, [] => h
  | h, l :: ls => itH (h.push { cls := .type "tuple_iterator", data := .fields #[.ref l, .int 0 0] }) ls
theorem itH_size : ∀ (ls : List Addr) (h : Heap), (itH h ls).objs.size = h.objs.size + ls.length
  | [], h => rfl
  | l :: ls, h => by
    show (itH _ ls).objs.size = _
    rw [itH_size ls, Heap.size_push, List.length_cons]
    omega
theorem itH_keep : ∀ (ls : List Addr) (h : Heap) (c : Addr) (o : Obj), h.get? c = some o → (itH h ls).get? c = some o
  | [], _, _, _, e => e
  | l :: ls, h, c, o, e => itH_keep ls _ c o (Heap.get?_push_of_some _ e)
theorem itH_at : ∀ (ls : List Addr) (h : Heap) (j : Nat) (l : Addr), ls[j]? = some l → (itH h ls).get? (h.objs.size + j) = some { cls := .type "tuple_iterator", data := .fields #[.ref l, .int 0 0] }
  | [], _, j, l, e => by simp at e
  | a :: ls, h, 0, l, e => by
    cases e
    exact itH_keep ls _ _ _ (Heap.get?_push_size _ rfl)
  | a :: ls, h, j + 1, l, e => by
    have z := itH_at ls (h.push { cls := .type "tuple_iterator", data := .fields #[.ref a, .int 0 0] }) j l (by simpa using e)
    rw [Heap.size_push] at z
    have e1 : h.objs.size + (j + 1) = h.objs.size + 1 + j := by omega
    show (itH _ ls).get? _ = _
    rw [e1]
    exact z
theorem itH_snoc : ∀ (ls : List Addr) (h : Heap) (l : Addr), itH h (ls ++ [l]) = (itH h ls).push { cls := .type "tuple_iterator", data := .fields #[.ref l, .int 0 0] }
  | [], _, _ => rfl
  | a :: ls, h, l => itH_snoc ls _ l
/-- the iterators' places -/
def itA (h : Heap) (n : Nat) : List Addr := (List.range n).map fun j => h.objs.size + j
theorem itA_succ (h : Heap) (n : Nat) : itA h (n + 1) = itA h n ++ [h.objs.size + n] := by
  unfold itA
  rw [List.range_succ, List.map_append]
  rfl
theorem itA_length (h : Heap) (n : Nat) : (itA h n).length = n := by
  unfold itA
  rw [List.length_map, List.length_range]
theorem itA_at {h : Heap} {n j : Nat} {i : Addr} (e : (itA h n)[j]? = some i) : i = h.objs.size + j ∧ j < n := by
  unfold itA at e
  rw [List.getElem?_map] at e
  obtain ⟨k, e1, rfl⟩ := Option.map_eq_some_iff.mp e
  obtain ⟨h1, h2⟩ := List.getElem?_eq_some_iff.mp e1
  rw [List.getElem_range] at h2
  rw [List.length_range] at h1
  exact ⟨by rw [h2], h1⟩
theorem iter_all {ls : List Addr} {s : Shared} {Q : List Value → Shared → Prop} (h : ∀ l ∈ ls, ∃ items, s.heap.IsTuple l items) (hQ : Q ((itA s.heap ls.length).map Value.ref) { s with heap := itH s.heap ls }) :
    wpAny (model prog w) A (Builtin.SmallTypes.iterAll (ls.map Value.ref)) Q E s := by
  unfold Builtin.SmallTypes.iterAll
  refine wpAny_bind ?_
  refine wpAny_forIn_list _ (fun rest b s' => ∃ j, rest = (ls.drop j).map Value.ref ∧ j ≤ ls.length ∧ b = ((itA s.heap j).map Value.ref).toArray ∧ s' = { s with heap := itH s.heap (ls.take j) }) _ ?_ ?_ _ _ ⟨0, by simp, Nat.zero_le _, by simp [itA], by simp [itH]⟩
  · rintro x rest b s' ⟨j, hr, hj, rfl, rfl⟩
    have hjl : j < ls.length := by
      rcases Nat.lt_or_ge j ls.length with q | q
      · exact q
      · rw [List.drop_of_length_le q] at hr
        exact nomatch hr
    rw [List.drop_eq_getElem_cons hjl, List.map_cons] at hr
    obtain ⟨rfl, h2⟩ := List.cons.inj hr
    obtain ⟨items, ot, eot, rot⟩ := h _ (List.getElem_mem hjl)
    have et : ls.take (j + 1) = ls.take j ++ [ls[j]] := by
      rw [List.take_add_one, List.getElem?_eq_getElem hjl]
      rfl
    have ez : (itH s.heap (ls.take j)).objs.size = s.heap.objs.size + j := by
      rw [itH_size, List.length_take, Nat.min_eq_left (Nat.le_of_lt hjl)]
    refine wpAny_bind (wpAny_holding (wpAny_pyIter_tuple ⟨ot, itH_keep _ _ _ _ eot, rot⟩ (wpAny_pure ⟨j + 1, h2, hjl, ?_, ?_⟩)))
    · rw [itA_succ, List.map_append]
      show _ = _
      simp [ez]
    · rw [et, itH_snoc]
  · rintro b s' ⟨j, hr, hj, rfl, rfl⟩
    have hjn : j = ls.length := by
      rcases Nat.lt_or_ge j ls.length with q | q
      · rw [List.drop_eq_getElem_cons q, List.map_cons] at hr
        exact nomatch hr
      · exact Nat.le_antisymm hj q
    subst hjn
    rw [List.take_length]
    exact wpAny_pure hQ
abbrev zT (h : Heap) (ls : List Addr) : Heap := (itH h ls).push { cls := .type "tuple", data := .seq ((itA h ls.length).map Value.ref).toArray }
abbrev zO (h : Heap) (ls : List Addr) : Heap := (zT h ls).push { cls := .type "tuple", data := .seq (((itA h ls.length).map Value.ref).map fun _ => Value.none).toArray }
abbrev zZ (h : Heap) (ls : List Addr) : Heap := (zO h ls).push { cls := .type "zip", data := .fields #[.none, .bool false, .bool false, .ref (itH h ls).objs.size, .ref (zT h ls).objs.size] }
theorem meets_new (l : Addr) (ls : List Addr) : Meets (Builtin.«zip.__new__» ⟨.type "zip" :: .ref l :: ls.map Value.ref, []⟩) (fun _ R s => ((∀ x ∈ l :: ls, ∃ items, s.heap.IsTuple x items) ∧ (l :: ls).length ≤ 1000) ∧
    R (.ok (.ret (.ref (zO s.heap (l :: ls)).objs.size))) { s with heap := zZ s.heap (l :: ls) }) :=
  .of_wp fun prog w A R s h => by
    obtain ⟨hp, g, d, tk, os⟩ := s
    obtain ⟨⟨h1, h2⟩, h3⟩ := h
    have hsub := sub_zip
    have h16 := sizeLine_eq
    unfold Builtin.«zip.__new__»
    have hc : Builtin.SmallTypes.newClass "zip" ⟨Value.type "zip" :: Value.ref l :: ls.map Value.ref, []⟩ = pure (Value.type "zip", Value.ref l :: ls.map Value.ref) := by
      unfold Builtin.SmallTypes.newClass
      simp [isType, hsub]
    rw [hc]
    refine wpAny_bind (wpAny_pure ?_)
    show wpAny _ _ (Builtin.SmallTypes.iterAll ((l :: ls).map Value.ref) >>= _) _ _ _
    refine wpAny_bind (iter_all (ls := l :: ls) h1 ?_)
    have hz : ((itA hp (l :: ls).length).map Value.ref).length ≤ sizeLine := by
      rw [List.length_map, itA_length]
      omega
    refine wpAny_bind (wpAny_newTuple ?_ hz)
    refine wpAny_bind (wpAny_newTuple ?_ (by rw [List.length_map]; exact hz))
    refine wpAny_bind ?_
    show wpAny _ _ (newObj (.type "zip") (.fields #[.none, .bool false, .bool false, .ref (itH hp (l :: ls)).objs.size, .ref (zT hp (l :: ls)).objs.size])) _ _ _
    refine wpAny_newObj_type ?_ (by first | trivial | size_fits)
    exact wpAny_pure ⟨_, rfl, h3⟩
theorem zip_made {l : Addr} {ls : List Addr} {Q : Value → Shared → Prop} (h1 : ∀ x ∈ l :: ls, ∃ items, s.heap.IsTuple x items) (h2 : (l :: ls).length ≤ 1000) (h : Q (.ref (zO s.heap (l :: ls)).objs.size) { s with heap := zZ s.heap (l :: ls) }) :
    wpAny (model prog w) A (call (.type "zip") (.ref l :: ls.map Value.ref)) Q E s := by
  refine callType_new F.called_zip (by decide) (type_ok _) (new_ok _ _) (fun obj => init_ok obj _) F.entry_zip_new (meets_new l ls) ⟨⟨h1, h2⟩, ?_⟩
  exact ⟨⟨_, Heap.get?_push_size _ rfl, rfl⟩, h⟩
end
end FoU

set_option maxHeartbeats 4100000
/-! for x in zip(*e), e a tuple of tuples. -/
namespace FoU
open PySem PySem.Spec PyProof.Rows L2
/-- the tuples at ls as they stand at each turn, the items in new tuples -/
def Itn (K : PySem.W.Frag) (ls : List Addr) : It :=
  ⟨fun i H => ∃ vals : List V, vals.length = ls.length ∧ ∀ (j : Nat) (l : Addr) (v : V), ls[j]? = some l → vals[j]? = some v → ∃ xs, SqT K H l xs ∧ xs[i]? = some v,
    fun i H v H' => ∃ (T : Addr) (vals : List V), v = .ref T ∧ H T = none ∧ H' = upd H T (.tup vals) ∧ vals.length = ls.length ∧ ∀ (j : Nat) (l : Addr) (u : V), ls[j]? = some l → vals[j]? = some u → ∀ xs, SqT K H l xs → xs[i]? = some u,
    fun i H => ∀ l, ls[0]? = some l → ∃ xs, SqT K H l xs ∧ xs.length ≤ i⟩
/-- the machine's cells of it -/
def ZTn (z TI TO : Addr) (is ls : List Addr) (i : Nat) (h : Heap) : Prop := ∃ (f0 f1 : Value) (ow : Array Value), (f0 = .none ∨ ∃ T : Nat, f0 = rawInt T) ∧ ZRec h z TI TO f0 f1 ∧ TupAt h TI (is.map Value.ref).toArray ∧ TupAt h TO ow ∧ ow.size = is.length ∧ Its h is ls fun _ => i
theorem ls_of {ls is : List Addr} (h : ls.length = is.length) {j : Nat} {i : Addr} (e : is[j]? = some i) : ∃ l, ls[j]? = some l :=
  ⟨ls[j]'(by rw [h]; exact (List.getElem?_eq_some_iff.mp e).1), List.getElem?_eq_getElem _⟩
theorem step_zn {X : Cx} {A : Around} {pins : List (Addr × Obj)} {s : Shared} {σ : L2.St} {H : Hp} {E : Value → Shared → Prop} {i : Nat} {z TI TO : Addr} {is ls : List Addr} (D : ZA z TI TO is ls) (h1000 : is.length ≤ 1000) (I : Inv X pins σ H s)
    (hfp : ∀ b ∈ z :: TI :: TO :: is, FpOk X pins H b) (st : ZTn z TI TO is ls i s.heap) (hg : (Itn X.K ls).go i H) :
    wpAny (model X.prog X.w) A (pyNext (.ref z)) (fun r s1 => ∃ u x H', r = some u ∧ Inv X pins σ H' s1 ∧ RelV x u ∧ (Itn X.K ls).yld i H x H' ∧ ZTn z TI TO is ls (i + 1) s1.heap ∧ ∀ b ∈ z :: TI :: TO :: is, H' b = none) E s := by
  obtain ⟨f0, f1, ow, hf, hz, hTI, hTO, how, hI⟩ := st
  obtain ⟨vals, hl, hv⟩ := hg
  have look : ∀ (j : Nat) (l : Addr) (v : V), ls[j]? = some l → vals[j]? = some v → ∃ (xs : List V) (its : List Value) (u : Value), SqT X.K H l xs ∧ xs[i]? = some v ∧ Vals xs its ∧ s.heap.IsTuple l its.toArray ∧ its[i]? = some u ∧ RelV v u := fun j l v e1 e2 => by
    obtain ⟨xs, hq, hx⟩ := hv j l v e1 e2
    obtain ⟨its, rv, p, _⟩ := I.tuple hq
    obtain ⟨u, hu, ru⟩ := rv.get hx
    exact ⟨xs, its, u, hq, hx, rv, p, hu, ru⟩
  -- the machine's values
  have ex : ∀ n, n ≤ vals.length → ∃ us : List Value, us.length = n ∧ Vals (vals.take n) us ∧ ∀ (j : Nat) (l : Addr) (u : Value), ls[j]? = some l → us[j]? = some u → ∃ items, s.heap.IsTuple l items ∧ items[i]? = some u := fun n => by
    induction n with
    | zero => exact fun _ => ⟨[], rfl, .nil, fun j l u _ e => by simp at e⟩
    | succ n ih =>
      intro hn
      obtain ⟨us, e1, e2, e3⟩ := ih (by omega)
      have en : vals[n]? = some vals[n] := List.getElem?_eq_getElem (by omega)
      have el : ls[n]? = some (ls[n]'(by omega)) := List.getElem?_eq_getElem (by omega)
      obtain ⟨xs, its, u, hq, hx, rv, p, hu, ru⟩ := look n _ _ el en
      refine ⟨us ++ [u], by simp [e1], ?_, fun j l u' f1 f2 => ?_⟩
      · rw [List.take_add_one, en]
        exact e2.append (.cons ru .nil)
      · rw [List.getElem?_append] at f2
        split at f2
        · exact e3 j l u' f1 f2
        · have ej : j - us.length = 0 := by
            cases q : j - us.length with
            | zero => rfl
            | succ m =>
              rw [q] at f2
              simp at f2
          rw [ej] at f2
          cases f2
          have ej2 : j = n := by omega
          subst ej2
          rw [el] at f1
          cases f1
          exact ⟨_, p, by simpa using hu⟩
  obtain ⟨us, ul, rvs, hus⟩ := ex vals.length (Nat.le_refl _)
  rw [List.take_length] at rvs
  have hzl : z < s.heap.objs.size := Heap.lt_size hz
  refine next_item D hz hf hTI hTO how hI (vals := us) (fun j l u e1 e2 => hus j l u e1 e2) (by rw [ul, hl, D.len]) h1000 fun h' f0' f1' ow' hf' hz' hTO' how' hI' hT hsz hk => ?_
  have hvl : vals.length ≤ 1000 := by rw [hl, D.len]; exact h1000
  have new : ObjOk X.prog X.w (upd H s.heap.objs.size (.tup vals)) h' s.heap.objs.size (.tup vals) :=
    ⟨by rw [sizeLine_eq]; omega, us, rvs, ⟨_, hT, rfl, _, rfl⟩⟩
  have I1 : Inv X pins σ (upd H s.heap.objs.size (.tup vals)) { s with heap := h' } :=
    I.turnedNew (t' := s.toks) (ch := z :: TI :: TO :: is) (fun c o hb q => hk c o (fun q' => hb (by simp [q'])) (fun q' => hb (by simp [q'])) (fun q' => hb (by simp [q'])) q) hfp (Nat.le_refl _) new
  refine ⟨_, .ref s.heap.objs.size, _, rfl, I1, rfl, ⟨_, vals, rfl, I.hok.fresh (Nat.le_refl _), rfl, hl, fun j l u e1 e2 xs hx => ?_⟩, ⟨f0', f1', ow', hf', hz', hk _ _ D.TIz D.TITO D.TIi hTI, hTO', how', hI'⟩, fun c hcm => ?_⟩
  · obtain ⟨ys, hq, hy⟩ := hv j l u e1 e2
    rw [I.tuple_inj hx hq]
    exact hy
  · have hlt : c < s.heap.objs.size := by
      rcases List.mem_cons.mp hcm with rfl | hcm'
      · exact hzl
      rcases List.mem_cons.mp hcm' with rfl | hcm'
      · exact Heap.lt_size hTI
      rcases List.mem_cons.mp hcm' with rfl | hcm'
      · exact Heap.lt_size hTO
      obtain ⟨j, e⟩ := List.getElem?_of_mem hcm'
      obtain ⟨l, el⟩ := ls_of D.len e
      obtain ⟨o, eo, _⟩ := hI j c l e el
      exact Heap.lt_size eo
    rw [upd_ne (Nat.ne_of_lt hlt)]
    exact (hfp c hcm).1
theorem stop_zn {X : Cx} {A : Around} {pins : List (Addr × Obj)} {s : Shared} {σ : L2.St} {H : Hp} {E : Value → Shared → Prop} {i : Nat} {z TI TO : Addr} {is ls : List Addr} (hh : A.handled = none) (D : ZA z TI TO is ls) (I : Inv X pins σ H s)
    (hfp : ∀ b ∈ z :: TI :: TO :: is, FpOk X pins H b) (st : ZTn z TI TO is ls i s.heap) (hg : (Itn X.K ls).stop i H) :
    wpAny (model X.prog X.w) A (pyNext (.ref z)) (fun r s1 => r = none ∧ Inv X pins σ H s1) E s := by
  obtain ⟨f0, f1, ow, hf, hz, hTI, hTO, how, hI⟩ := st
  refine next_end hh D hz hf hTI hTO hI (fun l el => ?_) fun h' hk => ⟨rfl, I.turnedL (t' := s.toks) (ch := z :: TI :: TO :: is) (fun c o hb q =>
    hk c o (fun q' => hb (by simp [q'])) (fun q' => hb (by simp [q'])) (fun q' => hb (by simp [q'])) q) hfp⟩
  obtain ⟨xs, hq, hx⟩ := hg l el
  obtain ⟨its, rv, p, _⟩ := I.tuple hq
  have l1 := rv.length
  exact ⟨_, p, by simp; omega⟩
theorem turn_zn {P : Program} {w : World} {K : PySem.W.Frag} {x : Str} {px : Pos} {z TI TO : Addr} {is ls : List Addr} (D : ZA z TI TO is ls) (h1000 : is.length ≤ 1000) :
    Turn P w K (.Name x px) (Itn K ls) (z :: TI :: TO :: is) z (ZTn z TI TO is ls) where
  mem := List.mem_cons_self
  obj := fun i h st c hc => by
    obtain ⟨f0, f1, ow, hf, hz, hTI, hTO, how, hI⟩ := st
    rcases List.mem_cons.mp hc with rfl | hc
    · exact ⟨_, hz, fun v q => nomatch q⟩
    rcases List.mem_cons.mp hc with rfl | hc
    · exact ⟨_, hTI, fun v q => nomatch q⟩
    rcases List.mem_cons.mp hc with rfl | hc
    · exact ⟨_, hTO, fun v q => nomatch q⟩
    obtain ⟨j, e⟩ := List.getElem?_of_mem hc
    obtain ⟨l, el⟩ := ls_of D.len e
    obtain ⟨o, eo, _, d⟩ := hI j c l e el
    exact ⟨o, eo, fun v q => by rw [d] at q; cases q⟩
  keep := fun i h h' st k => by
    obtain ⟨f0, f1, ow, hf, hz, hTI, hTO, how, hI⟩ := st
    exact ⟨f0, f1, ow, hf, k z (by simp) _ hz, k TI (by simp) _ hTI, k TO (by simp) _ hTO, how, fun j c l e el => (hI j c l e el).at fun o q => k c (by simp [List.mem_of_getElem? e]) o q⟩
  item := by
    intro X hP hw hK hc i pins s σ H E I hfp st hg
    subst hP hw hK
    refine wpAny_mono (step_zn D h1000 I hfp st hg) (fun r s1 ⟨u, x, H', er, I1, rx, y, st', hn⟩ => ⟨u, er, ?_⟩) fun _ _ z => z
    unfold letOwnedTupleGo
    exact wpAny_pure ⟨x, H', I1, rx, y, st', hn⟩
  done := by
    intro X hP hw hK hc i pins s σ H E I hfp st hg
    subst hP hw hK
    exact stop_zn (I.ok.hd hc) D I hfp st hg
  self := fun A i s Q E st h => by
    obtain ⟨f0, f1, ow, hf, hz, _⟩ := st
    exact iter_self hz h
theorem vals_refs : ∀ {ls : List Addr} {us : List Value}, Vals (ls.map V.ref) us → us = ls.map Value.ref
  | [], _, .nil => rfl
  | l :: ls, _, .cons r rr => by
    cases r
    rw [vals_refs rr]
    rfl
theorem call_star {M : Model} {A : Around} {E : Value → Shared → Prop} {s : Shared} {env : Env} {pos p : Pos} {e : Expr} {Q : Value → Shared → Prop}
    (h : wpAny M A (eval e env) (fun v s₁ => PySem.W.StarOf M A E v (fun vs s₂ => wpAny M A (call (.type "zip") vs) Q E s₂) s₁) E s) (he : starEach [.Starred e p] env = [(true, eval e env)]) :
    wpAny M A (callWith pos (.type "zip") [] (backTo pos (starEach [.Starred e p] env)) []) Q E s := by
  rw [he]
  refine PySem.W.ks_call (P := fun _ => True) rfl (fun h _ => ⟨.machine, .inr (.inl rfl), PySem.W.Looks.of_pure (by first | rfl | kernel_rfl)⟩) (PySem.W.ks_lone (wpAny_mono h (fun v s1 hh => ?_) fun _ _ z => z))
  unfold PySem.W.StarOf at hh ⊢
  exact wpAny_mono hh (fun b s2 ⟨e1, hh2⟩ => ⟨e1, wpAny_mono hh2 (fun vs s3 h3 => ⟨trivial, h3⟩) fun _ _ z => z⟩) fun _ _ z => z
/-- zip(*e) in a for or a comprehension, the target a name -/
def iZipS (K : PySem.W.Frag) (te : TE) : TI := fun τ H R => te τ H fun x H1 => ∃ (t l : Addr) (ls : List Addr), x = .ref t ∧ SqT K H1 t ((l :: ls).map V.ref) ∧ (∀ y ∈ l :: ls, ∃ xs, SqT K H1 y xs) ∧ (l :: ls).length ≤ 1000 ∧ R (Itn K (l :: ls)) H1
theorem za_of {h : Heap} {l : Addr} {ls : List Addr} (hlt : ∀ y ∈ l :: ls, y < h.objs.size) : ZA (zO h (l :: ls)).objs.size (itH h (l :: ls)).objs.size (zT h (l :: ls)).objs.size (itA h (l :: ls).length) (l :: ls) := by
  have e1 : (itH h (l :: ls)).objs.size = h.objs.size + (l :: ls).length := itH_size _ _
  have e2 : (zT h (l :: ls)).objs.size = h.objs.size + (l :: ls).length + 1 := by rw [Heap.size_push, e1]
  have e3 : (zO h (l :: ls)).objs.size = h.objs.size + (l :: ls).length + 2 := by rw [Heap.size_push, e2]
  have mem : ∀ {a : Addr}, a ∈ itA h (l :: ls).length → ∃ j : Nat, a = h.objs.size + j ∧ j < (l :: ls).length := fun {a} q => by
    obtain ⟨j, e⟩ := List.getElem?_of_mem q
    exact ⟨j, itA_at e⟩
  have far : ∀ {b j n m : Nat}, j < n → b + n + m ≠ b + j := fun h q => by omega
  have low : ∀ {y b n m : Nat}, y < b → y ≠ b + n + m := fun h q => by omega
  have low0 : ∀ {y b j : Nat}, y < b → y ≠ b + j := fun h q => by omega
  have up : ∀ {b n m k : Nat}, m < k → b + n + m ≠ b + n + k := fun h q => by omega
  rw [e1, e2, e3]
  refine ⟨up (b := h.objs.size) (n := (l :: ls).length) (m := 0) (k := 2) (by decide), up (b := h.objs.size) (n := (l :: ls).length) (m := 1) (k := 2) (by decide), up (b := h.objs.size) (n := (l :: ls).length) (m := 0) (k := 1) (by decide), ?_, fun q => ?_, fun q => ?_, fun q => ?_, fun y hy => ⟨low (m := 2) (hlt y hy), low (m := 1) (hlt y hy), fun q => ?_⟩, by rw [itA_length], fun q => ?_⟩
  · unfold itA
    rw [List.Nodup, List.pairwise_map]
    exact List.Pairwise.imp (fun {a b} n q => n (Nat.add_left_cancel q)) List.nodup_range
  · obtain ⟨j, q1, q2⟩ := mem q
    exact far (m := 2) q2 q1
  · obtain ⟨j, q1, q2⟩ := mem q
    exact far (m := 0) q2 q1
  · obtain ⟨j, q1, q2⟩ := mem q
    exact far (m := 1) q2 q1
  · obtain ⟨j, q1, q2⟩ := mem q
    exact low0 (hlt y hy) q1
  · have z := itA_length h (l :: ls).length
    rw [q] at z
    cases z
theorem pi_zipS {X : Cx} {e : Expr} {te : TE} {x : Str} {px p sp pos : Pos} (hg : Gl X "zip") (hm : X.mg "zip" = none) (he : PE X e te) (hs : starEach [.Starred e sp] X.env = [(true, eval e X.env)] := by rfl) :
    PI X (.Name x px) (.Call (.Name "zip" p) [.Starred e sp] [] pos) (iZipS X.K te) := by
  refine ⟨fun pins s σ H R I h => ?_⟩
  refine Call_ (ld_blt I hg hm PyProof.Rows.boot_zip (call_star (thn (he.run pins s σ H _ I h) fun v s1 ⟨y, H1, I1, ry, t, l, ls, ey, hx, hy, hn, q⟩ => ?_) hs))
  subst ey
  obtain rfl : v = Value.ref t := ry
  refine StX.star_any I1 (.inl hx) fun us s2 I2 rv => ?_
  have eu := vals_refs rv
  subst eu
  have tups : ∀ y ∈ l :: ls, ∃ items, s2.heap.IsTuple y items := fun y hy' => by
    obtain ⟨xs, hq⟩ := hy y hy'
    obtain ⟨its, _, p, _⟩ := I2.tuple hq
    exact ⟨_, p⟩
  have lt : ∀ y ∈ l :: ls, y < s2.heap.objs.size := fun y hy' => by
    obtain ⟨items, o, eo, _⟩ := tups y hy'
    exact Heap.lt_size eo
  refine zip_made tups hn ?_
  have kp : ∀ c o, s2.heap.get? c = some o → (zZ s2.heap (l :: ls)).get? c = some o := fun c o e => Heap.get?_push_of_some _ (Heap.get?_push_of_some _ (Heap.get?_push_of_some _ (itH_keep _ _ _ _ e)))
  have I3 : Inv X pins σ H1 { s2 with heap := zZ s2.heap (l :: ls) } := I2.kept (t' := s2.toks) kp
  have D := za_of (h := s2.heap) lt
  have hz : ZRec (zZ s2.heap (l :: ls)) (zO s2.heap (l :: ls)).objs.size (itH s2.heap (l :: ls)).objs.size (zT s2.heap (l :: ls)).objs.size .none (.bool false) := Heap.get?_push_size _ rfl
  refine iter_self hz ⟨_, _, _, _, H1, rfl, I3, turn_zn D (by rw [itA_length]; exact hn), ⟨.none, .bool false, _, .inl rfl, hz, Heap.get?_push_of_some _ (Heap.get?_push_of_some _ (Heap.get?_push_size _ rfl)), Heap.get?_push_of_some _ (Heap.get?_push_size _ rfl), by simp, fun j i l' e1 e2 => ?_⟩, fun c hc => ?_, q⟩
  · obtain ⟨q1, q2⟩ := itA_at e1
    subst q1
    exact ⟨_, Heap.get?_push_of_some _ (Heap.get?_push_of_some _ (Heap.get?_push_of_some _ (itH_at _ _ _ _ e2))), rfl, rfl⟩
  · have hle : s2.heap.objs.size ≤ c := by
      have e1 : (itH s2.heap (l :: ls)).objs.size = s2.heap.objs.size + (l :: ls).length := itH_size _ _
      have e2 : (zT s2.heap (l :: ls)).objs.size = s2.heap.objs.size + (l :: ls).length + 1 := by rw [Heap.size_push, e1]
      have e3 : (zO s2.heap (l :: ls)).objs.size = s2.heap.objs.size + (l :: ls).length + 2 := by rw [Heap.size_push, e2]
      rcases List.mem_cons.mp hc with rfl | hc
      · rw [e3]
        exact Nat.le_add_right _ (_ + 2)
      rcases List.mem_cons.mp hc with rfl | hc
      · rw [e1]
        exact Nat.le_add_right _ _
      rcases List.mem_cons.mp hc with rfl | hc
      · rw [e2]
        exact Nat.le_add_right _ (_ + 1)
      obtain ⟨j, e⟩ := List.getElem?_of_mem hc
      obtain ⟨q1, q2⟩ := itA_at e
      rw [q1]
      exact Nat.le_add_right _ _
    exact I2.fpOk hle (I2.hok.fresh hle)
end FoU

set_option maxHeartbeats 4100000
/-! list(zip(..)) of tuples. -/
namespace FoU
open PySem PySem.Spec PyProof.Rows L2
theorem zip_no_len : typeLookup (.type "zip") "__len__" = pure none := am_miss_of_fast (by decide +kernel)
theorem zip_no_hint : typeLookup (.type "zip") "__length_hint__" = pure none := am_miss_of_fast (by decide +kernel)
theorem sqT_but {K : PySem.W.Frag} {H H' : Hp} {q l : Addr} {xs acc : List V} (h : SqT K H l xs) (hq : H q = some (.lst acc)) (e : ∀ b o, H b = some o → b ≠ q → H' b = some o) : SqT K H' l xs := by
  rcases h with (g | ⟨o, g⟩) | g
  · exact .inl (.inl (e _ _ g (fun z => by rw [z, hq] at g; cases g)))
  · exact .inl (.inr ⟨o, e _ _ g (fun z => by rw [z, hq] at g; cases g)⟩)
  · exact .inr g
/-- acc: new tuples, the j-th of the items at j of the columns -/
def Zac (ls : List Addr) (col : Addr → List V) (H : Hp) (acc : List V) : Prop := ∀ (j : Nat) (v : V), acc[j]? = some v → ∃ (T : Addr) (vals : List V), v = .ref T ∧ H T = some (.tup vals) ∧ vals.length = ls.length ∧
  ∀ (j' : Nat) (l : Addr) (u : V), ls[j']? = some l → vals[j']? = some u → (col l)[j]? = some u
theorem zloop {X : Cx} {A1 : Around} {pins : List (Addr × Obj)} {σ : L2.St} {q z TI TO : Addr} {is ls : List Addr} {n : Nat} {col : Addr → List V} {H0 : Hp} {a0 : List V} {Rs : Result → Shared → Prop} (hh : A1.in1.handled = none) (D : ZA z TI TO is ls) (h1000 : is.length ≤ 1000) (hn : n ≤ 1000)
    (hcol : ∀ l ∈ ls, (col l).length = n ∧ SqT X.K H0 l (col l)) (hq0 : H0 q = some (.lst a0)) (hdone : ∀ acc H s, Inv X pins σ H s → acc.length = n → H q = some (.lst acc) → (∀ b o, H0 b = some o → b ≠ q → H b = some o) → Zac ls col H acc → Rs (.ok (.ret .none)) s) :
    ∀ (m i : Nat) (acc : List V) (H : Hp) (s : Shared), n - i = m → i ≤ n → Inv X pins σ H s → (∀ b ∈ z :: TI :: TO :: is, FpOk X pins H b) → ZTn z TI TO is ls i s.heap → acc.length = i → H q = some (.lst acc) → (∀ b o, H0 b = some o → b ≠ q → H b = some o) → Zac ls col H acc →
      codeAny (model X.prog X.w) A1 (.builtin "list.extend.loop" ⟨[.ref q, .ref z, .none], []⟩) Rs s := by
  intro m
  induction m with
  | zero =>
    intro i acc H s hm hi I hfp st hl hq hk hz
    have hin : i = n := by omega
    subst hin
    refine codeAny_builtin PySem.F.entry_extend_loop ?_
    rw [Around.under_plainId PySem.F.plain_extend_loop _]
    show wpAny _ A1.in1 (pyNext (.ref z) >>= _) _ _ s
    have hg : (Itn X.K ls).stop i H := fun l el => by
      obtain ⟨c1, c2⟩ := hcol l (List.mem_of_getElem? el)
      exact ⟨col l, sqT_but c2 hq0 hk, by rw [c1]; exact Nat.le_refl _⟩
    refine wpAny_bind (wpAny_mono (stop_zn hh D I hfp st hg) (fun r s' ⟨er, I'⟩ => ?_) fun _ _ z => z)
    subst er
    exact wpAny_pure (hdone acc H s' I' hl hq hk hz)
  | succ m ih =>
    intro i acc H s hm hi I hfp st hl hq hk hz
    have hlt : i < n := by omega
    refine codeAny_builtin PySem.F.entry_extend_loop ?_
    rw [Around.under_plainId PySem.F.plain_extend_loop _]
    show wpAny _ A1.in1 (pyNext (.ref z) >>= _) _ _ s
    have hg : (Itn X.K ls).go i H := by
      refine ⟨ls.map fun l => ((col l)[i]?).getD .non, by rw [List.length_map], fun j l v e1 e2 => ?_⟩
      obtain ⟨c1, c2⟩ := hcol l (List.mem_of_getElem? e1)
      rw [List.getElem?_map, e1] at e2
      cases e2
      refine ⟨col l, sqT_but c2 hq0 hk, ?_⟩
      have ei : (col l)[i]? = some ((col l)[i]'(by rw [c1]; exact hlt)) := List.getElem?_eq_getElem _
      dsimp only
      rw [ei]
      rfl
    refine wpAny_bind (wpAny_mono (step_zn D h1000 I hfp st hg) (fun r s' ⟨u, x, H', er, I', rx, y, st', hnn⟩ => ?_) fun _ _ z => z)
    subst er
    obtain ⟨T, vals, rfl, hT, rfl, hvl, hvc⟩ := y
    have Tq : T ≠ q := fun z => by
      rw [z, hq] at hT
      cases hT
    have hq' : upd H T (.tup vals) q = some (.lst acc) := by
      rw [upd_ne (Ne.symm Tq)]
      exact hq
    show wpAny _ A1.in1 (updateSeq q (·.push u) >>= _) _ _ _
    obtain ⟨z1, its, k, r2, hl2, e⟩ := I'.lstM hq'
    have h16 := sizeLine_eq
    refine wpAny_bind (wpAny_updateSeq e rfl (wpAny_pure ⟨plainId_quiet PySem.F.plain_extend_loop _, ?_⟩) (by rw [List.size_toArray]; omega) (by show (its.toArray.push u).size ≤ sizeLine + 1; rw [Array.size_push, List.size_toArray]; omega))
    have nq : ∀ {b : Addr}, b ∈ z :: TI :: TO :: is → b ≠ q := fun {b} hb w => by
      have w1 := (hfp b hb).1
      rw [w, hq] at w1
      cases w1
    refine ih (i + 1) (acc ++ [V.ref T]) _ _ (by omega) hlt (I'.lset (its' := its ++ [u]) (t' := s'.toks) hq' e (by simp) (r2.append (.cons rx .nil)) (by rw [List.length_append, List.length_singleton]; omega)) (fun b hb => ⟨?_, (hfp b hb).2⟩)
      ((turn_zn (P := X.prog) (w := X.w) (K := X.K) (x := "x") (px := default) D h1000).keep (i + 1) s'.heap _ st' fun b hb o e1 => (Heap.get?_update_other _ _ (Ne.symm (nq hb))).trans e1) (by rw [List.length_append, hl]; rfl) upd_same (fun b o e1 e2 => ?_) (fun j v ej => ?_)
    · rw [upd_ne (nq hb)]
      exact hnn b hb
    · rw [upd_ne e2, upd_ne (ne_of_none (hk b o e1 e2) hT)]
      exact hk b o e1 e2
    · rw [List.getElem?_append] at ej
      split at ej
      · obtain ⟨T2, vals2, rfl, h2, l2, c2⟩ := hz j v ej
        refine ⟨T2, vals2, rfl, ?_, l2, c2⟩
        have n2 : T2 ≠ q := fun w => by
          rw [w, hq] at h2
          cases h2
        rw [upd_ne n2, upd_ne (ne_of_none h2 hT)]
        exact h2
      · have e0 : j - acc.length = 0 := by
          cases w : j - acc.length with
          | zero => rfl
          | succ m =>
            rw [w] at ej
            simp at ej
        rw [e0] at ej
        cases ej
        have ej2 : j = i := by omega
        subst ej2
        refine ⟨T, vals, rfl, ?_, hvl, fun j' l u' f1 f2 => ?_⟩
        · rw [upd_ne Tq, upd_same]
        · exact hvc j' l u' f1 f2 _ (sqT_but (hcol l (List.mem_of_getElem? f1)).2 hq0 hk)
theorem zip_hint {M : Model} {A : Around} {E : Value → Shared → Prop} {s : Shared} {z TI TO : Addr} {f0 f1 : Value} {Q : Bool → Shared → Prop} (hz : ZRec s.heap z TI TO f0 f1) (h : Q true s) : wpAny M A (Builtin.List.listLengthHint (.ref z)) Q E s := by
  have hT : s.TypeIs (.ref z) "zip" := ⟨_, hz, rfl⟩
  unfold Builtin.List.listLengthHint
  refine wpAny_bind (wpAny_specialOf hT zip_no_len ?_)
  show wpAny _ _ (specialOf (Value.ref z) (Str.ofString "__length_hint__") >>= _) _ _ _
  refine wpAny_bind (wpAny_specialOf hT zip_no_hint ?_)
  exact wpAny_pure h
theorem upd_back {H : Hp} {q : Addr} {o : HO} (h : H q = some o) : upd H q o = H := by
  funext b
  by_cases hb : b = q
  · rw [hb, upd_same, h]
  · rw [upd_ne hb]
/-- list(zip(a, b, ..)) of tuples of one length -/
theorem list_zip {X : Cx} {pins : List (Addr × Obj)} {σ : L2.St} {H : Hp} {s : Shared} {Q : VK} {l : Addr} {ls : List Addr} {col : Addr → List V} {n : Nat} (hc : X.calm = true) (I : Inv X pins σ H s)
    (hcol : ∀ y ∈ l :: ls, (col y).length = n ∧ SqT X.K H y (col y)) (h2 : (l :: ls).length ≤ 1000) (hn : n ≤ 1000)
    (h : ∀ (q : Addr) (H' : Hp) (acc : List V), H q = none → (∀ b o, H b = some o → H' b = some o) → H' q = some (.lst acc) → acc.length = n → Zac (l :: ls) col H' acc → Q (.ref q) H') :
    wpAny (model X.prog X.w) X.A (call (.type "zip") (.ref l :: ls.map Value.ref)) (fun v s1 => wpAny (model X.prog X.w) X.A (call (.type "list") [v]) (EP X pins σ Q) X.xe s1) X.xe s := by
  have tups : ∀ y ∈ l :: ls, ∃ items, s.heap.IsTuple y items := fun y hy' => by
    obtain ⟨its, _, p, _⟩ := I.tuple (hcol y hy').2
    exact ⟨_, p⟩
  have lt : ∀ y ∈ l :: ls, y < s.heap.objs.size := fun y hy' => by
    obtain ⟨items, o, eo, _⟩ := tups y hy'
    exact Heap.lt_size eo
  refine zip_made tups h2 ?_
  have kp : ∀ c o, s.heap.get? c = some o → (zZ s.heap (l :: ls)).get? c = some o := fun c o e => Heap.get?_push_of_some _ (Heap.get?_push_of_some _ (Heap.get?_push_of_some _ (itH_keep _ _ _ _ e)))
  have I3 : Inv X pins σ H { s with heap := zZ s.heap (l :: ls) } := I.kept (t' := s.toks) kp
  have D := za_of (h := s.heap) lt
  have hz : ZRec (zZ s.heap (l :: ls)) (zO s.heap (l :: ls)).objs.size (itH s.heap (l :: ls)).objs.size (zT s.heap (l :: ls)).objs.size .none (.bool false) := Heap.get?_push_size _ rfl
  have e1 : (itH s.heap (l :: ls)).objs.size = s.heap.objs.size + (l :: ls).length := itH_size _ _
  have e2 : (zT s.heap (l :: ls)).objs.size = s.heap.objs.size + (l :: ls).length + 1 := by rw [Heap.size_push, e1]
  have e3 : (zO s.heap (l :: ls)).objs.size = s.heap.objs.size + (l :: ls).length + 2 := by rw [Heap.size_push, e2]
  have e4 : (zZ s.heap (l :: ls)).objs.size = s.heap.objs.size + (l :: ls).length + 3 := by rw [Heap.size_push, e3]
  have st : ZTn (zO s.heap (l :: ls)).objs.size (itH s.heap (l :: ls)).objs.size (zT s.heap (l :: ls)).objs.size (itA s.heap (l :: ls).length) (l :: ls) 0 (zZ s.heap (l :: ls)) :=
    ⟨.none, .bool false, _, .inl rfl, hz, Heap.get?_push_of_some _ (Heap.get?_push_of_some _ (Heap.get?_push_size _ rfl)), Heap.get?_push_of_some _ (Heap.get?_push_size _ rfl), by simp, fun j i l' e1 e2 => by
      obtain ⟨q1, q2⟩ := itA_at e1
      subst q1
      exact ⟨_, Heap.get?_push_of_some _ (Heap.get?_push_of_some _ (Heap.get?_push_of_some _ (itH_at _ _ _ _ e2))), rfl, rfl⟩⟩
  have cells : ∀ c ∈ (zO s.heap (l :: ls)).objs.size :: (itH s.heap (l :: ls)).objs.size :: (zT s.heap (l :: ls)).objs.size :: itA s.heap (l :: ls).length, s.heap.objs.size ≤ c ∧ c ≠ (zZ s.heap (l :: ls)).objs.size := fun c hc => by
    have low : ∀ {b n m k : Nat}, m < k → b + n + m ≠ b + n + k := fun h q => by omega
    have low2 : ∀ {b j n k : Nat}, j < n → b + j ≠ b + n + k := fun h q => by omega
    rw [e4]
    rcases List.mem_cons.mp hc with rfl | hc
    · rw [e3]
      exact ⟨Nat.le_add_right _ (_ + 2), low (b := s.heap.objs.size) (n := (l :: ls).length) (m := 2) (k := 3) (by decide)⟩
    rcases List.mem_cons.mp hc with rfl | hc
    · rw [e1]
      exact ⟨Nat.le_add_right _ _, low (b := s.heap.objs.size) (n := (l :: ls).length) (m := 0) (k := 3) (by decide)⟩
    rcases List.mem_cons.mp hc with rfl | hc
    · rw [e2]
      exact ⟨Nat.le_add_right _ (_ + 1), low (b := s.heap.objs.size) (n := (l :: ls).length) (m := 1) (k := 3) (by decide)⟩
    obtain ⟨j, e⟩ := List.getElem?_of_mem hc
    obtain ⟨q1, q2⟩ := itA_at e
    rw [q1]
    exact ⟨Nat.le_add_right _ _, low2 (b := s.heap.objs.size) (j := j) (n := (l :: ls).length) (k := 3) q2⟩
  generalize (zO s.heap (l :: ls)).objs.size = z at *
  generalize (itH s.heap (l :: ls)).objs.size = TI at *
  generalize (zT s.heap (l :: ls)).objs.size = TO at *
  have fp0 : ∀ c ∈ z :: TI :: TO :: itA s.heap (l :: ls).length, FpOk X pins H c := fun c hc => I.fpOk (cells c hc).1 (I.hok.fresh (cells c hc).1)
  have ll : (itA s.heap (l :: ls).length).length ≤ 1000 := by rw [itA_length]; exact h2
  generalize itA s.heap (l :: ls).length = is at *
  generalize zZ s.heap (l :: ls) = G at *
  -- the call of list
  refine callType_codes (Q₁ := fun obj s₁ => obj = .ref G.objs.size ∧ s₁ = { s with heap := G.push { cls := .type "list", data := .seq #[] } }) PySem.F.called_list (PySem.F.typeCall_list_1 _) PySem.F.entry_list_init
    (code_list_new _ ⟨rfl, rfl⟩) fun obj s₁ h₁ => ?_
  obtain ⟨rfl, rfl⟩ := h₁
  have hS : (G.push { cls := .type "list", data := .seq #[] }).get? G.objs.size = some { cls := .type "list", data := .seq #[] } := Heap.get?_push_size _ rfl
  refine ⟨⟨_, hS, rfl⟩, PySem.F.args_list_init_2 _ _, ?_⟩
  have fr : H G.objs.size = none := I3.hok.fresh (Nat.le_refl _)
  have I1 : Inv X pins σ (upd H G.objs.size (.lst [])) { s with heap := G.push { cls := .type "list", data := .seq #[] } } := I3.lnew (its := []) (t' := s.toks) .nil (Nat.zero_le _)
  show wpAny _ _ (do let old ← Builtin.List.listItems (.ref G.objs.size); Builtin.List.listUpdate (.ref G.objs.size) (fun _ => #[]); letGo old.toList.reverse; Builtin.List.listExtendWith (.ref G.objs.size) (.ref z) .none) _ _ _
  refine wpAny_bind ?_
  unfold Builtin.List.listItems
  refine wpAny_bind (wpAny_seqItems hS rfl (wpAny_pure ?_))
  show wpAny _ _ (updateSeq G.objs.size (fun _ => #[]) >>= fun _ => letGo (#[] : Array Value).toList.reverse >>= fun _ => Builtin.List.listExtendWith (.ref G.objs.size) (.ref z) .none) _ _ _
  refine wpAny_bind (wpAny_updateSeq hS rfl ?_)
  have I2 := I1.lset (f := fun _ => #[]) (its := []) (its' := []) (ys := []) (t' := s.toks) upd_same hS rfl .nil (Nat.zero_le _)
  rw [upd_upd] at I2
  refine wpAny_bind (wpAny_letGo ?_)
  have zS : z ≠ G.objs.size := (cells z List.mem_cons_self).2
  have keepT : ∀ {h h' : Heap}, ZTn z TI TO is (l :: ls) 0 h → (∀ c o, c ≠ G.objs.size → h.get? c = some o → h'.get? c = some o) → ZTn z TI TO is (l :: ls) 0 h' := fun {h h'} st k =>
    (turn_zn (P := X.prog) (w := X.w) (K := X.K) (x := "x") (px := default) D ll).keep 0 h h' st fun b hb o e => k b o (cells b hb).2 e
  have st1 := keepT (h' := (G.push { cls := .type "list", data := .seq #[] }).update G.objs.size (Obj.mapSeq fun _ => #[])) st fun c o hcS e => (Heap.get?_update_other _ _ (Ne.symm hcS)).trans (Heap.get?_push_of_some _ e)
  have fp1 : ∀ c ∈ z :: TI :: TO :: is, FpOk X pins (upd H G.objs.size (.lst [])) c := fun c hcm => ⟨by rw [upd_ne (cells c hcm).2]; exact (fp0 c hcm).1, (fp0 c hcm).2⟩
  obtain ⟨f0, f1, ow, hf, hz1, _⟩ := id st1
  have hTz : Shared.TypeIs { s with heap := (G.push { cls := .type "list", data := .seq #[] }).update G.objs.size (Obj.mapSeq fun _ => #[]) } (.ref z) "zip" := ⟨_, hz1, rfl⟩
  have hcol1 : ∀ y ∈ l :: ls, (col y).length = n ∧ SqT X.K (upd H G.objs.size (.lst [])) y (col y) := fun y hy => by
    obtain ⟨c1, c2⟩ := hcol y hy
    refine ⟨c1, ?_⟩
    rcases c2 with (g | ⟨o, g⟩) | g
    · exact .inl (.inl (by rw [upd_ne (ne_of_none g fr)]; exact g))
    · exact .inl (.inr ⟨o, by rw [upd_ne (ne_of_none g fr)]; exact g⟩)
    · exact .inr g
  have fin : ∀ acc H' s', Inv X pins σ H' s' → acc.length = n → H' G.objs.size = some (.lst acc) → (∀ b o, upd H G.objs.size (.lst []) b = some o → b ≠ G.objs.size → H' b = some o) → Zac (l :: ls) col H' acc →
      wants (fun r s₂ => r = .none ∧ EP X pins σ Q (.ref G.objs.size) s₂) X.xe (.ok (.ret .none)) s' := fun acc H' s' I' e1 e2 e3 e4 =>
    ⟨rfl, .ref G.objs.size, H', I', rfl, h _ H' acc fr (fun b o e => e3 b o (by rw [upd_ne (ne_of_none e fr)]; exact e) (ne_of_none e fr)) e2 e1 e4⟩
  unfold Builtin.List.listExtendWith
  refine wpAny_bind (wpAny_typeOf hTz ?_)
  have h1 : Builtin.List.listSameRef (.ref G.objs.size) (.ref z) = false := by simp [Builtin.List.listSameRef, Ne.symm zS]
  have h3 : (Value.type "zip" == Value.type "list") = false := by decide
  have h4 : (Value.type "zip" == Value.type "tuple") = false := by decide
  simp only [h1, h3, h4, Bool.or_false, Bool.false_eq_true, if_false]
  refine wpAny_bind (iter_self hz1 ?_)
  refine wpAny_bind (wpAny_holding (zip_hint hz1 ?_))
  have hh : X.A.in1.in1.handled = none := I.ok.hd hc
  obtain ⟨z3, its, k3, r3, hl3, e5⟩ := I2.lstM upd_same
  cases r3
  refine wpAny_ite_split (fun _ => ?_) (fun _ => wpAny_pure ⟨plainId_quiet PySem.F.plain_extend_loop _, zloop (A1 := X.A.in1) hh D ll hn hcol1 upd_same fin n 0 [] _ _ (by omega) (Nat.zero_le _) I2 fp1 st1 rfl upd_same (fun b o e _ => e) (fun j v e => by simp at e)⟩)
  refine wpAny_bind (wpAny_rule ?_)
  refine wpAny_bind ?_
  show wpAny _ _ (updateSeq G.objs.size (·.push .none) >>= fun _ => updateSeq G.objs.size (·.pop)) _ _ _
  refine wpAny_bind (wpAny_updateSeq e5 rfl ?_)
  have J2 := I2.lset (f := (·.push Value.none)) (its' := [Value.none]) (ys := [.non]) (t' := s.toks) upd_same e5 (by simp) (.cons rfl .nil) (by rw [List.length_singleton, sizeLine_eq]; decide)
  obtain ⟨z4, its4, k4, r4, hl4, e6⟩ := J2.lstM upd_same
  obtain ⟨u4, rfl, ru4⟩ := r4.one
  refine wpAny_updateSeq e6 rfl ?_ (by show 1 ≤ sizeLine; rw [sizeLine_eq]; decide) (by show 0 ≤ sizeLine + 1; exact Nat.zero_le _)
  have J3 := J2.lset (f := (·.pop)) (its := [u4]) (its' := []) (ys := []) (t' := s.toks) upd_same e6 (by rfl) .nil (Nat.zero_le _)
  rw [upd_upd, upd_upd] at J3
  refine wpAny_pure ⟨plainId_quiet PySem.F.plain_extend_loop _, zloop (A1 := X.A.in1) hh D ll hn hcol1 upd_same fin n 0 [] _ _ (by omega) (Nat.zero_le _) J3 fp1 ?_ rfl upd_same (fun b o e _ => e) (fun j v e => by simp at e)⟩
  exact keepT (keepT st1 fun c o hcS e => (Heap.get?_update_other _ _ (Ne.symm hcS)).trans e) fun c o hcS e => (Heap.get?_update_other _ _ (Ne.symm hcS)).trans e
end FoU

set_option maxHeartbeats 4100000
/-! list(zip(*e)), list(zip(a, b)) as expressions. -/
namespace FoU
open PySem PySem.Spec PyProof.Rows L2
/-- the new list of the tuples' columns -/
def Lz (K : PySem.W.Frag) (ls : List Addr) (H1 : Hp) (Q : VK) : Prop := ∃ (col : Addr → List V) (n : Nat), (∀ y ∈ ls, (col y).length = n ∧ SqT K H1 y (col y)) ∧ ls.length ≤ 1000 ∧ n ≤ 1000 ∧
  ∀ (q : Addr) (H' : Hp) (acc : List V), H1 q = none → (∀ b o, H1 b = some o → H' b = some o) → H' q = some (.lst acc) → acc.length = n → Zac ls col H' acc → Q (.ref q) H'
def tLzS (K : PySem.W.Frag) (te : TE) : TE := fun τ H Q => te τ H fun x H1 => ∃ (t l : Addr) (ls : List Addr), x = .ref t ∧ SqT K H1 t ((l :: ls).map V.ref) ∧ Lz K (l :: ls) H1 Q
def tLz2 (K : PySem.W.Frag) (ta : TA) : TE := fun τ H Q => ta τ H fun vs H1 => ∃ (a b : Addr), vs = [.ref a, .ref b] ∧ Lz K [a, b] H1 Q
section
variable {X : Cx} {K' : PySem.W.Frag} {e e1 e2 : Expr} {te : TE} {ta : TA} {p p2 sp pos pos2 : Pos}
theorem pe_lzS (hc : X.calm = true) (hK : X.K = K') (hg : Gl X "list") (hm : X.mg "list" = none) (hg2 : Gl X "zip") (hm2 : X.mg "zip" = none) (he : PE X e te)
    (hs : starEach [.Call (.Name "zip" p2) [.Starred e sp] [] pos2] X.env = (false, eval (.Call (.Name "zip" p2) [.Starred e sp] [] pos2) X.env) :: starEach [] X.env := by rfl)
    (hs2 : starEach [.Starred e sp] X.env = [(true, eval e X.env)] := by rfl) :
    PE X (.Call (.Name "list" p) [.Call (.Name "zip" p2) [.Starred e sp] [] pos2] [] pos) (tLzS K' te) := by
  subst hK
  refine ⟨fun pz s τ H Q I h => ?_⟩
  refine Call_ (ld_blt I hg hm PyProof.Rows.Boot.«list» (PyProof.Rows.callWith_type1 ?_ hs (by rfl)))
  rw [hs]
  show wpAny _ _ (spliced ((false, eval (.Call (.Name "zip" p2) [.Starred e sp] [] pos2) X.env) :: backTo pos (starEach [] X.env))) _ _ s
  refine Calls.spliced_cons (Call_ (ld_blt I hg2 hm2 PyProof.Rows.boot_zip (call_star (thn (he.run pz s τ H _ I h) fun v s1 ⟨y, H1, I1, ry, t, l, ls, ey, hx, col, n, hcol, h2, hn, q⟩ => ?_) hs2)))
  subst ey
  obtain rfl : v = Value.ref t := ry
  refine StX.star_any I1 (.inl hx) fun us s2 I2 rv => ?_
  have eu := vals_refs rv
  subst eu
  exact wpAny_mono (list_zip hc I2 hcol h2 hn q) (fun v s3 h3 => Calls.spliced_nil h3) fun _ _ z => z
theorem pe_lz2 (hc : X.calm = true) (hK : X.K = K') (hg : Gl X "list") (hm : X.mg "list" = none) (hg2 : Gl X "zip") (hm2 : X.mg "zip" = none) (ha : PA X [e1, e2] ta)
    (hs : starEach [.Call (.Name "zip" p2) [e1, e2] [] pos2] X.env = (false, eval (.Call (.Name "zip" p2) [e1, e2] [] pos2) X.env) :: starEach [] X.env := by rfl)
    (hs2 : starEach [e1, e2] X.env = (false, eval e1 X.env) :: starEach [e2] X.env := by rfl) (hpl : (backTo pos2 (starEach [e2] X.env)).any (·.1) = false := by rfl) :
    PE X (.Call (.Name "list" p) [.Call (.Name "zip" p2) [e1, e2] [] pos2] [] pos) (tLz2 K' ta) := by
  subst hK
  refine ⟨fun pz s τ H Q I h => ?_⟩
  refine Call_ (ld_blt I hg hm PyProof.Rows.Boot.«list» (PyProof.Rows.callWith_type1 ?_ hs (by rfl)))
  rw [hs]
  show wpAny _ _ (spliced ((false, eval (.Call (.Name "zip" p2) [e1, e2] [] pos2) X.env) :: backTo pos (starEach [] X.env))) _ _ s
  refine Calls.spliced_cons (Call_ (ld_blt I hg2 hm2 PyProof.Rows.boot_zip (PyProof.Rows.callWith_type1 (thn (ha.run pos2 pz s τ H _ I h) fun us s1 ⟨vs, H1, I1, r1, a, b, ex, col, n, hcol, h2, hn, q⟩ => ?_) hs2 hpl)))
  subst ex
  cases r1 with
  | cons r rr =>
    cases rr with
    | cons r' rr =>
      cases rr
      cases r
      cases r'
      exact wpAny_mono (list_zip (l := a) (ls := [b]) hc I1 hcol h2 hn q) (fun v s3 h3 => Calls.spliced_nil h3) fun _ _ z => z
end
end FoU

set_option maxHeartbeats 4100000
namespace Fo
open PySem PySem.Spec PyProof.Rows L2
/-! ### lists of fractions -/
/-- all that is no list stands as it stood -/
def NLst (H H' : Hp) : Prop := ∀ b o, H b = some o → (∀ xs, o ≠ .lst xs) → H' b = some o
theorem NLst.refl (H : Hp) : NLst H H := fun _ _ h _ => h
theorem NLst.trans {H H1 H2 : Hp} (a : NLst H H1) (b : NLst H1 H2) : NLst H H2 := fun c o h n => b c o (a c o h n) n
theorem same_nl {H H' : Hp} (s : Same H H') : NLst H H' := fun b o h _ => s b o h
theorem nl_upd {H : Hp} {D : Addr} {xs : List V} {o : HO} (h : H D = some (.lst xs)) : NLst H (upd H D o) := fun b u e n => by
  rw [upd_ne (fun z => by rw [z, h] at e; cases e; exact n _ rfl)]
  exact e
theorem NLst.but {H H' : Hp} {D : Addr} {xs : List V} (h : H D = some (.lst xs)) (b : But D H H') : NLst H H' := fun c u e n => b c u e fun z => by
  rw [z, h] at e
  cases e
  exact n _ rfl
/-- told of a value in a heap, and not changed by what happens to lists -/
def Solid (R : Hp → V → Prop) : Prop := ∀ {H H' : Hp} {v : V}, NLst H H' → R H v → R H' v
/-- the values ws are the numbers l, in the sense of R -/
def Ls (R : Rat → Hp → V → Prop) (H : Hp) (ws : List V) (l : List Rat) : Prop := ws.length = l.length ∧ ∀ (i : Nat) (v : V), ws[i]? = some v → R (FoQ.co l i) H v
section
variable {R : Rat → Hp → V → Prop} {H H' : Hp} {ws : List V} {l : List Rat}
theorem Ls.nl (hR : ∀ r, Solid (R r)) (h : Ls R H ws l) (s : NLst H H') : Ls R H' ws l := ⟨h.1, fun i v e => hR _ s (h.2 i v e)⟩
theorem Ls.nil : Ls R H [] [] := ⟨rfl, fun i v e => by simp at e⟩
theorem Ls.take (h : Ls R H ws l) (n : Nat) : Ls R H (ws.take n) (l.take n) := by
  refine ⟨by rw [List.length_take, List.length_take, h.1], fun i v e => ?_⟩
  rw [List.getElem?_take] at e
  split at e
  · rename_i hi
    rw [FoQ.co_take, if_pos hi]
    exact h.2 i v e
  · cases e
theorem Ls.snoc {v : V} {r : Rat} (h : Ls R H ws l) (q : R r H v) : Ls R H (ws ++ [v]) (l ++ [r]) := by
  refine ⟨by simp [h.1], fun i u e => ?_⟩
  rw [List.getElem?_append] at e
  have c1 : FoQ.co (l ++ [r]) i = if i < l.length then FoQ.co l i else FoQ.co [r] (i - l.length) := by
    unfold FoQ.co List.getD
    rw [List.getElem?_append]
    split <;> rfl
  rw [c1]
  split at e
  · rename_i hi
    rw [if_pos (by rw [← h.1]; exact hi)]
    exact h.2 i u e
  · rename_i hi
    rw [if_neg (by rw [← h.1]; exact hi), ← h.1]
    cases q1 : i - ws.length with
    | zero =>
      rw [q1] at e
      cases e
      exact q
    | succ n =>
      rw [q1] at e
      simp at e
theorem Ls.at_ (h : Ls R H ws l) {i : Nat} (hi : i < l.length) : ∃ v, ws[i]? = some v ∧ R (FoQ.co l i) H v := by
  have e : i < ws.length := by rw [h.1]; exact hi
  exact ⟨ws[i], List.getElem?_eq_getElem e, h.2 i _ (List.getElem?_eq_getElem e)⟩
theorem Ls.imp {R' : Rat → Hp → V → Prop} (h : Ls R H ws l) (f : ∀ r v, R r H v → R' r H v) : Ls R' H ws l := ⟨h.1, fun i v e => f _ _ (h.2 i v e)⟩
end
/-- a Ratio -/
def Rr (K : PySem.W.Frag) (r : Rat) (H : Hp) (v : V) : Prop := ∃ a, v = .ref a ∧ RtAt K H a r
/-- a number -/
def Rn (K : PySem.W.Frag) (r : Rat) (H : Hp) (v : V) : Prop := NmV K H v r
/-- a fraction's tuple -/
def Rq (r : Rat) (H : Hp) (v : V) : Prop := ∃ a, v = .ref a ∧ FrQ H a r
theorem RtAt.nl {K : PySem.W.Frag} {H H' : Hp} {a : Addr} {r : Rat} (h : RtAt K H a r) (s : NLst H H') : RtAt K H' a r :=
  let ⟨dx, e⟩ := h
  ⟨dx, s _ _ e (fun xs z => by cases z)⟩
theorem FrQ.nl {H H' : Hp} {a : Addr} {r : Rat} (h : FrQ H a r) (s : NLst H H') : FrQ H' a r := s _ _ h (fun xs z => by cases z)
theorem rr_solid {K : PySem.W.Frag} (r : Rat) : Solid (Rr K r) := fun s ⟨a, e, h⟩ => ⟨a, e, h.nl s⟩
theorem rq_solid (r : Rat) : Solid (Rq r) := fun s ⟨a, e, h⟩ => ⟨a, e, h.nl s⟩
theorem rn_solid {K : PySem.W.Frag} (r : Rat) : Solid (Rn K r) := fun s h => by
  rcases h with ⟨a, e, h⟩ | h
  · exact .inl ⟨a, e, h.nl s⟩
  · exact .inr h
/-- a list that is being made: i items so far, each as R says -/
def LInv (R : Nat → Hp → V → Prop) (H1 : Hp) (D : Addr) (i : Nat) (H : Hp) : Prop := Same H1 H ∧ ∃ ws, H D = some (.lst ws) ∧ ws.length = i ∧ ∀ (j : Nat) (v : V), ws[j]? = some v → R j H v
section
variable {R : Nat → Hp → V → Prop} {H1 H H4 : Hp} {D : Addr} {i : Nat}
theorem LInv.start (nD : H1 D = none) : LInv R H1 D 0 (upd H1 D (.lst [])) := ⟨Same.upd nD, [], upd_same, rfl, fun j v e => by simp at e⟩
theorem same_set {H1 H : Hp} {D : Addr} {o : HO} (s : Same H1 H) (nD : H1 D = none) : Same H1 (upd H D o) := fun b u e => by
  rw [upd_ne (ne_of_none e nD)]
  exact s b u e
theorem LInv.next {v : V} (h : LInv R H1 D i H) (hs : ∀ j, Solid (R j)) (nD : H1 D = none) (s : Same H H4) (hv : R i H4 v) (hi : i < 100000) :
    ∃ acc, H4 D = some (.lst acc) ∧ acc.length < sizeLine ∧ LInv R H1 D (i + 1) (upd H4 D (.lst (acc ++ [v]))) := by
  obtain ⟨s1, ws, e, el, hw⟩ := h
  have e4 := s _ _ e
  have nl : NLst H4 (upd H4 D (.lst (ws ++ [v]))) := nl_upd e4
  refine ⟨ws, e4, by rw [el, sizeLine_eq]; omega, same_set (s1.trans s) nD, ws ++ [v], upd_same, by simp [el], fun j u q => ?_⟩
  rw [List.getElem?_append] at q
  split at q
  · exact hs j nl (hs j (same_nl s) (hw j u q))
  · rename_i hj
    have ej : j = i := by
      cases q1 : j - ws.length with
      | zero => omega
      | succ n =>
        rw [q1] at q
        simp at q
    subst ej
    rw [← el, Nat.sub_self] at q
    cases q
    exact hs _ nl hv
end
section
variable {P : Program} {w : World} {K : PySem.W.Frag} {mg : Str → Option Value} {base : Heap}
end

theorem sqT_sm {K : PySem.W.Frag} {H H' : Hp} {a : Addr} {xs : List V} (h : SqT K H a xs) (e : Same H H') : SqT K H' a xs := by
  rcases h with (g | ⟨o, g⟩) | g
  · exact .inl (.inl (e _ _ g))
  · exact .inl (.inr ⟨o, e _ _ g⟩)
  · exact .inr g
theorem sqL_sm {K : PySem.W.Frag} {H H' : Hp} {a : Addr} {xs : List V} (h : SqL K H a xs) (e : Same H H') : SqL K H' a xs := by
  rcases h with (g | ⟨o, g⟩) | g
  · exact .inl (.inl (e _ _ g))
  · exact .inl (.inr ⟨o, e _ _ g⟩)
  · exact .inr g
def AllSz (n : Nat) (l : List Rat) : Prop := ∀ i, FoQ.SzR n (FoQ.co l i)
/-- numbers that are not too great, nor what they have as a bottom in common -/
structure Bd (l : List Rat) : Prop where
  sz : AllSz 800 l
  lc : ∀ i, FoM.Sz 800 ((FoQ.lcmD (l.take i) : Nat) : Int)
theorem Bd.of {n : Nat} {l : List Rat} (h : AllSz n l) (hl : n * l.length + 1 ≤ 800) (hn : n ≤ 800) : Bd l := ⟨fun i => (h i).mono hn, fun i => by
  by_cases c : i ≤ l.length
  · exact (FoQ.lcmD_sz h i c).mono (Nat.le_trans (Nat.succ_le_succ (Nat.mul_le_mul_left _ c)) hl)
  · rw [List.take_of_length_le (by omega)]
    have z := FoQ.lcmD_sz h l.length (Nat.le_refl _)
    rw [List.take_length] at z
    exact z.mono hl⟩
/-! ### products of polynomials -/
def pneg' : Unit := ()
def intV (xs : List Int) : List V := xs.map V.int
theorem intV_at {xs : List Int} {i : Nat} (h : i < xs.length) : (intV xs)[i]? = some (.int (xs.getD i 0)) := by
  unfold intV
  rw [List.getElem?_map, List.getElem?_eq_getElem h, List.getD_eq_getElem?_getD, List.getElem?_eq_getElem h]
  rfl
theorem intV_some {xs : List Int} {i : Nat} {v : V} (h : (intV xs)[i]? = some v) : i < xs.length ∧ v = .int (xs.getD i 0) := by
  have hi : i < xs.length := by
    have := (List.getElem?_eq_some_iff.mp h).1
    simpa [intV] using this
  rw [intV_at hi] at h
  exact ⟨hi, (Option.some.inj h).symm⟩
/-- the integers that are the Ratios, times M -/
def whole (M : Nat) (l : List Rat) : List Int := (List.range l.length).map fun i => (FoQ.co l i).num * ((M : Int).fdiv ((FoQ.co l i).den : Int))
def spShared (K : PySem.W.Frag) : Sp := fun vs H Q _ => ∃ (t : Addr) (ws : List V) (l : List Rat), vs = [.ref t] ∧ (SqL K H t ws ∨ SqT K H t ws) ∧ Ls (Rr K) H ws l ∧ Bd l ∧ l.length ≤ 20 ∧ Q (.int (FoQ.lcmD l)) H
def spMult (K : PySem.W.Frag) : Sp := fun vs H Q _ => ∃ (t : Addr) (ws : List V) (l : List Rat) (M : Nat), vs = [.ref t, .int M] ∧ (SqL K H t ws ∨ SqT K H t ws) ∧ Ls (Rr K) H ws l ∧ Bd l ∧ l.length ≤ 20 ∧ 0 < M ∧ FoM.Sz 800 (M : Int) ∧
  ∀ p H', H p = none → Same H H' → H' p = some (.lst (intV (whole M l))) → Q (.ref p) H'
theorem sqT_inj {K : PySem.W.Frag} {H : Hp} {a : Addr} {xs : List V} (h : H a = some (.tup xs)) : SqT K H a xs := SqT.of h
section
variable {P : Program} {w : World} {K : PySem.W.Frag} {mg : Str → Option Value} {base : Heap}
theorem ok_shared (T : Tx K mg) : FnOk P w K mg base CX0 3 (He.ga K "shared_bottom") T.fd_shared_bottom ["ratios"] (spShared K) := by
  refine T.F_shared_bottom.ok sc_shared_bottom (fun vs H Q E h => ?_) (fun cdv A outer s H vs Q E hr h => ?_)
  · obtain ⟨t, ws, l, rfl, _⟩ := h
    rfl
  · obtain ⟨t, ws, l, rfl, hS, hL, hz, hl, q⟩ := h
    refine ⟨_, (pss_cons (ps_set (i := 1) sc_shared_bottom.nd rfl (.inl rfl) pe_int)
      (pss_cons (ps_for PassesOwn.never rfl (FoY.pi_or (pi_list (pv 0)) (pi_tup (pv 0))) (pg_name (i := 2) sc_shared_bottom.nd rfl (.inl rfl)) (pss_one (ps_set (i := 1) sc_shared_bottom.nd rfl (.inl rfl) (pe_callBfun FoL.cr_lcm (by rfl) T.i_lcm (pa_cons (pv 1) (pa_cons (pe_prop (pv 2) T.cl_R T.p_bottom (ok_bottomQ T) (hr.mono (by decide)) T.b_Ratio_bottom .nil pass0 (by rfl)) pa_nil))))))
      (pss_one (ps_ret (pv 1))))), ?_⟩
    rcases hS with hS | hS
    · refine .inl ⟨_, rfl, t, rfl, ⟨_, hS⟩, ?_⟩
      refine for_list (xs := ws) (fun i σ H' => H' = H ∧ i ≤ l.length ∧ ∃ o, σ = [some (.ref t), some (.int (FoQ.lcmD (l.take i))), o]) ⟨rfl, Nat.zero_le _, _, rfl⟩ (fun i σ H' _ h => h.1 ▸ hS) ?_ ?_
      · rintro i x σ H' ex ⟨rfl, hi, o, rfl⟩
        have hi' : i < l.length := by
          have := (List.getElem?_eq_some_iff.mp ex).1
          rw [hL.1] at this
          exact this
        obtain ⟨b, rfl, hb⟩ := hL.2 i x ex
        obtain ⟨dx, hb'⟩ := id hb
        have zM := hz.lc i
        refine ⟨_, rfl, _, rfl, b, dx, _, rfl, hb', b, _, rfl, hb, _, _, rfl, (zM.mono (by decide)), ((hz.sz i).2.mono (by decide)), rfl, hi', some (.ref b), ?_⟩
        show [some (V.ref t), some (V.int ((Nat.lcm ((FoQ.lcmD (l.take i) : Nat) : Int).natAbs (((FoQ.co l i).den : Nat) : Int).natAbs : Nat) : Int)), some (V.ref b)] = _
        rw [Int.natAbs_natCast, Int.natAbs_natCast, FoQ.lcmD_take hi']
      · rintro σ H' ⟨rfl, hi, o, rfl⟩
        refine ⟨_, rfl, ?_⟩
        rw [hL.1, List.take_length]
        exact q
    · refine .inr ⟨_, rfl, t, rfl, ⟨_, hS⟩, ?_⟩
      refine for_tup (xs := ws) (fun i σ H' => H' = H ∧ i ≤ l.length ∧ ∃ o, σ = [some (.ref t), some (.int (FoQ.lcmD (l.take i))), o]) ⟨rfl, Nat.zero_le _, _, rfl⟩ (fun i σ H' _ h => h.1 ▸ hS) ?_ ?_
      · rintro i x σ H' ex ⟨rfl, hi, o, rfl⟩
        have hi' : i < l.length := by
          have := (List.getElem?_eq_some_iff.mp ex).1
          rw [hL.1] at this
          exact this
        obtain ⟨b, rfl, hb⟩ := hL.2 i x ex
        obtain ⟨dx, hb'⟩ := id hb
        have zM := hz.lc i
        refine ⟨_, rfl, _, rfl, b, dx, _, rfl, hb', b, _, rfl, hb, _, _, rfl, (zM.mono (by decide)), ((hz.sz i).2.mono (by decide)), rfl, hi', some (.ref b), ?_⟩
        show [some (V.ref t), some (V.int ((Nat.lcm ((FoQ.lcmD (l.take i) : Nat) : Int).natAbs (((FoQ.co l i).den : Nat) : Int).natAbs : Nat) : Int)), some (V.ref b)] = _
        rw [Int.natAbs_natCast, Int.natAbs_natCast, FoQ.lcmD_take hi']
      · rintro σ H' ⟨rfl, hi, o, rfl⟩
        refine ⟨_, rfl, ?_⟩
        rw [hL.1, List.take_length]
        exact q
theorem ok_mult (T : Tx K mg) : FnOk P w K mg base CX0 3 (He.ga K "multiplied") T.fd_multiplied ["ratios", "bottom"] (spMult K) := by
  refine T.F_multiplied.ok sc_multiplied (fun vs H Q E h => ?_) (fun cdv A outer s H vs Q E hr h => ?_)
  · obtain ⟨t, ws, l, M, rfl, _⟩ := h
    rfl
  · obtain ⟨t, ws, l, M, rfl, hS, hL, hz, hl, hM, zM, q⟩ := h
    refine ⟨_, (pss_one (ps_ret (pe_lc (own := [("ratio", 2)]) (g := gName 2) rfl sc_multiplied.nd (FoY.pi_or (pi_list (pv 0)) (pi_tup (pv 0))) (blkOk_by (own := [("ratio", 2)]) (N := ["ratios", "bottom", "ratio"]) (sc := defScope s_multiplied) (by decide +kernel)) (fun _ _ _ _ _ => (pg_name (i := 2) sc_multiplied.nd rfl (.inl rfl))) (fun _ _ _ _ _ => pts_nil) (fun _ _ _ _ _ => (pe_op op_mulW (pe_prop (pv 2) T.cl_R T.p_top (ok_topQ T) (hr.mono (by decide)) T.b_Ratio_top .nil pass0 (by rfl)) (pe_op FoA.op_fdivZ (pv 1) (pe_prop (pv 2) T.cl_R T.p_bottom (ok_bottomQ T) (hr.mono (by decide)) T.b_Ratio_bottom .nil pass0 (by rfl)))))))), ?_⟩
    rcases hS with hS | hS
    · refine .inl ⟨_, rfl, t, rfl, ⟨_, hS⟩, fun D nD => ?_⟩
      refine lc_list (LInv (fun j H v => v = .int ((FoQ.co l j).num * ((M : Int).fdiv ((FoQ.co l j).den : Int)))) H D) (LInv.start nD) (fun i H2 hi h => sqL_sm hS h.1) (fun i x H2 ex h => ?_) (fun H2 h => ?_)
      · obtain ⟨b, rfl, hb⟩ := hL.2 i x ex
        have hb2 := hb.same h.1
        obtain ⟨dx, hb'⟩ := id hb2
        refine ⟨rfl, _, rfl, b, dx, _, rfl, hb', b, _, rfl, hb2, _, rfl, _, rfl, b, dx, _, rfl, hb', b, _, rfl, hb2, _, _, rfl, rfl, FoA.divZ_of (FoQ.den_ne _) (hz.sz i).2 (by decide) (by decide), _, _, rfl, rfl, ?_, ?_⟩
        · refine FoM.Sz.mulok (n := 800) (m := 800) (hz.sz i).1 (FoM.Sz.le zM ?_)
          rw [FoQ.fdiv_whole, Int.natAbs_natCast, Int.natAbs_natCast]
          exact Nat.div_le_self _ _
        · exact h.next (fun j => @fun _ _ _ _ q => q) nD (Same.refl _) rfl (by have := (List.getElem?_eq_some_iff.mp ex).1; rw [hL.1] at this; omega)
      · obtain ⟨s1, us, e, el, hu⟩ := h
        refine q D H2 nD s1 ?_
        rw [e]
        congr 2
        refine List.ext_getElem? fun j => ?_
        have wl : (whole M l).length = l.length := by simp [whole]
        by_cases c : j < l.length
        · obtain ⟨v, ev⟩ : ∃ v, us[j]? = some v := ⟨us[j]'(by rw [el, hL.1]; exact c), List.getElem?_eq_getElem _⟩
          rw [ev, hu j v ev, intV_at (by rw [wl]; exact c)]
          simp [whole, c]
        · rw [List.getElem?_eq_none (by rw [el, hL.1]; omega), List.getElem?_eq_none (by simp [intV, wl]; omega)]
    · refine .inr ⟨_, rfl, t, rfl, ⟨_, hS⟩, fun D nD => ?_⟩
      refine lc_tup (LInv (fun j H v => v = .int ((FoQ.co l j).num * ((M : Int).fdiv ((FoQ.co l j).den : Int)))) H D) (LInv.start nD) (fun i H2 hi h => sqT_sm hS h.1) (fun i x H2 ex h => ?_) (fun H2 h => ?_)
      · obtain ⟨b, rfl, hb⟩ := hL.2 i x ex
        have hb2 := hb.same h.1
        obtain ⟨dx, hb'⟩ := id hb2
        refine ⟨rfl, _, rfl, b, dx, _, rfl, hb', b, _, rfl, hb2, _, rfl, _, rfl, b, dx, _, rfl, hb', b, _, rfl, hb2, _, _, rfl, rfl, FoA.divZ_of (FoQ.den_ne _) (hz.sz i).2 (by decide) (by decide), _, _, rfl, rfl, ?_, ?_⟩
        · refine FoM.Sz.mulok (n := 800) (m := 800) (hz.sz i).1 (FoM.Sz.le zM ?_)
          rw [FoQ.fdiv_whole, Int.natAbs_natCast, Int.natAbs_natCast]
          exact Nat.div_le_self _ _
        · exact h.next (fun j => @fun _ _ _ _ q => q) nD (Same.refl _) rfl (by have := (List.getElem?_eq_some_iff.mp ex).1; rw [hL.1] at this; omega)
      · obtain ⟨s1, us, e, el, hu⟩ := h
        refine q D H2 nD s1 ?_
        rw [e]
        congr 2
        refine List.ext_getElem? fun j => ?_
        have wl : (whole M l).length = l.length := by simp [whole]
        by_cases c : j < l.length
        · obtain ⟨v, ev⟩ : ∃ v, us[j]? = some v := ⟨us[j]'(by rw [el, hL.1]; exact c), List.getElem?_eq_getElem _⟩
          rw [ev, hu j v ev, intV_at (by rw [wl]; exact c)]
          simp [whole, c]
        · rw [List.getElem?_eq_none (by rw [el, hL.1]; omega), List.getElem?_eq_none (by simp [intV, wl]; omega)]
end

end Fo

set_option maxHeartbeats 4100000
namespace Fo
open PySem PySem.Spec PyProof.Rows L2
theorem intV_len (xs : List Int) : (intV xs).length = xs.length := by simp [intV]
theorem sz_0 {n : Nat} : FoM.Sz n 0 := by
  unfold FoM.Sz
  exact Nat.two_pow_pos n
theorem lcmD_all {l : List Rat} (h : Bd l) (hl : l.length ≤ 20) : FoM.Sz 800 ((FoQ.lcmD l : Nat) : Int) := by
  have z := h.lc l.length
  rwa [List.take_length] at z
theorem whole_len (M : Nat) (l : List Rat) : (whole M l).length = l.length := by simp [whole]
theorem whole_getD (M : Nat) (l : List Rat) (i : Nat) : (whole M l).getD i 0 = if i < l.length then (FoQ.co l i).num * ((M : Int).fdiv ((FoQ.co l i).den : Int)) else 0 := by
  rw [List.getD_eq_getElem?_getD]
  by_cases h : i < l.length
  · rw [if_pos h]
    simp [whole, h]
  · rw [if_neg h]
    simp [whole, h]
theorem whole_szs {M : Nat} {l : List Rat} (h : Bd l) (g : FoM.Sz 800 (M : Int)) (i : Nat) : FoM.Sz 1650 ((whole M l).getD i 0) := by
  rw [whole_getD]
  split
  · exact (FoQ.whole_sz (h.sz i) g).mono (by decide)
  · exact sz_0
theorem ci_whole {M : Nat} {l : List Rat} (h : ∀ i, i < l.length → (FoQ.co l i).den ∣ M) (i : Nat) : FoQ.ci (whole M l) i = FoQ.co l i * ((M : Int) : Rat) := by
  unfold FoQ.ci
  rw [whole_getD]
  split
  · rename_i hi
    exact FoQ.whole_eq (h i hi)
  · rename_i hi
    rw [FoQ.co_ge (by omega)]
    show ((0 : Int) : Rat) = 0 * _
    rw [show ((0 : Int) : Rat) = 0 from rfl]
    grind
/-! ### inner products -/
def dotI (xs ys : List Int) : Nat → Int
  | 0 => 0
  | n + 1 => dotI xs ys n + xs.getD n 0 * ys.getD n 0
def dotQ (x y : List Rat) : Nat → Rat
  | 0 => 0
  | n + 1 => dotQ x y n + FoQ.co x n * FoQ.co y n
theorem dot_whole {x y : List Rat} {M N : Nat} (hx : ∀ i, i < x.length → (FoQ.co x i).den ∣ M) (hy : ∀ i, i < y.length → (FoQ.co y i).den ∣ N) : ∀ n, ((dotI (whole M x) (whole N y) n : Int) : Rat) = dotQ x y n * ((M : Int) : Rat) * ((N : Int) : Rat)
  | 0 => by
    show ((0 : Int) : Rat) = 0 * _ * _
    rw [show ((0 : Int) : Rat) = 0 from rfl]
    grind
  | n + 1 => by
    have h1 := dot_whole hx hy n
    have h2 := ci_whole hx n
    have h3 := ci_whole hy n
    unfold FoQ.ci at h2 h3
    show ((dotI (whole M x) (whole N y) n + (whole M x).getD n 0 * (whole N y).getD n 0 : Int) : Rat) = (dotQ x y n + FoQ.co x n * FoQ.co y n) * _ * _
    rw [Rat.intCast_add, Rat.intCast_mul, h1, h2, h3]
    grind
theorem dotI_sz {xs ys : List Int} (hx : ∀ i, FoM.Sz 1650 (xs.getD i 0)) (hy : ∀ i, FoM.Sz 1650 (ys.getD i 0)) : ∀ n, FoM.Sz (3300 + n + 1) (dotI xs ys n)
  | 0 => sz_0
  | n + 1 => by
    have h1 := dotI_sz hx hy n
    have h2 : FoM.Sz 3300 (xs.getD n 0 * ys.getD n 0) := (hx n).mul (hy n)
    exact h1.add (h2.mono (by omega))
def spWInner (K : PySem.W.Frag) : Sp := fun vs H Q _ => ∃ (a b : Addr) (xs ys : List Int), vs = [.ref a, .ref b] ∧ SqL K H a (intV xs) ∧ SqL K H b (intV ys) ∧ xs.length = ys.length ∧ xs.length ≤ 20 ∧ (∀ i, FoM.Sz 1650 (xs.getD i 0)) ∧ (∀ i, FoM.Sz 1650 (ys.getD i 0)) ∧
  ∀ H', Same H H' → Q (.int (dotI xs ys xs.length)) H'
section
variable {P : Program} {w : World} {K : PySem.W.Frag} {mg : Str → Option Value} {base : Heap}
end

end Fo

set_option maxHeartbeats 4100000
namespace Fo
open PySem PySem.Spec PyProof.Rows L2
/-! ### beams of whole numbers over one bottom -/
def WbAt (H : Hp) (p : Addr) (l : List Rat) : Prop := ∃ d, H p = some (.tup [.ref d, .int (FoQ.lcmD l)]) ∧ H d = some (.lst (intV (whole (FoQ.lcmD l) l)))
theorem WbAt.same {H H' : Hp} {p : Addr} {l : List Rat} (h : WbAt H p l) (s : Same H H') : WbAt H' p l := by
  obtain ⟨d, h1, h2⟩ := h
  exact ⟨d, s _ _ h1, s _ _ h2⟩
def spWBeam (K : PySem.W.Frag) : Sp := fun vs H Q _ => ∃ (t : Addr) (ws : List V) (l : List Rat), vs = [.ref t] ∧ (SqL K H t ws ∨ SqT K H t ws) ∧ Ls (Rr K) H ws l ∧ Bd l ∧ l.length ≤ 20 ∧ ∀ p d H', H p = none → H d = none → Same H H' → H' p = some (.tup [.ref d, .int (FoQ.lcmD l)]) → H' d = some (.lst (intV (whole (FoQ.lcmD l) l))) → Q (.ref p) H'
def spInOver (K : PySem.W.Frag) : Sp := fun vs H Q _ => ∃ (a b : Addr) (l m : List Rat), vs = [.ref a, .ref b] ∧ WbAt H a l ∧ WbAt H b m ∧ Bd l ∧ Bd m ∧ l.length = m.length ∧ l.length ≤ 20 ∧ ∀ r H', H r = none → Same H H' → RtAt K H' r (dotQ l m l.length) → Q (.ref r) H'
def spInner (K : PySem.W.Frag) : Sp := fun vs H Q _ => ∃ (a b : Addr) (ws us : List V) (l m : List Rat), vs = [.ref a, .ref b] ∧ (SqL K H a ws ∨ SqT K H a ws) ∧ (SqL K H b us ∨ SqT K H b us) ∧ Ls (Rr K) H ws l ∧ Ls (Rr K) H us m ∧ Bd l ∧ Bd m ∧ l.length = m.length ∧ l.length ≤ 20 ∧
  ∀ r H', H r = none → Same H H' → RtAt K H' r (dotQ l m l.length) → Q (.ref r) H'
theorem sq_sm {K : PySem.W.Frag} {H H' : Hp} {a : Addr} {xs : List V} (h : SqL K H a xs ∨ SqT K H a xs) (e : Same H H') : SqL K H' a xs ∨ SqT K H' a xs := h.elim (fun h => .inl (sqL_sm h e)) (fun h => .inr (sqT_sm h e))
section
variable {P : Program} {w : World} {K : PySem.W.Frag} {mg : Str → Option Value} {base : Heap}
end

end Fo

set_option maxHeartbeats 4100000
namespace Fo
open PySem PySem.Spec PyProof.Rows L2
/-! ### inner products of rows; what has numbers -/
/-- a number, or no number -/
def NumB (K : PySem.W.Frag) (H : Hp) (v : V) (b : Bool) : Prop := (b = true ∧ ∃ r, NmV K H v r) ∨ (b = false ∧ NoNum H v)
theorem NoNum.same {H H' : Hp} {v : V} (h : NoNum H v) (e : Same H H') : NoNum H' v := by
  cases h with
  | non => exact .non
  | bl b => exact .bl b
  | str x => exact .str x
  | lst a => exact .lst (e _ _ a)
  | tup a => exact .tup (e _ _ a)
  | dK a => exact .dK (e _ _ a)
theorem NumB.same {K : PySem.W.Frag} {H H' : Hp} {v : V} {b : Bool} (h : NumB K H v b) (e : Same H H') : NumB K H' v b := by
  rcases h with ⟨h, r, g⟩ | ⟨h, g⟩
  · exact .inl ⟨h, r, g.same e⟩
  · exact .inr ⟨h, g.same e⟩
/-- the values' marks -/
def Nums (K : PySem.W.Frag) (H : Hp) (ws : List V) (bs : List Bool) : Prop := bs.length = ws.length ∧ ∀ (i : Nat) (v : V) (b : Bool), ws[i]? = some v → bs[i]? = some b → NumB K H v b
theorem Nums.same {K : PySem.W.Frag} {H H' : Hp} {ws : List V} {bs : List Bool} (h : Nums K H ws bs) (e : Same H H') : Nums K H' ws bs := ⟨h.1, fun i v b e1 e2 => (h.2 i v b e1 e2).same e⟩
/-- neither a list nor a tuple -/
inductive NoSeq (H : Hp) : V → Prop where
  | non : NoSeq H .non
  | bl (b : Bool) : NoSeq H (.bl b)
  | int (i : Int) : NoSeq H (.int i)
  | str (x : Str) : NoSeq H (.str x)
theorem NoSeq.ty {K : PySem.W.Frag} {H : Hp} {y : V} (h : NoSeq H y) : ∃ t, (∀ H', TyX K H' y t) ∧ PySem.W.kitAny K t [.type "list", .type "tuple"] = some false := by
  cases h with
  | non => exact ⟨_, fun _ => .base .non, kitAny_cons (kit_ty (by decide +kernel)) (fun _ => kitAny_cons (kit_ty (by decide +kernel)) (fun _ => rfl) (fun z => z)) (fun z => z)⟩
  | bl b => exact ⟨_, fun _ => .base (.bl b), kitAny_cons (kit_ty (by decide +kernel)) (fun _ => kitAny_cons (kit_ty (by decide +kernel)) (fun _ => rfl) (fun z => z)) (fun z => z)⟩
  | int i => exact ⟨_, fun _ => .base (.int i), kitAny_cons (kit_ty (by decide +kernel)) (fun _ => kitAny_cons (kit_ty (by decide +kernel)) (fun _ => rfl) (fun z => z)) (fun z => z)⟩
  | str x => exact ⟨_, fun _ => .base (.str x), kitAny_cons (kit_ty (by decide +kernel)) (fun _ => kitAny_cons (kit_ty (by decide +kernel)) (fun _ => rfl) (fun z => z)) (fun z => z)⟩
/-- a list or tuple that was made here -/
def SqHere (H : Hp) (a : Addr) (ws : List V) : Prop := H a = some (.lst ws) ∨ H a = some (.tup ws)
theorem SqHere.same {H H' : Hp} {a : Addr} {ws : List V} (h : SqHere H a ws) (e : Same H H') : SqHere H' a ws := h.elim (fun h => .inl (e _ _ h)) (fun h => .inr (e _ _ h))
theorem SqHere.ty {K : PySem.W.Frag} {H : Hp} {a : Addr} {ws : List V} (h : SqHere H a ws) : ∃ t, TyX K H (.ref a) t ∧ PySem.W.kitAny K t [.type "list", .type "tuple"] = some true := by
  rcases h with h | h
  · exact ⟨_, .base (.lst h), kitAny_cons (b := true) (kit_ty (by decide +kernel)) (fun z => nomatch z) (fun _ => rfl)⟩
  · exact ⟨_, .base (.tup h), kitAny_cons (b := false) (kit_ty (by decide +kernel)) (fun _ => kitAny_cons (b := true) (kit_ty (by decide +kernel)) (fun z => nomatch z) (fun _ => rfl)) (fun z => nomatch z)⟩
def BsI (bs : List Bool) (H0 : Hp) (D : Addr) (i : Nat) (H2 : Hp) : Prop := Same H0 H2 ∧ H2 D = some (.lst ((bs.take i).map V.bl))
def spHasN (K : PySem.W.Frag) : Sp := fun vs H Q _ => ∃ (y : V) (m : Int), vs = [y, .int m] ∧ ((∃ a ws bs, y = .ref a ∧ SqHere H a ws ∧ Nums K H ws bs ∧ ws.length ≤ 1000 ∧ ∀ H', Same H H' → Q (.bl (decide ((ws.length : Int) = m) && bs.all id)) H') ∨ (NoSeq H y ∧ ∀ H', Same H H' → Q (.bl false) H'))
section
variable {P : Program} {w : World} {K : PySem.W.Frag} {mg : Str → Option Value} {base : Heap}
end

end Fo

set_option maxHeartbeats 4100000
namespace Fo
open PySem PySem.Spec PyProof.Rows L2
/-! ### tables -/
theorem rf_cons (u d : Int) : rf u d ≠ [] := fun z => by
  have := rf_top u d
  rw [z] at this
  cases this
/-- a Ratio is not an instance that is still empty -/
theorem rat_ne {K : PySem.W.Frag} {H : Hp} {a p : Addr} {r : Rat} {C dx : Addr} (h : RtAt K H a r) (e : H p = some (.ins C dx [])) : a ≠ p := fun z => by
  obtain ⟨dy, q⟩ := h
  rw [z, e] at q
  have := Option.some.inj q
  injection this with _ _ w
  exact rf_cons _ _ w.symm
abbrev TC (K : PySem.W.Frag) : Addr := He.ga K "Table"
theorem tf_look (v : V) : (putF ("_rows" : Str) v []).lookup ("_rows" : Str) = some v := by rw [lookup_putF, if_pos rfl]
/-- a row: a tuple of Ratios -/
def RowAt (K : PySem.W.Frag) (l : List Rat) (H : Hp) (v : V) : Prop := ∃ a ws, v = .ref a ∧ H a = some (.tup ws) ∧ Ls (Rr K) H ws l
theorem row_solid {K : PySem.W.Frag} (l : List Rat) : Solid (RowAt K l) := fun s ⟨a, ws, e, h, g⟩ => ⟨a, ws, e, s _ _ h (fun xs z => by cases z), g.nl rr_solid s⟩
/-- rows of a table -/
def Rows (K : PySem.W.Frag) (H : Hp) (rs : List V) (m : List (List Rat)) : Prop := rs.length = m.length ∧ ∀ (i : Nat) (v : V), rs[i]? = some v → RowAt K (m.getD i []) H v
theorem Rows.nl {K : PySem.W.Frag} {H H' : Hp} {rs : List V} {m : List (List Rat)} (h : Rows K H rs m) (s : NLst H H') : Rows K H' rs m := ⟨h.1, fun i v e => row_solid _ s (h.2 i v e)⟩
/-- a row as it is handed in -/
def RowIn (K : PySem.W.Frag) (H : Hp) (n : Nat) (v : V) (l : List Rat) : Prop := ∃ a ws, v = .ref a ∧ SqHere H a ws ∧ Ls (Rn K) H ws l ∧ l.length = n
theorem RowIn.same {K : PySem.W.Frag} {H H' : Hp} {n : Nat} {v : V} {l : List Rat} (h : RowIn K H n v l) (e : Same H H') : RowIn K H' n v l := by
  obtain ⟨a, ws, e1, e2, e3, e4⟩ := h
  exact ⟨a, ws, e1, e2.same e, e3.nl (fun r => rn_solid r) (same_nl e), e4⟩
theorem Ls.nums {K : PySem.W.Frag} {H : Hp} {ws : List V} {l : List Rat} (h : Ls (Rn K) H ws l) : Nums K H ws (List.replicate ws.length true) :=
  ⟨by rw [List.length_replicate], fun i v b e1 e2 => by
    rw [List.getElem?_replicate] at e2
    split at e2
    · cases e2
      exact .inl ⟨rfl, _, h.2 i v e1⟩
    · cases e2⟩
theorem all_rep (n : Nat) : (List.replicate n true).all id = true := by
  rw [List.all_replicate]
  cases n <;> rfl
/-- at p: the table with the rows m -/
def TabAt (K : PySem.W.Frag) (H : Hp) (p : Addr) (m : List (List Rat)) : Prop := ∃ dx t rs, H p = some (.ins (TC K) dx (putF "_rows" (.ref t) [])) ∧ H t = some (.tup rs) ∧ Rows K H rs m
theorem TabAt.nl {K : PySem.W.Frag} {H H' : Hp} {p : Addr} {m : List (List Rat)} (h : TabAt K H p m) (s : NLst H H') : TabAt K H' p m :=
  let ⟨dx, t, rs, e1, e2, e3⟩ := h
  ⟨dx, t, rs, s _ _ e1 (fun xs z => by cases z), s _ _ e2 (fun xs z => by cases z), e3.nl s⟩
theorem TabAt.same {K : PySem.W.Frag} {H H' : Hp} {p : Addr} {m : List (List Rat)} (h : TabAt K H p m) (s : Same H H') : TabAt K H' p m := h.nl (same_nl s)
def spTIn (K : PySem.W.Frag) : Sp := fun vs H Q _ => ∃ (p dx a : Addr) (rs : List V) (m : List (List Rat)), vs = [.ref p, .ref a] ∧ H p = some (.ins (TC K) dx []) ∧ SqHere H a rs ∧ rs.length = m.length ∧ 1 ≤ rs.length ∧ rs.length ≤ 8 ∧
  (∀ (i : Nat) (v : V), rs[i]? = some v → RowIn K H rs.length v (m.getD i [])) ∧ ∀ H', TabAt K H' p m → But p H H' → Q .non H'
section
variable {P : Program} {w : World} {K : PySem.W.Frag} {mg : Str → Option Value} {base : Heap}
end

end Fo

set_option maxHeartbeats 4100000
namespace Fo
open PySem PySem.Spec PyProof.Rows L2
/-! ### tables made of rows -/
/-- a row of Ratios, a list or a tuple -/
def RowR (K : PySem.W.Frag) (l : List Rat) (H : Hp) (v : V) : Prop := ∃ a ws, v = .ref a ∧ SqHere H a ws ∧ Ls (Rr K) H ws l
theorem RowR.same {K : PySem.W.Frag} {H H' : Hp} {v : V} {l : List Rat} (h : RowR K l H v) (e : Same H H') : RowR K l H' v := by
  obtain ⟨a, ws, e1, e2, e3⟩ := h
  exact ⟨a, ws, e1, e2.same e, e3.nl rr_solid (same_nl e)⟩
/-- a Ratio is no table -/
theorem rat_ne2 {K : PySem.W.Frag} {H : Hp} {a p : Addr} {r : Rat} {C dx : Addr} {y : V} (h : RtAt K H a r) (e : H p = some (.ins C dx (putF "_rows" y []))) : a ≠ p := fun z => by
  obtain ⟨dy, q⟩ := h
  rw [z, e] at q
  have := Option.some.inj q
  injection this with _ _ w
  have t := rf_top r.num r.den
  rw [← w, lookup_putF, if_neg (by decide)] at t
  cases t
def spMade (K : PySem.W.Frag) : Sp := fun vs H Q _ => ∃ (a : Addr) (rs : List V) (m : List (List Rat)), vs = [.ref a] ∧ SqL K H a rs ∧ rs.length = m.length ∧ rs.length ≤ 100 ∧ (∀ (i : Nat) (v : V), rs[i]? = some v → RowR K (m.getD i []) H v) ∧
  ∀ p H', H p = none → Same H H' → TabAt K H' p m → Q (.ref p) H'
theorem putF_putF (f : Str) (v w : V) : putF f w (putF f v []) = putF f w [] := by
  simp [putF]
section
variable {P : Program} {w : World} {K : PySem.W.Frag} {mg : Str → Option Value} {base : Heap}
end

end Fo

set_option maxHeartbeats 4100000
namespace Fo
open PySem PySem.Spec PyProof.Rows L2
/-! ### the table's methods -/
def ent (m : List (List Rat)) (i j : Nat) : Rat := FoQ.co (m.getD i []) j
/-- as many numbers in each row as there are rows -/
def Sqr (m : List (List Rat)) : Prop := 1 ≤ m.length ∧ m.length ≤ 8 ∧ ∀ i, i < m.length → (m.getD i []).length = m.length
def tab (n : Nat) (f : Nat → Nat → Rat) : List (List Rat) := (List.range n).map fun i => (List.range n).map fun j => f i j
theorem tab_len (n : Nat) (f : Nat → Nat → Rat) : (tab n f).length = n := by simp [tab]
theorem tab_row {n : Nat} {f : Nat → Nat → Rat} {i : Nat} (h : i < n) : (tab n f).getD i [] = (List.range n).map fun j => f i j := by
  unfold tab
  rw [List.getD_eq_getElem?_getD, List.getElem?_map, List.getElem?_range h]
  rfl
def flip (m : List (List Rat)) : List (List Rat) := tab m.length fun i j => ent m j i
def spTRows (K : PySem.W.Frag) : Sp := fun vs H Q _ => ∃ (a : Addr) (m : List (List Rat)), vs = [.ref a] ∧ TabAt K H a m ∧ ∀ p H' rs, H p = none → Same H H' → H' p = some (.lst rs) → Rows K H' rs m → Q (.ref p) H'
def spTLen (K : PySem.W.Frag) : Sp := fun vs H Q _ => ∃ (a : Addr) (m : List (List Rat)), vs = [.ref a] ∧ TabAt K H a m ∧ Q (.int m.length) H
def spTMir (K : PySem.W.Frag) : Sp := fun vs H Q _ => ∃ (a : Addr) (m : List (List Rat)), vs = [.ref a] ∧ TabAt K H a m ∧ Sqr m ∧ ∀ p H', H p = none → Same H H' → TabAt K H' p (flip m) → Q (.ref p) H'
/-- the tuples' addresses -/
theorem rows_refs {K : PySem.W.Frag} {H : Hp} : ∀ {rs : List V}, (∀ v ∈ rs, ∃ a ws, v = V.ref a ∧ H a = some (.tup ws)) → ∃ as : List Addr, rs = as.map V.ref
  | [], _ => ⟨[], rfl⟩
  | v :: rs, h => by
    obtain ⟨a, ws, rfl, _⟩ := h v List.mem_cons_self
    obtain ⟨as, rfl⟩ := rows_refs (K := K) (H := H) (rs := rs) fun w hw => h w (List.mem_cons_of_mem _ hw)
    exact ⟨a :: as, rfl⟩
def colOf (H : Hp) (a : Addr) : List V := match H a with
  | some (.tup ws) => ws
  | _ => []
section
variable {P : Program} {w : World} {K : PySem.W.Frag} {mg : Str → Option Value} {base : Heap}
end

end Fo

set_option maxHeartbeats 4100000
/-! a comprehension over zip(*e). -/
namespace FoU
open PySem PySem.Spec PyProof.Rows L2
theorem lc_zn {K : PySem.W.Frag} {l0 : Addr} {ls : List Addr} {n : Nat} {col : Addr → List V} {g : TG} {tt : TT} {te : TE} {vs : List Nat} {σ : L2.St} {H1 : Hp} {D : Addr} {Qd : Hp → Prop} (Pv : Nat → Hp → Prop) (h0 : Pv 0 (upd H1 D (.lst [])))
    (hq : ∀ i H, Pv i H → ∀ y ∈ l0 :: ls, (col y).length = n ∧ SqT K H y (col y))
    (hs : ∀ (i : Nat) (T : Addr) (vals : List V) (H : Hp), i < n → vals.length = (l0 :: ls).length → (∀ (j : Nat) (l : Addr) (u : V), (l0 :: ls)[j]? = some l → vals[j]? = some u → (col l)[i]? = some u) → Pv i H → H T = none →
      g (.ref T) (wipe σ vs) (upd H T (.tup vals)) fun σ2 H2 => wipe σ2 vs = wipe σ vs ∧ tt σ2 H2 fun b H3 =>
        if b = true then te σ2 H3 fun y H4 => ∃ acc, H4 D = some (.lst acc) ∧ acc.length < sizeLine ∧ Pv (i + 1) (upd H4 D (.lst (acc ++ [y]))) else Pv (i + 1) H3) (hd : ∀ H, Pv n H → Qd H) :
    ∃ W : Nat → Nat → Hp → Prop, (∃ m, W 0 m (upd H1 D (.lst []))) ∧ ∀ i m H, W i m H →
      ((Itn K (l0 :: ls)).stop i H ∧ Qd H) ∨ ((Itn K (l0 :: ls)).go i H ∧ ∃ Nx : Hp → Prop, (∀ H', Nx H' → ∃ m', m' < m ∧ W (i + 1) m' H') ∧ ∀ x H', (Itn K (l0 :: ls)).yld i H x H' → g x (wipe σ vs) H' fun σ2 H2 => wipe σ2 vs = wipe σ vs ∧ tt σ2 H2 fun b H3 =>
        if b = true then te σ2 H3 fun y H4 => ∃ acc, H4 D = some (.lst acc) ∧ acc.length < sizeLine ∧ Nx (upd H4 D (.lst (acc ++ [y]))) else Nx H3) := by
  refine ⟨fun i m H => m = n - i ∧ i ≤ n ∧ Pv i H, ⟨n, by simp, Nat.zero_le _, h0⟩, ?_⟩
  rintro i m H ⟨rfl, hi, p⟩
  have q := hq i H p
  by_cases hlt : i < n
  · refine .inr ⟨⟨(l0 :: ls).map fun l => ((col l)[i]?).getD .non, by rw [List.length_map], fun j l v e1 e2 => ?_⟩, Pv (i + 1), fun H' p' => ⟨n - (i + 1), by omega, rfl, hlt, p'⟩, fun x H' y => ?_⟩
    · obtain ⟨c1, c2⟩ := q l (List.mem_of_getElem? e1)
      rw [List.getElem?_map, e1] at e2
      cases e2
      refine ⟨col l, c2, ?_⟩
      have ei : (col l)[i]? = some ((col l)[i]'(by rw [c1]; exact hlt)) := List.getElem?_eq_getElem _
      dsimp only
      rw [ei]
      rfl
    · obtain ⟨T, vals, rfl, hT, rfl, hvl, hvc⟩ := y
      exact hs i T vals H hlt hvl (fun j l u e1 e2 => hvc j l u e1 e2 _ (q l (List.mem_of_getElem? e1)).2) p hT
  · have e : i = n := by omega
    subst e
    refine .inl ⟨fun l el => ?_, hd H p⟩
    obtain ⟨c1, c2⟩ := q l (List.mem_of_getElem? el)
    exact ⟨col l, c2, by rw [c1]; exact Nat.le_refl _⟩
end FoU

set_option maxHeartbeats 4100000
namespace Fo
open PySem PySem.Spec PyProof.Rows L2
/-! ### products of tables -/
/-- whole beams that are being put into the list at D, none of them resting on it -/
def WInv (f : Nat → List Rat) (H1 : Hp) (D : Addr) (i : Nat) (H : Hp) : Prop := Same H1 H ∧ ∃ ws, H D = some (.lst ws) ∧ ws.length = i ∧ ∀ (j : Nat) (v : V), ws[j]? = some v → ∃ p d, v = .ref p ∧ d ≠ D ∧ p ≠ D ∧ H p = some (.tup [.ref d, .int (FoQ.lcmD (f j))]) ∧ H d = some (.lst (intV (whole (FoQ.lcmD (f j)) (f j))))
theorem WInv.start {f : Nat → List Rat} {H1 : Hp} {D : Addr} (nD : H1 D = none) : WInv f H1 D 0 (upd H1 D (.lst [])) := ⟨Same.upd nD, [], upd_same, rfl, fun j v e => by simp at e⟩
theorem WInv.next {f : Nat → List Rat} {H1 H H4 : Hp} {D p d : Addr} {i : Nat} (h : WInv f H1 D i H) (nD : H1 D = none) (s : Same H H4) (np : H p = none) (nd : H d = none) (hp : H4 p = some (.tup [.ref d, .int (FoQ.lcmD (f i))])) (hd : H4 d = some (.lst (intV (whole (FoQ.lcmD (f i)) (f i))))) (hi : i < 1000) :
    ∃ acc, H4 D = some (.lst acc) ∧ acc.length < sizeLine ∧ WInv f H1 D (i + 1) (upd H4 D (.lst (acc ++ [V.ref p]))) := by
  obtain ⟨s1, ws, e, el, hw⟩ := h
  have pD : p ≠ D := fun z => by rw [z, e] at np; cases np
  have dD : d ≠ D := fun z => by rw [z, e] at nd; cases nd
  refine ⟨ws, s _ _ e, by rw [el, sizeLine_eq]; omega, same_set (s1.trans s) nD, _, upd_same, by rw [List.length_append, el]; rfl, fun j v ev => ?_⟩
  rw [List.getElem?_append] at ev
  split at ev
  · obtain ⟨p1, d1, e1, n1, n2, g1, g2⟩ := hw j v ev
    exact ⟨p1, d1, e1, n1, n2, by rw [upd_ne n2]; exact s _ _ g1, by rw [upd_ne n1]; exact s _ _ g2⟩
  · have ej : j - ws.length = 0 := by
      cases q : j - ws.length with
      | zero => rfl
      | succ m =>
        rw [q] at ev
        simp at ev
    rw [ej] at ev
    cases ev
    have ej2 : j = i := by omega
    subst ej2
    exact ⟨p, d, rfl, dD, pD, by rw [upd_ne pD]; exact hp, by rw [upd_ne dD]; exact hd⟩
def spChk (K : PySem.W.Frag) : Sp := fun vs H Q _ => ∃ (a b : Addr) (m k : List (List Rat)), vs = [.ref a, .ref b] ∧ TabAt K H a m ∧ TabAt K H b k ∧ m.length = k.length ∧ m.length ≤ 100 ∧ Q .non H
section
variable {P : Program} {w : World} {K : PySem.W.Frag} {mg : Str → Option Value} {base : Heap}
end

end Fo

set_option maxHeartbeats 4100000
namespace Fo
open PySem PySem.Spec PyProof.Rows L2
/-! ### the product -/
def colm (k : List (List Rat)) (j : Nat) : List Rat := (List.range k.length).map fun i => ent k i j
def AllE (n : Nat) (m : List (List Rat)) : Prop := ∀ i, AllSz n (m.getD i [])
def tmul (m k : List (List Rat)) : List (List Rat) := tab m.length fun i j => dotQ (m.getD i []) (colm k j) m.length
theorem colm_sz {n : Nat} {k : List (List Rat)} (h : AllE n k) (n0 : 0 < n) (j : Nat) : AllSz n (colm k j) := fun i => by
  unfold colm
  rw [FoQ.co_map]
  split
  · exact h i j
  · exact FoQ.SzR.zero n0
/-- lists of Ratios that are being put into the list at D -/
def GInv (K : PySem.W.Frag) (f : Nat → List Rat) (H1 : Hp) (D : Addr) (i : Nat) (H : Hp) : Prop := Same H1 H ∧ ∃ ws, H D = some (.lst ws) ∧ ws.length = i ∧ ∀ (j : Nat) (v : V), ws[j]? = some v → ∃ q us, v = .ref q ∧ q ≠ D ∧ H q = some (.lst us) ∧ Ls (Rr K) H us (f j)
theorem GInv.start {K : PySem.W.Frag} {f : Nat → List Rat} {H1 : Hp} {D : Addr} (nD : H1 D = none) : GInv K f H1 D 0 (upd H1 D (.lst [])) := ⟨Same.upd nD, [], upd_same, rfl, fun j v e => by simp at e⟩
theorem GInv.next {K : PySem.W.Frag} {f : Nat → List Rat} {H1 H H4 : Hp} {D q : Addr} {us : List V} {i : Nat} (h : GInv K f H1 D i H) (nD : H1 D = none) (s : Same H H4) (nq : H q = none) (hq : H4 q = some (.lst us)) (hu : Ls (Rr K) H4 us (f i)) (hi : i < 1000) :
    ∃ acc, H4 D = some (.lst acc) ∧ acc.length < sizeLine ∧ GInv K f H1 D (i + 1) (upd H4 D (.lst (acc ++ [V.ref q]))) := by
  obtain ⟨s1, ws, e, el, hw⟩ := h
  have qD : q ≠ D := fun z => by rw [z, e] at nq; cases nq
  refine ⟨ws, s _ _ e, by rw [el, sizeLine_eq]; omega, same_set (s1.trans s) nD, _, upd_same, by rw [List.length_append, el]; rfl, fun j v ev => ?_⟩
  have nl : NLst H4 (upd H4 D (.lst (ws ++ [V.ref q]))) := nl_upd (s _ _ e)
  rw [List.getElem?_append] at ev
  split at ev
  · obtain ⟨q1, us1, e1, n1, g1, g2⟩ := hw j v ev
    exact ⟨q1, us1, e1, n1, by rw [upd_ne n1]; exact s _ _ g1, (g2.nl rr_solid (same_nl s)).nl rr_solid nl⟩
  · have ej : j - ws.length = 0 := by
      cases q : j - ws.length with
      | zero => rfl
      | succ m =>
        rw [q] at ev
        simp at ev
    rw [ej] at ev
    cases ev
    have ej2 : j = i := by omega
    subst ej2
    exact ⟨q, us, rfl, qD, by rw [upd_ne qD]; exact hq, hu.nl rr_solid nl⟩
/-- rows and columns whose numbers have no great bottom in common -/
def RB (m : List (List Rat)) : Prop := ∀ i, Bd (m.getD i [])
def CB (k : List (List Rat)) : Prop := ∀ j, Bd (colm k j)
def spTMul (K : PySem.W.Frag) : Sp := fun vs H Q _ => ∃ (a b : Addr) (m k : List (List Rat)), vs = [.ref a, .ref b] ∧ TabAt K H a m ∧ TabAt K H b k ∧ Sqr m ∧ Sqr k ∧ m.length = k.length ∧ RB m ∧ CB k ∧
  ∀ p H', H p = none → Same H H' → TabAt K H' p (tmul m k) → Q (.ref p) H'
def spT2 (K : PySem.W.Frag) (f : List (List Rat) → List (List Rat) → List (List Rat)) : Sp := fun vs H Q _ => ∃ (a b : Addr) (m k : List (List Rat)), vs = [.ref a, .ref b] ∧ TabAt K H a m ∧ TabAt K H b k ∧ Sqr m ∧ Sqr k ∧ m.length = k.length ∧ AllE 1900 m ∧ AllE 1900 k ∧
  ∀ p H', H p = none → Same H H' → TabAt K H' p (f m k) → Q (.ref p) H'
section
variable {P : Program} {w : World} {K : PySem.W.Frag} {mg : Str → Option Value} {base : Heap}
end

end Fo

set_option maxHeartbeats 4100000
namespace Fo
open PySem PySem.Spec PyProof.Rows L2
/-! ### sums of tables -/
theorem LInv.nextB {R : Nat → Hp → V → Prop} {H1 H H4 : Hp} {D : Addr} {i : Nat} {v : V} (h : LInv R H1 D i H) (hs : ∀ (j : Nat) {G G' : Hp} {acc : List V} {u : V}, G D = some (.lst acc) → But D G G' → R j G u → R j G' u) (nD : H1 D = none) (s : Same H H4) (hv : R i H4 v) (hi : i < 100000) :
    ∃ acc, H4 D = some (.lst acc) ∧ acc.length < sizeLine ∧ LInv R H1 D (i + 1) (upd H4 D (.lst (acc ++ [v]))) := by
  obtain ⟨s1, ws, e, el, hw⟩ := h
  have e4 := s _ _ e
  refine ⟨ws, e4, by rw [el, sizeLine_eq]; omega, same_set (s1.trans s) nD, ws ++ [v], upd_same, by simp [el], fun j u q => ?_⟩
  rw [List.getElem?_append] at q
  split at q
  · exact hs j e4 But.upd (hs j e (But.of_same s) (hw j u q))
  · rename_i hj
    have ej : j = i := by
      cases q1 : j - ws.length with
      | zero => omega
      | succ n =>
        rw [q1] at q
        simp at q
    subst ej
    rw [← el, Nat.sub_self] at q
    cases q
    exact hs _ e4 But.upd hv
/-- at q: a new list of pairs of Ratios -/
def PairsAt (K : PySem.W.Frag) (H : Hp) (q : Addr) (l k : List Rat) : Prop := ∃ ws, H q = some (.lst ws) ∧ ws.length = l.length ∧ ∀ (j : Nat) (v : V), ws[j]? = some v → ∃ t x y, v = .ref t ∧ H t = some (.tup [x, y]) ∧ Rr K (FoQ.co l j) H x ∧ Rr K (FoQ.co k j) H y
theorem PairsAt.but {K : PySem.W.Frag} {G G' : Hp} {D q : Addr} {acc : List V} {l k : List Rat} (h : PairsAt K G q l k) (hD : G D = some (.lst acc)) (b : But D G G') (n : q ≠ D) : PairsAt K G' q l k := by
  obtain ⟨ws, e, el, hw⟩ := h
  have s := NLst.but hD b
  refine ⟨ws, b _ _ e n, el, fun j v ev => ?_⟩
  obtain ⟨t, x, y, e1, e2, e3, e4⟩ := hw j v ev
  exact ⟨t, x, y, e1, s _ _ e2 (fun xs z => by cases z), rr_solid _ s e3, rr_solid _ s e4⟩
theorem PairsAt.same {K : PySem.W.Frag} {G G' : Hp} {q : Addr} {l k : List Rat} (h : PairsAt K G q l k) (s : Same G G') : PairsAt K G' q l k := by
  obtain ⟨ws, e, el, hw⟩ := h
  refine ⟨ws, s _ _ e, el, fun j v ev => ?_⟩
  obtain ⟨t, x, y, e1, e2, e3, e4⟩ := hw j v ev
  exact ⟨t, x, y, e1, s _ _ e2, rr_solid _ (same_nl s) e3, rr_solid _ (same_nl s) e4⟩
def RowsP (K : PySem.W.Frag) (m k : List (List Rat)) (D : Addr) (j : Nat) (H : Hp) (v : V) : Prop := ∃ q, v = .ref q ∧ q ≠ D ∧ PairsAt K H q (m.getD j []) (k.getD j [])
def spBoth (K : PySem.W.Frag) : Sp := fun vs H Q _ => ∃ (a b : Addr) (m k : List (List Rat)), vs = [.ref a, .ref b] ∧ TabAt K H a m ∧ TabAt K H b k ∧ Sqr m ∧ Sqr k ∧ m.length = k.length ∧
  ∀ p H' ws, H p = none → Same H H' → H' p = some (.lst ws) → ws.length = m.length → (∀ (j : Nat) (v : V), ws[j]? = some v → RowsP K m k p j H' v) → Q (.ref p) H'
section
variable {P : Program} {w : World} {K : PySem.W.Frag} {mg : Str → Option Value} {base : Heap}
end

end Fo

set_option maxHeartbeats 4100000
namespace Fo
open PySem PySem.Spec PyProof.Rows L2
/-! ### sums, differences, traces -/
def tzip (f : Rat → Rat → Rat) (m k : List (List Rat)) : List (List Rat) := tab m.length fun i j => f (ent m i j) (ent k i j)
section
variable {P : Program} {w : World} {K : PySem.W.Frag} {mg : Str → Option Value} {base : Heap}
end

end Fo

set_option maxHeartbeats 4100000
/-! An operator by an own method that raises, what is raised wished for at the caller's slots. -/
namespace FoS
open PySem PySem.Spec PyProof.Rows L2
section
variable {X : Cx} {CX : CXT} {k : Nat} {f C : Addr} {fd : FuncData} {ps : List Str} {sp : Sp} {E : L2.St → XK} {op : Operator} {a b : Expr} {ta tb : TE} {pos : Pos}
def tOpS (C : Addr) (sp : Sp) (E : L2.St → XK) (ta tb : TE) : TE := fun σ H Q => ta σ H fun x H1 => tb σ H1 fun y H2 => ∃ a dx fs b dy gs, x = .ref a ∧ H2 a = some (.ins C dx fs) ∧ y = .ref b ∧ H2 b = some (.ins C dy gs) ∧ sp [x, y] H2 Q (E σ)
theorem pe_opS (F : FnOk X.prog X.w X.K X.mg X.base CX k f fd ps sp) (hr : Room k X.A) (hb : Binds X.K fd ps []) (hx : ∀ τ, PassesAt CX X τ (E τ)) (B : FoA.BinC X.K C f op) (ha : PE X a ta) (hb2 : PE X b tb) :
    PE X (.BinOp a op b pos) (tOpS C sp E ta tb) := by
  refine ⟨fun pins s σ H Q I h => ?_⟩
  refine wpAny_BinOp (binT ha hb2 I h fun v u s2 x y H2 I2 rx ry q => ?_)
  obtain ⟨a1, dx, fs, b1, dy, gs, rfl, ea, rfl, eb, q⟩ := q
  have rx' := rx
  have ry' := ry
  cases rx
  cases ry
  obtain ⟨mA, J, _⟩ := ins_get I2.hok ea
  obtain ⟨od, J, _⟩ := J.look
  obtain ⟨mB, J', _⟩ := ins_get I2.hok eb
  obtain ⟨od', J', _⟩ := J'.look
  obtain ⟨m, hF⟩ := I2.fr
  have call := run_fnS (us := [.ref a1, .ref b1]) (vs := [.ref a1, .ref b1]) F hr hb (hx σ) I2 (.cons rfl (.cons rfl .nil)) q
  have back := wpAny_mono call (fun r s' z => FoA.back_ok z) fun _ _ e => e
  exact PySem.W.binop_K hF I2.ok.mod.kin J J'.type B.sf B.at_ B.fn back
end
/-- nothing is raised -/
theorem passAt0 {X : Cx} {σ : L2.St} {E : XK} : PassesAt CX0 X σ E := fun _ _ _ _ _ _ h => h.elim
/-- a text times a number -/
theorem op_mulS {X : Cx} : OpR X (binaryOp .Mult) (fun x y H Q => ∃ (z : Str) (k : Int), x = .str z ∧ y = .int k ∧ z.length ≤ 16 ∧ 0 ≤ k ∧ k ≤ 1048576 ∧ ∀ z', Q (.str z') H) := by
  intro pz s τ H x y v u Q I rx ry h
  obtain ⟨z, k, rfl, rfl, hz, h0, h1, q⟩ := h
  obtain ⟨t, rfl⟩ := rx
  obtain ⟨t', rfl⟩ := ry
  exact PySem.W.KXi.mul rfl hz (by omega) h1 fun t' k' _ _ => ⟨.str _, H, I.tok _, ⟨_, rfl⟩, q _⟩
end FoS

set_option maxHeartbeats 4100000
namespace Fo
open PySem PySem.Spec PyProof.Rows L2
/-! ### equality, the unit table -/
theorem eqWs_rr {X : Cx} {H : Hp} {n : Nat} {fd : FuncData} (F : FnOk X.prog X.w X.K X.mg X.base CX0 2 (He.ma X.K (RC X.K) "__eq__") fd ["self", "other"] (spEqQ X.K)) (hr : Room (2 + n) X.A) (hb : Binds X.K fd ["self", "other"] []) (B : FoA.CmpC X.K (RC X.K) (He.ma X.K (RC X.K) "__eq__") .Eq) :
    ∀ {ws us : List V} {l m : List Rat}, Ls (Rr X.K) H ws l → Ls (Rr X.K) H us m → FoG.EqWs X n H ws us (decide (l = m))
  | [], [], l, m, h, g => by
    have e1 : l = [] := List.length_eq_zero_iff.mp h.1.symm
    have e2 : m = [] := List.length_eq_zero_iff.mp g.1.symm
    subst e1 e2
    exact .nil
  | v :: ws, [], l, m, h, g => by
    have e2 : m = [] := List.length_eq_zero_iff.mp g.1.symm
    subst e2
    cases l with
    | nil => exact absurd h.1 (by simp)
    | cons x l => exact .left
  | [], u :: us, l, m, h, g => by
    have e2 : l = [] := List.length_eq_zero_iff.mp h.1.symm
    subst e2
    cases m with
    | nil => exact absurd g.1 (by simp)
    | cons x l => exact .right
  | v :: ws, u :: us, [], m, h, g => absurd h.1 (by simp)
  | v :: ws, u :: us, x :: l, [], h, g => absurd g.1 (by simp)
  | v :: ws, u :: us, x :: l, z :: m, h, g => by
    obtain ⟨a, rfl, ha⟩ := h.2 0 v rfl
    obtain ⟨b, rfl, hb'⟩ := g.2 0 u rfl
    rw [FoQ.co_zero] at ha hb'
    have t := eqWs_rr F hr hb B (ws := ws) (us := us) (l := l) (m := m) ⟨by have := h.1; simpa using this, fun i w e => by have := h.2 (i + 1) w e; rwa [FoQ.co_succ] at this⟩ ⟨by have := g.1; simpa using this, fun i w e => by have := g.2 (i + 1) w e; rwa [FoQ.co_succ] at this⟩
    obtain ⟨d1, h1⟩ := id ha
    obtain ⟨d2, h2⟩ := id hb'
    have hd : FoG.EqW X n H (.ref a) (.ref b) (decide (x = z)) := FoG.eqW_own (E := E0) F hr hb pass0 B h1 h2 (fun e => by
      subst e
      rw [h1] at h2
      injection h2 with h2
      injection h2 with _ _ w
      have e1 : x.num = z.num := by
        have := rf_top x.num x.den
        rw [w, rf_top] at this
        exact (V.int.inj (Option.some.inj this)).symm
      have e2 : (x.den : Int) = z.den := by
        have := rf_bot x.num x.den
        rw [w, rf_bot] at this
        exact (V.int.inj (Option.some.inj this)).symm
      exact decide_eq_true ((FoQ.q_eq_iff x z).mp ⟨e1, e2⟩)) ⟨a, .ref b, x, rfl, ha, .inl ⟨z, hb'.nm, rfl, rfl⟩⟩
    have e : decide (x :: l = z :: m) = (decide (x = z) && decide (l = m)) := by
      by_cases e1 : x = z <;> by_cases e2 : l = m <;> simp [e1, e2]
    rw [e]
    exact .cons hd t
theorem rt_inj {K : PySem.W.Frag} {H : Hp} {a : Addr} {x z : Rat} (ha : RtAt K H a x) (hb : RtAt K H a z) : x = z := by
  obtain ⟨d1, h1⟩ := ha
  obtain ⟨d2, h2⟩ := hb
  rw [h1] at h2
  injection h2 with h2
  injection h2 with _ _ w
  have e1 : x.num = z.num := by
    have := rf_top x.num x.den
    rw [w, rf_top] at this
    exact (V.int.inj (Option.some.inj this)).symm
  have e2 : (x.den : Int) = z.den := by
    have := rf_bot x.num x.den
    rw [w, rf_bot] at this
    exact (V.int.inj (Option.some.inj this)).symm
  exact (FoQ.q_eq_iff x z).mp ⟨e1, e2⟩
theorem co_ext {l m : List Rat} (h : l.length = m.length) (g : ∀ i, i < l.length → FoQ.co l i = FoQ.co m i) : l = m := by
  refine List.ext_getElem? fun i => ?_
  by_cases c : i < l.length
  · have e := g i c
    unfold FoQ.co at e
    rw [List.getD_eq_getElem?_getD, List.getD_eq_getElem?_getD, List.getElem?_eq_getElem c, List.getElem?_eq_getElem (by omega)] at e
    rw [List.getElem?_eq_getElem c, List.getElem?_eq_getElem (by omega)]
    exact congrArg some e
  · rw [List.getElem?_eq_none (by omega), List.getElem?_eq_none (by omega)]
theorem ls_inj {K : PySem.W.Frag} {H : Hp} {ws : List V} {l m : List Rat} (h : Ls (Rr K) H ws l) (g : Ls (Rr K) H ws m) : l = m := by
  refine co_ext (h.1.symm.trans g.1) fun i hi => ?_
  obtain ⟨v, ev, a, rfl, ha⟩ := h.at_ hi
  obtain ⟨b, e, hb⟩ := g.2 i _ ev
  cases e
  exact rt_inj ha hb
theorem Rows.tl {K : PySem.W.Frag} {H : Hp} {v : V} {rs : List V} {l : List Rat} {m : List (List Rat)} (h : Rows K H (v :: rs) (l :: m)) : Rows K H rs m := ⟨by have := h.1; simpa using this, fun i w e => h.2 (i + 1) w e⟩
theorem eqWs_rows {X : Cx} {H : Hp} {n : Nat} {fd : FuncData} (F : FnOk X.prog X.w X.K X.mg X.base CX0 2 (He.ma X.K (RC X.K) "__eq__") fd ["self", "other"] (spEqQ X.K)) (hr : Room (2 + (n + 1)) X.A) (hb : Binds X.K fd ["self", "other"] []) (B : FoA.CmpC X.K (RC X.K) (He.ma X.K (RC X.K) "__eq__") .Eq) :
    ∀ {rs us : List V} {m k : List (List Rat)}, Rows X.K H rs m → Rows X.K H us k → FoG.EqWs X n H rs us (decide (m = k))
  | [], [], m, k, h, g => by
    have e1 : m = [] := List.length_eq_zero_iff.mp h.1.symm
    have e2 : k = [] := List.length_eq_zero_iff.mp g.1.symm
    subst e1 e2
    exact .nil
  | v :: ws, [], m, k, h, g => by
    have e2 : k = [] := List.length_eq_zero_iff.mp g.1.symm
    subst e2
    cases m with
    | nil => exact absurd h.1 (by simp)
    | cons x l => exact .left
  | [], u :: us, m, k, h, g => by
    have e2 : m = [] := List.length_eq_zero_iff.mp h.1.symm
    subst e2
    cases k with
    | nil => exact absurd g.1 (by simp)
    | cons x l => exact .right
  | v :: ws, u :: us, [], k, h, g => absurd h.1 (by simp)
  | v :: ws, u :: us, x :: l, [], h, g => absurd g.1 (by simp)
  | v :: ws, u :: us, x :: m, z :: k, h, g => by
    obtain ⟨a, w1, rfl, ha, L1⟩ := h.2 0 v rfl
    obtain ⟨b, w2, rfl, hb', L2⟩ := g.2 0 u rfl
    have t := eqWs_rows F hr hb B h.tl g.tl
    have hr1 : Room (2 + n + 1) X.A := hr
    have hd : FoG.EqW X n H (.ref a) (.ref b) (decide (x = z)) := FoG.eqW_tup (FoG.inN_room (k := 0) (n := n) (hr.mono (by omega))).units0 (SqT.of ha) (SqT.of hb') (eqWs_rr (n := n + 1) F hr hb B L1 L2) (fun e => by
      subst e
      rw [ha] at hb'
      cases hb'
      exact decide_eq_true (ls_inj L1 L2))
    have e : decide (x :: m = z :: k) = (decide (x = z) && decide (m = k)) := by
      by_cases e1 : x = z <;> by_cases e2 : m = k <;> simp [e1, e2]
    rw [e]
    exact .cons hd t
def spTEq (K : PySem.W.Frag) : Sp := fun vs H Q _ => ∃ (a : Addr) (y : V) (m : List (List Rat)), vs = [.ref a, y] ∧ TabAt K H a m ∧ ((∃ b k, y = .ref b ∧ TabAt K H b k ∧ Q (.bl (decide (m = k))) H))
def spREqT (K : PySem.W.Frag) : Sp := fun vs H Q _ => ∃ (a b : Addr) (r : Rat) (m : List (List Rat)), vs = [.ref a, .ref b] ∧ RtAt K H a r ∧ TabAt K H b m ∧ Q (.bl false) H
def spWholeT (K : PySem.W.Frag) : Sp := fun vs H Q _ => ∃ (b : Addr) (m : List (List Rat)), vs = [.ref b] ∧ TabAt K H b m ∧ Q (.bl false) H
def tunit (n : Nat) : List (List Rat) := tab n fun i j => if i = j then 1 else 0
def spTUnit (K : PySem.W.Frag) : Sp := fun vs H Q _ => ∃ (n : Nat), vs = [.ref (TC K), .int n] ∧ n ≤ 8 ∧ ∀ p H', H p = none → Same H H' → TabAt K H' p (tunit n) → Q (.ref p) H'
section
variable {P : Program} {w : World} {K : PySem.W.Frag} {mg : Str → Option Value} {base : Heap}
end

end Fo

set_option maxHeartbeats 4100000
namespace Fo
open PySem PySem.Spec PyProof.Rows L2
/-! ### numbers over one bottom -/
/-- the numbers over one bottom N, all below 2 ^ B -/
def CD (B : Nat) (l : List Rat) : Prop := ∃ N : Nat, 0 < N ∧ N < 2 ^ B ∧ ∀ i, ∃ z : Int, z.natAbs < 2 ^ B ∧ FoQ.co l i * (N : Rat) = (z : Rat)
def CDT (B : Nat) (m : List (List Rat)) : Prop := ∃ N : Nat, 0 < N ∧ N < 2 ^ B ∧ ∀ i j, ∃ z : Int, z.natAbs < 2 ^ B ∧ ent m i j * (N : Rat) = (z : Rat)
theorem natq_ne {N : Nat} (h : 0 < N) : (N : Rat) ≠ 0 := fun c => by
  have : N = 0 := by exact_mod_cast c
  omega
theorem of_bot {r : Rat} {N : Nat} {z : Int} (h : 0 < N) (e : r * (N : Rat) = (z : Rat)) : r = Rat.divInt z (N : Int) := by
  have n0 := natq_ne h
  have e2 : Rat.divInt z (N : Int) = (z : Rat) / (N : Rat) := by
    rw [Rat.divInt_eq_div]
    rfl
  rw [e2, ← e]
  rw [Rat.mul_div_cancel n0]
theorem sz_of_bot {r : Rat} {N : Nat} {z : Int} {B : Nat} (h : 0 < N) (hN : N < 2 ^ B) (hz : z.natAbs < 2 ^ B) (e : r * (N : Rat) = (z : Rat)) : FoQ.SzR B r := by
  rw [of_bot h e]
  exact FoQ.SzR.divInt (by omega) hz (by unfold FoM.Sz; rw [Int.natAbs_natCast]; exact hN)
theorem den_bot {r : Rat} {N : Nat} {z : Int} (h : 0 < N) (e : r * (N : Rat) = (z : Rat)) : r.den ∣ N := by
  rw [of_bot h e]
  rw [Rat.den_divInt, if_neg (by omega), Int.natAbs_natCast]
  exact Nat.div_dvd_of_dvd (by
    have := Int.gcd_dvd_natAbs_left (a := (N : Int)) (b := z)
    rwa [Int.natAbs_natCast] at this)
theorem CD.mono {B C : Nat} {l : List Rat} (h : CD B l) (le : B ≤ C) : CD C l := by
  obtain ⟨N, h0, h1, h2⟩ := h
  have p := Nat.pow_le_pow_right (show 0 < 2 by decide) le
  exact ⟨N, h0, by omega, fun i => by obtain ⟨z, e1, e2⟩ := h2 i; exact ⟨z, by omega, e2⟩⟩
theorem CDT.mono {B C : Nat} {l : List (List Rat)} (h : CDT B l) (le : B ≤ C) : CDT C l := by
  obtain ⟨N, h0, h1, h2⟩ := h
  have p := Nat.pow_le_pow_right (show 0 < 2 by decide) le
  exact ⟨N, h0, by omega, fun i j => by obtain ⟨z, e1, e2⟩ := h2 i j; exact ⟨z, by omega, e2⟩⟩
theorem CD.sz {B : Nat} {l : List Rat} (h : CD B l) : AllSz B l := fun i => by
  obtain ⟨N, h0, h1, h2⟩ := h
  obtain ⟨z, e1, e2⟩ := h2 i
  exact sz_of_bot h0 h1 e1 e2
theorem CDT.sz {B : Nat} {m : List (List Rat)} (h : CDT B m) : AllE B m := fun i j => by
  obtain ⟨N, h0, h1, h2⟩ := h
  obtain ⟨z, e1, e2⟩ := h2 i j
  exact sz_of_bot h0 h1 e1 e2
theorem CD.bd {B : Nat} {l : List Rat} (h : CD B l) (le : B ≤ 800) : Bd l := by
  refine ⟨fun i => (h.sz i).mono le, fun i => ?_⟩
  obtain ⟨N, h0, h1, h2⟩ := h
  have dv : ∀ i, i ≤ l.length → FoQ.lcmD (l.take i) ∣ N := FoQ.lcmD_ind (p := fun x => x ∣ N) (Nat.one_dvd _) (fun i b hi hb => Nat.lcm_dvd hb (by obtain ⟨z, _, e2⟩ := h2 i; exact den_bot h0 e2))
  have p := Nat.pow_le_pow_right (show 0 < 2 by decide) le
  have d : FoQ.lcmD (l.take i) ∣ N := by
    by_cases c : i ≤ l.length
    · exact dv i c
    · rw [List.take_of_length_le (by omega)]
      have := dv l.length (Nat.le_refl _)
      rwa [List.take_length] at this
  have le2 := Nat.le_of_dvd h0 d
  unfold FoM.Sz
  rw [Int.natAbs_natCast]
  omega
theorem dot_bot {x y : List Rat} {N M : Nat} {B C : Nat} (hx : ∀ i, ∃ z : Int, z.natAbs < 2 ^ B ∧ FoQ.co x i * (N : Rat) = (z : Rat)) (hy : ∀ i, ∃ z : Int, z.natAbs < 2 ^ C ∧ FoQ.co y i * (M : Rat) = (z : Rat)) :
    ∀ k, ∃ z : Int, z.natAbs ≤ k * 2 ^ (B + C) ∧ dotQ x y k * ((N * M : Nat) : Rat) = (z : Rat)
  | 0 => ⟨0, by simp, by show (0 : Rat) * _ = _; rw [Rat.zero_mul]; rfl⟩
  | k + 1 => by
    obtain ⟨z, h1, h2⟩ := dot_bot hx hy k
    obtain ⟨u, u1, u2⟩ := hx k
    obtain ⟨v, v1, v2⟩ := hy k
    refine ⟨z + u * v, ?_, ?_⟩
    · have a1 : (u * v).natAbs < 2 ^ (B + C) := by
        rw [Int.natAbs_mul, Nat.pow_add]
        exact Nat.mul_lt_mul_of_lt_of_le u1 (by omega) (Nat.two_pow_pos C)
      have a2 := Int.natAbs_add_le z (u * v)
      rw [Nat.add_mul, Nat.one_mul]
      omega
    · show (dotQ x y k + FoQ.co x k * FoQ.co y k) * _ = _
      rw [Rat.intCast_add, Rat.intCast_mul, ← h2, ← u2, ← v2, Rat.natCast_mul]
      grind
/-- what a dot of such numbers is below -/
theorem CD.dot {x y : List Rat} {B C : Nat} (hx : CD B x) (hy : CD C y) {k : Nat} (hk : k ≤ 4) : FoQ.SzR (B + C + 3) (dotQ x y k) := by
  obtain ⟨N, n0, n1, n2⟩ := hx
  obtain ⟨M, m0, m1, m2⟩ := hy
  obtain ⟨z, z1, z2⟩ := dot_bot n2 m2 k
  have p : 2 ^ (B + C + 3) = 8 * 2 ^ (B + C) := by rw [Nat.pow_add]; omega
  have p2 : N * M < 2 ^ (B + C) := by
    rw [Nat.pow_add]
    exact Nat.mul_lt_mul_of_lt_of_le n1 (by omega) (Nat.two_pow_pos C)
  have p3 : k * 2 ^ (B + C) ≤ 4 * 2 ^ (B + C) := Nat.mul_le_mul_right _ hk
  have p4 := Nat.two_pow_pos (B + C)
  exact sz_of_bot (Nat.mul_pos n0 m0) (by omega) (by omega) z2
theorem getD_co {m : List (List Rat)} {i : Nat} : FoQ.co (m.getD i []) = ent m i := rfl

def SqN (n : Nat) (m : List (List Rat)) : Prop := m.length = n ∧ ∀ i, i < n → (m.getD i []).length = n

def isF (m : List (List Rat)) : Prop := m = flip m ∧ m = tmul m m
instance (m : List (List Rat)) : Decidable (isF m) := by unfold isF; infer_instance

/-! ### turned filters -/
/-- a sum of the first n -/
def sm (f : Nat → Rat) : Nat → Rat
  | 0 => 0
  | n + 1 => sm f n + f n
theorem sm_congr {f g : Nat → Rat} : ∀ n, (∀ c, c < n → f c = g c) → sm f n = sm g n
  | 0, _ => rfl
  | n + 1, h => by
    show sm f n + f n = sm g n + g n
    rw [sm_congr n fun c hc => h c (by omega), h n (by omega)]
theorem sm_add (f g : Nat → Rat) : ∀ n, sm (fun c => f c + g c) n = sm f n + sm g n
  | 0 => (Rat.zero_add 0).symm
  | n + 1 => by
    show sm _ n + (f n + g n) = (sm f n + f n) + (sm g n + g n)
    rw [sm_add f g n]
    grind
theorem sm_mul (f : Nat → Rat) (x : Rat) : ∀ n, sm (fun c => x * f c) n = x * sm f n
  | 0 => by show (0 : Rat) = x * 0; rw [Rat.mul_zero]
  | n + 1 => by
    show sm _ n + x * f n = x * (sm f n + f n)
    rw [sm_mul f x n]
    grind
theorem sm_zero : ∀ n, sm (fun _ => 0) n = 0
  | 0 => rfl
  | n + 1 => by
    show sm _ n + 0 = 0
    rw [sm_zero n, Rat.add_zero]
theorem sm_swap (f : Nat → Nat → Rat) (k : Nat) : ∀ n, sm (fun c => sm (fun d => f c d) k) n = sm (fun d => sm (fun c => f c d) n) k
  | 0 => by
    show (0 : Rat) = sm (fun d => 0) k
    rw [sm_zero]
  | n + 1 => by
    show sm _ n + sm (fun d => f n d) k = sm (fun d => sm (fun c => f c d) n + f n d) k
    rw [sm_swap f k n, sm_add]
def mM (n : Nat) (a b : Nat → Nat → Rat) : Nat → Nat → Rat := fun i j => sm (fun c => a i c * b c j) n
theorem mM_assoc (n : Nat) (a b e : Nat → Nat → Rat) (i j : Nat) : mM n (mM n a b) e i j = mM n a (mM n b e) i j := by
  show sm (fun c => sm (fun d => a i d * b d c) n * e c j) n = sm (fun d => a i d * sm (fun c => b d c * e c j) n) n
  have h1 : ∀ c, sm (fun d => a i d * b d c) n * e c j = sm (fun d => a i d * (b d c * e c j)) n := fun c => by
    rw [Rat.mul_comm, ← sm_mul]
    exact sm_congr n fun d _ => by grind
  have h2 : ∀ d, a i d * sm (fun c => b d c * e c j) n = sm (fun c => a i d * (b d c * e c j)) n := fun d => (sm_mul _ _ _).symm
  rw [sm_congr n (fun c _ => h1 c), sm_congr n (fun d _ => h2 d), sm_swap]
theorem mM_congr {n : Nat} {a b a' b' : Nat → Nat → Rat} {i j : Nat} (ha : ∀ c, c < n → a i c = a' i c) (hb : ∀ c, c < n → b c j = b' c j) : mM n a b i j = mM n a' b' i j := sm_congr n fun c hc => by rw [ha c hc, hb c hc]
theorem ent_tab {n : Nat} {f : Nat → Nat → Rat} {i j : Nat} (hi : i < n) (hj : j < n) : ent (tab n f) i j = f i j := by
  unfold ent
  rw [tab_row hi, FoQ.co_map, if_pos hj]
theorem dot_sm (x y : List Rat) : ∀ k, dotQ x y k = sm (fun c => FoQ.co x c * FoQ.co y c) k
  | 0 => rfl
  | k + 1 => by
    show dotQ x y k + _ = sm _ k + _
    rw [dot_sm x y k]
theorem tab_congr {n : Nat} {f g : Nat → Nat → Rat} (h : ∀ i j, i < n → j < n → f i j = g i j) : tab n f = tab n g := by
  unfold tab
  refine List.map_congr_left fun i hi => List.map_congr_left fun j hj => h i j (List.mem_range.mp hi) (List.mem_range.mp hj)
theorem SqN.tab (n : Nat) (f : Nat → Nat → Rat) : SqN n (Fo.tab n f) := ⟨tab_len _ _, fun i hi => by rw [tab_row hi]; simp⟩
theorem SqN.eta {n : Nat} {m : List (List Rat)} (h : SqN n m) : m = Fo.tab n (ent m) := by
  refine List.ext_getElem? fun i => ?_
  by_cases c : i < n
  · have h1 : i < m.length := by have := h.1; omega
    have e1 := h.2 i c
    rw [List.getD_eq_getElem?_getD, List.getElem?_eq_getElem h1] at e1
    have e1 : (m[i]).length = n := e1
    rw [List.getElem?_eq_getElem h1]
    have t2 := tab_row (f := ent m) c
    rw [List.getD_eq_getElem?_getD] at t2
    have l2 : i < (Fo.tab n (ent m)).length := by rw [tab_len]; exact c
    rw [List.getElem?_eq_getElem l2] at t2 ⊢
    have t2 : (Fo.tab n (ent m))[i] = (List.range n).map fun j => ent m i j := t2
    rw [t2]
    congr 1
    refine List.ext_getElem? fun j => ?_
    by_cases cj : j < n
    · rw [List.getElem?_eq_getElem (by omega), List.getElem?_map, List.getElem?_range cj]
      show _ = some (ent m i j)
      unfold ent FoQ.co
      rw [List.getD_eq_getElem?_getD, List.getD_eq_getElem?_getD, List.getElem?_eq_getElem h1]
      show _ = some ((m[i])[j]?.getD 0)
      rw [List.getElem?_eq_getElem (by omega)]
      rfl
    · rw [List.getElem?_eq_none (by omega), List.getElem?_eq_none (by simp; omega)]
  · rw [List.getElem?_eq_none (by have := h.1; omega), List.getElem?_eq_none (by rw [tab_len]; omega)]
theorem tmul_tab {n : Nat} {m k : List (List Rat)} (h : SqN n m) (g : SqN n k) : tmul m k = tab n (mM n (ent m) (ent k)) := by
  unfold tmul
  rw [h.1]
  refine tab_congr fun i j hi hj => ?_
  rw [dot_sm]
  refine sm_congr n fun c hc => ?_
  unfold colm
  rw [FoQ.co_map, if_pos (by have := g.1; omega)]
  rfl
theorem SqN.mul {n : Nat} {m k : List (List Rat)} (h : SqN n m) (g : SqN n k) : SqN n (tmul m k) := by
  rw [tmul_tab h g]
  exact SqN.tab _ _
theorem flip_tab {n : Nat} {m : List (List Rat)} (h : SqN n m) : Fo.flip m = tab n fun i j => ent m j i := by
  unfold Fo.flip
  rw [h.1]
theorem SqN.flip {n : Nat} {m : List (List Rat)} (h : SqN n m) : SqN n (Fo.flip m) := by
  rw [flip_tab h]
  exact SqN.tab _ _
theorem sm_pick (n c : Nat) (hc : c < n) (f : Nat → Rat) : sm (fun x => (if c = x then (1 : Rat) else 0) * f x) n = f c := by
  induction n with
  | zero => omega
  | succ n ih =>
    show sm _ n + (if c = n then (1 : Rat) else 0) * f n = f c
    by_cases e : c = n
    · subst e
      have z : sm (fun x => (if c = x then (1 : Rat) else 0) * f x) c = 0 := by
        rw [sm_congr c (g := fun _ => 0) fun x hx => by rw [if_neg (by omega), Rat.zero_mul]]
        exact sm_zero c
      rw [z, if_pos rfl, Rat.one_mul, Rat.zero_add]
    · rw [ih (by omega), if_neg e, Rat.zero_mul, Rat.add_zero]
theorem ent_out {n : Nat} {m : List (List Rat)} (h : SqN n m) {i j : Nat} (c : ¬ (i < n ∧ j < n)) : ent m i j = 0 := by
  unfold ent FoQ.co
  by_cases ci : i < n
  · have := h.2 i ci
    rw [List.getD_eq_getElem?_getD (l := m.getD i []), List.getElem?_eq_none (by omega)]
    rfl
  · have e0 : m.getD i [] = [] := by
      rw [List.getD_eq_getElem?_getD, List.getElem?_eq_none (by have := h.1; omega)]
      rfl
    rw [e0]
    simp
theorem CDT.flip {n B : Nat} {m : List (List Rat)} (h : CDT B m) (s : SqN n m) : CDT B (Fo.flip m) := by
  obtain ⟨N, n0, n1, n2⟩ := h
  refine ⟨N, n0, n1, fun i j => ?_⟩
  by_cases c : i < n ∧ j < n
  · rw [flip_tab s, ent_tab c.1 c.2]
    exact n2 j i
  · rw [ent_out s.flip c]
    exact ⟨0, Nat.two_pow_pos B, by rw [Rat.zero_mul]; rfl⟩
theorem CDT.mul {n A B : Nat} {m k : List (List Rat)} (h : CDT A m) (g : CDT B k) (s : SqN n m) (t : SqN n k) (n4 : n ≤ 4) : CDT (A + B + 3) (tmul m k) := by
  obtain ⟨N, n0, n1, n2⟩ := h
  obtain ⟨M, m0, m1, m2⟩ := g
  have p : 2 ^ (A + B + 3) = 8 * 2 ^ (A + B) := by rw [Nat.pow_add]; omega
  have p2 : N * M < 2 ^ (A + B) := by
    rw [Nat.pow_add]
    exact Nat.mul_lt_mul_of_lt_of_le n1 (by omega) (Nat.two_pow_pos B)
  have p4 := Nat.two_pow_pos (A + B)
  refine ⟨N * M, Nat.mul_pos n0 m0, by omega, fun i j => ?_⟩
  by_cases c : i < n ∧ j < n
  · have e : ent (tmul m k) i j = dotQ (m.getD i []) (colm k j) n := by
      unfold tmul
      rw [s.1, ent_tab c.1 c.2]
    have hy : ∀ x, ∃ z : Int, z.natAbs < 2 ^ B ∧ FoQ.co (colm k j) x * (M : Rat) = (z : Rat) := fun x => by
      unfold colm
      rw [FoQ.co_map]
      split
      · exact m2 x j
      · exact ⟨0, Nat.two_pow_pos B, by rw [Rat.zero_mul]; rfl⟩
    obtain ⟨z, z1, z2⟩ := dot_bot (x := m.getD i []) (y := colm k j) (N := N) (M := M) (B := A) (C := B) (fun x => n2 i x) hy n
    have p3 : n * 2 ^ (A + B) ≤ 4 * 2 ^ (A + B) := Nat.mul_le_mul_right _ n4
    exact ⟨z, by omega, by rw [e]; exact z2⟩
  · rw [ent_out (s.mul t) c]
    exact ⟨0, Nat.two_pow_pos _, by rw [Rat.zero_mul]; rfl⟩

end Fo

set_option maxHeartbeats 4100000
/-! A method without arguments whose exceptions are wished for at the caller's slots. -/
namespace FoC2
open PySem PySem.Spec PyProof.Rows L2
section
variable {X : Cx} {CX : CXT} {k : Nat} {f C : Addr} {fd : FuncData} {ps : List Str} {sp : Sp} {dvs : List V} {ds : List Value} {E : L2.St → XK} {m : Str} {pos apos : Pos} {o : Expr} {ta : TE}
theorem pe_methS0 {pl : Sem Bool} (he : PE X o ta) (c : Cls X.K C) (hm : Meth X.K C m f) (F : FnOk X.prog X.w X.K X.mg X.base CX k f fd ps sp) (hr : Room k X.A) (hb : Binds X.K fd ps ds) (hd : Vals dvs ds) (hx : ∀ τ, PassesAt CX X τ (E τ))
    (ht : eval (.Call (.Attribute o m apos) [] [] pos) X.env = (do
      let ov ← eval o X.env
      standAt apos.atName
      let (f, first) ← holding [ov] (getMethod ov m pl)
      callWith pos f first (backTo pos (starEach [] X.env)) (backToKw pos (keywordEach [] X.env))) := by rfl) :
    PE X (.Call (.Attribute o m apos) [] [] pos) (FoC.tMethS C m sp dvs E ta tNil) := by
  refine ⟨fun pz s τ H Q I h => ?_⟩
  refine PySem.W.methodCall_KW (pl := pl) (thn (he.run pz s τ H _ I h) fun u s1 ⟨x, H1, J1, rx, a, dx, fs, ex, ea, l, q⟩ => ?_) ht
  subst ex
  obtain rfl : u = Value.ref a := rx
  refine getmeth_ok J1 ea c hm l ?_
  exact PySem.W.callWith_K0 (first := [.ref a]) J1.kIn hm.kp (run_fnSD (us := [.ref a]) (vs := [.ref a]) F hr hb hd (hx τ) J1 (.cons rfl .nil) q)
end
end FoC2

set_option maxHeartbeats 4100000
/-! sorted(.., key=f) where the keys are whole numbers or texts: sorted and stable. -/
namespace FoSrt
open PySem PyProof.Rows Srt SrtO
section
variable {prog : Program} {w : World} {A : Around} {E : Value → Shared → Prop} {s : Shared} {lt : Keyed → Keyed → Bool} {Kr : Value → Value → Prop} {a : Addr} {vs : List Value} {f : Value} {R : PySem.Fin → Shared → Prop}
/-- the sorted pairs, in the order of their keys -/
def Done (lt : Keyed → Keyed → Bool) (Kr : Value → Value → Prop) (vs : List Value) (out : List Keyed) : Prop :=
  ∃ ks : List Value, ks.length = vs.length ∧ (∀ (i : Nat) (v k : Value), vs[i]? = some v → ks[i]? = some k → Kr v k) ∧ Srtd lt out ∧ Stb lt out (ks.zip vs)
theorem zip_kr {ks vs : List Value} (h : ∀ (i : Nat) (v k : Value), vs[i]? = some v → ks[i]? = some k → Kr v k) : ∀ p ∈ ks.zip vs, Kr p.2 p.1 := by
  intro p hp
  obtain ⟨i, hi, e⟩ := List.mem_iff_getElem.mp hp
  rw [List.getElem_zip] at e
  rw [List.length_zip] at hi
  rw [← e]
  exact h i _ _ (List.getElem?_eq_getElem (by omega)) (List.getElem?_eq_getElem (by omega))
theorem short_srt {l : List Keyed} (h : l.length < 2) : Srtd lt l := by
  match l, h with
  | [], _ => exact List.Pairwise.nil
  | [x], _ => exact List.pairwise_singleton _ _
  | _ :: _ :: l, h => exact absurd h (by simp)
theorem key_end {kS : Addr} {e1 e2 : Nat} {ks : List Value} (O : Swo lt) (na : s.heap.get? a = some (seqObj "list" #[] e1)) (nk : s.heap.get? kS = some (seqObj "list" ks.toArray e2)) (ne : kS ≠ a) (hz : vs.length ≤ 1000) (hl : ks.length = vs.length)
    (hr : ∀ (i : Nat) (v k : Value), vs[i]? = some v → ks[i]? = some k → Kr v k) (hk : 2 ≤ ks.length → keyKind' ks.toArray = pure oneType') (hc : Cmp prog w A s oneType' (fun p => Kr p.2 p.1) lt)
    (h : ∀ h' out c, (∀ b o, b ≠ a → b ≠ kS → s.heap.get? b = some o → h'.get? b = some o) → h'.get? a = some (seqObj "list" (out.map (·.2)).toArray c) → Done lt Kr vs out → R (.done (.ret .none)) { s with heap := h' }) :
    wpAny (model prog w) A (ksk_end a false vs.toArray e1 (.ref kS) ks.toArray) R E s := by
  have hzip : (ks.toArray.zip vs.toArray).toList = ks.zip vs := ksk_zip _ _
  have tail : ∀ st : SortSt, Srtd lt (arrOf st).toList → Stb lt (arrOf st).toList (ks.zip vs) → failedOf st = none → wpAny (model prog w) A (ksk_tail a false e1 (.ref kS) st) R E s := fun st h1 h2 h3 => by
    have hn := h2.len
    rw [List.length_zip, Array.length_toList] at hn
    have s1 := Heap.SameBut.update s.heap kS (Obj.mapSeq fun _ => (#[] : Array Value))
    have na1 := (s1.2 a (Ne.symm ne)).trans na
    have s2 := Heap.SameBut.update (s.heap.update kS (Obj.mapSeq fun _ => (#[] : Array Value))) a (Obj.mapSeq fun _ => (arrOf st).map (·.2))
    obtain ⟨c2, hc2⟩ : ∃ c2, ((s.heap.update kS (Obj.mapSeq fun _ => (#[] : Array Value))).update a (Obj.mapSeq fun _ => (arrOf st).map (·.2))).get? a = some (seqObj "list" ((arrOf st).map (·.2)) c2) := ⟨_, get?_update_seq na1 fun _ => (arrOf st).map (·.2)⟩
    unfold ksk_tail
    try dsimp only
    refine wpAny_bind (listUpdate_at nk rfl ?_ (by rw [List.size_toArray, sizeLine_eq]; omega) (Nat.zero_le _))
    refine wpAny_bind (wpAny_letGo ?_)
    refine wpAny_bind (seqEpoch_at na1 rfl ?_)
    refine wpAny_bind (listUpdate_at na1 rfl ?_ (Nat.zero_le _) (by simp only [Bool.false_eq_true, if_false, Array.size_map]; rw [sizeLine_eq]; omega))
    rw [h3]
    simp only [bne_self_eq_false, Bool.false_eq_true, if_false]
    refine wpAny_pure (h _ (arrOf st).toList c2 (fun b o b1 b2 e => (s2.2 b b1).trans ((s1.2 b b2).trans e)) ?_ ⟨ks, hl, hr, h1, h2⟩)
    rw [hc2]
    rw [show ((arrOf st).toList.map (fun x : Keyed => x.2)).toArray = (arrOf st).map (fun x : Keyed => x.2) from Array.ext' (by simp)]
  have step : ∀ t : Sem PySem.Fin, wpAny (model prog w) A t R E s → wpAny (model prog w) A (if false = true then (do let _ ← rule "list.sort.reverse"; t) else t) R E s := by
    intro t ht
    exact ht
  unfold ksk_end
  try dsimp only
  refine step _ ?_
  by_cases h2 : vs.toArray.size < 2
  · rw [if_pos h2, if_pos h2]
    refine wpAny_bind (wpAny_pure ?_)
    rw [StateT.run_pure]
    refine wpAny_bind (wpAny_pure ?_)
    try dsimp only
    rw [List.size_toArray] at h2
    refine tail (SortSt.mk' general' (ks.toArray.zip vs.toArray) #[] 7 none) ?_ ?_ rfl
    · show Srtd lt (ks.toArray.zip vs.toArray).toList
      rw [hzip]
      exact short_srt (by rw [List.length_zip]; omega)
    · show Stb lt (ks.toArray.zip vs.toArray).toList _
      rw [hzip]
      exact Stb.refl _
  · rw [if_neg h2, if_neg h2]
    rw [List.size_toArray] at h2
    rw [hk (by omega)]
    refine wpAny_bind (wpAny_pure ?_)
    refine wpAny_bind (wpAny_mono (wpS_sortO (st0 := SortSt.mk' oneType' (ks.toArray.zip vs.toArray) #[] 7 none)
      (Q := fun _ st' => Srtd lt (arrOf st').toList ∧ Stb lt (arrOf st').toList (ks.zip vs) ∧ failedOf st' = none) O hc rfl ?_ rfl rfl fun st' b1 b2 b3 => ⟨b1, by rw [← hzip]; exact b2, b3⟩) ?_ fun _ _ e => e)
    · show AllL _ (ks.toArray.zip vs.toArray).toList
      rw [hzip]
      exact zip_kr hr
    · rintro ⟨⟨⟩, st'⟩ s' ⟨rfl, g1, g2, g3⟩
      try dsimp only
      exact tail st' g1 g2 g3
theorem key_rest (O : Swo lt) (na : s.heap.get? a = some (seqObj "list" #[] e1)) (nk : s.heap.get? kS = some (seqObj "list" #[] 0)) (ne : kS ≠ a) (hz : vs.length ≤ 1000)
    (turn : ∀ (i : Nat) (v : Value), vs[i]? = some v → ∀ (h : Heap) (tk : Nat), wpAny (model prog w) A (call f [v]) (fun k s' => ∃ tk2, s' = { s with heap := h, toks := tk2 } ∧ Kr v k) (fun _ _ => False) { s with heap := h, toks := tk })
    (hk : ∀ ks : List Value, ks.length = vs.length → (∀ (i : Nat) (v k : Value), vs[i]? = some v → ks[i]? = some k → Kr v k) → 2 ≤ ks.length → keyKind' ks.toArray = pure oneType')
    (hc : ∀ (h : Heap) (tk : Nat), Cmp prog w A { s with heap := h, toks := tk } oneType' (fun p => Kr p.2 p.1) lt)
    (h : ∀ h' tk out c, (∀ b o, b ≠ a → b ≠ kS → s.heap.get? b = some o → h'.get? b = some o) → h'.get? a = some (seqObj "list" (out.map (·.2)).toArray c) → Done lt Kr vs out → R (.done (.ret .none)) { s with heap := h', toks := tk }) :
    wpAny (model prog w) A (ksk_rest a f false vs.toArray e1 (.ref kS)) R E s := by
  unfold ksk_rest
  refine wpAny_bind (wpAny_rule ?_)
  first
    | rw [List.forIn_toArray]
    | (rw [← Array.forIn_toList]; simp only [List.toList_toArray])
    | rw [← Array.forIn_toList]
  refine wpAny_bind (ksk_fold (fun i s' => ∃ (h' : Heap) (tk : Nat) (ks : List Value) (e : Nat), s' = { s with heap := h', toks := tk } ∧ (∀ b o, b ≠ kS → s.heap.get? b = some o → h'.get? b = some o) ∧ h'.get? kS = some (seqObj "list" ks.toArray e) ∧ ks.length = i ∧
      (∀ (i : Nat) (v k : Value), vs[i]? = some v → ks[i]? = some k → Kr v k)) vs 0 s
    ⟨s.heap, s.toks, [], 0, rfl, fun b o _ e => e, nk, rfl, fun i v k _ e => absurd e (by simp)⟩ ?step ?done)
  case step =>
    rintro j x s' hx ⟨h', tk, ks, e, rfl, keep, nk', hl, hr⟩
    simp only [Nat.zero_add] at hl ⊢
    have hj : j < vs.length := (List.getElem?_eq_some_iff.mp hx).1
    refine wpAny_bind (wpAny_attempt (wpAny_mono (turn j x hx h' tk) (fun v s'' he => ?_) fun _ _ hF => hF.elim))
    obtain ⟨tk2, rfl, hv⟩ := he
    try dsimp only
    have s1 := Heap.SameBut.update h' kS (Obj.mapSeq (·.push v))
    obtain ⟨c2, hc2⟩ : ∃ c2, (h'.update kS (Obj.mapSeq (·.push v))).get? kS = some (seqObj "list" (ks.toArray.push v) c2) := ⟨_, get?_update_seq nk' (·.push v)⟩
    refine wpAny_bind (listUpdate_at nk' rfl ?_ (by rw [List.size_toArray, sizeLine_eq]; omega) (Nat.le_trans (Nat.le_of_eq (Array.size_push ..)) (by rw [List.size_toArray, sizeLine_eq]; omega)))
    refine wpAny_pure ⟨rfl, _, _, ks ++ [v], c2, rfl, fun b o hb e => (s1.2 b hb).trans (keep b o hb e), ?_, by rw [List.length_append, hl]; rfl, fun i u k hu hk' => ?_⟩
    · rw [hc2]
      simp
    · by_cases hi : i < ks.length
      · rw [List.getElem?_append_left hi] at hk'
        exact hr i u k hu hk'
      · rw [List.getElem?_append_right (by omega)] at hk'
        have hi2 : i = j := by
          have := (List.getElem?_eq_some_iff.mp hk').1
          have z : ([v] : List Value).length = 1 := rfl
          omega
        subst hi2
        rw [hl, Nat.sub_self] at hk'
        cases hk'
        rw [hx] at hu
        cases hu
        exact hv
  case done =>
    rintro s' ⟨h', tk, ks, e, rfl, keep, nk', hl, hr⟩
    have hl' : ks.length = vs.length := by omega
    try dsimp only
    refine wpAny_bind (listItems_at nk' rfl ?_)
    exact key_end O ((keep _ _ (Ne.symm ne) na)) nk' ne hz hl' hr (fun h2 => hk ks hl' hr h2) (hc _ _) fun h3 out c k3 q3 d3 => h h3 tk out c (fun b o b1 b2 e => k3 b o b1 b2 (keep b o b2 e)) q3 d3
theorem key_tree {n : Nat} (O : Swo lt) (ho : s.heap.get? a = some (seqObj "list" vs.toArray n)) (hz : vs.length ≤ 1000)
    (turn : ∀ (i : Nat) (v : Value), vs[i]? = some v → ∀ (h : Heap) (tk : Nat), wpAny (model prog w) A (call f [v]) (fun k s' => ∃ tk2, s' = { s with heap := h, toks := tk2 } ∧ Kr v k) (fun _ _ => False) { s with heap := h, toks := tk })
    (hk : ∀ ks : List Value, ks.length = vs.length → (∀ (i : Nat) (v k : Value), vs[i]? = some v → ks[i]? = some k → Kr v k) → 2 ≤ ks.length → keyKind' ks.toArray = pure oneType')
    (hc : ∀ (h : Heap) (tk : Nat), Cmp prog w A { s with heap := h, toks := tk } oneType' (fun p => Kr p.2 p.1) lt)
    (h : ∀ h' tk out c, (∀ b o, b ≠ a → s.heap.get? b = some o → h'.get? b = some o) → h'.get? a = some (seqObj "list" (out.map (·.2)).toArray c) → Done lt Kr vs out → R (.done (.ret .none)) { s with heap := h', toks := tk }) :
    wpAny (model prog w) A (ksk_tree a f false) R E s := by
  have ha : a < s.heap.objs.size := Heap.lt_size ho
  have s1 := Heap.SameBut.update s.heap a (Obj.mapSeq fun _ => (#[] : Array Value))
  obtain ⟨e1, ho1⟩ : ∃ e1, (s.heap.update a (Obj.mapSeq fun _ => (#[] : Array Value))).get? a = some (seqObj "list" #[] e1) := ⟨_, get?_update_seq ho fun _ => #[]⟩
  have hkS : ((s.heap.update a (Obj.mapSeq fun _ => (#[] : Array Value))).push (seqObj "tuple" vs.toArray 0)).objs.size = s.heap.objs.size + 1 := by rw [size_push', Heap.size_update]
  unfold ksk_tree
  refine wpAny_bind (listItems_at ho rfl ?_)
  refine wpAny_bind (listUpdate_at ho rfl ?_ (by rw [List.size_toArray, sizeLine_eq]; omega) (Nat.zero_le _))
  refine wpAny_bind (seqEpoch_at ho1 rfl ?_)
  refine wpAny_bind (wpAny_newTuple ?_ (by show vs.length ≤ _; rw [sizeLine_eq]; omega))
  refine wpAny_bind (wpAny_newList ?_ (Nat.zero_le _))
  refine wpAny_holding ?_
  refine key_rest (s := { s with heap := ((s.heap.update a (Obj.mapSeq fun _ => (#[] : Array Value))).push (seqObj "tuple" vs.toArray 0)).push (seqObj "list" #[] 0) }) (kS := ((s.heap.update a (Obj.mapSeq fun _ => (#[] : Array Value))).push (seqObj "tuple" vs.toArray 0)).objs.size)
    O (Heap.get?_push_of_some _ (Heap.get?_push_of_some _ ho1)) (Heap.get?_push_size _ rfl) (by rw [hkS]; exact Nat.ne_of_gt (Nat.lt_succ_of_lt ha)) hz turn hk hc fun h' tk out c k1 q1 d1 => h h' tk out c (fun b o hb e => k1 b o hb ?_ ?_) q1 d1
  · rw [hkS]
    exact Nat.ne_of_lt (Nat.lt_succ_of_lt (Heap.lt_size e))
  · exact Heap.get?_push_of_some _ (Heap.get?_push_of_some _ ((s1.2 b hb).trans e))
end
end FoSrt

set_option maxHeartbeats 4100000
/-! sorted(e, key=len), sorted(e, key=str) of texts: lists, and dicts by their keys. -/
namespace FoSrt
open PySem PyProof.Rows Srt SrtO
/-- what is asked of a key, and the order that it gives among texts -/
structure KeyFn (prog : Program) (w : World) (f : Value) (ord : Str → Str → Bool) where
  Kr : Value → Value → Prop
  lt : Keyed → Keyed → Bool
  back : Str → Value
  swo : Swo lt
  tree : ∀ x : Addr, Builtin.«list.sort» ⟨[.ref x], [(Str.ofString "key", f)]⟩ = ksk_tree x f false
  turn : ∀ (A : Around) (x : Str) (t : Tok) (s : Shared), x.length ≤ 1000 → wpAny (model prog w) A (call f [.str x t]) (fun k s' => ∃ tk2, s' = { s with toks := tk2 } ∧ Kr (.str x t) k) (fun _ _ => False) s
  kind : ∀ ks : List Value, (∀ k ∈ ks, ∃ x t, Kr (.str x t) k) → 2 ≤ ks.length → keyKind' ks.toArray = pure oneType'
  cmp : ∀ (A : Around) (s : Shared), Cmp prog w A s oneType' (fun p => ∃ x t, p.2 = .str x t ∧ Kr (.str x t) p.1) lt
  rel : ∀ (k1 k2 u1 u2 : Value) (x1 x2 : Str) (t1 t2 : Tok), Kr (.str x1 t1) k1 → Kr (.str x2 t2) k2 → lt (k1, u1) (k2, u2) = ord x1 x2
  bk : ∀ x : Str, Kr (.str x 0) (back x)
section
variable {ord : Str → Str → Bool} {lt : Keyed → Keyed → Bool} {P : Keyed → Prop}
theorem srtd_strs (f : Keyed → Str) (hl : ∀ p q, P p → P q → lt p q = ord (f p) (f q)) {out : List Keyed} (hP : ∀ p ∈ out, P p) (h : Srtd lt out) : Srtd ord (out.map f) := by
  refine List.pairwise_map.mpr (List.Pairwise.imp_of_mem (fun {p q} hp hq e => ?_) h)
  rw [← hl q p (hP q hq) (hP p hp)]
  exact e
theorem stb_strs (f : Keyed → Str) (c : Str → Keyed) (hl : ∀ p q, P p → P q → lt p q = ord (f p) (f q)) (hc : ∀ x, P (c x) ∧ f (c x) = x) {out m : List Keyed} (hP : ∀ p ∈ m, P p) (h : Stb lt out m) : Stb ord (out.map f) (m.map f) := by
  refine ⟨h.perm.map f, fun x => ?_⟩
  have e : ∀ l : List Keyed, (∀ p ∈ l, P p) → (l.map f).filter (eqv ord x) = (l.filter (eqv lt (c x))).map f := by
    intro l hl2
    rw [List.filter_map]
    congr 1
    refine List.filter_congr fun p hp => ?_
    show eqv ord x (f p) = eqv lt (c x) p
    unfold eqv
    rw [hl _ _ (hc x).1 (hl2 p hp), hl _ _ (hl2 p hp) (hc x).1, (hc x).2]
  rw [e out fun p hp => hP p (h.perm.mem_iff.mp hp), e m hP, h.cls]
end
section
variable {prog : Program} {w : World} {A : Around} {E : Value → Shared → Prop} {s : Shared} {ord : Str → Str → Bool} {f : Value} {vs : List Value} {ss : List Str} {a : Addr} {R : PySem.Fin → Shared → Prop}
theorem strs_get {vs : List Value} {ss : List Str} (h : StrsAre vs ss) : ∀ {i : Nat} {v : Value}, vs[i]? = some v → ∃ x t, v = .str x t ∧ ss[i]? = some x := by
  intro i
  induction h generalizing i with
  | nil => intro v e; simp at e
  | cons x t r ih =>
    intro v e
    cases i with
    | zero => simp at e; exact ⟨x, t, e.symm, by simp⟩
    | succ i => exact ih (by simpa using e)
theorem strs_zip {vs : List Value} : ∀ {ks : List Value} {ss : List Str}, StrsAre vs ss → ks.length = vs.length → (ks.zip vs).map (fun p : Keyed => strOf p.2) = ss := by
  intro ks ss h
  induction h generalizing ks with
  | nil => intro _; simp
  | cons x t r ih =>
    intro hl
    cases ks with
    | nil => simp at hl
    | cons k ks =>
      rw [List.zip_cons_cons, List.map_cons, ih (by simpa using hl)]
      rfl
theorem str_out : ∀ {out : List Value}, (∀ v ∈ out, ∃ x t, v = Value.str x t) → StrsAre out (out.map strOf) := fun h => strsAre_map _ h
theorem sort_texts (F : KeyFn prog w f ord) {n : Nat} (ho : s.heap.get? a = some (seqObj "list" vs.toArray n)) (hS : StrsAre vs ss) (hz : vs.length ≤ 1000) (h1 : ∀ x ∈ ss, x.length ≤ 1000)
    (h : ∀ h' tk (out : List Value) (ys : List Str) c, (∀ b o, b ≠ a → s.heap.get? b = some o → h'.get? b = some o) → h'.get? a = some (seqObj "list" out.toArray c) → StrsAre out ys → Srtd ord ys → Stb ord ys ss → R (.done (.ret .none)) { s with heap := h', toks := tk }) :
    wpAny (model prog w) A (Builtin.«list.sort» ⟨[.ref a], [(Str.ofString "key", f)]⟩) R E s := by
  rw [F.tree]
  have KrS : ∀ (v k : Value), (∃ x t, v = Value.str x t ∧ F.Kr v k) → ∃ x t, v = Value.str x t ∧ F.Kr (.str x t) k := fun v k ⟨x, t, e, r⟩ => ⟨x, t, e, by rw [← e]; exact r⟩
  refine key_tree (lt := F.lt) (Kr := fun v k => ∃ x t, v = Value.str x t ∧ F.Kr (.str x t) k) F.swo ho hz (fun i v hv g tk => ?_) (fun ks hl hr h2 => ?_) (fun g tk => F.cmp _ _) fun h' tk out c k1 q1 d1 => ?_
  · obtain ⟨x, t, rfl, hx⟩ := strs_get hS hv
    refine wpAny_mono (F.turn A x t { s with heap := g, toks := tk } (h1 x (List.mem_of_getElem? hx))) (fun k s' z => ?_) fun _ _ e => e
    obtain ⟨tk2, rfl, r⟩ := z
    exact ⟨tk2, rfl, x, t, rfl, r⟩
  · refine F.kind ks (fun k hk => ?_) h2
    obtain ⟨i, hi, e⟩ := List.mem_iff_getElem.mp hk
    obtain ⟨x, t, e1, r⟩ := hr i _ k (List.getElem?_eq_getElem (by omega)) (by rw [List.getElem?_eq_getElem hi, e])
    exact ⟨x, t, r⟩
  · obtain ⟨ks, hl, hr, d2, d3⟩ := d1
    have hP : ∀ p ∈ ks.zip vs, ∃ x t, p.2 = Value.str x t ∧ F.Kr (.str x t) p.1 := zip_kr hr
    have hPo : ∀ p ∈ out, ∃ x t, p.2 = Value.str x t ∧ F.Kr (.str x t) p.1 := fun p hp => hP p (d3.perm.mem_iff.mp hp)
    have hrel : ∀ p q : Keyed, (∃ x t, p.2 = Value.str x t ∧ F.Kr (.str x t) p.1) → (∃ x t, q.2 = Value.str x t ∧ F.Kr (.str x t) q.1) → F.lt p q = ord (strOf p.2) (strOf q.2) := by
      rintro ⟨k1, u1⟩ ⟨k2, u2⟩ ⟨x1, t1, e1, r1⟩ ⟨x2, t2, e2, r2⟩
      dsimp only at e1 e2 r1 r2
      subst e1 e2
      exact F.rel _ _ _ _ _ _ _ _ r1 r2
    have z1 := srtd_strs (fun p : Keyed => strOf p.2) hrel hPo d2
    have z2 := stb_strs (fun p : Keyed => strOf p.2) (fun x => (F.back x, Value.str x 0)) hrel (fun x => ⟨⟨x, 0, rfl, F.bk x⟩, rfl⟩) hP d3
    rw [strs_zip hS hl] at z2
    refine h h' tk (out.map (·.2)) _ c k1 q1 (str_out fun v hv => ?_) (by rw [List.map_map]; exact z1) (by rw [List.map_map]; exact z2)
    obtain ⟨p, hp, rfl⟩ := List.mem_map.mp hv
    obtain ⟨x, t, e, _⟩ := hPo p hp
    exact ⟨x, t, e⟩
end
/-! ### the two keys -/
section
variable {prog : Program} {w : World}
def ordN (x y : Str) : Bool := decide (x.length < y.length)
def ordT (x y : Str) : Bool := decide (x.cps.toList < y.cps.toList)
theorem ints_all : ∀ ks : List Value, (∀ k ∈ ks, ∃ n t, k = Value.int n t) → IntsAre ks (ks.map iv) := fun ks h => ints_iv h
def keyLen : KeyFn prog w (.builtin "len") ordN where
  Kr v k := ∃ x t u, v = Value.str x t ∧ k = Value.int x.length u
  lt p q := decide (iv p.1 < iv q.1)
  back x := .int x.length 0
  swo := by
    refine ⟨fun x y h => ?_, fun x y z h1 h2 => ?_⟩
    · have a := of_decide_eq_true (p := iv x.1 < iv y.1) h
      exact decide_eq_false (p := iv y.1 < iv x.1) (by omega)
    · have a := of_decide_eq_false (p := iv y.1 < iv x.1) h1
      have b := of_decide_eq_false (p := iv z.1 < iv y.1) h2
      exact decide_eq_false (p := iv z.1 < iv x.1) (by omega)
  tree x := ksk_t4 "len" x
  turn A x t s hx := by
    exact len_str (by omega) ⟨_, rfl, x, t, _, rfl, rfl⟩
  kind ks h h2 := by
    have hI := ints_all ks (fun k hk => by
      obtain ⟨x, t, x2, t2, u, _, e⟩ := h k hk
      exact ⟨_, _, e⟩)
    match ks, hI, h2 with
    | v1 :: v2 :: rest, hI, _ => exact keyKind_ints hI
    | [], _, h => exact absurd h (by decide)
    | [v], _, h => exact absurd h (by simp)
  cmp A s := by
    rintro ⟨k1, u1⟩ ⟨k2, u2⟩ ⟨x1, t1, _, y1, s1, v1, _, e1⟩ ⟨x2, t2, _, y2, s2, v2, _, e2⟩
    dsimp only at e1 e2
    subst e1 e2
    show wpAny (model prog w) A (keyLt' oneType' (Value.int _ _) (Value.int _ _)) _ _ s
    rw [keyLt'_oneType]
    exact oneLt_int ⟨rfl, rfl⟩
  rel := by
    rintro k1 k2 u1 u2 x1 x2 t1 t2 ⟨y1, s1, v1, e1, rfl⟩ ⟨y2, s2, v2, e2, rfl⟩
    cases e1
    cases e2
    show decide ((x1.length : Int) < (x2.length : Int)) = decide (x1.length < x2.length)
    exact decide_eq_decide.mpr (by omega)
  bk x := ⟨x, 0, 0, rfl, rfl⟩
def keyStr : KeyFn prog w (.type "str") ordT where
  Kr v k := ∃ x t u, v = Value.str x t ∧ k = Value.str x u
  lt p q := decide ((strOf p.1).cps.toList < (strOf q.1).cps.toList)
  back x := .str x 0
  swo := by
    refine ⟨fun x y h => ?_, fun x y z h1 h2 => ?_⟩
    · exact decide_eq_false (List.lt_asymm (of_decide_eq_true h))
    · have a := List.not_lt.mp (of_decide_eq_false h1)
      have b := List.not_lt.mp (of_decide_eq_false h2)
      exact decide_eq_false (List.not_lt.mpr (List.le_trans a b))
  tree x := rfl
  turn A x t s hx := PySem.P.str_of_str ⟨_, rfl, x, t, _, rfl, rfl⟩
  kind ks h h2 := by
    have hI := strsAre_map ks (fun k hk => by
      obtain ⟨x, t, x2, t2, u, _, e⟩ := h k hk
      exact ⟨_, _, e⟩)
    match ks, hI, h2 with
    | v1 :: v2 :: rest, hI, _ => exact keyKind_strs hI
    | [], _, h => exact absurd h (by decide)
    | [v], _, h => exact absurd h (by simp)
  cmp A s := by
    rintro ⟨k1, u1⟩ ⟨k2, u2⟩ ⟨x1, t1, _, y1, s1, v1, _, e1⟩ ⟨x2, t2, _, y2, s2, v2, _, e2⟩
    dsimp only at e1 e2
    subst e1 e2
    show wpAny (model prog w) A (keyLt' oneType' (Value.str _ _) (Value.str _ _)) _ _ s
    rw [keyLt'_oneType]
    exact oneLt_str ⟨rfl, rfl⟩
  rel := by
    rintro k1 k2 u1 u2 x1 x2 t1 t2 ⟨y1, s1, v1, e1, rfl⟩ ⟨y2, s2, v2, e2, rfl⟩
    cases e1
    cases e2
    rfl
  bk x := ⟨x, 0, 0, rfl, rfl⟩
end
end FoSrt

set_option maxHeartbeats 4100000
namespace FoSrt
open PySem PyProof.Rows Srt SrtO
section
variable {prog : Program} {w : World} {A : Around} {E : Value → Shared → Prop} {s : Shared} {ord : Str → Str → Bool} {f : Value} {vs : List Value} {ss : List Str} {Q : Value → Shared → Prop}
/-- the part behind the collecting: a new list, sorted -/
theorem sorted_tail (F : KeyFn prog w f ord) (hS : StrsAre vs ss) (hz : vs.length ≤ 1000) (h1 : ∀ x ∈ ss, x.length ≤ 1000)
    (h : ∀ h' tk (out : List Value) (ys : List Str) c, (∀ b o, s.heap.get? b = some o → h'.get? b = some o) → h'.get? s.heap.objs.size = some (seqObj "list" out.toArray c) → StrsAre out ys → Srtd ord ys → Stb ord ys ss → Q (.ref s.heap.objs.size) { s with heap := h', toks := tk })
    {K : Value → Sem PySem.Fin} (hK : ∀ l s', Q l s' → wpAny (model prog w) A (K l) (fun r s'' => ∃ v, r = .done (.ret v) ∧ Q v s'') E s') (B : Around) :
    wpAny (model prog w) B (Builtin.«list.sort» ⟨[.ref s.heap.objs.size], [(Str.ofString "key", f)]⟩) (fun r s' => r = .done (.ret .none) ∧ Q (.ref s.heap.objs.size) s') E { s with heap := s.heap.push (seqObj "list" vs.toArray 0) } := by
  have hoL : (s.heap.push (seqObj "list" vs.toArray 0)).get? s.heap.objs.size = some (seqObj "list" vs.toArray 0) := Heap.get?_push_size _ rfl
  refine sort_texts (s := { s with heap := s.heap.push (seqObj "list" vs.toArray 0) }) F hoL hS hz h1 fun h' tk out ys c k1 q1 o1 o2 o3 => ⟨rfl, h h' tk out ys c (fun b o e => k1 b o (Nat.ne_of_lt (Heap.lt_size e)) (Heap.get?_push_of_some _ e)) q1 o1 o2 o3⟩
end
end FoSrt
namespace L2
open PySem PySem.Spec PyProof.Rows
/-- where the texts come from: a list of them, or a dict's keys -/
def SrcT (K : PySem.W.Frag) (H : Hp) (a : Addr) (ss : List Str) : Prop := SqL K H a (ss.map V.str) ∨ ∃ kvs : List (Key × V), Rd H a (.dK kvs) ∧ kvs.map (·.1) = ss.map Sum.inr
def tSortK (K : PySem.W.Frag) (ord : Str → Str → Bool) (t : TA) : TE := fun σ H Q => t σ H fun vs H1 => ∃ (a : Addr) (ss : List Str), vs = [.ref a] ∧ SrcT K H1 a ss ∧ ss.length ≤ 1000 ∧ (∀ x ∈ ss, x.length ≤ 1000) ∧
  ∀ ys p, SrtO.Srtd ord ys → SrtO.Stb ord ys ss → H1 p = none → Q (.ref p) (upd H1 p (.lst (ys.map V.str)))
section
variable {X : Cx} {ord : Str → Str → Bool} {f : Value}
theorem sortedK_run (hcalm : X.calm = true) (F : FoSrt.KeyFn X.prog X.w f ord) {pins : List (Addr × Obj)} {s : Shared} {σ : St} {H : Hp} {a : Addr} {ss : List Str} {Q : VK} (I : Inv X pins σ H s) (hs : SrcT X.K H a ss) (hz : ss.length ≤ 1000) (h1 : ∀ x ∈ ss, x.length ≤ 1000)
    (q : ∀ ys p, SrtO.Srtd ord ys → SrtO.Stb ord ys ss → H p = none → Q (.ref p) (upd H p (.lst (ys.map V.str)))) : wpAny (model X.prog X.w) X.A (call (.builtin "sorted") [.ref a] [(Str.ofString "key", f)]) (EP X pins σ Q) X.xe s := by
  have fin : ∀ (B : Around) (h0 : Heap) (tk0 : Nat) (acc : List Value), Inv X pins σ H { s with heap := h0, toks := tk0 } → StrsAre acc ss →
      wpAny (model X.prog X.w) B (Builtin.«list.sort» ⟨[.ref h0.objs.size], [(Str.ofString "key", f)]⟩) (fun r s' => r = .done (.ret .none) ∧ EP X pins σ Q (.ref h0.objs.size) s') X.xe { s with heap := h0.push (seqObj "list" acc.toArray 0), toks := tk0 } := by
    intro B h0 tk0 acc I0 hS
    have hl : acc.length = ss.length := hS.length
    refine wpAny_mono (FoSrt.sorted_tail (A := B) (s := { s with heap := h0, toks := tk0 }) (E := X.xe) (Q := fun v s' => EP X pins σ Q v s') F hS (by rw [hl]; exact hz) h1 (fun h' tk out ys c k1 q1 o1 o2 o3 => ?_) (K := fun l => pure (.done (.ret l))) (fun l s' z => wpAny_pure ⟨l, rfl, z⟩) B) (fun r s' z => z) fun _ _ e => e
    have ly : ys.length = ss.length := o3.len
    exact ⟨.ref h0.objs.size, upd H h0.objs.size (.lst (ys.map V.str)), I0.laid (t' := tk) k1 (Nat.le_refl _)
      (show ObjOk X.prog X.w _ _ _ (.lst (ys.map V.str)) from ⟨by rw [List.length_map, ly, sizeLine_eq]; omega, out, c, vals_of_strs o1, q1⟩), rfl, q ys _ o2 o3 (I0.hok.fresh (Nat.le_refl _))⟩
  refine call_function_entry_kw kind_sorted plain_sorted entry_sorted (ksk_s1 _ _) ?_
  unfold Builtin.«sorted»
  refine wpAny_bind (m := checkCount "sorted" 1 1 _) (wpAny_pure ?_)
  rcases hs with hs | ⟨kvs, hd, hks⟩
  · obtain ⟨its, rv, hl, hz2⟩ := I.list hs
    have hS := Vals.strs rv
    have il : its.length = ss.length := hS.length
    refine wpAny_bind (collect_list hl.isList ?_ (by rw [List.length_map] at hz2; omega))
    refine wpAny_bind (wpAny_newList ?_ (by rw [sizeLine_eq]; omega))
    have hsz : ((s.heap.push (seqObj "list" #[] 0)).update s.heap.objs.size (Obj.mapSeq (· ++ its.toArray))).objs.size = s.heap.objs.size + 1 := by
      rw [Heap.size_update, size_push']
    have keep : ∀ b o, s.heap.get? b = some o → ((s.heap.push (seqObj "list" #[] 0)).update s.heap.objs.size (Obj.mapSeq (· ++ its.toArray))).get? b = some o := fun b o e => by
      have hlt : b < s.heap.objs.size := Heap.lt_size e
      rw [Heap.get?_update_ne _ _ _ _ (Nat.ne_of_lt hlt)]
      exact Heap.get?_push_of_some _ e
    have hoL : ∀ h0 : Heap, (h0.push (seqObj "list" its.toArray 0)).get? h0.objs.size = some (seqObj "list" its.toArray 0) := fun h0 => Heap.get?_push_size _ rfl
    show wpAny _ _ _ _ _ { s with heap := ((s.heap.push (seqObj "list" #[] 0)).update s.heap.objs.size (Obj.mapSeq (· ++ its.toArray))).push (seqObj "list" its.toArray 0) }
    refine wpAny_bind (wpAny_holding (wpAny_call_entry_kw slot_list_sort ⟨_, hoL _, rfl⟩ entry_list_sort (wpAny_mono (fin _ _ s.toks its (I.kept (t' := s.toks) keep) hS) (fun r s' z => ?_) fun _ _ e => e) (ksk_l1 _ _)))
    obtain ⟨rfl, z⟩ := z
    exact ⟨_, rfl, wpAny_pure ⟨_, rfl, z⟩⟩
  · obtain ⟨z, lo, ws, rel, dd⟩ := dk_rd I.hok hd
    obtain ⟨ep, hat⟩ := dd.dictAt
    have hkeys : ws.map (·.1) = ss.map Sum.inr := rel.keys.symm.trans hks
    have hl : ws.length = ss.length := by
      have e := congrArg List.length hkeys
      rw [List.length_map, List.length_map] at e
      exact e
    have h16 : ws.length ≤ sizeLine := by rw [hl, sizeLine_eq]; omega
    refine wpAny_bind (PySem.W.kdu_collect (A := X.A.in1) (PySem.W.kdl_dict (knd := mixKind X.prog X.w) (kvs := ws) (ep := ep) lo) (I.ok.hd hcalm) hat h16 fun h' tk acc hk hacc => ?_)
    have hal : acc.toList.length = ss.length := by rw [Array.length_toList, hacc.1, hl]
    have hS : StrsAre acc.toList ss := strs_at hal fun j v e => by
      obtain ⟨k, x, e1, e2⟩ := hacc.2 j v (by rw [← Array.getElem?_toList]; exact e)
      have e3 : (ws.map (·.1))[j]? = some k := by rw [List.getElem?_map, e1]; all_goals rfl
      rw [hkeys, List.getElem?_map] at e3
      cases e4 : ss[j]? with
      | none => rw [e4] at e3; cases e3
      | some y =>
        rw [e4] at e3
        have e5 : Sum.inr y = k := Option.some.inj e3
        subst e5
        obtain ⟨t, ev⟩ := Value.isStrOf_shape (x := y) (v := v) e2
        exact ⟨y, t, rfl, ev⟩
    refine wpAny_bind (wpAny_newList ?_ (by rw [hal, sizeLine_eq]; omega))
    have hoL : (h'.push (seqObj "list" acc.toList.toArray 0)).get? h'.objs.size = some (seqObj "list" acc.toList.toArray 0) := Heap.get?_push_size _ rfl
    show wpAny _ _ _ _ _ { s with heap := h'.push (seqObj "list" acc.toList.toArray 0), toks := tk }
    refine wpAny_bind (wpAny_holding (wpAny_call_entry_kw slot_list_sort ⟨_, hoL, rfl⟩ entry_list_sort (wpAny_mono (fin _ _ tk acc.toList (I.kept hk) hS) (fun r s' z => ?_) fun _ _ e => e) (ksk_l1 _ _)))
    obtain ⟨rfl, z⟩ := z
    exact ⟨_, rfl, wpAny_pure ⟨_, rfl, z⟩⟩
variable {x y : Str} {p kp apos : Pos} {e : Expr} {t : TA}
/-- sorted(e, key=y), y a builtin name -/
theorem pe_sortK {pos : Pos} (hcalm : X.calm = true) (F : FoSrt.KeyFn X.prog X.w f ord) (hg : Gl X "sorted") (hm : X.mg "sorted" = none) (hv : bootBuiltins "sorted" = some (.builtin "sorted")) (hgy : Gl X y) (hmy : X.mg y = none) (hvy : bootBuiltins y = some f) (ha : PA X [e] t)
    (hny : y ≠ "__name__" := by decide) (hdy : (y == ("__debug__" : Str)) = false := by decide) (hn : ("sorted" : Str) ≠ "__name__" := by decide) (hdb : (("sorted" : Str) == ("__debug__" : Str)) = false := by decide)
    (he : backTo pos (starEach [e] X.env) = (false, eval e X.env) :: backTo pos (starEach [] X.env) := by rfl) (hpl : (backTo pos (starEach [e] X.env)).any (·.1) = false := by rfl) :
    PE X (.Call (.Name "sorted" p) [e] [⟨some "key", .Name y kp, apos⟩] pos) (tSortK X.K ord t) := by
  refine ⟨fun pins s σ H Q I h => ?_⟩
  refine wpAny_Call_Name_kw (ld_blt I hg hm hv ?_ hn hdb)
  refine PyProof.Rows.callWith_kw (thn (ha.run pos pins s σ H _ I h) fun us s1 ⟨vs, H1, I1, r1, a, ss, ea, h1, h2, h3, h4⟩ => ?_) he hpl (by rfl) (by rfl)
  subst ea
  obtain rfl := Vals.ref1 r1
  show wpAny _ _ (evalAll [(do let v ← eval (.Name y kp) X.env; standAt pos; pure v)]) _ _ s1
  refine wpAny_evalAll_cons (wpAny_bind (ld_blt I1 hgy hmy hvy (wpAny_bind (wpAny_standAt (wpAny_pure ?_))) hny hdy))
  refine wpAny_evalAll_nil ?_
  exact sortedK_run hcalm F I1 h1 h2 h3 h4
end
end L2

set_option maxHeartbeats 1000000
/-! Words of two letters, shortened; sums over lists of (word, number). No program. -/
namespace FoWd
abbrev Wd := List Bool
/-- a letter put behind what is shortened -/
def shF (u : Wd) (c : Bool) : Wd := if u.getLast? = some c then u else u ++ [c]
def sh (w : Wd) : Wd := w.foldl shF []
theorem shF_same {u : Wd} {c : Bool} (h : u.getLast? = some c) : shF u c = u := by
  unfold shF
  rw [if_pos h]
theorem shF_last (u : Wd) (c : Bool) : (shF u c).getLast? = some c := by
  unfold shF
  split
  · assumption
  · simp
theorem sh_snoc (w : Wd) (c : Bool) : sh (w ++ [c]) = shF (sh w) c := by
  unfold sh
  rw [List.foldl_append]
  rfl
theorem fold_snoc (u w : Wd) (c : Bool) : (w ++ [c]).foldl shF u = shF (w.foldl shF u) c := by
  rw [List.foldl_append]
  rfl
/-- induction from the end -/
theorem snoc_ind {p : Wd → Prop} (h0 : p []) (h1 : ∀ w c, p w → p (w ++ [c])) : ∀ w, p w := by
  have key : ∀ n (w : Wd), w.length = n → p w := by
    intro n
    induction n with
    | zero => intro w h; rw [List.eq_nil_of_length_eq_zero h]; exact h0
    | succ n ih =>
      intro w h
      have hne : w ≠ [] := by intro e; rw [e] at h; simp at h
      rw [← List.dropLast_concat_getLast hne]
      exact h1 _ _ (ih _ (by rw [List.length_dropLast]; omega))
  exact fun w => key _ w rfl
theorem sh_fold (u : Wd) : ∀ v, (sh v).foldl shF u = v.foldl shF u := by
  refine snoc_ind rfl fun v c ih => ?_
  rw [sh_snoc, fold_snoc]
  by_cases h : (sh v).getLast? = some c
  · rw [show shF (sh v) c = sh v by unfold shF; rw [if_pos h], ih]
    have e : (v.foldl shF u).getLast? = some c := by
      rw [← ih]
      obtain ⟨s', hs⟩ : ∃ s', sh v = s' ++ [c] := by
        have hne : sh v ≠ [] := by intro e; rw [e] at h; simp at h
        refine ⟨(sh v).dropLast, ?_⟩
        rw [List.getLast?_eq_some_getLast hne] at h
        have := List.dropLast_concat_getLast hne
        rw [Option.some.inj h] at this
        exact this.symm
      rw [hs, fold_snoc]
      exact shF_last _ _
    rw [shF_same e]
  · rw [show shF (sh v) c = sh v ++ [c] by unfold shF; rw [if_neg h], fold_snoc, ih]
theorem sh_sh (v : Wd) : sh (sh v) = sh v := sh_fold [] v
theorem sh_app (w v : Wd) : sh (w ++ v) = v.foldl shF (sh w) := by
  unfold sh
  rw [List.foldl_append]
theorem sh_both (w v : Wd) : sh (sh w ++ sh v) = sh (w ++ v) := by
  rw [sh_app, sh_app, sh_sh, sh_fold]
theorem sh_left (w v : Wd) : sh (sh w ++ v) = sh (w ++ v) := by
  rw [sh_app, sh_app, sh_sh]
theorem sh_right (w v : Wd) : sh (w ++ sh v) = sh (w ++ v) := by
  rw [sh_app, sh_app, sh_fold]
theorem sh_rev : ∀ v : Wd, sh (sh v).reverse = sh v.reverse := by
  refine snoc_ind rfl fun v c ih => ?_
  rw [List.reverse_append]
  show _ = sh ([c] ++ v.reverse)
  rw [← sh_right [c] v.reverse, ← ih, sh_right, sh_snoc]
  by_cases h : (sh v).getLast? = some c
  · rw [show shF (sh v) c = sh v by unfold shF; rw [if_pos h]]
    obtain ⟨s', hs⟩ : ∃ s', sh v = s' ++ [c] := by
      have hne : sh v ≠ [] := by intro e; rw [e] at h; simp at h
      refine ⟨(sh v).dropLast, ?_⟩
      rw [List.getLast?_eq_some_getLast hne] at h
      have := List.dropLast_concat_getLast hne
      rw [Option.some.inj h] at this
      exact this.symm
    rw [hs, List.reverse_append]
    show sh (c :: s'.reverse) = sh (c :: c :: s'.reverse)
    have e : shF (shF [] c) c = shF [] c := by
      have := shF_last [] c
      generalize shF [] c = z at *
      unfold shF
      rw [if_pos this]
    unfold sh
    show List.foldl shF (shF [] c) _ = List.foldl shF (shF (shF [] c) c) _
    rw [e]
  · rw [show shF (sh v) c = sh v ++ [c] by unfold shF; rw [if_neg h], List.reverse_append]
    rfl
/-! ### alternating words -/
def alt (b : Bool) : Nat → Wd
  | 0 => []
  | n + 1 => b :: alt (!b) n
theorem alt_len (n : Nat) : ∀ b, (alt b n).length = n := by
  induction n with
  | zero => intro b; rfl
  | succ n ih => intro b; show (alt (!b) n).length + 1 = n + 1; rw [ih]
/-- the letter behind n alternating ones -/
def nxt (b : Bool) (n : Nat) : Bool := if n % 2 = 0 then b else !b
theorem alt_snoc (n : Nat) : ∀ b, alt b (n + 1) = alt b n ++ [nxt b n] := by
  induction n with
  | zero => intro b; rfl
  | succ n ih =>
    intro b
    show b :: alt (!b) (n + 1) = b :: (alt (!b) n ++ [nxt b (n + 1)])
    rw [ih]
    congr 3
    unfold nxt
    have : (n + 1) % 2 = 0 ↔ ¬ n % 2 = 0 := by omega
    by_cases h : n % 2 = 0
    · rw [if_pos h, if_neg (by omega)]
    · rw [if_neg h, if_pos (by omega), Bool.not_not]
theorem nxt_ne (b : Bool) (n : Nat) : nxt b (n + 1) = !nxt b n := by
  unfold nxt
  by_cases h : n % 2 = 0
  · rw [if_pos h, if_neg (by omega)]
  · rw [if_neg h, if_pos (by omega), Bool.not_not]
theorem sh_alt : ∀ w : Wd, ∃ b n, n ≤ w.length ∧ sh w = alt b n := by
  refine snoc_ind ⟨true, 0, Nat.le_refl _, rfl⟩ fun w c ⟨b, n, hn, e⟩ => ?_
  rw [sh_snoc, e, List.length_append]
  cases n with
  | zero => exact ⟨c, 1, by show 1 ≤ _ + 1; omega, by unfold shF; rfl⟩
  | succ n =>
    unfold shF
    split
    · exact ⟨b, n + 1, by omega, rfl⟩
    · rename_i h
      refine ⟨b, n + 2, by show n + 2 ≤ _ + 1; omega, ?_⟩
      rw [alt_snoc (n + 1)]
      congr 2
      rw [alt_snoc] at h
      have h2 : ¬ nxt b n = c := fun z => h (by simp [z])
      rw [nxt_ne]
      cases c <;> cases hb : nxt b n <;> simp_all
/-- all of them up to a length, the shorter first, p first -/
def AW : Nat → List Wd
  | 0 => [[]]
  | n + 1 => AW n ++ [alt true (n + 1), alt false (n + 1)]
theorem mem_AW {n m : Nat} (b : Bool) (h : m ≤ n) : alt b m ∈ AW n := by
  induction n with
  | zero =>
    obtain rfl : m = 0 := by omega
    show [] ∈ [[]]
    simp
  | succ n ih =>
    show _ ∈ AW n ++ _
    by_cases h2 : m ≤ n
    · exact List.mem_append_left _ (ih h2)
    · obtain rfl : m = n + 1 := by omega
      refine List.mem_append_right _ ?_
      cases b <;> simp
theorem AW_len {n : Nat} : ∀ {a : Wd}, a ∈ AW n → a.length ≤ n := by
  induction n with
  | zero => intro a h; simp [AW] at h; rw [h]; exact Nat.le_refl _
  | succ n ih =>
    intro a h
    rcases List.mem_append.mp (show a ∈ AW n ++ _ from h) with h | h
    · exact Nat.le_succ_of_le (ih h)
    · simp at h
      rcases h with rfl | rfl <;> rw [alt_len] <;> exact Nat.le_refl _
theorem AW_nodup : ∀ n, (AW n).Nodup
  | 0 => by simp [AW]
  | n + 1 => by
    show (AW n ++ _).Nodup
    refine List.nodup_append.mpr ⟨AW_nodup n, by simp [alt], fun a ha b hb e => ?_⟩
    have l1 := AW_len ha
    have l2 : b.length = n + 1 := by
      simp at hb
      rcases hb with rfl | rfl <;> rw [alt_len]
    rw [e] at l1
    omega
theorem AW_sh : ∀ {n : Nat} {a : Wd}, a ∈ AW n → sh a = a := by
  have key : ∀ n b, sh (alt b n) = alt b n := by
    intro n
    induction n with
    | zero => intro b; rfl
    | succ n ih =>
      intro b
      rw [alt_snoc, sh_snoc, ih]
      unfold shF
      cases n with
      | zero => rfl
      | succ n =>
        rw [if_neg]
        rw [alt_snoc]
        simp
        rw [nxt_ne]
        simp
  intro n
  induction n with
  | zero => intro a h; simp [AW] at h; rw [h]; rfl
  | succ n ih =>
    intro a h
    rcases List.mem_append.mp (show a ∈ AW n ++ _ from h) with h | h
    · exact ih h
    · simp at h
      rcases h with rfl | rfl <;> exact key _ _
end FoWd

set_option maxHeartbeats 1000000
namespace FoWd
abbrev Ps := List (Wd × Rat)
def lin (G : Wd → Rat) : Ps → Rat
  | [] => 0
  | p :: ps => p.2 * G p.1 + lin G ps
def ind (a w : Wd) : Rat := if sh w = a then 1 else 0
def coef (ps : Ps) (a : Wd) : Rat := lin (ind a) ps
def sumA (F : Wd → Rat) : List Wd → Rat
  | [] => 0
  | a :: l => F a + sumA F l
theorem sumA_congr {F G : Wd → Rat} {l : List Wd} (h : ∀ a ∈ l, F a = G a) : sumA F l = sumA G l := by
  induction l with
  | nil => rfl
  | cons a l ih =>
    show F a + _ = G a + _
    rw [h a List.mem_cons_self, ih fun b hb => h b (List.mem_cons_of_mem _ hb)]
theorem sumA_add {F G : Wd → Rat} {l : List Wd} : sumA (fun a => F a + G a) l = sumA F l + sumA G l := by
  induction l with
  | nil => show (0 : Rat) = 0 + 0; grind
  | cons a l ih =>
    show F a + G a + _ = F a + _ + (G a + _)
    rw [ih]
    grind
theorem sumA_zero {F : Wd → Rat} {l : List Wd} (h : ∀ a ∈ l, F a = 0) : sumA F l = 0 := by
  induction l with
  | nil => rfl
  | cons a l ih =>
    show F a + _ = 0
    rw [h a List.mem_cons_self, ih fun b hb => h b (List.mem_cons_of_mem _ hb)]
    grind
theorem sumA_one {b : Wd} {x : Rat} {G : Wd → Rat} {l : List Wd} (hn : l.Nodup) (hb : b ∈ l) : sumA (fun a => (if b = a then x else 0) * G a) l = x * G b := by
  induction l with
  | nil => exact absurd hb (by simp)
  | cons a l ih =>
    obtain ⟨h1, h2⟩ := List.nodup_cons.mp hn
    show (if b = a then x else 0) * G a + _ = _
    by_cases e : b = a
    · subst e
      rw [if_pos rfl, sumA_zero (fun a ha => by
        have : b ≠ a := fun z => h1 (z ▸ ha)
        rw [if_neg this, Rat.zero_mul])]
      grind
    · rw [if_neg e, ih h2 ((List.mem_cons.mp hb).resolve_left e)]
      grind
/-- the form: the words that are left, in their order -/
def form (N : Nat) (ps : Ps) : Ps := (AW N).filterMap fun a => if coef ps a = 0 then none else some (a, coef ps a)
theorem lin_fm {ps : Ps} {G : Wd → Rat} : ∀ l : List Wd, lin G (l.filterMap fun a => if coef ps a = 0 then none else some (a, coef ps a)) = sumA (fun a => coef ps a * G a) l
  | [] => rfl
  | a :: l => by
    rw [List.filterMap_cons]
    by_cases e : coef ps a = 0
    · rw [if_pos e]
      show lin G _ = coef ps a * G a + _
      rw [lin_fm l, e]
      grind
    · rw [if_neg e]
      show coef ps a * G a + lin G _ = _
      rw [lin_fm l]
      rfl
/-- short enough words -/
def Le (N : Nat) (ps : Ps) : Prop := ∀ p ∈ ps, p.1.length ≤ N
theorem sh_mem {N : Nat} {w : Wd} (h : w.length ≤ N) : sh w ∈ AW N := by
  obtain ⟨b, n, hn, e⟩ := sh_alt w
  rw [e]
  exact mem_AW b (Nat.le_trans hn h)
theorem lin_form {N : Nat} {ps : Ps} (h : Le N ps) (G : Wd → Rat) : lin G (form N ps) = lin (fun w => G (sh w)) ps := by
  unfold form
  rw [lin_fm]
  induction ps with
  | nil => exact sumA_zero fun a _ => by show (0 : Rat) * _ = 0; rw [Rat.zero_mul]
  | cons p ps ih =>
    show _ = p.2 * G (sh p.1) + lin _ ps
    rw [← ih fun q hq => h q (List.mem_cons_of_mem _ hq), ← sumA_one (G := G) (x := p.2) (AW_nodup N) (sh_mem (h p List.mem_cons_self)), ← sumA_add]
    refine sumA_congr fun a ha => ?_
    show (p.2 * ind a p.1 + coef ps a) * G a = _
    unfold ind
    split <;> grind
theorem lin_congr {F G : Wd → Rat} {ps : Ps} (h : ∀ p ∈ ps, F p.1 = G p.1) : lin F ps = lin G ps := by
  induction ps with
  | nil => rfl
  | cons p ps ih =>
    show p.2 * F p.1 + _ = p.2 * G p.1 + _
    rw [h p List.mem_cons_self, ih fun b hb => h b (List.mem_cons_of_mem _ hb)]
theorem coef_form {N : Nat} {ps : Ps} (h : Le N ps) (a : Wd) : coef (form N ps) a = coef ps a := by
  unfold coef
  rw [lin_form h]
  refine lin_congr fun p _ => ?_
  unfold ind
  rw [sh_sh]
theorem form_ext {N : Nat} {ps qs : Ps} (h : ∀ a, coef ps a = coef qs a) : form N ps = form N qs := by
  unfold form
  congr 1
  funext a
  rw [h a]
theorem form_form {N M : Nat} {ps : Ps} (h : Le N ps) : form M (form N ps) = form M ps := form_ext (coef_form h)
theorem lin_app {G : Wd → Rat} {ps qs : Ps} : lin G (ps ++ qs) = lin G ps + lin G qs := by
  induction ps with
  | nil => show lin G qs = 0 + _; grind
  | cons p ps ih =>
    show p.2 * G p.1 + lin G (ps ++ qs) = p.2 * G p.1 + lin G ps + _
    rw [ih]
    grind
theorem coef_app {ps qs : Ps} (a : Wd) : coef (ps ++ qs) a = coef ps a + coef qs a := lin_app
/-- each word turned, each number times another -/
def turn (ps : Ps) : Ps := ps.map fun p => (p.1.reverse, p.2)
def scl (c : Rat) (ps : Ps) : Ps := ps.map fun p => (p.1, c * p.2)
def mul (ps qs : Ps) : Ps := ps.flatMap fun p => qs.map fun q => (p.1 ++ q.1, p.2 * q.2)
theorem lin_turn {G : Wd → Rat} {ps : Ps} : lin G (turn ps) = lin (fun w => G w.reverse) ps := by
  induction ps with
  | nil => rfl
  | cons p ps ih =>
    show p.2 * G p.1.reverse + lin G (turn ps) = _
    rw [ih]
    rfl
theorem lin_scl {G : Wd → Rat} {c : Rat} {ps : Ps} : lin G (scl c ps) = c * lin G ps := by
  induction ps with
  | nil => show (0 : Rat) = c * 0; grind
  | cons p ps ih =>
    show c * p.2 * G p.1 + lin G (scl c ps) = c * (p.2 * G p.1 + lin G ps)
    rw [ih]
    grind
theorem lin_mul {G : Wd → Rat} {ps qs : Ps} : lin G (mul ps qs) = lin (fun w => lin (fun v => G (w ++ v)) qs) ps := by
  induction ps with
  | nil => rfl
  | cons p ps ih =>
    show lin G (qs.map _ ++ mul ps qs) = p.2 * lin _ qs + lin _ ps
    rw [lin_app, ih]
    congr 1
    induction qs with
    | nil => show (0 : Rat) = p.2 * 0; grind
    | cons q qs ih2 =>
      show p.2 * q.2 * G (p.1 ++ q.1) + lin G _ = p.2 * (q.2 * G (p.1 ++ q.1) + lin _ qs)
      have ih3 : lin G (qs.map fun q => (p.1 ++ q.1, p.2 * q.2)) = p.2 * lin (fun v => G (p.1 ++ v)) qs := by
        clear ih ih2
        induction qs with
        | nil => show (0 : Rat) = p.2 * 0; grind
        | cons q qs ih => 
          show p.2 * q.2 * G (p.1 ++ q.1) + lin G (qs.map fun q => (p.1 ++ q.1, p.2 * q.2)) = p.2 * (q.2 * G (p.1 ++ q.1) + lin (fun v => G (p.1 ++ v)) qs)
          rw [ih]
          grind
      rw [ih3]
      grind
theorem form_turn {N M : Nat} {ps : Ps} (h : Le N ps) : form M (turn (form N ps)) = form M (turn ps) := form_ext fun a => by
  unfold coef
  rw [lin_turn, lin_turn, lin_form h]
  refine lin_congr fun p _ => ?_
  unfold ind
  rw [sh_rev]
theorem form_scl {N M : Nat} {c : Rat} {ps : Ps} (h : Le N ps) : form M (scl c (form N ps)) = form M (scl c ps) := form_ext fun a => by
  have := coef_form h a
  unfold coef at *
  rw [lin_scl, lin_scl, this]
theorem form_add {N1 N2 M : Nat} {ps qs : Ps} (h : Le N1 ps) (g : Le N2 qs) : form M (form N1 ps ++ form N2 qs) = form M (ps ++ qs) := form_ext fun a => by
  rw [coef_app, coef_app, coef_form h, coef_form g]
theorem form_mul {N1 N2 M : Nat} {ps qs : Ps} (h : Le N1 ps) (g : Le N2 qs) : form M (mul (form N1 ps) (form N2 qs)) = form M (mul ps qs) := form_ext fun a => by
  unfold coef
  rw [lin_mul, lin_mul, lin_form h]
  refine lin_congr fun p _ => ?_
  rw [lin_form g]
  refine lin_congr fun q _ => ?_
  unfold ind
  rw [sh_both]
theorem lin_swap {G : Wd → Wd → Rat} {ps qs : Ps} : lin (fun w => lin (fun v => G w v) qs) ps = lin (fun v => lin (fun w => G w v) ps) qs := by
  induction ps with
  | nil =>
    show (0 : Rat) = lin (fun v => (0 : Rat)) qs
    induction qs with
    | nil => rfl
    | cons q qs ih => show (0 : Rat) = q.2 * 0 + lin (fun v => (0 : Rat)) qs; rw [← ih]; grind
  | cons p ps ih =>
    show p.2 * lin (fun v => G p.1 v) qs + lin (fun w => lin (fun v => G w v) qs) ps = lin (fun v => p.2 * G p.1 v + lin (fun w => G w v) ps) qs
    rw [ih]
    clear ih
    induction qs with
    | nil => show p.2 * 0 + (0 : Rat) = 0; grind
    | cons q qs ih2 =>
      show p.2 * (q.2 * G p.1 q.1 + lin (fun v => G p.1 v) qs) + (q.2 * lin (fun w => G w q.1) ps + lin (fun v => lin (fun w => G w v) ps) qs) = q.2 * (p.2 * G p.1 q.1 + lin (fun w => G w q.1) ps) + lin (fun v => p.2 * G p.1 v + lin (fun w => G w v) ps) qs
      rw [← ih2]
      grind
theorem rev_ind (a w : Wd) (ha : sh a = a) : ind a w.reverse = ind (sh a.reverse) w := by
  unfold ind
  have e : sh w.reverse = a ↔ sh w = sh a.reverse := by
    constructor
    · intro h
      rw [← h, sh_rev, List.reverse_reverse]
    · intro h
      rw [← sh_rev, h, sh_rev, List.reverse_reverse, ha]
  by_cases h : sh w.reverse = a
  · rw [if_pos h, if_pos (e.mp h)]
  · rw [if_neg h, if_neg fun z => h (e.mpr z)]
/-- its own mirror -/
def IsM (N : Nat) (ps : Ps) : Prop := form N (turn ps) = form N ps
theorem isM_add {N : Nat} {ps : Ps} : IsM N (ps ++ turn ps) := form_ext fun a => by
  have e : turn (turn ps) = ps := by
    unfold turn
    rw [List.map_map]
    refine (List.map_congr_left fun p _ => ?_).trans (List.map_id _)
    show ((p.1.reverse).reverse, p.2) = p
    rw [List.reverse_reverse]
  have e2 : turn (ps ++ turn ps) = turn ps ++ ps := by
    unfold turn
    rw [List.map_append]
    congr 1
  rw [e2, coef_app, coef_app]
  grind
theorem isM_mul {N : Nat} {ps : Ps} : IsM N (mul (turn ps) ps) := form_ext fun a => by
  unfold coef
  rw [lin_turn, lin_mul, lin_mul, lin_turn, lin_turn]
  rw [lin_swap]
  refine lin_congr fun p _ => ?_
  refine lin_congr fun q _ => ?_
  rw [List.reverse_append, List.reverse_reverse]
end FoWd

set_option maxHeartbeats 1000000
namespace FoWd
open PySem SrtO FoSrt
/-- a letter's lcode; a word as a text -/
def lcode (b : Bool) : Nat := if b then 112 else 113
def tx (w : Wd) : Str := ⟨(w.map lcode).toArray⟩
theorem tl_tx (w : Wd) : TL.tl (tx w) = w.map lcode := rfl
theorem tx_len (w : Wd) : (tx w).length = w.length := by
  rw [TL.len_tl, tl_tx, List.length_map]
theorem code_inj {a b : Bool} (h : lcode a = lcode b) : a = b := by
  cases a <;> cases b <;> first | rfl | exact absurd h (by decide)
theorem tx_inj {w v : Wd} (h : tx w = tx v) : w = v := by
  have e : w.map lcode = v.map lcode := congrArg TL.tl h
  exact (List.map_inj_right fun _ _ => code_inj).mp e
theorem tx_app (w v : Wd) : tx w ++ tx v = tx (w ++ v) := by
  refine TL.ext_tl ?_
  rw [TL.tl_append, tl_tx, tl_tx, tl_tx, List.map_append]
theorem tx_nil : tx [] = Str.empty := rfl
/-! ### the order -/
def Le2 (x y : Str) : Prop := x.length < y.length ∨ (x.length = y.length ∧ ¬ TL.tl y < TL.tl x)
theorem le2_anti {x y : Str} (h : Le2 x y) (g : Le2 y x) : x = y := by
  rcases h with h | ⟨h, h2⟩
  · rcases g with g | ⟨g, _⟩ <;> omega
  · rcases g with g | ⟨_, g2⟩
    · omega
    · exact TL.ext_tl (List.le_antisymm (List.not_lt.mp h2) (List.not_lt.mp g2))
theorem pw_le2 : ∀ l : List Str, Srtd ordN l → (∀ c, (l.filter (eqv ordN c)).Pairwise fun x y => ¬ TL.tl y < TL.tl x) → l.Pairwise Le2
  | [], _, _ => List.Pairwise.nil
  | x :: l, h, g => by
    obtain ⟨h1, h2⟩ := List.pairwise_cons.mp h
    refine List.pairwise_cons.mpr ⟨fun y hy => ?_, pw_le2 l h2 fun c => ?_⟩
    · have e := of_decide_eq_false (h1 y hy)
      by_cases d : x.length < y.length
      · exact .inl d
      · refine .inr ⟨by omega, ?_⟩
        have e1 : eqv ordN x x = true := by simp [eqv, ordN]
        have e2 : eqv ordN x y = true := by
          have : x.length = y.length := by omega
          simp [eqv, ordN, this]
        have q := g x
        rw [List.filter_cons, if_pos e1] at q
        exact (List.pairwise_cons.mp q).1 y (List.mem_filter.mpr ⟨hy, e2⟩)
    · have q := g c
      rw [List.filter_cons] at q
      split at q
      · exact (List.pairwise_cons.mp q).2
      · exact q
theorem both_le2 {l m : List Str} (h1 : Srtd ordT m) (h2 : Srtd ordN l) (h3 : Stb ordN l m) : l.Pairwise Le2 := by
  refine pw_le2 l h2 fun c => ?_
  rw [h3.cls]
  refine List.Pairwise.sublist List.filter_sublist ?_
  exact h1.imp fun {x y} e => of_decide_eq_false e
theorem le2_aw : ∀ n, ((AW n).map tx).Pairwise Le2
  | 0 => List.pairwise_singleton _ _
  | n + 1 => by
    show (((AW n) ++ [alt true (n + 1), alt false (n + 1)]).map tx).Pairwise Le2
    rw [List.map_append]
    refine List.pairwise_append.mpr ⟨le2_aw n, ?_, fun x hx y hy => .inl ?_⟩
    · show [tx (alt true (n + 1)), tx (alt false (n + 1))].Pairwise Le2
      refine List.pairwise_cons.mpr ⟨fun y hy => ?_, List.pairwise_singleton _ _⟩
      obtain rfl := List.mem_singleton.mp hy
      refine .inr ⟨by rw [tx_len, tx_len, alt_len, alt_len], ?_⟩
      show ¬ (113 :: (alt true n).map lcode : List Nat) < 112 :: (alt false n).map lcode
      rw [List.cons_lt_cons_iff]
      omega
    · obtain ⟨a, ha, rfl⟩ := List.mem_map.mp hx
      obtain ⟨b, hb, rfl⟩ := List.mem_map.mp hy
      rw [tx_len, tx_len]
      have l1 := AW_len ha
      simp at hb
      rcases hb with rfl | rfl <;> rw [alt_len] <;> omega
/-- what is sorted so is the list of the alternating words that are there -/
theorem sorted_aw {N : Nat} {ks : List Wd} {l : List Str} (hk : ks.Nodup) (ha : ∀ a ∈ ks, a ∈ AW N) (hp : l.Perm (ks.map tx)) (hl : l.Pairwise Le2) : l = ((AW N).filter fun a => decide (a ∈ ks)).map tx := by
  refine List.Perm.eq_of_pairwise (fun a b _ _ => le2_anti) hl ?_ (hp.trans (List.Perm.map tx ?_))
  · exact List.Pairwise.sublist (List.Sublist.map tx List.filter_sublist) (le2_aw N)
  · refine (List.perm_ext_iff_of_nodup hk (List.Nodup.sublist List.filter_sublist (AW_nodup N))).mpr fun a => ?_
    rw [List.mem_filter]
    exact ⟨fun h => ⟨ha a h, decide_eq_true h⟩, fun h => of_decide_eq_true h.2⟩
end FoWd

set_option maxHeartbeats 1000000
namespace FoWd
/-! ### tables: words to numbers, in the order of their coming -/
def look : Ps → Wd → Option Rat
  | [], _ => none
  | p :: r, w => if p.1 = w then some p.2 else look r w
def put : Ps → Wd → Rat → Ps
  | [], w, x => [(w, x)]
  | p :: r, w, x => if p.1 = w then (w, x) :: r else p :: put r w x
def keys (f : Ps) : List Wd := f.map (·.1)
theorem look_none {f : Ps} {w : Wd} (h : w ∉ keys f) : look f w = none := by
  induction f with
  | nil => rfl
  | cons p r ih =>
    have h1 : p.1 ≠ w := fun e => h (by rw [← e]; exact List.mem_cons_self)
    show (if p.1 = w then some p.2 else look r w) = none
    rw [if_neg h1]
    exact ih fun m => h (List.mem_cons_of_mem _ m)
theorem look_some {f : Ps} {w : Wd} (h : w ∈ keys f) : ∃ x, look f w = some x := by
  induction f with
  | nil => exact absurd h (by simp [keys])
  | cons p r ih =>
    show ∃ x, (if p.1 = w then some p.2 else look r w) = some x
    by_cases e : p.1 = w
    · rw [if_pos e]; exact ⟨_, rfl⟩
    · rw [if_neg e]
      exact ih ((List.mem_cons.mp h).resolve_left fun z => e z.symm)
theorem put_new {f : Ps} {w : Wd} {x : Rat} (h : w ∉ keys f) : put f w x = f ++ [(w, x)] := by
  induction f with
  | nil => rfl
  | cons p r ih =>
    have h1 : p.1 ≠ w := fun e => h (by rw [← e]; exact List.mem_cons_self)
    show (if p.1 = w then (w, x) :: r else p :: put r w x) = _
    rw [if_neg h1, ih fun m => h (List.mem_cons_of_mem _ m)]
    rfl
theorem put_old {f : Ps} {w : Wd} {x : Rat} (hn : (keys f).Nodup) (h : w ∈ keys f) : put f w x = f.map fun p => if p.1 = w then (w, x) else p := by
  induction f with
  | nil => exact absurd h (by simp [keys])
  | cons p r ih =>
    obtain ⟨n1, n2⟩ := List.nodup_cons.mp hn
    show (if p.1 = w then (w, x) :: r else p :: put r w x) = (if p.1 = w then (w, x) else p) :: _
    by_cases e : p.1 = w
    · rw [if_pos e, if_pos e]
      congr 1
      refine ((List.map_congr_left fun q hq => ?_).trans (List.map_id _)).symm
      have : q.1 ≠ w := fun z => n1 (List.mem_map.mpr ⟨q, hq, z.trans e.symm⟩)
      rw [if_neg this]
      rfl
    · rw [if_neg e, if_neg e, ih n2 ((List.mem_cons.mp h).resolve_left fun z => e z.symm)]
theorem keys_put {f : Ps} {w : Wd} {x : Rat} : keys (put f w x) = if w ∈ keys f then keys f else keys f ++ [w] := by
  induction f with
  | nil => rfl
  | cons p r ih =>
    show keys (if p.1 = w then (w, x) :: r else p :: put r w x) = _
    by_cases e : p.1 = w
    · rw [if_pos e, if_pos (by rw [← e]; exact List.mem_cons_self)]
      show w :: keys r = p.1 :: keys r
      rw [e]
    · rw [if_neg e]
      show p.1 :: keys (put r w x) = _
      rw [ih]
      by_cases m : w ∈ keys r
      · rw [if_pos m, if_pos (show w ∈ keys (p :: r) from List.mem_cons_of_mem _ m)]
        rfl
      · rw [if_neg m, if_neg (show ¬ w ∈ keys (p :: r) from fun z => (List.mem_cons.mp z).elim (fun z => e z.symm) m)]
        rfl
theorem put_nodup {f : Ps} {w : Wd} {x : Rat} (h : (keys f).Nodup) : (keys (put f w x)).Nodup := by
  rw [keys_put]
  split
  · exact h
  · rename_i m
    refine List.nodup_append.mpr ⟨h, by simp, fun a ha b hb e => ?_⟩
    rw [List.mem_singleton.mp hb] at e
    exact m (e ▸ ha)
theorem look_put {f : Ps} {w a : Wd} {x : Rat} : look (put f w x) a = if w = a then some x else look f a := by
  induction f with
  | nil => rfl
  | cons p r ih =>
    show look (if p.1 = w then (w, x) :: r else p :: put r w x) a = if w = a then some x else if p.1 = a then some p.2 else look r a
    by_cases e : p.1 = w
    · rw [if_pos e]
      show (if w = a then some x else look r a) = _
      by_cases e2 : w = a
      · rw [if_pos e2, if_pos e2]
      · rw [if_neg e2, if_neg e2, if_neg (fun z => e2 (e.symm.trans z))]
    · rw [if_neg e]
      show (if p.1 = a then some p.2 else look (put r w x) a) = _
      rw [ih]
      by_cases e2 : w = a
      · rw [if_pos e2, if_pos e2, if_neg (fun z => e (z.trans e2.symm))]
      · rw [if_neg e2, if_neg e2]
/-- a number added to the one that stands at w -/
def addAt (f : Ps) (w : Wd) (x : Rat) : Ps := put f w ((look f w).getD 0 + x)
/-- what the pairs, their words shortened, come to -/
def gath (ps : Ps) : Ps := ps.foldl (fun f p => addAt f (sh p.1) p.2) []
theorem gath_snoc (ps : Ps) (p : Wd × Rat) : gath (ps ++ [p]) = addAt (gath ps) (sh p.1) p.2 := by
  unfold gath
  rw [List.foldl_append]
  rfl
theorem gath_take {ps : Ps} {i : Nat} {p : Wd × Rat} (h : ps[i]? = some p) : gath (ps.take (i + 1)) = addAt (gath (ps.take i)) (sh p.1) p.2 := by
  rw [List.take_add_one, h]
  exact gath_snoc _ _
theorem coef_snoc {ps : Ps} {p : Wd × Rat} {a : Wd} : coef (ps ++ [p]) a = coef ps a + (if sh p.1 = a then p.2 else 0) := by
  rw [coef_app]
  congr 1
  show p.2 * ind a p.1 + 0 = _
  unfold ind
  split <;> grind
theorem gath_all (ps : Ps) : (keys (gath ps)).Nodup ∧ (∀ a, (look (gath ps) a).getD 0 = coef ps a) ∧ (∀ a, a ∈ keys (gath ps) ↔ ∃ p ∈ ps, sh p.1 = a) := by
  have key : ∀ (n : Nat) (ps : Ps), ps.length = n → (keys (gath ps)).Nodup ∧ (∀ a, (look (gath ps) a).getD 0 = coef ps a) ∧ (∀ a, a ∈ keys (gath ps) ↔ ∃ p ∈ ps, sh p.1 = a) := by
    intro n
    induction n with
    | zero =>
      intro ps h
      rw [List.eq_nil_of_length_eq_zero h]
      exact ⟨List.nodup_nil, fun a => rfl, fun a => by simp [gath, keys]⟩
    | succ n ih =>
      intro ps h
      have hne : ps ≠ [] := by intro e; rw [e] at h; simp at h
      obtain ⟨h1, h2, h3⟩ := ih ps.dropLast (by rw [List.length_dropLast]; omega)
      rw [← List.dropLast_concat_getLast hne]
      generalize ps.dropLast = qs at *
      generalize ps.getLast hne = p at *
      rw [gath_snoc]
      refine ⟨put_nodup h1, fun a => ?_, fun a => ?_⟩
      · unfold addAt
        rw [look_put, coef_snoc, ← h2 a]
        by_cases e : sh p.1 = a
        · rw [if_pos e, if_pos e, e]
          rfl
        · rw [if_neg e, if_neg e]
          grind
      · unfold addAt
        rw [keys_put]
        have e : (∃ q ∈ qs ++ [p], sh q.1 = a) ↔ (∃ q ∈ qs, sh q.1 = a) ∨ sh p.1 = a := by
          constructor
          · rintro ⟨q, hq, e⟩
            rcases List.mem_append.mp hq with hq | hq
            · exact .inl ⟨q, hq, e⟩
            · rw [List.mem_singleton.mp hq] at e
              exact .inr e
          · rintro (⟨q, hq, e⟩ | e)
            · exact ⟨q, List.mem_append_left _ hq, e⟩
            · exact ⟨p, List.mem_append_right _ (List.mem_singleton.mpr rfl), e⟩
        rw [e, ← h3 a]
        split
        · rename_i m
          constructor
          · exact .inl
          · rintro (z | z)
            · exact z
            · rw [← z]; exact m
        · rw [List.mem_append, List.mem_singleton]
          exact ⟨fun z => z.imp id Eq.symm, fun z => z.imp id Eq.symm⟩
  exact key _ ps rfl
theorem put_len {f : Ps} {w : Wd} {x : Rat} : (put f w x).length ≤ f.length + 1 := by
  induction f with
  | nil => exact Nat.le_refl _
  | cons p r ih =>
    show (if p.1 = w then (w, x) :: r else p :: put r w x).length ≤ _
    split
    · exact Nat.le_succ _
    · exact Nat.succ_le_succ ih
theorem gath_len (ps : Ps) : (gath ps).length ≤ ps.length := by
  have key : ∀ (n : Nat) (ps : Ps), ps.length = n → (gath ps).length ≤ n := by
    intro n
    induction n with
    | zero => intro ps h; rw [List.eq_nil_of_length_eq_zero h]; exact Nat.le_refl _
    | succ n ih =>
      intro ps h
      have hne : ps ≠ [] := by intro e; rw [e] at h; simp at h
      have z := ih ps.dropLast (by rw [List.length_dropLast]; omega)
      rw [← List.dropLast_concat_getLast hne, gath_snoc]
      exact Nat.le_trans put_len (Nat.succ_le_succ z)
  exact key _ ps rfl
theorem gath_at {ps : Ps} {a : Wd} (h : a ∈ keys (gath ps)) : look (gath ps) a = some (coef ps a) := by
  obtain ⟨x, hx⟩ := look_some h
  have := (gath_all ps).2.1 a
  rw [hx] at this ⊢
  exact congrArg some this
theorem gath_aw {N : Nat} {ps : Ps} (h : Le N ps) : ∀ a ∈ keys (gath ps), a ∈ AW N := by
  intro a ha
  obtain ⟨p, hp, rfl⟩ := ((gath_all ps).2.2 a).mp ha
  exact sh_mem (h p hp)
/-- the words that are there, in their order -/
def ordered (N : Nat) (ps : Ps) : List Wd := (AW N).filter fun a => decide (a ∈ keys (gath ps))
theorem fmap_congr {α β : Type} {f g : α → Option β} : ∀ {l : List α}, (∀ a ∈ l, f a = g a) → l.filterMap f = l.filterMap g
  | [], _ => rfl
  | a :: l, h => by
    rw [List.filterMap_cons, List.filterMap_cons, h a List.mem_cons_self, fmap_congr fun b hb => h b (List.mem_cons_of_mem _ hb)]
theorem form_ordered (N : Nat) (ps : Ps) : form N ps = (ordered N ps).filterMap fun a => if coef ps a = 0 then none else some (a, coef ps a) := by
  unfold form ordered
  rw [List.filterMap_filter]
  refine fmap_congr fun a _ => ?_
  by_cases m : a ∈ keys (gath ps)
  · rw [if_pos (decide_eq_true m)]
  · have e : coef ps a = 0 := by
      rw [← (gath_all ps).2.1 a, look_none m]
      rfl
    rw [if_neg (show ¬ decide (a ∈ keys (gath ps)) = true from fun z => m (of_decide_eq_true z)), if_pos e]
end FoWd

set_option maxHeartbeats 1000000
namespace FoWd
/-! ### two forms compared as tables -/
theorem mem_form {N : Nat} {ps : Ps} {p : Wd × Rat} : p ∈ form N ps ↔ p.1 ∈ AW N ∧ coef ps p.1 ≠ 0 ∧ p.2 = coef ps p.1 := by
  unfold form
  rw [List.mem_filterMap]
  constructor
  · rintro ⟨a, ha, e⟩
    by_cases z : coef ps a = 0
    · rw [if_pos z] at e; cases e
    · rw [if_neg z] at e
      cases e
      exact ⟨ha, z, rfl⟩
  · rintro ⟨h1, h2, h3⟩
    refine ⟨p.1, h1, ?_⟩
    rw [if_neg h2, ← h3]
theorem keys_form {N : Nat} {ps : Ps} : keys (form N ps) = (AW N).filter fun a => decide (coef ps a ≠ 0) := by
  unfold form keys
  generalize AW N = l
  induction l with
  | nil => rfl
  | cons a l ih =>
    rw [List.filterMap_cons, List.filter_cons]
    by_cases z : coef ps a = 0
    · rw [if_pos z, if_neg (by simp [z])]
      exact ih
    · rw [if_neg z, if_pos (by simp [z])]
      show a :: _ = a :: _
      rw [ih]
theorem form_nodup (N : Nat) (ps : Ps) : (keys (form N ps)).Nodup := by
  rw [keys_form]
  exact List.Nodup.sublist List.filter_sublist (AW_nodup N)
theorem form_le (N : Nat) (ps : Ps) : Le N (form N ps) := fun p hp => AW_len (mem_form.mp hp).1
theorem look_mem {g : Ps} (hn : (keys g).Nodup) {w : Wd} {x : Rat} : look g w = some x ↔ (w, x) ∈ g := by
  induction g with
  | nil => exact ⟨fun h => (by cases h), fun h => absurd h (by simp)⟩
  | cons p r ih =>
    obtain ⟨n1, n2⟩ := List.nodup_cons.mp hn
    have e0 : look (p :: r) w = if p.1 = w then some p.2 else look r w := rfl
    rw [e0]
    by_cases e : p.1 = w
    · rw [if_pos e]
      constructor
      · intro h
        rw [← e, ← Option.some.inj h]
        exact List.mem_cons_self
      · intro h
        rcases List.mem_cons.mp h with h | h
        · rw [← h]
        · exact absurd (List.mem_map.mpr ⟨_, h, e.symm⟩) n1
    · rw [if_neg e, ih n2]
      constructor
      · exact List.mem_cons_of_mem _
      · intro h
        rcases List.mem_cons.mp h with h | h
        · exact absurd (by rw [← h]) e
        · exact h
theorem form_same {N : Nat} {ps qs : Ps} (h : ∀ a ∈ AW N, coef ps a = coef qs a) : form N ps = form N qs := by
  unfold form
  exact fmap_congr fun a ha => by rw [h a ha]
theorem filter_same {P Q : Wd → Bool} : ∀ l : List Wd, (∀ a ∈ l, P a = true → Q a = true) → (l.filter P).length ≤ (l.filter Q).length ∧ ((l.filter P).length = (l.filter Q).length → ∀ a ∈ l, P a = Q a)
  | [], _ => ⟨Nat.le_refl _, fun _ a ha => absurd ha (by simp)⟩
  | b :: l, h => by
    obtain ⟨i1, i2⟩ := filter_same (P := P) (Q := Q) l fun a ha => h a (List.mem_cons_of_mem _ ha)
    have hb := h b List.mem_cons_self
    rw [List.filter_cons, List.filter_cons]
    cases hp : P b with
    | true =>
      rw [hb hp]
      simp only [if_true, List.length_cons]
      refine ⟨by omega, fun e a ha => ?_⟩
      rcases List.mem_cons.mp ha with rfl | ha
      · rw [hp, hb hp]
      · exact i2 (by omega) a ha
    | false =>
      cases hq : Q b with
      | true =>
        simp only [Bool.false_eq_true, if_false, if_true, List.length_cons]
        exact ⟨by omega, fun e => by omega⟩
      | false =>
        simp only [Bool.false_eq_true, if_false]
        refine ⟨i1, fun e a ha => ?_⟩
        rcases List.mem_cons.mp ha with rfl | ha
        · rw [hp, hq]
        · exact i2 e a ha
/-- what is asked, pair by pair, is whether the forms are the same -/
theorem form_eq_bool (N : Nat) (ps qs : Ps) : ((form N ps).length == (form N qs).length && (form N ps).all fun p => decide (look (form N qs) p.1 = some p.2)) = decide (form N ps = form N qs) := by
  by_cases e : form N ps = form N qs
  · rw [decide_eq_true e, e]
    rw [Bool.and_eq_true]
    refine ⟨by simp, List.all_eq_true.mpr fun p hp => decide_eq_true ((look_mem (form_nodup N qs)).mpr hp)⟩
  · rw [decide_eq_false e]
    cases hb : ((form N ps).length == (form N qs).length && (form N ps).all fun p => decide (look (form N qs) p.1 = some p.2)) with
    | false => rfl
    | true =>
      refine absurd ?_ e
      rw [Bool.and_eq_true] at hb
      obtain ⟨h1, h2⟩ := hb
      have hl : (form N ps).length = (form N qs).length := eq_of_beq h1
      have sub : ∀ p ∈ form N ps, p ∈ form N qs := fun p hp => (look_mem (form_nodup N qs)).mp (of_decide_eq_true (List.all_eq_true.mp h2 p hp))
      have hk : ((AW N).filter fun a => decide (coef ps a ≠ 0)).length = ((AW N).filter fun a => decide (coef qs a ≠ 0)).length := by
        rw [← keys_form, ← keys_form]
        unfold keys
        rw [List.length_map, List.length_map]
        exact hl
      have imp : ∀ a ∈ AW N, decide (coef ps a ≠ 0) = true → decide (coef qs a ≠ 0) = true := fun a ha z => by
        have m : (a, coef ps a) ∈ form N ps := mem_form.mpr ⟨ha, of_decide_eq_true z, rfl⟩
        exact decide_eq_true (mem_form.mp (sub _ m)).2.1
      have same := (filter_same (AW N) imp).2 hk
      refine form_same fun a ha => ?_
      by_cases z : coef ps a = 0
      · have z1 := same a ha
        rw [decide_eq_false (fun w => w z)] at z1
        have z2 := of_decide_eq_false z1.symm
        rw [z]
        exact (Classical.not_not.mp z2).symm
      · have m : (a, coef ps a) ∈ form N ps := mem_form.mpr ⟨ha, z, rfl⟩
        exact (mem_form.mp (sub _ m)).2.2
end FoWd

set_option maxHeartbeats 1000000
namespace FoWd
/-! ### pairs added to a table, their words as they are -/
def addTo (t : Ps) (w : Wd) (y : Rat) : Ps := put t w ((look t w).getD 0 + y)
def accum (t : Ps) (ps : Ps) : Ps := ps.foldl (fun t p => addTo t p.1 p.2) t
theorem coef_cons {p : Wd × Rat} {r : Ps} {a : Wd} : coef (p :: r) a = p.2 * ind a p.1 + coef r a := rfl
theorem coef_addTo {t : Ps} {w a : Wd} {y : Rat} (hn : (keys t).Nodup) : coef (addTo t w y) a = coef t a + y * ind a w := by
  unfold addTo
  induction t with
  | nil =>
    show (0 + y) * ind a w + 0 = 0 + y * ind a w
    grind
  | cons p r ih =>
    obtain ⟨n1, n2⟩ := List.nodup_cons.mp hn
    by_cases e : p.1 = w
    · have e1 : look (p :: r) w = some p.2 := by
        show (if p.1 = w then some p.2 else look r w) = _
        rw [if_pos e]
      have e2 : ∀ x, put (p :: r) w x = (w, x) :: r := fun x => by
        show (if p.1 = w then (w, x) :: r else p :: put r w x) = _
        rw [if_pos e]
      rw [e1, e2, coef_cons, coef_cons, e]
      show (p.2 + y) * ind a w + _ = _
      grind
    · have e1 : look (p :: r) w = look r w := by
        show (if p.1 = w then some p.2 else look r w) = _
        rw [if_neg e]
      have e2 : ∀ x, put (p :: r) w x = p :: put r w x := fun x => by
        show (if p.1 = w then (w, x) :: r else p :: put r w x) = _
        rw [if_neg e]
      rw [e1, e2, coef_cons, coef_cons, ih n2]
      grind
theorem accum_snoc (t ps : Ps) (p : Wd × Rat) : accum t (ps ++ [p]) = addTo (accum t ps) p.1 p.2 := by
  unfold accum
  rw [List.foldl_append]
  rfl
theorem accum_take {t ps : Ps} {i : Nat} {p : Wd × Rat} (h : ps[i]? = some p) : accum t (ps.take (i + 1)) = addTo (accum t (ps.take i)) p.1 p.2 := by
  rw [List.take_add_one, h]
  exact accum_snoc _ _ _
theorem accum_all {t : Ps} (hn : (keys t).Nodup) : ∀ ps : Ps, (keys (accum t ps)).Nodup ∧ (∀ a, coef (accum t ps) a = coef t a + coef ps a) ∧ (accum t ps).length ≤ t.length + ps.length ∧ ∀ w ∈ keys (accum t ps), w ∈ keys t ∨ w ∈ keys ps := by
  intro ps
  induction ps generalizing t with
  | nil => exact ⟨hn, fun a => by show coef t a = coef t a + 0; grind, Nat.le_refl _, fun w h => .inl h⟩
  | cons p ps ih =>
    have n1 : (keys (addTo t p.1 p.2)).Nodup := put_nodup hn
    obtain ⟨h1, h2, h3, h4⟩ := ih n1
    refine ⟨h1, fun a => ?_, ?_, fun w hw => ?_⟩
    · show coef (accum (addTo t p.1 p.2) ps) a = _
      rw [h2, coef_addTo hn, coef_cons]
      grind
    · show (accum (addTo t p.1 p.2) ps).length ≤ _
      have z : (addTo t p.1 p.2).length ≤ t.length + 1 := put_len
      rw [List.length_cons]
      omega
    · rcases h4 w hw with h | h
      · unfold addTo at h
        rw [keys_put] at h
        split at h
        · exact .inl h
        · rcases List.mem_append.mp h with h | h
          · exact .inl h
          · rw [List.mem_singleton.mp h]
            exact .inr List.mem_cons_self
      · exact .inr (List.mem_cons_of_mem _ h)
theorem le_keys {N : Nat} {f : Ps} : Le N f ↔ ∀ w ∈ keys f, w.length ≤ N := by
  constructor
  · intro h w hw
    obtain ⟨p, hp, rfl⟩ := List.mem_map.mp hw
    exact h p hp
  · intro h p hp
    exact h p.1 (List.mem_map.mpr ⟨p, hp, rfl⟩)
theorem le_accum {N : Nat} {t ps : Ps} (hn : (keys t).Nodup) (ht : Le N t) (hp : Le N ps) : Le N (accum t ps) := le_keys.mpr fun w hw => ((accum_all hn ps).2.2.2 w hw).elim (le_keys.mp ht w) (le_keys.mp hp w)
theorem form_accum {N : Nat} {t ps : Ps} (hn : (keys t).Nodup) : form N (accum t ps) = form N (t ++ ps) := form_ext fun a => by rw [(accum_all hn ps).2.1, coef_app]
end FoWd

set_option maxHeartbeats 1000000
namespace FoWd
/-! ### numbers over one bottom -/
def Ov (N B : Nat) (x : Rat) : Prop := ∃ z : Int, z.natAbs ≤ B ∧ x * (N : Rat) = (z : Rat)
theorem Ov.mono {N B C : Nat} {x : Rat} (h : Ov N B x) (l : B ≤ C) : Ov N C x := by
  obtain ⟨z, e1, e2⟩ := h
  exact ⟨z, by omega, e2⟩
theorem Ov.add {N B C : Nat} {x y : Rat} (h : Ov N B x) (g : Ov N C y) : Ov N (B + C) (x + y) := by
  obtain ⟨z, e1, e2⟩ := h
  obtain ⟨u, f1, f2⟩ := g
  refine ⟨z + u, by omega, ?_⟩
  rw [Rat.add_mul, e2, f2, Rat.intCast_add]
theorem Ov.neg {N B : Nat} {x : Rat} (h : Ov N B x) : Ov N B (-x) := by
  obtain ⟨z, e1, e2⟩ := h
  exact ⟨-z, by omega, by rw [Rat.neg_mul, e2, Rat.intCast_neg]⟩
theorem Ov.mul {N M B C : Nat} {x y : Rat} (h : Ov N B x) (g : Ov M C y) : Ov (N * M) (B * C) (x * y) := by
  obtain ⟨z, e1, e2⟩ := h
  obtain ⟨u, f1, f2⟩ := g
  refine ⟨z * u, by rw [Int.natAbs_mul]; exact Nat.mul_le_mul e1 f1, ?_⟩
  rw [Rat.intCast_mul, ← e2, ← f2, Rat.natCast_mul]
  grind
theorem Ov.zero {N B : Nat} : Ov N B 0 := ⟨0, Nat.zero_le _, by rw [Rat.zero_mul]; rfl⟩
theorem Ov.one {N : Nat} : Ov N N 1 := ⟨N, by simp, by rw [Rat.one_mul]; rfl⟩
theorem Ov.scale {N B M : Nat} {x : Rat} (h : Ov N B x) : Ov (N * M) (B * M) x := by
  have := h.mul (Ov.one (N := M))
  rwa [Rat.mul_one] at this
theorem natq_ne {N : Nat} (h : 0 < N) : (N : Rat) ≠ 0 := fun c => by
  have : N = 0 := by exact_mod_cast c
  omega
theorem Ov.sz {N B k : Nat} {x : Rat} (h : Ov N B x) (n0 : 0 < N) (n1 : N < 2 ^ k) (b1 : B < 2 ^ k) : FoQ.SzR k x := by
  obtain ⟨z, e1, e2⟩ := h
  have e : x = Rat.divInt z (N : Int) := by
    have e3 : Rat.divInt z (N : Int) = (z : Rat) / (N : Rat) := by
      rw [Rat.divInt_eq_div]
      rfl
    rw [e3, ← e2, Rat.mul_div_cancel (natq_ne n0)]
  rw [e]
  exact FoQ.SzR.divInt (by omega) (by show z.natAbs < _; omega) (by show (N : Int).natAbs < _; rw [Int.natAbs_natCast]; exact n1)
/-- all numbers of a list of pairs -/
def AllOv (N B : Nat) (ps : Ps) : Prop := ∀ p ∈ ps, Ov N B p.2
theorem AllOv.mono {N B C : Nat} {ps : Ps} (h : AllOv N B ps) (l : B ≤ C) : AllOv N C ps := fun p hp => (h p hp).mono l
theorem coef_ov {N B : Nat} {ps : Ps} (h : AllOv N B ps) (a : Wd) : Ov N (ps.length * B) (coef ps a) := by
  induction ps with
  | nil => exact Ov.zero
  | cons p r ih =>
    have i1 := ih fun q hq => h q (List.mem_cons_of_mem _ hq)
    have i2 := h p List.mem_cons_self
    rw [coef_cons, List.length_cons, Nat.succ_mul, Nat.add_comm (r.length * B) B]
    refine Ov.add ?_ i1
    unfold ind
    split
    · rw [Rat.mul_one]; exact i2
    · rw [Rat.mul_zero]; exact Ov.zero
theorem AllOv.form {N B M : Nat} {ps : Ps} (h : AllOv N B ps) : AllOv N (ps.length * B) (form M ps) := fun p hp => by
  rw [(mem_form.mp hp).2.2]
  exact coef_ov h _
theorem AllOv.app {N B : Nat} {ps qs : Ps} (h : AllOv N B ps) (g : AllOv N B qs) : AllOv N B (ps ++ qs) := fun p hp => (List.mem_append.mp hp).elim (h p) (g p)
theorem AllOv.turn {N B : Nat} {ps : Ps} (h : AllOv N B ps) : AllOv N B (turn ps) := fun p hp => by
  obtain ⟨q, hq, rfl⟩ := List.mem_map.mp hp
  exact h q hq
theorem AllOv.times {N B M C : Nat} {c : Rat} {ps : Ps} (hc : Ov M C c) (h : AllOv N B ps) : AllOv (M * N) (C * B) (scl c ps) := fun p hp => by
  obtain ⟨q, hq, rfl⟩ := List.mem_map.mp hp
  exact hc.mul (h q hq)
theorem AllOv.opp {N B : Nat} {ps : Ps} (h : AllOv N B ps) : AllOv N B (scl (-1) ps) := fun p hp => by
  obtain ⟨q, hq, rfl⟩ := List.mem_map.mp hp
  have e : (-1 : Rat) * q.2 = -q.2 := by grind
  show Ov N B (-1 * q.2)
  rw [e]
  exact (h q hq).neg
theorem AllOv.mul {N B M C : Nat} {ps qs : Ps} (h : AllOv N B ps) (g : AllOv M C qs) : AllOv (N * M) (B * C) (mul ps qs) := fun p hp => by
  obtain ⟨x, hx, hp⟩ := List.mem_flatMap.mp hp
  obtain ⟨y, hy, rfl⟩ := List.mem_map.mp hp
  exact (h x hx).mul (g y hy)
theorem AllOv.take {N B i : Nat} {ps : Ps} (h : AllOv N B ps) : AllOv N B (ps.take i) := fun p hp => h p (List.mem_of_mem_take hp)
theorem look_ov {N B : Nat} {t : Ps} (h : AllOv N B t) (w : Wd) : Ov N B ((look t w).getD 0) := by
  induction t with
  | nil => exact Ov.zero
  | cons p r ih =>
    show Ov N B ((if p.1 = w then some p.2 else look r w).getD 0)
    split
    · exact h p List.mem_cons_self
    · exact ih fun q hq => h q (List.mem_cons_of_mem _ hq)
theorem accum_look {N B : Nat} {ps : Ps} (hp : AllOv N B ps) : ∀ {C : Nat} {t : Ps}, (∀ w, Ov N C ((look t w).getD 0)) → ∀ w, Ov N (C + ps.length * B) ((look (accum t ps) w).getD 0) := by
  induction ps with
  | nil =>
    intro C t h w
    exact (h w).mono (Nat.le_add_right _ _)
  | cons p r ih =>
    intro C t h w
    have hx := hp p List.mem_cons_self
    have z := ih (fun q hq => hp q (List.mem_cons_of_mem _ hq)) (C := C + B) (t := addTo t p.1 p.2) (fun v => by
      unfold addTo
      rw [look_put]
      split
      · exact (h p.1).add hx
      · exact (h v).mono (Nat.le_add_right _ _)) w
    show Ov N _ ((look (accum (addTo t p.1 p.2) r) w).getD 0)
    rw [List.length_cons, Nat.succ_mul]
    exact z.mono (by omega)
theorem accum_ov {N B C : Nat} {t ps : Ps} (hn : (keys t).Nodup) (ht : AllOv N C t) (hp : AllOv N B ps) : AllOv N (C + ps.length * B) (accum t ps) := fun p h => by
  have e := (look_mem (accum_all hn ps).1).mpr h
  have z := accum_look hp (look_ov ht) p.1
  rw [e] at z
  exact z
theorem aw_len : ∀ n, (AW n).length = 2 * n + 1
  | 0 => rfl
  | n + 1 => by
    show (AW n ++ [_, _]).length = _
    rw [List.length_append, aw_len n]
    rfl
theorem form_len (N : Nat) (ps : Ps) : (form N ps).length ≤ 2 * N + 1 := by
  rw [← aw_len N]
  exact List.length_filterMap_le _ _
theorem mul_len (f g : Ps) : (mul f g).length = f.length * g.length := by
  induction f with
  | nil => exact (Nat.zero_mul _).symm
  | cons a r ih =>
    show (g.map _ ++ mul r g).length = _
    rw [List.length_append, List.length_map, ih, List.length_cons, Nat.succ_mul, Nat.add_comm]
end FoWd

set_option maxHeartbeats 1000000
namespace FoWd
open PySem PySem.Spec PyProof.Rows
/-! ### words of one length among sorted ones -/
theorem rising_pw : ∀ (l : List Str) (p : Str), risingS p l = true → (p :: l).Pairwise fun x y => ¬ TL.tl y < TL.tl x
  | [], p, _ => List.pairwise_singleton _ _
  | x :: r, p, h => by
    have h' : (!ltCps x.cps.toList p.cps.toList && risingS x r) = true := h
    rw [Bool.and_eq_true] at h'
    obtain ⟨h1, h2⟩ := h'
    have ih := rising_pw r x h2
    have h1 : ¬ TL.tl x < TL.tl p := by
      rw [ltCps_eq] at h1
      simpa using h1
    refine List.pairwise_cons.mpr ⟨fun y hy => ?_, ih⟩
    rcases List.mem_cons.mp hy with rfl | hy
    · exact h1
    · have h3 := (List.pairwise_cons.mp ih).1 y hy
      exact List.not_lt.mpr (List.le_trans (List.not_lt.mp h1) (List.not_lt.mp h3))
theorem sortedS_pw {l : List Str} (h : sortedS l = true) : l.Pairwise fun x y => ¬ TL.tl y < TL.tl x := by
  cases l with
  | nil => exact List.Pairwise.nil
  | cons x r => exact rising_pw r x h
def untx (s : Str) : Wd := s.cps.toList.map fun c => decide (c = 112)
theorem untx_tx (w : Wd) : untx (tx w) = w := by
  show (w.map lcode).map _ = w
  rw [List.map_map]
  refine (List.map_congr_left fun b _ => ?_).trans (List.map_id _)
  cases b <;> rfl
theorem perm_tx {l : List Str} {k : List Wd} (h : l.Perm (k.map tx)) : ∃ k' : List Wd, k'.Perm k ∧ l = k'.map tx := by
  refine ⟨l.map untx, ?_, ?_⟩
  · have := h.map untx
    rw [List.map_map] at this
    have e : k.map (untx ∘ tx) = k := (List.map_congr_left fun b _ => untx_tx b).trans (List.map_id _)
    rwa [e] at this
  · rw [List.map_map]
    refine ((List.map_congr_left fun s hs => ?_).trans (List.map_id _)).symm
    obtain ⟨w, _, rfl⟩ := List.mem_map.mp (h.mem_iff.mp hs)
    show tx (untx (tx w)) = _
    rw [untx_tx]
    rfl
theorem keys_len {N : Nat} {ps : Ps} (h : Le N ps) : (keys (gath ps)).length ≤ 2 * N + 1 := by
  have p : (keys (gath ps)).Perm (ordered N ps) := (List.perm_ext_iff_of_nodup (gath_all ps).1 (List.Nodup.sublist List.filter_sublist (AW_nodup N))).mpr fun a => by
    rw [List.mem_filter]
    exact ⟨fun h2 => ⟨gath_aw h a h2, decide_eq_true h2⟩, fun h2 => of_decide_eq_true h2.2⟩
  rw [p.length_eq, ← aw_len N]
  exact List.length_filter_le _ _
/-- the words of the length s, sorted -/
theorem slice {N s : Nat} {ps : Ps} {k' : List Wd} (h : Le N ps) (hp : k'.Perm (keys (gath ps))) (hs : sortedS (k'.map tx) = true) : k'.filter (fun a => decide (a.length = s)) = (ordered N ps).filter fun a => decide (a.length = s) := by
  have pw := sortedS_pw hs
  have nd : k'.Nodup := hp.nodup_iff.mpr (gath_all ps).1
  have a1 := sorted_aw (N := N) (ks := k'.filter fun a => decide (a.length = s)) (l := (k'.filter fun a => decide (a.length = s)).map tx) (List.Nodup.sublist List.filter_sublist nd)
    (fun a ha => gath_aw h a (hp.mem_iff.mp (List.mem_filter.mp ha).1)) (List.Perm.refl _) (by
      have q : ((k'.filter fun a => decide (a.length = s)).map tx).Pairwise fun x y => ¬ TL.tl y < TL.tl x := List.Pairwise.sublist (List.Sublist.map tx List.filter_sublist) pw
      refine List.Pairwise.imp_of_mem (fun {x y} hx hy e => ?_) q
      obtain ⟨u, hu, rfl⟩ := List.mem_map.mp hx
      obtain ⟨v, hv, rfl⟩ := List.mem_map.mp hy
      refine .inr ⟨?_, e⟩
      rw [tx_len, tx_len, of_decide_eq_true (List.mem_filter.mp hu).2, of_decide_eq_true (List.mem_filter.mp hv).2])
  have inj : ∀ {x y : List Wd}, x.map tx = y.map tx → x = y := fun {x y} e => by
    have := congrArg (List.map untx) e
    rw [List.map_map, List.map_map] at this
    have i1 : ∀ z : List Wd, z.map (untx ∘ tx) = z := fun z => (List.map_congr_left fun b _ => untx_tx b).trans (List.map_id _)
    rwa [i1, i1] at this
  rw [inj a1]
  unfold ordered
  rw [List.filter_filter]
  refine List.filter_congr fun a ha => ?_
  rw [Bool.eq_iff_iff]
  simp only [Bool.and_eq_true, decide_eq_true_eq, List.mem_filter]
  constructor
  · intro ⟨h1, h2⟩
    exact ⟨h2, hp.mem_iff.mp h1⟩
  · intro ⟨h1, h2⟩
    exact ⟨hp.mem_iff.mpr h2, h1⟩
/-- the entries of one length -/
def sel (ps : Ps) (s : Nat) (a : Wd) : Option (Wd × Rat) := if a.length = s then (if coef ps a = 0 then none else some (a, coef ps a)) else none
theorem sel_slice {N s : Nat} {ps : Ps} {k' : List Wd} (h : Le N ps) (hp : k'.Perm (keys (gath ps))) (hs : sortedS (k'.map tx) = true) : k'.filterMap (sel ps s) = (form N ps).filter fun p => decide (p.1.length = s) := by
  have e1 : ∀ l : List Wd, l.filterMap (sel ps s) = (l.filter fun a => decide (a.length = s)).filterMap fun a => if coef ps a = 0 then none else some (a, coef ps a) := fun l => by
    rw [List.filterMap_filter]
    refine fmap_congr fun a _ => ?_
    unfold sel
    by_cases c : a.length = s
    · rw [if_pos c, if_pos (decide_eq_true c)]
    · rw [if_neg c, if_neg (by simpa using c)]
  rw [e1, slice h hp hs, form_ordered, ← e1]
  generalize ordered N ps = l
  induction l with
  | nil => rfl
  | cons a l ih =>
    rw [List.filterMap_cons, List.filterMap_cons]
    by_cases c : a.length = s
    · by_cases z : coef ps a = 0
      · have : sel ps s a = none := by unfold sel; rw [if_pos c, if_pos z]
        rw [this, if_pos z]
        exact ih
      · have : sel ps s a = some (a, coef ps a) := by unfold sel; rw [if_pos c, if_neg z]
        rw [this, if_neg z, List.filter_cons, if_pos (decide_eq_true c)]
        show _ :: _ = _ :: _
        rw [ih]
    · have : sel ps s a = none := by unfold sel; rw [if_neg c]
      rw [this]
      by_cases z : coef ps a = 0
      · rw [if_pos z]; exact ih
      · rw [if_neg z, List.filter_cons, if_neg (by simpa using c)]
        exact ih
/-- shorter than s -/
def below (s : Nat) (f : Ps) : Ps := f.filter fun p => decide (p.1.length < s)
theorem below_zero (f : Ps) : below 0 f = [] := by
  unfold below
  rw [List.filter_eq_nil_iff]
  intro p _
  simp
theorem below_all {s : Nat} {f : Ps} (h : ∀ p ∈ f, p.1.length < s) : below s f = f := by
  unfold below
  rw [List.filter_eq_self]
  intro p hp
  exact decide_eq_true (h p hp)
theorem below_next {s : Nat} {f : Ps} (h : f.Pairwise fun p q => p.1.length ≤ q.1.length) : below (s + 1) f = below s f ++ f.filter fun p => decide (p.1.length = s) := by
  unfold below
  induction f with
  | nil => rfl
  | cons p r ih =>
    obtain ⟨h1, h2⟩ := List.pairwise_cons.mp h
    rw [List.filter_cons, List.filter_cons, List.filter_cons, ih h2]
    by_cases c1 : p.1.length < s
    · rw [if_pos (decide_eq_true (by omega : p.1.length < s + 1)), if_pos (decide_eq_true c1), if_neg (by simp; omega)]
      rfl
    · have e : r.filter (fun p => decide (p.1.length < s)) = [] := by
        rw [List.filter_eq_nil_iff]
        intro q hq
        have := h1 q hq
        simp
        omega
      rw [e, if_neg (show ¬ decide (p.1.length < s) = true by simpa using c1)]
      by_cases c2 : p.1.length = s
      · rw [if_pos (decide_eq_true (by omega : p.1.length < s + 1)), if_pos (decide_eq_true c2)]
        rfl
      · rw [if_neg (show ¬ decide (p.1.length < s + 1) = true by simp; omega), if_neg (show ¬ decide (p.1.length = s) = true by simpa using c2)]
theorem form_rising (N : Nat) (ps : Ps) : (form N ps).Pairwise fun p q => p.1.length ≤ q.1.length := by
  have h := le2_aw N
  rw [List.pairwise_map] at h
  have k : (keys (form N ps)).Pairwise fun a b => a.length ≤ b.length := by
    rw [keys_form]
    refine List.Pairwise.sublist List.filter_sublist (h.imp fun {a b} e => ?_)
    rcases e with e | ⟨e, _⟩ <;> rw [tx_len, tx_len] at e <;> omega
  unfold keys at k
  rw [List.pairwise_map] at k
  exact k
end FoWd

set_option maxHeartbeats 4100000
namespace Fo
open PySem PySem.Spec PyProof.Rows L2
/-! ### the value of rows with numbers -/
open FoWd
section
variable {n : Nat} {P Q : List (List Rat)}
/-- the product of the tables of a word's letters -/
def prodW (n : Nat) (P Q : List (List Rat)) : Wd → List (List Rat)
  | [] => tunit n
  | b :: w => tmul (if b then P else Q) (prodW n P Q w)
theorem prodW_sq (hP : SqN n P) (hQ : SqN n Q) : ∀ w, SqN n (prodW n P Q w)
  | [] => SqN.tab _ _
  | b :: w => by
    show SqN n (tmul _ _)
    refine SqN.mul ?_ (prodW_sq hP hQ w)
    cases b
    · exact hQ
    · exact hP
theorem tmul_unitL {m : List (List Rat)} (h : SqN n m) : tmul (tunit n) m = m := by
  conv => rhs; rw [h.eta]
  rw [tmul_tab (show SqN n (tunit n) from SqN.tab _ _) h]
  refine tab_congr fun i j hi hj => ?_
  show sm (fun c => ent (tunit n) i c * ent m c j) n = ent m i j
  rw [sm_congr n (g := fun c => (if i = c then (1 : Rat) else 0) * ent m c j) fun c hc => by unfold tunit; rw [ent_tab hi hc]]
  exact sm_pick n i hi fun x => ent m x j
theorem sm_pick2 (n c : Nat) (hc : c < n) (f : Nat → Rat) : sm (fun x => f x * (if x = c then (1 : Rat) else 0)) n = f c := by
  rw [sm_congr n (g := fun x => (if c = x then (1 : Rat) else 0) * f x) fun x _ => by
    by_cases e : x = c
    · rw [if_pos e, if_pos e.symm, Rat.mul_comm]
    · rw [if_neg e, if_neg (fun z => e z.symm), Rat.mul_comm]]
  exact sm_pick n c hc f
theorem tmul_unitR {m : List (List Rat)} (h : SqN n m) : tmul m (tunit n) = m := by
  conv => rhs; rw [h.eta]
  rw [tmul_tab h (show SqN n (tunit n) from SqN.tab _ _)]
  refine tab_congr fun i j hi hj => ?_
  show sm (fun c => ent m i c * ent (tunit n) c j) n = ent m i j
  rw [sm_congr n (g := fun c => ent m i c * (if c = j then (1 : Rat) else 0)) fun c hc => by unfold tunit; rw [ent_tab hc hj]]
  exact sm_pick2 n j hj fun x => ent m i x
theorem tmul_assoc {a b c : List (List Rat)} (ha : SqN n a) (hb : SqN n b) (hc : SqN n c) : tmul (tmul a b) c = tmul a (tmul b c) := by
  rw [tmul_tab (ha.mul hb) hc, tmul_tab ha (hb.mul hc)]
  refine tab_congr fun i j hi hj => ?_
  have e1 : mM n (ent (tmul a b)) (ent c) i j = mM n (mM n (ent a) (ent b)) (ent c) i j := mM_congr (fun d hd => by rw [tmul_tab ha hb, ent_tab hi hd]) (fun _ _ => rfl)
  have e2 : mM n (ent a) (ent (tmul b c)) i j = mM n (ent a) (mM n (ent b) (ent c)) i j := mM_congr (fun _ _ => rfl) (fun d hd => by rw [tmul_tab hb hc, ent_tab hd hj])
  rw [e1, e2, mM_assoc]
theorem prodW_app (hP : SqN n P) (hQ : SqN n Q) (v : Wd) : ∀ w, prodW n P Q (w ++ v) = tmul (prodW n P Q w) (prodW n P Q v)
  | [] => (tmul_unitL (prodW_sq hP hQ v)).symm
  | b :: w => by
    show tmul _ (prodW n P Q (w ++ v)) = tmul (tmul _ _) _
    rw [prodW_app hP hQ v w, tmul_assoc ?_ (prodW_sq hP hQ w) (prodW_sq hP hQ v)]
    cases b
    · exact hQ
    · exact hP
theorem prodW_one (hP : SqN n P) (hQ : SqN n Q) (b : Bool) : prodW n P Q [b] = if b then P else Q := by
  show tmul _ (tunit n) = _
  cases b
  · exact tmul_unitR hQ
  · exact tmul_unitR hP
theorem prodW_snoc (hP : SqN n P) (hQ : SqN n Q) (w : Wd) (b : Bool) : prodW n P Q (w ++ [b]) = tmul (prodW n P Q w) (if b then P else Q) := by
  rw [prodW_app hP hQ, prodW_one hP hQ]
/-- letters side by side twice change nothing -/
theorem prodW_sh (hP : SqN n P) (hQ : SqN n Q) (fP : tmul P P = P) (fQ : tmul Q Q = Q) : ∀ w, prodW n P Q (sh w) = prodW n P Q w := by
  refine snoc_ind rfl fun w c ih => ?_
  rw [sh_snoc, prodW_snoc hP hQ]
  by_cases h : (sh w).getLast? = some c
  · rw [shF_same h, ← ih]
    obtain ⟨s', hs⟩ : ∃ s', sh w = s' ++ [c] := by
      have hne : sh w ≠ [] := by intro e; rw [e] at h; simp at h
      refine ⟨(sh w).dropLast, ?_⟩
      rw [List.getLast?_eq_some_getLast hne] at h
      have := List.dropLast_concat_getLast hne
      rw [Option.some.inj h] at this
      exact this.symm
    have sX : SqN n (if c then P else Q) := by
      cases c
      · exact hQ
      · exact hP
    rw [hs, prodW_snoc hP hQ, tmul_assoc (prodW_sq hP hQ _) sX sX]
    congr 1
    cases c
    · exact fQ.symm
    · exact fP.symm
  · rw [show shF (sh w) c = sh w ++ [c] by unfold shF; rw [if_neg h], prodW_snoc hP hQ, ih]
/-- an entry of the value of rows with numbers -/
def vent (n : Nat) (P Q : List (List Rat)) (ps : Ps) (i j : Nat) : Rat := lin (fun w => ent (prodW n P Q w) i j) ps
def tval (n : Nat) (P Q : List (List Rat)) (ps : Ps) : List (List Rat) := tab n (vent n P Q ps)
theorem tval_sq (ps : Ps) : SqN n (tval n P Q ps) := SqN.tab _ _
theorem tval_ent {ps : Ps} {i j : Nat} (hi : i < n) (hj : j < n) : ent (tval n P Q ps) i j = vent n P Q ps i j := ent_tab hi hj
theorem vent_form (hP : SqN n P) (hQ : SqN n Q) (fP : tmul P P = P) (fQ : tmul Q Q = Q) {N : Nat} {ps : Ps} (h : Le N ps) (i j : Nat) : vent n P Q (form N ps) i j = vent n P Q ps i j := by
  unfold vent
  rw [lin_form h]
  exact lin_congr fun p _ => by rw [prodW_sh hP hQ fP fQ]
theorem tval_form (hP : SqN n P) (hQ : SqN n Q) (fP : tmul P P = P) (fQ : tmul Q Q = Q) {N : Nat} {ps : Ps} (h : Le N ps) : tval n P Q (form N ps) = tval n P Q ps := tab_congr fun i j _ _ => vent_form hP hQ fP fQ h i j
/-- the sum over the alternating words of up to k letters -/
def psum (n : Nat) (P Q : List (List Rat)) (ps : Ps) (k : Nat) (i j : Nat) : Rat := sumA (fun a => coef ps a * ent (prodW n P Q a) i j) (AW k)
theorem sumA_app {F : Wd → Rat} {l m : List Wd} : sumA F (l ++ m) = sumA F l + sumA F m := by
  induction l with
  | nil => show sumA F m = 0 + sumA F m; grind
  | cons a l ih =>
    show F a + sumA F (l ++ m) = F a + sumA F l + sumA F m
    rw [ih]
    grind
theorem psum_zero (ps : Ps) (i j : Nat) : psum n P Q ps 0 i j = coef ps [] * ent (tunit n) i j := by
  show coef ps [] * ent (prodW n P Q []) i j + 0 = _
  rw [Rat.add_zero]
  rfl
theorem psum_next (ps : Ps) (k i j : Nat) : psum n P Q ps (k + 1) i j = psum n P Q ps k i j + coef ps (alt true (k + 1)) * ent (prodW n P Q (alt true (k + 1))) i j + coef ps (alt false (k + 1)) * ent (prodW n P Q (alt false (k + 1))) i j := by
  unfold psum
  show sumA _ (AW k ++ [alt true (k + 1), alt false (k + 1)]) = _
  rw [sumA_app]
  show _ + (_ + (_ + 0)) = _
  grind
theorem psum_all {N : Nat} {ps : Ps} (i j : Nat) : psum n P Q ps N i j = vent n P Q (form N ps) i j := (lin_fm (AW N)).symm
theorem psum_stop {N d : Nat} {ps : Ps} (h : ∀ b k, d < k → k ≤ N → coef ps (alt b k) = 0) (hd : d ≤ N) (i j : Nat) : psum n P Q ps d i j = psum n P Q ps N i j := by
  have key : ∀ k, d + k ≤ N → psum n P Q ps (d + k) i j = psum n P Q ps d i j := by
    intro k
    induction k with
    | zero => intro _; rfl
    | succ k ih =>
      intro hk
      rw [← Nat.add_assoc, psum_next, ih (by omega), h _ _ (by omega) (by omega), h _ _ (by omega) (by omega)]
      grind
  have := key (N - d) (by omega)
  rw [show d + (N - d) = N by omega] at this
  exact this.symm
theorem tmul_tval (hP : SqN n P) (hQ : SqN n Q) (ps qs : Ps) : tval n P Q (mul ps qs) = tmul (tval n P Q ps) (tval n P Q qs) := by
  rw [tmul_tab (tval_sq ps) (tval_sq qs)]
  refine tab_congr fun i j hi hj => ?_
  show lin _ (mul ps qs) = sm (fun c => ent (tval n P Q ps) i c * ent (tval n P Q qs) c j) n
  rw [sm_congr n (g := fun c => vent n P Q ps i c * vent n P Q qs c j) fun c hc => by rw [tval_ent hi hc, tval_ent hc hj], lin_mul]
  have e : ∀ w v : Wd, ent (prodW n P Q (w ++ v)) i j = sm (fun c => ent (prodW n P Q w) i c * ent (prodW n P Q v) c j) n := fun w v => by
    rw [prodW_app hP hQ, tmul_tab (prodW_sq hP hQ w) (prodW_sq hP hQ v), ent_tab hi hj]
    rfl
  unfold vent
  induction ps with
  | nil =>
    show (0 : Rat) = sm (fun c => 0 * _) n
    rw [sm_congr n (g := fun _ => 0) fun c _ => Rat.zero_mul _, sm_zero]
  | cons p r ih =>
    show p.2 * lin (fun v => ent (prodW n P Q (p.1 ++ v)) i j) qs + _ = sm (fun c => (p.2 * ent (prodW n P Q p.1) i c + lin (fun w => ent (prodW n P Q w) i c) r) * lin (fun w => ent (prodW n P Q w) c j) qs) n
    rw [ih]
    have e2 : lin (fun v => ent (prodW n P Q (p.1 ++ v)) i j) qs = sm (fun c => ent (prodW n P Q p.1) i c * lin (fun w => ent (prodW n P Q w) c j) qs) n := by
      clear ih
      induction qs with
      | nil =>
        show (0 : Rat) = sm (fun c => _ * 0) n
        rw [sm_congr n (g := fun _ => 0) fun c _ => Rat.mul_zero _, sm_zero]
      | cons q t ih2 =>
        show q.2 * ent (prodW n P Q (p.1 ++ q.1)) i j + _ = sm (fun c => ent (prodW n P Q p.1) i c * (q.2 * ent (prodW n P Q q.1) c j + lin (fun w => ent (prodW n P Q w) c j) t)) n
        rw [ih2, e, ← sm_mul, ← sm_add]
        exact sm_congr n fun c _ => by grind
    rw [e2, ← sm_mul, ← sm_add]
    exact sm_congr n fun c _ => by grind
theorem tval_app (ps qs : Ps) : tval n P Q (ps ++ qs) = tab n fun i j => vent n P Q ps i j + vent n P Q qs i j := tab_congr fun i j _ _ => lin_app
theorem tval_scl (c : Rat) (ps : Ps) : tval n P Q (scl c ps) = tab n fun i j => c * vent n P Q ps i j := tab_congr fun i j _ _ => lin_scl
theorem flip_prodW (hP : SqN n P) (hQ : SqN n Q) (sP : P = Fo.flip P) (sQ : Q = Fo.flip Q) : ∀ w, ∀ i j, i < n → j < n → ent (prodW n P Q w.reverse) i j = ent (prodW n P Q w) j i
  | [], i, j, hi, hj => by
    show ent (tunit n) i j = ent (tunit n) j i
    unfold tunit
    rw [ent_tab hi hj, ent_tab hj hi]
    by_cases e : i = j
    · rw [if_pos e, if_pos e.symm]
    · rw [if_neg e, if_neg (fun z => e z.symm)]
  | b :: w, i, j, hi, hj => by
    have sX : SqN n (if b then P else Q) := by
      cases b
      · exact hQ
      · exact hP
    have fl : ∀ x y, x < n → y < n → ent (if b then P else Q) x y = ent (if b then P else Q) y x := fun x y hx hy => by
      have e : (if b then P else Q) = Fo.flip (if b then P else Q) := by
        cases b
        · exact sQ
        · exact sP
      conv => lhs; rw [e]
      rw [flip_tab sX, ent_tab hx hy]
    rw [List.reverse_cons, prodW_snoc hP hQ]
    show ent (tmul _ _) i j = ent (tmul _ (prodW n P Q w)) j i
    rw [tmul_tab (prodW_sq hP hQ _) sX, tmul_tab sX (prodW_sq hP hQ w), ent_tab hi hj, ent_tab hj hi]
    refine sm_congr n fun c hc => ?_
    rw [flip_prodW hP hQ sP sQ w i c hi hc, fl c j hc hj, Rat.mul_comm]
theorem tval_turn (hP : SqN n P) (hQ : SqN n Q) (sP : P = Fo.flip P) (sQ : Q = Fo.flip Q) (ps : Ps) : tval n P Q (turn ps) = Fo.flip (tval n P Q ps) := by
  rw [flip_tab (tval_sq ps)]
  refine tab_congr fun i j hi hj => ?_
  rw [tval_ent hj hi]
  show lin _ (turn ps) = _
  rw [lin_turn]
  exact lin_congr fun p _ => flip_prodW hP hQ sP sQ p.1 i j hi hj
end

end Fo

set_option maxHeartbeats 4100000
namespace Fo
open PySem PySem.Spec PyProof.Rows L2
/-! ### planes -/
open FoWd
def planeP : List (List Rat) := [[1, 0], [0, 0]]
/-- the cosine and the sine of the plane of a number -/
def pcos (x : Rat) : Rat := (1 - x * x) / (x * x + 1)
def psin (x : Rat) : Rat := x * 2 / (x * x + 1)
def planeQ (x : Rat) : List (List Rat) := [[pcos x * pcos x, pcos x * psin x], [pcos x * psin x, psin x * psin x]]
theorem planeP_sq : SqN 2 planeP := ⟨rfl, fun i hi => by
  have : i = 0 ∨ i = 1 := by omega
  rcases this with rfl | rfl <;> rfl⟩
theorem planeQ_sq (x : Rat) : SqN 2 (planeQ x) := ⟨rfl, fun i hi => by
  have : i = 0 ∨ i = 1 := by omega
  rcases this with rfl | rfl <;> rfl⟩
theorem lin13 (x0 x1 x2 x3 x4 x5 x6 x7 x8 x9 x10 x11 x12 : Rat)
    (h0 : x0 * (1 : Rat) + x1 * (1 : Rat) + x2 * (9 / 25 : Rat) + x3 * (9 / 25 : Rat) + x4 * (9 / 25 : Rat) + x5 * (9 / 25 : Rat) + x6 * (81 / 625 : Rat) + x7 * (81 / 625 : Rat) + x8 * (81 / 625 : Rat) + x9 * (81 / 625 : Rat) + x10 * (729 / 15625 : Rat) + x11 * (729 / 15625 : Rat) + x12 * (729 / 15625 : Rat) = 0)
    (h1 : x2 * (12 / 25 : Rat) + x3 * (12 / 25 : Rat) + x6 * (108 / 625 : Rat) + x7 * (108 / 625 : Rat) + x10 * (972 / 15625 : Rat) + x11 * (972 / 15625 : Rat) = 0)
    (h2 : x2 * (12 / 25 : Rat) + x4 * (12 / 25 : Rat) + x6 * (108 / 625 : Rat) + x8 * (108 / 625 : Rat) + x10 * (972 / 15625 : Rat) + x12 * (972 / 15625 : Rat) = 0)
    (h3 : x0 * (1 : Rat) + x2 * (16 / 25 : Rat) + x6 * (144 / 625 : Rat) + x10 * (1296 / 15625 : Rat) = 0)
    (h4 : x0 * (1 : Rat) + x1 * (1 : Rat) + x2 * (16 / 25 : Rat) + x3 * (16 / 25 : Rat) + x4 * (16 / 25 : Rat) + x5 * (16 / 25 : Rat) + x6 * (256 / 625 : Rat) + x7 * (256 / 625 : Rat) + x8 * (256 / 625 : Rat) + x9 * (256 / 625 : Rat) + x10 * (4096 / 15625 : Rat) + x11 * (4096 / 15625 : Rat) + x12 * (4096 / 15625 : Rat) = 0)
    (h5 : x2 * (12 / 25 : Rat) + x3 * (12 / 25 : Rat) + x6 * (192 / 625 : Rat) + x7 * (192 / 625 : Rat) + x10 * (3072 / 15625 : Rat) + x11 * (3072 / 15625 : Rat) = 0)
    (h6 : x2 * (12 / 25 : Rat) + x4 * (12 / 25 : Rat) + x6 * (192 / 625 : Rat) + x8 * (192 / 625 : Rat) + x10 * (3072 / 15625 : Rat) + x12 * (3072 / 15625 : Rat) = 0)
    (h7 : x0 * (1 : Rat) + x2 * (9 / 25 : Rat) + x6 * (144 / 625 : Rat) + x10 * (2304 / 15625 : Rat) = 0)
    (h8 : x0 * (1 : Rat) + x1 * (1 : Rat) + x2 * (225 / 289 : Rat) + x3 * (225 / 289 : Rat) + x4 * (225 / 289 : Rat) + x5 * (225 / 289 : Rat) + x6 * (50625 / 83521 : Rat) + x7 * (50625 / 83521 : Rat) + x8 * (50625 / 83521 : Rat) + x9 * (50625 / 83521 : Rat) + x10 * (11390625 / 24137569 : Rat) + x11 * (11390625 / 24137569 : Rat) + x12 * (11390625 / 24137569 : Rat) = 0)
    (h9 : x2 * (120 / 289 : Rat) + x3 * (120 / 289 : Rat) + x6 * (27000 / 83521 : Rat) + x7 * (27000 / 83521 : Rat) + x10 * (6075000 / 24137569 : Rat) + x11 * (6075000 / 24137569 : Rat) = 0)
    (h10 : x2 * (120 / 289 : Rat) + x4 * (120 / 289 : Rat) + x6 * (27000 / 83521 : Rat) + x8 * (27000 / 83521 : Rat) + x10 * (6075000 / 24137569 : Rat) + x12 * (6075000 / 24137569 : Rat) = 0)
    (h11 : x0 * (1 : Rat) + x2 * (64 / 289 : Rat) + x6 * (14400 / 83521 : Rat) + x10 * (3240000 / 24137569 : Rat) = 0)
    (h12 : x0 * (1 : Rat) + x1 * (1 : Rat) + x2 * (144 / 169 : Rat) + x3 * (144 / 169 : Rat) + x4 * (144 / 169 : Rat) + x5 * (144 / 169 : Rat) + x6 * (20736 / 28561 : Rat) + x7 * (20736 / 28561 : Rat) + x8 * (20736 / 28561 : Rat) + x9 * (20736 / 28561 : Rat) + x10 * (2985984 / 4826809 : Rat) + x11 * (2985984 / 4826809 : Rat) + x12 * (2985984 / 4826809 : Rat) = 0)
    (h13 : x2 * (60 / 169 : Rat) + x3 * (60 / 169 : Rat) + x6 * (8640 / 28561 : Rat) + x7 * (8640 / 28561 : Rat) + x10 * (1244160 / 4826809 : Rat) + x11 * (1244160 / 4826809 : Rat) = 0)
    (h14 : x2 * (60 / 169 : Rat) + x4 * (60 / 169 : Rat) + x6 * (8640 / 28561 : Rat) + x8 * (8640 / 28561 : Rat) + x10 * (1244160 / 4826809 : Rat) + x12 * (1244160 / 4826809 : Rat) = 0)
    (h15 : x0 * (1 : Rat) + x2 * (25 / 169 : Rat) + x6 * (3600 / 28561 : Rat) + x10 * (518400 / 4826809 : Rat) = 0)
    : x0 = 0 ∧ x1 = 0 ∧ x2 = 0 ∧ x3 = 0 ∧ x4 = 0 ∧ x5 = 0 ∧ x6 = 0 ∧ x7 = 0 ∧ x8 = 0 ∧ x9 = 0 ∧ x10 = 0 ∧ x11 = 0 ∧ x12 = 0 := by
  refine ⟨?_, ?_, ?_, ?_, ?_, ?_, ?_, ?_, ?_, ?_, ?_, ?_, ?_⟩ <;> grind
theorem pv_2_0_0 : (AW 6).map (fun a => ent (prodW 2 planeP (planeQ (1 / 2)) a) 0 0) = [(1 : Rat), (1 : Rat), ((9 / 25) : Rat), ((9 / 25) : Rat), ((9 / 25) : Rat), ((9 / 25) : Rat), ((81 / 625) : Rat), ((81 / 625) : Rat), ((81 / 625) : Rat), ((81 / 625) : Rat), ((729 / 15625) : Rat), ((729 / 15625) : Rat), ((729 / 15625) : Rat)] := by decide +kernel
theorem pv_2_0_1 : (AW 6).map (fun a => ent (prodW 2 planeP (planeQ (1 / 2)) a) 0 1) = [(0 : Rat), (0 : Rat), ((12 / 25) : Rat), ((12 / 25) : Rat), (0 : Rat), (0 : Rat), ((108 / 625) : Rat), ((108 / 625) : Rat), (0 : Rat), (0 : Rat), ((972 / 15625) : Rat), ((972 / 15625) : Rat), (0 : Rat)] := by decide +kernel
theorem pv_2_1_0 : (AW 6).map (fun a => ent (prodW 2 planeP (planeQ (1 / 2)) a) 1 0) = [(0 : Rat), (0 : Rat), ((12 / 25) : Rat), (0 : Rat), ((12 / 25) : Rat), (0 : Rat), ((108 / 625) : Rat), (0 : Rat), ((108 / 625) : Rat), (0 : Rat), ((972 / 15625) : Rat), (0 : Rat), ((972 / 15625) : Rat)] := by decide +kernel
theorem pv_2_1_1 : (AW 6).map (fun a => ent (prodW 2 planeP (planeQ (1 / 2)) a) 1 1) = [(1 : Rat), (0 : Rat), ((16 / 25) : Rat), (0 : Rat), (0 : Rat), (0 : Rat), ((144 / 625) : Rat), (0 : Rat), (0 : Rat), (0 : Rat), ((1296 / 15625) : Rat), (0 : Rat), (0 : Rat)] := by decide +kernel
theorem pv_3_0_0 : (AW 6).map (fun a => ent (prodW 2 planeP (planeQ (1 / 3)) a) 0 0) = [(1 : Rat), (1 : Rat), ((16 / 25) : Rat), ((16 / 25) : Rat), ((16 / 25) : Rat), ((16 / 25) : Rat), ((256 / 625) : Rat), ((256 / 625) : Rat), ((256 / 625) : Rat), ((256 / 625) : Rat), ((4096 / 15625) : Rat), ((4096 / 15625) : Rat), ((4096 / 15625) : Rat)] := by decide +kernel
theorem pv_3_0_1 : (AW 6).map (fun a => ent (prodW 2 planeP (planeQ (1 / 3)) a) 0 1) = [(0 : Rat), (0 : Rat), ((12 / 25) : Rat), ((12 / 25) : Rat), (0 : Rat), (0 : Rat), ((192 / 625) : Rat), ((192 / 625) : Rat), (0 : Rat), (0 : Rat), ((3072 / 15625) : Rat), ((3072 / 15625) : Rat), (0 : Rat)] := by decide +kernel
theorem pv_3_1_0 : (AW 6).map (fun a => ent (prodW 2 planeP (planeQ (1 / 3)) a) 1 0) = [(0 : Rat), (0 : Rat), ((12 / 25) : Rat), (0 : Rat), ((12 / 25) : Rat), (0 : Rat), ((192 / 625) : Rat), (0 : Rat), ((192 / 625) : Rat), (0 : Rat), ((3072 / 15625) : Rat), (0 : Rat), ((3072 / 15625) : Rat)] := by decide +kernel
theorem pv_3_1_1 : (AW 6).map (fun a => ent (prodW 2 planeP (planeQ (1 / 3)) a) 1 1) = [(1 : Rat), (0 : Rat), ((9 / 25) : Rat), (0 : Rat), (0 : Rat), (0 : Rat), ((144 / 625) : Rat), (0 : Rat), (0 : Rat), (0 : Rat), ((2304 / 15625) : Rat), (0 : Rat), (0 : Rat)] := by decide +kernel
theorem pv_4_0_0 : (AW 6).map (fun a => ent (prodW 2 planeP (planeQ (1 / 4)) a) 0 0) = [(1 : Rat), (1 : Rat), ((225 / 289) : Rat), ((225 / 289) : Rat), ((225 / 289) : Rat), ((225 / 289) : Rat), ((50625 / 83521) : Rat), ((50625 / 83521) : Rat), ((50625 / 83521) : Rat), ((50625 / 83521) : Rat), ((11390625 / 24137569) : Rat), ((11390625 / 24137569) : Rat), ((11390625 / 24137569) : Rat)] := by decide +kernel
theorem pv_4_0_1 : (AW 6).map (fun a => ent (prodW 2 planeP (planeQ (1 / 4)) a) 0 1) = [(0 : Rat), (0 : Rat), ((120 / 289) : Rat), ((120 / 289) : Rat), (0 : Rat), (0 : Rat), ((27000 / 83521) : Rat), ((27000 / 83521) : Rat), (0 : Rat), (0 : Rat), ((6075000 / 24137569) : Rat), ((6075000 / 24137569) : Rat), (0 : Rat)] := by decide +kernel
theorem pv_4_1_0 : (AW 6).map (fun a => ent (prodW 2 planeP (planeQ (1 / 4)) a) 1 0) = [(0 : Rat), (0 : Rat), ((120 / 289) : Rat), (0 : Rat), ((120 / 289) : Rat), (0 : Rat), ((27000 / 83521) : Rat), (0 : Rat), ((27000 / 83521) : Rat), (0 : Rat), ((6075000 / 24137569) : Rat), (0 : Rat), ((6075000 / 24137569) : Rat)] := by decide +kernel
theorem pv_4_1_1 : (AW 6).map (fun a => ent (prodW 2 planeP (planeQ (1 / 4)) a) 1 1) = [(1 : Rat), (0 : Rat), ((64 / 289) : Rat), (0 : Rat), (0 : Rat), (0 : Rat), ((14400 / 83521) : Rat), (0 : Rat), (0 : Rat), (0 : Rat), ((3240000 / 24137569) : Rat), (0 : Rat), (0 : Rat)] := by decide +kernel
theorem pv_5_0_0 : (AW 6).map (fun a => ent (prodW 2 planeP (planeQ (1 / 5)) a) 0 0) = [(1 : Rat), (1 : Rat), ((144 / 169) : Rat), ((144 / 169) : Rat), ((144 / 169) : Rat), ((144 / 169) : Rat), ((20736 / 28561) : Rat), ((20736 / 28561) : Rat), ((20736 / 28561) : Rat), ((20736 / 28561) : Rat), ((2985984 / 4826809) : Rat), ((2985984 / 4826809) : Rat), ((2985984 / 4826809) : Rat)] := by decide +kernel
theorem pv_5_0_1 : (AW 6).map (fun a => ent (prodW 2 planeP (planeQ (1 / 5)) a) 0 1) = [(0 : Rat), (0 : Rat), ((60 / 169) : Rat), ((60 / 169) : Rat), (0 : Rat), (0 : Rat), ((8640 / 28561) : Rat), ((8640 / 28561) : Rat), (0 : Rat), (0 : Rat), ((1244160 / 4826809) : Rat), ((1244160 / 4826809) : Rat), (0 : Rat)] := by decide +kernel
theorem pv_5_1_0 : (AW 6).map (fun a => ent (prodW 2 planeP (planeQ (1 / 5)) a) 1 0) = [(0 : Rat), (0 : Rat), ((60 / 169) : Rat), (0 : Rat), ((60 / 169) : Rat), (0 : Rat), ((8640 / 28561) : Rat), (0 : Rat), ((8640 / 28561) : Rat), (0 : Rat), ((1244160 / 4826809) : Rat), (0 : Rat), ((1244160 / 4826809) : Rat)] := by decide +kernel
theorem pv_5_1_1 : (AW 6).map (fun a => ent (prodW 2 planeP (planeQ (1 / 5)) a) 1 1) = [(1 : Rat), (0 : Rat), ((25 / 169) : Rat), (0 : Rat), (0 : Rat), (0 : Rat), ((3600 / 28561) : Rat), (0 : Rat), (0 : Rat), (0 : Rat), ((518400 / 4826809) : Rat), (0 : Rat), (0 : Rat)] := by decide +kernel
def dotL : List Rat → List Rat → Rat
  | x :: xs, y :: ys => x * y + dotL xs ys
  | _, _ => 0
theorem sumA_dot (d g : Wd → Rat) : ∀ l : List Wd, sumA (fun a => d a * g a) l = dotL (l.map d) (l.map g)
  | [] => rfl
  | a :: l => by
    show d a * g a + sumA _ l = d a * g a + dotL _ _
    rw [sumA_dot d g l]
theorem sumA_sub (d e g : Wd → Rat) : ∀ l : List Wd, sumA (fun a => (d a - e a) * g a) l = sumA (fun a => d a * g a) l - sumA (fun a => e a * g a) l
  | [] => by show (0 : Rat) = 0 - 0; grind
  | a :: l => by
    show (d a - e a) * g a + sumA _ l = (d a * g a + sumA _ l) - (e a * g a + sumA _ l)
    rw [sumA_sub d e g l]
    grind
theorem aw6 : AW 6 = [[], [true], [false], [true, false], [false, true], [true, false, true], [false, true, false], [true, false, true, false], [false, true, false, true], [true, false, true, false, true], [false, true, false, true, false], [true, false, true, false, true, false], [false, true, false, true, false, true]] := by decide +kernel
theorem form_of_coef {N : Nat} {ps qs : Ps} (h : ∀ a ∈ AW N, coef ps a = coef qs a) : form N ps = form N qs := by
  unfold form
  exact fmap_congr fun a ha => by rw [h a ha]
/-- formulas of words of up to six letters that agree on the planes of 1/2, 1/3, 1/4, 1/5 are the same -/
theorem planes_part {ps qs : Ps} (h : ∀ b : Nat, 2 ≤ b → b ≤ 5 → ∀ i j, i < 2 → j < 2 → psum 2 planeP (planeQ (1 / (b : Rat))) ps 6 i j = psum 2 planeP (planeQ (1 / (b : Rat))) qs 6 i j) : form 6 ps = form 6 qs := by
  have key : ∀ b : Nat, 2 ≤ b → b ≤ 5 → ∀ i j, i < 2 → j < 2 → dotL ((AW 6).map fun a => coef ps a - coef qs a) ((AW 6).map fun a => ent (prodW 2 planeP (planeQ (1 / (b : Rat))) a) i j) = 0 := fun b h1 h2 i j hi hj => by
    rw [← sumA_dot, sumA_sub]
    have e := h b h1 h2 i j hi hj
    unfold psum at e
    rw [e]
    grind
  have k0 := key 2 (by decide) (by decide) 0 0 (by decide) (by decide)
  rw [show (1 / ((2 : Nat) : Rat)) = 1 / 2 from rfl, pv_2_0_0] at k0
  have k1 := key 2 (by decide) (by decide) 0 1 (by decide) (by decide)
  rw [show (1 / ((2 : Nat) : Rat)) = 1 / 2 from rfl, pv_2_0_1] at k1
  have k2 := key 2 (by decide) (by decide) 1 0 (by decide) (by decide)
  rw [show (1 / ((2 : Nat) : Rat)) = 1 / 2 from rfl, pv_2_1_0] at k2
  have k3 := key 2 (by decide) (by decide) 1 1 (by decide) (by decide)
  rw [show (1 / ((2 : Nat) : Rat)) = 1 / 2 from rfl, pv_2_1_1] at k3
  have k4 := key 3 (by decide) (by decide) 0 0 (by decide) (by decide)
  rw [show (1 / ((3 : Nat) : Rat)) = 1 / 3 from rfl, pv_3_0_0] at k4
  have k5 := key 3 (by decide) (by decide) 0 1 (by decide) (by decide)
  rw [show (1 / ((3 : Nat) : Rat)) = 1 / 3 from rfl, pv_3_0_1] at k5
  have k6 := key 3 (by decide) (by decide) 1 0 (by decide) (by decide)
  rw [show (1 / ((3 : Nat) : Rat)) = 1 / 3 from rfl, pv_3_1_0] at k6
  have k7 := key 3 (by decide) (by decide) 1 1 (by decide) (by decide)
  rw [show (1 / ((3 : Nat) : Rat)) = 1 / 3 from rfl, pv_3_1_1] at k7
  have k8 := key 4 (by decide) (by decide) 0 0 (by decide) (by decide)
  rw [show (1 / ((4 : Nat) : Rat)) = 1 / 4 from rfl, pv_4_0_0] at k8
  have k9 := key 4 (by decide) (by decide) 0 1 (by decide) (by decide)
  rw [show (1 / ((4 : Nat) : Rat)) = 1 / 4 from rfl, pv_4_0_1] at k9
  have k10 := key 4 (by decide) (by decide) 1 0 (by decide) (by decide)
  rw [show (1 / ((4 : Nat) : Rat)) = 1 / 4 from rfl, pv_4_1_0] at k10
  have k11 := key 4 (by decide) (by decide) 1 1 (by decide) (by decide)
  rw [show (1 / ((4 : Nat) : Rat)) = 1 / 4 from rfl, pv_4_1_1] at k11
  have k12 := key 5 (by decide) (by decide) 0 0 (by decide) (by decide)
  rw [show (1 / ((5 : Nat) : Rat)) = 1 / 5 from rfl, pv_5_0_0] at k12
  have k13 := key 5 (by decide) (by decide) 0 1 (by decide) (by decide)
  rw [show (1 / ((5 : Nat) : Rat)) = 1 / 5 from rfl, pv_5_0_1] at k13
  have k14 := key 5 (by decide) (by decide) 1 0 (by decide) (by decide)
  rw [show (1 / ((5 : Nat) : Rat)) = 1 / 5 from rfl, pv_5_1_0] at k14
  have k15 := key 5 (by decide) (by decide) 1 1 (by decide) (by decide)
  rw [show (1 / ((5 : Nat) : Rat)) = 1 / 5 from rfl, pv_5_1_1] at k15
  generalize hl : (AW 6).map (fun a => coef ps a - coef qs a) = l at *
  have ll : l = [coef ps [] - coef qs [], coef ps [true] - coef qs [true], coef ps [false] - coef qs [false], coef ps [true, false] - coef qs [true, false], coef ps [false, true] - coef qs [false, true], coef ps [true, false, true] - coef qs [true, false, true], coef ps [false, true, false] - coef qs [false, true, false], coef ps [true, false, true, false] - coef qs [true, false, true, false], coef ps [false, true, false, true] - coef qs [false, true, false, true], coef ps [true, false, true, false, true] - coef qs [true, false, true, false, true], coef ps [false, true, false, true, false] - coef qs [false, true, false, true, false], coef ps [true, false, true, false, true, false] - coef qs [true, false, true, false, true, false], coef ps [false, true, false, true, false, true] - coef qs [false, true, false, true, false, true]] := by
    rw [← hl, aw6]
    rfl
  rw [ll] at k0 k1 k2 k3 k4 k5 k6 k7 k8 k9 k10 k11 k12 k13 k14 k15
  obtain ⟨z0, z1, z2, z3, z4, z5, z6, z7, z8, z9, z10, z11, z12⟩ := lin13 (coef ps [] - coef qs []) (coef ps [true] - coef qs [true]) (coef ps [false] - coef qs [false]) (coef ps [true, false] - coef qs [true, false]) (coef ps [false, true] - coef qs [false, true]) (coef ps [true, false, true] - coef qs [true, false, true]) (coef ps [false, true, false] - coef qs [false, true, false]) (coef ps [true, false, true, false] - coef qs [true, false, true, false]) (coef ps [false, true, false, true] - coef qs [false, true, false, true]) (coef ps [true, false, true, false, true] - coef qs [true, false, true, false, true]) (coef ps [false, true, false, true, false] - coef qs [false, true, false, true, false]) (coef ps [true, false, true, false, true, false] - coef qs [true, false, true, false, true, false]) (coef ps [false, true, false, true, false, true] - coef qs [false, true, false, true, false, true])
    (by have := k0; simp only [dotL] at this; grind)
    (by have := k1; simp only [dotL] at this; grind)
    (by have := k2; simp only [dotL] at this; grind)
    (by have := k3; simp only [dotL] at this; grind)
    (by have := k4; simp only [dotL] at this; grind)
    (by have := k5; simp only [dotL] at this; grind)
    (by have := k6; simp only [dotL] at this; grind)
    (by have := k7; simp only [dotL] at this; grind)
    (by have := k8; simp only [dotL] at this; grind)
    (by have := k9; simp only [dotL] at this; grind)
    (by have := k10; simp only [dotL] at this; grind)
    (by have := k11; simp only [dotL] at this; grind)
    (by have := k12; simp only [dotL] at this; grind)
    (by have := k13; simp only [dotL] at this; grind)
    (by have := k14; simp only [dotL] at this; grind)
    (by have := k15; simp only [dotL] at this; grind)
  refine form_of_coef fun a ha => ?_
  rw [aw6] at ha
  have fin : ∀ {x y : Rat}, x - y = 0 → x = y := fun h => by grind
  simp only [List.mem_cons, List.not_mem_nil, or_false] at ha
  rcases ha with rfl | rfl | rfl | rfl | rfl | rfl | rfl | rfl | rfl | rfl | rfl | rfl | rfl
  · exact fin z0
  · exact fin z1
  · exact fin z2
  · exact fin z3
  · exact fin z4
  · exact fin z5
  · exact fin z6
  · exact fin z7
  · exact fin z8
  · exact fin z9
  · exact fin z10
  · exact fin z11
  · exact fin z12

end Fo


set_option maxHeartbeats 4100000
namespace Fo
open PySem PySem.Spec PyProof.Rows L2
/-! ### words -/
open FoWd
/-- no text -/
inductive NoStr (H : Hp) : V → Prop where
  | non : NoStr H .non
  | bl (b : Bool) : NoStr H (.bl b)
  | int (i : Int) : NoStr H (.int i)
  | tup {a : Addr} {xs : List V} (e : H a = some (.tup xs)) : NoStr H (.ref a)
/-- no row: no text, or a text with another letter -/
def NoRow (H : Hp) (v : V) : Prop := NoStr H v ∨ ∃ z : Str, v = .str z ∧ z.cps.size ≤ 1000 ∧ (z.cps.toList.all fun c => decide (c ∈ ("pq" : Str).cps.toList)) = false
def spIsRow : Sp := fun vs H Q _ => ∃ v, vs = [v] ∧ ((∃ w : Wd, v = .str (tx w) ∧ w.length ≤ 1000 ∧ ∀ H', Same H H' → Q (.bl true) H') ∨ (NoRow H v ∧ ∀ H', Same H H' → Q (.bl false) H'))
def spShort : Sp := fun vs H Q _ => ∃ w : Wd, vs = [.str (tx w)] ∧ w.length ≤ 1000 ∧ Q (.str (tx (sh w))) H
theorem pq_codes : ("pq" : Str).cps.toList = [112, 113] := by decide +kernel
theorem code_in (b : Bool) : decide (lcode b ∈ ("pq" : Str).cps.toList) = true := by
  rw [pq_codes]
  cases b <;> decide
theorem tx_all (w : Wd) : ((tx w).cps.toList.all fun c => decide (c ∈ ("pq" : Str).cps.toList)) = true := by
  rw [List.all_eq_true]
  intro c hc
  obtain ⟨b, _, rfl⟩ := List.mem_map.mp (show c ∈ w.map lcode from hc)
  exact code_in b
theorem tx_size (w : Wd) : (tx w).cps.size = w.length := by simp [tx]
theorem tx_at {w : Wd} {i c : Nat} (h : (tx w).cps[i]? = some c) : ∃ b, w[i]? = some b ∧ c = lcode b := by
  rw [← Array.getElem?_toList] at h
  have h' : (w.map lcode)[i]? = some c := h
  rw [List.getElem?_map] at h'
  cases e : w[i]? with
  | none => rw [e] at h'; cases h'
  | some b =>
    rw [e] at h'
    cases h'
    exact ⟨b, rfl, rfl⟩
theorem tx_one (b : Bool) : (⟨#[lcode b]⟩ : Str) = tx [b] := rfl
theorem tx_snoc (w : Wd) (b : Bool) : tx w ++ ⟨#[lcode b]⟩ = tx (w ++ [b]) := by
  rw [tx_one, tx_app]
theorem fold_take {w : Wd} {i : Nat} {b : Bool} (h : w[i]? = some b) : sh (w.take (i + 1)) = shF (sh (w.take i)) b := by
  rw [List.take_add_one, h]
  exact sh_snoc _ _
theorem sh_len (w : Wd) : (sh w).length ≤ w.length := by
  obtain ⟨b, n, h, e⟩ := sh_alt w
  rw [e, alt_len]
  exact h
theorem ends_tx (w : Wd) (b : Bool) : Txt.endswith (tx w) ⟨#[lcode b]⟩ = decide (w.getLast? = some b) := by
  have e0 : (⟨#[lcode b]⟩ : Str).length = 1 := rfl
  unfold Txt.endswith Builtin.Str.subAt
  rw [e0, tx_len]
  cases hw : w.getLast? with
  | none =>
    have : w = [] := by simpa using hw
    subst this
    rfl
  | some c =>
    have hne : w ≠ [] := by intro e; rw [e] at hw; simp at hw
    have hl : 1 ≤ w.length := Nat.one_le_iff_ne_zero.mpr fun e => hne (List.eq_nil_of_length_eq_zero e)
    rw [decide_eq_true (by omega : 0 + 1 ≤ w.length), Bool.true_and]
    have hc : w[w.length - 1]? = some c := by rw [← List.getLast?_eq_getElem?]; exact hw
    have ex : (tx w).cps.extract (w.length - 1) (w.length - 1 + 1) = #[lcode c] := by
      apply Array.ext'
      rw [Array.toList_extract]
      show List.extract (w.map lcode) _ _ = [lcode c]
      rw [List.extract_eq_take_drop, ← List.map_drop, ← List.map_take]
      have : (w.drop (w.length - 1)).take (w.length - 1 + 1 - (w.length - 1)) = [c] := by
        have h1 : w.length - 1 + 1 - (w.length - 1) = 1 := by omega
        rw [h1, List.drop_eq_getElem_cons (by omega)]
        rw [List.getElem?_eq_getElem (by omega)] at hc
        rw [Option.some.inj hc]
        rfl
      rw [this]
      rfl
    rw [ex]
    cases b <;> cases c <;> decide
theorem at_last {u : Wd} {d : Bool} (h : u.getLast? = some d) : atI (tx u).cps.toList (-1) = some (lcode d) := by
  have hne : u ≠ [] := by intro e; rw [e] at h; simp at h
  have hl : 1 ≤ u.length := Nat.one_le_iff_ne_zero.mpr fun e => hne (List.eq_nil_of_length_eq_zero e)
  have hd : (u.map lcode)[u.length - 1]? = some (lcode d) := by
    rw [List.getElem?_map, ← List.getLast?_eq_getElem?, h]
    rfl
  show (ixN (u.map lcode).length (-1)).bind (fun j => (u.map lcode)[j]?) = _
  have e : ixN (u.map lcode).length (-1) = some (u.length - 1) := by
    rw [List.length_map]
    unfold ixN
    rw [if_neg (by decide), if_pos (by omega)]
    congr 1
    omega
  rw [e]
  exact hd
section
variable {P : Program} {w : World} {K : PySem.W.Frag} {mg : Str → Option Value} {base : Heap}
theorem ok_is_row (T : Tx K mg) : FnOk P w K mg base CX0 1 (He.ga K "_is_row") T.fd_is_row ["given"] spIsRow := by
  refine T.F_is_row.ok sc_is_row (fun vs H Q E h => ?_) (fun cdv A outer s H vs Q E hr h => ?_)
  · obtain ⟨v, rfl, _⟩ := h
    rfl
  · obtain ⟨v, rfl, h⟩ := h
    refine ⟨_, (pss_one (ps_ret (pe_and (pe_callB call_isi (by rfl) T.z_isinstance (by decide +kernel) (pa_cons (pv 0) (pa_cons (pe_bltn (v := V.ty "str") (u := Value.type "str") (by rfl) T.z_str (by decide +kernel) rfl) pa_nil))) (pe_one (pe_callB (FoY.call_all rfl rfl) (by rfl) T.z_all (by decide +kernel) (pa_cons (pe_lc (own := [("letter", 1)]) (g := gName 1) rfl sc_is_row.nd (pi_str (pv 0)) (blkOk_by (own := [("letter", 1)]) (N := ["given", "letter"]) (sc := defScope s_is_row) (by decide +kernel)) (fun _ _ _ _ _ => (pg_name (i := 1) sc_is_row.nd rfl (.inl rfl))) (fun _ _ _ _ _ => pts_nil) (fun _ _ _ _ _ => (pe_cmpR op_in_sign (pv 1) pe_str (by rfl)))) pa_nil)))))), ?_⟩
    have ks : PySem.W.kitOne K (.type "str") (.type "str") = some true := kit_ty (by decide +kernel)
    have cases2 : (∃ z r, v = .str z ∧ z.cps.size ≤ 1000 ∧ (z.cps.toList.all fun c => decide (c ∈ ("pq" : Str).cps.toList)) = r ∧ ∀ H', Same H H' → Q (.bl r) H') ∨ (NoStr H v ∧ Q (.bl false) H) := by
      rcases h with ⟨w, rfl, hw, q⟩ | ⟨hN | ⟨z, rfl, hz, hr⟩, q⟩
      · exact .inl ⟨_, true, rfl, by rw [tx_size]; exact hw, tx_all w, q⟩
      · exact .inr ⟨hN, q _ (Same.refl _)⟩
      · exact .inl ⟨_, false, rfl, hz, hr, q⟩
    rcases cases2 with ⟨z, r, rfl, hz, hr2, q⟩ | ⟨hN, q⟩
    · refine ⟨_, rfl, _, _, _, _, _, rfl, .ty _, .base (.str _), ks, _, rfl, iteT ?_⟩
      refine ⟨_, rfl, z, rfl, fun D nD => ?_⟩
      refine FoV.lc_str (fun i H1 => H1 D = some (.lst (((z.cps.toList.take i).map fun c => decide (c ∈ ("pq" : Str).cps.toList)).map V.bl)) ∧ Same H H1) ⟨upd_same, Same.upd nD⟩ (fun i c H1 ec p => ?_) (fun H1 p => ?_)
      · obtain ⟨hL, sL⟩ := p
        have tk : z.cps.toList.take (i + 1) = z.cps.toList.take i ++ [c] := by
          rw [List.take_add_one, show z.cps.toList[i]? = some c by rw [Array.getElem?_toList]; exact ec]
          rfl
        refine ⟨rfl, _, rfl, c, "pq", rfl, rfl, _, hL, ?_, ?_, fun b o e => ?_⟩
        · rw [List.length_map, List.length_map, List.length_take, Array.length_toList, sizeLine_eq]
          omega
        · rw [upd_same, tk, List.map_append, List.map_append]
          rfl
        · rw [upd_ne (ne_of_none e nD)]
          exact sL b o e
      · obtain ⟨hL, sL⟩ := p
        rw [List.take_of_length_le (by simp)] at hL
        refine ⟨D, _, rfl, SqL.of hL, ?_⟩
        rw [List.all_map]
        have e : (z.cps.toList.all ((id : Bool → Bool) ∘ fun c => decide (c ∈ ("pq" : Str).cps.toList))) = r := hr2
        rw [e]
        exact q _ sL
    · cases hN with
      | non => exact ⟨_, rfl, _, _, _, _, _, rfl, .ty _, .base .non, kit_ty (by decide +kernel), _, rfl, iteF q⟩
      | bl b => exact ⟨_, rfl, _, _, _, _, _, rfl, .ty _, .base (.bl b), kit_ty (by decide +kernel), _, rfl, iteF q⟩
      | int i => exact ⟨_, rfl, _, _, _, _, _, rfl, .ty _, .base (.int i), kit_ty (by decide +kernel), _, rfl, iteF q⟩
      | tup e => exact ⟨_, rfl, _, _, _, _, _, rfl, .ty _, .base (.tup e), kit_ty (by decide +kernel), _, rfl, iteF q⟩
theorem ok_shortened (T : Tx K mg) : FnOk P w K mg base CX0 1 (He.ga K "_shortened") T.fd_shortened ["row"] spShort := by
  refine T.F_shortened.ok sc_shortened (fun vs H Q E h => ?_) (fun cdv A outer s H vs Q E hr h => ?_)
  · obtain ⟨x, rfl, _⟩ := h
    rfl
  · obtain ⟨x, rfl, hl, q⟩ := h
    refine ⟨_, (pss_cons (ps_set (i := 1) sc_shortened.nd rfl (.inl rfl) pe_str)
      (pss_cons (ps_for PassesOwn.never rfl (pi_str (pv 0)) (pg_name (i := 2) sc_shortened.nd rfl (.inl rfl)) (pss_one (ps_if (pt_not (pt_val (pe_m1 PySem.F.slot_str_endswith PySem.F.type_str_endswith mt_endswith (pv 1) (pv 2)))) (pss_one (ps_set (i := 1) sc_shortened.nd rfl (.inl rfl) (pe_op op_add_str (pv 1) (pv 2)))) pss_nil)))
      (pss_one (ps_ret (pv 1))))), ?_⟩
    refine ⟨_, rfl, _, rfl, ?_⟩
    refine for_it walk_str (fun j σ H2 => H2 = H ∧ ∃ o2, σ = [some (.str (tx x)), some (.str (tx (sh (x.take j)))), o2]) ⟨rfl, _, rfl⟩ (fun _ _ _ _ _ => trivial) (fun j v σ H2 H3 hj h y => ?_) (fun σ H2 h => ?_)
    · obtain ⟨rfl, o2, rfl⟩ := h
      obtain ⟨rfl, c, ec, rfl⟩ := y
      obtain ⟨b, eb, rfl⟩ := tx_at ec
      refine ⟨_, rfl, ⟨_, rfl⟩, _, rfl, _, _, rfl, rfl, _, rfl, ?_⟩
      rw [ends_tx, fold_take eb]
      have hj' : j < x.length := by rw [← tx_size]; exact hj
      have l1 : (sh (x.take j)).length ≤ 1000 := by
        have a1 := sh_len (x.take j)
        rw [List.length_take] at a1
        omega
      by_cases hc : (sh (x.take j)).getLast? = some b
      · rw [decide_eq_true hc, shF_same hc]
        exact iteF ⟨rfl, _, rfl⟩
      · rw [decide_eq_false hc, show shF (sh (x.take j)) b = sh (x.take j) ++ [b] by unfold shF; rw [if_neg hc], ← tx_snoc]
        refine iteT ⟨_, rfl, _, rfl, _, _, rfl, rfl, ?_, rfl, _, rfl⟩
        rw [tx_len, sizeLine_eq]
        show _ + 1 ≤ _
        omega
    · obtain ⟨rfl, o2, rfl⟩ := h
      rw [tx_size, List.take_length]
      exact ⟨_, rfl, q⟩
theorem ok_shortL (T : Tx K mg) : FnOk P w K mg base CX0 1 (He.ga K "_law_short") T.fd_short ["_law_row_here"] spShort := by
  refine T.F_short.ok sc_short (fun vs H Q E h => ?_) (fun cdv A outer s H vs Q E hr h => ?_)
  · obtain ⟨x, rfl, _⟩ := h
    rfl
  · obtain ⟨x, rfl, hl, q⟩ := h
    refine ⟨_, (pss_cons (ps_set (i := 1) sc_short.nd rfl (.inl rfl) pe_str)
      (pss_cons (ps_for PassesOwn.never rfl (pi_str (pv 0)) (pg_name (i := 2) sc_short.nd rfl (.inl rfl)) (pss_one (ps_if (PW.pt (pw_or (pt_cmpR op_eq (pv 1) pe_str (nomark _)) (pw_or1 (pt_cmpR op_ne (pe_ix ix_str (pv 1) (pe_un un_neg pe_int) (fun _ _ => rfl)) (pv 2) (nomark _))))) (pss_one (ps_set (i := 1) sc_short.nd rfl (.inl rfl) (pe_op op_add_str (pv 1) (pv 2)))) pss_nil)))
      (pss_one (ps_ret (pv 1))))), ?_⟩
    refine ⟨_, rfl, _, rfl, ?_⟩
    refine for_it walk_str (fun j σ H2 => H2 = H ∧ ∃ o2, σ = [some (.str (tx x)), some (.str (tx (sh (x.take j)))), o2]) ⟨rfl, _, rfl⟩ (fun _ _ _ _ _ => trivial) (fun j v σ H2 H3 hj h y => ?_) (fun σ H2 h => ?_)
    · obtain ⟨rfl, o2, rfl⟩ := h
      obtain ⟨rfl, c, ec, rfl⟩ := y
      obtain ⟨b, eb, rfl⟩ := tx_at ec
      have hj' : j < x.length := by rw [← tx_size]; exact hj
      rw [fold_take eb]
      generalize hu : sh (x.take j) = u at *
      have l1 : u.length ≤ 1000 := by
        have a1 := sh_len (x.take j)
        rw [List.length_take, hu] at a1
        omega
      refine ⟨_, rfl, rfl, _, rfl, ite2 (fun c => ?_) (fun c => ?_)⟩
      · have e0 : u = [] := tx_inj (V.str.inj (of_decide_eq_true c))
        subst e0
        rw [show shF [] b = [] ++ [b] from rfl, ← tx_snoc]
        refine iteT ⟨_, rfl, _, rfl, _, _, rfl, rfl, ?_, rfl, _, rfl⟩
        rw [tx_len, sizeLine_eq]
        show 0 + 1 ≤ 16777216
        decide
      · have hne : u ≠ [] := fun e => c (decide_eq_true (by rw [e]; rfl))
        obtain ⟨d, hd⟩ : ∃ d, u.getLast? = some d := ⟨_, List.getLast?_eq_some_getLast hne⟩
        refine ⟨_, rfl, 1, rfl, _, _, lcode d, rfl, rfl, by rw [tx_len, sizeLine_eq]; omega, at_last hd, _, rfl, rfl, _, rfl, ?_⟩
        by_cases e : d = b
        · subst e
          rw [shF_same hd]
          refine ite2 (fun c => absurd c (by simp)) (fun _ => ⟨rfl, _, rfl⟩)
        · have e2 : ¬ u.getLast? = some b := fun z => e (by rw [hd] at z; exact Option.some.inj z)
          rw [show shF u b = u ++ [b] by unfold shF; rw [if_neg e2], ← tx_snoc]
          refine ite2 (fun _ => ⟨_, rfl, _, rfl, _, _, rfl, rfl, ?_, rfl, _, rfl⟩) (fun c => absurd ?_ c)
          · rw [tx_len, sizeLine_eq]
            show _ + 1 ≤ _
            omega
          · have : ¬ V.str ⟨#[lcode d]⟩ = V.str ⟨#[lcode b]⟩ := fun z => e (by have z2 := V.str.inj z; have z3 : tx [d] = tx [b] := z2; have z4 := tx_inj z3; injection z4)
            simp [this]
    · obtain ⟨rfl, o2, rfl⟩ := h
      rw [tx_size, List.take_length]
      exact ⟨_, rfl, q⟩
end

end Fo

set_option maxHeartbeats 4100000
/-! a dict comprehension over any walk -/
namespace FoDc
open PySem PySem.Spec PyProof.Rows L2
variable {J : It} {n : Nat} {G : Hp → Prop} {Y : Nat → Hp → V → Hp → Prop}
theorem dc_it (w : Walk J n G Y) {g : TG} {tt : TT} {tk tv : TE} {vs : List Nat} {σ : L2.St} {H1 : Hp} {D : Addr} {Qd : Hp → Prop} (Pv : Nat → Hp → Prop) (h0 : Pv 0 (upd H1 D (.dK []))) (hG : ∀ i H, i ≤ n → Pv i H → G H)
    (hs : ∀ i x H H', i < n → Pv i H → Y i H x H' → g x (wipe σ vs) H' fun σ2 H2 => wipe σ2 vs = wipe σ vs ∧ tt σ2 H2 fun b H3 =>
      if b = true then tk σ2 H3 fun y H4 => tv σ2 H4 fun z H5 => ∃ kvs k, y = kV k ∧ H5 D = some (.dK kvs) ∧ kvs.length < sizeLine ∧ Pv (i + 1) (upd H5 D (.dK (putK kvs k z))) else Pv (i + 1) H3) (hd : ∀ H, Pv n H → Qd H) :
    ∃ W : Nat → Nat → Hp → Prop, (∃ m, W 0 m (upd H1 D (.dK []))) ∧ ∀ i m H, W i m H →
      (J.stop i H ∧ Qd H) ∨ (J.go i H ∧ ∃ Nx : Hp → Prop, (∀ H', Nx H' → ∃ m', m' < m ∧ W (i + 1) m' H') ∧ ∀ x H', J.yld i H x H' → g x (wipe σ vs) H' fun σ2 H2 => wipe σ2 vs = wipe σ vs ∧ tt σ2 H2 fun b H3 =>
        if b = true then tk σ2 H3 fun y H4 => tv σ2 H4 fun z H5 => ∃ kvs k, y = kV k ∧ H5 D = some (.dK kvs) ∧ kvs.length < sizeLine ∧ Nx (upd H5 D (.dK (putK kvs k z))) else Nx H3) := by
  refine ⟨fun i m H => m = n - i ∧ i ≤ n ∧ Pv i H, ⟨n, by simp, Nat.zero_le _, h0⟩, ?_⟩
  rintro i m H ⟨rfl, hi, p⟩
  have q := hG i H hi p
  by_cases hlt : i < n
  · exact .inr ⟨w.goes i H hlt q, Pv (i + 1), fun H' p' => ⟨n - (i + 1), by omega, rfl, hlt, p'⟩, fun x H' y => hs i x H H' hlt p (w.yields i H x H' hlt q y)⟩
  · have e : i = n := by omega
    subst e
    exact .inl ⟨w.stops H q, hd H p⟩
end FoDc

set_option maxHeartbeats 4100000
namespace Fo
open PySem PySem.Spec PyProof.Rows L2
/-! ### tables of words -/
open FoWd
/-- what is no list and no dict -/
def Firm : HO → Prop
  | .lst _ => False
  | .dK _ => False
  | .frz _ _ => False
  | _ => True
/-- all that is neither a list nor a dict stands as it stood -/
def NLD (H H' : Hp) : Prop := ∀ b o, H b = some o → Firm o → H' b = some o
theorem NLD.refl (H : Hp) : NLD H H := fun _ _ h _ => h
theorem NLD.trans {H H1 H2 : Hp} (a : NLD H H1) (b : NLD H1 H2) : NLD H H2 := fun c o h n => b c o (a c o h n) n
theorem same_nld {H H' : Hp} (s : Same H H') : NLD H H' := fun b o h _ => s b o h
theorem nld_upd {H : Hp} {D : Addr} {u o : HO} (h : H D = some u) (hu : ¬ Firm u) : NLD H (upd H D o) := fun b v e n => by
  rw [upd_ne (fun z => by rw [z, h] at e; cases e; exact hu n)]
  exact e
/-- told of a value in a heap, and not changed by what happens to lists and dicts -/
def SolidD (R : Hp → V → Prop) : Prop := ∀ {H H' : Hp} {v : V}, NLD H H' → R H v → R H' v
theorem rtAt_nld {K : PySem.W.Frag} {H H' : Hp} {a : Addr} {r : Rat} (h : RtAt K H a r) (s : NLD H H') : RtAt K H' a r := by
  obtain ⟨dx, e⟩ := h
  exact ⟨dx, s _ _ e trivial⟩
theorem rr_solidD {K : PySem.W.Frag} (r : Rat) : SolidD (Rr K r) := fun s ⟨a, e, h⟩ => ⟨a, e, rtAt_nld h s⟩
theorem rn_solidD {K : PySem.W.Frag} (r : Rat) : SolidD (Rn K r) := fun s h => by
  rcases h with ⟨b, e, h⟩ | h
  · exact .inl ⟨b, e, rtAt_nld h s⟩
  · exact .inr h
theorem rq_solidD (r : Rat) : SolidD (Rq r) := fun s ⟨a, e, h⟩ => ⟨a, e, s _ _ h trivial⟩
/-- a dict's entry for a word -/
def TKv (R : Rat → Hp → V → Prop) (H : Hp) (kv : Key × V) (p : Wd × Rat) : Prop := kv.1 = .inr (tx p.1) ∧ R p.2 H kv.2
abbrev DL (R : Rat → Hp → V → Prop) (H : Hp) (kvs : List (Key × V)) (f : Ps) : Prop := Paired (TKv R H) kvs f
section
variable {R : Rat → Hp → V → Prop} {H H' : Hp} {kvs : List (Key × V)} {f : Ps} {w : Wd}
theorem DL.nld (hR : ∀ r, SolidD (R r)) (h : DL R H kvs f) (s : NLD H H') : DL R H' kvs f := Paired.mapP h fun a b ⟨e, q⟩ => ⟨e, hR _ s q⟩
theorem key_ne {p w : Wd} (h : p ≠ w) : ¬ (Sum.inr (tx p) : Key) = .inr (tx w) := fun z => h (tx_inj (by injection z))
theorem DL.keys (h : DL R H kvs f) : kvs.map (·.1) = (FoWd.keys f).map (fun w => (Sum.inr (tx w) : Key)) := by
  induction h with
  | nil => rfl
  | @cons a b l1 l2 r t ih =>
    show a.1 :: _ = Sum.inr (tx b.1) :: _
    rw [r.1, ih]
    rfl
theorem DL.look (h : DL R H kvs f) : (look f w = none ∧ valV kvs (.inr (tx w)) = none) ∨ ∃ x v, look f w = some x ∧ valV kvs (.inr (tx w)) = some v ∧ R x H v := by
  induction h with
  | nil => exact .inl ⟨rfl, rfl⟩
  | @cons a b l1 l2 r t ih =>
    obtain ⟨r1, r2⟩ := r
    by_cases e : b.1 = w
    · refine .inr ⟨b.2, a.2, ?_, ?_, r2⟩
      · show (if b.1 = w then some b.2 else _) = _
        rw [if_pos e]
      · exact valV_pos (by rw [r1, e])
    · have e1 : FoWd.look (b :: l2) w = FoWd.look l2 w := by
        show (if b.1 = w then some b.2 else FoWd.look l2 w) = _
        rw [if_neg e]
      have e2 : valV (a :: l1) (.inr (tx w)) = valV l1 (.inr (tx w)) := valV_neg (by rw [r1]; exact key_ne e)
      rw [e1, e2]
      exact ih
theorem putK_cons {a : Key × V} {l : List (Key × V)} {k : Key} {v : V} (hn : ((a :: l).map (·.1)).Nodup) : putK (a :: l) k v = if a.1 = k then (k, v) :: l else a :: putK l k v := by
  obtain ⟨n1, n2⟩ := List.nodup_cons.mp hn
  by_cases e : a.1 = k
  · rw [if_pos e]
    unfold putK
    rw [if_pos (by simp [e])]
    rw [List.map_cons, if_pos e, e]
    congr 1
    refine (List.map_congr_left fun q hq => ?_).trans (List.map_id _)
    have : ¬ q.1 = k := fun z => n1 (List.mem_map.mpr ⟨q, hq, z.trans e.symm⟩)
    rw [if_neg this]
    rfl
  · rw [if_neg e]
    unfold putK
    have e1 : ((a :: l).any fun kv => decide (kv.1 = k)) = l.any fun kv => decide (kv.1 = k) := by
      rw [List.any_cons, decide_eq_false e, Bool.false_or]
    rw [e1]
    split
    · rw [List.map_cons, if_neg e]
    · rfl
theorem DL.put {v : V} {x : Rat} (h : DL R H kvs f) (hn : (FoWd.keys f).Nodup) (q : R x H v) : DL R H (putK kvs (.inr (tx w)) v) (put f w x) := by
  have hk := h.keys
  have nk : (kvs.map (·.1)).Nodup := by
    rw [hk]
    refine List.Pairwise.map _ (fun a b hab z => hab (tx_inj (by injection z))) hn
  clear hk
  induction h with
  | nil => exact .cons ⟨rfl, q⟩ .nil
  | @cons a b l1 l2 r t ih =>
    rw [putK_cons nk]
    show DL R H _ (if b.1 = w then (w, x) :: l2 else b :: FoWd.put l2 w x)
    by_cases e : b.1 = w
    · rw [if_pos e, if_pos (by rw [r.1, e])]
      exact .cons ⟨rfl, q⟩ t
    · rw [if_neg e, if_neg (by rw [r.1]; exact key_ne e)]
      exact .cons r (ih (List.nodup_cons.mp hn).2 (List.nodup_cons.mp nk).2)
theorem DL.len (h : DL R H kvs f) : kvs.length = f.length := Paired.length h
theorem DL.snoc {v : V} {x : Rat} (h : DL R H kvs f) (q : R x H v) : DL R H (kvs ++ [((.inr (tx w)), v)]) (f ++ [(w, x)]) := by
  induction h with
  | nil => exact .cons ⟨rfl, q⟩ .nil
  | cons r t ih => exact .cons r ih
theorem DL.at_ (h : DL R H kvs f) {i : Nat} {k : Key} {v : V} (e : kvs[i]? = some (k, v)) : ∃ p, f[i]? = some p ∧ k = .inr (tx p.1) ∧ R p.2 H v := by
  obtain ⟨p, hp, r1, r2⟩ := paired_get h e
  exact ⟨p, hp, r1, r2⟩
end
theorem fm_take {f : Wd → Option (Wd × Rat)} {l : List Wd} {i : Nat} {a : Wd} (h : l[i]? = some a) : (l.take (i + 1)).filterMap f = (l.take i).filterMap f ++ (f a).toList := by
  rw [List.take_add_one, h, List.filterMap_append]
  have e : List.filterMap f [a] = (f a).toList := by
    rw [List.filterMap_cons]
    cases f a <;> rfl
  exact congrArg _ e
theorem ordered_nodup (N : Nat) (ps : Ps) : (ordered N ps).Nodup := List.Nodup.sublist List.filter_sublist (AW_nodup N)
/-- numbers that stay small while they are added one after the other -/
def Grow (B : Nat) (ps : Ps) : Prop := (∀ p ∈ ps, FoQ.SzR B p.2) ∧ ∀ i a, FoQ.SzR B (coef (ps.take i) a)
def spForm (K : PySem.W.Frag) : Sp := fun vs H Q _ => ∃ (a : Addr) (kvs : List (Key × V)) (ps : Ps) (N : Nat), vs = [.ref a] ∧ H a = some (.dK kvs) ∧ DL (Rr K) H kvs ps ∧ Le N ps ∧ N ≤ 60 ∧ ps.length ≤ 200 ∧ Grow 1900 ps ∧
  ∀ p H' kvs', H p = none → Same H H' → H' p = some (.dK kvs') → DL (Rr K) H' kvs' (form N ps) → Q (.ref p) H'
section
variable {P : Program} {w : World} {K : PySem.W.Frag} {mg : Str → Option Value} {base : Heap}
theorem ok_form_of (T : Tx K mg) : FnOk P w K mg base CX0 5 (He.ga K "_form_of") T.fd_form_of ["terms"] (spForm K) := by
  refine T.F_form_of.ok sc_form_of (fun vs H Q E h => ?_) (fun cdv A outer s H vs Q E hr h => ?_)
  · obtain ⟨a, kvs, ps, N, rfl, _⟩ := h
    rfl
  · obtain ⟨a, kvs, ps, N, rfl, ha, hL, hN, n60, l200, hG, Qr⟩ := h
    obtain ⟨ds, vd, bd⟩ := bind_init1 T
    refine ⟨_, (pss_cons (ps_set (i := 1) sc_form_of.nd rfl (.inr rfl) pe_dnewK)
      (pss_cons (ps_lock (ps_for PassesOwn.never rfl (pi_items (pv 0)) (pg_tup (by rfl) (pgs_cons (pg_name (i := 2) sc_form_of.nd rfl (.inl rfl)) (pgs_cons (pg_name (i := 3) sc_form_of.nd rfl (.inl rfl)) pgs_nil))) (pss_cons (ps_set (i := 4) sc_form_of.nd rfl (.inl rfl) (pe_call (ok_shortened T) (hr.mono (by decide)) (by rfl) T.g_shortened T.F_shortened.kp T.b_shortened .nil pass0 (pa_cons (pv 2) pa_nil)))
      (pss_one (ps_dput (Nat.lt_of_le_of_lt (Nat.add_le_add_left (by decide) _) hr.units) (pv 1) (pv 4) (pe_op (FoA.op_own (ok_addQ T) (hr.mono (by decide)) T.b_Ratio_add pass0 T.bi_add FoN.int_add FoN.int_addR) (pe_dget2 (Nat.lt_of_le_of_lt (Nat.add_le_add_left (by decide) _) hr.units) (pv 1) (pv 4) (pe_make T.mk_R (ok_initQ T) (hr.mono (by decide)) (by rfl) T.c_Ratio bd vd pass0 (pa_cons pe_int pa_nil)) ⟨by rfl, by rfl, by rfl, by rfl⟩) (pv 3)) rfl)))))
      (pss_cons (ps_set (i := 5) sc_form_of.nd rfl (.inl rfl) (pe_sortK rfl FoSrt.keyLen (by rfl) T.z_sorted (by decide +kernel) (by rfl) T.z_len (by decide +kernel) (pa_cons (pe_sortK rfl FoSrt.keyStr (by rfl) T.z_sorted (by decide +kernel) (by rfl) T.z_str (by decide +kernel) (pa_cons (pv 1) pa_nil)) pa_nil)))
      (pss_one (ps_ret (pe_dc (own := [("row", 2)]) (g := gName 2) rfl sc_form_of.nd (pi_list (pv 5)) (blkOk_by (own := [("row", 2)]) (N := ["terms", "total", "row", "number", "short", "in_order"]) (sc := defScope s_form_of) (by decide +kernel)) (fun _ _ _ _ _ => (pg_name (i := 2) sc_form_of.nd rfl (.inl rfl))) (fun _ _ _ _ _ => (pts_one (pt_cmpR (FoN.op_neC (ok_eqQ T) (hr.mono (by decide)) T.b_Ratio_eq pass0 T.cm_eq T.ne_R) (pe_dget (Nat.lt_of_le_of_lt (Nat.add_le_add_left (by decide) _) hr.units) (pv 1) (pv 2) (fun _ _ => rfl)) pe_int (nomark _)))) (fun _ _ _ _ _ => (pv 2)) (fun _ _ _ _ _ => (pe_dget (Nat.lt_of_le_of_lt (Nat.add_le_add_left (by decide) _) hr.units) (pv 1) (pv 2) (fun _ _ => rfl))))))))), ?_⟩
    refine fun p np => ?_
    have pa : p ≠ a := fun z => by rw [z, ha] at np; cases np
    have lk : kvs.length = ps.length := hL.len
    refine ⟨a, .dK kvs, by rw [upd_ne (Ne.symm pa)]; exact ha, trivial, fun od => ?_⟩
    have f0 : upd (upd H p (.dK [])) a (.frz od (.dK kvs)) a = some (.frz od (.dK kvs)) := upd_same
    have p0 : upd (upd H p (.dK [])) a (.frz od (.dK kvs)) p = some (.dK []) := by rw [upd_ne pa]; exact upd_same
    have s0 : ∀ b o, H b = some o → b ≠ a → upd (upd H p (.dK [])) a (.frz od (.dK kvs)) b = some o := fun b o e n => by
      rw [upd_ne n, upd_ne (fun z => by rw [z, np] at e; cases e)]
      exact e
    generalize upd (upd H p (.dK [])) a (.frz od (.dK kvs)) = H1 at *
    refine ⟨_, rfl, a, od, kvs, rfl, f0, ?_⟩
    refine for_it walk_items (fun i σ H2 => ∃ kt o2 o3 o4, σ = [some (.ref a), some (.ref p), o2, o3, o4, none] ∧ H2 a = some (.frz od (.dK kvs)) ∧ H2 p = some (.dK kt) ∧ DL (Rr K) H2 kt (gath (ps.take i)) ∧ ∀ b o, H b = some o → b ≠ a → H2 b = some o)
      ⟨[], none, none, none, rfl, f0, p0, .nil, s0⟩ (fun i σ H2 _ ⟨_, _, _, _, _, h, _⟩ => h) (fun i v σ H2 H3 hi h y => ?_) (fun σ H2 h => ?_)
    · obtain ⟨kt, o2, o3, o4, rfl, fa, hp, hD, hs⟩ := h
      obtain ⟨tp, k1, v1, rfl, ntp, rfl, ek, ev⟩ := y
      obtain ⟨⟨k0, v0⟩, e0⟩ : ∃ q, kvs[i]? = some q := ⟨_, List.getElem?_eq_getElem hi⟩
      dsimp only at ek ev
      rw [e0] at ek ev
      obtain ⟨q, eq, hk, r, hv, hr⟩ := hL.at_ e0
      obtain ⟨qw, qx⟩ := q
      have ek2 : V.str (tx qw) = k1 := by
        have z := Option.some.inj ek
        rw [hk] at z
        exact z
      have ev2 : V.ref r = v1 := by
        have z := Option.some.inj ev
        rw [hv] at z
        exact z
      subst ek2 ev2
      dsimp only at hr
      have mq := List.mem_of_getElem? eq
      have z1 := (hG.1 _ mq).mono (show 1900 ≤ 1900 by decide)
      have z2 := hG.2 i (sh qw)
      have lw : qw.length ≤ 1000 := Nat.le_trans (hN _ mq) (by omega)
      have na : tp ≠ a := fun z => by rw [z, fa] at ntp; cases ntp
      have npp : tp ≠ p := fun z => by rw [z, hp] at ntp; cases ntp
      have s3 := Same.upd ntp (o := .tup [V.str (tx qw), V.ref r])
      have t3 : upd H2 tp (.tup [V.str (tx qw), V.ref r]) tp = some (.tup [V.str (tx qw), V.ref r]) := upd_same
      have fa3 := s3 _ _ fa
      have hp3 := s3 _ _ hp
      have hD3 := hD.nld rr_solidD (same_nld s3)
      have ra : r ≠ a := fun z => by
        obtain ⟨dx, e⟩ := hr
        rw [z, ha] at e
        cases e
      have hr3 : RtAt K (upd H2 tp (.tup [V.str (tx qw), V.ref r])) r qx := by
        obtain ⟨dx, e⟩ := hr
        exact ⟨dx, s3 _ _ (hs _ _ e ra)⟩
      have hs3 : ∀ b o, H b = some o → b ≠ a → upd H2 tp (.tup [V.str (tx qw), V.ref r]) b = some o := fun b o e n => s3 _ _ (hs b o e n)
      generalize upd H2 tp (.tup [V.str (tx qw), V.ref r]) = H3 at *
      refine ⟨tp, _, rfl, SqT.of t3, rfl, _, _, rfl, _, _, rfl, rfl, _, rfl, qw, rfl, lw, ?_⟩
      refine ⟨_, rfl, p, rfl, .inl ⟨kt, .inl hp3⟩, _, rfl, ?_⟩
      refine rq_make (r := 0) (by decide) (sz_of 1000000 (by decide) (by decide) (by decide)) rfl fun p0 H4 np0 s4 h0 => ⟨rfl, ?_⟩
      have hp4 := s4 _ _ hp3
      have hr4 := hr3.same s4
      obtain ⟨dr, hr5⟩ := id hr4
      have got : ∃ o, DGet H4 p (.str (tx (sh qw))) o ∧ ∃ b, o.getD (.ref p0) = .ref b ∧ RtAt K H4 b (coef (ps.take i) (sh qw)) := by
        refine ⟨_, .inl ⟨kt, .inr (tx (sh qw)), .inl hp4, rfl, rfl⟩, ?_⟩
        rw [← (gath_all (ps.take i)).2.1 (sh qw)]
        rcases hD3.look (w := sh qw) with ⟨l1, l2⟩ | ⟨x, v, l1, l2, b, rfl, hb⟩
        · rw [l1, l2]
          exact ⟨p0, rfl, h0⟩
        · rw [l1, l2]
          exact ⟨b, rfl, hb.same s4⟩
      obtain ⟨o, g1, b, g2, hb⟩ := got
      refine ⟨o, g1, ?_⟩
      rw [g2]
      obtain ⟨db, hb5⟩ := id hb
      refine ⟨_, rfl, b, db, _, rfl, hb5, .inr ⟨r, dr, _, rfl, hr5⟩, b, .ref r, _, _, rfl, hb, .inl ⟨r, rfl, hr4⟩, trivial, z2, z1, fun p5 H5 np5 s5 h5 => ?_⟩
      have hp5 := s5 _ _ hp4
      refine ⟨_, rfl, _, rfl, p, _, rfl, .inl ⟨kt, .inr (tx (sh qw)), hp5, rfl, ?_, rfl⟩, _, _, _, _, rfl, ?_, upd_same, ?_, fun b o e n => ?_⟩
      · have z := gath_len (ps.take i)
        rw [← hD3.len, List.length_take] at z
        rw [sizeLine_eq]
        omega
      · rw [upd_ne (Ne.symm pa)]
        exact s5 _ _ (s4 _ _ fa3)
      · rw [gath_take eq]
        unfold addAt
        rw [(gath_all (ps.take i)).2.1]
        exact DL.put ((hD3.nld rr_solidD (same_nld (s4.trans s5))).nld rr_solidD (nld_upd hp5 id)) (gath_all (ps.take i)).1 ⟨p5, rfl, rtAt_nld h5 (nld_upd hp5 id)⟩
      · rw [upd_ne (fun z => by rw [z, np] at e; cases e)]
        exact s5 _ _ (s4 _ _ (hs3 b o e n))
    · obtain ⟨kt, o2, o3, o4, rfl, fa, hp, hD, hs⟩ := h
      refine ⟨fa, ?_⟩
      rw [lk, List.take_length] at hD
      have hp6 : upd H2 a (.dK kvs) p = some (.dK kt) := by rw [upd_ne pa]; exact hp
      have s6 : Same H (upd H2 a (.dK kvs)) := fun b o e => by
        by_cases z : b = a
        · rw [z, ha] at e
          cases e
          rw [z]
          exact upd_same
        · rw [upd_ne z]
          exact hs b o e z
      have hD6 : DL (Rr K) (upd H2 a (.dK kvs)) kt (gath ps) := hD.nld rr_solidD (nld_upd fa id)
      generalize upd H2 a (.dK kvs) = H3 at *
      have hk := hD6.keys
      have kl : (FoWd.keys (gath ps)).length ≤ 200 := by
        have z := gath_len ps
        unfold FoWd.keys
        rw [List.length_map]
        omega
      obtain ⟨gn, _, _⟩ := gath_all ps
      have gw := gath_aw hN
      refine ⟨_, rfl, p, (FoWd.keys (gath ps)).map tx, rfl, .inr ⟨kt, .inl hp6, by rw [hk, List.map_map]; rfl⟩, by rw [List.length_map]; omega, fun x hx => ?_, fun ys q1 o1 o2 nq => ?_⟩
      · obtain ⟨b, hb, rfl⟩ := List.mem_map.mp hx
        rw [tx_len]
        have := AW_len (gw b hb)
        omega
      have s7 := Same.upd nq (o := .lst (ys.map V.str))
      have g7 : upd H3 q1 (.lst (ys.map V.str)) q1 = some (.lst (ys.map V.str)) := upd_same
      have yl : ys.length ≤ 200 := by
        rw [o2.len, List.length_map]
        exact kl
      have yx : ∀ x ∈ ys, x.length ≤ 1000 := fun x hx => by
        obtain ⟨b, hb, rfl⟩ := List.mem_map.mp (o2.perm.mem_iff.mp hx)
        rw [tx_len]
        have := AW_len (gw b hb)
        omega
      refine ⟨q1, ys, rfl, .inl (SqL.of g7), by omega, yx, fun zs q2 o3 o4 nq2 => ?_⟩
      have ezs : zs = (ordered N ps).map tx := sorted_aw gn gw (o4.perm.trans o2.perm) (both_le2 o1 o3 o4)
      subst ezs
      have s8 := Same.upd nq2 (o := .lst (((ordered N ps).map tx).map V.str))
      have g8 : upd (upd H3 q1 (.lst (ys.map V.str))) q2 (.lst (((ordered N ps).map tx).map V.str)) q2 = some (.lst (((ordered N ps).map tx).map V.str)) := upd_same
      have s78 := s7.trans s8
      generalize upd (upd H3 q1 (.lst (ys.map V.str))) q2 (.lst (((ordered N ps).map tx).map V.str)) = H4 at *
      have hp8 := s78 _ _ hp6
      have hD8 := hD6.nld rr_solidD (same_nld s78)
      refine ⟨_, rfl, q2, rfl, ⟨_, SqL.of g8⟩, fun D nD => ?_⟩
      have hno := ordered_nodup N ps
      have hol : (ordered N ps).length ≤ 200 := by
        have z := o4.len
        rw [List.length_map] at z
        omega
      refine FoDc.dc_it walk_list (fun i H' => ∃ kvs', H' D = some (.dK kvs') ∧ DL (Rr K) H' kvs' (((ordered N ps).take i).filterMap fun a => if coef ps a = 0 then none else some (a, coef ps a)) ∧ Same H4 H') ⟨[], upd_same, .nil, Same.upd nD⟩
        (fun i H' _ ⟨_, _, _, s9⟩ => SqL.of (s9 _ _ g8)) (fun i x H5 H6 hi h y => ?_) (fun H5 h => ?_)
      · obtain ⟨kv5, hD5, hL5, s5⟩ := h
        obtain ⟨rfl, ex⟩ := y
        rw [List.getElem?_map, List.getElem?_map] at ex
        obtain ⟨wd, ew⟩ : ∃ wd, (ordered N ps)[i]? = some wd := ⟨_, List.getElem?_eq_getElem (by rw [List.length_map, List.length_map] at hi; exact hi)⟩
        rw [ew] at ex
        have ex2 : V.str (tx wd) = x := Option.some.inj ex
        subst ex2
        have mw : wd ∈ FoWd.keys (gath ps) := of_decide_eq_true (List.mem_filter.mp (List.mem_of_getElem? ew)).2
        have hp9 := s5 _ _ hp8
        have hD9 := hD8.nld rr_solidD (same_nld s5)
        obtain ⟨v, l2, b, rfl, hb⟩ : ∃ v, valV kt (.inr (tx wd)) = some v ∧ Rr K (coef ps wd) H6 v := by
          rcases hD9.look (w := wd) with ⟨l1, _⟩ | ⟨x, v, l1, l2, hv⟩
          · rw [gath_at mw] at l1
            cases l1
          · rw [gath_at mw] at l1
            cases l1
            exact ⟨v, l2, hv⟩
        have gd : DGet H6 p (.str (tx wd)) (some (.ref b)) := .inl ⟨kt, .inr (tx wd), .inl hp9, rfl, l2.symm⟩
        obtain ⟨db, hb5⟩ := id hb
        have tk := fm_take (f := fun a => if coef ps a = 0 then none else some (a, coef ps a)) ew
        refine ⟨rfl, _, rfl, _, rfl, p, .ref b, rfl, gd, ?_⟩
        refine ⟨b, db, _, 0, rfl, hb5, rfl, b, .int 0, coef ps wd, rfl, hb, .inl ⟨((0 : Int) : Rat), .inr ⟨0, rfl, rfl⟩, _, rfl, _, rfl, ?_⟩⟩
        by_cases c0 : coef ps wd = 0
        · rw [decide_eq_true (show coef ps wd = ((0 : Int) : Rat) from c0)]
          refine iteF ⟨kv5, hD5, ?_, s5⟩
          rw [tk, if_pos c0]
          simpa using hL5
        · rw [decide_eq_false (show ¬ coef ps wd = ((0 : Int) : Rat) from c0)]
          have hln : kv5.length ≤ 200 := by
            have z1 := hL5.len
            have z2 := List.length_filterMap_le (fun a => if coef ps a = 0 then none else some (a, coef ps a)) ((ordered N ps).take i)
            rw [List.length_take] at z2
            omega
          have fresh : wd ∉ FoWd.keys (((ordered N ps).take i).filterMap fun a => if coef ps a = 0 then none else some (a, coef ps a)) := by
            intro hm
            obtain ⟨pr, hpr, e1⟩ := List.mem_map.mp hm
            obtain ⟨a2, ha2, e2⟩ := List.mem_filterMap.mp hpr
            have e3 : a2 = wd := by
              by_cases z : coef ps a2 = 0
              · rw [if_pos z] at e2; cases e2
              · rw [if_neg z] at e2
                cases e2
                exact e1
            subst e3
            obtain ⟨j, hj, ej⟩ := List.mem_take_iff_getElem.mp ha2
            have i2 := (List.getElem?_eq_some_iff.mp ew)
            obtain ⟨i3, i4⟩ := i2
            exact (List.pairwise_iff_getElem.mp hno) j i (by omega) i3 (by omega) (ej.trans i4.symm)
          refine iteT ⟨_, rfl, _, rfl, _, rfl, p, .ref b, rfl, gd, kv5, .inr (tx wd), rfl, hD5, by rw [sizeLine_eq]; omega, _, upd_same, ?_, fun b2 o2 e2 => ?_⟩
          · rw [tk, if_neg c0]
            have nk : valV kv5 (.inr (tx wd)) = none := by
              rcases hL5.look (w := wd) with ⟨_, z⟩ | ⟨x, v, l1, _⟩
              · exact z
              · rw [look_none fresh] at l1; cases l1
            rw [putK_new _ nk]
            exact DL.snoc (hL5.nld rr_solidD (nld_upd hD5 id)) ⟨b, rfl, rtAt_nld hb (nld_upd hD5 id)⟩
          · rw [upd_ne (ne_of_none e2 nD)]
            exact s5 _ _ e2
      · obtain ⟨kv5, hD5, hL5, s5⟩ := h
        rw [List.length_map, List.length_map, List.take_length, ← form_ordered] at hL5
        exact Qr D H5 kv5 (s6.free (s78.free nD)) (s6.trans (s78.trans s5)) hD5 hL5
end

end Fo

set_option maxHeartbeats 4100000
namespace Fo
open PySem PySem.Spec PyProof.Rows L2
/-! ### formulas -/
open FoWd
def FmC (K : PySem.W.Frag) : Addr := He.ga K "Formula"
/-- at p stands a formula with the form f -/
def FmAt (K : PySem.W.Frag) (H : Hp) (p : Addr) (f : Ps) : Prop := ∃ dx d kvs, H p = some (.ins (FmC K) dx (putF "_terms" (.ref d) [])) ∧ H d = some (.dK kvs) ∧ DL (Rr K) H kvs f
theorem FmAt.same {K : PySem.W.Frag} {H H' : Hp} {p : Addr} {f : Ps} (h : FmAt K H p f) (s : Same H H') : FmAt K H' p f := by
  obtain ⟨dx, d, kvs, e1, e2, e3⟩ := h
  exact ⟨dx, d, kvs, s _ _ e1, s _ _ e2, e3.nld rr_solidD (same_nld s)⟩
/-- the same, and its dict is new since H -/
def FmN (K : PySem.W.Frag) (H H' : Hp) (p : Addr) (f : Ps) : Prop := ∃ dx d kvs, H d = none ∧ H' p = some (.ins (FmC K) dx (putF "_terms" (.ref d) [])) ∧ H' d = some (.dK kvs) ∧ DL (Rr K) H' kvs f
theorem FmN.at {K : PySem.W.Frag} {H H' : Hp} {p : Addr} {f : Ps} (h : FmN K H H' p f) : FmAt K H' p f := by
  obtain ⟨dx, d, kvs, _, e1, e2, e3⟩ := h
  exact ⟨dx, d, kvs, e1, e2, e3⟩
theorem FmN.back {K : PySem.W.Frag} {H0 H H' : Hp} {p : Addr} {f : Ps} (s : Same H0 H) (h : FmN K H H' p f) : FmN K H0 H' p f := by
  obtain ⟨dx, d, kvs, e0, e1, e2, e3⟩ := h
  exact ⟨dx, d, kvs, s.free e0, e1, e2, e3⟩
theorem FmN.same {K : PySem.W.Frag} {H H' H2 : Hp} {p : Addr} {f : Ps} (h : FmN K H H' p f) (s : Same H' H2) : FmN K H H2 p f := by
  obtain ⟨dx, d, kvs, e0, e1, e2, e3⟩ := h
  exact ⟨dx, d, kvs, e0, s _ _ e1, s _ _ e2, e3.nld rr_solidD (same_nld s)⟩
/-- two formulas with two dicts -/
def FmTwo (K : PySem.W.Frag) (H : Hp) (a b : Addr) (f g : Ps) : Prop := ∃ dx d kf dy u kg, d ≠ u ∧ H a = some (.ins (FmC K) dx (putF "_terms" (.ref d) [])) ∧ H d = some (.dK kf) ∧ DL (Rr K) H kf f ∧ H b = some (.ins (FmC K) dy (putF "_terms" (.ref u) [])) ∧ H u = some (.dK kg) ∧ DL (Rr K) H kg g
theorem FmTwo.swap {K : PySem.W.Frag} {H : Hp} {a b : Addr} {f g : Ps} (h : FmTwo K H a b f g) : FmTwo K H b a g f := by
  obtain ⟨dx, d, kf, dy, u, kg, n, e1, e2, e3, f1, f2, f3⟩ := h
  exact ⟨dy, u, kg, dx, d, kf, Ne.symm n, f1, f2, f3, e1, e2, e3⟩
theorem FmTwo.of {K : PySem.W.Frag} {H0 H : Hp} {a b : Addr} {f g : Ps} (h : FmAt K H0 a f) (s : Same H0 H) (n : FmN K H0 H b g) : FmTwo K H a b f g := by
  obtain ⟨dx, d, kf, e1, e2, e3⟩ := h
  obtain ⟨dy, u, kg, f0, f1, f2, f3⟩ := n
  exact ⟨dx, d, kf, dy, u, kg, (fun z => by rw [z, f0] at e2; cases e2), s _ _ e1, s _ _ e2, e3.nld rr_solidD (same_nld s), f1, f2, f3⟩
def spFInit (K : PySem.W.Frag) : Sp := fun vs H Q _ => ∃ (x dx a : Addr) (kvs : List (Key × V)) (ps : Ps) (N : Nat), vs = [.ref x, .ref a] ∧ H x = some (.ins (FmC K) dx []) ∧ H a = some (.dK kvs) ∧ DL (Rn K) H kvs ps ∧ (FoWd.keys ps).Nodup ∧ Le N ps ∧ N ≤ 60 ∧ ps.length ≤ 200 ∧ Grow 1900 ps ∧
  ∀ H', FmN K H H' x (form N ps) → But x H H' → Q .non H'
theorem take_fresh {ps : Ps} {i : Nat} {q : Wd × Rat} (hn : (FoWd.keys ps).Nodup) (e : ps[i]? = some q) : q.1 ∉ FoWd.keys (ps.take i) := by
  intro hm
  unfold FoWd.keys at hm hn
  rw [List.map_take] at hm
  obtain ⟨j, hj, ej⟩ := List.mem_take_iff_getElem.mp hm
  have e2 : (ps.map (·.1))[i]? = some q.1 := by rw [List.getElem?_map, e]; rfl
  obtain ⟨i3, i4⟩ := List.getElem?_eq_some_iff.mp e2
  exact (List.pairwise_iff_getElem.mp hn) j i (by omega) i3 (by omega) (ej.trans i4.symm)
section
variable {P : Program} {w : World} {K : PySem.W.Frag} {mg : Str → Option Value} {base : Heap}
theorem ok_Finit (T : Tx K mg) : FnOk P w K mg base CX0 6 (He.ma K (He.ga K "Formula") "__init__") T.fd_Formula_init ["self", "terms"] (spFInit K) := by
  refine T.F_Formula_init.ok sc_Formula_init (fun vs H Q E h => ?_) (fun cdv A outer s H vs Q E hr h => ?_)
  · obtain ⟨x, dx, a, kvs, ps, N, rfl, _⟩ := h
    rfl
  · obtain ⟨x, dx, a, kvs, ps, N, rfl, hx, ha, hL, hnd, hN, n60, l200, hG, Qr⟩ := h
    refine ⟨_, (pss_cons (ps_lock (ps_for PassesOwn.never rfl (pi_keys (pv 1)) (pg_name (i := 2) sc_Formula_init.nd rfl (.inl rfl)) (pss_one (ps_if (pt_not (pt_val (pe_call (ok_is_row T) (hr.mono (by decide)) (by rfl) T.g_is_row T.F_is_row.kp T.b_is_row .nil pass0 (pa_cons (pv 2) pa_nil)))) (pss_one ps_never) pss_nil))))
      (pss_one (ps_fld (pv 0) (pe_call (ok_form_of T) (hr.mono (by decide)) (by rfl) T.g_form_of T.F_form_of.kp T.b_form_of .nil pass0 (pa_cons (pe_lock (pe_dc (own := [("row", 2), ("number", 3)])  rfl sc_Formula_init.nd (pi_items (pv 1)) (blkOk_by (own := [("row", 2), ("number", 3)]) (N := ["self", "terms", "row", "number"]) (sc := defScope s_Formula_init) (by decide +kernel)) (fun _ _ _ _ _ => (FoK.pg_tupK (K' := K) (n := 2) rfl (by rfl) (pgs_cons (pg_name (i := 2) sc_Formula_init.nd rfl (.inl rfl)) (pgs_cons (pg_name (i := 3) sc_Formula_init.nd rfl (.inl rfl)) pgs_nil)))) (fun _ _ _ _ _ => pts_nil) (fun _ _ _ _ _ => (pv 2)) (fun _ _ _ _ _ => (pe_call (ok_asQ T) (hr.mono (by decide)) (by rfl) T.g_as_ratio T.F_as_ratio.kp T.b_as_ratio .nil pass0 (pa_cons (pv 3) pa_nil))))) pa_nil)) rfl))), ?_⟩
    have lk : kvs.length = ps.length := hL.len
    have xa : x ≠ a := fun z => by rw [z, ha] at hx; cases hx
    refine ⟨a, .dK kvs, ha, trivial, fun od => ?_⟩
    refine ⟨_, rfl, a, od, rfl, .inl ⟨kvs, upd_same, ?_⟩⟩
    refine for_it walk_keys (fun i σ H2 => ∃ o1 o2, σ = [some (.ref x), some (.ref a), o1, o2] ∧ Same (upd H a (.frz od (.dK kvs))) H2) ⟨_, _, rfl, Same.refl _⟩ (fun i σ H2 _ ⟨_, _, _, h⟩ => h _ _ upd_same) (fun i v σ H2 H3 hi h y => ?_) (fun σ H2 h => ?_)
    · obtain ⟨o1, o2, rfl, s2⟩ := h
      obtain ⟨rfl, k, v0, e0, rfl⟩ := y
      obtain ⟨q, eq, rfl, hr⟩ := hL.at_ e0
      have mq := List.mem_of_getElem? eq
      refine ⟨_, rfl, .str (tx q.1), rfl, .inl ⟨q.1, rfl, Nat.le_trans (hN _ mq) (by omega), fun H4 s4 => ?_⟩⟩
      exact ⟨_, rfl, iteF ⟨_, _, rfl, s2.trans s4⟩⟩
    · obtain ⟨o1, o2, rfl, s2⟩ := h
      refine ⟨s2 _ _ upd_same, ?_⟩
      have s3 : Same H (upd H2 a (.dK kvs)) := fun b o e => by
        by_cases z : b = a
        · rw [z, ha] at e
          cases e
          rw [z]
          exact upd_same
        · rw [upd_ne z]
          exact s2 _ _ (by rw [upd_ne z]; exact e)
      generalize upd H2 a (.dK kvs) = H3 at *
      have ha3 := s3 _ _ ha
      refine ⟨a, .dK kvs, ha3, trivial, fun od2 => ?_⟩
      have s4 : NLD H3 (upd H3 a (.frz od2 (.dK kvs))) := nld_upd ha3 id
      have f4 : upd H3 a (.frz od2 (.dK kvs)) a = some (.frz od2 (.dK kvs)) := upd_same
      have k4 : ∀ b o, H b = some o → b ≠ a → upd H3 a (.frz od2 (.dK kvs)) b = some o := fun b o e n => by
        rw [upd_ne n]
        exact s3 _ _ e
      have back : ∀ H5, Same (upd H3 a (.frz od2 (.dK kvs))) H5 → Same H (upd H5 a (.dK kvs)) := fun H5 s5 b o e => by
        by_cases z : b = a
        · rw [z, ha] at e
          cases e
          rw [z]
          exact upd_same
        · rw [upd_ne z]
          exact s5 _ _ (k4 b o e z)
      have hL4 := (hL.nld rn_solidD (same_nld s3)).nld rn_solidD s4
      generalize upd H3 a (.frz od2 (.dK kvs)) = H4 at *
      refine ⟨_, rfl, a, od2, kvs, rfl, f4, fun D nD => ?_⟩
      refine FoDc.dc_it walk_items (fun i H' => ∃ kv', H' D = some (.dK kv') ∧ DL (Rr K) H' kv' (ps.take i) ∧ Same H4 H') ⟨[], upd_same, .nil, Same.upd nD⟩ (fun i H' _ ⟨_, _, _, s9⟩ => s9 _ _ f4) (fun i v H5 H6 hi h y => ?_) (fun H5 h => ?_)
      · obtain ⟨kv', hD5, hL5, s5⟩ := h
        obtain ⟨tp, k1, v1, rfl, ntp, rfl, ek, ev⟩ := y
        obtain ⟨⟨k0, v0⟩, e0⟩ : ∃ q, kvs[i]? = some q := ⟨_, List.getElem?_eq_getElem hi⟩
        dsimp only at ek ev
        rw [e0] at ek ev
        obtain ⟨q, eq, hk, hv⟩ := hL4.at_ e0
        obtain ⟨qw, qx⟩ := q
        have ek2 : V.str (tx qw) = k1 := by
          have z := Option.some.inj ek
          rw [hk] at z
          exact z
        have ev2 : v0 = v1 := Option.some.inj ev
        subst ek2 ev2
        dsimp only at hv
        have s6 := Same.upd ntp (o := .tup [V.str (tx qw), v0])
        have t6 : upd H5 tp (.tup [V.str (tx qw), v0]) tp = some (.tup [V.str (tx qw), v0]) := upd_same
        have hD6 := s6 _ _ hD5
        have hL6 := hL5.nld rr_solidD (same_nld s6)
        have hv6 : Rn K qx (upd H5 tp (.tup [V.str (tx qw), v0])) v0 := rn_solidD _ (same_nld (s5.trans s6)) hv
        have s56 := s5.trans s6
        generalize upd H5 tp (.tup [V.str (tx qw), v0]) = H6 at *
        refine ⟨tp, _, rfl, SqT.of t6, rfl, _, _, rfl, _, _, rfl, rfl, rfl, ?_⟩
        refine ⟨_, rfl, _, rfl, v0, qx, rfl, hv6, fun b H7 s7 hb => ?_⟩
        have hD7 := s7 _ _ hD6
        have hL7 := hL6.nld rr_solidD (same_nld s7)
        have fresh : qw ∉ FoWd.keys (ps.take i) := take_fresh hnd eq
        have nk : valV kv' (.inr (tx qw)) = none := by
          rcases hL7.look (w := qw) with ⟨_, z⟩ | ⟨x, v, l1, _⟩
          · exact z
          · rw [look_none fresh] at l1; cases l1
        refine ⟨kv', .inr (tx qw), rfl, hD7, ?_, _, upd_same, ?_, fun b2 o2 e2 => ?_⟩
        · have z := hL7.len
          rw [List.length_take] at z
          rw [sizeLine_eq]
          omega
        · rw [putK_new _ nk, List.take_add_one, eq]
          exact DL.snoc (hL7.nld rr_solidD (nld_upd hD7 id)) ⟨b, rfl, rtAt_nld hb (nld_upd hD7 id)⟩
        · rw [upd_ne (ne_of_none e2 nD)]
          exact s7 _ _ (s56 _ _ e2)
      · obtain ⟨kv', hD5, hL5, s5⟩ := h
        rw [lk, List.take_length] at hL5
        refine ⟨s5 _ _ f4, ?_⟩
        have Da : D ≠ a := fun z => by rw [z, f4] at nD; cases nD
        have s8 := back H5 s5
        have hD8 : upd H5 a (.dK kvs) D = some (.dK kv') := by rw [upd_ne Da]; exact hD5
        have hL8 : DL (Rr K) (upd H5 a (.dK kvs)) kv' ps := hL5.nld rr_solidD (nld_upd (s5 _ _ f4) id)
        generalize upd H5 a (.dK kvs) = H8 at *
        refine ⟨D, kv', ps, N, rfl, hD8, hL8, hN, n60, l200, hG, fun p H9 kv9 np s9 hp9 hL9 => ?_⟩
        have hx9 := s9 _ _ (s8 _ _ hx)
        have px : p ≠ x := fun z => by
          rw [z, s8 _ _ hx] at np
          cases np
        refine ⟨_, rfl, x, FmC K, dx, [], rfl, hx9, T.cl_F, T.nT_F, by decide, ?_⟩
        refine Qr _ ⟨dx, p, kv9, s8.free np, upd_same, by rw [upd_ne px]; exact hp9, ?_⟩ fun b o e n => ?_
        · refine Paired.mapP hL9 fun kv q ⟨e1, b, e2, e3⟩ => ⟨e1, b, e2, ?_⟩
          obtain ⟨db, e3⟩ := e3
          refine ⟨db, ?_⟩
          rw [upd_ne (fun z => by
            rw [z, hx9] at e3
            have z2 := Option.some.inj e3
            injection z2 with z3 z4 z5
            cases z5)]
          exact e3
        · rw [upd_ne n]
          exact s9 _ _ (s8 _ _ e)
end

end Fo

set_option maxHeartbeats 4100000
namespace Fo
open PySem PySem.Spec PyProof.Rows L2
/-! ### a formula's terms -/
open FoWd
def spFTerms (K : PySem.W.Frag) : Sp := fun vs H Q _ => ∃ (a : Addr) (f : Ps), vs = [.ref a] ∧ FmAt K H a f ∧ ∀ p H' kvs, H p = none → Same H H' → H' p = some (.dK kvs) → DL (Rr K) H' kvs f → Q (.ref p) H'
section
variable {P : Program} {w : World} {K : PySem.W.Frag} {mg : Str → Option Value} {base : Heap}
theorem ok_Fterms (T : Tx K mg) : FnOk P w K mg base CX0 1 (He.ma K (He.ga K "Formula") "terms") T.fd_Formula_terms ["self"] (spFTerms K) := by
  refine T.F_Formula_terms.ok sc_Formula_terms (fun vs H Q E h => ?_) (fun cdv A outer s H vs Q E hr h => ?_)
  · obtain ⟨a, f, rfl, _⟩ := h
    rfl
  · obtain ⟨a, f, rfl, ⟨dx, d, kvs, e1, e2, e3⟩, q⟩ := h
    refine ⟨_, (pss_one (ps_ret (pe_callTy call_dictD (by rfl) T.z_dict (by decide +kernel) (pa_cons (pe_fld (pv 0) rfl) pa_nil)))), ?_⟩
    refine ⟨_, rfl, a, _, dx, _, _, rfl, e1, T.cl_F, T.nT_F, rfl, d, kvs, rfl, .inl e2, fun p np => ?_⟩
    exact q p _ kvs np (Same.upd np) upd_same (e3.nld rr_solidD (same_nld (Same.upd np)))
end

end Fo

set_option maxHeartbeats 4100000
/-! == of dicts, whose values are told by their own == . -/
namespace FoDq
open PySem PySem.Spec PyProof.Rows L2 FoG
/-- the pairs of the one, one after the other, looked up in the other -/
inductive Hits (X : Cx) (n : Nat) (H : Hp) (kb : List (Key × V)) : List (Key × V) → Bool → Prop where
  | nil : Hits X n H kb [] true
  | miss {k : Key} {v : V} {r : List (Key × V)} (h : valV kb k = none) : Hits X n H kb ((k, v) :: r) false
  | hit {k : Key} {v y : V} {r : List (Key × V)} {e b : Bool} (h : valV kb k = some y) (q : EqW X n H v y e) (t : Hits X n H kb r b) : Hits X n H kb ((k, v) :: r) (e && b)
theorem Hits.inv {X : Cx} {n : Nat} {H : Hp} {kb : List (Key × V)} {k : Key} {v : V} {r : List (Key × V)} {b : Bool} (h : Hits X n H kb ((k, v) :: r) b) :
    (valV kb k = none ∧ b = false) ∨ ∃ y e b', valV kb k = some y ∧ EqW X n H v y e ∧ Hits X n H kb r b' ∧ b = (e && b') := by
  cases h with
  | miss hn => exact .inl ⟨hn, rfl⟩
  | hit hy he hr => exact .inr ⟨_, _, _, hy, he, hr, rfl⟩
section
variable {X : Cx} {n : Nat} {a b : Addr} {H : Hp} {oa ob : Obj} {ka kb : List (Key × V)}
theorem pairs {nm : String} {pz : List (Addr × Obj)} {τ : L2.St} {s : Shared} {r : Bool} {Q : Bool → Shared → Prop} (I : Inv X pz τ H s) (ha : H a = some (.frz oa (.dK ka))) (hb : H b = some (.frz ob (.dK kb))) (hits : ka.length = kb.length → Hits X n H kb ka r)
    (h : ∀ s', Inv X pz τ H s' → Q (ka.length == kb.length && r) s') : wpAny (model X.prog X.w) (inN n X.A) (Builtin.Dict.samePairs nm a b) Q X.xe s := by
  obtain ⟨sa, ga, xa, es, ep, va, hda, zsa, kva, _⟩ := I.frzK ha
  obtain ⟨sb, gb, xb, es', ep', vb, hdb, zsb, kvb, _⟩ := I.frzK hb
  rw [← zsa, ← zsb] at h hits
  unfold Builtin.Dict.samePairs Builtin.Dict.showsAll
  rw [if_neg (show ¬ (a == sysModules) = true by rw [sa]; exact Bool.false_ne_true), if_neg (show ¬ (b == sysModules) = true by rw [sb]; exact Bool.false_ne_true)]
  refine wpAny_bind (wpAny_pure (wpAny_bind (wpAny_pure ?_)))
  refine wpAny_bind (wpAny_dictEntries ga hda ?_)
  dsimp only
  refine wpAny_bind (wpAny_dictEntries gb hdb ?_)
  by_cases hsz : es.size = es'.size
  case neg =>
    rw [if_pos (by simpa using hsz)]
    have hbf : (es.size == es'.size) = false := by simpa using hsz
    rw [hbf, Bool.false_and] at h
    exact wpAny_bind (wpAny_rule (wpAny_pure (h _ I)))
  case pos =>
    have h' : ∀ s', Inv X pz τ H s' → Q r s' := by simpa [hsz] using h
    have hits' := hits hsz
    rw [if_neg (by rw [hsz]; simp)]
    refine wpAny_bind (wpAny_dictEpoch ga hda ?_)
    refine wpAny_bind ?_
    rw [Std.Legacy.Range.forIn_eq_forIn_range']
    simp only [Std.Legacy.Range.size, Nat.sub_zero, Nat.add_sub_cancel, Nat.div_one]
    refine wpAny_forIn_list _
      (fun rest q s' => Inv X pz τ H s' ∧ q = (none, ()) ∧ ∃ i, rest = List.range' i (es.size - i) ∧ i ≤ es.size ∧ Hits X n H kb (ka.drop i) r)
      _ ?_ ?_ _ _ ⟨I, rfl, 0, by simp, Nat.zero_le _, hits'⟩
    · rintro x rest q t ⟨It, rfl, i, hr, hi, hpre⟩
      have hlt : i < es.size := by
        rcases Nat.lt_or_ge i es.size with h | h
        · exact h
        · rw [Nat.sub_eq_zero_of_le h] at hr; simp at hr
      obtain ⟨rfl, hrest⟩ : x = i ∧ rest = List.range' (i + 1) (es.size - (i + 1)) := by
        have e : es.size - i = (es.size - (i + 1)) + 1 := by omega
        rw [e, List.range'_succ] at hr
        injection hr with h1 h2
        exact ⟨h1, h2⟩
      obtain ⟨_, ga, _, es2, ep2, va, hda2, _, kva, da⟩ := It.frzK ha
      obtain ⟨rfl, rfl⟩ := dict_ep hda hda2
      obtain ⟨_, gb, _, es3, ep3, vb, hdb2, _, kvb, db⟩ := It.frzK hb
      obtain ⟨rfl, rfl⟩ := dict_ep hdb hdb2
      obtain ⟨oa', esa, hoa, _, hdaa, hka, hpa, _⟩ := da
      rw [ga] at hoa
      cases hoa
      obtain ⟨rfl, _⟩ := dict_ep hda hdaa
      obtain ⟨ob', esb, hob, _, hdbb, hkb, hpb, _⟩ := db
      rw [gb] at hob
      cases hob
      obtain ⟨rfl, _⟩ := dict_ep hdb hdbb
      have hfind : ∀ k, findBy (mixKind X.prog X.w).is esb k = valueAt vb k := fun k => by
        rw [← hpb.find k]
        clear hpb hkb hdbb hdb hdb2 gb hrest hits hits' hsz h h' zsb
        obtain ⟨l⟩ := esb
        simp [findBy]
      refine wpAny_bind (wpAny_dictEntries ga hda ?_)
      rw [Array.getElem?_eq_getElem hlt]
      have hlt' : x < ka.length := by omega
      obtain ⟨k, v, hkv⟩ : ∃ k v, ka[x] = (k, v) := ⟨_, _, rfl⟩
      obtain ⟨u, hu, ru⟩ := kv_get kva (show ka[x]? = some (k, v) by rw [List.getElem?_eq_getElem hlt', hkv])
      have hdrop : ka.drop x = (k, v) :: ka.drop (x + 1) := by rw [← hkv]; exact List.drop_eq_getElem_cons hlt'
      obtain ⟨hkey, hval⟩ := hpa.get? (i := x) (e := esa[x]) (k := k) (v := u) (by rw [Array.getElem?_toList]; exact Array.getElem?_eq_getElem hlt) hu
      obtain ⟨k', hk', hh⟩ := hka esa[x] (Array.getElem_mem hlt)
      have ekk : k' = k := (mixKind X.prog X.w).inj _ _ _ hk' hkey
      rw [ekk] at hh
      rw [hdrop] at hpre
      show wpAny _ _ (holding [esa[x].key, esa[x].val] _ >>= _) _ _ _
      rw [hh]
      refine wpAny_bind (wpAny_holding (wpAny_bind (wpAny_dictFind_of hkey gb hdb hkb ?_)))
      have rr : RelO (valV kb k) (valueAt vb k) := kvb.val k
      cases hj : esb.findIdx? fun e => (mixKind X.prog X.w).is k e.key with
      | none =>
        have hn : valueAt vb k = none := by rw [← hfind k, findBy_of_findIdx?, hj]
        rcases hpre.inv with ⟨_, er⟩ | ⟨y, _, _, hy, _⟩
        · rw [er] at h'
          refine wpAny_pure ?_
          show wpAny _ _ (if (!false) = true then _ else _) _ _ _
          rw [if_pos (by decide)]
          exact wpAny_pure (wpAny_pure (h' _ It))
        · rw [hn, hy] at rr; exact False.elim rr
      | some j =>
        obtain ⟨hjlt, _, _⟩ := Array.findIdx?_eq_some_iff_getElem.mp hj
        have hv' : valueAt vb k = some esb[j].val := by
          rw [← hfind k, findBy_of_findIdx?, hj]
          simp [Array.getElem?_eq_getElem hjlt]
        refine wpAny_bind (wpAny_dictEntries gb hdb ?_)
        rw [Array.getElem?_eq_getElem hjlt]
        rcases hpre.inv with ⟨hn, _⟩ | ⟨y, e, b', hy, he, hrr, er⟩
        · rw [hv', hn] at rr; exact False.elim rr
        · rw [hv', hy] at rr
          rw [← hval] at ru
          refine wpAny_holding (he pz τ t _ _ _ It ru rr fun t' It' => ?_)
          cases e with
          | false =>
            rw [er, Bool.false_and] at h'
            show wpAny _ _ (if (!false) = true then _ else _) _ _ _
            rw [if_pos (by decide)]
            exact wpAny_pure (wpAny_pure (h' _ It'))
          | true =>
            rw [Bool.true_and] at er
            rw [← er] at hrr
            obtain ⟨_, ga', _⟩ := It'.frzK ha
            show wpAny _ _ (if (!true) = true then _ else _) _ _ _
            rw [if_neg (by decide)]
            refine wpAny_bind (wpAny_dictEpoch ga' hda ?_)
            rw [if_neg (by simp)]
            exact wpAny_pure ⟨It', rfl, x + 1, hrest, hlt, hrr⟩
    · rintro q t ⟨It, rfl, i, hr, hi, hpre⟩
      have hin : i = es.size := by
        rcases Nat.lt_or_ge i es.size with h | h
        · have e : es.size - i = (es.size - (i + 1)) + 1 := by omega
          rw [e, List.range'_succ] at hr; exact nomatch hr
        · exact Nat.le_antisymm hi h
      refine wpAny_pure ?_
      rw [hin, zsa, List.drop_length] at hpre
      cases hpre
      exact h' _ It
/-- what is elsewhere than at a and b stands -/
def Els (a b : Addr) (H H' : Hp) : Prop := ∀ c o, c ≠ a → c ≠ b → H c = some o → H' c = some o
theorem rc_dicts {pz : List (Addr × Obj)} {τ : L2.St} {s : Shared} {r : Bool} {Q : Value → Shared → Prop} (hu : (inN n X.A).units < cLine) (I : Inv X pz τ H s) (ha : H a = some (.frz oa (.dK ka))) (hb : H b = some (.frz ob (.dK kb))) (hits : ka.length = kb.length → Hits X (n + 1) H kb ka r)
    (h : ∀ s', Inv X pz τ H s' → Q (.bool (ka.length == kb.length && r)) s') : wpAny (model X.prog X.w) (inN n X.A) (richCompare .Eq (.ref a) (.ref b)) Q X.xe s := by
  obtain ⟨sa, ga, xa, es, ep, va, hda, zsa, kva, da⟩ := I.frzK ha
  obtain ⟨sb, gb, xb, es', ep', vb, hdb, zsb, kvb, db⟩ := I.frzK hb
  have da' := da.dictOf
  have db' := db.dictOf
  refine wpAny_richCompare_same_room (op := .Eq) da'.typeIs db'.typeIs PySem.F.slot_dict_eq (wpAny_call_entry PySem.F.slot_dict_eq da'.typeIs PySem.F.entry_dict_eq ?_ (PySem.F.args_dict_eq_2 _ _)) hu
  show wpAny _ _ (Builtin.Dict.dictSlotArgs "__eq__" ⟨[.ref a, .ref b], []⟩ >>= _) _ _ s
  refine wpAny_bind ?_
  unfold Builtin.Dict.dictSlotArgs
  refine wpAny_bind (wpAny_notOrdered_dict da'.typeIs ?_)
  show wpAny _ _ (pure (Value.ref a, Value.ref b)) _ _ s
  refine wpAny_pure ?_
  refine wpAny_bind (wpAny_isInstance (T := "dict") db'.typeIs PySem.F.sub_dict_dict ?_)
  simp only [Bool.not_true, Bool.false_eq_true, if_false]
  refine wpAny_bind (wpAny_pure (wpAny_bind (wpAny_pure ?_)))
  refine wpAny_bind (pairs (n := n + 1) I ha hb hits fun s' I' => ?_)
  refine wpAny_pure ⟨_, rfl, ?_, ?_⟩
  · exact fun x => nomatch x
  · simpa using h s' I'
/-- a == b, dicts -/
def rEqDo (X : Cx) : R2 := fun x y H Q => ∃ a b ka kb r, x = .ref a ∧ y = .ref b ∧ H a = some (.dK ka) ∧ H b = some (.dK kb) ∧ (∀ H', Els a b H H' → ka.length = kb.length → Hits X 1 H' kb ka r) ∧ Q (.bl (ka.length == kb.length && r)) H
theorem op_eqDo (hu : X.A.units < cLine) : OpR X (compareOp .Eq) (rEqDo X) := by
  intro pz s τ H x y v u Q I rv ru h
  obtain ⟨a, b, ka, kb, r, rfl, rfl, ha, hb, hits, q⟩ := h
  cases rv
  cases ru
  show wpAny _ _ (richCompare .Eq (.ref a) (.ref b)) _ _ _
  obtain ⟨oa, I1⟩ := I.lock ha trivial
  by_cases e : b = a
  · subst e
    rw [ha] at hb
    cases hb
    have g1 : upd H b (.frz oa (.dK ka)) b = some (.frz oa (.dK ka)) := upd_same
    refine rc_dicts (n := 0) hu I1 g1 g1 (hits _ fun c o c1 c2 z => by rw [upd_ne c1]; exact z) fun s' I' => ?_
    have I2 := I'.unlock g1 (I.nofrz ha trivial)
    have eH : upd (upd H b (.frz oa (.dK ka))) b (.dK ka) = H := by
      rw [upd_upd]
      funext c
      unfold upd
      split
      · rename_i z; rw [z]; exact ha.symm
      · rfl
    rw [eH] at I2
    exact ⟨.bl _, H, I2, rfl, q⟩
  · have hb1 : upd H a (.frz oa (.dK ka)) b = some (.dK kb) := by rw [upd_ne e]; exact hb
    obtain ⟨ob, I2⟩ := I1.lock hb1 trivial
    have g2 : upd (upd H a (.frz oa (.dK ka))) b (.frz ob (.dK kb)) b = some (.frz ob (.dK kb)) := upd_same
    have g1 : upd (upd H a (.frz oa (.dK ka))) b (.frz ob (.dK kb)) a = some (.frz oa (.dK ka)) := by rw [upd_ne (Ne.symm e)]; exact upd_same
    refine rc_dicts (n := 0) hu I2 g1 g2 (hits _ fun c o c1 c2 z => by rw [upd_ne c2, upd_ne c1]; exact z) fun s' I' => ?_
    have I3 := I'.unlock g2 (I.nofrz hb trivial)
    have g4 : upd (upd (upd H a (.frz oa (.dK ka))) b (.frz ob (.dK kb))) b (.dK kb) a = some (.frz oa (.dK ka)) := by rw [upd_ne (Ne.symm e)]; exact g1
    have I4 := I3.unlock g4 (I.nofrz ha trivial)
    have eH : upd (upd (upd (upd H a (.frz oa (.dK ka))) b (.frz ob (.dK kb))) b (.dK kb)) a (.dK ka) = H := by
      funext c
      unfold upd
      by_cases c1 : c = a
      · rw [if_pos c1, c1]; exact ha.symm
      · rw [if_neg c1]
        by_cases c2 : c = b
        · rw [if_pos c2, c2]; exact hb.symm
        · rw [if_neg c2, if_neg c2, if_neg c1]
    rw [eH] at I4
    exact ⟨.bl _, H, I4, rfl, q⟩
end
end FoDq

set_option maxHeartbeats 4100000
namespace Fo
open PySem PySem.Spec PyProof.Rows L2
/-! ### formulas compared -/
open FoWd
theorem eqW_rt {X : Cx} {n : Nat} {K : PySem.W.Frag} {k : Nat} {fd : FuncData} (hK : X.K = K) (F : FnOk X.prog X.w X.K X.mg X.base CX0 k (He.ma K (He.ga K "Ratio") "__eq__") fd ["self", "other"] (spEqQ K)) (hr : Room (k + n) X.A) (hb : Binds X.K fd ["self", "other"] []) (B : FoA.CmpC X.K (RC K) (He.ma K (He.ga K "Ratio") "__eq__") .Eq)
    {H : Hp} {a b : Addr} {x z : Rat} (ha : RtAt K H a x) (hz : RtAt K H b z) : FoG.EqW X n H (.ref a) (.ref b) (decide (x = z)) := by
  obtain ⟨da, ea⟩ := id ha
  obtain ⟨db, eb⟩ := id hz
  refine FoG.eqW_own F hr hb pass0 B ea eb (fun e => ?_) ?_
  · subst e
    exact decide_eq_true (rt_inj ha hz)
  · exact ⟨a, .ref b, x, rfl, ha, .inl ⟨z, .inl ⟨b, rfl, hz⟩, rfl, rfl⟩⟩
theorem hits_of {X : Cx} {K : PySem.W.Frag} {k : Nat} {fd : FuncData} (hK : X.K = K) (F : FnOk X.prog X.w X.K X.mg X.base CX0 k (He.ma K (He.ga K "Ratio") "__eq__") fd ["self", "other"] (spEqQ K)) (hr : Room (k + 1) X.A) (hb : Binds X.K fd ["self", "other"] []) (B : FoA.CmpC X.K (RC K) (He.ma K (He.ga K "Ratio") "__eq__") .Eq)
    {H : Hp} {kb : List (Key × V)} {g : Ps} (hg : DL (Rr K) H kb g) {ka : List (Key × V)} {f : Ps} (h : DL (Rr K) H ka f) : FoDq.Hits X 1 H kb ka (f.all fun p => decide (look g p.1 = some p.2)) := by
  induction h with
  | nil => exact .nil
  | @cons a b l1 l2 r t ih =>
    obtain ⟨ak, av⟩ := a
    obtain ⟨r1, c, rfl, hc⟩ := r
    dsimp only at r1
    subst r1
    rw [List.all_cons]
    rcases hg.look (w := b.1) with ⟨l1, l2⟩ | ⟨x, v, l1, l2, e, rfl, he⟩
    · rw [l1]
      exact .miss l2
    · rw [l1]
      have e1 : decide (some x = some b.2) = decide (b.2 = x) := decide_eq_decide.mpr ⟨fun z => (Option.some.inj z).symm, fun z => by rw [z]⟩
      rw [e1]
      exact .hit l2 (eqW_rt hK F hr hb B hc he) ih
theorem dl_els {K : PySem.W.Frag} {H H' : Hp} {d u : Addr} {kv kw kvs : List (Key × V)} {f : Ps} (hd : H d = some (.dK kv)) (hu : H u = some (.dK kw)) (s : FoDq.Els d u H H') (h : DL (Rr K) H kvs f) : DL (Rr K) H' kvs f :=
  Paired.mapP h fun a b ⟨e, c, e2, dx, e3⟩ => ⟨e, c, e2, dx, s _ _ (fun z => by rw [z, hd] at e3; cases e3) (fun z => by rw [z, hu] at e3; cases e3) e3⟩
def spFEq (K : PySem.W.Frag) : Sp := fun vs H Q _ => ∃ (a b : Addr) (ps qs : Ps) (N : Nat), vs = [.ref a, .ref b] ∧ FmAt K H a (form N ps) ∧ FmAt K H b (form N qs) ∧ Q (.bl (decide (form N ps = form N qs))) H
section
variable {P : Program} {w : World} {K : PySem.W.Frag} {mg : Str → Option Value} {base : Heap}
theorem ok_Feq (T : Tx K mg) : FnOk P w K mg base CX0 4 (He.ma K (He.ga K "Formula") "__eq__") T.fd_Formula_eq ["self", "other"] (spFEq K) := by
  refine T.F_Formula_eq.ok sc_Formula_eq (fun vs H Q E h => ?_) (fun cdv A outer s H vs Q E hr h => ?_)
  · obtain ⟨a, b, ps, qs, N, rfl, _⟩ := h
    rfl
  · obtain ⟨a, b, ps, qs, N, rfl, ⟨dx, d, kv, e1, e2, e3⟩, ⟨dy, u, kw, f1, f2, f3⟩, q⟩ := h
    refine ⟨_, (pss_one (ps_ret (pe_and (pe_callB call_isi (by rfl) T.z_isinstance (by decide +kernel) (pa_cons (pv 1) (pa_cons (pe_glob (v := V.ref (He.ga K "Formula")) (by rfl) T.c_Formula rfl) pa_nil))) (pe_one (pe_cmpR (FoDq.op_eqDo (Nat.lt_of_le_of_lt (Nat.le_add_right _ _) hr.units)) (pe_fld (pv 0) rfl) (pe_fld (pv 1) rfl) (nomark _)))))), ?_⟩
    refine ⟨_, rfl, _, _, _, _, _, rfl, .own _, FoB.TyI T.is_F T.cl_F f1, FoB.kit_self, _, rfl, iteT ?_⟩
    refine ⟨_, rfl, a, _, dx, _, _, rfl, e1, T.cl_F, T.nT_F, rfl, _, rfl, b, _, dy, _, _, rfl, f1, T.cl_F, T.nT_F, rfl, ?_⟩
    refine ⟨d, u, kv, kw, (form N ps).all fun p => decide (look (form N qs) p.1 = some p.2), rfl, rfl, e2, f2, fun H' hel _ => ?_, ?_⟩
    · exact hits_of rfl (ok_eqQ T) (hr.mono (by decide)) T.b_Ratio_eq T.cm_eq (dl_els e2 f2 hel f3) (dl_els e2 f2 hel e3)
    · rw [e3.len, f3.len, form_eq_bool]
      exact q
end

end Fo

set_option maxHeartbeats 4100000
namespace Fo
open PySem PySem.Spec PyProof.Rows L2
/-! ### formulas made of a formula -/
open FoWd
theorem keys_scl (c : Rat) (f : Ps) : FoWd.keys (scl c f) = FoWd.keys f := by
  unfold FoWd.keys scl
  rw [List.map_map]
  rfl
theorem scl_at {c : Rat} {f : Ps} {i : Nat} {q : Wd × Rat} (h : f[i]? = some q) : (scl c f)[i]? = some (q.1, c * q.2) := by
  unfold scl
  rw [List.getElem?_map, h]
  rfl
theorem le_scl {N : Nat} {c : Rat} {f : Ps} (h : Le N f) : Le N (scl c f) := fun p hp => by
  obtain ⟨q, hq, rfl⟩ := List.mem_map.mp hp
  exact h q hq
/-- what a formula made of another one promises -/
def spFNew (K : PySem.W.Frag) (g : Ps → Ps) : Sp := fun vs H Q _ => ∃ (a : Addr) (f : Ps) (N : Nat), vs = [.ref a] ∧ FmAt K H a f ∧ (FoWd.keys f).Nodup ∧ Le N f ∧ N ≤ 60 ∧ f.length ≤ 200 ∧ (∀ p ∈ f, FoQ.SzR 1900 p.2) ∧ Grow 1900 (g f) ∧
  ∀ p H', H p = none → Same H H' → FmN K H H' p (form N (g f)) → Q (.ref p) H'
/-- what a call of Formula asks -/
theorem fm_make {K : PySem.W.Frag} {H : Hp} {D : Addr} {kvs : List (Key × V)} {ps : Ps} {N : Nat} {R : Addr → VK} {E : XK} (hD : H D = some (.dK kvs)) (hL : DL (Rn K) H kvs ps) (hn : (FoWd.keys ps).Nodup) (hN : Le N ps) (n60 : N ≤ 60) (l200 : ps.length ≤ 200) (hG : Grow 1900 ps)
    (q : ∀ p H', H p = none → Same H H' → FmN K H H' p (form N ps) → R p .non H') :
    ∀ x dx, H x = none → H dx = none → dx ≠ x → spFInit K [.ref x, .ref D] (upd (upd H dx (.own x)) x (.ins (FmC K) dx [])) (R x) E := fun x dx nx ndx ne => by
  have s1 : Same H (upd (upd H dx (.own x)) x (.ins (FmC K) dx [])) := (Same.upd ndx).trans (Same.upd (by rw [upd_ne (Ne.symm ne)]; exact nx))
  exact ⟨x, dx, D, kvs, ps, N, rfl, upd_same, s1 _ _ hD, hL.nld rn_solidD (same_nld s1), hn, hN, n60, l200, hG, fun H' hF hB => q x H' nx (Same.made nx ndx hB) (hF.back s1)⟩
section
variable {P : Program} {w : World} {K : PySem.W.Frag} {mg : Str → Option Value} {base : Heap}
theorem ok_Fneg (T : Tx K mg) : FnOk P w K mg base CX0 8 (He.ma K (He.ga K "Formula") "__neg__") T.fd_Formula_neg ["self"] (spFNew K (scl (-1))) := by
  refine T.F_Formula_neg.ok sc_Formula_neg (fun vs H Q E h => ?_) (fun cdv A outer s H vs Q E hr h => ?_)
  · obtain ⟨a, f, N, rfl, _⟩ := h
    rfl
  · obtain ⟨a, f, N, rfl, ⟨dx, d, kvs, e1, ha, hL⟩, hnd, hN, n60, l200, hz, hG, Qr⟩ := h
    refine ⟨_, (pss_one (ps_ret (pe_make T.mk_F (ok_Finit T) (hr.mono (by decide)) (by rfl) T.c_Formula T.b_Formula_init .nil pass0 (pa_cons (pe_lock (pe_dc (own := [("row", 1), ("number", 2)])  rfl sc_Formula_neg.nd (pi_items (pe_fld (pv 0) rfl)) (blkOk_by (own := [("row", 1), ("number", 2)]) (N := ["self", "row", "number"]) (sc := defScope s_Formula_neg) (by decide +kernel)) (fun _ _ _ _ _ => (FoK.pg_tupK (K' := K) (n := 2) rfl (by rfl) (pgs_cons (pg_name (i := 1) sc_Formula_neg.nd rfl (.inl rfl)) (pgs_cons (pg_name (i := 2) sc_Formula_neg.nd rfl (.inl rfl)) pgs_nil)))) (fun _ _ _ _ _ => pts_nil) (fun _ _ _ _ _ => (pv 1)) (fun _ _ _ _ _ => (pe_un (FoA.un_own (ok_negQ T) (hr.mono (by decide)) T.b_Ratio_neg pass0 T.m_neg.at_ T.m_neg.fn) (pv 2))))) pa_nil)))), ?_⟩
    have lk : kvs.length = f.length := hL.len
    have ad : a ≠ d := fun z => by rw [z, ha] at e1; cases e1
    refine ⟨d, .dK kvs, ha, trivial, fun od2 => ?_⟩
    have s4 : NLD H (upd H d (.frz od2 (.dK kvs))) := nld_upd ha id
    have f4 : upd H d (.frz od2 (.dK kvs)) d = some (.frz od2 (.dK kvs)) := upd_same
    have a4 : upd H d (.frz od2 (.dK kvs)) a = some (.ins (FmC K) dx (putF "_terms" (.ref d) [])) := by rw [upd_ne ad]; exact e1
    have back : ∀ H5, Same (upd H d (.frz od2 (.dK kvs))) H5 → Same H (upd H5 d (.dK kvs)) := fun H5 s5 b o e => by
      by_cases z : b = d
      · rw [z, ha] at e
        cases e
        rw [z]
        exact upd_same
      · rw [upd_ne z]
        exact s5 _ _ (by rw [upd_ne z]; exact e)
    have hL4 := hL.nld rr_solidD s4
    generalize upd H d (.frz od2 (.dK kvs)) = H4 at *
    refine ⟨_, rfl, a, _, dx, _, _, rfl, a4, T.cl_F, T.nT_F, rfl, d, od2, kvs, rfl, f4, fun D nD => ?_⟩
    refine FoDc.dc_it walk_items (fun i H' => ∃ kv', H' D = some (.dK kv') ∧ DL (Rr K) H' kv' ((scl (-1) f).take i) ∧ Same H4 H') ⟨[], upd_same, .nil, Same.upd nD⟩ (fun i H' _ ⟨_, _, _, s9⟩ => s9 _ _ f4) (fun i v H5 H6 hi h y => ?_) (fun H5 h => ?_)
    · obtain ⟨kv', hD5, hL5, s5⟩ := h
      obtain ⟨tp, k1, v1, rfl, ntp, rfl, ek, ev⟩ := y
      obtain ⟨⟨k0, v0⟩, e0⟩ : ∃ q, kvs[i]? = some q := ⟨_, List.getElem?_eq_getElem hi⟩
      dsimp only at ek ev
      rw [e0] at ek ev
      obtain ⟨q, eq, hk, hv⟩ := hL4.at_ e0
      obtain ⟨qw, qx⟩ := q
      have ek2 : V.str (tx qw) = k1 := by
        have z := Option.some.inj ek
        rw [hk] at z
        exact z
      have ev2 : v0 = v1 := Option.some.inj ev
      subst ek2 ev2
      dsimp only at hv
      have s6 := Same.upd ntp (o := .tup [V.str (tx qw), v0])
      have t6 : upd H5 tp (.tup [V.str (tx qw), v0]) tp = some (.tup [V.str (tx qw), v0]) := upd_same
      have hD6 := s6 _ _ hD5
      have hL6 := hL5.nld rr_solidD (same_nld s6)
      obtain ⟨b0, rfl, hv6⟩ : Rr K qx (upd H5 tp (.tup [V.str (tx qw), v0])) v0 := rr_solidD _ (same_nld (s5.trans s6)) hv
      have s56 := s5.trans s6
      generalize upd H5 tp (.tup [V.str (tx qw), V.ref b0]) = H6 at *
      obtain ⟨db, eb⟩ := id hv6
      refine ⟨tp, _, rfl, SqT.of t6, rfl, _, _, rfl, _, _, rfl, rfl, rfl, ?_⟩
      refine ⟨_, rfl, _, rfl, b0, db, _, rfl, eb, b0, qx, rfl, hv6, (hz _ (List.mem_of_getElem? eq)).mono (by decide), fun b H7 nb s7 hb => ?_⟩
      have hD7 := s7 _ _ hD6
      have hL7 := hL6.nld rr_solidD (same_nld s7)
      have eqs := scl_at (c := -1) eq
      have fresh : qw ∉ FoWd.keys ((scl (-1) f).take i) := take_fresh (by rw [keys_scl]; exact hnd) eqs
      have nk : valV kv' (.inr (tx qw)) = none := by
        rcases hL7.look (w := qw) with ⟨_, z⟩ | ⟨x, v, l1, _⟩
        · exact z
        · rw [look_none fresh] at l1; cases l1
      refine ⟨kv', .inr (tx qw), rfl, hD7, ?_, _, upd_same, ?_, fun b2 o2 e2 => ?_⟩
      · have z := hL7.len
        have z2 : (scl (-1) f).length = f.length := List.length_map _
        rw [List.length_take, z2] at z
        rw [sizeLine_eq]
        omega
      · rw [putK_new _ nk, List.take_add_one, eqs]
        have e3 : -1 * qx = -qx := by grind
        dsimp only
        rw [e3]
        exact DL.snoc (hL7.nld rr_solidD (nld_upd hD7 id)) ⟨b, rfl, rtAt_nld hb (nld_upd hD7 id)⟩
      · rw [upd_ne (ne_of_none e2 nD)]
        exact s7 _ _ (s56 _ _ e2)
    · obtain ⟨kv', hD5, hL5, s5⟩ := h
      have z2 : (scl (-1) f).length = f.length := List.length_map _
      rw [lk, ← z2, List.take_length] at hL5
      refine ⟨s5 _ _ f4, ?_⟩
      have Da : D ≠ d := fun z => by rw [z, f4] at nD; cases nD
      have s8 := back H5 s5
      have hD8 : upd H5 d (.dK kvs) D = some (.dK kv') := by rw [upd_ne Da]; exact hD5
      have hL8 : DL (Rr K) (upd H5 d (.dK kvs)) kv' (scl (-1) f) := hL5.nld rr_solidD (nld_upd (s5 _ _ f4) id)
      generalize upd H5 d (.dK kvs) = H8 at *
      refine fm_make hD8 (Paired.mapP hL8 fun kv q ⟨e1, b, e2, e3⟩ => ⟨e1, .inl ⟨b, e2, e3⟩⟩) (by rw [keys_scl]; exact hnd) (le_scl hN) n60 (by rw [z2]; exact l200) hG fun p H9 np s9 hF => ⟨rfl, ?_⟩
      exact Qr p H9 (s8.free np) (s8.trans s9) (hF.back s8)
end

end Fo

set_option maxHeartbeats 4100000
namespace FoRv
open PySem PySem.Spec PyProof.Rows L2
/-! ### text[::-1] -/
def revS (z : Str) : Str := ⟨z.cps.toList.reverse.toArray⟩
theorem idx_rev : ∀ n : Nat, n < 64 → Builtin.Str.strSliceIndices none none (-1) n = (List.range n).reverse := by decide +kernel
theorem pick_rev (l : List Nat) : ((List.range l.length).reverse.filterMap (fun i => (l.toArray)[i]?)) = l.reverse := by
  rw [List.filterMap_reverse]
  congr 1
  refine Eq.trans (FoV.fm_congr fun i _ => ?_) (FoV.all_items l)
  rw [List.getElem?_toArray]
def tRevS (te ts : TE) : TE := fun τ H Q => te τ H fun x H1 => ts τ H1 fun y H2 => y = .int (-1) ∧ ∃ z, x = .str z ∧ z.cps.size < 64 ∧ Q (.str (revS z)) H2
section
variable {X : Cx} {e st : Expr} {te ts : TE} {p2 pos : Pos}
theorem pe_revS (he : PE X e te) (hs : PE X st ts) : PE X (.Subscript e (.Slice none none (some st) p2) pos) (tRevS te ts) := by
  refine ⟨fun pz s τ H Q I h => ?_⟩
  refine Subscript_ (thn (he.run pz s τ H _ I h) fun v s1 ⟨x, H1, I1, r1, q1⟩ => ?_)
  refine wpAny_Slice ?_
  rw [evalPart_none, evalPart_some]
  refine wpAny_pure (wpAny_pure (thn (hs.run pz s1 τ H1 _ I1 q1) fun w s3 ⟨y, H3, I3, ry, ey, z, ex, hz, q⟩ => ?_))
  subst ey ex
  obtain ⟨t0, rfl⟩ := r1
  obtain ⟨t, rfl⟩ := ry
  have I4 : Inv X pz τ H3 { s3 with heap := s3.heap.push { cls := .type "slice", data := .fields #[Value.none, Value.none, .int (-1) t] } } := I3.kept (t' := s3.toks) fun b ob z => Heap.get?_push_of_some _ z
  have got : wpAny (model X.prog X.w) X.A (getItem (.str z t0) (.ref s3.heap.objs.size)) (EP X pz τ Q) X.xe { s3 with heap := s3.heap.push { cls := .type "slice", data := .fields #[Value.none, Value.none, .int (-1) t] } } := by
    refine wpAny_getItem_str_slice (l := none) (u := none) (st := some (-1, t)) ⟨_, Heap.get?_push_size _ rfl, rfl, rfl⟩ rfl ?_
    have e : (slicePicked z none none (some (-1, t))).filterMap (fun i => z.cps[i]?) = z.cps.toList.reverse := by
      have h := pick_rev z.cps.toList
      have h2 : slicePicked z none none (some (-1, t)) = (List.range z.cps.toList.length).reverse := by
        rw [Array.length_toList]
        exact idx_rev _ hz
      rw [h2, ← h]
    unfold sliceMade
    rw [if_neg (by simp), e]
    exact ⟨by show z.cps.toList.reverse.toArray.size ≤ _; rw [List.size_toArray, List.length_reverse, Array.length_toList, sizeLine_eq]; omega, .str _, H3, I4.tok _, ⟨_, rfl⟩, q⟩
  exact tail_any (ops := [.str z t0, .ref s3.heap.objs.size]) (typeIs_str _ _ _) F.slot_str_getitem.lookup got (by with_unfolding_all rfl)
end
end FoRv

set_option maxHeartbeats 4100000
namespace Fo
open PySem PySem.Spec PyProof.Rows L2
/-! ### the mirror -/
open FoWd
theorem keys_turn {f : Ps} (h : (FoWd.keys f).Nodup) : (FoWd.keys (turn f)).Nodup := by
  have e : FoWd.keys (turn f) = (FoWd.keys f).map List.reverse := by
    unfold FoWd.keys turn
    rw [List.map_map, List.map_map]
    rfl
  rw [e]
  exact List.Pairwise.map _ (fun a b hab z => hab (List.reverse_inj.mp z)) h
theorem turn_at {f : Ps} {i : Nat} {q : Wd × Rat} (h : f[i]? = some q) : (turn f)[i]? = some (q.1.reverse, q.2) := by
  unfold turn
  rw [List.getElem?_map, h]
  rfl
theorem le_turn {N : Nat} {f : Ps} (h : Le N f) : Le N (turn f) := fun p hp => by
  obtain ⟨q, hq, rfl⟩ := List.mem_map.mp hp
  show q.1.reverse.length ≤ N
  rw [List.length_reverse]
  exact h q hq
section
variable {P : Program} {w : World} {K : PySem.W.Frag} {mg : Str → Option Value} {base : Heap}
theorem ok_Fmirror (T : Tx K mg) : FnOk P w K mg base CX0 8 (He.ma K (He.ga K "Formula") "mirror") T.fd_Formula_mirror ["self"] (spFNew K turn) := by
  refine T.F_Formula_mirror.ok sc_Formula_mirror (fun vs H Q E h => ?_) (fun cdv A outer s H vs Q E hr h => ?_)
  · obtain ⟨a, f, N, rfl, _⟩ := h
    rfl
  · obtain ⟨a, f, N, rfl, ⟨dx, d, kvs, e1, ha, hL⟩, hnd, hN, n60, l200, hz, hG, Qr⟩ := h
    refine ⟨_, (pss_one (ps_ret (pe_make T.mk_F (ok_Finit T) (hr.mono (by decide)) (by rfl) T.c_Formula T.b_Formula_init .nil pass0 (pa_cons (pe_lock (pe_dc (own := [("row", 1), ("number", 2)])  rfl sc_Formula_mirror.nd (pi_items (pe_fld (pv 0) rfl)) (blkOk_by (own := [("row", 1), ("number", 2)]) (N := ["self", "row", "number"]) (sc := defScope s_Formula_mirror) (by decide +kernel)) (fun _ _ _ _ _ => (FoK.pg_tupK (K' := K) (n := 2) rfl (by rfl) (pgs_cons (pg_name (i := 1) sc_Formula_mirror.nd rfl (.inl rfl)) (pgs_cons (pg_name (i := 2) sc_Formula_mirror.nd rfl (.inl rfl)) pgs_nil)))) (fun _ _ _ _ _ => pts_nil) (fun _ _ _ _ _ => (FoRv.pe_revS (pv 1) (pe_un un_neg pe_int))) (fun _ _ _ _ _ => (pv 2)))) pa_nil)))), ?_⟩
    have lk : kvs.length = f.length := hL.len
    have ad : a ≠ d := fun z => by rw [z, ha] at e1; cases e1
    refine ⟨d, .dK kvs, ha, trivial, fun od2 => ?_⟩
    have s4 : NLD H (upd H d (.frz od2 (.dK kvs))) := nld_upd ha id
    have f4 : upd H d (.frz od2 (.dK kvs)) d = some (.frz od2 (.dK kvs)) := upd_same
    have a4 : upd H d (.frz od2 (.dK kvs)) a = some (.ins (FmC K) dx (putF "_terms" (.ref d) [])) := by rw [upd_ne ad]; exact e1
    have back : ∀ H5, Same (upd H d (.frz od2 (.dK kvs))) H5 → Same H (upd H5 d (.dK kvs)) := fun H5 s5 b o e => by
      by_cases z : b = d
      · rw [z, ha] at e
        cases e
        rw [z]
        exact upd_same
      · rw [upd_ne z]
        exact s5 _ _ (by rw [upd_ne z]; exact e)
    have hL4 := hL.nld rr_solidD s4
    generalize upd H d (.frz od2 (.dK kvs)) = H4 at *
    refine ⟨_, rfl, a, _, dx, _, _, rfl, a4, T.cl_F, T.nT_F, rfl, d, od2, kvs, rfl, f4, fun D nD => ?_⟩
    refine FoDc.dc_it walk_items (fun i H' => ∃ kv', H' D = some (.dK kv') ∧ DL (Rr K) H' kv' ((turn f).take i) ∧ Same H4 H') ⟨[], upd_same, .nil, Same.upd nD⟩ (fun i H' _ ⟨_, _, _, s9⟩ => s9 _ _ f4) (fun i v H5 H6 hi h y => ?_) (fun H5 h => ?_)
    · obtain ⟨kv', hD5, hL5, s5⟩ := h
      obtain ⟨tp, k1, v1, rfl, ntp, rfl, ek, ev⟩ := y
      obtain ⟨⟨k0, v0⟩, e0⟩ : ∃ q, kvs[i]? = some q := ⟨_, List.getElem?_eq_getElem hi⟩
      dsimp only at ek ev
      rw [e0] at ek ev
      obtain ⟨q, eq, hk, hv⟩ := hL4.at_ e0
      obtain ⟨qw, qx⟩ := q
      have ek2 : V.str (tx qw) = k1 := by
        have z := Option.some.inj ek
        rw [hk] at z
        exact z
      have ev2 : v0 = v1 := Option.some.inj ev
      subst ek2 ev2
      dsimp only at hv
      have s6 := Same.upd ntp (o := .tup [V.str (tx qw), v0])
      have t6 : upd H5 tp (.tup [V.str (tx qw), v0]) tp = some (.tup [V.str (tx qw), v0]) := upd_same
      have hD6 := s6 _ _ hD5
      have hL6 := hL5.nld rr_solidD (same_nld s6)
      obtain ⟨b0, rfl, hv6⟩ : Rr K qx (upd H5 tp (.tup [V.str (tx qw), v0])) v0 := rr_solidD _ (same_nld (s5.trans s6)) hv
      have s56 := s5.trans s6
      generalize upd H5 tp (.tup [V.str (tx qw), V.ref b0]) = H6 at *
      have eqs := turn_at eq
      have fresh : qw.reverse ∉ FoWd.keys ((turn f).take i) := take_fresh (keys_turn hnd) eqs
      have nk : valV kv' (.inr (tx qw.reverse)) = none := by
        rcases hL6.look (w := qw.reverse) with ⟨_, z⟩ | ⟨x, v, l1, _⟩
        · exact z
        · rw [look_none fresh] at l1; cases l1
      have lw : qw.length ≤ 60 := Nat.le_trans (hN _ (List.mem_of_getElem? eq)) n60
      have rv : FoRv.revS (tx qw) = tx qw.reverse := by
        refine TL.ext_tl ?_
        show ((qw.map lcode).reverse : List Nat) = qw.reverse.map lcode
        rw [List.map_reverse]
      refine ⟨tp, _, rfl, SqT.of t6, rfl, _, _, rfl, _, _, rfl, rfl, rfl, ?_⟩
      refine ⟨_, rfl, 1, rfl, rfl, tx qw, rfl, by rw [tx_size]; omega, ?_⟩
      rw [rv]
      refine ⟨_, rfl, kv', .inr (tx qw.reverse), rfl, hD6, ?_, _, upd_same, ?_, fun b2 o2 e2 => ?_⟩
      · have z := hL6.len
        have z2 : (turn f).length = f.length := List.length_map _
        rw [List.length_take, z2] at z
        rw [sizeLine_eq]
        omega
      · rw [putK_new _ nk, List.take_add_one, eqs]
        exact DL.snoc (hL6.nld rr_solidD (nld_upd hD6 id)) ⟨b0, rfl, rtAt_nld hv6 (nld_upd hD6 id)⟩
      · rw [upd_ne (ne_of_none e2 nD)]
        exact s56 _ _ e2
    · obtain ⟨kv', hD5, hL5, s5⟩ := h
      have z2 : (turn f).length = f.length := List.length_map _
      rw [lk, ← z2, List.take_length] at hL5
      refine ⟨s5 _ _ f4, ?_⟩
      have Da : D ≠ d := fun z => by rw [z, f4] at nD; cases nD
      have s8 := back H5 s5
      have hD8 : upd H5 d (.dK kvs) D = some (.dK kv') := by rw [upd_ne Da]; exact hD5
      have hL8 : DL (Rr K) (upd H5 d (.dK kvs)) kv' (turn f) := hL5.nld rr_solidD (nld_upd (s5 _ _ f4) id)
      generalize upd H5 d (.dK kvs) = H8 at *
      refine fm_make hD8 (Paired.mapP hL8 fun kv q ⟨e1, b, e2, e3⟩ => ⟨e1, .inl ⟨b, e2, e3⟩⟩) (keys_turn hnd) (le_turn hN) n60 (by rw [z2]; exact l200) hG fun p H9 np s9 hF => ⟨rfl, ?_⟩
      exact Qr p H9 (s8.free np) (s8.trans s9) (hF.back s8)
end

end Fo

set_option maxHeartbeats 4100000
/-! max(xs, default=d) of a list of whole numbers. -/
namespace FoMx
open PySem PyProof.Rows
theorem max_args (a v : Value) : argsOk "max" ⟨[a], [(Str.ofString "default", v)]⟩ := by unfold argsOk; kernel_rfl
section
variable {prog : Program} {w : World} {A : Around} {E : Value → Shared → Prop} {s : Shared} {l I S : Addr} {vs : List Value} {ns : List Int} {d : Value} {R : Result → Shared → Prop} {Q : Value → Shared → Prop}
def Kept (s : Shared) (h : Heap) : Prop := ∀ b o, s.heap.get? b = some o → h.get? b = some o
theorem mx_loop (hh : A.handled = none) (hi : IntsAre vs ns) (hlI : l ≠ I) (hSI : S ≠ I) (hlS : l ≠ S) (nI : s.heap.get? I = none) (nS : s.heap.get? S = none)
    (hR : ∀ h' tk' m t, Kept s h' → m ∈ ns → (∀ a ∈ ns, a ≤ m) → R (.ok (.ret (.int m t))) { s with heap := h', toks := tk' }) :
    ∀ (r j : Nat) (h : Heap) (tk : Nat) (m : Int) (tb : Tok) (c : Nat), vs.length - j = r → j ≤ vs.length → Kept s h → h.get? S = some (seqObj "list" #[.int m tb, .int m tb] c) → h.IsListIter I l j → h.IsList l vs.toArray → m ∈ ns.take j → (∀ a ∈ ns.take j, a ≤ m) →
      codeAny (model prog w) A (.builtin "max.loop" ⟨[.ref I, .none, .ref S], [(Str.ofString "default", d)]⟩) R { s with heap := h, toks := tk } := by
  have hname : (toString "max" ++ toString ".loop" : String) = "max.loop" := by decide
  have W := Walks.list (prog := prog) (w := w) (A := A.in1) hh I l hlI vs.toArray
  have hsz : vs.toArray.size = vs.length := List.size_toArray ..
  have hln := hi.length
  intro r
  induction r with
  | zero =>
    intro j h tk m tb c hr hj K gS hit hl hm hx
    have hin : j = vs.length := by omega
    refine codeAny_builtin PySem.F.entry_max_loop ?_
    rw [Around.under_plainId PySem.F.plain_max_loop _]
    show wpAny _ A.in1 (seqItems? (.ref S) >>= _) _ _ _
    refine wpAny_bind (wpAny_seqItems gS rfl ?_)
    show wpAny _ A.in1 (tryCatch (pyNext (.ref I)) _ >>= _) _ _ _
    refine wpAny_bind (wpAny_tryCatch (W.done _ _ _ ⟨by rw [hsz, ← hin]; exact hit, hl⟩ fun h' tk' hk' => ?_))
    have hS' := hk' S _ (by simpa using hSI) gS
    show wpAny _ A.in1 (updateSeq S (fun _ => #[]) >>= _) _ _ _
    refine wpAny_bind ?_
    refine wpAny_updateSeq hS' rfl (wpAny_bind (wpAny_letGo (wpAny_pure ?_)))
    rw [List.take_of_length_le (by omega)] at hm hx
    refine hR _ _ m tb (fun b o e => ?_) hm hx
    have bS : b ≠ S := fun z => by rw [z, nS] at e; cases e
    have bI : b ≠ I := fun z => by rw [z, nI] at e; cases e
    rw [Heap.get?_update_ne _ _ _ _ bS]
    exact hk' b o (by simpa using bI) (K b o e)
  | succ r ih =>
    intro j h tk m tb c hr hj K gS hit hl hm hx
    have hlt : j < vs.length := by omega
    refine codeAny_builtin PySem.F.entry_max_loop ?_
    rw [Around.under_plainId PySem.F.plain_max_loop _]
    show wpAny _ A.in1 (seqItems? (.ref S) >>= _) _ _ _
    refine wpAny_bind (wpAny_seqItems gS rfl ?_)
    show wpAny _ A.in1 (tryCatch (pyNext (.ref I)) _ >>= _) _ _ _
    refine wpAny_bind (wpAny_tryCatch (W.item j _ _ _ (by rw [hsz]; exact hlt) ⟨hit, hl⟩ fun v h' tk' hP hst' hk' => ?_))
    have hv : vs[j]? = some v := by simpa using hP
    obtain ⟨k, hk⟩ : ∃ k, ns[j]? = some k := ⟨ns[j]'(by omega), List.getElem?_eq_getElem (by omega)⟩
    obtain ⟨t2, ht⟩ := hi.get j k hk
    rw [hv] at ht
    cases ht
    have hS' := hk' S _ (by simpa using hSI) gS
    have K' : Kept s h' := fun b o e => hk' b o (by simpa using fun z : b = I => by rw [z, nI] at e; cases e) (K b o e)
    have etk : ns.take (j + 1) = ns.take j ++ [k] := by rw [List.take_add_one, hk]; rfl
    show wpAny _ A.in1 (pure (Value.int k t2) >>= _) _ _ _
    refine wpAny_bind (wpAny_pure ?_)
    show wpAny _ A.in1 (tryCatch (holding [Value.int k t2, .int k t2] (richCompare .Gt (.int k t2) (.int m tb) >>= _)) _ >>= _) _ _ _
    refine wpAny_bind (wpAny_tryCatch (wpAny_holding (wpAny_bind (CmpOf.ints_gt (prog := prog) (w := w) (A := A.in1) (P := fun i v => ∃ t, v = .int (if i = 0 then k else m) t) (fun i => if i = 0 then k else m) (fun i v h => h) 0 1 _ _ _ _ _ ⟨t2, rfl⟩ ⟨tb, rfl⟩ ?_))))
    refine wpAny_bind (wpAny_holding (wpAny_truthy_bool ?_))
    refine wpAny_bind (wpAny_letGo (wpAny_pure ?_))
    by_cases hb' : k > m
    · have s1 := Heap.SameBut.update h' S (Obj.mapSeq fun _ => #[Value.int k t2, .int k t2])
      obtain ⟨c2, hc2⟩ : ∃ c2, (h'.update S (Obj.mapSeq fun _ => #[Value.int k t2, .int k t2])).get? S = some (seqObj "list" #[Value.int k t2, .int k t2] c2) := ⟨_, get?_update_seq hS' fun _ => #[Value.int k t2, .int k t2]⟩
      have z1 : (1 : Nat) ≠ 0 := by decide
      simp only [if_true, if_neg z1, hb', decide_true]
      refine wpAny_bind ?_
      refine wpAny_updateSeq hS' rfl (wpAny_bind (wpAny_letGo ?_))
      rw [hname]
      obtain ⟨oI', hoI', hoc, hod⟩ := id hst'.1
      refine wpAny_pure ⟨plainId_quiet PySem.F.plain_max_loop _, ih (j + 1) _ _ k t2 c2 (by omega) hlt (fun b o e => ?_) hc2 ⟨oI', (s1.2 I hSI.symm).trans hoI', hoc, hod⟩ (hst'.2.at fun o e => (s1.2 l hlS).trans e) (by rw [etk]; simp) fun a ha => ?_⟩
      · exact (s1.2 b (fun z => by rw [z, nS] at e; cases e)).trans (K' b o e)
      · rw [etk] at ha
        rcases List.mem_append.mp ha with ha | ha
        · have := hx a ha
          omega
        · rw [List.mem_singleton.mp ha]
          exact Int.le_refl _
    · have z1 : (1 : Nat) ≠ 0 := by decide
      simp only [if_true, if_neg z1, hb', decide_false, Bool.false_eq_true, if_false]
      refine wpAny_bind (wpAny_letGo ?_)
      rw [hname]
      refine wpAny_pure ⟨plainId_quiet PySem.F.plain_max_loop _, ih (j + 1) _ _ m tb c (by omega) hlt K' hS' hst'.1 hst'.2 (by rw [etk]; exact List.mem_append_left _ hm) fun a ha => ?_⟩
      rw [etk] at ha
      rcases List.mem_append.mp ha with ha | ha
      · exact hx a ha
      · rw [List.mem_singleton.mp ha]
        omega
/-- the greatest one, or the default -/
theorem mx_call (hh : A.handled = none) (hl : s.heap.IsList l vs.toArray) (hi : IntsAre vs ns)
    (h0 : ns = [] → ∀ h' tk', Kept s h' → Q d { s with heap := h', toks := tk' })
    (h1 : ∀ h' tk' m t, Kept s h' → m ∈ ns → (∀ a ∈ ns, a ≤ m) → Q (.int m t) { s with heap := h', toks := tk' }) :
    wpAny (model prog w) A (call (.builtin "max") [.ref l] [(Str.ofString "default", d)]) Q E s := by
  have hname : (toString "max" ++ toString ".loop" : String) = "max.loop" := by decide
  obtain ⟨ol, hol, _⟩ := id hl
  have hll : l < s.heap.objs.size := Heap.lt_size hol
  have hln := hi.length
  refine kmk_tree PySem.F.kind_max PySem.F.plain_max PySem.F.entry_max (max_args _ _) ?_
  show wpAny _ A.in1 (Builtin.Builtins.bindParams "max" ["key", "default"] 0 ⟨[], [(Str.ofString "default", d)]⟩ >>= _) _ _ s
  refine wpAny_bind (wpAny_of_eq (show Builtin.Builtins.bindParams "max" ["key", "default"] 0 ⟨[], [(Str.ofString "default", d)]⟩ = pure [none, some d] from rfl) ?_)
  refine wpAny_bind (wpAny_pure ?_)
  refine wpAny_bind (wpAny_pyIter_list hl ?_)
  refine wpAny_bind (wpAny_newList ?_ (Nat.zero_le _))
  rw [hname]
  have hS : (s.heap.push { cls := .type "list_iterator", data := .fields #[.ref l, .int 0 0] }).objs.size = s.heap.objs.size + 1 := size_push' ..
  have hlI : l ≠ s.heap.objs.size := Nat.ne_of_lt hll
  have hlS : l ≠ (s.heap.push { cls := .type "list_iterator", data := .fields #[.ref l, .int 0 0] }).objs.size := by rw [hS]; exact Nat.ne_of_lt (Nat.lt_succ_of_lt hll)
  have hSI : (s.heap.push { cls := .type "list_iterator", data := .fields #[.ref l, .int 0 0] }).objs.size ≠ s.heap.objs.size := by rw [hS]; exact Nat.ne_of_gt (Nat.lt_succ_self _)
  have nI : s.heap.get? s.heap.objs.size = none := Heap.get?_none_of_le (Nat.le_refl _)
  have nS : s.heap.get? (s.heap.push { cls := .type "list_iterator", data := .fields #[.ref l, .int 0 0] }).objs.size = none := Heap.get?_none_of_le (by rw [hS]; exact Nat.le_succ _)
  refine wpAny_pure ⟨plainId_quiet PySem.F.plain_max_loop _, ?_⟩
  have KH : Kept s ((s.heap.push { cls := .type "list_iterator", data := .fields #[.ref l, .int 0 0] }).push (seqObj "list" #[] 0)) := fun b x e => Heap.get?_push_of_some _ (Heap.get?_push_of_some _ e)
  have gI : ((s.heap.push { cls := .type "list_iterator", data := .fields #[.ref l, .int 0 0] }).push (seqObj "list" #[] 0)).get? s.heap.objs.size = some { cls := .type "list_iterator", data := .fields #[.ref l, .int 0 0] } :=
    Heap.get?_push_of_some _ (Heap.get?_push_size _ rfl)
  have gS : ((s.heap.push { cls := .type "list_iterator", data := .fields #[.ref l, .int 0 0] }).push (seqObj "list" #[] 0)).get? (s.heap.push { cls := .type "list_iterator", data := .fields #[.ref l, .int 0 0] }).objs.size = some (seqObj "list" #[] 0) := Heap.get?_push_size _ rfl
  have gL : ((s.heap.push { cls := .type "list_iterator", data := .fields #[.ref l, .int 0 0] }).push (seqObj "list" #[] 0)).IsList l vs.toArray := hl.at fun o e => KH l o e
  have W := Walks.list (prog := prog) (w := w) (A := A.in1) hh s.heap.objs.size l hlI vs.toArray
  have hsz : vs.toArray.size = vs.length := List.size_toArray ..
  refine codeAny_builtin PySem.F.entry_max_loop ?_
  rw [Around.under_plainId PySem.F.plain_max_loop _]
  show wpAny _ A.in1 (seqItems? (.ref _) >>= _) _ _ _
  refine wpAny_bind (wpAny_seqItems gS rfl ?_)
  show wpAny _ A.in1 (tryCatch (pyNext (.ref s.heap.objs.size)) _ >>= _) _ _ _
  by_cases hne : 0 < vs.length
  · refine wpAny_bind (wpAny_tryCatch (W.item 0 _ _ _ (by rw [hsz]; exact hne) ⟨⟨_, gI, rfl, rfl⟩, gL⟩ fun v h' tk' hP hst' hk' => ?_))
    have hv : vs[0]? = some v := by simpa using hP
    obtain ⟨k, hk⟩ : ∃ k, ns[0]? = some k := ⟨ns[0]'(by omega), List.getElem?_eq_getElem (by omega)⟩
    obtain ⟨t2, ht⟩ := hi.get 0 k hk
    rw [hv] at ht
    cases ht
    obtain ⟨oI', hoI', hoc, hod⟩ := id hst'.1
    have hS' := hk' _ _ (by simpa using hSI) gS
    show wpAny _ A.in1 (pure (Value.int k t2) >>= _) _ _ _
    refine wpAny_bind (wpAny_pure ?_)
    have s1 := Heap.SameBut.update h' (s.heap.push { cls := .type "list_iterator", data := .fields #[.ref l, .int 0 0] }).objs.size (Obj.mapSeq fun _ => #[Value.int k t2, .int k t2])
    obtain ⟨c2, hc2⟩ : ∃ c2, (h'.update (s.heap.push { cls := .type "list_iterator", data := .fields #[.ref l, .int 0 0] }).objs.size (Obj.mapSeq fun _ => #[Value.int k t2, .int k t2])).get? (s.heap.push { cls := .type "list_iterator", data := .fields #[.ref l, .int 0 0] }).objs.size = some (seqObj "list" #[Value.int k t2, .int k t2] c2) := ⟨_, get?_update_seq hS' fun _ => #[Value.int k t2, .int k t2]⟩
    show wpAny _ A.in1 (updateSeq (s.heap.push { cls := .type "list_iterator", data := .fields #[.ref l, .int 0 0] }).objs.size (fun _ => #[Value.int k t2, .int k t2]) >>= _) _ _ _
    refine wpAny_bind ?_
    refine wpAny_updateSeq hS' rfl ?_
    rw [hname]
    have e1 : ns.take 1 = [k] := by
      rw [List.take_add_one, hk]
      rfl
    refine wpAny_pure ⟨plainId_quiet PySem.F.plain_max_loop _, mx_loop hh hi hlI hSI hlS nI nS h1 _ 1 _ _ k t2 c2 rfl hne (fun b o e => ?_) hc2 ⟨oI', (s1.2 _ hSI.symm).trans hoI', hoc, hod⟩ (hst'.2.at fun o e => (s1.2 l hlS).trans e) (by rw [e1]; simp) (by rw [e1]; intro a ha; rw [List.mem_singleton.mp ha]; exact Int.le_refl _)⟩
    exact (s1.2 b (fun z => by rw [z, nS] at e; cases e)).trans (hk' b o (by simpa using fun z : b = s.heap.objs.size => by rw [z, nI] at e; cases e) (KH b o e))
  · have e0 : vs.length = 0 := by omega
    refine wpAny_bind (wpAny_tryCatch (W.done _ _ _ ⟨by rw [hsz, e0]; exact ⟨_, gI, rfl, rfl⟩, gL⟩ fun h' tk' hk' => ?_))
    refine wpAny_bind (wpAny_rule (wpAny_pure ?_))
    exact h0 (List.eq_nil_of_length_eq_zero (by omega)) _ _ fun b o e => hk' b o (by simpa using fun z : b = s.heap.objs.size => by rw [z, nI] at e; cases e) (KH b o e)
end
end FoMx
namespace FoMx
open PySem PySem.Spec PyProof.Rows L2
variable {X : Cx}
/-- max(xs, default=d) -/
def rMaxDf (K : PySem.W.Frag) : List V → List V → Hp → VK → Prop := fun vs zs H Q => ∃ (a : Addr) (ns : List Int) (d : V), vs = [V.ref a] ∧ zs = [d] ∧ SqL K H a (ns.map V.int) ∧ (ns = [] → Q d H) ∧ ∀ m, m ∈ ns → (∀ y ∈ ns, y ≤ m) → Q (.int m) H
theorem cr_maxDf (hc : X.calm = true) : CallRK X (.builtin "max") [Str.ofString "default"] (rMaxDf X.K) := by
  intro pins s σ H vs zs us ws Q I r rz h
  obtain ⟨a, ns, d, rfl, rfl, hs, q0, q1⟩ := h
  obtain ⟨its, rv, hl, _⟩ := I.list hs
  obtain rfl := Vals.ref1 r
  obtain ⟨w1, rfl, e1⟩ := vals1 rz
  exact mx_call (I.ok.hd hc) hl.isList rv.ints (fun e h' tk k => ⟨d, H, I.kept k, e1, q0 e⟩) fun h' tk m t k m1 m2 => ⟨.int m, H, I.kept k, ⟨t, rfl⟩, q1 m m1 m2⟩
end FoMx

set_option maxHeartbeats 4100000
namespace Fo
open PySem PySem.Spec PyProof.Rows L2
/-! ### is_mirror, degree -/
open FoWd
def spFIsM (K : PySem.W.Frag) : Sp := fun vs H Q _ => ∃ (a : Addr) (ps : Ps) (N : Nat), vs = [.ref a] ∧ FmAt K H a (form N ps) ∧ N ≤ 60 ∧ (form N ps).length ≤ 200 ∧ (∀ p ∈ form N ps, FoQ.SzR 1900 p.2) ∧ Grow 1900 (turn (form N ps)) ∧
  ∀ H', Same H H' → Q (.bl (decide (form N ps = form N (turn (form N ps))))) H'
def spFDeg (K : PySem.W.Frag) : Sp := fun vs H Q _ => ∃ (a : Addr) (f : Ps) (m : Nat), vs = [.ref a] ∧ FmAt K H a f ∧ f.length ≤ 200 ∧ (∀ p ∈ f, p.1.length ≤ 1000) ∧ (∀ p ∈ f, p.1.length ≤ m) ∧ (f = [] → m = 0) ∧ (f ≠ [] → ∃ p ∈ f, p.1.length = m) ∧ ∀ H', Same H H' → Q (.int m) H'
section
variable {P : Program} {w : World} {K : PySem.W.Frag} {mg : Str → Option Value} {base : Heap}
theorem ok_Fismir (T : Tx K mg) : FnOk P w K mg base CX0 10 (He.ma K (He.ga K "Formula") "is_mirror") T.fd_Formula_is_mirror ["self"] (spFIsM K) := by
  refine T.F_Formula_is_mirror.ok sc_Formula_is_mirror (fun vs H Q E h => ?_) (fun cdv A outer s H vs Q E hr h => ?_)
  · obtain ⟨a, ps, N, rfl, _⟩ := h
    rfl
  · obtain ⟨a, ps, N, rfl, hF, n60, l200, hz, hG, q⟩ := h
    refine ⟨_, (pss_one (ps_ret (pe_cmpR (FoA.op_ownC (ok_Feq T) (hr.mono (by decide)) T.b_Formula_eq pass0 T.cmF_eq (fun _ _ => rfl)) (pv 0) (pe_meth0 (pv 0) T.cl_F T.mF_mirror (ok_Fmirror T) (hr.mono (by decide)) T.b_Formula_mirror .nil pass0) (nomark _)))), ?_⟩
    obtain ⟨dx, d, kvs, e1, e2, e3⟩ := id hF
    refine ⟨_, rfl, _, rfl, a, dx, _, rfl, e1, rfl, a, form N ps, N, rfl, hF, form_nodup N ps, form_le N ps, n60, l200, hz, hG, fun p H1 np s1 hp => ?_⟩
    have hp := hp.at
    obtain ⟨dy, d2, kv2, f1, f2, f3⟩ := id hp
    refine ⟨a, dx, _, rfl, s1 _ _ e1, FoA.OthV.ins f1, a, p, ps, turn (form N ps), N, rfl, hF.same s1, hp, q H1 s1⟩
end

end Fo

set_option maxHeartbeats 4100000
namespace Fo
open PySem PySem.Spec PyProof.Rows L2
/-! ### the sum -/
open FoWd
/-- numbers that stay small while pairs are added to a table -/
def GrowT (t ps : Ps) : Prop := (∀ p ∈ ps, FoQ.SzR 1900 p.2) ∧ ∀ i w, FoQ.SzR 1900 ((look (accum t (ps.take i)) w).getD 0)
def spFAdd (K : PySem.W.Frag) : Sp := fun vs H Q _ => ∃ (a b : Addr) (f g : Ps) (N : Nat), vs = [.ref a, .ref b] ∧ FmAt K H a f ∧ FmAt K H b g ∧ (FoWd.keys f).Nodup ∧ Le N f ∧ Le N g ∧ N ≤ 60 ∧ f.length + g.length ≤ 200 ∧ GrowT f g ∧ Grow 1900 (accum f g) ∧
  ∀ p H', H p = none → Same H H' → FmN K H H' p (form N (f ++ g)) → Q (.ref p) H'
section
variable {P : Program} {w : World} {K : PySem.W.Frag} {mg : Str → Option Value} {base : Heap}
theorem ok_Fadd (T : Tx K mg) : FnOk P w K mg base CX0 8 (He.ma K (He.ga K "Formula") "__add__") T.fd_Formula_add ["self", "other"] (spFAdd K) := by
  refine T.F_Formula_add.ok sc_Formula_add (fun vs H Q E h => ?_) (fun cdv A outer s H vs Q E hr h => ?_)
  · obtain ⟨a, b, f, g, N, rfl, _⟩ := h
    rfl
  · obtain ⟨a, b, f, g, N, rfl, ⟨dx, d, kf, e1, e2, e3⟩, ⟨dy, u, kvs, f1, ha, hL⟩, hnf, hNf, hNg, n60, l200, hT, hG, Qr⟩ := h
    obtain ⟨ds, vd, bd⟩ := bind_init1 T
    refine ⟨_, (pss_cons (ps_set (i := 2) sc_Formula_add.nd rfl (.inl rfl) (pe_callTy call_dictD (by rfl) T.z_dict (by decide +kernel) (pa_cons (pe_fld (pv 0) rfl) pa_nil)))
      (pss_cons (ps_lock (ps_for PassesOwn.never rfl (pi_items (pe_fld (pv 1) rfl)) (pg_tup (by rfl) (pgs_cons (pg_name (i := 3) sc_Formula_add.nd rfl (.inl rfl)) (pgs_cons (pg_name (i := 4) sc_Formula_add.nd rfl (.inl rfl)) pgs_nil))) (pss_one (ps_dput (Nat.lt_of_le_of_lt (Nat.add_le_add_left (by decide) _) hr.units) (pv 2) (pv 3) (pe_op (FoA.op_own (ok_addQ T) (hr.mono (by decide)) T.b_Ratio_add pass0 T.bi_add FoN.int_add FoN.int_addR) (pe_dget2 (Nat.lt_of_le_of_lt (Nat.add_le_add_left (by decide) _) hr.units) (pv 2) (pv 3) (pe_make T.mk_R (ok_initQ T) (hr.mono (by decide)) (by rfl) T.c_Ratio bd vd pass0 (pa_cons pe_int pa_nil)) ⟨by rfl, by rfl, by rfl, by rfl⟩) (pv 4)) rfl))))
      (pss_one (ps_ret (pe_make T.mk_F (ok_Finit T) (hr.mono (by decide)) (by rfl) T.c_Formula T.b_Formula_init .nil pass0 (pa_cons (pv 2) pa_nil)))))), ?_⟩
    have lk : kvs.length = g.length := hL.len
    refine ⟨_, rfl, a, _, dx, _, _, rfl, e1, T.cl_F, T.nT_F, rfl, d, kf, rfl, .inl e2, fun p np => ?_⟩
    have pu : p ≠ u := fun z => by rw [z, ha] at np; cases np
    have bu : b ≠ u := fun z => by rw [z, ha] at f1; cases f1
    refine ⟨u, .dK kvs, by rw [upd_ne (Ne.symm pu)]; exact ha, trivial, fun od => ?_⟩
    have f0 : upd (upd H p (.dK kf)) u (.frz od (.dK kvs)) u = some (.frz od (.dK kvs)) := upd_same
    have p0 : upd (upd H p (.dK kf)) u (.frz od (.dK kvs)) p = some (.dK kf) := by rw [upd_ne pu]; exact upd_same
    have s0 : ∀ b o, H b = some o → b ≠ u → upd (upd H p (.dK kf)) u (.frz od (.dK kvs)) b = some o := fun b o e n => by
      rw [upd_ne n, upd_ne (fun z => by rw [z, np] at e; cases e)]
      exact e
    have b0 := s0 _ _ f1 bu
    have l0 : DL (Rr K) (upd (upd H p (.dK kf)) u (.frz od (.dK kvs))) kf f := e3.nld rr_solidD (fun b o e n => s0 b o e (fun z => by rw [z, ha] at e; cases e; exact n))
    generalize upd (upd H p (.dK kf)) u (.frz od (.dK kvs)) = H1 at *
    refine ⟨_, rfl, b, _, dy, _, _, rfl, b0, T.cl_F, T.nT_F, rfl, u, od, kvs, rfl, f0, ?_⟩
    refine for_it walk_items (fun i σ H2 => ∃ kt o3 o4, σ = [some (.ref a), some (.ref b), some (.ref p), o3, o4] ∧ H2 u = some (.frz od (.dK kvs)) ∧ H2 p = some (.dK kt) ∧ DL (Rr K) H2 kt (accum f (g.take i)) ∧ ∀ b o, H b = some o → b ≠ u → H2 b = some o)
      ⟨kf, none, none, rfl, f0, p0, l0, s0⟩ (fun i σ H2 _ ⟨_, _, _, _, h, _⟩ => h) (fun i v σ H2 H3 hi h y => ?_) (fun σ H2 h => ?_)
    · obtain ⟨kt, o3, o4, rfl, fa, hp, hD, hs⟩ := h
      obtain ⟨tp, k1, v1, rfl, ntp, rfl, ek, ev⟩ := y
      obtain ⟨⟨k0, v0⟩, e0⟩ : ∃ q, kvs[i]? = some q := ⟨_, List.getElem?_eq_getElem hi⟩
      dsimp only at ek ev
      rw [e0] at ek ev
      obtain ⟨q, eq, hk, r, hv, hr⟩ := hL.at_ e0
      obtain ⟨qw, qx⟩ := q
      have ek2 : V.str (tx qw) = k1 := by
        have z := Option.some.inj ek
        rw [hk] at z
        exact z
      have ev2 : V.ref r = v1 := by
        have z := Option.some.inj ev
        rw [hv] at z
        exact z
      subst ek2 ev2
      dsimp only at hr
      have mq := List.mem_of_getElem? eq
      have z1 := hT.1 _ mq
      have z2 := hT.2 i qw
      have s3 := Same.upd ntp (o := .tup [V.str (tx qw), V.ref r])
      have t3 : upd H2 tp (.tup [V.str (tx qw), V.ref r]) tp = some (.tup [V.str (tx qw), V.ref r]) := upd_same
      have fa3 := s3 _ _ fa
      have hp3 := s3 _ _ hp
      have hD3 := hD.nld rr_solidD (same_nld s3)
      have ru : r ≠ u := fun z => by
        obtain ⟨dx, e⟩ := hr
        rw [z, ha] at e
        cases e
      have hr3 : RtAt K (upd H2 tp (.tup [V.str (tx qw), V.ref r])) r qx := by
        obtain ⟨dx, e⟩ := hr
        exact ⟨dx, s3 _ _ (hs _ _ e ru)⟩
      have hs3 : ∀ b o, H b = some o → b ≠ u → upd H2 tp (.tup [V.str (tx qw), V.ref r]) b = some o := fun b o e n => s3 _ _ (hs b o e n)
      generalize upd H2 tp (.tup [V.str (tx qw), V.ref r]) = H3 at *
      refine ⟨tp, _, rfl, SqT.of t3, rfl, _, _, rfl, _, _, rfl, rfl, ?_⟩
      refine ⟨_, rfl, p, rfl, .inl ⟨kt, .inl hp3⟩, _, rfl, ?_⟩
      refine rq_make (r := 0) (by decide) (sz_of 1000000 (by decide) (by decide) (by decide)) rfl fun p0 H4 np0 s4 h0 => ⟨rfl, ?_⟩
      have hp4 := s4 _ _ hp3
      have hr4 := hr3.same s4
      obtain ⟨dr, hr5⟩ := id hr4
      have got : ∃ o, DGet H4 p (.str (tx qw)) o ∧ ∃ b, o.getD (.ref p0) = .ref b ∧ RtAt K H4 b ((look (accum f (g.take i)) qw).getD 0) := by
        refine ⟨_, .inl ⟨kt, .inr (tx qw), .inl hp4, rfl, rfl⟩, ?_⟩
        rcases hD3.look (w := qw) with ⟨l1, l2⟩ | ⟨x, v, l1, l2, b, rfl, hb⟩
        · rw [l1, l2]
          exact ⟨p0, rfl, h0⟩
        · rw [l1, l2]
          exact ⟨b, rfl, hb.same s4⟩
      obtain ⟨o, g1, bb, g2, hb⟩ := got
      refine ⟨o, g1, ?_⟩
      rw [g2]
      obtain ⟨db, hb5⟩ := id hb
      refine ⟨_, rfl, bb, db, _, rfl, hb5, .inr ⟨r, dr, _, rfl, hr5⟩, bb, .ref r, _, _, rfl, hb, .inl ⟨r, rfl, hr4⟩, trivial, z2, z1, fun p5 H5 np5 s5 h5 => ?_⟩
      have hp5 := s5 _ _ hp4
      refine ⟨_, rfl, _, rfl, p, _, rfl, .inl ⟨kt, .inr (tx qw), hp5, rfl, ?_, rfl⟩, _, _, _, rfl, ?_, upd_same, ?_, fun b o e n => ?_⟩
      · have z := (accum_all hnf (g.take i)).2.2.1
        rw [← hD3.len, List.length_take] at z
        rw [sizeLine_eq]
        omega
      · rw [upd_ne (Ne.symm pu)]
        exact s5 _ _ (s4 _ _ fa3)
      · rw [accum_take eq]
        unfold addTo
        exact DL.put ((hD3.nld rr_solidD (same_nld (s4.trans s5))).nld rr_solidD (nld_upd hp5 id)) (accum_all hnf (g.take i)).1 ⟨p5, rfl, rtAt_nld h5 (nld_upd hp5 id)⟩
      · rw [upd_ne (fun z => by rw [z, np] at e; cases e)]
        exact s5 _ _ (s4 _ _ (hs3 b o e n))
    · obtain ⟨kt, o3, o4, rfl, fa, hp, hD, hs⟩ := h
      refine ⟨fa, ?_⟩
      rw [lk, List.take_length] at hD
      have hp6 : upd H2 u (.dK kvs) p = some (.dK kt) := by rw [upd_ne pu]; exact hp
      have s6 : Same H (upd H2 u (.dK kvs)) := fun b o e => by
        by_cases z : b = u
        · rw [z, ha] at e
          cases e
          rw [z]
          exact upd_same
        · rw [upd_ne z]
          exact hs b o e z
      have hD6 : DL (Rr K) (upd H2 u (.dK kvs)) kt (accum f g) := hD.nld rr_solidD (nld_upd fa id)
      generalize upd H2 u (.dK kvs) = H3 at *
      obtain ⟨an, _, al, _⟩ := accum_all hnf g
      refine ⟨_, rfl, fm_make hp6 (Paired.mapP hD6 fun kv q ⟨e1, b, e2, e3⟩ => ⟨e1, .inl ⟨b, e2, e3⟩⟩) an (le_accum hnf hNf hNg) n60 (by omega) hG fun p9 H9 np9 s9 hF => ⟨rfl, ?_⟩⟩
      rw [form_accum hnf] at hF
      exact Qr p9 H9 (s6.free np9) (s6.trans s9) (hF.back s6)
end

end Fo

set_option maxHeartbeats 4100000
namespace Fo
open PySem PySem.Spec PyProof.Rows L2
/-! ### the difference -/
open FoWd
def spFSub (K : PySem.W.Frag) : Sp := fun vs H Q _ => ∃ (a b : Addr) (f g : Ps) (N : Nat), vs = [.ref a, .ref b] ∧ FmAt K H a f ∧ FmAt K H b g ∧ (FoWd.keys f).Nodup ∧ (FoWd.keys g).Nodup ∧ Le N f ∧ Le N g ∧ N ≤ 60 ∧ g.length ≤ 200 ∧ f.length + (form N (scl (-1) g)).length ≤ 200 ∧ (∀ p ∈ g, FoQ.SzR 1900 p.2) ∧ Grow 1900 (scl (-1) g) ∧
  GrowT f (form N (scl (-1) g)) ∧ Grow 1900 (accum f (form N (scl (-1) g))) ∧ ∀ p H', H p = none → Same H H' → FmN K H H' p (form N (f ++ scl (-1) g)) → Q (.ref p) H'
section
variable {P : Program} {w : World} {K : PySem.W.Frag} {mg : Str → Option Value} {base : Heap}
theorem ok_Fsub (T : Tx K mg) : FnOk P w K mg base CX0 10 (He.ma K (He.ga K "Formula") "__sub__") T.fd_Formula_sub ["self", "other"] (spFSub K) := by
  refine T.F_Formula_sub.ok sc_Formula_sub (fun vs H Q E h => ?_) (fun cdv A outer s H vs Q E hr h => ?_)
  · obtain ⟨a, b, f, g, N, rfl, _⟩ := h
    rfl
  · obtain ⟨a, b, f, g, N, rfl, hF, hG, nf, ng, lf, lg, n60, l1, l2, z1, z2, z3, z4, q⟩ := h
    refine ⟨_, (pss_one (ps_ret (pe_op (FoA.op_own (ok_Fadd T) (hr.mono (by decide)) T.b_Formula_add pass0 T.biF_add FoN.int_add FoN.int_addR) (pv 0) (pe_un (FoA.un_own (ok_Fneg T) (hr.mono (by decide)) T.b_Formula_neg pass0 T.mF_neg.at_ T.mF_neg.fn) (pv 1))))), ?_⟩
    obtain ⟨dx, d, kf, e1, e2, e3⟩ := id hF
    obtain ⟨dy, u, kg, f1, f2, f3⟩ := id hG
    refine ⟨_, rfl, _, rfl, b, dy, _, rfl, f1, b, g, N, rfl, hG, ng, lg, n60, l1, z1, z2, fun p H1 np s1 hp => ?_⟩
    have hp := hp.at
    obtain ⟨dz, u2, kz, g1, g2, g3⟩ := id hp
    refine ⟨a, dx, _, rfl, s1 _ _ e1, .inr ⟨p, dz, _, rfl, g1⟩, a, p, f, form N (scl (-1) g), N, rfl, hF.same s1, hp, nf, lf, form_le N _, n60, l2, z3, z4, fun p2 H2 np2 s2 h2 => ?_⟩
    refine q p2 H2 (s1.free np2) (s1.trans s2) ?_
    have e : form N (f ++ form N (scl (-1) g)) = form N (f ++ scl (-1) g) := form_ext fun a => by rw [coef_app, coef_app, coef_form (le_scl lg)]
    rw [← e]
    exact h2.back s1
end

end Fo

set_option maxHeartbeats 4100000
namespace Fo
open PySem PySem.Spec PyProof.Rows L2
/-! ### filters, the value of a formula -/
open FoWd
theorem TabAt.ins {K : PySem.W.Frag} {H : Hp} {p : Addr} {m : List (List Rat)} (h : TabAt K H p m) : ∃ dx t, H p = some (.ins (TC K) dx (putF "_rows" (.ref t) [])) := let ⟨dx, t, _, e, _⟩ := h; ⟨dx, t, e⟩
def spIsF (K : PySem.W.Frag) : Sp := fun vs H Q _ => ∃ (a : Addr) (m : List (List Rat)), vs = [.ref a] ∧ TabAt K H a m ∧ Sqr m ∧ RB m ∧ CB m ∧ ∀ H', Same H H' → Q (.bl (decide (isF m))) H'
def spChkF (K : PySem.W.Frag) : Sp := fun vs H Q _ => ∃ (a b : Addr) (m k : List (List Rat)), vs = [.ref a, .ref b] ∧ TabAt K H a m ∧ TabAt K H b k ∧ Sqr m ∧ Sqr k ∧ RB m ∧ CB m ∧ RB k ∧ CB k ∧ isF m ∧ isF k ∧ m.length = k.length ∧ ∀ H', Same H H' → Q .non H'
def spScaled (K : PySem.W.Frag) : Sp := fun vs H Q _ => ∃ (a : Addr) (y : V) (m : List (List Rat)) (c : Rat), vs = [.ref a, y] ∧ TabAt K H a m ∧ Sqr m ∧ AllE 1900 m ∧ NmV K H y c ∧ FoQ.SzR 1900 c ∧ ∀ p H', H p = none → Same H H' → TabAt K H' p (tab m.length fun i j => ent m i j * c) → Q (.ref p) H'
/-- what is asked of the sizes of a value -/
structure VOk (n : Nat) (P Q : List (List Rat)) (ps : Ps) (N : Nat) : Prop where
  sP : SqN n P
  sQ : SqN n Q
  n1 : 1 ≤ n
  n8 : n ≤ 8
  fP : isF P
  fQ : isF Q
  rP : RB P
  cP : CB P
  rQ : RB Q
  cQ : CB Q
  col : ∀ b k, k < N → CB (prodW n P Q (alt b k))
  en : ∀ b k, k ≤ N → AllE 1900 (prodW n P Q (alt b k))
  cf : ∀ a, FoQ.SzR 1900 (coef ps a)
  pr : ∀ b k, k ≤ N → ∀ i j, FoQ.SzR 1900 (ent (prodW n P Q (alt b k)) i j * coef ps (alt b k))
  s1 : ∀ k, k ≤ N → ∀ i j, FoQ.SzR 1900 (psum n P Q ps k i j)
  s2 : ∀ k, k + 1 ≤ N → ∀ i j, FoQ.SzR 1900 (psum n P Q ps k i j + ent (prodW n P Q (alt true (k + 1))) i j * coef ps (alt true (k + 1)))
theorem SqN.sqr {n : Nat} {m : List (List Rat)} (h : SqN n m) (n1 : 1 ≤ n) (n8 : n ≤ 8) : Sqr m := ⟨by rw [h.1]; exact n1, by rw [h.1]; exact n8, fun i hi => by rw [h.1] at hi ⊢; exact h.2 i hi⟩
def spValue (K : PySem.W.Frag) : Sp := fun vs H Q _ => ∃ (a p q : Addr) (ps : Ps) (N n : Nat) (P R : List (List Rat)), vs = [.ref a, .ref p, .ref q] ∧ FmAt K H a (form N ps) ∧ N ≤ 60 ∧ TabAt K H p P ∧ TabAt K H q R ∧ VOk n P R ps N ∧
  ∀ r H', H r = none → Same H H' → TabAt K H' r (tval n P R (form N ps)) → Q (.ref r) H'
theorem dec_isF (m : List (List Rat)) : decide (isF m) = (decide (m = flip m) && decide (m = tmul m m)) := by
  by_cases h1 : m = flip m
  · by_cases h2 : m = tmul m m
    · rw [decide_eq_true h1, decide_eq_true h2, decide_eq_true (show isF m from ⟨h1, h2⟩)]
      rfl
    · rw [decide_eq_false h2, decide_eq_false (fun z : isF m => h2 z.2), Bool.and_false]
  · rw [decide_eq_false h1, decide_eq_false (fun z : isF m => h1 z.1), Bool.false_and]
/-- the last word's length -/
def dg (k : List Wd) : Nat := ((([] : Wd) :: k).getLast (by simp)).length
theorem dg_all {k : List Wd} (h : k.Pairwise fun a b => a.length ≤ b.length) : ∀ w ∈ k, w.length ≤ dg k := by
  intro w hw
  have ne : k ≠ [] := fun z => by rw [z] at hw; exact absurd hw (by simp)
  have e : dg k = (k.getLast ne).length := by unfold dg; rw [List.getLast_cons ne]
  rw [e]
  have d := List.dropLast_concat_getLast ne
  rw [← d] at hw h
  rcases List.mem_append.mp hw with hw | hw
  · exact (List.pairwise_append.mp h).2.2 w hw _ List.mem_cons_self
  · rw [List.mem_singleton.mp hw]
    exact Nat.le_refl _
theorem dg_ex {k : List Wd} (ne : k ≠ []) : ∃ w ∈ k, w.length = dg k := ⟨k.getLast ne, List.getLast_mem ne, by unfold dg; rw [List.getLast_cons ne]⟩
theorem tab_ent {n : Nat} {m : List (List Rat)} (h : SqN n m) {f : Nat → Nat → Rat} (e : ∀ i j, i < n → j < n → ent m i j = f i j) : m = tab n f := by
  conv => lhs; rw [h.eta]
  exact tab_congr e
theorem allE_tab {n B : Nat} {f : Nat → Nat → Rat} (h : ∀ i j, i < n → j < n → FoQ.SzR B (f i j)) (b0 : 0 < B) : AllE B (tab n f) := fun i j => by
  show FoQ.SzR B (ent (tab n f) i j)
  by_cases c : i < n ∧ j < n
  · rw [ent_tab c.1 c.2]
    exact h i j c.1 c.2
  · rw [ent_out (SqN.tab n f) c]
    exact FoQ.SzR.zero b0
theorem form_look {N : Nat} {ps : Ps} {a : Wd} (h : a ∈ AW N) : (look (form N ps) a).getD 0 = coef ps a := by
  by_cases z : coef ps a = 0
  · have : a ∉ FoWd.keys (form N ps) := fun m => by
      rw [keys_form, List.mem_filter] at m
      exact (of_decide_eq_true m.2) z
    rw [look_none this, z]
    rfl
  · rw [(look_mem (form_nodup N ps)).mpr (mem_form (p := (a, coef ps a)).mpr ⟨h, z, rfl⟩)]
    rfl
section
variable {P : Program} {w : World} {K : PySem.W.Frag} {mg : Str → Option Value} {base : Heap}
end

end Fo

set_option maxHeartbeats 4100000
/-! {'p': .., 'q': .., k: ..} where k is None, True or a tuple of texts; walking its keys. -/
namespace FoOd
open PySem PyProof.Rows PySem.SeqAt
section
variable {prog : Program} {w : World} {A : Around} {E : Value → Shared → Prop} {s : Shared} {d a : Addr} {o : Obj} {es : Array DictEntry} {ep : Nat}
/-- keys that are texts -/
def StrKeys (es : Array DictEntry) : Prop := ∀ e ∈ es, ∃ x t, e.key = Value.str x t
theorem tell_strs {v : Value} {stored : List Value} {Q : Bool → Shared → Prop} (hq : QuietAt prog w 8 s v) (hst : ∀ u ∈ stored, ∃ x t, u = Value.str x t) (h : Q false s) : wpAny (model prog w) A (tableMayTell v stored) Q E s := by
  unfold tableMayTell
  split
  · exact wpAny_pure h
  · refine wpAny_bind (hq _ _ _ ?_)
    simp only [Bool.not_true, Bool.false_eq_true, if_false]
    refine wpAny_bind ?_
    refine wpAny_forIn_list _ (fun rest r s' => s' = s ∧ r = (none, ()) ∧ ∀ v ∈ rest, ∃ x t, v = Value.str x t) _ ?_ ?_ _ _ ⟨rfl, rfl, hst⟩
    · rintro x rest r s' ⟨rfl, rfl, hr⟩
      obtain ⟨y, t, rfl⟩ := hr x List.mem_cons_self
      refine wpAny_bind (QuietAt.byValue rfl _ _ _ ?_)
      simp only [Bool.not_true, Bool.false_eq_true, if_false]
      exact wpAny_pure ⟨rfl, rfl, fun v hv => hr v (List.mem_cons_of_mem _ hv)⟩
    · rintro r s' ⟨rfl, rfl, _⟩
      exact wpAny_pure h
theorem stored_strs {g : Int} (hs : StrKeys es) : ∀ v ∈ (placesWithHash es.size (fun i => es[i]?.map (·.hash)) g).filterMap (fun i => es[i]?.map (·.key)), ∃ x t, v = Value.str x t := by
  intro v hv
  obtain ⟨i, _, hi⟩ := List.mem_filterMap.mp hv
  cases hei : es[i]? with
  | none => rw [hei] at hi; cases hi
  | some e =>
    rw [hei] at hi
    obtain rfl : e.key = v := by simpa using hi
    exact hs e (Array.mem_of_getElem? hei)
/-- a tuple isn't among the texts -/
theorem find_tuple {ks : List NestedKey} {g : Int} {Q : Option Nat → Shared → Prop} (hu : A.units + 20 < cLine) (hk : NestedIs s.heap (.tup ks) (.ref a)) (h8 : (NestedKey.tup ks).depth ≤ 8) (ho : s.heap.get? d = some o) (hd : o.data = .dict es ep) (hs : StrKeys es)
    (h : Q none s) : wpAny (model prog w) A (dictFind d (.ref a) g) Q E s := by
  have hany : ¬ (es.any fun e => e.key == Value.ref a && e.hash != g) = true := by
    rw [← Array.any_toList, List.any_eq_true]
    rintro ⟨e, hin, hc⟩
    obtain ⟨x, t, ek⟩ := hs e (Array.mem_toList_iff.mp hin)
    rw [ek] at hc
    simp at hc
  have hst := stored_strs (g := g) hs
  unfold dictFind
  try with_reducible refine wpAny_holding ?_
  refine wpAny_bind (wpAny_dictEntries ho hd ?_)
  dsimp only
  rw [if_neg (show ¬ ((Value.ref a :: (placesWithHash es.size (fun i => es[i]?.map (·.hash)) g).filterMap (fun i => es[i]?.map (·.key))).all carriedByValue) = true by simp [carriedByValue])]
  rw [if_neg hany]
  have hone : ¬ (((placesWithHash es.size (fun i => es[i]?.map (·.hash)) g).filterMap (fun i => es[i]?.map (·.key))) == [Value.ref a]) = true := by
    intro z
    obtain ⟨x, t, e⟩ := hst (Value.ref a) (by rw [eq_of_beq z]; simp)
    cases e
  rw [if_neg hone]
  refine wpAny_bind (tell_strs (quiet_key _ _ 8 s hk h8) hst ?_)
  rw [if_neg (by simp)]
  refine wpAny_bind ?_
  refine wpAny_forIn_list _ (fun rest b s' => s' = s ∧ b = (none, none)) _ ?_ ?_ _ _ ⟨rfl, rfl⟩
  · rintro x rest b s' ⟨rfl, rfl⟩
    cases hex : es[x]? with
    | none => exact wpAny_pure ⟨rfl, rfl⟩
    | some e =>
      dsimp only
      obtain ⟨y, t, ek⟩ := hs e (Array.mem_of_getElem? hex)
      by_cases hh : (e.hash == g) = true
      · rw [if_pos hh]
        have q : EqAt A s' e.key (.ref a) false := by
          rw [ek]
          exact eqAt_key (.text y) (.tup ks) A s' _ _ (.text y t) hk (by simp only [NestedKey.depth]; omega)
        refine wpAny_bind (wpAny_dictEpoch ho hd (wpAny_bind (q _ _ _ _ (wpAny_bind (wpAny_dictEpoch ho hd ?_)))))
        show wpAny _ _ (if (ep != ep) = true then _ else _) _ E _
        rw [if_neg (by simp)]
        simp only [Bool.false_eq_true, if_false]
        refine wpAny_bind (wpAny_rule ?_)
        first | rw [if_neg (by simp)] | skip
        first
          | exact wpAny_pure ⟨rfl, rfl⟩
          | exact wpAny_bind (wpAny_pure (wpAny_pure ⟨rfl, rfl⟩))
      · rw [if_neg hh]
        exact wpAny_pure ⟨rfl, rfl⟩
  · rintro b s' ⟨rfl, rfl⟩
    exact wpAny_pure h
/-- a key that is carried by value, and no text, isn't among the texts -/
theorem find_plain {k : NestedKey} {v : Value} {g : Int} {Q : Option Nat → Shared → Prop} (hu : A.units + 20 < cLine) (hk : NestedIs s.heap k v) (hv : carriedByValue v = true) (ht : ∀ x, k ≠ .text x) (ho : s.heap.get? d = some o) (hd : o.data = .dict es ep) (hs : StrKeys es)
    (h : Q none s) : wpAny (model prog w) A (dictFind d v g) Q E s := by
  have hst := stored_strs (g := g) hs
  have hns : ∀ x t, v ≠ Value.str x t := by
    rintro x t rfl
    cases hk
    exact ht _ rfl
  have hd0 : k.depth = 0 := by
    cases k with
    | tup ks => cases hk; exact absurd hv (by simp [carriedByValue])
    | _ => rfl
  have hall : ((v :: (placesWithHash es.size (fun i => es[i]?.map (·.hash)) g).filterMap (fun i => es[i]?.map (·.key))).all carriedByValue) = true := by
    rw [List.all_cons, hv, List.all_eq_true.mpr, Bool.and_true]
    intro u hu
    obtain ⟨x, t, rfl⟩ := hst u hu
    rfl
  have old : wpAny (model prog w) A (dictWalkPlain d v g es (placesWithHash es.size (fun i => es[i]?.map (·.hash)) g)) Q E s := by
    refine wpAny_bind ?_
    refine wpAny_forIn_list _ (fun rest b s' => s' = s ∧ b = (none, ())) _ ?_ ?_ _ _ ⟨rfl, rfl⟩
    · rintro x rest b s' ⟨rfl, rfl⟩
      cases hex : es[x]? with
      | none => exact wpAny_pure ⟨rfl, rfl⟩
      | some e =>
        dsimp only
        obtain ⟨y, t, ek⟩ := hs e (Array.mem_of_getElem? hex)
        by_cases hh : (e.hash == g) = true
        · rw [if_pos hh]
          have q : EqAt A s' e.key v false := by
            rw [ek]
            have z := eqAt_key (.text y) k A s' _ _ (.text y t) hk (by simp only [NestedKey.depth]; omega)
            have e1 : NestedKey.beq (.text y) k = false := by
              cases k with
              | text x => exact absurd rfl (ht x)
              | _ => rfl
            rw [e1] at z
            exact z
          refine wpAny_bind (wpAny_dictEpoch ho hd (wpAny_bind (q _ _ _ _ (wpAny_bind (wpAny_dictEpoch ho hd ?_)))))
          show wpAny _ _ (if (ep != ep) = true then _ else _) _ E _
          rw [if_neg (by simp)]
          simp only [Bool.false_eq_true, if_false]
          exact wpAny_bind (wpAny_rule (wpAny_pure ⟨rfl, rfl⟩))
        · rw [if_neg hh]
          exact wpAny_pure ⟨rfl, rfl⟩
    · rintro b s' ⟨rfl, rfl⟩
      exact wpAny_pure h
  unfold dictFind
  try with_reducible refine wpAny_holding ?_
  refine wpAny_bind (wpAny_dictEntries ho hd ?_)
  cases v with
  | str x t => exact absurd rfl (hns x t)
  | ref b => exact absurd hv (by simp [carriedByValue])
  | _ =>
    dsimp only
    rw [if_pos hall]
    exact old
theorem set_odd {k : NestedKey} {v u : Value} {Q : Unit → Shared → Prop} (hu : A.units + 20 < cLine) (hk : NestedIs s.heap k v) (h8 : k.depth ≤ 8) (ht : ∀ x, k ≠ .text x) (hm : s.heap.DictRaw d es ep) (hs : StrKeys es) (hz : es.size ≤ 100)
    (hQ : ∀ h' tk, h'.DictRaw d (es.push ⟨k.hash w, v, u⟩) (ep + 1) → Heap.SameBut d s.heap h' → Q () { s with heap := h', toks := tk }) : wpAny (model prog w) A (dictSet d v u) Q E s := by
  obtain ⟨o, ho, hc, hd⟩ := hm
  unfold dictSet
  try with_reducible refine wpAny_holding ?_
  refine wpAny_bind (pyHash_key k v A s _ hk (by omega) ?_)
  unfold dictSetHashed
  try with_reducible refine wpAny_holding ?_
  have fin : ∀ tk, wpAny (model prog w) A (do rule "dict.set.new-key-at-the-end"; updateDictKeys d (·.push ⟨k.hash w, v, u⟩) (keyPart v)) Q E { s with toks := tk } := fun tk =>
    wpAny_bind (wpAny_rule (wpAny_updateDictKeys (hz := by rw [sizeLine_eq]; omega) (s := { s with toks := tk }) ho hd (hQ _ _ ⟨_, Heap.get?_update_self _ ho (Obj.isFreed_of_dict (Obj.data_mapDictKeys hd _)), hc.mapDictKeys _, Obj.data_mapDictKeys hd _⟩ (Heap.SameBut.update ..))))
  cases hv : carriedByValue v with
  | true => exact wpAny_bind (find_plain (s := { s with toks := _ }) hu hk hv ht ho hd hs (fin _))
  | false =>
    cases hk with
    | tup h1 h2 h3 h4 => exact wpAny_bind (find_tuple (s := { s with toks := _ }) hu (.tup h1 h2 h3 h4) h8 ho hd hs (fin _))
    | _ => exact absurd hv (by simp [carriedByValue])
end
end FoOd

set_option maxHeartbeats 4100000
/-! A dict of the module with text keys: a hook that tells its keys, and a walk over them. -/
namespace FoKd
open PySem PySem.Spec PyProof.Rows L2 FoZ
/-- at d: a written dict with the keys ks -/
def KDk (K : PySem.W.Frag) (w : World) (d : Addr) (ks : List Str) : Prop := ∃ es n, KDict K w d es n ∧ es.size = ks.length ∧ ∀ (i : Nat) (k : Str), ks[i]? = some k → ∃ en t, es[i]? = some en ∧ en.key = .str k t
theorem kdk_of {K : PySem.W.Frag} {w : World} {a : Addr} {ks : List Str} (h : He.dicW K a = some (He.keysIn w.params ks)) : KDk K w a ks := by
  obtain ⟨es, n, D⟩ := He.dicW_ok h
  refine ⟨es, n, D, ?_, ?_⟩
  · unfold He.dicW at h
    rw [D.at_] at h
    try dsimp only at h
    split at h
    · have e := congrArg List.length (Option.some.inj h)
      unfold He.keysIn at e
      rw [List.length_map, List.length_map] at e
      exact e
    · cases h
  · intro i k hk
    unfold He.dicW at h
    rw [D.at_] at h
    try dsimp only at h
    split at h
    · have e := congrArg (fun l => l[i]?) (Option.some.inj h)
      try dsimp only at e
      unfold He.keysIn at e
      rw [List.getElem?_map, List.getElem?_map, hk] at e
      cases q : es.toList[i]? with
      | none => rw [q] at e; cases e
      | some en =>
        rw [q] at e
        have e2 : He.keyOf en = some (k, PyData.keyHash w.params k) := Option.some.inj e
        refine ⟨en, ?_⟩
        unfold He.keyOf at e2
        split at e2
        · rename_i x t y
          obtain ⟨h5, _⟩ := Prod.mk.inj (Option.some.inj e2)
          exact ⟨t, by rw [← Array.getElem?_toList]; exact q, by rw [y, h5]⟩
        · cases e2
    · cases h
/-- in the dict that x names, at z, a pair of ints -/
def tup2B (x z : Str) (i j : Int) (K : Fr1) : Bool := match PySem.W.nsIn K (He.ga K x) z with
  | some (some (.ref a)) => (match K.lookup a with
    | some ⟨.type c, _, .seq its _, _⟩ => decide (c = "tuple") && (match its.toList with
      | [.int u _, .int v _] => decide (u = i) && decide (v = j)
      | _ => false)
    | _ => false)
  | _ => false
theorem tup2_ok {x z : Str} {i j : Int} {K : Fr1} (h : tup2B x z i j K = true) : ∃ a, PySem.W.nsIn K (He.ga K x) z = some (some (.ref a)) ∧ ∀ H, SqT K H a [.int i, .int j] := by
  unfold tup2B at h
  split at h
  · rename_i a e
    split at h
    · rename_i c od its n sl lk
      obtain ⟨h1, h2⟩ := He.ba h
      split at h2
      · rename_i u t1 v t2 el
        obtain ⟨h3, h4⟩ := He.ba h2
        refine ⟨a, e, fun H => .inr ⟨_, its, n, lk, ?_, rfl, ?_, ?_⟩⟩
        · show Value.type c = _
          rw [of_decide_eq_true h1]
        · have : its.size = 2 := by rw [← Array.length_toList, el]; rfl
          rw [this, sizeLine_eq]
          decide
        · rw [el, of_decide_eq_true h3, of_decide_eq_true h4]
          exact .cons ⟨_, rfl⟩ (.cons ⟨_, rfl⟩ .nil)
      · cases h2
    · cases h
  · cases h
/-- in the dict that x names, nothing stands at z -/
def offB (x z : Str) (K : Fr1) : Bool := match PySem.W.nsIn K (He.ga K x) z with
  | some none => true
  | _ => false
theorem off_ok {x z : Str} {K : Fr1} (h : offB x z K = true) : PySem.W.nsIn K (He.ga K x) z = some none := by
  unfold offB at h
  split at h
  · assumption
  · cases h
/-! ### the hook -/
def tabs (ts : List He.Tab) (K : PySem.W.Frag) : List (Option (List (Option (Str × Int)))) := ts.map fun t => He.dicW K (t.1 K)
def wantT (ts : List He.Tab) (w : World) : List (Option (List (Option (Str × Int)))) := ts.map fun t => some (He.keysIn w.params t.2)
abbrev AlK : Type := (Bool × List He.FnW) × List (Option (List (Option (Str × Int))))
def lookT (as : List Addr) (ts : List He.Tab) (g : Addr → Option Obj) : List (Option (List (Option (Str × Int)))) := tabs ts (He.frG g as)
def hookT (as : List Addr) (bs : List (Fr1 → Bool)) (ds : List He5.DefA) (ts : List He.Tab) : PySem.W.Hook where
  α := AlK
  obs := fun s => (lookL as bs ds s.heap.get?, lookT as ts s.heap.get?)
  val := fun w => (want ds, wantT ts w)
  says := fun w h => ∃ K : Fr1, K.In h ∧ Told bs ds K ∧ tabs ts K = wantT ts w
  of := fun _ _ e => ⟨_, He.frG_in, congrArg Prod.fst e, congrArg Prod.snd e⟩
  keeps := fun _ _ _ ⟨K, hKK, c⟩ k => ⟨K, PySem.W.Frag.In.keeps hKK k, c⟩
theorem lookT_eq {as : List Addr} {bs : List (Fr1 → Bool)} {ds : List He5.DefA} {ts : List He.Tab} {g : Addr → Option Obj} {s : Shared}
    (h : ∀ a, g a = s.heap.get? a) : (lookL as bs ds g, lookT as ts g) = (hookT as bs ds ts).obs s := by
  have e : g = s.heap.get? := funext h
  rw [e]
  rfl
theorem tab_of {ts : List He.Tab} {K : PySem.W.Frag} {w : World} (c : tabs ts K = wantT ts w) (i : Nat) {t : He.Tab} (h : ts[i]? = some t := by rfl) : KDk K w (t.1 K) t.2 := by
  have e2 : (tabs ts K)[i]? = (wantT ts w)[i]? := by rw [c]
  unfold tabs wantT at e2
  rw [List.getElem?_map, List.getElem?_map, h] at e2
  exact kdk_of (Option.some.inj e2)
/-! ### the walk -/
def Itd (ks : List Str) : It := ⟨fun i _ => i < ks.length, fun i H x H' => H' = H ∧ ∃ k, ks[i]? = some k ∧ x = .str k, fun i _ => ks.length ≤ i⟩
section
variable {P : Program} {w : World} {K : PySem.W.Frag} {tg : Expr} {d : Addr} {ks : List Str} {es : Array DictEntry} {n : Nat}
theorem turn_kd (D : KDict K w d es n) (hz : es.size = ks.length) (he : ∀ (i : Nat) (k : Str), ks[i]? = some k → ∃ en t, es[i]? = some en ∧ en.key = .str k t) (it : Addr) : Turn P w K tg (Itd ks) [it] it (fun i h => h.IsKeyIter it d i ks.length n) where
  mem := by simp
  obj := fun i h st b hb => by
    have e : b = it := by simpa using hb
    subst e
    obtain ⟨oi, e, c, dd⟩ := st
    exact ⟨oi, e, fun v z => by rw [dd] at z; cases z⟩
  keep := fun i h h' st k => st.at fun oi e => k it (by simp) oi e
  item := by
    intro X hP hw hK hc i pins s σ H E I hf st hg
    subst hP hw hK
    obtain ⟨f0, f1, f2, f3, f4, f5⟩ := hf it (by simp)
    have hgd := I.kIn _ _ D.at_
    have hi : i < ks.length := hg
    obtain ⟨en, t, hen, hkey⟩ := he i ks[i] (List.getElem?_eq_getElem hi)
    refine next_key_item st hgd rfl hz hen fun h' st' sb => ?_
    have I1 : Inv X pins σ H { s with heap := h' } := I.turned (t' := s.toks) (fun b ob hb e => (sb.2 b hb).trans e) f0 f1 f3 f4 f5
    obtain ⟨oi, e, c, dd⟩ := id st'
    exact ⟨en.key, rfl, go_of (s := { s with heap := h' }) e c dd (by decide) ⟨.str ks[i], H, I1, ⟨t, hkey⟩, ⟨rfl, _, List.getElem?_eq_getElem hi, rfl⟩, st', fun b hb => (hf b hb).1⟩⟩
  done := by
    intro X hP hw hK hc i pins s σ H E I hf st hg
    subst hP hw hK
    obtain ⟨f0, f1, f2, f3, f4, f5⟩ := hf it (by simp)
    have hgd := I.kIn _ _ D.at_
    exact next_key_end (I.ok.hd hc) st hgd rfl hz hg fun h' eb => ⟨rfl, I.turned (t' := s.toks) (fun b ob hb e => eb b ob hb e) f0 f1 f3 f4 f5⟩
  self := fun A i s Q E st h => by
    refine wpAny_pyIter_slot st.typeIs F.slot_dict_keyiterator_iter (wpAny_call_entry F.slot_dict_keyiterator_iter st.typeIs F.entry_dict_keyiterator_iter ?_ (F.args_dict_keyiterator_iter_1 _))
    show wpAny _ _ (ret (.ref it)) _ _ s
    exact wpAny_pure ⟨_, rfl, "dict_keyiterator", _, st.typeIs, F.slot_dict_keyiterator_next.lookup, h⟩
end
/-- for k in e: the keys of a dict of the module -/
def iKd (K : PySem.W.Frag) (w : World) (td : TE) : TI := fun σ H R => td σ H fun x H1 => ∃ d ks, x = .ref d ∧ KDk K w d ks ∧ R (Itd ks) H1
section
variable {X : Cx} {tg e : Expr} {td : TE}
theorem pi_kd (he : PE X e td) : PI X tg e (iKd X.K X.w td) := by
  refine ⟨fun pins s σ H R I h => ?_⟩
  refine thn (he.run pins s σ H _ I h) fun u s1 ⟨x, H1, I1, rx, d, ks, ex, ⟨es, n, D, hz, hk⟩, q⟩ => ?_
  subst ex
  obtain rfl : u = Value.ref d := rx
  have hgd := I1.kIn _ _ D.at_
  refine iter_keys D.low hgd ⟨rfl, rfl, rfl⟩ rfl (pi_one (tk := s1.toks) I1 _ (turn_kd D hz hk _) ⟨_, Heap.get?_push_size _ rfl, rfl, ?_⟩ q)
  rw [hz] <;> rfl
end
theorem walk_kd {ks : List Str} : Walk (Itd ks) ks.length (fun _ => True) (fun i H v H' => H' = H ∧ ∃ k, ks[i]? = some k ∧ v = .str k) :=
  ⟨fun _ _ hi _ => hi, fun _ _ => Nat.le_refl _, fun _ _ _ _ _ _ y => y⟩
end FoKd

set_option maxHeartbeats 4100000
/-! x != y of two objects of one class with an own __eq__, by object.__ne__. -/
namespace FoN
open PySem PySem.Spec PyProof.Rows L2
section
variable {X : Cx} {CX : CXT} {k : Nat} {f C : Addr} {fd : FuncData} {ps : List Str} {sp : Sp} {E : XK}
def rNeO (C : Addr) (sp : Sp) (E : XK) : R2 := fun x y H Q => ∃ a dx fs b dy gs, x = .ref a ∧ y = .ref b ∧ H a = some (.ins C dx fs) ∧ H b = some (.ins C dy gs) ∧ sp [x, y] H (fun v H' => ∃ b, v = .bl b ∧ Q (.bl (!b)) H') E
theorem op_neO (F : FnOk X.prog X.w X.K X.mg X.base CX k f fd ps sp) (hr : Room (k + 1) X.A) (hb : Binds X.K fd ps []) (hx : Passes CX X E) (B : FoA.CmpC X.K C f .Eq) (N : NeC X.K C) : OpR X (compareOp .NotEq) (rNeO C sp E) := by
  intro pz s τ H x y v u Q I ra ry h
  obtain ⟨a, dx, fs, b, dy, gs, rfl, rfl, ea, eb, q⟩ := h
  cases ra
  cases ry
  obtain ⟨mA, Jx, _⟩ := ins_get I.hok ea
  obtain ⟨od, Jx, _⟩ := Jx.look
  obtain ⟨mB, Jy, _⟩ := ins_get I.hok eb
  obtain ⟨od', Jy, _⟩ := Jy.look
  have hcl : X.A.units + 1 < cLine := hu_of hr
  have kin := I.kIn
  have one : wpAny (model X.prog X.w) X.A (tryCompare (.ref a) "__ne__" (.ref b)) (fun r s' => ∃ z, r = some z ∧ EP X pz τ Q z s') X.xe s := by
    refine FoN.try_ne hcl kin Jx N.ob N.ne B.at_ B.fn ?_
    refine wpAny_mono (run_in1 (us := [.ref a, .ref b]) (vs := [.ref a, .ref b]) F hr hb hx I (.cons rfl (.cons rfl .nil)) q) (fun r s' z => ?_) fun _ _ z => z
    obtain ⟨v, H', I', rv, b, rfl, q'⟩ := z
    cases rv
    exact ⟨b, rfl, .bl (!b), H', I', rfl, q'⟩
  show wpAny _ _ (richCompare .NotEq (.ref a) (.ref b)) _ _ _
  unfold richCompare
  simp only [oneThing_ref]
  refine wpAny_holding ?_
  refine wpAny_bind (wpAny_cRoomFor (Nat.lt_of_succ_lt hcl) ?_)
  refine wpAny_bind (Jx.type.here ?_)
  refine wpAny_bind (Jy.type.here ?_)
  rw [if_neg (by simp)]
  refine wpAny_bind (wpAny_pure ?_)
  rw [if_neg Bool.false_ne_true]; refine wpAny_bind (wpAny_mono one (fun r s' z => ?_) fun _ _ z => z)
  obtain ⟨v, rfl, q'⟩ := z
  exact wpAny_pure q'
end
end FoN

set_option maxHeartbeats 4100000
namespace Fo
open PySem PySem.Spec PyProof.Rows L2
/-! ### lines and planes -/
open FoWd
/-- what stands in LINES at z -/
def LinF (K : PySem.W.Frag) (z : Str) (i j : Int) : Prop := ∃ a, PySem.W.nsIn K (He.ga K "LINES") z = some (some (.ref a)) ∧ ∀ H, SqT K H a [.int i, .int j]
abbrev Lines (K : PySem.W.Frag) (w : World) : Prop := FoKd.KDk K w (He.ga K "LINES") ["both", "p", "q", "none"]
def lineT (i : Int) : List (List Rat) := [[(i : Rat)]]
def spLine (K : PySem.W.Frag) : Sp := fun vs H Q _ => ∃ (z : Str) (i j : Int), vs = [.str z] ∧ LinF K z i j ∧ ∀ t p q H', H t = none → Same H H' → H' t = some (.tup [.ref p, .ref q]) → TabAt K H' p (lineT i) → TabAt K H' q (lineT j) → Q (.ref t) H'
def spTurnOf (K : PySem.W.Frag) : Sp := fun vs H Q _ => ∃ (a : Addr) (x : Rat), vs = [.ref a] ∧ RtAt K H a x ∧ FoQ.SzR 100 x ∧ ∀ t c s H', H t = none → Same H H' → H' t = some (.tup [.ref c, .ref s]) → RtAt K H' c (pcos x) → RtAt K H' s (psin x) → Q (.ref t) H'
def spPlane (K : PySem.W.Frag) : Sp := fun vs H Q _ => ∃ (a : Addr) (x : Rat), vs = [.ref a] ∧ RtAt K H a x ∧ FoQ.SzR 100 x ∧ ∀ t p q H', H t = none → Same H H' → H' t = some (.tup [.ref p, .ref q]) → TabAt K H' p planeP → TabAt K H' q (planeQ x) → Q (.ref t) H'
theorem tt_make {K : PySem.W.Frag} {H : Hp} {a : Addr} {rs : List V} {m : List (List Rat)} {R : Addr → VK} {E : XK} (hS : SqHere H a rs) (hm : rs.length = m.length) (h1 : 1 ≤ rs.length) (h8 : rs.length ≤ 8)
    (hR : ∀ (i : Nat) (v : V), rs[i]? = some v → RowIn K H rs.length v (m.getD i [])) (q : ∀ p H', H p = none → Same H H' → TabAt K H' p m → R p .non H') :
    ∀ x dx, H x = none → H dx = none → dx ≠ x → spTIn K [.ref x, .ref a] (upd (upd H dx (.own x)) x (.ins (TC K) dx [])) (R x) E := fun x dx nx ndx ne => by
  have s3 : Same H (upd (upd H dx (.own x)) x (.ins (TC K) dx [])) := (Same.upd ndx).trans (Same.upd (by rw [upd_ne (Ne.symm ne)]; exact nx))
  exact ⟨x, dx, a, rs, m, rfl, upd_same, hS.same s3, hm, h1, h8, fun i v e => (hR i v e).same s3, fun H' hT hB => q x H' nx (Same.made nx ndx hB) hT⟩
theorem one_row {K : PySem.W.Frag} {H : Hp} {a r : Addr} {i : Int} (ha : H a = some (.lst [.int i])) (hr : H r = some (.lst [.ref a])) : SqHere H r [.ref a] ∧ ∀ (k : Nat) (v : V), [V.ref a][k]? = some v → RowIn K H 1 v ((lineT i).getD k []) := by
  refine ⟨.inl hr, fun k v e => ?_⟩
  have : k = 0 := by have := (List.getElem?_eq_some_iff.mp e).1; simpa using this
  subst this
  cases e
  refine ⟨a, _, rfl, .inl ha, ⟨rfl, fun j u eu => ?_⟩, rfl⟩
  have : j = 0 := by have := (List.getElem?_eq_some_iff.mp eu).1; simpa using this
  subst this
  cases eu
  exact .inr ⟨i, rfl, rfl⟩
theorem two_rows {K : PySem.W.Frag} {H : Hp} {a b r : Addr} {x y z w : V} {m : List (List Rat)} {e00 e01 e10 e11 : Rat} (hm : m = [[e00, e01], [e10, e11]]) (ha : H a = some (.lst [x, y])) (hb : H b = some (.lst [z, w])) (hr : H r = some (.lst [.ref a, .ref b]))
    (hx : NmV K H x e00) (hy : NmV K H y e01) (hz : NmV K H z e10) (hw : NmV K H w e11) : SqHere H r [.ref a, .ref b] ∧ ∀ (k : Nat) (v : V), [V.ref a, .ref b][k]? = some v → RowIn K H 2 v (m.getD k []) := by
  subst hm
  have two : ∀ {u v : V} {p q : Rat}, NmV K H u p → NmV K H v q → Ls (Rn K) H [u, v] [p, q] := fun {u v p q} h1 h2 => ⟨rfl, fun j t e => by
    have : j = 0 ∨ j = 1 := by have := (List.getElem?_eq_some_iff.mp e).1; simp at this; omega
    rcases this with rfl | rfl
    · cases e; exact h1
    · cases e; exact h2⟩
  refine ⟨.inl hr, fun k v e => ?_⟩
  have : k = 0 ∨ k = 1 := by have := (List.getElem?_eq_some_iff.mp e).1; simp at this; omega
  rcases this with rfl | rfl
  · cases e
    exact ⟨a, _, rfl, .inl ha, two hx hy, rfl⟩
  · cases e
    exact ⟨b, _, rfl, .inl hb, two hz hw, rfl⟩
theorem szr_div {n m : Nat} {x z : Rat} (h : FoQ.SzR n x) (g : FoQ.SzR m z) (nz : z ≠ 0) : FoQ.SzR (n + m) (x / z) := by
  rw [← FoQ.q_div]
  exact FoQ.SzR.divInt (Int.mul_ne_zero (FoQ.den_ne x) (fun c => nz (FoQ.num0.mp c))) (h.1.mul g.2) (h.2.mul g.1)
theorem sq_pos (x : Rat) : x * x + 1 ≠ 0 := fun e => by
  have h : 0 ≤ x * x := by
    rcases Rat.le_total (a := 0) (b := x) with h | h
    · exact Rat.mul_nonneg h h
    · have h2 : 0 ≤ -x := by grind
      have := Rat.mul_nonneg h2 h2
      grind
  grind
section
variable {P : Program} {w : World} {K : PySem.W.Frag} {mg : Str → Option Value} {base : Heap}
end


end Fo


set_option maxHeartbeats 4100000
namespace Fo
open PySem PySem.Spec PyProof.Rows L2
open FoWd
/-! ### tables beside one another -/
def bE (n : Nat) (A B : List (List Rat)) (i j : Nat) : Rat := if i < n then (if j < n then ent A i j else 0) else (if j < n then 0 else ent B (i - n) (j - n))
def bsd (n m : Nat) (A B : List (List Rat)) : List (List Rat) := tab (n + m) (bE n A B)
theorem sm_split (f : Nat → Rat) (n : Nat) : ∀ m, sm f (n + m) = sm f n + sm (fun c => f (n + c)) m
  | 0 => by show sm f n = sm f n + 0; rw [Rat.add_zero]
  | m + 1 => by
    show sm f (n + m) + f (n + m) = sm f n + (sm (fun c => f (n + c)) m + f (n + m))
    rw [sm_split f n m]
    grind
theorem bsd_sq (n m : Nat) (A B : List (List Rat)) : SqN (n + m) (bsd n m A B) := SqN.tab _ _
theorem isF_sym {n : Nat} {A : List (List Rat)} (s : SqN n A) (f : isF A) {i j : Nat} (hi : i < n) (hj : j < n) : ent A i j = ent A j i := by
  conv => lhs; rw [f.1]
  rw [flip_tab s, ent_tab hi hj]
theorem isF_idem {n : Nat} {A : List (List Rat)} (s : SqN n A) (f : isF A) {i j : Nat} (hi : i < n) (hj : j < n) : sm (fun c => ent A i c * ent A c j) n = ent A i j := by
  conv => rhs; rw [f.2]
  rw [tmul_tab s s, ent_tab hi hj]
  rfl
theorem bsd_isF {n m : Nat} {A B : List (List Rat)} (sA : SqN n A) (sB : SqN m B) (fA : isF A) (fB : isF B) : isF (bsd n m A B) := by
  have sq := bsd_sq n m A B
  refine ⟨?_, ?_⟩
  · rw [flip_tab sq]
    refine tab_congr fun i j hi hj => ?_
    unfold bsd
    rw [ent_tab hj hi]
    unfold bE
    by_cases ci : i < n
    · by_cases cj : j < n
      · rw [if_pos ci, if_pos cj, if_pos cj, if_pos ci]
        exact isF_sym sA fA ci cj
      · rw [if_pos ci, if_neg cj, if_neg cj, if_pos ci]
    · by_cases cj : j < n
      · rw [if_neg ci, if_pos cj, if_pos cj, if_neg ci]
      · rw [if_neg ci, if_neg cj, if_neg cj, if_neg ci]
        exact isF_sym sB fB (by omega) (by omega)
  · rw [tmul_tab sq sq]
    refine tab_congr fun i j hi hj => ?_
    have e : mM (n + m) (ent (bsd n m A B)) (ent (bsd n m A B)) i j = sm (fun c => bE n A B i c * bE n A B c j) (n + m) := sm_congr _ fun c hc => by
      show ent (bsd n m A B) i c * ent (bsd n m A B) c j = _
      unfold bsd
      rw [ent_tab hi hc, ent_tab hc hj]
    rw [e, sm_split]
    by_cases ci : i < n
    · have h2 : sm (fun c => bE n A B i (n + c) * bE n A B (n + c) j) m = 0 := by
        rw [sm_congr m (g := fun _ => 0) fun c hc => by unfold bE; rw [if_pos ci, if_neg (by omega), Rat.zero_mul]]
        exact sm_zero m
      rw [h2, Rat.add_zero]
      by_cases cj : j < n
      · rw [sm_congr n (g := fun c => ent A i c * ent A c j) fun c hc => by unfold bE; rw [if_pos ci, if_pos hc, if_pos hc, if_pos cj], isF_idem sA fA ci cj]
        unfold bE
        rw [if_pos ci, if_pos cj]
      · rw [sm_congr n (g := fun _ => 0) fun c hc => by unfold bE; rw [if_pos ci, if_pos hc, if_pos hc, if_neg cj, Rat.mul_zero], sm_zero]
        unfold bE
        rw [if_pos ci, if_neg cj]
    · have h1 : sm (fun c => bE n A B i c * bE n A B c j) n = 0 := by
        rw [sm_congr n (g := fun _ => 0) fun c hc => by unfold bE; rw [if_neg ci, if_pos hc, Rat.zero_mul]]
        exact sm_zero n
      rw [h1, Rat.zero_add]
      by_cases cj : j < n
      · rw [sm_congr m (g := fun _ => 0) fun c hc => by unfold bE; rw [if_neg ci, if_neg (by omega), if_neg (by omega), if_pos cj, Rat.mul_zero], sm_zero]
        unfold bE
        rw [if_neg ci, if_pos cj]
      · rw [sm_congr m (g := fun c => ent B (i - n) c * ent B c (j - n)) fun c hc => by unfold bE; rw [if_neg ci, if_neg (by omega), if_neg (by omega), if_neg cj, show n + c - n = c by omega], isF_idem sB fB (by omega) (by omega)]
        unfold bE
        rw [if_neg ci, if_neg cj]
theorem bsd_cdt {n m a b : Nat} {A B : List (List Rat)} (hA : CDT a A) (hB : CDT b B) : CDT (a + b) (bsd n m A B) := by
  obtain ⟨N, n0, n1, n2⟩ := hA
  obtain ⟨M, m0, m1, m2⟩ := hB
  have p : 2 ^ (a + b) = 2 ^ a * 2 ^ b := Nat.pow_add _ _ _
  have z : ∃ z : Int, z.natAbs < 2 ^ (a + b) ∧ (0 : Rat) * ((N * M : Nat) : Rat) = (z : Rat) := ⟨0, Nat.two_pow_pos _, by rw [Rat.zero_mul]; rfl⟩
  refine ⟨N * M, Nat.mul_pos n0 m0, by rw [p]; exact Nat.mul_lt_mul_of_lt_of_lt n1 m1, fun i j => ?_⟩
  by_cases c : i < n + m ∧ j < n + m
  · unfold bsd
    rw [ent_tab c.1 c.2]
    unfold bE
    by_cases ci : i < n
    · by_cases cj : j < n
      · rw [if_pos ci, if_pos cj]
        obtain ⟨u, u1, u2⟩ := n2 i j
        refine ⟨u * (M : Int), ?_, ?_⟩
        · rw [Int.natAbs_mul, p, Int.natAbs_natCast]
          exact Nat.mul_lt_mul_of_lt_of_lt u1 m1
        · rw [Rat.intCast_mul, ← u2, Rat.natCast_mul]
          show _ = ent A i j * (N : Rat) * ((M : Int) : Rat)
          rw [Rat.mul_assoc]
          rfl
      · rw [if_pos ci, if_neg cj]
        exact z
    · by_cases cj : j < n
      · rw [if_neg ci, if_pos cj]
        exact z
      · rw [if_neg ci, if_neg cj]
        obtain ⟨u, u1, u2⟩ := m2 (i - n) (j - n)
        refine ⟨(N : Int) * u, ?_, ?_⟩
        · rw [Int.natAbs_mul, p, Int.natAbs_natCast]
          exact Nat.mul_lt_mul_of_lt_of_lt n1 u1
        · rw [Rat.intCast_mul, ← u2, Rat.natCast_mul]
          show _ = ((N : Int) : Rat) * (ent B (i - n) (j - n) * (M : Rat))
          have e : ((N : Int) : Rat) = (N : Rat) := rfl
          rw [e]
          grind
  · rw [ent_out (bsd_sq n m A B) c]
    exact z
/-! ### a turned filter is a filter -/
theorem isF_turn {n : Nat} {t m : List (List Rat)} (ht : SqN n t) (hm : SqN n m) (f : isF m) (o : tmul (Fo.flip t) t = tunit n) : isF (tmul (tmul t m) (Fo.flip t)) := by
  obtain ⟨f1, f2⟩ := f
  have hf := ht.flip
  have h1 := ht.mul hm
  have h2 := h1.mul hf
  have fl : ∀ i j, i < n → j < n → ent (Fo.flip t) i j = ent t j i := fun i j hi hj => by
    rw [flip_tab ht, ent_tab hi hj]
  have sym : ∀ i j, i < n → j < n → ent m i j = ent m j i := fun i j hi hj => by
    conv => lhs; rw [f1]
    rw [flip_tab hm, ent_tab hi hj]
  have idem : ∀ i j, i < n → j < n → ent m i j = mM n (ent m) (ent m) i j := fun i j hi hj => by
    conv => lhs; rw [f2]
    rw [tmul_tab hm hm, ent_tab hi hj]
  have orth : ∀ i j, i < n → j < n → mM n (fun a b => ent t b a) (ent t) i j = if i = j then 1 else 0 := fun i j hi hj => by
    have e := congrArg (fun z => ent z i j) o
    rw [tmul_tab hf ht] at e
    have e : ent (tab n (mM n (ent (Fo.flip t)) (ent t))) i j = ent (tunit n) i j := e
    unfold tunit at e
    rw [ent_tab hi hj, ent_tab hi hj] at e
    rw [← e]
    exact mM_congr (fun c hc => (fl i c hi hc).symm) (fun c hc => rfl)
  have key : ∀ i j, i < n → j < n → ent (tmul (tmul t m) (Fo.flip t)) i j = mM n (mM n (ent t) (ent m)) (fun a b => ent t b a) i j := fun i j hi hj => by
    rw [tmul_tab h1 hf, ent_tab hi hj]
    refine mM_congr (fun c hc => ?_) (fun c hc => fl c j hc hj)
    rw [tmul_tab ht hm, ent_tab hi hc]
  refine ⟨?_, ?_⟩
  · conv => lhs; rw [h2.eta]
    rw [flip_tab h2]
    refine tab_congr fun i j hi hj => ?_
    rw [key i j hi hj, key j i hj hi, mM_assoc]
    show sm (fun c => ent t i c * sm (fun d => ent m c d * ent t j d) n) n = sm (fun c => sm (fun d => ent t j d * ent m d c) n * ent t i c) n
    refine sm_congr n fun c hc => ?_
    rw [Rat.mul_comm]
    congr 1
    refine sm_congr n fun d hd => ?_
    rw [sym c d hc hd, Rat.mul_comm]
  · conv => lhs; rw [h2.eta]
    rw [tmul_tab h2 h2]
    refine tab_congr fun i j hi hj => ?_
    rw [key i j hi hj]
    have e1 : mM n (ent (tmul (tmul t m) (Fo.flip t))) (ent (tmul (tmul t m) (Fo.flip t))) i j = mM n (mM n (mM n (ent t) (ent m)) (fun a b => ent t b a)) (mM n (mM n (ent t) (ent m)) (fun a b => ent t b a)) i j := mM_congr (fun c hc => key i c hi hc) (fun c hc => key c j hc hj)
    rw [e1, mM_assoc n (mM n (ent t) (ent m)) (fun a b => ent t b a) (mM n (mM n (ent t) (ent m)) (fun a b => ent t b a))]
    show _ = sm (fun c => mM n (ent t) (ent m) i c * mM n (fun a b => ent t b a) (mM n (mM n (ent t) (ent m)) (fun a b => ent t b a)) c j) n
    have e2 : ∀ c, c < n → mM n (fun a b => ent t b a) (mM n (mM n (ent t) (ent m)) (fun a b => ent t b a)) c j = mM n (ent m) (fun a b => ent t b a) c j := fun c hc => by
      rw [← mM_assoc]
      refine mM_congr (fun d hd => ?_) (fun _ _ => rfl)
      rw [← mM_assoc]
      show sm (fun x => mM n (fun a b => ent t b a) (ent t) c x * ent m x d) n = ent m c d
      rw [sm_congr n fun x hx => by rw [orth c x hc hx]]
      exact sm_pick n c hc fun x => ent m x d
    rw [sm_congr n fun c hc => by rw [e2 c hc]]
    show _ = mM n (mM n (ent t) (ent m)) (mM n (ent m) (fun a b => ent t b a)) i j
    rw [← mM_assoc]
    refine mM_congr (fun d hd => ?_) (fun _ _ => rfl)
    rw [mM_assoc]
    exact mM_congr (fun _ _ => rfl) (fun c hc => idem c d hc hd)


end Fo


set_option maxHeartbeats 4100000
namespace Fo
open PySem PySem.Spec PyProof.Rows L2
open FoWd
def TB (N B : Nat) (m : List (List Rat)) : Prop := ∀ i j, Ov N B (ent m i j)
theorem ov_of {N B : Nat} {x : Rat} (h : ∃ z : Int, z.natAbs < B ∧ x * (N : Rat) = (z : Rat)) : Ov N B x := let ⟨z, e1, e2⟩ := h; ⟨z, by omega, e2⟩
theorem tb_of {b c : Nat} {P R : List (List Rat)} (hP : CDT b P) (hR : CDT c R) : ∃ N, 0 < N ∧ N < 2 ^ (b + c) ∧ TB N (2 ^ (b + c)) P ∧ TB N (2 ^ (b + c)) R := by
  obtain ⟨N, n0, n1, n2⟩ := hP
  obtain ⟨M, m0, m1, m2⟩ := hR
  have p : 2 ^ (b + c) = 2 ^ b * 2 ^ c := Nat.pow_add _ _ _
  refine ⟨N * M, Nat.mul_pos n0 m0, by rw [p]; exact Nat.mul_lt_mul_of_lt_of_lt n1 m1, fun i j => ?_, fun i j => ?_⟩
  · exact ((ov_of (n2 i j)).scale (M := M)).mono (by rw [p]; exact Nat.mul_le_mul_left _ (Nat.le_of_lt m1))
  · have := ((ov_of (m2 i j)).scale (M := N)).mono (C := 2 ^ (b + c)) (by rw [p, Nat.mul_comm]; exact Nat.mul_le_mul_right _ (Nat.le_of_lt n1))
    rwa [Nat.mul_comm M N] at this
theorem sm_ov {N B : Nat} {f : Nat → Rat} : ∀ n, (∀ c, c < n → Ov N B (f c)) → Ov N (n * B) (sm f n)
  | 0, _ => Ov.zero
  | n + 1, h => by
    show Ov N _ (sm f n + f n)
    rw [Nat.succ_mul]
    exact (sm_ov n fun c hc => h c (by omega)).add (h n (by omega))
theorem tb_mul {n N M B C : Nat} {m k : List (List Rat)} (s : SqN n m) (t : SqN n k) (h : TB N B m) (g : TB M C k) : TB (N * M) (n * (B * C)) (tmul m k) := fun i j => by
  by_cases c : i < n ∧ j < n
  · rw [tmul_tab s t, ent_tab c.1 c.2]
    exact sm_ov n fun c _ => (h i c).mul (g c j)
  · rw [ent_out (s.mul t) c]
    exact Ov.zero
theorem tb_unit (n : Nat) : TB 1 1 (tunit n) := fun i j => by
  by_cases c : i < n ∧ j < n
  · unfold tunit
    rw [ent_tab c.1 c.2]
    by_cases e : i = j
    · rw [if_pos e]
      exact Ov.one
    · rw [if_neg e]
      exact Ov.zero
  · unfold tunit
    rw [ent_out (SqN.tab n _) c]
    exact Ov.zero
theorem tb_word {n N B : Nat} {P R : List (List Rat)} (sP : SqN n P) (sR : SqN n R) (hP : TB N B P) (hR : TB N B R) : ∀ w : Wd, TB (N ^ w.length) ((n * B) ^ w.length) (prodW n P R w)
  | [] => tb_unit n
  | b :: w => by
    have ih := tb_word sP sR hP hR w
    have e1 : N ^ (b :: w).length = N * N ^ w.length := by rw [List.length_cons, Nat.pow_succ, Nat.mul_comm]
    have e2 : (n * B) ^ (b :: w).length = n * (B * (n * B) ^ w.length) := by rw [List.length_cons, Nat.pow_succ, Nat.mul_comm, Nat.mul_assoc]
    rw [e1, e2]
    show TB _ _ (tmul (if b then P else R) (prodW n P R w))
    cases b with
    | true => exact tb_mul sP (prodW_sq sP sR w) hP ih
    | false => exact tb_mul sR (prodW_sq sP sR w) hR ih
theorem tb_word_le {n N B K : Nat} {P R : List (List Rat)} (sP : SqN n P) (sR : SqN n R) (hP : TB N B P) (hR : TB N B R) (n1 : 1 ≤ n) (nb : N ≤ B) {w : Wd} (l : w.length ≤ K) : TB (N ^ K) ((n * B) ^ K) (prodW n P R w) := fun i j => by
  have h := (tb_word sP sR hP hR w i j).scale (M := N ^ (K - w.length))
  have e1 : N ^ w.length * N ^ (K - w.length) = N ^ K := by rw [← Nat.pow_add]; congr 1; omega
  rw [e1] at h
  refine h.mono ?_
  have e2 : (n * B) ^ K = (n * B) ^ w.length * (n * B) ^ (K - w.length) := by rw [← Nat.pow_add]; congr 1; omega
  rw [e2]
  refine Nat.mul_le_mul_left _ (Nat.pow_le_pow_left ?_ _)
  exact Nat.le_trans nb (Nat.le_mul_of_pos_left B n1)
theorem vent_ov {n N B M C : Nat} {P R : List (List Rat)} {K : Nat} (W : ∀ w : Wd, w.length ≤ K → TB N B (prodW n P R w)) : ∀ {ps : Ps}, AllOv M C ps → Le K ps → ∀ i j, Ov (M * N) (ps.length * (C * B)) (vent n P R ps i j)
  | [], _, _, i, j => Ov.zero
  | p :: ps, h, g, i, j => by
    have e : vent n P R (p :: ps) i j = p.2 * ent (prodW n P R p.1) i j + vent n P R ps i j := rfl
    rw [e, List.length_cons, Nat.succ_mul, Nat.add_comm]
    exact ((h p List.mem_cons_self).mul (W _ (g p List.mem_cons_self) i j)).add (vent_ov W (fun q hq => h q (List.mem_cons_of_mem _ hq)) (fun q hq => g q (List.mem_cons_of_mem _ hq)) i j)
theorem sumA_ov {N B : Nat} {F : Wd → Rat} : ∀ {l : List Wd}, (∀ a ∈ l, Ov N B (F a)) → Ov N (l.length * B) (sumA F l)
  | [], _ => Ov.zero
  | a :: l, h => by
    show Ov N _ (F a + sumA F l)
    rw [List.length_cons, Nat.succ_mul, Nat.add_comm]
    exact (h a List.mem_cons_self).add (sumA_ov fun b hb => h b (List.mem_cons_of_mem _ hb))
theorem psum_ov {n N B M C : Nat} {P R : List (List Rat)} {K : Nat} (W : ∀ w : Wd, w.length ≤ K → TB N B (prodW n P R w)) {ps : Ps} (h : ∀ a, Ov M C (coef ps a)) {k : Nat} (hk : k ≤ K) (i j : Nat) : Ov (M * N) ((2 * k + 1) * (C * B)) (psum n P R ps k i j) := by
  unfold psum
  rw [← aw_len k]
  exact sumA_ov fun a ha => (h a).mul (W a (Nat.le_trans (AW_len ha) hk) i j)
theorem CDT.rb' {B : Nat} {m : List (List Rat)} (h : CDT B m) (l : B ≤ 800) : RB m := fun i => by
  obtain ⟨N, n0, n1, n2⟩ := h
  exact CD.bd ⟨N, n0, n1, fun j => n2 i j⟩ l
theorem CDT.cb' {B n : Nat} {m : List (List Rat)} (h : CDT B m) (s : SqN n m) (l : B ≤ 800) : CB m := fun j => by
  obtain ⟨N, n0, n1, n2⟩ := h
  refine CD.bd ⟨N, n0, n1, fun i => ?_⟩ l
  unfold colm
  rw [FoQ.co_map]
  split
  · exact n2 i j
  · exact ⟨0, Nat.two_pow_pos B, by rw [Rat.zero_mul]; rfl⟩
/-- a pair of filters with small numbers -/
structure PairOk (n b : Nat) (P R : List (List Rat)) : Prop where
  sP : SqN n P
  sR : SqN n R
  fP : isF P
  fR : isF R
  cP : CDT b P
  cR : CDT b R
theorem cdt_unit (n : Nat) : CDT 1 (tunit n) := ⟨1, by decide, by decide, fun i j => by
  by_cases c : i < n ∧ j < n
  · unfold tunit
    rw [ent_tab c.1 c.2]
    by_cases e : i = j
    · rw [if_pos e]
      exact ⟨1, by decide, by rw [Rat.one_mul]; rfl⟩
    · rw [if_neg e]
      exact ⟨0, by decide, by rw [Rat.zero_mul]; rfl⟩
  · unfold tunit
    rw [ent_out (SqN.tab n _) c]
    exact ⟨0, by decide, by rw [Rat.zero_mul]; rfl⟩⟩
theorem PairOk.word {n b : Nat} {P R : List (List Rat)} (o : PairOk n b P R) (n4 : n ≤ 4) : ∀ w : Wd, CDT (1 + (b + 3) * w.length) (prodW n P R w)
  | [] => cdt_unit n
  | c :: w => by
    have ih := o.word n4 w
    have e : 1 + (b + 3) * (c :: w).length = b + (1 + (b + 3) * w.length) + 3 := by rw [List.length_cons, Nat.mul_succ]; omega
    rw [e]
    show CDT _ (tmul (if c then P else R) (prodW n P R w))
    cases c with
    | true => exact o.cP.mul ih o.sP (prodW_sq o.sP o.sR w) n4
    | false => exact o.cR.mul ih o.sR (prodW_sq o.sP o.sR w) n4
theorem PairOk.tb {n b : Nat} {P R : List (List Rat)} (o : PairOk n b P R) (n1 : 1 ≤ n) (n4 : n ≤ 4) (b56 : b ≤ 56) : ∃ N, 0 < N ∧ N < 2 ^ 1008 ∧ ∀ w : Wd, w.length ≤ 9 → TB N (2 ^ 1026) (prodW n P R w) := by
  obtain ⟨N, n0, h1, hP, hR⟩ := tb_of o.cP o.cR
  have hb : 2 ^ (b + b) ≤ 2 ^ 112 := Nat.pow_le_pow_right (by decide) (by omega)
  have hN : N < 2 ^ 112 := Nat.lt_of_lt_of_le h1 hb
  have hP : TB N (2 ^ 112) P := fun i j => (hP i j).mono hb
  have hR : TB N (2 ^ 112) R := fun i j => (hR i j).mono hb
  refine ⟨N ^ 9, Nat.pow_pos n0, ?_, fun w hw i j => (tb_word_le (K := 9) o.sP o.sR hP hR n1 (Nat.le_of_lt hN) hw i j).mono ?_⟩
  · rw [show (2 : Nat) ^ 1008 = (2 ^ 112) ^ 9 by rw [← Nat.pow_mul]]
    exact Nat.pow_lt_pow_left hN (by decide)
  · rw [show (2 : Nat) ^ 1026 = (2 ^ 114) ^ 9 by rw [← Nat.pow_mul]]
    refine Nat.pow_le_pow_left ?_ _
    rw [show (2 : Nat) ^ 114 = 4 * 2 ^ 112 by rw [show (114 : Nat) = 2 + 112 from rfl, Nat.pow_add]]
    exact Nat.mul_le_mul_right _ n4
/-- rows whose numbers lie over a small bottom -/
structure SmR (ps : Ps) : Prop where
  ov : ∀ a, Ov 6350400 (2 ^ 60) (coef ps a)
theorem pow_m {a b c : Nat} (h : a + b ≤ c) {x y : Nat} (hx : x < 2 ^ a) (hy : y ≤ 2 ^ b) : x * y < 2 ^ c := by
  have e : 2 ^ (a + b) = 2 ^ a * 2 ^ b := Nat.pow_add _ _ _
  have l : 2 ^ (a + b) ≤ 2 ^ c := Nat.pow_le_pow_right (by decide) h
  refine Nat.lt_of_lt_of_le ?_ (by rw [e] at l; exact l)
  exact Nat.lt_of_le_of_lt (Nat.mul_le_mul_left x hy) (Nat.mul_lt_mul_of_pos_right hx (Nat.two_pow_pos b))
theorem PairOk.v {n b : Nat} {P R : List (List Rat)} {ps : Ps} (o : PairOk n b P R) (n1 : 1 ≤ n) (n4 : n ≤ 4) (b56 : b ≤ 56) (c : SmR ps) : VOk n P R ps 9 := by
  obtain ⟨N, n0, hN, W⟩ := o.tb n1 n4 b56
  have wl : ∀ d k, k ≤ 9 → CDT 600 (prodW n P R (alt d k)) := fun d k hk => (o.word n4 (alt d k)).mono (by
    rw [alt_len]
    have : (b + 3) * k ≤ 59 * 9 := Nat.mul_le_mul (by omega) hk
    omega)
  have cz : ∀ a, FoQ.SzR 61 (coef ps a) := fun a => (c.ov a).sz (by decide) (by decide) (by decide)
  have m0 : 0 < 6350400 * N := Nat.mul_pos (by decide) n0
  have m1 : 6350400 * N < 2 ^ 1800 := pow_m (a := 23) (b := 1008) (by decide) (by decide) (Nat.le_of_lt hN)
  have t1 : ∀ k, k ≤ 9 → (2 * k + 1) * (2 ^ 60 * 2 ^ 1026) < 2 ^ 1800 := fun k hk => by
    rw [← Nat.pow_add]
    exact pow_m (a := 5) (b := 1086) (by decide) (by show 2 * k + 1 < 32; omega) (Nat.le_refl _)
  have s1 : ∀ k, k ≤ 9 → ∀ i j, FoQ.SzR 1800 (psum n P R ps k i j) := fun k hk i j => (psum_ov W c.ov hk i j).sz m0 m1 (t1 k hk)
  refine ⟨o.sP, o.sR, n1, by omega, o.fP, o.fR, o.cP.rb' (by omega), o.cP.cb' o.sP (by omega), o.cR.rb' (by omega), o.cR.cb' o.sR (by omega), fun d k hk => (wl d k (by omega)).cb' (prodW_sq o.sP o.sR _) (by decide), fun d k hk i j => ((wl d k hk).sz i j).mono (by decide), fun a => (cz a).mono (by decide), fun d k hk i j => (((wl d k hk).sz i j).mul (cz _)).mono (by decide), fun k hk i j => (s1 k hk i j).mono (by decide), fun k hk i j => ?_⟩
  have z : Ov (6350400 * N) ((2 * k + 1) * (2 ^ 60 * 2 ^ 1026) + 2 ^ 60 * 2 ^ 1026) (psum n P R ps k i j + coef ps (alt true (k + 1)) * ent (prodW n P R (alt true (k + 1))) i j) := (psum_ov W c.ov (by omega) i j).add ((c.ov _).mul (W _ (by rw [alt_len]; exact hk) i j))
  rw [Rat.mul_comm (ent _ i j)]
  refine z.sz m0 (Nat.lt_of_lt_of_le m1 (Nat.pow_le_pow_right (by decide) (by decide))) ?_
  have e : (2 * k + 1) * (2 ^ 60 * 2 ^ 1026) + 2 ^ 60 * 2 ^ 1026 = (2 * k + 2) * (2 ^ 60 * 2 ^ 1026) := by rw [← Nat.succ_mul]
  rw [e, ← Nat.pow_add]
  exact pow_m (a := 5) (b := 1086) (by decide) (by show 2 * k + 2 < 32; omega) (Nat.le_refl _)

end Fo

set_option maxHeartbeats 4100000
namespace Fo
open PySem PySem.Spec PyProof.Rows L2
theorem cut_to (ws : List V) (k : Nat) (h : k ≤ ws.length) : cutV ws none (some (k : Int)) = ws.take k := by
  unfold cutV
  have e0 : HT.sIx ws.length 0 none = 0 := rfl
  rw [HT.sIx_nat, e0, List.drop_zero, Nat.sub_zero, Nat.min_eq_left h]
def spTrimmed (K : PySem.W.Frag) : Sp := fun vs H Q _ => ∃ (a : Addr) (ws : List V) (l : List Rat), vs = [.ref a] ∧ SqL K H a ws ∧ Ls (Rr K) H ws l ∧ l.length ≤ 1000 ∧ ∀ p H', H p = none → Same H H' → H' p = some (.lst (ws.take (FoQ.trim l).length)) → Q (.ref p) H'
section
variable {P : Program} {w : World} {K : PySem.W.Frag} {mg : Str → Option Value} {base : Heap}
theorem ok_trimmed (T : Tx K mg) : FnOk P w K mg base CX0 3 (He.ga K "trimmed") T.fd_trimmed ["terms"] (spTrimmed K) := by
  refine T.F_trimmed.ok sc_trimmed (fun vs H Q E h => ?_) (fun cdv A outer s H vs Q E hr h => ?_)
  · obtain ⟨a, ws, l, rfl, _⟩ := h
    rfl
  · obtain ⟨a, ws, l, rfl, hS, hA, hl, q⟩ := h
    refine ⟨_, (pss_cons (ps_set (i := 1) sc_trimmed.nd rfl (.inl rfl) (pe_callB call_len_seq (by rfl) T.z_len PySem.boot_len (pa_cons (pv 0) pa_nil)))
      (pss_cons (ps_while PassesOwn.never (PW.pt (pw_and (pt_cmpR op_gt (pv 1) pe_int (nomark _)) (pw_and1 (pt_cmpR (FoA.op_ownC (ok_eqQ T) (hr.mono (by decide)) T.b_Ratio_eq pass0 T.cm_eq (fun _ _ => rfl)) (pe_ix ix_list (pv 0) (pe_op op_sub (pv 1) pe_int) (fun _ _ => rfl)) pe_int (nomark _))))) (pss_one (ps_set (i := 1) sc_trimmed.nd rfl (.inl rfl) (pe_op op_sub (pv 1) pe_int))))
      (pss_one (ps_ret (pe_callTy call_list_of (by rfl) T.z_list (by decide +kernel) (pa_cons (pe_slice sl_list (pv 0) po_none (po_some (pv 1))) pa_nil)))))), ?_⟩
    refine ⟨_, rfl, a, _, rfl, .inl hS, ?_⟩
    refine ⟨fun k σ H2 => H2 = H ∧ k ≤ l.length ∧ σ = [some (.ref a), some (.int k)] ∧ ∀ n, k ≤ n → FoQ.co l n = 0, ⟨l.length, rfl, Nat.le_refl _, ?_, fun n hn => FoQ.co_ge hn⟩, ?_⟩
    · show [some (V.ref a), some (V.int ws.length)] = _
      rw [hA.1]
    rintro k σ H2 ⟨rfl, hk, rfl, hz⟩
    -- what is left when it ends
    have fin : (k = 0 ∨ FoQ.co l (k - 1) ≠ 0) → k = (FoQ.trim l).length := fun h => by
      rw [FoQ.trim_take hk hz h, List.length_take, Nat.min_eq_left hk]
    have cut : cutV ws none (some (k : Int)) = ws.take k := cut_to _ _ (by rw [hA.1]; exact hk)
    have last' : k = (FoQ.trim l).length → ∀ p1 p2, H2 p1 = none → upd H2 p1 (.lst (ws.take k)) p2 = none → Q (.ref p2) (upd (upd H2 p1 (.lst (ws.take k))) p2 (.lst (ws.take k))) := fun kt p1 p2 n1 n2 => by
      refine q p2 _ ((Same.upd n1).free n2) ((Same.upd n1).trans (Same.upd n2)) ?_
      rw [← kt]
      exact upd_same
    refine ⟨_, rfl, _, _, rfl, rfl, _, rfl, ite2 (fun e => ?_) (fun e => ?_)⟩
    · have k0 : 0 < k := by
        have := of_decide_eq_true e
        omega
      obtain ⟨_, eb, b, rfl, hb⟩ := hA.at_ (i := k - 1) (by omega)
      obtain ⟨dx, hb'⟩ := id hb
      refine ⟨_, rfl, _, rfl, _, _, rfl, rfl, a, _, _, _, rfl, rfl, hS, by rw [show ((k : Int) - 1) = ((k - 1 : Nat) : Int) by omega]; exact atI_nat eb, ?_⟩
      refine ⟨b, dx, _, rfl, hb', .int 0, b, .int 0, _, rfl, hb, .inl ⟨0, .inr ⟨0, rfl, rfl⟩, _, rfl, ite2 (fun e2 => ?_) (fun e2 => ?_)⟩⟩
      · have z0 : FoQ.co l (k - 1) = 0 := of_decide_eq_true e2
        refine ⟨fun σ' H' => H' = H2 ∧ σ' = [some (.ref a), some (.int (k - 1 : Nat))], fun σ' H' h => ?_, ?_⟩
        · obtain ⟨rfl, rfl⟩ := h
          refine ⟨k - 1, by omega, rfl, by omega, rfl, fun n hn => ?_⟩
          by_cases c : n = k - 1
          · rw [c]
            exact z0
          · exact hz n (by omega)
        · refine ⟨_, rfl, _, _, rfl, rfl, rfl, ?_⟩
          show [some (V.ref a), some (V.int ((k : Int) - 1))] = _
          rw [show ((k : Int) - 1) = ((k - 1 : Nat) : Int) by omega]
      · have nz : FoQ.co l (k - 1) ≠ 0 := of_decide_eq_false (Bool.eq_false_iff.mpr e2)
        have kt := fin (.inr nz)
        exact ⟨_, rfl, _, rfl, _, rfl, a, _, rfl, hS, fun p1 n1 => by rw [cut]; exact ⟨p1, _, rfl, .inl (SqL.of upd_same), fun p2 n2 => last' kt p1 p2 n1 n2⟩⟩
    · have kt := fin (.inl (by
        have := of_decide_eq_false (Bool.eq_false_iff.mpr e)
        omega))
      exact ⟨_, rfl, _, rfl, _, rfl, a, _, rfl, hS, fun p1 n1 => by rw [cut]; exact ⟨p1, _, rfl, .inl (SqL.of upd_same), fun p2 n2 => last' kt p1 p2 n1 n2⟩⟩
end

end Fo

set_option maxHeartbeats 4100000
namespace Fo
open PySem PySem.Spec PyProof.Rows L2
/-! ### the class Polynomial -/
abbrev PC (K : PySem.W.Frag) : Addr := He.ga K "Polynomial"
theorem pf_look (v : V) : (putF ("_terms" : Str) v []).lookup ("_terms" : Str) = some v := by rw [lookup_putF, if_pos rfl]
theorem pf_no (v : V) {m : Str} (h : ¬ m = "_terms") : (putF ("_terms" : Str) v []).lookup m = none := by
  rw [lookup_putF, if_neg h]
  rfl
/-- at p: the polynomial with the coefficients l -/
def PolAt (K : PySem.W.Frag) (H : Hp) (p : Addr) (l : List Rat) : Prop := ∃ dx t ws, H p = some (.ins (PC K) dx (putF "_terms" (.ref t) [])) ∧ H t = some (.tup ws) ∧ Ls (Rr K) H ws l
theorem PolAt.nl {K : PySem.W.Frag} {H H' : Hp} {p : Addr} {l : List Rat} (h : PolAt K H p l) (s : NLst H H') : PolAt K H' p l :=
  let ⟨dx, t, ws, e1, e2, e3⟩ := h
  ⟨dx, t, ws, s _ _ e1 (fun xs z => by cases z), s _ _ e2 (fun xs z => by cases z), e3.nl rr_solid s⟩
theorem PolAt.same {K : PySem.W.Frag} {H H' : Hp} {p : Addr} {l : List Rat} (h : PolAt K H p l) (s : Same H H') : PolAt K H' p l := h.nl (same_nl s)
def spPIn (K : PySem.W.Frag) : Sp := fun vs H Q _ => ∃ (p dx a : Addr) (ws : List V) (l : List Rat), vs = [.ref p, .ref a] ∧ H p = some (.ins (PC K) dx []) ∧ (SqL K H a ws ∨ SqT K H a ws) ∧ Ls (Rn K) H ws l ∧ l.length ≤ 1000 ∧
  ∀ H', PolAt K H' p (FoQ.trim l) → But p H H' → Q .non H'
/-- what stands in a heap of numbers is kept by a call of as_ratio -/
theorem rn_as {K : PySem.W.Frag} {r : Rat} {H : Hp} {v : V} (h : Rn K r H v) : NmV K H v r := h
section
variable {P : Program} {w : World} {K : PySem.W.Frag} {mg : Str → Option Value} {base : Heap}
theorem ok_Pinit (T : Tx K mg) : FnOk P w K mg base CX0 4 (He.ma K (He.ga K "Polynomial") "__init__") T.fd_Polynomial_init ["self", "numbers"] (spPIn K) := by
  refine T.F_Polynomial_init.ok sc_Polynomial_init (fun vs H Q E h => ?_) (fun cdv A outer s H vs Q E hr h => ?_)
  · obtain ⟨p, dx, a, ws, l, rfl, _⟩ := h
    rfl
  · obtain ⟨p, dx, a, ws, l, rfl, hp, hS, hN, hl, q⟩ := h
    -- a turn of the comprehension
    have turn : ∀ {D : Addr} (_ : H D = none) {i : Nat} {x : V} {H2 : Hp}, ws[i]? = some x → LInv (fun j => Rr K (FoQ.co l j)) H D i H2 → ∀ (b : Addr) (H4 : Hp), Same H2 H4 → RtAt K H4 b (FoQ.co l i) →
        ∃ acc, H4 D = some (.lst acc) ∧ acc.length < sizeLine ∧ LInv (fun j => Rr K (FoQ.co l j)) H D (i + 1) (upd H4 D (.lst (acc ++ [.ref b]))) := fun {D} nD {i x H2} ex h b H4 s4 hb => by
      refine h.next (fun j => rr_solid _) nD s4 ⟨b, rfl, hb⟩ ?_
      have := (List.getElem?_eq_some_iff.mp ex).1
      rw [hN.1] at this
      omega
    have last : ∀ {D : Addr} {H2 : Hp} (_ : H D = none), LInv (fun j => Rr K (FoQ.co l j)) H D ws.length H2 → ∃ us, SqL K H2 D us ∧ Ls (Rr K) H2 us l ∧ Same H H2 := fun nD h => by
      obtain ⟨s1, us, e, el, hu⟩ := h
      exact ⟨us, SqL.of e, ⟨by rw [el, hN.1], hu⟩, s1⟩
    have fin : ∀ {H2 H3 : Hp} {us : List V} {t : Addr}, Same H H2 → Ls (Rr K) H2 us l → Same H2 H3 → H3 t = none → Q .non (upd (upd H3 t (.tup (us.take (FoQ.trim l).length))) p (.ins (PC K) dx (putF "_terms" (.ref t) []))) := fun {H2 H3 us t} s1 hu s2 nt => by
      have hp3 : H3 p = some (.ins (PC K) dx []) := (s1.trans s2) _ _ hp
      have tp : t ≠ p := fun z => by rw [z, hp3] at nt; cases nt
      refine q _ ⟨dx, t, us.take (FoQ.trim l).length, upd_same, by rw [upd_ne tp, upd_same], ?_⟩ ((But.of_same (s1.trans s2)).trans ((But.of_same (Same.upd nt)).trans But.upd))
      have e : FoQ.trim l = l.take (FoQ.trim l).length := FoQ.trim_eq l
      rw [e, List.length_take, Nat.min_eq_left (FoQ.trim_len l)]
      refine Ls.take ⟨hu.1, fun i v ev => ?_⟩ _
      obtain ⟨a2, rfl, h2⟩ := hu.2 i v ev
      have h3 := (h2.same s2).same (Same.upd nt (o := .tup (us.take (FoQ.trim l).length)))
      have n2 := rat_ne h3 (Same.upd nt (o := .tup (us.take (FoQ.trim l).length)) _ _ hp3)
      obtain ⟨dx2, h4⟩ := h3
      exact ⟨a2, rfl, dx2, by rw [upd_ne n2]; exact h4⟩
    rcases hS with hS | hS
    · refine ⟨_, (pss_one (ps_fld (pv 0) (pe_callTy call_tuple_of (by rfl) T.z_tuple (by decide +kernel) (pa_cons (pe_call (ok_trimmed T) (hr.mono (by decide)) (by rfl) T.g_trimmed T.F_trimmed.kp T.b_trimmed .nil pass0 (pa_cons (pe_lc (own := [("number", 2)]) (g := gName 2) rfl sc_Polynomial_init.nd (pi_list (pv 1)) (blkOk_by (own := [("number", 2)]) (N := ["self", "numbers", "number"]) (sc := defScope s_Polynomial_init) (by decide +kernel)) (fun _ _ _ _ _ => (pg_name (i := 2) sc_Polynomial_init.nd rfl (.inl rfl))) (fun _ _ _ _ _ => pts_nil) (fun _ _ _ _ _ => (pe_call (ok_asQ T) (hr.mono (by decide)) (by rfl) T.g_as_ratio T.F_as_ratio.kp T.b_as_ratio .nil pass0 (pa_cons (pv 2) pa_nil)))) pa_nil)) pa_nil)) rfl)), ?_⟩
      refine ⟨_, rfl, a, rfl, ⟨_, hS⟩, fun D nD => ?_⟩
      refine lc_list (LInv (fun j => Rr K (FoQ.co l j)) H D) (LInv.start nD) (fun i H2 hi h => sqL_sm hS h.1) (fun i x H2 ex h => ?_) (fun H2 h => ?_)
      · exact ⟨rfl, _, rfl, x, _, rfl, (rn_solid _ (same_nl h.1) (hN.2 i x ex)), turn nD ex h⟩
      · obtain ⟨us, e, hu, s1⟩ := last nD h
        refine ⟨D, us, l, rfl, e, hu, hl, fun p2 H3 n2 s2 e2 => ?_⟩
        refine ⟨p2, _, rfl, .inl ⟨SqL.of e2, fun t nt => ?_⟩⟩
        have hp3 : H3 p = some (.ins (PC K) dx []) := (s1.trans s2) _ _ hp
        exact ⟨_, rfl, p, _, dx, _, rfl, Same.upd nt _ _ hp3, T.cl_P, T.nT_P, (by show 0 < 1000; decide), fin s1 hu s2 nt⟩
    · refine ⟨_, (pss_one (ps_fld (pv 0) (pe_callTy call_tuple_of (by rfl) T.z_tuple (by decide +kernel) (pa_cons (pe_call (ok_trimmed T) (hr.mono (by decide)) (by rfl) T.g_trimmed T.F_trimmed.kp T.b_trimmed .nil pass0 (pa_cons (pe_lc (own := [("number", 2)]) (g := gName 2) rfl sc_Polynomial_init.nd (pi_tup (pv 1)) (blkOk_by (own := [("number", 2)]) (N := ["self", "numbers", "number"]) (sc := defScope s_Polynomial_init) (by decide +kernel)) (fun _ _ _ _ _ => (pg_name (i := 2) sc_Polynomial_init.nd rfl (.inl rfl))) (fun _ _ _ _ _ => pts_nil) (fun _ _ _ _ _ => (pe_call (ok_asQ T) (hr.mono (by decide)) (by rfl) T.g_as_ratio T.F_as_ratio.kp T.b_as_ratio .nil pass0 (pa_cons (pv 2) pa_nil)))) pa_nil)) pa_nil)) rfl)), ?_⟩
      refine ⟨_, rfl, a, rfl, ⟨_, hS⟩, fun D nD => ?_⟩
      refine lc_tup (LInv (fun j => Rr K (FoQ.co l j)) H D) (LInv.start nD) (fun i H2 hi h => sqT_sm hS h.1) (fun i x H2 ex h => ?_) (fun H2 h => ?_)
      · exact ⟨rfl, _, rfl, x, _, rfl, (rn_solid _ (same_nl h.1) (hN.2 i x ex)), turn nD ex h⟩
      · obtain ⟨us, e, hu, s1⟩ := last nD h
        refine ⟨D, us, l, rfl, e, hu, hl, fun p2 H3 n2 s2 e2 => ?_⟩
        refine ⟨p2, _, rfl, .inl ⟨SqL.of e2, fun t nt => ?_⟩⟩
        have hp3 : H3 p = some (.ins (PC K) dx []) := (s1.trans s2) _ _ hp
        exact ⟨_, rfl, p, _, dx, _, rfl, Same.upd nt _ _ hp3, T.cl_P, T.nT_P, (by show 0 < 1000; decide), fin s1 hu s2 nt⟩
end

end Fo

set_option maxHeartbeats 4100000
namespace Fo
open PySem PySem.Spec PyProof.Rows L2
/-! ### the methods of Polynomial -/
theorem pq_make {K : PySem.W.Frag} {H : Hp} {a : Addr} {ws : List V} {l : List Rat} {R : Addr → VK} {E : XK} (hS : SqL K H a ws ∨ SqT K H a ws) (hN : Ls (Rn K) H ws l) (hl : l.length ≤ 1000) (q : ∀ p H', H p = none → Same H H' → PolAt K H' p (FoQ.trim l) → R p .non H') :
    ∀ x dx, H x = none → H dx = none → dx ≠ x → spPIn K [.ref x, .ref a] (upd (upd H dx (.own x)) x (.ins (PC K) dx [])) (R x) E := fun x dx nx ndx ne => by
  have s1 : Same H (upd (upd H dx (.own x)) x (.ins (PC K) dx [])) := (Same.upd ndx).trans (Same.upd (by rw [upd_ne (Ne.symm ne)]; exact nx))
  exact ⟨x, dx, a, ws, l, rfl, upd_same, hS.elim (fun h => .inl (sqL_sm h s1)) (fun h => .inr (sqT_sm h s1)), hN.nl (fun r => rn_solid r) (same_nl s1), hl, fun H' hR hB => q x H' nx (Same.made nx ndx hB) hR⟩
theorem Ls.rn {K : PySem.W.Frag} {H : Hp} {ws : List V} {l : List Rat} (h : Ls (Rr K) H ws l) : Ls (Rn K) H ws l := h.imp fun r v ⟨a, e, q⟩ => .inl ⟨a, e, q⟩
def padd (l m : List Rat) : List Rat := FoQ.trim ((List.range (max l.length m.length)).map fun i => FoQ.co l i + FoQ.co m i)
def psub (l m : List Rat) : List Rat := FoQ.trim ((List.range (max l.length m.length)).map fun i => FoQ.co l i - FoQ.co m i)
def pneg (l : List Rat) : List Rat := FoQ.trim ((List.range l.length).map fun i => -FoQ.co l i)
def spTermAt (K : PySem.W.Frag) : Sp := fun vs H Q _ => ∃ (t : Addr) (ws : List V) (l : List Rat) (i : Nat), vs = [.ref t, .int i] ∧ SqT K H t ws ∧ Ls (Rr K) H ws l ∧ ∀ b H', Same H H' → RtAt K H' b (FoQ.co l i) → Q (.ref b) H'
def spPTerms (K : PySem.W.Frag) : Sp := fun vs H Q _ => ∃ (a : Addr) (l : List Rat), vs = [.ref a] ∧ PolAt K H a l ∧ ∀ p H' ws, H p = none → Same H H' → H' p = some (.lst ws) → Ls (Rr K) H' ws l → Q (.ref p) H'
def spPLen (K : PySem.W.Frag) : Sp := fun vs H Q _ => ∃ (a : Addr) (l : List Rat), vs = [.ref a] ∧ PolAt K H a l ∧ Q (.int l.length) H
def spP2 (K : PySem.W.Frag) (f : List Rat → List Rat → List Rat) (n m : Nat) : Sp := fun vs H Q _ => ∃ (a b : Addr) (x z : List Rat), vs = [.ref a, .ref b] ∧ PolAt K H a x ∧ PolAt K H b z ∧ AllSz n x ∧ AllSz n z ∧ x.length ≤ m ∧ z.length ≤ m ∧
  ∀ p H', H p = none → Same H H' → PolAt K H' p (f x z) → Q (.ref p) H'
theorem sz1q : FoM.Sz 4000 1 := by
  unfold FoM.Sz
  exact Nat.one_lt_two_pow (by decide)
section
variable {P : Program} {w : World} {K : PySem.W.Frag} {mg : Str → Option Value} {base : Heap}
theorem ok_term_at (T : Tx K mg) : FnOk P w K mg base CX0 3 (He.ga K "_term_at") T.fd_term_at ["terms", "at"] (spTermAt K) := by
  refine T.F_term_at.ok sc_term_at (fun vs H Q E h => ?_) (fun cdv A outer s H vs Q E hr h => ?_)
  · obtain ⟨t, ws, l, i, rfl, _⟩ := h
    rfl
  · obtain ⟨t, ws, l, i, rfl, hS, hL, q⟩ := h
    obtain ⟨ds, vd, bd⟩ := bind_init1 T
    refine ⟨_, (pss_one (ps_ret (pe_ifExp (pt_cmpR op_lt (pv 1) (pe_callB call_len_seq (by rfl) T.z_len PySem.boot_len (pa_cons (pv 0) pa_nil)) (nomark _)) (pe_ix ix_tup (pv 0) (pv 1) (fun _ _ => rfl)) (pe_make T.mk_R (ok_initQ T) (hr.mono (by decide)) (by rfl) T.c_Ratio bd vd pass0 (pa_cons pe_int pa_nil))))), ?_⟩
    refine ⟨_, rfl, _, rfl, t, _, rfl, .inr hS, _, _, rfl, rfl, _, rfl, ite2 (fun e => ?_) (fun e => ?_)⟩
    · have hi : i < l.length := by
        have := of_decide_eq_true e
        rw [← hL.1]
        omega
      obtain ⟨v, ev, b, rfl, hb⟩ := hL.at_ hi
      exact ⟨_, rfl, _, rfl, t, _, _, _, rfl, rfl, hS, atI_nat ev, q b H (Same.refl H) hb⟩
    · have hi : l.length ≤ i := by
        have := of_decide_eq_false (Bool.eq_false_iff.mpr e)
        rw [← hL.1]
        omega
      exact rq_make (by decide) sz1q (FoQ.q_int 0) fun p H' np s hR => ⟨rfl, q p H' s (by rw [FoQ.co_ge hi]; exact hR)⟩
theorem ok_Pterms (T : Tx K mg) : FnOk P w K mg base CX0 1 (He.ma K (He.ga K "Polynomial") "terms") T.fd_Polynomial_terms ["self"] (spPTerms K) := by
  refine T.F_Polynomial_terms.ok sc_Polynomial_terms (fun vs H Q E h => ?_) (fun cdv A outer s H vs Q E hr h => ?_)
  · obtain ⟨a, l, rfl, _⟩ := h
    rfl
  · obtain ⟨a, l, rfl, ⟨dx, t, ws, e1, e2, e3⟩, q⟩ := h
    refine ⟨_, (pss_one (ps_ret (pe_callTy call_list_of (by rfl) T.z_list (by decide +kernel) (pa_cons (pe_fld (pv 0) rfl) pa_nil)))), ?_⟩
    refine ⟨_, rfl, a, _, dx, _, _, rfl, e1, T.cl_P, T.nT_P, pf_look _, t, ws, rfl, .inr (SqT.of e2), fun p np => ?_⟩
    exact q p _ ws np (Same.upd np) upd_same (e3.nl rr_solid (same_nl (Same.upd np)))
theorem ok_Plen (T : Tx K mg) : FnOk P w K mg base CX0 1 (He.ma K (He.ga K "Polynomial") "__len__") T.fd_Polynomial_len ["self"] (spPLen K) := by
  refine T.F_Polynomial_len.ok sc_Polynomial_len (fun vs H Q E h => ?_) (fun cdv A outer s H vs Q E hr h => ?_)
  · obtain ⟨a, l, rfl, _⟩ := h
    rfl
  · obtain ⟨a, l, rfl, ⟨dx, t, ws, e1, e2, e3⟩, q⟩ := h
    refine ⟨_, (pss_one (ps_ret (pe_callB call_len_seq (by rfl) T.z_len PySem.boot_len (pa_cons (pe_fld (pv 0) rfl) pa_nil)))), ?_⟩
    refine ⟨_, rfl, a, _, dx, _, _, rfl, e1, T.cl_P, T.nT_P, pf_look _, t, ws, rfl, .inr (SqT.of e2), ?_⟩
    show Q (.int ws.length) H
    rw [e3.1]
    exact q
theorem ok_Padd (T : Tx K mg) : FnOk P w K mg base CX0 6 (He.ma K (He.ga K "Polynomial") "__add__") T.fd_Polynomial_add ["self", "other"] (spP2 K padd 900 500) := by
  refine T.F_Polynomial_add.ok sc_Polynomial_add (fun vs H Q E h => ?_) (fun cdv A outer s H vs Q E hr h => ?_)
  · obtain ⟨a, b, x, z, rfl, _⟩ := h
    rfl
  · obtain ⟨a, b, x, z, rfl, ⟨dx, t, ws, e1, e2, e3⟩, ⟨dy, u, us, f1, f2, f3⟩, zx, zz, lx, lz, q⟩ := h
    refine ⟨_, (pss_cons (ps_set (i := 2) sc_Polynomial_add.nd rfl (.inl rfl) (pe_callB (call_max2 rfl) (by rfl) T.z_max (by decide +kernel) (pa_cons (pe_callB call_len_seq (by rfl) T.z_len PySem.boot_len (pa_cons (pe_fld (pv 0) rfl) pa_nil)) (pa_cons (pe_callB call_len_seq (by rfl) T.z_len PySem.boot_len (pa_cons (pe_fld (pv 1) rfl) pa_nil)) pa_nil))))
      (pss_one (ps_ret (pe_make T.mk_P (ok_Pinit T) (hr.mono (by decide)) (by rfl) T.c_Polynomial T.b_Polynomial_init .nil pass0 (pa_cons (pe_lc (own := [("at", 3)]) (g := gName 3) rfl sc_Polynomial_add.nd (pi_range1 (by rfl) T.z_range (pa_cons (pv 2) pa_nil)) (blkOk_by (own := [("at", 3)]) (N := ["self", "other", "many", "at"]) (sc := defScope s_Polynomial_add) (by decide +kernel)) (fun _ _ _ _ _ => (pg_name (i := 3) sc_Polynomial_add.nd rfl (.inl rfl))) (fun _ _ _ _ _ => pts_nil) (fun _ _ _ _ _ => (pe_op (FoA.op_own (ok_addQ T) (hr.mono (by decide)) T.b_Ratio_add pass0 T.bi_add FoN.int_add FoN.int_addR) (pe_call (ok_term_at T) (hr.mono (by decide)) (by rfl) T.g_term_at T.F_term_at.kp T.b_term_at .nil pass0 (pa_cons (FoK.pe_fldK (K' := K) (pv 0) (by rfl) rfl) (pa_cons (pv 3) pa_nil))) (pe_call (ok_term_at T) (hr.mono (by decide)) (by rfl) T.g_term_at T.F_term_at.kp T.b_term_at .nil pass0 (pa_cons (FoK.pe_fldK (K' := K) (pv 1) (by rfl) rfl) (pa_cons (pv 3) pa_nil)))))) pa_nil))))), ?_⟩
    refine ⟨_, rfl, a, _, dx, _, _, rfl, e1, T.cl_P, T.nT_P, pf_look _, t, ws, rfl, .inr (SqT.of e2), ?_⟩
    refine ⟨_, rfl, b, _, dy, _, _, rfl, f1, T.cl_P, T.nT_P, pf_look _, u, us, rfl, .inr (SqT.of f2), _, _, rfl, ?_⟩
    rw [show (if (us.length : Int) > (ws.length : Int) then (us.length : Int) else (ws.length : Int)) = ((max x.length z.length : Nat) : Int) from by rw [e3.1, f3.1]; split <;> omega]
    refine ⟨_, rfl, _, rfl, by omega, by omega, fun D nD => ?_⟩
    refine lc_range (LInv (fun j => Rr K (FoQ.co x j + FoQ.co z j)) H D) (LInv.start nD) (fun i H2 hi h => ?_) (fun H2 h => ?_)
    · have s0 := h.1
      have hi' : i < max x.length z.length := by omega
      refine ⟨rfl, _, rfl, a, _, dx, _, _, rfl, s0 _ _ e1, T.cl_P, T.nT_P, pf_look _, _, rfl, t, ws, x, i, by show [V.ref t, V.int (0 + (i : Int))] = _; rw [Int.zero_add], SqT.of (s0 _ _ e2), e3.nl rr_solid (same_nl s0), fun b1 H3 s3 hb1 => ?_⟩
      have s03 := s0.trans s3
      refine ⟨_, rfl, b, _, dy, _, _, rfl, s03 _ _ f1, T.cl_P, T.nT_P, pf_look _, _, rfl, u, us, z, i, by show [V.ref u, V.int (0 + (i : Int))] = _; rw [Int.zero_add], SqT.of (s03 _ _ f2), f3.nl rr_solid (same_nl s03), fun b2 H4 s4 hb2 => ?_⟩
      obtain ⟨d1, h1⟩ := hb1.same s4
      obtain ⟨d2, h2⟩ := id hb2
      exact ⟨b1, d1, _, rfl, h1, .inr ⟨b2, d2, _, rfl, h2⟩, b1, .ref b2, _, _, rfl, hb1.same s4, hb2.nm, trivial, (zx i).mono (by decide), (zz i).mono (by decide), fun p H5 np s5 hp => h.next (fun j => rr_solid _) nD (s3.trans (s4.trans s5)) ⟨p, rfl, hp⟩ (by omega)⟩
    · obtain ⟨s1, vs, ev, el, hv⟩ := h
      have ml : vs.length = max x.length z.length := by rw [el]; omega
      refine pq_make (l := (List.range (max x.length z.length)).map fun i => FoQ.co x i + FoQ.co z i) (.inl (SqL.of ev)) ⟨by rw [ml]; simp, fun j v e => ?_⟩ (by simp; omega) fun p H' np s2 hp => ⟨rfl, q p H' (s1.free np) (s1.trans s2) hp⟩
      have hj := (List.getElem?_eq_some_iff.mp e).1
      rw [FoQ.co_map, if_pos (by omega)]
      obtain ⟨b1, e2, h2⟩ := hv j v e
      exact .inl ⟨b1, e2, h2⟩
theorem ok_Psub (T : Tx K mg) : FnOk P w K mg base CX0 6 (He.ma K (He.ga K "Polynomial") "__sub__") T.fd_Polynomial_sub ["self", "other"] (spP2 K psub 900 500) := by
  refine T.F_Polynomial_sub.ok sc_Polynomial_sub (fun vs H Q E h => ?_) (fun cdv A outer s H vs Q E hr h => ?_)
  · obtain ⟨a, b, x, z, rfl, _⟩ := h
    rfl
  · obtain ⟨a, b, x, z, rfl, ⟨dx, t, ws, e1, e2, e3⟩, ⟨dy, u, us, f1, f2, f3⟩, zx, zz, lx, lz, q⟩ := h
    refine ⟨_, (pss_cons (ps_set (i := 2) sc_Polynomial_sub.nd rfl (.inl rfl) (pe_callB (call_max2 rfl) (by rfl) T.z_max (by decide +kernel) (pa_cons (pe_callB call_len_seq (by rfl) T.z_len PySem.boot_len (pa_cons (pe_fld (pv 0) rfl) pa_nil)) (pa_cons (pe_callB call_len_seq (by rfl) T.z_len PySem.boot_len (pa_cons (pe_fld (pv 1) rfl) pa_nil)) pa_nil))))
      (pss_one (ps_ret (pe_make T.mk_P (ok_Pinit T) (hr.mono (by decide)) (by rfl) T.c_Polynomial T.b_Polynomial_init .nil pass0 (pa_cons (pe_lc (own := [("at", 3)]) (g := gName 3) rfl sc_Polynomial_sub.nd (pi_range1 (by rfl) T.z_range (pa_cons (pv 2) pa_nil)) (blkOk_by (own := [("at", 3)]) (N := ["self", "other", "many", "at"]) (sc := defScope s_Polynomial_sub) (by decide +kernel)) (fun _ _ _ _ _ => (pg_name (i := 3) sc_Polynomial_sub.nd rfl (.inl rfl))) (fun _ _ _ _ _ => pts_nil) (fun _ _ _ _ _ => (pe_op (FoA.op_own (ok_subQ T) (hr.mono (by decide)) T.b_Ratio_sub pass0 T.bi_sub FoN.int_sub FoN.int_subR) (pe_call (ok_term_at T) (hr.mono (by decide)) (by rfl) T.g_term_at T.F_term_at.kp T.b_term_at .nil pass0 (pa_cons (FoK.pe_fldK (K' := K) (pv 0) (by rfl) rfl) (pa_cons (pv 3) pa_nil))) (pe_call (ok_term_at T) (hr.mono (by decide)) (by rfl) T.g_term_at T.F_term_at.kp T.b_term_at .nil pass0 (pa_cons (FoK.pe_fldK (K' := K) (pv 1) (by rfl) rfl) (pa_cons (pv 3) pa_nil)))))) pa_nil))))), ?_⟩
    refine ⟨_, rfl, a, _, dx, _, _, rfl, e1, T.cl_P, T.nT_P, pf_look _, t, ws, rfl, .inr (SqT.of e2), ?_⟩
    refine ⟨_, rfl, b, _, dy, _, _, rfl, f1, T.cl_P, T.nT_P, pf_look _, u, us, rfl, .inr (SqT.of f2), _, _, rfl, ?_⟩
    rw [show (if (us.length : Int) > (ws.length : Int) then (us.length : Int) else (ws.length : Int)) = ((max x.length z.length : Nat) : Int) from by rw [e3.1, f3.1]; split <;> omega]
    refine ⟨_, rfl, _, rfl, by omega, by omega, fun D nD => ?_⟩
    refine lc_range (LInv (fun j => Rr K (FoQ.co x j - FoQ.co z j)) H D) (LInv.start nD) (fun i H2 hi h => ?_) (fun H2 h => ?_)
    · have s0 := h.1
      have hi' : i < max x.length z.length := by omega
      refine ⟨rfl, _, rfl, a, _, dx, _, _, rfl, s0 _ _ e1, T.cl_P, T.nT_P, pf_look _, _, rfl, t, ws, x, i, by show [V.ref t, V.int (0 + (i : Int))] = _; rw [Int.zero_add], SqT.of (s0 _ _ e2), e3.nl rr_solid (same_nl s0), fun b1 H3 s3 hb1 => ?_⟩
      have s03 := s0.trans s3
      refine ⟨_, rfl, b, _, dy, _, _, rfl, s03 _ _ f1, T.cl_P, T.nT_P, pf_look _, _, rfl, u, us, z, i, by show [V.ref u, V.int (0 + (i : Int))] = _; rw [Int.zero_add], SqT.of (s03 _ _ f2), f3.nl rr_solid (same_nl s03), fun b2 H4 s4 hb2 => ?_⟩
      obtain ⟨d1, h1⟩ := hb1.same s4
      obtain ⟨d2, h2⟩ := id hb2
      exact ⟨b1, d1, _, rfl, h1, .inr ⟨b2, d2, _, rfl, h2⟩, b1, .ref b2, _, _, rfl, hb1.same s4, hb2.nm, trivial, (zx i).mono (by decide), (zz i).mono (by decide), fun p H5 np s5 hp => h.next (fun j => rr_solid _) nD (s3.trans (s4.trans s5)) ⟨p, rfl, hp⟩ (by omega)⟩
    · obtain ⟨s1, vs, ev, el, hv⟩ := h
      have ml : vs.length = max x.length z.length := by rw [el]; omega
      refine pq_make (l := (List.range (max x.length z.length)).map fun i => FoQ.co x i - FoQ.co z i) (.inl (SqL.of ev)) ⟨by rw [ml]; simp, fun j v e => ?_⟩ (by simp; omega) fun p H' np s2 hp => ⟨rfl, q p H' (s1.free np) (s1.trans s2) hp⟩
      have hj := (List.getElem?_eq_some_iff.mp e).1
      rw [FoQ.co_map, if_pos (by omega)]
      obtain ⟨b1, e2, h2⟩ := hv j v e
      exact .inl ⟨b1, e2, h2⟩
end

end Fo

set_option maxHeartbeats 4100000
namespace Fo
open PySem PySem.Spec PyProof.Rows L2
/-! ### the product of whole polynomials -/
def spWProd (K : PySem.W.Frag) : Sp := fun vs H Q _ => ∃ (a b : Addr) (xs ys : List Int), vs = [.ref a, .ref b] ∧ H a = some (.lst (intV xs)) ∧ H b = some (.lst (intV ys)) ∧ xs.length ≤ 20 ∧ ys.length ≤ 20 ∧ (∀ i, FoM.Sz 950 (xs.getD i 0)) ∧ (∀ i, FoM.Sz 950 (ys.getD i 0)) ∧
  ∀ p H' zs, H p = none → Same H H' → H' p = some (.lst (intV zs)) → (∀ n, FoQ.ci zs n = FoQ.S (FoQ.ci xs) (FoQ.ci ys) xs.length n) → (∀ n, FoM.Sz 2400 (zs.getD n 0)) → zs.length ≤ 50 → Q (.ref p) H'
theorem intV_set (xs : List Int) (i : Nat) (v : Int) : (intV xs).set i (.int v) = intV (xs.set i v) := by
  unfold intV
  rw [List.map_set]
section
variable {P : Program} {w : World} {K : PySem.W.Frag} {mg : Str → Option Value} {base : Heap}
theorem ok_wprod (T : Tx K mg) : FnOk P w K mg base CX0 1 (He.ga K "whole_product") T.fd_whole_product ["one", "other"] (spWProd K) := by
  refine T.F_whole_product.ok sc_whole_product (fun vs H Q E h => ?_) (fun cdv A outer s H vs Q E hr h => ?_)
  · obtain ⟨a, b, xs, ys, rfl, _⟩ := h
    rfl
  · obtain ⟨a, b, xs, ys, rfl, ha, hb, lx, ly, zx, zy, q⟩ := h
    refine ⟨_, (pss_cons (ps_if (PW.pt (pw_or (pt_cmpR op_eq (pe_callB call_len_seq (by rfl) T.z_len PySem.boot_len (pa_cons (pv 0) pa_nil)) pe_int (nomark _)) (pw_or1 (pt_cmpR op_eq (pe_callB call_len_seq (by rfl) T.z_len PySem.boot_len (pa_cons (pv 1) pa_nil)) pe_int (nomark _))))) (pss_one (ps_ret (pe_lst pa_nil))) pss_nil)
      (pss_cons (ps_setLc (i := 3) (own := [("_", 2)]) (g := gName 2) rfl sc_whole_product.nd rfl rfl (sw_true rfl rfl rfl (by decide +kernel)) (pi_range1 (by rfl) T.z_range (pa_cons (pe_op op_sub (pe_op op_add (pe_callB call_len_seq (by rfl) T.z_len PySem.boot_len (pa_cons (pv 0) pa_nil)) (pe_callB call_len_seq (by rfl) T.z_len PySem.boot_len (pa_cons (pv 1) pa_nil))) pe_int) pa_nil)) (blkOk_by (own := [("_", 2)]) (N := ["one", "other", "_", "found", "start", "factor", "at", "term"]) (sc := defScope s_whole_product) (by decide +kernel)) (fun _ _ _ _ _ => (pg_name (i := 2) sc_whole_product.nd rfl (.inl rfl))) (fun _ _ _ _ _ => pts_nil) (fun _ _ _ _ _ => pe_int))
      (pss_cons (ps_for PassesOwn.never rfl (pi_enum (by rfl) T.z_enumerate (pa_cons (pv 0) pa_nil)) (pg_tup (by rfl) (pgs_cons (pg_name (i := 4) sc_whole_product.nd rfl (.inl rfl)) (pgs_cons (pg_name (i := 5) sc_whole_product.nd rfl (.inl rfl)) pgs_nil))) (pss_one (ps_for PassesOwn.never rfl (pi_enum (by rfl) T.z_enumerate (pa_cons (pv 1) pa_nil)) (pg_tup (by rfl) (pgs_cons (pg_name (i := 6) sc_whole_product.nd rfl (.inl rfl)) (pgs_cons (pg_name (i := 7) sc_whole_product.nd rfl (.inl rfl)) pgs_nil))) (pss_one (ps_asg (pe_op op_add (pe_ix ix_list (pv 3) (pe_op op_add (pv 4) (pv 6)) (fun _ _ => rfl)) (pe_op op_mulW (pv 5) (pv 7))) (pg_sub (pv 3) (pe_op op_add (pv 4) (pv 6)) set_list))))))
      (pss_one (ps_ret (pv 3)))))), ?_⟩
    have empty : (xs.length = 0 ∨ ys.length = 0) → ∀ p, H p = none → Q (.ref p) (upd H p (.lst [])) := fun h p np => by
      refine q p _ [] np (Same.upd np) upd_same (fun n => ?_) (fun n => by rw [show ([] : List Int).getD n 0 = 0 by simp]; exact sz_0) (by simp)
      have e0 : FoQ.ci [] n = 0 := FoQ.ci_ge (by simp)
      rw [e0]
      rcases h with h | h
      · rw [h]
        rfl
      · exact (FoQ.S_zero (fun i => FoQ.ci_ge (by omega)) _ _).symm
    refine ⟨_, rfl, a, _, rfl, .inl (SqL.of ha), rfl, _, rfl, ite2 (fun e => ?_) (fun e => ?_)⟩
    · have h0 : xs.length = 0 := by
        have := V.int.inj (of_decide_eq_true e)
        rw [intV_len] at this
        omega
      exact ⟨(by show 0 ≤ sizeLine; rw [sizeLine_eq]; decide), fun p np => empty (.inl h0) p np⟩
    refine ⟨_, rfl, b, _, rfl, .inl (SqL.of hb), rfl, _, rfl, ite2 (fun e2 => ?_) (fun e2 => ?_)⟩
    · have h0 : ys.length = 0 := by
        have := V.int.inj (of_decide_eq_true e2)
        rw [intV_len] at this
        omega
      exact ⟨(by show 0 ≤ sizeLine; rw [sizeLine_eq]; decide), fun p np => empty (.inr h0) p np⟩
    have nx : 0 < xs.length := by
      rcases Nat.eq_zero_or_pos xs.length with z | z
      · exact absurd (decide_eq_true (show V.int ((intV xs).length : Int) = V.int 0 by rw [intV_len, z]; rfl)) e
      · exact z
    have ny : 0 < ys.length := by
      rcases Nat.eq_zero_or_pos ys.length with z | z
      · exact absurd (decide_eq_true (show V.int ((intV ys).length : Int) = V.int 0 by rw [intV_len, z]; rfl)) e2
      · exact z
    refine ⟨_, rfl, a, _, rfl, .inl (SqL.of ha), _, rfl, b, _, rfl, .inl (SqL.of hb), _, _, rfl, rfl, _, _, rfl, rfl, ?_⟩
    refine ⟨((xs.length + ys.length - 1 : Nat) : Int), ?_, by omega, by omega, fun D nD => ?_⟩
    · show [V.int (((intV xs).length : Int) + ((intV ys).length : Int) - 1)] = _
      rw [intV_len, intV_len, show (xs.length : Int) + (ys.length : Int) - 1 = ((xs.length + ys.length - 1 : Nat) : Int) by omega]
    refine lc_range (LInv (fun j H v => v = .int 0) H D) (LInv.start nD) (fun i H2 hi h => ⟨rfl, h.next (fun j => @fun _ _ _ _ q => q) nD (Same.refl _) rfl (by omega)⟩) (fun H2 h => ?_)
    obtain ⟨s2, us, eD, el, hu⟩ := h
    have el' : us.length = xs.length + ys.length - 1 := by rw [el]; omega
    have us0 : us = intV (List.replicate (xs.length + ys.length - 1) 0) := by
      refine List.ext_getElem? fun j => ?_
      by_cases c : j < us.length
      · rw [List.getElem?_eq_getElem c, hu j _ (List.getElem?_eq_getElem c), intV_at (by simp; omega), List.getD_eq_getElem?_getD, List.getElem?_replicate, if_pos (by omega)]
        rfl
      · rw [List.getElem?_eq_none (by omega), List.getElem?_eq_none (by rw [intV_len]; simp; omega)]
    subst us0
    have ne : ∀ {c : Addr} {o : HO}, H c = some o → c ≠ D := fun h z => by rw [z, nD] at h; cases h
    refine ⟨_, rfl, a, _, rfl, SqL.of (s2 _ _ ha), ?_⟩
    refine for_it walk_enum (fun j σ H' => Same H H' ∧ ∃ cs o1 o2 o3 o4 o5, σ = [some (.ref a), some (.ref b), o1, some (.ref D), o2, o3, o4, o5] ∧ H' D = some (.lst (intV cs)) ∧ cs.length = xs.length + ys.length - 1 ∧ (∀ n, n < cs.length → FoQ.ci cs n = FoQ.S (FoQ.ci xs) (FoQ.ci ys) j n) ∧ ∀ n, FoM.Sz (1901 + j * ys.length) (cs.getD n 0)) ?_ (fun i σ H' _ h => SqL.of (h.1 _ _ ha)) ?_ ?_
    · refine ⟨s2, List.replicate (xs.length + ys.length - 1) 0, none, none, none, none, none, rfl, eD, by simp, fun n _ => FoQ.ci_rep n _, fun n => ?_⟩
      rw [show (List.replicate (xs.length + ys.length - 1) (0 : Int)).getD n 0 = 0 by rw [List.getD_eq_getElem?_getD, List.getElem?_replicate]; split <;> rfl]
      exact sz_0
    · rintro j v σ H2' H3 hj ⟨s3, cs, o1, o2, o3, o4, o5, rfl, hD, cl, hc, zc⟩ ⟨t1, x1, y1, rfl, nt1, rfl, hx1, hy1⟩
      rw [intV_len] at hj
      cases hx1
      obtain ⟨_, rfl⟩ := intV_some hy1
      have hD3 : ∀ {o : HO}, upd H2' t1 o D = some (.lst (intV cs)) := fun {o} => by
        rw [upd_ne (ne_of_none hD nt1)]
        exact hD
      have s4 : Same H (upd H2' t1 (.tup [.int j, .int (xs.getD j 0)])) := s3.trans (Same.upd nt1)
      refine ⟨t1, _, rfl, SqT.of upd_same, rfl, _, _, rfl, _, _, rfl, rfl, ?_⟩
      refine ⟨_, rfl, b, _, rfl, SqL.of (s4 _ _ hb), ?_⟩
      refine for_it walk_enum (fun k σ H' => Same H H' ∧ ∃ cs o1 o6 o7, σ = [some (.ref a), some (.ref b), o1, some (.ref D), some (.int j), some (.int (xs.getD j 0)), o6, o7] ∧ H' D = some (.lst (intV cs)) ∧ cs.length = xs.length + ys.length - 1 ∧ (∀ n, n < cs.length → FoQ.ci cs n = FoQ.SP (FoQ.ci xs) (FoQ.ci ys) j k n) ∧ ∀ n, FoM.Sz (1901 + j * ys.length + k) (cs.getD n 0)) ?_ (fun i σ H' _ h => SqL.of (h.1 _ _ hb)) ?_ ?_
      · exact ⟨s4, cs, _, _, _, rfl, hD3, cl, fun n hn => by rw [FoQ.SP_zero]; exact hc n hn, zc⟩
      · rintro k v σ H5 H6 hk ⟨s5, cs, o1, o6, o7, rfl, hD, cl, hc, zc⟩ ⟨t2, x2, y2, rfl, nt2, rfl, hx2, hy2⟩
        rw [intV_len] at hk
        cases hx2
        obtain ⟨_, rfl⟩ := intV_some hy2
        have hD6 : ∀ {o : HO}, upd H5 t2 o D = some (.lst (intV cs)) := fun {o} => by
          rw [upd_ne (ne_of_none hD nt2)]
          exact hD
        have jk : j + k < cs.length := by omega
        have e1 : ((j : Int) + (k : Int)) = ((j + k : Nat) : Int) := by omega
        have zm := (zx j).mul (zy k)
        refine ⟨t2, _, rfl, SqT.of upd_same, rfl, _, _, rfl, _, _, rfl, rfl, ?_⟩
        refine ⟨_, rfl, _, rfl, _, rfl, _, _, rfl, rfl, D, _, _, _, rfl, rfl, SqL.of hD6, by rw [e1]; exact atI_nat (intV_at jk), ?_⟩
        refine ⟨_, rfl, _, rfl, _, _, rfl, rfl, FoM.Sz.mulok (zx j) (zy k), _, _, rfl, rfl, ?_⟩

        refine ⟨_, rfl, _, rfl, _, rfl, _, _, rfl, rfl, D, _, _, j + k, rfl, rfl, hD6, ?_, ?_⟩
        · rw [e1, intV_len]
          unfold ixN
          rw [if_pos (by omega), if_pos (by omega), Int.toNat_natCast]
        · refine ⟨same_set (s5.trans (Same.upd nt2)) nD, cs.set (j + k) (cs.getD (j + k) 0 + xs.getD j 0 * ys.getD k 0), _, _, _, rfl, ?_, by rw [List.length_set]; exact cl, fun n hn => ?_, fun n => ?_⟩
          · rw [upd_same, intV_set]
          · rw [List.length_set] at hn
            rw [FoQ.ci_set jk]
            split
            · rename_i e
              rw [e, FoQ.SP_here, ← hc (j + k) jk, Rat.intCast_add, Rat.intCast_mul]
              rfl
            · rename_i e
              rw [FoQ.SP_else e]
              exact hc n hn
          · rw [FoQ.getD_set jk]
            split
            · exact (zc (j + k)).add ((zm.mono (by omega)))
            · exact (zc n).mono (by omega)
      · rintro σ H5 ⟨s5, cs, o1, o6, o7, rfl, hD, cl, hc, zc⟩
        rw [intV_len] at hc zc
        refine ⟨s5, cs, _, _, _, _, _, rfl, hD, cl, fun n hn => ?_, fun n => ?_⟩
        · rw [hc n hn, FoQ.SP_done (fun m hm => FoQ.ci_ge hm)]
        · have := zc n
          rw [show 1901 + j * ys.length + ys.length = 1901 + (j + 1) * ys.length by rw [Nat.succ_mul]; omega] at this
          exact this
    · rintro σ H5 ⟨s5, cs, o1, o2, o3, o4, o5, rfl, hD, cl, hc, zc⟩
      rw [intV_len] at hc zc
      refine ⟨_, rfl, q D H5 cs nD s5 hD (fun n => ?_) (fun n => ?_) (by omega)⟩
      · by_cases hn : n < cs.length
        · exact hc n hn
        · rw [FoQ.ci_ge (by omega), FoQ.S_far (m := ys.length) (fun i hi => FoQ.ci_ge hi) _ _ (by omega)]
      · refine (zc n).mono ?_
        have : xs.length * ys.length ≤ 20 * 20 := Nat.mul_le_mul lx ly
        omega
end

end Fo

set_option maxHeartbeats 4100000
namespace Fo
open PySem PySem.Spec PyProof.Rows L2
/-! ### products, values, derivatives, equality -/
def pslope (l : List Rat) : List Rat := FoQ.trim (((List.range l.length).map fun i => FoQ.co l i * ((i : Int) : Rat)).drop 1)
def spPWorth (K : PySem.W.Frag) : Sp := fun vs H Q _ => ∃ (a : Addr) (y : V) (l : List Rat) (x : Rat), vs = [.ref a, y] ∧ PolAt K H a l ∧ NmV K H y x ∧ AllSz 78 l ∧ FoQ.SzR 20 x ∧ l.length ≤ 18 ∧ ∀ p H', Same H H' → RtAt K H' p (FoQ.hor x l) → Q (.ref p) H'
theorem nl_same_upd {H : Hp} {p : Addr} {o : HO} (n : H p = none) : NLst H (upd H p o) := same_nl (Same.upd n)
theorem whole_szs9 {M : Nat} {l : List Rat} (h : AllSz 100 l) (g : FoM.Sz 800 (M : Int)) (i : Nat) : FoM.Sz 950 ((whole M l).getD i 0) := by
  rw [whole_getD]
  split
  · exact (FoQ.whole_sz (h i) g).mono (by decide)
  · exact sz_0
def spPMul (K : PySem.W.Frag) : Sp := fun vs H Q _ => ∃ (a b : Addr) (x z : List Rat), vs = [.ref a, .ref b] ∧ PolAt K H a x ∧ PolAt K H b z ∧ CD 100 x ∧ CD 100 z ∧ x.length ≤ 20 ∧ z.length ≤ 20 ∧
  ∀ p H', H p = none → Same H H' → PolAt K H' p (FoQ.prod x z) → Q (.ref p) H'
section
variable {P : Program} {w : World} {K : PySem.W.Frag} {mg : Str → Option Value} {base : Heap}
theorem ok_Pmul (T : Tx K mg) : FnOk P w K mg base CX0 6 (He.ma K (He.ga K "Polynomial") "__mul__") T.fd_Polynomial_mul ["self", "other"] (spPMul K) := by
  refine T.F_Polynomial_mul.ok sc_Polynomial_mul (fun vs H Q E h => ?_) (fun cdv A outer s H vs Q E hr h => ?_)
  · obtain ⟨a, b, x, z, rfl, _⟩ := h
    rfl
  · obtain ⟨a, b, x, z, rfl, ⟨dx, t, ws, e1, e2, e3⟩, ⟨dy, u, us, f1, f2, f3⟩, cx, cz, lx, lz, q⟩ := h
    have bx := cx.bd (by decide)
    have bz := cz.bd (by decide)
    have zx : AllSz 100 x := cx.sz
    have zz : AllSz 100 z := cz.sz
    refine ⟨_, (pss_cons (ps_asg (pe_tup (pa_cons (pe_call (ok_shared T) (hr.mono (by decide)) (by rfl) T.g_shared_bottom T.F_shared_bottom.kp T.b_shared_bottom .nil pass0 (pa_cons (pe_fld (pv 0) rfl) pa_nil)) (pa_cons (pe_call (ok_shared T) (hr.mono (by decide)) (by rfl) T.g_shared_bottom T.F_shared_bottom.kp T.b_shared_bottom .nil pass0 (pa_cons (pe_fld (pv 1) rfl) pa_nil)) pa_nil))) (pg_tup (by rfl) (pgs_cons (pg_name (i := 2) sc_Polynomial_mul.nd rfl (.inr rfl)) (pgs_cons (pg_name (i := 3) sc_Polynomial_mul.nd rfl (.inr rfl)) pgs_nil))))
      (pss_cons (ps_set (i := 4) sc_Polynomial_mul.nd rfl (.inl rfl) (pe_call (ok_wprod T) (hr.mono (by decide)) (by rfl) T.g_whole_product T.F_whole_product.kp T.b_whole_product .nil pass0 (pa_cons (pe_call (ok_mult T) (hr.mono (by decide)) (by rfl) T.g_multiplied T.F_multiplied.kp T.b_multiplied .nil pass0 (pa_cons (pe_fld (pv 0) rfl) (pa_cons (pv 2) pa_nil))) (pa_cons (pe_call (ok_mult T) (hr.mono (by decide)) (by rfl) T.g_multiplied T.F_multiplied.kp T.b_multiplied .nil pass0 (pa_cons (pe_fld (pv 1) rfl) (pa_cons (pv 3) pa_nil))) pa_nil))))
      (pss_one (ps_ret (pe_make T.mk_P (ok_Pinit T) (hr.mono (by decide)) (by rfl) T.c_Polynomial T.b_Polynomial_init .nil pass0 (pa_cons (pe_lc (own := [("term", 5)]) (g := gName 5) rfl sc_Polynomial_mul.nd (pi_list (pv 4)) (blkOk_by (own := [("term", 5)]) (N := ["self", "other", "mine", "theirs", "found", "term"]) (sc := defScope s_Polynomial_mul) (by decide +kernel)) (fun _ _ _ _ _ => (pg_name (i := 5) sc_Polynomial_mul.nd rfl (.inl rfl))) (fun _ _ _ _ _ => pts_nil) (fun _ _ _ _ _ => (pe_make T.mk_R (ok_initQ T) (hr.mono (by decide)) (by rfl) T.c_Ratio (bind_init2 T) .nil pass0 (pa_cons (pv 5) (pa_cons (pe_op op_mulW (pv 2) (pv 3)) pa_nil))))) pa_nil)))))), ?_⟩
    refine ⟨_, rfl, a, _, dx, _, _, rfl, e1, T.cl_P, T.nT_P, pf_look _, t, ws, x, rfl, .inr (SqT.of e2), e3, bx, lx, ?_⟩
    refine ⟨_, rfl, b, _, dy, _, _, rfl, f1, T.cl_P, T.nT_P, pf_look _, u, us, z, rfl, .inr (SqT.of f2), f3, bz, lz, ?_⟩
    have zM := lcmD_all bx lx
    have zT := lcmD_all bz lz
    have pM := FoQ.lcmD_pos x
    have pT := FoQ.lcmD_pos z
    refine ⟨(by show 2 ≤ sizeLine; rw [sizeLine_eq]; decide), fun t0 nt0 => ?_⟩
    refine ⟨t0, _, rfl, SqT.of upd_same, rfl, _, _, rfl, _, _, rfl, rfl, ?_⟩
    have s0 := Same.upd nt0 (o := .tup [.int (FoQ.lcmD x), .int (FoQ.lcmD z)])
    refine ⟨_, rfl, a, _, dx, _, _, rfl, s0 _ _ e1, T.cl_P, T.nT_P, pf_look _, _, rfl, t, ws, x, FoQ.lcmD x, rfl, .inr (SqT.of (s0 _ _ e2)), e3.nl rr_solid (same_nl s0), bx, lx, pM, zM, fun p1 H1 n1 s1 h1 => ?_⟩
    have s01 := s0.trans s1
    refine ⟨_, rfl, b, _, dy, _, _, rfl, s01 _ _ f1, T.cl_P, T.nT_P, pf_look _, _, rfl, u, us, z, FoQ.lcmD z, rfl, .inr (SqT.of (s01 _ _ f2)), f3.nl rr_solid (same_nl s01), bz, lz, pT, zT, fun p2 H2 n2 s2 h2 => ?_⟩
    refine ⟨p1, p2, whole (FoQ.lcmD x) x, whole (FoQ.lcmD z) z, rfl, s2 _ _ h1, h2, by rw [whole_len]; exact lx, by rw [whole_len]; exact lz, whole_szs9 zx zM, whole_szs9 zz zT, fun p3 H3 zs n3 s3 h3 hc hz hl => ?_⟩
    have s03 := s01.trans (s2.trans s3)
    have val : ∀ n, FoQ.ci zs n = FoQ.S (FoQ.co x) (FoQ.co z) x.length n * (((FoQ.lcmD x : Nat) : Int) * ((FoQ.lcmD z : Nat) : Int)) := fun n => by
      rw [hc n, whole_len, FoQ.S_congr (ci_whole fun i hi => FoQ.lcmD_dvd hi) (ci_whole fun i hi => FoQ.lcmD_dvd hi), FoQ.S_scale]
    refine ⟨_, rfl, p3, rfl, ⟨_, SqL.of h3⟩, fun D nD => ?_⟩
    refine lc_list (LInv (fun j => Rr K (FoQ.S (FoQ.co x) (FoQ.co z) x.length j)) H3 D) (LInv.start nD) (fun i H4 hi h => SqL.of (h.1 _ _ h3)) (fun i v H4 ex h => ?_) (fun H4 h => ?_)
    · obtain ⟨hi, rfl⟩ := intV_some ex
      refine ⟨rfl, _, rfl, _, rfl, _, rfl, _, _, rfl, rfl, FoM.Sz.mulok zM zT, rq_make (Int.mul_ne_zero (by omega) (by omega)) ((zM.mul zT).mono (by decide)) (FoQ.divInt_whole pM pT (val i)) fun b4 H5 n5 s5 hb5 => ⟨rfl, h.next (fun j => rr_solid _) nD s5 ⟨b4, rfl, hb5⟩ (by omega)⟩⟩
    · obtain ⟨s4, vs, ev, el, hv⟩ := h
      rw [intV_len] at el
      refine pq_make (l := (List.range zs.length).map (FoQ.S (FoQ.co x) (FoQ.co z) x.length)) (.inl (SqL.of ev)) ⟨by rw [el]; simp, fun j v e => ?_⟩ (by simp; omega) fun p H' np s5 hp => ⟨rfl, q p H' ((s03.trans s4).free np) ((s03.trans s4).trans s5) ?_⟩
      · have hj := (List.getElem?_eq_some_iff.mp e).1
        rw [FoQ.co_map, if_pos (by omega)]
        obtain ⟨b1, e2, h2⟩ := hv j v e
        exact .inl ⟨b1, e2, h2⟩
      · rw [FoQ.prod_of (l := (List.range zs.length).map (FoQ.S (FoQ.co x) (FoQ.co z) x.length)) (us := x) (vs := z) (fun n => rfl) (fun n => rfl) (fun n => ?_)] at hp
        · exact hp
        · rw [FoQ.co_map]
          split
          · rfl
          · have := val n
            rw [FoQ.ci_ge (by omega)] at this
            have m0 : (((FoQ.lcmD x : Nat) : Int) : Rat) ≠ 0 := fun c => by
              have : ((FoQ.lcmD x : Nat) : Int) = 0 := by exact_mod_cast c
              omega
            have t0 : (((FoQ.lcmD z : Nat) : Int) : Rat) ≠ 0 := fun c => by
              have : ((FoQ.lcmD z : Nat) : Int) = 0 := by exact_mod_cast c
              omega
            generalize (((FoQ.lcmD x : Nat) : Int) : Rat) = m at *
            generalize (((FoQ.lcmD z : Nat) : Int) : Rat) = t at *
            generalize FoQ.S (FoQ.co x) (FoQ.co z) x.length n = r at *
            grind
theorem ok_Pworth (T : Tx K mg) : FnOk P w K mg base CX0 6 (He.ma K (He.ga K "Polynomial") "worth") T.fd_Polynomial_worth ["self", "number"] (spPWorth K) := by
  refine T.F_Polynomial_worth.ok sc_Polynomial_worth (fun vs H Q E h => ?_) (fun cdv A outer s H vs Q E hr h => ?_)
  · obtain ⟨a, y, l, x, rfl, _⟩ := h
    rfl
  · obtain ⟨a, y, l, x, rfl, ⟨dx, t, ws, e1, e2, e3⟩, hy, zl, zx, ll, q⟩ := h
    obtain ⟨ds, vd, bd⟩ := bind_init1 T
    refine ⟨_, (pss_cons (ps_set (i := 2) sc_Polynomial_worth.nd rfl (.inl rfl) (pe_call (ok_asQ T) (hr.mono (by decide)) (by rfl) T.g_as_ratio T.F_as_ratio.kp T.b_as_ratio .nil pass0 (pa_cons (pv 1) pa_nil)))
      (pss_cons (ps_set (i := 3) sc_Polynomial_worth.nd rfl (.inl rfl) (pe_make T.mk_R (ok_initQ T) (hr.mono (by decide)) (by rfl) T.c_Ratio bd vd pass0 (pa_cons pe_int pa_nil)))
      (pss_cons (ps_for PassesOwn.never rfl (RT.pi_revA (by rfl) T.z_reversed (pe_fld (pv 0) rfl)) (pg_name (i := 4) sc_Polynomial_worth.nd rfl (.inl rfl)) (pss_one (ps_set (i := 3) sc_Polynomial_worth.nd rfl (.inl rfl) (pe_op (FoA.op_own (ok_addQ T) (hr.mono (by decide)) T.b_Ratio_add pass0 T.bi_add FoN.int_add FoN.int_addR) (pe_op (FoA.op_own (ok_mulQ T) (hr.mono (by decide)) T.b_Ratio_mul pass0 T.bi_mul FoN.int_mul FoN.int_mulR) (pv 3) (pv 2)) (pv 4)))))
      (pss_one (ps_ret (pv 3)))))), ?_⟩
    refine ⟨_, rfl, y, x, rfl, hy, fun b1 H1 s1 hb1 => ?_⟩
    refine rq_make (by decide) sz1q (FoQ.q_int 0) fun b2 H2 n2 s2 hb2 => ⟨rfl, ?_⟩
    have s02 := s1.trans s2
    refine ⟨_, rfl, a, _, dx, _, _, rfl, s02 _ _ e1, T.cl_P, T.nT_P, pf_look _, t, ws, rfl, .inr ⟨SqT.of (s02 _ _ e2), ?_⟩⟩
    refine for_it FoW.walk_revT (fun i σ H' => Same H2 H' ∧ ∃ b o, σ = [some (.ref a), some y, some (.ref b1), some (.ref b), o] ∧ RtAt K H' b (FoQ.hor x (l.drop (l.length - i)))) ⟨Same.refl _, b2, _, rfl, by rw [Nat.sub_zero, List.drop_length]; exact hb2⟩ (fun i σ H' _ h => SqT.of (h.1 _ _ (s02 _ _ e2))) ?_ ?_
    · rintro i v σ H' _ hi ⟨s3, b, o, rfl, hb⟩ ⟨rfl, hv⟩
      rw [e3.1] at hi hv
      obtain ⟨c, rfl, hc⟩ := (e3.nl rr_solid (same_nl (s02.trans s3))).2 _ _ hv
      obtain ⟨d0, g0⟩ := id hb
      obtain ⟨d1, g1⟩ := hb1.same (s2.trans s3)
      have zv := (FoQ.hor_sz zl zx i (by omega)).mono (show (78 + 20 + 1) * i + 1 ≤ 1816 by omega)
      refine ⟨_, rfl, _, rfl, b, d0, _, rfl, g0, .inr ⟨b1, d1, _, rfl, g1⟩, b, .ref b1, _, _, rfl, hb, (hb1.same (s2.trans s3)).nm, trivial, zv.mono (by decide), zx.mono (by decide), fun p3 H3 n3 s4 h3 => ?_⟩
      obtain ⟨d3, g3⟩ := id h3
      obtain ⟨d4, g4⟩ := hc.same s4
      refine ⟨_, rfl, p3, d3, _, rfl, g3, .inr ⟨c, d4, _, rfl, g4⟩, p3, .ref c, _, _, rfl, h3, (hc.same s4).nm, trivial, (zv.mul zx).mono (by decide), (zl _).mono (by decide), fun p4 H4 n4 s5 h4 => ?_⟩
      refine ⟨s3.trans (s4.trans s5), p4, _, rfl, ?_⟩
      rw [FoQ.hor_drop (by omega), show l.length - (i + 1) + 1 = l.length - i by omega, show l.length - (i + 1) = l.length - 1 - i by omega]
      exact h4
    · rintro σ H' ⟨s3, b, o, rfl, hb⟩
      rw [e3.1, Nat.sub_self, List.drop_zero] at hb
      exact ⟨_, rfl, q b H' (s02.trans s3) hb⟩
end

end Fo

set_option maxHeartbeats 4100000
namespace Fo
open PySem PySem.Spec PyProof.Rows L2
open FoWd
/-! ### values of polynomials -/
def pw (x : Rat) : Nat → Rat
  | 0 => 1
  | k + 1 => pw x k * x
def ev (x : Rat) (f : Nat → Rat) : Nat → Rat
  | 0 => 0
  | k + 1 => ev x f k + f k * pw x k
theorem ev_shift (x : Rat) (f : Nat → Rat) : ∀ n, ev x f (n + 1) = f 0 + x * ev x (fun i => f (i + 1)) n
  | 0 => by show 0 + f 0 * 1 = f 0 + x * 0; grind
  | n + 1 => by
    show ev x f (n + 1) + f (n + 1) * (pw x n * x) = f 0 + x * (ev x (fun i => f (i + 1)) n + f (n + 1) * pw x n)
    rw [ev_shift x f n]
    grind
theorem ev_more {x : Rat} {f : Nat → Rat} {k : Nat} (h : ∀ i, k ≤ i → f i = 0) : ∀ m, ev x f (k + m) = ev x f k
  | 0 => rfl
  | m + 1 => by
    show ev x f (k + m) + f (k + m) * pw x (k + m) = ev x f k
    rw [ev_more h m, h (k + m) (by omega)]
    grind
theorem ev_congr {x : Rat} {f g : Nat → Rat} : ∀ n, (∀ i, i < n → f i = g i) → ev x f n = ev x g n
  | 0, _ => rfl
  | n + 1, h => by
    show ev x f n + f n * pw x n = ev x g n + g n * pw x n
    rw [ev_congr n (fun i hi => h i (by omega)), h n (by omega)]
theorem hor_ev (x : Rat) : ∀ l : List Rat, FoQ.hor x l = ev x (FoQ.co l) l.length
  | [] => rfl
  | a :: l => by
    show FoQ.hor x l * x + a = ev x (FoQ.co (a :: l)) (l.length + 1)
    rw [ev_shift, hor_ev x l]
    show _ = a + x * ev x (fun i => FoQ.co l i) l.length
    grind
theorem hor_big (x : Rat) (l : List Rat) {K : Nat} (h : l.length ≤ K) : FoQ.hor x l = ev x (FoQ.co l) K := by
  rw [hor_ev, show K = l.length + (K - l.length) by omega, ev_more fun i hi => FoQ.co_ge hi]
theorem ev_add (x : Rat) (f g : Nat → Rat) : ∀ n, ev x (fun i => f i + g i) n = ev x f n + ev x g n
  | 0 => by show (0 : Rat) = 0 + 0; grind
  | n + 1 => by
    show ev x (fun i => f i + g i) n + (f n + g n) * pw x n = (ev x f n + f n * pw x n) + (ev x g n + g n * pw x n)
    rw [ev_add x f g n]
    grind
theorem ev_sub (x : Rat) (f g : Nat → Rat) : ∀ n, ev x (fun i => f i - g i) n = ev x f n - ev x g n
  | 0 => by show (0 : Rat) = 0 - 0; grind
  | n + 1 => by
    show ev x (fun i => f i - g i) n + (f n - g n) * pw x n = (ev x f n + f n * pw x n) - (ev x g n + g n * pw x n)
    rw [ev_sub x f g n]
    grind
theorem hor_padd (x : Rat) (l m : List Rat) : FoQ.hor x (padd l m) = FoQ.hor x l + FoQ.hor x m := by
  unfold padd
  rw [FoQ.hor_trim, hor_big x l (Nat.le_max_left l.length m.length), hor_big x m (Nat.le_max_right l.length m.length), ← ev_add, hor_ev, List.length_map, List.length_range]
  exact ev_congr _ fun i hi => by rw [FoQ.co_map, if_pos hi]
theorem hor_psub (x : Rat) (l m : List Rat) : FoQ.hor x (psub l m) = FoQ.hor x l - FoQ.hor x m := by
  unfold psub
  rw [FoQ.hor_trim, hor_big x l (Nat.le_max_left l.length m.length), hor_big x m (Nat.le_max_right l.length m.length), ← ev_sub, hor_ev, List.length_map, List.length_range]
  exact ev_congr _ fun i hi => by rw [FoQ.co_map, if_pos hi]
theorem pw_add (x : Rat) (j : Nat) : ∀ k, pw x (j + k) = pw x j * pw x k
  | 0 => by show pw x j = pw x j * 1; grind
  | k + 1 => by
    show pw x (j + k) * x = pw x j * (pw x k * x)
    rw [pw_add x j k]
    grind
theorem ev_from (x c : Rat) (g : Nat → Rat) (j : Nat) : ∀ k, ev x (fun n => if j ≤ n then c * g (n - j) else 0) (j + k) = c * pw x j * ev x g k
  | 0 => by
    have z : ∀ k, k ≤ j → ev x (fun n => if j ≤ n then c * g (n - j) else 0) k = 0 := by
      intro k
      induction k with
      | zero => intro _; rfl
      | succ k ih =>
        intro h
        show ev x _ k + (if j ≤ k then c * g (k - j) else 0) * pw x k = 0
        rw [ih (by omega), if_neg (by omega)]
        grind
    rw [Nat.add_zero, z j (Nat.le_refl _)]
    show (0 : Rat) = c * pw x j * 0
    grind
  | k + 1 => by
    show ev x _ (j + k) + (if j ≤ j + k then c * g (j + k - j) else 0) * pw x (j + k) = c * pw x j * (ev x g k + g k * pw x k)
    have e := pw_add x j k
    rw [ev_from x c g j k, if_pos (by omega), Nat.add_sub_cancel_left, e]
    grind
theorem ev_S (x : Rat) (f g : Nat → Rat) (M : Nat) (hg : ∀ i, M ≤ i → g i = 0) : ∀ j K, j + M ≤ K → ev x (FoQ.S f g j) K = ev x f j * ev x g M
  | 0, K, _ => by
    have z : ∀ k, ev x (FoQ.S f g 0) k = 0 := by
      intro k
      induction k with
      | zero => rfl
      | succ k ih =>
        show ev x (FoQ.S f g 0) k + 0 * pw x k = 0
        rw [ih]
        grind
    rw [z K]
    show (0 : Rat) = 0 * _
    grind
  | j + 1, K, h => by
    have e : ev x (FoQ.S f g (j + 1)) K = ev x (FoQ.S f g j) K + ev x (fun n => if j ≤ n then f j * g (n - j) else 0) K := by
      rw [← ev_add]
      rfl
    obtain ⟨k, rfl⟩ : ∃ k, K = j + (M + k) := ⟨K - j - M, by omega⟩
    rw [e, ev_S x f g M hg j _ (by omega), ev_from, ev_more hg]
    show _ = (ev x f j + f j * pw x j) * ev x g M
    grind
theorem hor_prod (x : Rat) (l m : List Rat) : FoQ.hor x (FoQ.prod l m) = FoQ.hor x l * FoQ.hor x m := by
  unfold FoQ.prod
  rw [FoQ.hor_trim, hor_ev x l, hor_ev x m, ← ev_S x (FoQ.co l) (FoQ.co m) m.length (fun i hi => FoQ.co_ge hi) l.length (l.length + m.length) (Nat.le_refl _), hor_ev, List.length_map, List.length_range]
  exact ev_congr _ fun i hi => by rw [FoQ.co_map, if_pos hi]
/-! ### sizes of polynomials -/
def PO (N B : Nat) (l : List Rat) : Prop := ∀ i, Ov N B (FoQ.co l i)
theorem PO.mono {N B C : Nat} {l : List Rat} (h : PO N B l) (le : B ≤ C) : PO N C l := fun i => (h i).mono le
theorem PO.cd {N B : Nat} {l : List Rat} (h : PO N B l) (n0 : 0 < N) (n1 : N < 2 ^ 100) (b1 : B < 2 ^ 100) : CD 100 l := ⟨N, n0, n1, fun i => let ⟨z, e1, e2⟩ := h i; ⟨z, by omega, e2⟩⟩
theorem PO.sz {N B k : Nat} {l : List Rat} (h : PO N B l) (n0 : 0 < N) (n1 : N < 2 ^ k) (b1 : B < 2 ^ k) : AllSz k l := fun i => (h i).sz n0 n1 b1
theorem po_padd {N B C : Nat} {l m : List Rat} (h : PO N B l) (g : PO N C m) : PO N (B + C) (padd l m) := fun i => by
  unfold padd
  rw [FoQ.trim_co, FoQ.co_map]
  split
  · exact (h i).add (g i)
  · exact Ov.zero
theorem po_psub {N B C : Nat} {l m : List Rat} (h : PO N B l) (g : PO N C m) : PO N (B + C) (psub l m) := fun i => by
  unfold psub
  rw [FoQ.trim_co, FoQ.co_map]
  split
  · rw [Rat.sub_eq_add_neg]
    exact (h i).add (g i).neg
  · exact Ov.zero
theorem ov_S {N B M C : Nat} {f g : Nat → Rat} (h : ∀ i, Ov N B (f i)) (k : ∀ i, Ov M C (g i)) (n : Nat) : ∀ j, Ov (N * M) (j * (B * C)) (FoQ.S f g j n)
  | 0 => Ov.zero
  | j + 1 => by
    show Ov _ _ (FoQ.S f g j n + (if j ≤ n then f j * g (n - j) else 0))
    rw [Nat.succ_mul]
    refine (ov_S h k n j).add ?_
    split
    · exact (h j).mul (k _)
    · exact Ov.zero
theorem po_prod {N B M C L : Nat} {l m : List Rat} (h : PO N B l) (g : PO M C m) (hl : l.length ≤ L) : PO (N * M) (L * (B * C)) (FoQ.prod l m) := fun i => by
  unfold FoQ.prod
  rw [FoQ.trim_co, FoQ.co_map]
  split
  · exact (ov_S h g i l.length).mono (Nat.mul_le_mul_right _ hl)
  · exact Ov.zero
theorem padd_len (l m : List Rat) : (padd l m).length ≤ max l.length m.length := Nat.le_trans (FoQ.trim_len _) (by simp)
theorem psub_len (l m : List Rat) : (psub l m).length ≤ max l.length m.length := Nat.le_trans (FoQ.trim_len _) (by simp)
theorem prod_len (l m : List Rat) : (FoQ.prod l m).length ≤ l.length + m.length := Nat.le_trans (FoQ.trim_len _) (by simp)
/-- the numbers of the rows that begin with b, from the length s on, each second -/
def fac (ps : Ps) (b : Bool) (s : Nat) (k : Nat) : List Rat := FoQ.trim ((List.range k).map fun i => coef ps (alt b (s + 2 * i)))
/-! ### values on a plane -/
theorem ent2 {A B : List (List Rat)} (sA : SqN 2 A) (sB : SqN 2 B) {i j : Nat} (hi : i < 2) (hj : j < 2) : ent (tmul A B) i j = ent A i 0 * ent B 0 j + ent A i 1 * ent B 1 j := by
  rw [tmul_tab sA sB, ent_tab hi hj]
  show (0 + ent A i 0 * ent B 0 j) + ent A i 1 * ent B 1 j = _
  grind
theorem sq_one (x : Rat) : pcos x * pcos x + psin x * psin x = 1 := by
  unfold pcos psin
  have h := sq_pos x
  have e : (1 - x * x) * (1 - x * x) + x * 2 * (x * 2) = (x * x + 1) * (x * x + 1) := by grind
  rw [Rat.div_def, Rat.div_def]
  have i1 : (x * x + 1) * (x * x + 1)⁻¹ = 1 := Rat.mul_inv_cancel _ h
  grind
theorem ent_pl (x : Rat) : ent planeP 0 0 = 1 ∧ ent planeP 0 1 = 0 ∧ ent planeP 1 0 = 0 ∧ ent planeP 1 1 = 0 ∧ ent (planeQ x) 0 0 = pcos x * pcos x ∧ ent (planeQ x) 0 1 = pcos x * psin x ∧ ent (planeQ x) 1 0 = pcos x * psin x ∧ ent (planeQ x) 1 1 = psin x * psin x := ⟨rfl, rfl, rfl, rfl, rfl, rfl, rfl, rfl⟩
theorem two_ij {i : Nat} (h : i < 2) : i = 0 ∨ i = 1 := by omega
/-- a word two letters longer -/
theorem word_next (x : Rat) (b : Bool) (k : Nat) {i j : Nat} (hi : i < 2) (hj : j < 2) : ent (prodW 2 planeP (planeQ x) (alt b (k + 3))) i j = pcos x * pcos x * ent (prodW 2 planeP (planeQ x) (alt b (k + 1))) i j := by
  have sP : SqN 2 planeP := planeP_sq
  have sQ : SqN 2 (planeQ x) := planeQ_sq x
  have sZ : ∀ w, SqN 2 (prodW 2 planeP (planeQ x) w) := prodW_sq sP sQ
  obtain ⟨p00, p01, p10, p11, q00, q01, q10, q11⟩ := ent_pl x
  have one := sq_one x
  cases b with
  | true =>
    show ent (tmul planeP (tmul (planeQ x) (tmul planeP (prodW 2 planeP (planeQ x) (alt false k))))) i j = pcos x * pcos x * ent (tmul planeP (prodW 2 planeP (planeQ x) (alt false k))) i j
    have s1 := sP.mul (sZ (alt false k))
    rw [ent2 sP (sQ.mul s1) hi hj, ent2 sQ s1 (by decide) hj, ent2 sQ s1 (by decide) hj, ent2 sP (sZ _) (by decide) hj, ent2 sP (sZ _) (by decide) hj, ent2 sP (sZ _) hi hj]
    rcases two_ij hi with rfl | rfl
    · rw [p00, p01, p10, p11, q00, q01, q10, q11]
      grind
    · rw [p00, p01, p10, p11, q00, q01, q10, q11]
      grind
  | false =>
    show ent (tmul (planeQ x) (tmul planeP (tmul (planeQ x) (prodW 2 planeP (planeQ x) (alt true k))))) i j = pcos x * pcos x * ent (tmul (planeQ x) (prodW 2 planeP (planeQ x) (alt true k))) i j
    have s1 := sQ.mul (sZ (alt true k))
    rw [ent2 sQ (sP.mul s1) hi hj, ent2 sP s1 (by decide) hj, ent2 sP s1 (by decide) hj, ent2 sQ (sZ _) (by decide) hj, ent2 sQ (sZ _) (by decide) hj, ent2 sQ (sZ _) hi hj]
    rcases two_ij hi with rfl | rfl
    · rw [p00, p01, p10, p11, q00, q01, q10, q11]
      grind
    · rw [p00, p01, p10, p11, q00, q01, q10, q11]
      grind
theorem word_odd (x : Rat) (b : Bool) {i j : Nat} (hi : i < 2) (hj : j < 2) : ∀ m, ent (prodW 2 planeP (planeQ x) (alt b (2 * m + 1))) i j = pw (pcos x * pcos x) m * ent (if b then planeP else planeQ x) i j
  | 0 => by
    show ent (prodW 2 planeP (planeQ x) [b]) i j = 1 * _
    rw [prodW_one planeP_sq (planeQ_sq x)]
    grind
  | m + 1 => by
    rw [show 2 * (m + 1) + 1 = 2 * m + 3 by omega, word_next x b _ hi hj, word_odd x b hi hj m]
    show _ = pw (pcos x * pcos x) m * (pcos x * pcos x) * _
    grind
def pqM (x : Rat) (b : Bool) : List (List Rat) := if b then tmul planeP (planeQ x) else tmul (planeQ x) planeP
theorem word_even (x : Rat) (b : Bool) {i j : Nat} (hi : i < 2) (hj : j < 2) : ∀ m, ent (prodW 2 planeP (planeQ x) (alt b (2 * m + 2))) i j = pw (pcos x * pcos x) m * ent (pqM x b) i j
  | 0 => by
    have e : prodW 2 planeP (planeQ x) (alt b 2) = pqM x b := by
      cases b
      · show tmul (planeQ x) (prodW 2 planeP (planeQ x) [true]) = tmul (planeQ x) planeP
        rw [prodW_one planeP_sq (planeQ_sq x)]
        rfl
      · show tmul planeP (prodW 2 planeP (planeQ x) [false]) = tmul planeP (planeQ x)
        rw [prodW_one planeP_sq (planeQ_sq x)]
        rfl
    show ent (prodW 2 planeP (planeQ x) (alt b 2)) i j = 1 * _
    rw [e]
    grind
  | m + 1 => by
    rw [show 2 * (m + 1) + 2 = 2 * m + 1 + 3 by omega, word_next x b _ hi hj, show 2 * m + 1 + 1 = 2 * m + 2 by omega, word_even x b hi hj m]
    show _ = pw (pcos x * pcos x) m * (pcos x * pcos x) * _
    grind
/-- the numbers of rows that begin with b, each second length -/
def cf (ps : Ps) (b : Bool) (s : Nat) : Nat → Rat := fun i => coef ps (alt b (s + 2 * i))
theorem psum_plane (x : Rat) (ps : Ps) {i j : Nat} (hi : i < 2) (hj : j < 2) : ∀ M, psum 2 planeP (planeQ x) ps (2 * M) i j = coef ps [] * ent (tunit 2) i j
    + ev (pcos x * pcos x) (cf ps true 1) M * ent planeP i j + ev (pcos x * pcos x) (cf ps false 1) M * ent (planeQ x) i j
    + ev (pcos x * pcos x) (cf ps true 2) M * ent (pqM x true) i j + ev (pcos x * pcos x) (cf ps false 2) M * ent (pqM x false) i j
  | 0 => by
    rw [Nat.mul_zero, psum_zero]
    show _ = _ + 0 * _ + 0 * _ + 0 * _ + 0 * _
    grind
  | M + 1 => by
    rw [show 2 * (M + 1) = 2 * M + 1 + 1 by omega, psum_next, psum_next, psum_plane x ps hi hj M]
    have o1 := word_odd x true hi hj M
    have o2 := word_odd x false hi hj M
    have e1 := word_even x true hi hj M
    have e2 := word_even x false hi hj M
    rw [o1, o2, show 2 * M + 1 + 1 = 2 * M + 2 by omega, e1, e2]
    have c1 : cf ps true 1 M = coef ps (alt true (2 * M + 1)) := by unfold cf; rw [Nat.add_comm]
    have c2 : cf ps false 1 M = coef ps (alt false (2 * M + 1)) := by unfold cf; rw [Nat.add_comm]
    have c3 : cf ps true 2 M = coef ps (alt true (2 * M + 2)) := by unfold cf; rw [Nat.add_comm]
    have c4 : cf ps false 2 M = coef ps (alt false (2 * M + 2)) := by unfold cf; rw [Nat.add_comm]
    show _ = _ + (ev _ _ M + cf ps true 1 M * _) * _ + (ev _ _ M + cf ps false 1 M * _) * _ + (ev _ _ M + cf ps true 2 M * _) * _ + (ev _ _ M + cf ps false 2 M * _) * _
    rw [c1, c2, c3, c4]
    show _ = _ + _ * ent planeP i j + _ + _ + _
    generalize ent (pqM x true) i j = w1
    generalize ent (pqM x false) i j = w2
    have i1 : ent (if true = true then planeP else planeQ x) i j = ent planeP i j := rfl
    have i2 : ent (if false = true then planeP else planeQ x) i j = ent (planeQ x) i j := rfl
    rw [i1, i2]
    grind
def trV (t c a b m n : Rat) : Rat := c + c + a + b + t * m + t * n
/-- the trace and the determinant of a value on a plane -/
theorem plane_vals (x : Rat) (ps : Ps) (M : Nat) : vent 2 planeP (planeQ x) (form (2 * M) ps) 0 0 + vent 2 planeP (planeQ x) (form (2 * M) ps) 1 1 =
      (ev (pcos x * pcos x) (cf ps true 1) M + ev (pcos x * pcos x) (cf ps false 1) M + pcos x * pcos x * ev (pcos x * pcos x) (cf ps true 2) M + pcos x * pcos x * ev (pcos x * pcos x) (cf ps false 2) M) + coef ps [] * 2 ∧
    (ev (pcos x * pcos x) (cf ps true 2) M = ev (pcos x * pcos x) (cf ps false 2) M → ∀ A B C c t, A = ev (pcos x * pcos x) (cf ps true 1) M → B = ev (pcos x * pcos x) (cf ps false 1) M → C = ev (pcos x * pcos x) (cf ps true 2) M → c = coef ps [] → t = pcos x * pcos x →
      vent 2 planeP (planeQ x) (form (2 * M) ps) 0 0 * vent 2 planeP (planeQ x) (form (2 * M) ps) 1 1 - vent 2 planeP (planeQ x) (form (2 * M) ps) 0 1 * vent 2 planeP (planeQ x) (form (2 * M) ps) 1 0 = c * c + c * (A + B + t * C * 2) + (A * B - t * C * C) * (1 - t)) := by
  obtain ⟨p00, p01, p10, p11, q00, q01, q10, q11⟩ := ent_pl x
  have one := sq_one x
  have sP : SqN 2 planeP := planeP_sq
  have sQ : SqN 2 (planeQ x) := planeQ_sq x
  have u : ∀ {i j : Nat}, i < 2 → j < 2 → ent (tunit 2) i j = if i = j then 1 else 0 := fun hi hj => ent_tab hi hj
  have m1 : ∀ {i j : Nat}, i < 2 → j < 2 → ent (pqM x true) i j = ent planeP i 0 * ent (planeQ x) 0 j + ent planeP i 1 * ent (planeQ x) 1 j := fun hi hj => ent2 sP sQ hi hj
  have m2 : ∀ {i j : Nat}, i < 2 → j < 2 → ent (pqM x false) i j = ent (planeQ x) i 0 * ent planeP 0 j + ent (planeQ x) i 1 * ent planeP 1 j := fun hi hj => ent2 sQ sP hi hj
  have v : ∀ {i j : Nat}, i < 2 → j < 2 → vent 2 planeP (planeQ x) (form (2 * M) ps) i j = _ := fun {i j} hi hj => (psum_all (N := 2 * M) (ps := ps) i j).symm.trans (psum_plane x ps hi hj M)
  have w00 := v (i := 0) (j := 0) (by decide) (by decide)
  have w01 := v (i := 0) (j := 1) (by decide) (by decide)
  have w10 := v (i := 1) (j := 0) (by decide) (by decide)
  have w11 := v (i := 1) (j := 1) (by decide) (by decide)
  rw [u (by decide) (by decide), m1 (by decide) (by decide), m2 (by decide) (by decide), p00, p01, p10, q00, q01, q10] at w00
  rw [u (by decide) (by decide), m1 (by decide) (by decide), m2 (by decide) (by decide), p00, p01, p11, q00, q01, q11] at w01
  rw [u (by decide) (by decide), m1 (by decide) (by decide), m2 (by decide) (by decide), p00, p10, p11, q00, q10, q11] at w10
  rw [u (by decide) (by decide), m1 (by decide) (by decide), m2 (by decide) (by decide), p01, p10, p11, q01, q10, q11] at w11
  rw [if_pos rfl] at w00 w11
  rw [if_neg (by decide)] at w01 w10
  refine ⟨?_, fun hC A B C c t hA hB hC2 hc ht => ?_⟩
  · rw [w00, w11]
    grind
  · rw [← hC, ← hA, ← hB, ← hC2, ← hc] at w00 w01 w10 w11
    rw [w00, w01, w10, w11, ht]
    generalize pcos x = cc at *
    generalize psin x = ss at *
    clear w00 w01 w10 w11 v m1 m2 u p00 p01 p10 p11 q00 q01 q10 q11 hA hB hC hC2 hc ht sP sQ
    have e : ss * ss = 1 - cc * cc := by grind
    grind

end Fo

set_option maxHeartbeats 4100000
/-! range(i, j, c) as a value, and its walk. -/
namespace FoRg
open PySem PySem.Spec PyProof.Rows L2
/-- a range with a step -/
def rngC (p : Addr) (i j c : Int) : HO := .ext fun h => ∃ t u v, IsRange h p i j c t u v
theorem call_rngC {X : Cx} : CallR X (.type "range") (fun vs H Q => ∃ i j c : Int, vs = [.int i, .int j, .int c] ∧ c ≠ 0 ∧ c.natAbs < 1073741824 ∧ ∀ p, H p = none → Q (.ref p) (upd H p (rngC p i j c))) := by
  intro pins s σ H xs us Q I r h
  obtain ⟨i, j, c, rfl, c0, c1, q⟩ := h
  cases r with
  | cons r1 r =>
    cases r with
    | cons r2 r =>
      cases r with
      | cons r3 r =>
        cases r
        obtain ⟨t1, rfl⟩ := r1
        obtain ⟨t2, rfl⟩ := r2
        obtain ⟨t3, rfl⟩ := r3
        refine call_range_3 c0 ?_ (.inl (PyProof.noPylong_small c1))
        have I1 := I.laid (a := s.heap.objs.size) (o := rngC s.heap.objs.size i j c) (h' := s.heap.push { cls := .type "range", data := .fields #[.int i t1, .int j t2, .int c t3] }) (t' := s.toks) (fun _ _ q => Heap.get?_push_of_some _ q) (Nat.le_refl _)
          ⟨⟨t1, t2, t3, IsRange.new s.heap i j c t1 t2 t3⟩, ⟨_, IsRange.new s.heap i j c t1 t2 t3⟩, fun g1 g2 ⟨a, b, d, e⟩ k => ⟨a, b, d, k _ e⟩⟩
        exact ⟨.ref s.heap.objs.size, _, I1, rfl, q _ (I.hok.fresh (Nat.le_refl _))⟩
def iRgV (td : TE) : TI := fun σ H R => td σ H fun x H1 => ∃ (p : Addr) (i j c : Int) (n : Nat), x = .ref p ∧ H1 p = some (rngC p i j c) ∧ RgC i j c n ∧ R (Itc i c n) H1
theorem pi_rngC {X : Cx} {tg e : Expr} {td : TE} (he : PE X e td) : PI X tg e (iRgV td) := by
  refine ⟨fun pins s σ H R I h => ?_⟩
  refine thn (he.run pins s σ H _ I h) fun u s1 ⟨x, H1, I1, rx, p, i, j, c, n, ex, hd, rg, q⟩ => ?_
  subst ex
  obtain rfl : u = Value.ref p := rx
  obtain ⟨⟨t, v, z, hr⟩, _⟩ := (show ObjOk X.prog X.w H1 s1.heap p (rngC p i j c) from I1.hok p _ hd)
  refine wpAny_pyIter_range hr rg.2.2.1 (pi_one (tk := s1.toks) I1 _ (turn_rangeC _ i c n) ?_ q)
  rw [rg.2.2.2]
  have e1 : i + ((0 : Nat) : Int) * c = i := by rw [show ((0 : Nat) : Int) = 0 from rfl, Int.zero_mul, Int.add_zero]
  have e2 : (n : Int) - ((0 : Nat) : Int) = n := by rw [show ((0 : Nat) : Int) = 0 from rfl, Int.sub_zero]
  show IsRangeIter _ _ (i + ((0 : Nat) : Int) * c) ((n : Int) - ((0 : Nat) : Int)) c
  rw [e1, e2]
  exact Heap.get?_push_size _ rfl
end FoRg

/-! a text times a number -/
namespace FoRs
open PySem PySem.Spec PyProof.Rows L2
def repS (z : Str) (k : Nat) : Str := ⟨List.foldl (fun a b => a ++ b) #[] (List.replicate k z.cps)⟩
theorem fold_len (b : Array Nat) : ∀ (k : Nat) (a : Array Nat), (List.foldl (fun a b => a ++ b) a (List.replicate k b)).size = a.size + k * b.size
  | 0, a => by simp
  | k + 1, a => by
    show (List.foldl (fun a b => a ++ b) (a ++ b) (List.replicate k b)).size = _
    rw [fold_len b k, Array.size_append, Nat.succ_mul]
    omega
theorem repS_len (z : Str) (k : Nat) : (repS z k).length = k * z.length := by
  have := fold_len z.cps k #[]
  simpa [repS, Str.length] using this
theorem op_mulS {X : Cx} : OpR X (binaryOp .Mult) (fun x y H Q => ∃ (z : Str) (n : Int), x = .str z ∧ y = .int n ∧ 1 ≤ n ∧ n ≤ 1000 ∧ 1 ≤ z.length ∧ z.length ≤ 10 ∧ Q (.str (repS z n.toNat)) H) := by
  intro pins s σ H x y v u Q I rx ry h
  obtain ⟨z, n, rfl, rfl, n1, n2, z1, z2, q⟩ := h
  obtain ⟨t1, rfl⟩ := rx
  obtain ⟨t2, rfl⟩ := ry
  have hb : (2 : Int) ^ 63 = 9223372036854775808 := by decide
  refine PySem.P.mul_str ?_ (fun _ _ => ?_) (fun _ _ => ?_) ?_
  · rw [decide_eq_false (by omega), decide_eq_false (by omega)]
    rfl
  · have m : (z.length : Int) * n ≤ 10 * 1000 := Int.mul_le_mul (by omega) n2 (by omega) (by decide)
    have := Int.le_ediv_of_mul_le (show 0 < n by omega) (show (z.length : Int) * n ≤ 2 ^ 63 - 1 by omega)
    omega
  · have : z.length * n.toNat ≤ 10 * 1000 := Nat.mul_le_mul z2 (by omega)
    unfold Builtin.Str.tooLong
    exact decide_eq_false (by rw [sizeLine_eq]; omega)
  · rw [if_neg (by omega)]
    by_cases e : n = 1
    · subst e
      have e1 : repS z (1 : Int).toNat = z := by
        show (⟨#[] ++ z.cps⟩ : Str) = z
        rw [Array.empty_append]
      rw [e1] at q
      exact ⟨.str z, H, I, ⟨_, rfl⟩, q⟩
    · rw [if_neg (by
        have h1 : (n == 1) = false := by simpa using e
        have h2 : (z.length == 0) = false := by
          have : z.length ≠ 0 := by omega
          simpa using this
        rw [h1, h2]
        decide)]
      have hl := repS_len z n.toNat
      have : n.toNat * z.length ≤ 1000 * 10 := Nat.mul_le_mul (by omega) z2
      exact ⟨by rw [sizeLine_eq]; show (repS z n.toNat).length ≤ _; omega, .str _, H, I.tok _, ⟨_, rfl⟩, q⟩
end FoRs

set_option maxHeartbeats 4100000
namespace Fo
open PySem PySem.Spec PyProof.Rows L2
/-! ### the product -/
open FoWd
/-- one row of a product -/
def row1 (p : Wd × Rat) (g : Ps) : Ps := g.map fun q => (p.1 ++ q.1, p.2 * q.2)
theorem mul_take {f g : Ps} {i : Nat} {p : Wd × Rat} (h : f[i]? = some p) : mul (f.take (i + 1)) g = mul (f.take i) g ++ row1 p g := by
  unfold mul row1
  rw [List.take_add_one, h, List.flatMap_append]
  congr 1
  show List.flatMap _ [p] = _
  rw [List.flatMap_cons, List.flatMap_nil, List.append_nil]
theorem row_take {p q : Wd × Rat} {g : Ps} {j : Nat} (h : g[j]? = some q) : row1 p (g.take (j + 1)) = row1 p (g.take j) ++ [(p.1 ++ q.1, p.2 * q.2)] := by
  unfold row1
  rw [List.take_add_one, h, List.map_append]
  rfl
theorem mul_app {f f2 g : Ps} : mul (f ++ f2) g = mul f g ++ mul f2 g := List.flatMap_append
theorem mul_cons {p : Wd × Rat} {f g : Ps} : mul (p :: f) g = row1 p g ++ mul f g := rfl
theorem mul_split {f g : Ps} {i j : Nat} {p : Wd × Rat} (h : f[i]? = some p) (hj : j ≤ g.length) : mul (f.take i) g ++ row1 p (g.take j) = (mul f g).take (i * g.length + j) := by
  have e : f = f.take i ++ (p :: f.drop (i + 1)) := by
    obtain ⟨hi, e⟩ := List.getElem?_eq_some_iff.mp h
    rw [← e, ← List.drop_eq_getElem_cons hi, List.take_append_drop]
  have li : (f.take i).length = i := by
    obtain ⟨hi, e⟩ := List.getElem?_eq_some_iff.mp h
    rw [List.length_take]; omega
  have l1 : ∀ f : Ps, (mul f g).length = f.length * g.length := fun f => by
    induction f with
    | nil => exact (Nat.zero_mul _).symm
    | cons a r ih =>
      show (g.map _ ++ mul r g).length = _
      rw [List.length_append, List.length_map, ih, List.length_cons, Nat.succ_mul, Nat.add_comm]
  have e2 : mul f g = mul (f.take i) g ++ (row1 p g ++ mul (f.drop (i + 1)) g) := by
    rw [← mul_cons, ← mul_app, ← e]
  have l2 := l1 (f.take i)
  rw [li] at l2
  have h1 : (mul (f.take i) g).take (i * g.length + j) = mul (f.take i) g := List.take_of_length_le (by rw [l2]; omega)
  have h2 : (row1 p g ++ mul (f.drop (i + 1)) g).take j = row1 p (g.take j) := by
    rw [List.take_append_of_le_length (by unfold row1; rw [List.length_map]; exact hj)]
    unfold row1
    rw [List.map_take]
  rw [e2, List.take_append, h1, l2, show i * g.length + j - i * g.length = j by omega, h2]
def spFMul (K : PySem.W.Frag) : Sp := fun vs H Q _ => ∃ (a b : Addr) (f g : Ps) (N M : Nat), vs = [.ref a, .ref b] ∧ FmTwo K H a b f g ∧ Le N f ∧ Le M g ∧ N + M ≤ 60 ∧ (mul f g).length ≤ 200 ∧ f.length ≤ 200 ∧ g.length ≤ 200 ∧ (∀ p ∈ f, FoQ.SzR 900 p.2) ∧ (∀ p ∈ g, FoQ.SzR 900 p.2) ∧
  (∀ i w, FoQ.SzR 1900 ((look (accum [] ((mul f g).take i)) w).getD 0)) ∧ Grow 1900 (accum [] (mul f g)) ∧ ∀ p H', H p = none → Same H H' → FmN K H H' p (form (N + M) (mul f g)) → Q (.ref p) H'
section
variable {P : Program} {w : World} {K : PySem.W.Frag} {mg : Str → Option Value} {base : Heap}
set_option maxHeartbeats 4100000 in
theorem ok_Fmul (T : Tx K mg) : FnOk P w K mg base CX0 8 (He.ma K (He.ga K "Formula") "__mul__") T.fd_Formula_mul ["self", "other"] (spFMul K) := by
  refine T.F_Formula_mul.ok sc_Formula_mul (fun vs H Q E h => ?_) (fun cdv A outer s H vs Q E hr h => ?_)
  · obtain ⟨a, b, f, g, N, M, rfl, _⟩ := h
    rfl
  · obtain ⟨a, b, f, g, N, M, rfl, ⟨dx, d, kf, dy, u, kg, du, e1, e2, e3, f1, f2, f3⟩, lf, lg, n60, l200, lf2, lg2, zf, zg, hT, hGr, q⟩ := h
    obtain ⟨ds, vd, bd⟩ := bind_init1 T
    refine ⟨_, (pss_cons (ps_set (i := 2) sc_Formula_mul.nd rfl (.inl rfl) pe_dnewK)
      (pss_cons (ps_lock (ps_for PassesOwn.never rfl (pi_items (pe_fld (pv 0) rfl)) (pg_tup (by rfl) (pgs_cons (pg_name (i := 3) sc_Formula_mul.nd rfl (.inl rfl)) (pgs_cons (pg_name (i := 4) sc_Formula_mul.nd rfl (.inl rfl)) pgs_nil))) (pss_one (ps_lock (ps_for PassesOwn.never rfl (pi_items (pe_fld (pv 1) rfl)) (pg_tup (by rfl) (pgs_cons (pg_name (i := 5) sc_Formula_mul.nd rfl (.inl rfl)) (pgs_cons (pg_name (i := 6) sc_Formula_mul.nd rfl (.inl rfl)) pgs_nil))) (pss_cons (ps_set (i := 7) sc_Formula_mul.nd rfl (.inl rfl) (pe_op op_add_str (pv 3) (pv 5)))
      (pss_one (ps_dput (Nat.lt_of_le_of_lt (Nat.add_le_add_left (by decide) _) hr.units) (pv 2) (pv 7) (pe_op (FoA.op_own (ok_addQ T) (hr.mono (by decide)) T.b_Ratio_add pass0 T.bi_add FoN.int_add FoN.int_addR) (pe_dget2 (Nat.lt_of_le_of_lt (Nat.add_le_add_left (by decide) _) hr.units) (pv 2) (pv 7) (pe_make T.mk_R (ok_initQ T) (hr.mono (by decide)) (by rfl) T.c_Ratio bd vd pass0 (pa_cons pe_int pa_nil)) ⟨by rfl, by rfl, by rfl, by rfl⟩) (pe_op (FoA.op_own (ok_mulQ T) (hr.mono (by decide)) T.b_Ratio_mul pass0 T.bi_mul FoN.int_mul FoN.int_mulR) (pv 4) (pv 6))) rfl))))))))
      (pss_one (ps_ret (pe_make T.mk_F (ok_Finit T) (hr.mono (by decide)) (by rfl) T.c_Formula T.b_Formula_init .nil pass0 (pa_cons (pv 2) pa_nil)))))), ?_⟩
    have lkf : kf.length = f.length := e3.len
    have lkg : kg.length = g.length := f3.len
    refine fun p np => ?_
    have pd : p ≠ d := fun z => by rw [z, e2] at np; cases np
    have pu : p ≠ u := fun z => by rw [z, f2] at np; cases np
    have ad : a ≠ d := fun z => by rw [z, e2] at e1; cases e1
    have bd' : b ≠ d := fun z => by rw [z, e2] at f1; cases f1
    have bu : b ≠ u := fun z => by rw [z, f2] at f1; cases f1
    refine ⟨d, .dK kf, by rw [upd_ne (Ne.symm pd)]; exact e2, trivial, fun od => ?_⟩
    have f0 : upd (upd H p (.dK [])) d (.frz od (.dK kf)) d = some (.frz od (.dK kf)) := upd_same
    have p0 : upd (upd H p (.dK [])) d (.frz od (.dK kf)) p = some (.dK []) := by rw [upd_ne pd]; exact upd_same
    have s0 : ∀ b o, H b = some o → b ≠ d → upd (upd H p (.dK [])) d (.frz od (.dK kf)) b = some o := fun b o e n => by
      rw [upd_ne n, upd_ne (fun z => by rw [z, np] at e; cases e)]
      exact e
    have a0 := s0 _ _ e1 ad
    generalize upd (upd H p (.dK [])) d (.frz od (.dK kf)) = H1 at *
    refine ⟨_, rfl, a, _, dx, _, _, rfl, a0, T.cl_F, T.nT_F, rfl, d, od, kf, rfl, f0, ?_⟩
    refine for_it walk_items (fun i σ H2 => ∃ kt o3 o4 o5 o6 o7, σ = [some (.ref a), some (.ref b), some (.ref p), o3, o4, o5, o6, o7] ∧ H2 d = some (.frz od (.dK kf)) ∧ H2 p = some (.dK kt) ∧ DL (Rr K) H2 kt (accum [] (mul (f.take i) g)) ∧ ∀ b o, H b = some o → b ≠ d → H2 b = some o)
      ⟨[], none, none, none, none, none, rfl, f0, p0, .nil, s0⟩ (fun i σ H2 _ ⟨_, _, _, _, _, _, _, h, _⟩ => h) (fun i v σ H2 H3 hi h y => ?_) (fun σ H2 h => ?_)
    · obtain ⟨kt, o3, o4, o5, o6, o7, rfl, fa, hp, hD, hs⟩ := h
      obtain ⟨tp, k1, v1, rfl, ntp, rfl, ek, ev⟩ := y
      obtain ⟨⟨k0, v0⟩, e0⟩ : ∃ q, kf[i]? = some q := ⟨_, List.getElem?_eq_getElem hi⟩
      dsimp only at ek ev
      rw [e0] at ek ev
      obtain ⟨pq, eq, hk, r, hv, hr0⟩ := e3.at_ e0
      obtain ⟨pw, px⟩ := pq
      have ek2 : V.str (tx pw) = k1 := by
        have z := Option.some.inj ek
        rw [hk] at z
        exact z
      have ev2 : V.ref r = v1 := by
        have z := Option.some.inj ev
        rw [hv] at z
        exact z
      subst ek2 ev2
      dsimp only at hr0
      have zp := zf _ (List.mem_of_getElem? eq)
      have s3 := Same.upd ntp (o := .tup [V.str (tx pw), V.ref r])
      have t3 : upd H2 tp (.tup [V.str (tx pw), V.ref r]) tp = some (.tup [V.str (tx pw), V.ref r]) := upd_same
      have fa3 := s3 _ _ fa
      have hp3 := s3 _ _ hp
      have hD3 := hD.nld rr_solidD (same_nld s3)
      have hs3 : ∀ b o, H b = some o → b ≠ d → upd H2 tp (.tup [V.str (tx pw), V.ref r]) b = some o := fun b o e n => s3 _ _ (hs b o e n)
      generalize upd H2 tp (.tup [V.str (tx pw), V.ref r]) = H3 at *
      refine ⟨tp, _, rfl, SqT.of t3, rfl, _, _, rfl, _, _, rfl, rfl, ?_⟩
      refine ⟨u, .dK kg, hs3 _ _ f2 (Ne.symm du), trivial, fun od2 => ?_⟩
      have q0 : upd H3 u (.frz od2 (.dK kg)) u = some (.frz od2 (.dK kg)) := upd_same
      have q1 : upd H3 u (.frz od2 (.dK kg)) p = some (.dK kt) := by rw [upd_ne pu]; exact hp3
      have q2 : upd H3 u (.frz od2 (.dK kg)) d = some (.frz od (.dK kf)) := by rw [upd_ne du]; exact fa3
      have q3 : ∀ b o, H b = some o → b ≠ d → b ≠ u → upd H3 u (.frz od2 (.dK kg)) b = some o := fun b o e n m => by rw [upd_ne m]; exact hs3 b o e n
      have q4 : DL (Rr K) (upd H3 u (.frz od2 (.dK kg))) kt (accum [] (mul (f.take i) g ++ row1 (pw, px) (g.take 0))) := by
        rw [show row1 (pw, px) (g.take 0) = [] from rfl, List.append_nil]
        exact hD3.nld rr_solidD (nld_upd (hs3 _ _ f2 (Ne.symm du)) id)
      generalize upd H3 u (.frz od2 (.dK kg)) = H4 at *
      refine ⟨_, rfl, b, _, dy, _, _, rfl, q3 _ _ f1 bd' bu, T.cl_F, T.nT_F, rfl, u, od2, kg, rfl, q0, ?_⟩
      refine for_it walk_items (fun j σ H2 => ∃ kt o5 o6 o7, σ = [some (.ref a), some (.ref b), some (.ref p), some (.str (tx pw)), some (.ref r), o5, o6, o7] ∧ H2 u = some (.frz od2 (.dK kg)) ∧ H2 d = some (.frz od (.dK kf)) ∧ H2 p = some (.dK kt) ∧ DL (Rr K) H2 kt (accum [] (mul (f.take i) g ++ row1 (pw, px) (g.take j))) ∧ ∀ b o, H b = some o → b ≠ d → b ≠ u → H2 b = some o)
        ⟨kt, o5, o6, o7, rfl, q0, q2, q1, q4, q3⟩ (fun i σ H2 _ ⟨_, _, _, _, _, h, _⟩ => h) (fun j v σ H5 H6 hj h y => ?_) (fun σ H5 h => ?_)
      · clear q0 q1 q2 q3 q4 hD hD3 hp hp3 fa fa3 hs hs3
        obtain ⟨kt, o5, o6, o7, rfl, fb, fa, hp, hD, hs⟩ := h
        obtain ⟨tq, k2, v2, rfl, ntq, rfl, ek, ev⟩ := y
        obtain ⟨⟨k0', v0'⟩, e0'⟩ : ∃ q, kg[j]? = some q := ⟨_, List.getElem?_eq_getElem hj⟩
        dsimp only at ek ev
        rw [e0'] at ek ev
        obtain ⟨qq, eqq, hk', r2, hv', hr2⟩ := f3.at_ e0'
        obtain ⟨qw, qx⟩ := qq
        have ek3 : V.str (tx qw) = k2 := by
          have z := Option.some.inj ek
          rw [hk'] at z
          exact z
        have ev3 : V.ref r2 = v2 := by
          have z := Option.some.inj ev
          rw [hv'] at z
          exact z
        subst ek3 ev3
        dsimp only at hr2
        have zq := zg _ (List.mem_of_getElem? eqq)
        have jl : j ≤ g.length := by omega
        have z2 := hT (i * g.length + j) (pw ++ qw)
        rw [← mul_split eq jl] at z2
        have s3 := Same.upd ntq (o := .tup [V.str (tx qw), V.ref r2])
        have t3 : upd H5 tq (.tup [V.str (tx qw), V.ref r2]) tq = some (.tup [V.str (tx qw), V.ref r2]) := upd_same
        have fa3 := s3 _ _ fa
        have fb3 := s3 _ _ fb
        have hp3 := s3 _ _ hp
        have hD3 := hD.nld rr_solidD (same_nld s3)
        have hs3 : ∀ b o, H b = some o → b ≠ d → b ≠ u → upd H5 tq (.tup [V.str (tx qw), V.ref r2]) b = some o := fun b o e n m => s3 _ _ (hs b o e n m)
        have rAt : ∀ {r : Addr} {x : Rat}, RtAt K H r x → RtAt K (upd H5 tq (.tup [V.str (tx qw), V.ref r2])) r x := fun h => by
          obtain ⟨dz, e⟩ := h
          exact ⟨dz, hs3 _ _ e (fun z => by rw [z, e2] at e; cases e) (fun z => by rw [z, f2] at e; cases e)⟩
        have hr1 := rAt hr0
        have hr2 := rAt hr2
        clear rAt
        generalize upd H5 tq (.tup [V.str (tx qw), V.ref r2]) = H6 at *
        have lw : (pw ++ qw).length ≤ 60 := by
          have w1 := lf _ (List.mem_of_getElem? eq)
          have w2 := lg _ (List.mem_of_getElem? eqq)
          rw [List.length_append]
          dsimp only at w1 w2
          omega
        refine ⟨tq, _, rfl, SqT.of t3, rfl, _, _, rfl, _, _, rfl, rfl, ?_⟩
        refine ⟨_, rfl, _, rfl, _, _, rfl, rfl, ?_, ?_⟩
        · rw [tx_len, tx_len, sizeLine_eq]
          rw [List.length_append] at lw
          omega
        rw [tx_app]
        refine ⟨_, rfl, p, rfl, .inl ⟨kt, .inl hp3⟩, _, rfl, ?_⟩
        refine rq_make (r := 0) (by decide) (sz_of 1000000 (by decide) (by decide) (by decide)) rfl fun p0 H7 np0 s4 h0 => ⟨rfl, ?_⟩
        have hp4 := s4 _ _ hp3
        have hr1 := hr1.same s4
        have hr2 := hr2.same s4
        obtain ⟨dr, hr5⟩ := id hr1
        obtain ⟨dr2, hr6⟩ := id hr2
        have got : ∃ o, DGet H7 p (.str (tx (pw ++ qw))) o ∧ ∃ b, o.getD (.ref p0) = .ref b ∧ RtAt K H7 b ((look (accum [] (mul (f.take i) g ++ row1 (pw, px) (g.take j))) (pw ++ qw)).getD 0) := by
          refine ⟨_, .inl ⟨kt, .inr (tx (pw ++ qw)), .inl hp4, rfl, rfl⟩, ?_⟩
          rcases hD3.look (w := pw ++ qw) with ⟨l1, l2⟩ | ⟨x, v, l1, l2, b, rfl, hb⟩
          · rw [l1, l2]
            exact ⟨p0, rfl, h0⟩
          · rw [l1, l2]
            exact ⟨b, rfl, hb.same s4⟩
        obtain ⟨o, g1, bb, g2, hb⟩ := got
        refine ⟨o, g1, ?_⟩
        rw [g2]
        refine ⟨_, rfl, _, rfl, r, dr, _, rfl, hr5, .inr ⟨r2, dr2, _, rfl, hr6⟩, r, .ref r2, px, qx, rfl, hr1, .inl ⟨r2, rfl, hr2⟩, trivial, zp.mono (by decide), zq.mono (by decide), fun pm H8 npm s8 hm => ?_⟩
        have hb := hb.same s8
        obtain ⟨db, hb5⟩ := id hb
        obtain ⟨dm, hm5⟩ := id hm
        refine ⟨bb, db, _, rfl, hb5, .inr ⟨pm, dm, _, rfl, hm5⟩, bb, .ref pm, _, _, rfl, hb, .inl ⟨pm, rfl, hm⟩, trivial, z2, (zp.mul zq).mono (by decide), fun p5 H9 np5 s5 h5 => ?_⟩
        have s49 := s4.trans (s8.trans s5)
        have hp5 := s49 _ _ hp3
        refine ⟨_, rfl, _, rfl, p, _, rfl, .inl ⟨kt, .inr (tx (pw ++ qw)), hp5, rfl, ?_, rfl⟩, _, _, _, _, rfl, ?_, ?_, upd_same, ?_, fun b o e n m => ?_⟩
        · have z := (accum_all (t := []) List.nodup_nil (mul (f.take i) g ++ row1 (pw, px) (g.take j))).2.2.1
          rw [mul_split eq jl, List.length_take] at z
          rw [mul_split eq jl] at hD3
          rw [← hD3.len] at z
          rw [sizeLine_eq]
          rw [List.length_nil] at z
          omega
        · rw [upd_ne (Ne.symm pu)]
          exact s49 _ _ fb3
        · rw [upd_ne (Ne.symm pd)]
          exact s49 _ _ fa3
        · rw [row_take eqq, ← List.append_assoc, accum_snoc]
          unfold addTo
          exact DL.put ((hD3.nld rr_solidD (same_nld s49)).nld rr_solidD (nld_upd hp5 id)) (accum_all (t := []) List.nodup_nil _).1 ⟨p5, rfl, rtAt_nld h5 (nld_upd hp5 id)⟩
        · rw [upd_ne (fun z => by rw [z, np] at e; cases e)]
          exact s49 _ _ (hs3 b o e n m)
      · obtain ⟨kt, o5, o6, o7, rfl, fb, fa, hp, hD, hs⟩ := h
        refine ⟨fb, kt, _, _, _, _, _, rfl, ?_, ?_, ?_, fun b o e n => ?_⟩
        · rw [upd_ne du]; exact fa
        · rw [upd_ne pu]; exact hp
        · rw [mul_take eq]
          rw [lkg, List.take_length] at hD
          exact hD.nld rr_solidD (nld_upd fb id)
        · by_cases z : b = u
          · rw [z, f2] at e
            cases e
            rw [z]
            exact upd_same
          · rw [upd_ne z]
            exact hs b o e n z
    · obtain ⟨kt, o3, o4, o5, o6, o7, rfl, fa, hp, hD, hs⟩ := h
      refine ⟨fa, ?_⟩
      rw [lkf, List.take_length] at hD
      have hp6 : upd H2 d (.dK kf) p = some (.dK kt) := by rw [upd_ne pd]; exact hp
      have s6 : Same H (upd H2 d (.dK kf)) := fun b o e => by
        by_cases z : b = d
        · rw [z, e2] at e
          cases e
          rw [z]
          exact upd_same
        · rw [upd_ne z]
          exact hs b o e z
      have hD6 : DL (Rr K) (upd H2 d (.dK kf)) kt (accum [] (mul f g)) := hD.nld rr_solidD (nld_upd fa id)
      generalize upd H2 d (.dK kf) = H3 at *
      obtain ⟨an, _, al, _⟩ := accum_all (t := []) List.nodup_nil (mul f g)
      have lm : Le (N + M) (mul f g) := fun p hp => by
        unfold mul at hp
        obtain ⟨x, hx, hp⟩ := List.mem_flatMap.mp hp
        obtain ⟨y, hy, rfl⟩ := List.mem_map.mp hp
        show (x.1 ++ y.1).length ≤ _
        rw [List.length_append]
        have w1 := lf _ hx
        have w2 := lg _ hy
        omega
      refine ⟨_, rfl, fm_make hp6 (Paired.mapP hD6 fun kv q ⟨e1, b, e2, e3⟩ => ⟨e1, .inl ⟨b, e2, e3⟩⟩) an (le_accum (t := []) List.nodup_nil (fun _ h => absurd h (by simp)) lm) n60 (by rw [List.length_nil] at al; omega) hGr fun p9 H9 np9 s9 hF => ⟨rfl, ?_⟩⟩
      rw [form_accum (t := []) List.nodup_nil, List.nil_append] at hF
      exact q p9 H9 (s6.free np9) (s6.trans s9) (hF.back s6)
end

end Fo

set_option maxHeartbeats 4100000
namespace Fo
open PySem PySem.Spec PyProof.Rows L2
open FoWd
def nn (s m : Nat) : Nat := if s ≤ m then (m - s) / 2 + 1 else 0
theorem rg_ok : ∀ (s : Fin 3) (m : Fin 13), (Builtin.Range.small (s.val : Int) ((m.val : Int) + 1) 2 && decide (Builtin.Range.rangeSize (s.val : Int) ((m.val : Int) + 1) 2 = ((nn s.val m.val : Nat) : Int))) = true := by decide +kernel
theorem rgC_ok {s m : Nat} (hs : s ≤ 2) (hm : m ≤ 12) : RgC (s : Int) ((m : Int) + 1) 2 (nn s m) := by
  have h := rg_ok ⟨s, by omega⟩ ⟨m, by omega⟩
  rw [Bool.and_eq_true] at h
  exact ⟨by decide, by decide, h.1, of_decide_eq_true h.2⟩
theorem alt_text : ∀ (b : Bool) (k : Fin 14), cutS (FoRs.repS (if b then "pq" else "qp") k.val) none (some ((k.val : Nat) : Int)) = tx (alt b k.val) := by decide +kernel
theorem max_one {ns : List Int} {m : Int} {H : Hp} {Q : VK} (h0 : ns = [] → m = 0) (h1 : ∀ M, M ∈ ns → (∀ y ∈ ns, y ≤ M) → M = m) (q : Q (.int m) H) : (ns = [] → Q (.int 0) H) ∧ ∀ M, M ∈ ns → (∀ y ∈ ns, y ≤ M) → Q (.int M) H := ⟨fun e => h0 e ▸ q, fun M a b => h1 M a b ▸ q⟩
theorem long_zero {N : Nat} {ps : Ps} (le : Le N ps) {b : Bool} {k : Nat} (h : N < k) : coef ps (alt b k) = 0 := by
  rw [← coef_form le]
  refine Classical.byContradiction fun z => ?_
  have key : ∀ f : Ps, (∀ p ∈ f, sh p.1 ≠ alt b k) → coef f (alt b k) = 0 := by
    intro f
    induction f with
    | nil => intro _; rfl
    | cons p f ih =>
      intro hf
      rw [coef_cons, ih (fun q hq => hf q (List.mem_cons_of_mem _ hq))]
      have : ind (alt b k) p.1 = 0 := by
        unfold ind
        rw [if_neg (hf p List.mem_cons_self)]
      rw [this]
      grind
  exact z (key _ fun p hp e => by
    have l1 := form_le N ps p hp
    have l2 := sh_len p.1
    rw [e, alt_len] at l2
    omega)
theorem max_len : ∀ f : Ps, ∃ m : Nat, (∀ p ∈ f, p.1.length ≤ m) ∧ (f = [] → m = 0) ∧ (f ≠ [] → ∃ p ∈ f, p.1.length = m)
  | [] => ⟨0, (fun p hp => nomatch hp), (fun _ => rfl), (fun h => absurd rfl h)⟩
  | p :: f => by
    obtain ⟨m, h1, h2, h3⟩ := max_len f
    by_cases c : m ≤ p.1.length
    · refine ⟨p.1.length, (fun r hr => ?_), (fun h => nomatch h), (fun _ => ⟨p, List.mem_cons_self, rfl⟩)⟩
      rcases List.mem_cons.mp hr with rfl | hr
      · exact Nat.le_refl _
      · exact Nat.le_trans (h1 r hr) c
    · refine ⟨m, (fun r hr => ?_), (fun h => nomatch h), (fun _ => ?_)⟩
      · rcases List.mem_cons.mp hr with rfl | hr
        · omega
        · exact h1 r hr
      · by_cases e : f = []
        · rw [h2 e] at c
          omega
        · obtain ⟨r, hr, er⟩ := h3 e
          exact ⟨r, List.mem_cons_of_mem _ hr, er⟩
theorem fac_co {N : Nat} {ps : Ps} (hN : N ≤ 12) (le : Le N ps) (b : Bool) {s : Nat} (s1 : 1 ≤ s) (i : Nat) : FoQ.co (fac ps b s 7) i = coef ps (alt b (s + 2 * i)) := by
  unfold fac
  rw [FoQ.trim_co, FoQ.co_map]
  split
  · rfl
  · refine (Classical.byContradiction fun z => ?_)
    have m := (mem_form (N := s + 2 * i) (ps := ps) (p := (alt b (s + 2 * i), coef ps (alt b (s + 2 * i))))).mpr ⟨mem_AW b (Nat.le_refl _), fun e => z e.symm, rfl⟩
    have := long_zero le (b := b) (k := s + 2 * i) (by omega)
    exact z this.symm
def spFactor (K : PySem.W.Frag) : Sp := fun vs H Q _ => ∃ (d : Addr) (b : Bool) (s N : Nat) (kvs : List (Key × V)) (ps : Ps), vs = [.ref d, .str (if b then "pq" else "qp"), .int s] ∧ 1 ≤ s ∧ s ≤ 2 ∧ H d = some (.dK kvs) ∧ DL (Rr K) H kvs (form N ps) ∧ Le N ps ∧ N ≤ 12 ∧
  ∀ p H', H p = none → Same H H' → PolAt K H' p (fac ps b s 7) → Q (.ref p) H'
def spPF (K : PySem.W.Frag) : Sp := fun vs H Q _ => ∃ (a : Addr) (N : Nat) (ps : Ps), vs = [.ref a] ∧ FmAt K H a (form N ps) ∧ Le N ps ∧ N ≤ 12 ∧
  ∀ t H' p0 p1 p2 p3 p4, H t = none → Same H H' → H' t = some (.tup [.ref p0, .ref p1, .ref p2, .ref p3, .ref p4]) → PolAt K H' p0 (FoQ.trim [coef ps []]) → PolAt K H' p1 (fac ps true 1 7) → PolAt K H' p2 (fac ps false 1 7) → PolAt K H' p3 (fac ps true 2 7) → PolAt K H' p4 (fac ps false 2 7) → Q (.ref t) H'
section
variable {P : Program} {w : World} {K : PySem.W.Frag} {mg : Str → Option Value} {base : Heap}
theorem ok_factor (T : Tx K mg) : FnOk P w K mg base CX0 6 (He.ga K "_factor_of") T.fd_factor_of ["terms", "letters", "size"] (spFactor K) := by
  refine T.F_factor_of.ok sc_factor_of (fun vs H Q E h => ?_) (fun cdv A outer s H vs Q E hr h => ?_)
  · obtain ⟨d, b, s, N, kvs, ps, rfl, _⟩ := h
    rfl
  · obtain ⟨d, b, s, N, kvs, ps, rfl, s1, s2, ha, hL, le, n12, q⟩ := h
    refine ⟨_, (pss_cons (ps_set (i := 4) sc_factor_of.nd rfl (.inl rfl) (pe_callTy FoRg.call_rngC (by rfl) T.z_range (by decide +kernel) (pa_cons (pv 2) (pa_cons (pe_op op_add (pe_callBK (FoMx.cr_maxDf rfl) (by rfl) T.z_max (by decide +kernel) (pa_cons (pe_lock (pe_lc (own := [("row", 3)]) (g := gName 3) rfl sc_factor_of.nd (pi_keys (pv 0)) (blkOk_by (own := [("row", 3)]) (N := ["terms", "letters", "size", "row", "lengths", "length"]) (sc := defScope s_factor_of) (by decide +kernel)) (fun _ _ _ _ _ => (pg_name (i := 3) sc_factor_of.nd rfl (.inl rfl))) (fun _ _ _ _ _ => pts_nil) (fun _ _ _ _ _ => (pe_callB call_len_str (by rfl) T.z_len PySem.boot_len (pa_cons (pv 3) pa_nil))))) pa_nil) (pk_cons pe_int pk_nil)) pe_int) (pa_cons pe_int pa_nil)))))
      (pss_one (ps_ret (pe_make T.mk_P (ok_Pinit T) (hr.mono (by decide)) (by rfl) T.c_Polynomial T.b_Polynomial_init .nil pass0 (pa_cons (pe_lc (own := [("length", 5)]) (g := gName 5) rfl sc_factor_of.nd (FoRg.pi_rngC (pv 4)) (blkOk_by (own := [("length", 5)]) (N := ["terms", "letters", "size", "row", "lengths", "length"]) (sc := defScope s_factor_of) (by decide +kernel)) (fun _ _ _ _ _ => (pg_name (i := 5) sc_factor_of.nd rfl (.inl rfl))) (fun _ _ _ _ _ => pts_nil) (fun _ _ _ _ _ => (pe_dget2 (Nat.lt_of_le_of_lt (Nat.add_le_add_left (by decide) _) hr.units) (pv 0) (pe_slice sl_str (pe_op FoRs.op_mulS (pv 1) (pv 5)) po_none (po_some (pv 5))) pe_int ⟨by rfl, by rfl, by rfl, by rfl⟩))) pa_nil))))), ?_⟩
    have lk : kvs.length = (form N ps).length := hL.len
    have fl := form_len N ps
    have fle := form_le N ps
    -- the greatest length
    obtain ⟨m, m1, m2, m3⟩ : ∃ m : Nat, (∀ p ∈ form N ps, p.1.length ≤ m) ∧ (form N ps = [] → m = 0) ∧ (form N ps ≠ [] → ∃ p ∈ form N ps, p.1.length = m) := max_len (form N ps)
    have mN : m ≤ N := by
      by_cases e : form N ps = []
      · rw [m2 e]
        exact Nat.zero_le _
      · obtain ⟨p, hp, e2⟩ := m3 e
        rw [← e2]
        exact fle p hp
    refine ⟨_, rfl, ?_⟩
    refine ⟨d, .dK kvs, ha, trivial, fun od => ?_⟩
    have f4 : upd H d (.frz od (.dK kvs)) d = some (.frz od (.dK kvs)) := upd_same
    have back : ∀ H5, Same (upd H d (.frz od (.dK kvs))) H5 → Same H (upd H5 d (.dK kvs)) := fun H5 s5 c o e => by
      by_cases z : c = d
      · rw [z, ha] at e
        cases e
        rw [z]
        exact upd_same
      · rw [upd_ne z]
        exact s5 _ _ (by rw [upd_ne z]; exact e)
    generalize upd H d (.frz od (.dK kvs)) = H4 at *
    refine ⟨_, rfl, d, od, rfl, .inl ⟨kvs, f4, fun D nD => ?_⟩⟩
    refine lc_it walk_keys (fun i H' => H' D = some (.lst ((((form N ps).take i).map fun p => ((p.1.length : Nat) : Int)).map V.int)) ∧ Same H4 H') ⟨upd_same, Same.upd nD⟩ (fun i H' _ h => h.2 _ _ f4) (fun i v H5 H6 hi h y => ?_) (fun H5 h => ?_)
    · obtain ⟨hD5, s5⟩ := h
      obtain ⟨rfl, k, v0, e0, rfl⟩ := y
      obtain ⟨q, eq, rfl, hr⟩ := hL.at_ e0
      have lq := fle _ (List.mem_of_getElem? eq)
      refine ⟨rfl, _, rfl, tx q.1, rfl, by rw [tx_len, sizeLine_eq]; omega, _, hD5, ?_, ?_, fun b o e => ?_⟩
      · rw [List.length_map, List.length_map, List.length_take, sizeLine_eq]
        omega
      · rw [upd_same, List.take_add_one, eq, List.map_append, List.map_append, tx_len]
        rfl
      · rw [upd_ne (ne_of_none e nD)]
        exact s5 _ _ e
    obtain ⟨hD5, s5⟩ := h
    rw [lk, List.take_length] at hD5
    refine ⟨s5 _ _ f4, ?_⟩
    have Da : D ≠ d := fun z => by rw [z, f4] at nD; cases nD
    have s8 := back H5 s5
    have hD8 : upd H5 d (.dK kvs) D = some (.lst (((form N ps).map fun p => ((p.1.length : Nat) : Int)).map V.int)) := by rw [upd_ne Da]; exact hD5
    generalize upd H5 d (.dK kvs) = H8 at *
    refine ⟨D, _, .int 0, rfl, rfl, SqL.of hD8, (fun e => ?_), (fun M h1 h2 => ?_)⟩
    · have em : (0 : Int) = (m : Int) := by
        rw [m2 (List.map_eq_nil_iff.mp e)]
        rfl
      refine ⟨_, _, rfl, rfl, _, _, _, rfl, by decide, by decide, fun rg nrg => ?_⟩
      have s9 := Same.upd nrg (o := FoRg.rngC rg (s : Int) (0 + 1) 2)
      have hrg : upd H8 rg (FoRg.rngC rg (s : Int) (0 + 1) 2) rg = some (FoRg.rngC rg (s : Int) (0 + 1) 2) := upd_same
      have s89 := s8.trans s9
      have hd9 := s89 _ _ ha
      have hL9 := hL.nld rr_solidD (same_nld s89)
      generalize upd H8 rg (FoRg.rngC rg (s : Int) (0 + 1) 2) = H9 at *
      clear s8 s9 hD8 hD5 s5 f4
      refine ⟨_, rfl, rg, _, _, _, nn s m, rfl, hrg, (show RgC (s : Int) (0 + 1) 2 (nn s m) from by rw [em]; exact rgC_ok s2 (by omega)), fun D2 nD2 => ?_⟩
      have nle : ∀ i, i < nn s m → s + 2 * i ≤ m := fun i hi => by unfold nn at hi; split at hi <;> omega
      have nge : ∀ i, nn s m ≤ i → m < s + 2 * i := fun i hi => by unfold nn at hi; split at hi <;> omega
      refine lc_it walk_rangeC (LInv (fun j => Rn K (coef ps (alt b (s + 2 * j)))) H9 D2) (LInv.start nD2) (fun _ _ _ _ => trivial) (fun i v H10 H11 hi h y => ?_) (fun H10 h => ?_)
      · obtain ⟨rfl, rfl⟩ := y
        have hi2 := nle i hi
        have e1 : (s : Int) + ((i : Nat) : Int) * 2 = ((s + 2 * i : Nat) : Int) := by omega
        show gName 5 (V.int ((s : Int) + (i : Int) * 2)) _ _ _
        rw [e1]
        have hd := h.1 _ _ hd9
        have hD := hL9.nld rr_solidD (same_nld h.1)
        have lz : ((if b then "pq" else "qp" : Str)).length = 2 := by cases b <;> rfl
        refine ⟨rfl, _, rfl, d, rfl, .inl ⟨kvs, .inl hd⟩, ?_⟩
        refine ⟨_, rfl, _, rfl, _, _, rfl, rfl, by omega, by omega, by omega, by omega, ?_⟩
        rw [Int.toNat_natCast]
        refine ⟨_, rfl, _, rfl, _, rfl, by rw [FoRs.repS_len, lz, sizeLine_eq]; omega, ?_⟩
        have at' := alt_text b ⟨s + 2 * i, by omega⟩
        dsimp only at at'
        rw [at']
        have hAW : alt b (s + 2 * i) ∈ AW N := mem_AW b (by omega)
        refine ⟨_, .inl ⟨kvs, .inr (tx (alt b (s + 2 * i))), .inl hd, rfl, rfl⟩, ?_⟩
        have nm : NmV K H11 ((valV kvs (.inr (tx (alt b (s + 2 * i))))).getD (.int 0)) (coef ps (alt b (s + 2 * i))) := by
          rw [← form_look (ps := ps) hAW]
          rcases hD.look (w := alt b (s + 2 * i)) with ⟨l1, l2⟩ | ⟨x, v, l1, l2, c, rfl, hb⟩
          · rw [l1, l2]
            exact .inr ⟨0, rfl, rfl⟩
          · rw [l1, l2]
            exact .inl ⟨c, rfl, hb⟩
        exact h.next (fun j => rn_solid _) nD2 (Same.refl _) nm (by omega)
      · obtain ⟨s10, vs, ev, el, hv⟩ := h
        refine pq_make (l := (List.range (nn s m)).map fun j => coef ps (alt b (s + 2 * j))) (.inl (SqL.of ev)) ⟨by rw [el]; simp, fun j v e => ?_⟩ (by simp; have := nle; unfold nn; split <;> omega) fun p H12 np s12 hp => ⟨rfl, ?_⟩
        · have hj := (List.getElem?_eq_some_iff.mp e).1
          rw [FoQ.co_map, if_pos (by omega)]
          exact hv j v e
        · have e : FoQ.trim ((List.range (nn s m)).map fun j => coef ps (alt b (s + 2 * j))) = fac ps b s 7 := by
            have e2 : FoQ.trim (fac ps b s 7) = fac ps b s 7 := FoQ.trim_idem _
            rw [← e2]
            refine FoQ.trim_ext fun i => ?_
            rw [FoQ.co_map, fac_co n12 le b s1]
            split
            · rfl
            · rename_i hi
              have h7 := nge i (by omega)
              refine Classical.byContradiction fun z => ?_
              have hAW : s + 2 * i ≤ N ∨ N < s + 2 * i := by omega
              rcases hAW with hN | hN
              · have mm := m1 _ ((mem_form (N := N) (ps := ps) (p := (alt b (s + 2 * i), coef ps (alt b (s + 2 * i))))).mpr ⟨mem_AW b hN, fun e => z e.symm, rfl⟩)
                rw [alt_len] at mm
                omega
              · exact z (long_zero le hN).symm
          rw [e] at hp
          have sA := s89.trans (s10.trans s12)
          exact q p H12 ((s89.trans s10).free np) sA hp
    · have em : M = (m : Int) := by
        obtain ⟨p1, hp1, rfl⟩ := List.mem_map.mp h1
        have fn : form N ps ≠ [] := fun z => by rw [z] at hp1; exact absurd hp1 (by simp)
        obtain ⟨p2, hp2, e2⟩ := m3 fn
        have z1 := h2 _ (List.mem_map.mpr ⟨p2, hp2, rfl⟩)
        have z2 := m1 p1 hp1
        omega
      refine ⟨_, _, rfl, rfl, _, _, _, rfl, by decide, by decide, fun rg nrg => ?_⟩
      have s9 := Same.upd nrg (o := FoRg.rngC rg (s : Int) (M + 1) 2)
      have hrg : upd H8 rg (FoRg.rngC rg (s : Int) (M + 1) 2) rg = some (FoRg.rngC rg (s : Int) (M + 1) 2) := upd_same
      have s89 := s8.trans s9
      have hd9 := s89 _ _ ha
      have hL9 := hL.nld rr_solidD (same_nld s89)
      generalize upd H8 rg (FoRg.rngC rg (s : Int) (M + 1) 2) = H9 at *
      clear s8 s9 hD8 hD5 s5 f4
      refine ⟨_, rfl, rg, _, _, _, nn s m, rfl, hrg, (show RgC (s : Int) (M + 1) 2 (nn s m) from by rw [em]; exact rgC_ok s2 (by omega)), fun D2 nD2 => ?_⟩
      have nle : ∀ i, i < nn s m → s + 2 * i ≤ m := fun i hi => by unfold nn at hi; split at hi <;> omega
      have nge : ∀ i, nn s m ≤ i → m < s + 2 * i := fun i hi => by unfold nn at hi; split at hi <;> omega
      refine lc_it walk_rangeC (LInv (fun j => Rn K (coef ps (alt b (s + 2 * j)))) H9 D2) (LInv.start nD2) (fun _ _ _ _ => trivial) (fun i v H10 H11 hi h y => ?_) (fun H10 h => ?_)
      · obtain ⟨rfl, rfl⟩ := y
        have hi2 := nle i hi
        have e1 : (s : Int) + ((i : Nat) : Int) * 2 = ((s + 2 * i : Nat) : Int) := by omega
        show gName 5 (V.int ((s : Int) + (i : Int) * 2)) _ _ _
        rw [e1]
        have hd := h.1 _ _ hd9
        have hD := hL9.nld rr_solidD (same_nld h.1)
        have lz : ((if b then "pq" else "qp" : Str)).length = 2 := by cases b <;> rfl
        refine ⟨rfl, _, rfl, d, rfl, .inl ⟨kvs, .inl hd⟩, ?_⟩
        refine ⟨_, rfl, _, rfl, _, _, rfl, rfl, by omega, by omega, by omega, by omega, ?_⟩
        rw [Int.toNat_natCast]
        refine ⟨_, rfl, _, rfl, _, rfl, by rw [FoRs.repS_len, lz, sizeLine_eq]; omega, ?_⟩
        have at' := alt_text b ⟨s + 2 * i, by omega⟩
        dsimp only at at'
        rw [at']
        have hAW : alt b (s + 2 * i) ∈ AW N := mem_AW b (by omega)
        refine ⟨_, .inl ⟨kvs, .inr (tx (alt b (s + 2 * i))), .inl hd, rfl, rfl⟩, ?_⟩
        have nm : NmV K H11 ((valV kvs (.inr (tx (alt b (s + 2 * i))))).getD (.int 0)) (coef ps (alt b (s + 2 * i))) := by
          rw [← form_look (ps := ps) hAW]
          rcases hD.look (w := alt b (s + 2 * i)) with ⟨l1, l2⟩ | ⟨x, v, l1, l2, c, rfl, hb⟩
          · rw [l1, l2]
            exact .inr ⟨0, rfl, rfl⟩
          · rw [l1, l2]
            exact .inl ⟨c, rfl, hb⟩
        exact h.next (fun j => rn_solid _) nD2 (Same.refl _) nm (by omega)
      · obtain ⟨s10, vs, ev, el, hv⟩ := h
        refine pq_make (l := (List.range (nn s m)).map fun j => coef ps (alt b (s + 2 * j))) (.inl (SqL.of ev)) ⟨by rw [el]; simp, fun j v e => ?_⟩ (by simp; have := nle; unfold nn; split <;> omega) fun p H12 np s12 hp => ⟨rfl, ?_⟩
        · have hj := (List.getElem?_eq_some_iff.mp e).1
          rw [FoQ.co_map, if_pos (by omega)]
          exact hv j v e
        · have e : FoQ.trim ((List.range (nn s m)).map fun j => coef ps (alt b (s + 2 * j))) = fac ps b s 7 := by
            have e2 : FoQ.trim (fac ps b s 7) = fac ps b s 7 := FoQ.trim_idem _
            rw [← e2]
            refine FoQ.trim_ext fun i => ?_
            rw [FoQ.co_map, fac_co n12 le b s1]
            split
            · rfl
            · rename_i hi
              have h7 := nge i (by omega)
              refine Classical.byContradiction fun z => ?_
              have hAW : s + 2 * i ≤ N ∨ N < s + 2 * i := by omega
              rcases hAW with hN | hN
              · have mm := m1 _ ((mem_form (N := N) (ps := ps) (p := (alt b (s + 2 * i), coef ps (alt b (s + 2 * i))))).mpr ⟨mem_AW b hN, fun e => z e.symm, rfl⟩)
                rw [alt_len] at mm
                omega
              · exact z (long_zero le hN).symm
          rw [e] at hp
          have sA := s89.trans (s10.trans s12)
          exact q p H12 ((s89.trans s10).free np) sA hp
end

end Fo

set_option maxHeartbeats 4100000
namespace Fo
open PySem PySem.Spec PyProof.Rows L2
open FoWd
theorem PolAt.ins {K : PySem.W.Frag} {H : Hp} {p : Addr} {l : List Rat} (h : PolAt K H p l) : ∃ dx t, H p = some (.ins (PC K) dx (putF "_terms" (.ref t) [])) := let ⟨dx, t, _, e, _⟩ := h; ⟨dx, t, e⟩
theorem poly_ls {K : PySem.W.Frag} {H : Hp} {v : V} {x : Rat} (h : NmV K H v x) : Ls (Rn K) H [v] [x] := ⟨rfl, fun j u e => by
  have : j = 0 := by have := (List.getElem?_eq_some_iff.mp e).1; simpa using this
  subst this
  cases e
  exact h⟩
theorem int_ls {K : PySem.W.Frag} {H : Hp} : ∀ is : List Int, Ls (Rn K) H (is.map V.int) (is.map fun i => ((i : Int) : Rat)) := fun is => ⟨by simp, fun j u e => by
  rw [List.getElem?_map] at e
  cases h : is[j]? with
  | none => rw [h] at e; cases e
  | some i =>
    rw [h] at e
    cases e
    refine .inr ⟨i, rfl, ?_⟩
    unfold FoQ.co
    rw [List.getD_eq_getElem?_getD, List.getElem?_map, h]
    rfl⟩
section
variable {P : Program} {w : World} {K : PySem.W.Frag} {mg : Str → Option Value} {base : Heap}
theorem ok_pfactors (T : Tx K mg) : FnOk P w K mg base CX0 7 (He.ga K "plane_factors") T.fd_plane_factors ["formula"] (spPF K) := by
  refine T.F_plane_factors.ok sc_plane_factors (fun vs H Q E h => ?_) (fun cdv A outer s H vs Q E hr h => ?_)
  · obtain ⟨a, N, ps, rfl, _⟩ := h
    rfl
  · obtain ⟨a, N, ps, rfl, hF, le, n12, q⟩ := h
    refine ⟨_, (pss_cons (ps_set (i := 1) sc_plane_factors.nd rfl (.inl rfl) (pe_meth0 (pv 0) T.cl_F T.mF_terms (ok_Fterms T) (hr.mono (by decide)) T.b_Formula_terms .nil pass0))
      (pss_one (ps_ret (pe_tup (pa_cons (pe_make T.mk_P (ok_Pinit T) (hr.mono (by decide)) (by rfl) T.c_Polynomial T.b_Polynomial_init .nil pass0 (pa_cons (pe_lst (pa_cons (pe_dget2 (Nat.lt_of_le_of_lt (Nat.add_le_add_left (by decide) _) hr.units) (pv 1) pe_str pe_int ⟨by rfl, by rfl, by rfl, by rfl⟩) pa_nil)) pa_nil)) (pa_cons (pe_call (ok_factor T) (hr.mono (by decide)) (by rfl) T.g_factor_of T.F_factor_of.kp T.b_factor_of .nil pass0 (pa_cons (pv 1) (pa_cons pe_str (pa_cons pe_int pa_nil)))) (pa_cons (pe_call (ok_factor T) (hr.mono (by decide)) (by rfl) T.g_factor_of T.F_factor_of.kp T.b_factor_of .nil pass0 (pa_cons (pv 1) (pa_cons pe_str (pa_cons pe_int pa_nil)))) (pa_cons (pe_call (ok_factor T) (hr.mono (by decide)) (by rfl) T.g_factor_of T.F_factor_of.kp T.b_factor_of .nil pass0 (pa_cons (pv 1) (pa_cons pe_str (pa_cons pe_int pa_nil)))) (pa_cons (pe_call (ok_factor T) (hr.mono (by decide)) (by rfl) T.g_factor_of T.F_factor_of.kp T.b_factor_of .nil pass0 (pa_cons (pv 1) (pa_cons pe_str (pa_cons pe_int pa_nil)))) pa_nil))))))))), ?_⟩
    obtain ⟨dx, d, kd, i1, i2, i3⟩ := id hF
    refine ⟨_, rfl, a, dx, _, rfl, i1, rfl, a, form N ps, rfl, hF, fun tm H1 kt ntm s1 htm hD => ?_⟩
    have got : ∃ o, DGet H1 tm (.str (tx [])) o ∧ NmV K H1 (o.getD (.int 0)) (coef ps []) := by
      refine ⟨_, .inl ⟨kt, .inr (tx []), .inl htm, rfl, rfl⟩, ?_⟩
      have hAW : ([] : Wd) ∈ AW N := mem_AW (n := N) (m := 0) true (Nat.zero_le _)
      rw [← form_look (ps := ps) hAW]
      show NmV K H1 _ ((look (form N ps) []).getD 0)
      rcases hD.look (w := []) with ⟨l1, l2⟩ | ⟨x, v, l1, l2, b, rfl, hb⟩
      · rw [l1, l2]
        exact .inr ⟨0, rfl, rfl⟩
      · rw [l1, l2]
        exact .inl ⟨b, rfl, hb⟩
    obtain ⟨o, g1, g2⟩ := got
    refine ⟨_, rfl, tm, rfl, .inl ⟨kt, .inl htm⟩, o, g1, ?_⟩
    generalize o.getD (.int 0) = ov at *
    refine ⟨(by show 1 ≤ sizeLine; rw [sizeLine_eq]; decide), fun L nL => ?_⟩
    have s2 := Same.upd nL (o := .lst [ov])
    have hL : upd H1 L (.lst [ov]) L = some (.lst [ov]) := upd_same
    have g2 := g2.same s2
    have htm := s2 _ _ htm
    have hD := hD.nld rr_solidD (same_nld s2)
    have s12 := s1.trans s2
    generalize upd H1 L (.lst [ov]) = H2 at *
    refine pq_make (l := [coef ps []]) (.inl (SqL.of hL)) (poly_ls g2) (by show 1 ≤ 1000; decide) fun p0 H3 np0 s3 hp0 => ⟨rfl, ?_⟩
    have htm3 := s3 _ _ htm
    have hD3 := hD.nld rr_solidD (same_nld s3)
    refine ⟨_, rfl, tm, true, 1, N, kt, ps, rfl, by decide, by decide, htm3, hD3, le, n12, fun p1 H4 np1 s4 hp1 => ?_⟩
    have htm4 := s4 _ _ htm3
    have hD4 := hD3.nld rr_solidD (same_nld s4)
    refine ⟨_, rfl, tm, false, 1, N, kt, ps, rfl, by decide, by decide, htm4, hD4, le, n12, fun p2 H5 np2 s5 hp2 => ?_⟩
    have htm5 := s5 _ _ htm4
    have hD5 := hD4.nld rr_solidD (same_nld s5)
    refine ⟨_, rfl, tm, true, 2, N, kt, ps, rfl, by decide, by decide, htm5, hD5, le, n12, fun p3 H6 np3 s6 hp3 => ?_⟩
    have htm6 := s6 _ _ htm5
    have hD6 := hD5.nld rr_solidD (same_nld s6)
    refine ⟨_, rfl, tm, false, 2, N, kt, ps, rfl, by decide, by decide, htm6, hD6, le, n12, fun p4 H7 np4 s7 hp4 => ?_⟩
    refine ⟨(by show 5 ≤ sizeLine; rw [sizeLine_eq]; decide), fun t nt => ?_⟩
    have s8 := Same.upd nt (o := .tup [.ref p0, .ref p1, .ref p2, .ref p3, .ref p4])
    have sA := s12.trans (s3.trans (s4.trans (s5.trans (s6.trans s7))))
    exact q t _ p0 p1 p2 p3 p4 (sA.free nt) (sA.trans s8) upd_same (((((hp0.same s4).same s5).same s6).same s7).same s8) ((((hp1.same s5).same s6).same s7).same s8) (((hp2.same s6).same s7).same s8) ((hp3.same s7).same s8) (hp4.same s8)
end

end Fo

set_option maxHeartbeats 4100000
namespace Fo
open PySem PySem.Spec PyProof.Rows L2
open FoWd
theorem p100 {x : Nat} (h : x < 2 ^ 100) : x < 2 ^ 1900 := Nat.lt_of_lt_of_le h (Nat.pow_le_pow_right (by decide) (by decide))
theorem _root_.FoWd.Ov.sz1 {N B : Nat} {x : Rat} (h : Ov N B x) (n0 : 0 < N) (n1 : N < 2 ^ 100) (b1 : B < 2 ^ 120) : FoQ.SzR 1900 x :=
  (h.sz (k := 120) n0 (Nat.lt_of_lt_of_le n1 (Nat.pow_le_pow_right (by decide) (by decide))) b1).mono (by decide)
theorem grow_of {N B : Nat} {ps : Ps} (h : AllOv N B ps) (n0 : 0 < N) (n1 : N < 2 ^ 100) (b1 : B < 2 ^ 100) (l : ps.length ≤ 1000) : Grow 1900 ps := by
  have p : 2 ^ 100 * 1024 ≤ 2 ^ 120 := by decide
  refine ⟨fun q hq => (h q hq).sz1 n0 n1 (by omega), fun i a => ?_⟩
  refine ((coef_ov h.take a).mono (C := 1000 * B) ?_).sz1 n0 n1 (by omega)
  refine Nat.mul_le_mul ?_ (Nat.le_refl _)
  rw [List.length_take]
  omega
theorem growT_of {N B C : Nat} {t ps : Ps} (ht : AllOv N C t) (h : AllOv N B ps) (n0 : 0 < N) (n1 : N < 2 ^ 100) (b1 : B < 2 ^ 100) (c1 : C < 2 ^ 100) (l : ps.length ≤ 1000) : GrowT t ps := by
  have p : 2 ^ 100 * 1025 ≤ 2 ^ 120 := by decide
  refine ⟨fun q hq => (h q hq).sz1 n0 n1 (by omega), fun i w => ?_⟩
  refine ((accum_look h.take (look_ov ht) w).mono (C := C + 1000 * B) ?_).sz1 n0 n1 (by omega)
  refine Nat.add_le_add_left (Nat.mul_le_mul ?_ (Nat.le_refl _)) _
  rw [List.length_take]
  omega
theorem growA_of {N B C : Nat} {t ps : Ps} (hn : (FoWd.keys t).Nodup) (ht : AllOv N C t) (h : AllOv N B ps) (n0 : 0 < N) (n1 : N < 2 ^ 100) (b1 : B < 2 ^ 60) (c1 : C < 2 ^ 60) (l : ps.length ≤ 500) (l2 : t.length ≤ 500) : Grow 1900 (accum t ps) := by
  have p : 2 ^ 60 * 1025 ≤ 2 ^ 100 := by decide
  refine grow_of ((accum_ov hn ht h).mono (C := C + 500 * B) (Nat.add_le_add_left (Nat.mul_le_mul l (Nat.le_refl _)) _)) n0 n1 (by omega) ?_
  have := (accum_all hn ps).2.2.1
  omega

def pT : List Rat := FoQ.trim (([0, 1] : List Int).map fun i => ((i : Int) : Rat))
def p2 : List Rat := FoQ.trim (([2] : List Int).map fun i => ((i : Int) : Rat))
def pM : List Rat := FoQ.trim (([1, -1] : List Int).map fun i => ((i : Int) : Rat))
theorem pT_eq : pT = [0, 1] := by decide +kernel
theorem p2_eq : p2 = [2] := by decide +kernel
theorem pM_eq : pM = [1, -1] := by decide +kernel
def pTM (C : List Rat) : List Rat := FoQ.prod pT C
def pTr (A B C : List Rat) : List Rat := padd (padd A B) (FoQ.prod (pTM C) p2)
def pDe (A B C : List Rat) : List Rat := FoQ.prod (psub (FoQ.prod A B) (FoQ.prod (pTM C) C)) pM
def trP (ps : Ps) : List Rat := padd (pTr (fac ps true 1 7) (fac ps false 1 7) (fac ps true 2 7)) (FoQ.prod (FoQ.trim [coef ps []]) p2)
def deP (ps : Ps) : List Rat := padd (padd (FoQ.prod (FoQ.trim [coef ps []]) (FoQ.trim [coef ps []])) (FoQ.prod (FoQ.trim [coef ps []]) (pTr (fac ps true 1 7) (fac ps false 1 7) (fac ps true 2 7)))) (pDe (fac ps true 1 7) (fac ps false 1 7) (fac ps true 2 7))
/-- numbers small enough for a shape -/
def SmS (ps : Ps) : Prop := ∀ a, Ov 6350400 (2 ^ 33) (coef ps a)
theorem SmS.form {ps : Ps} (h : SmS ps) (N : Nat) : AllOv 6350400 (2 ^ 33) (form N ps) := fun p hp => by
  rw [(mem_form.mp hp).2.2]
  exact h _
theorem fac_po {ps : Ps} (h : SmS ps) (b : Bool) (s : Nat) : PO 6350400 (2 ^ 33) (fac ps b s 7) := fun i => by
  unfold fac
  rw [FoQ.trim_co, FoQ.co_map]
  split
  · exact h _
  · exact Ov.zero
theorem fac_len (ps : Ps) (b : Bool) (s : Nat) : (fac ps b s 7).length ≤ 7 := Nat.le_trans (FoQ.trim_len _) (by simp)
theorem con_po {ps : Ps} (h : SmS ps) : PO 6350400 (2 ^ 33) (FoQ.trim [coef ps []]) := fun i => by
  rw [FoQ.trim_co]
  unfold FoQ.co
  rcases i with _ | i
  · exact h _
  · exact Ov.zero
theorem con_len (ps : Ps) : (FoQ.trim [coef ps []]).length ≤ 1 := FoQ.trim_len _
theorem pT_po : PO 1 1 pT := fun i => by
  rw [pT_eq]
  rcases i with _ | _ | i
  · exact Ov.zero
  · exact (Ov.one : Ov 1 1 1)
  · exact Ov.zero
theorem p2_po : PO 1 2 p2 := fun i => by
  rw [p2_eq]
  rcases i with _ | i
  · exact ⟨2, by decide, by decide +kernel⟩
  · exact Ov.zero
theorem pM_po : PO 1 1 pM := fun i => by
  rw [pM_eq]
  rcases i with _ | _ | i
  · exact (Ov.one : Ov 1 1 1)
  · exact ⟨-1, by decide, by decide +kernel⟩
  · exact Ov.zero
theorem pT_len : pT.length ≤ 2 := by rw [pT_eq]; decide
theorem p2_len : p2.length ≤ 1 := by rw [p2_eq]; decide
theorem pM_len : pM.length ≤ 2 := by rw [pM_eq]; decide
section
variable {A B C : List Rat} (hA : PO 6350400 (2 ^ 33) A) (hB : PO 6350400 (2 ^ 33) B) (hC : PO 6350400 (2 ^ 33) C) (lA : A.length ≤ 7) (lB : B.length ≤ 7) (lC : C.length ≤ 7)
include hC lC in
theorem tm_po : PO 6350400 (2 ^ 34) (pTM C) ∧ (pTM C).length ≤ 9 := ⟨(po_prod pT_po hC pT_len : PO (1 * 6350400) (2 * (1 * 2 ^ 33)) _).mono (by decide), by
  have := prod_len pT C
  have := pT_len
  show (FoQ.prod pT C).length ≤ 9
  omega⟩
include hC lC in
theorem tm2_po : PO 6350400 (9 * 2 ^ 35) (FoQ.prod (pTM C) p2) ∧ (FoQ.prod (pTM C) p2).length ≤ 10 := ⟨(po_prod (tm_po hC lC).1 p2_po (tm_po hC lC).2 : PO (6350400 * 1) (9 * (2 ^ 34 * 2)) _).mono (by decide), by
  have := prod_len (pTM C) p2
  have := (tm_po hC lC).2
  have := p2_len
  omega⟩
include hA hB lA lB in
theorem ab_po : PO 6350400 (2 ^ 34) (padd A B) ∧ (padd A B).length ≤ 7 := ⟨(po_padd hA hB).mono (by decide), by
  have := padd_len A B
  omega⟩
include hA hB hC lA lB lC in
theorem tr_po : PO 6350400 (2 ^ 39) (pTr A B C) ∧ (pTr A B C).length ≤ 10 := ⟨(po_padd (ab_po hA hB lA lB).1 (tm2_po hC lC).1).mono (by decide), by
  have := padd_len (padd A B) (FoQ.prod (pTM C) p2)
  have := (ab_po hA hB lA lB).2
  have := (tm2_po hC lC).2
  show (padd _ _).length ≤ 10
  omega⟩
include hA hB lA lB in
theorem abm_po : PO (6350400 * 6350400) (7 * 2 ^ 66) (FoQ.prod A B) ∧ (FoQ.prod A B).length ≤ 14 := ⟨(po_prod hA hB lA).mono (by decide), by
  have := prod_len A B
  omega⟩
include hC lC in
theorem tmm_po : PO (6350400 * 6350400) (9 * 2 ^ 67) (FoQ.prod (pTM C) C) ∧ (FoQ.prod (pTM C) C).length ≤ 16 := ⟨(po_prod (tm_po hC lC).1 hC (tm_po hC lC).2).mono (by decide), by
  have := prod_len (pTM C) C
  have := (tm_po hC lC).2
  omega⟩
include hA hB hC lA lB lC in
theorem dif_po : PO (6350400 * 6350400) (25 * 2 ^ 66) (psub (FoQ.prod A B) (FoQ.prod (pTM C) C)) ∧ (psub (FoQ.prod A B) (FoQ.prod (pTM C) C)).length ≤ 16 := ⟨(po_psub (abm_po hA hB lA lB).1 (tmm_po hC lC).1).mono (by decide), by
  have := psub_len (FoQ.prod A B) (FoQ.prod (pTM C) C)
  have := (abm_po hA hB lA lB).2
  have := (tmm_po hC lC).2
  omega⟩
include hA hB hC lA lB lC in
theorem de_po : PO (6350400 * 6350400) (16 * (25 * 2 ^ 66)) (pDe A B C) ∧ (pDe A B C).length ≤ 18 := ⟨(po_prod (dif_po hA hB hC lA lB lC).1 pM_po (dif_po hA hB hC lA lB lC).2 : PO (6350400 * 6350400 * 1) (16 * (25 * 2 ^ 66 * 1)) _).mono (by decide), by
  have := prod_len (psub (FoQ.prod A B) (FoQ.prod (pTM C) C)) pM
  have := (dif_po hA hB hC lA lB lC).2
  have := pM_len
  show (FoQ.prod _ _).length ≤ 18
  omega⟩
variable {c : List Rat} (hc : PO 6350400 (2 ^ 33) c) (lc : c.length ≤ 1)
include hc lc in
theorem c2_po : PO 6350400 (2 ^ 34) (FoQ.prod c p2) ∧ (FoQ.prod c p2).length ≤ 2 := ⟨(po_prod hc p2_po lc : PO (6350400 * 1) (1 * (2 ^ 33 * 2)) _).mono (by decide), by
  have := prod_len c p2
  have := p2_len
  omega⟩
include hc lc in
theorem cc_po : PO (6350400 * 6350400) (2 ^ 66) (FoQ.prod c c) ∧ (FoQ.prod c c).length ≤ 2 := ⟨(po_prod hc hc lc).mono (by decide), by
  have := prod_len c c
  omega⟩
include hA hB hC lA lB lC hc lc in
theorem ctr_po : PO (6350400 * 6350400) (2 ^ 72) (FoQ.prod c (pTr A B C)) ∧ (FoQ.prod c (pTr A B C)).length ≤ 11 := ⟨(po_prod hc (tr_po hA hB hC lA lB lC).1 lc).mono (by decide), by
  have := prod_len c (pTr A B C)
  have := (tr_po hA hB hC lA lB lC).2
  omega⟩
include hA hB hC lA lB lC hc lc in
theorem cct_po : PO (6350400 * 6350400) (2 ^ 73) (padd (FoQ.prod c c) (FoQ.prod c (pTr A B C))) ∧ (padd (FoQ.prod c c) (FoQ.prod c (pTr A B C))).length ≤ 11 := ⟨(po_padd (cc_po hc lc).1 (ctr_po hA hB hC lA lB lC hc lc).1).mono (by decide), by
  have := padd_len (FoQ.prod c c) (FoQ.prod c (pTr A B C))
  have := (cc_po hc lc).2
  have := (ctr_po hA hB hC lA lB lC hc lc).2
  omega⟩
end
theorem PO.cd1 {B : Nat} {l : List Rat} (h : PO 6350400 B l) (b1 : B < 2 ^ 100) : CD 100 l := h.cd (by decide) (by decide) b1
theorem PO.cd2 {B : Nat} {l : List Rat} (h : PO (6350400 * 6350400) B l) (b1 : B < 2 ^ 100) : CD 100 l := h.cd (by decide) (by decide) b1
theorem PO.s9 {N B : Nat} {l : List Rat} (h : PO N B l) (n0 : 0 < N) (n1 : N < 2 ^ 100) (b1 : B < 2 ^ 100) : AllSz 900 l := h.sz n0 (Nat.lt_of_lt_of_le n1 (Nat.pow_le_pow_right (by decide) (by decide))) (Nat.lt_of_lt_of_le b1 (Nat.pow_le_pow_right (by decide) (by decide)))
theorem trP_ok {ps : Ps} (h : SmS ps) : AllSz 78 (trP ps) ∧ (trP ps).length ≤ 18 := by
  have tr := tr_po (fac_po h true 1) (fac_po h false 1) (fac_po h true 2) (fac_len ps true 1) (fac_len ps false 1) (fac_len ps true 2)
  have c2 := c2_po (con_po h) (con_len ps)
  refine ⟨(po_padd tr.1 c2.1).sz (by decide) (by decide) (by decide), ?_⟩
  have := padd_len (pTr (fac ps true 1 7) (fac ps false 1 7) (fac ps true 2 7)) (FoQ.prod (FoQ.trim [coef ps []]) p2)
  show (padd _ _).length ≤ 18
  omega
theorem deP_ok {ps : Ps} (h : SmS ps) : AllSz 78 (deP ps) ∧ (deP ps).length ≤ 18 := by
  have de := de_po (fac_po h true 1) (fac_po h false 1) (fac_po h true 2) (fac_len ps true 1) (fac_len ps false 1) (fac_len ps true 2)
  have ct := cct_po (fac_po h true 1) (fac_po h false 1) (fac_po h true 2) (fac_len ps true 1) (fac_len ps false 1) (fac_len ps true 2) (con_po h) (con_len ps)
  refine ⟨(po_padd ct.1 de.1).sz (by decide) (by decide) (by decide), ?_⟩
  have := padd_len (padd (FoQ.prod (FoQ.trim [coef ps []]) (FoQ.trim [coef ps []])) (FoQ.prod (FoQ.trim [coef ps []]) (pTr (fac ps true 1 7) (fac ps false 1 7) (fac ps true 2 7)))) (pDe (fac ps true 1 7) (fac ps false 1 7) (fac ps true 2 7))
  show (padd _ _).length ≤ 18
  omega
theorem hor_pT (x : Rat) : FoQ.hor x pT = x := by
  rw [pT_eq]
  show ((0 : Rat) * x + 1) * x + 0 = x
  grind
theorem hor_p2 (x : Rat) : FoQ.hor x p2 = 2 := by
  rw [p2_eq]
  show (0 : Rat) * x + 2 = 2
  grind
theorem hor_pM (x : Rat) : FoQ.hor x pM = 1 - x := by
  rw [pM_eq]
  show ((0 : Rat) * x + -1) * x + 1 = 1 - x
  grind
theorem hor_con (x : Rat) (c : Rat) : FoQ.hor x (FoQ.trim [c]) = c := by
  rw [FoQ.hor_trim]
  show (0 : Rat) * x + c = c
  grind
theorem hor_fac (x : Rat) (ps : Ps) (b : Bool) (s : Nat) : FoQ.hor x (fac ps b s 7) = ev x (cf ps b s) 7 := by
  unfold fac
  rw [FoQ.hor_trim, hor_ev]
  rw [List.length_map, List.length_range]
  exact ev_congr _ fun i hi => by rw [FoQ.co_map, if_pos hi]; rfl
theorem sh_altR (b : Bool) (n : Nat) : sh (alt b n) = alt b n := AW_sh (mem_AW b (Nat.le_refl n))
theorem rev_even : ∀ m, (alt true (2 * m)).reverse = alt false (2 * m)
  | 0 => rfl
  | m + 1 => by
    have e : alt true (2 * (m + 1)) = true :: false :: alt true (2 * m) := rfl
    have n1 : ∀ m, nxt false (2 * m) = false ∧ nxt false (2 * m + 1) = true := fun m => by
      unfold nxt
      exact ⟨if_pos (by omega), if_neg (by omega)⟩
    rw [e, List.reverse_cons, List.reverse_cons, rev_even m, show 2 * (m + 1) = 2 * m + 1 + 1 by omega, alt_snoc, alt_snoc, (n1 m).1, (n1 m).2]
theorem coef_turnR (ps : Ps) (m : Nat) : coef (turn ps) (alt true (2 * m)) = coef ps (alt false (2 * m)) := by
  unfold coef
  rw [lin_turn]
  refine lin_congr fun p _ => ?_
  rw [rev_ind _ _ (sh_altR _ _), rev_even, sh_altR]
/-- the worths of a shape on a plane -/
theorem shape_plane {ps : Ps} (le : Le 14 ps) (ev2 : form 14 ps = form 14 (turn ps)) (x : Rat) : FoQ.hor (pcos x * pcos x) (trP ps) = vent 2 planeP (planeQ x) (form 14 ps) 0 0 + vent 2 planeP (planeQ x) (form 14 ps) 1 1 ∧
    FoQ.hor (pcos x * pcos x) (deP ps) = vent 2 planeP (planeQ x) (form 14 ps) 0 0 * vent 2 planeP (planeQ x) (form 14 ps) 1 1 - vent 2 planeP (planeQ x) (form 14 ps) 0 1 * vent 2 planeP (planeQ x) (form 14 ps) 1 0 := by
  obtain ⟨v1, v2⟩ := plane_vals x ps 7
  have sym : ∀ i, cf ps true 2 i = cf ps false 2 i := fun i => by
    unfold cf
    have e := congrArg (fun f => coef f (alt true (2 + 2 * i))) ev2
    have e : coef (form 14 ps) (alt true (2 + 2 * i)) = coef (form 14 (turn ps)) (alt true (2 + 2 * i)) := e
    rw [coef_form le, coef_form (le_turn le), show 2 + 2 * i = 2 * (i + 1) by omega, coef_turnR] at e
    rw [show 2 + 2 * i = 2 * (i + 1) by omega]
    exact e
  have eC : ev (pcos x * pcos x) (cf ps true 2) 7 = ev (pcos x * pcos x) (cf ps false 2) 7 := ev_congr _ fun i _ => sym i
  have v2 := v2 eC _ _ _ _ _ rfl rfl rfl rfl rfl
  rw [← eC] at v1
  constructor
  · rw [v1]
    unfold trP pTr pTM
    rw [hor_padd, hor_padd, hor_padd, hor_prod, hor_prod, hor_prod, hor_pT, hor_p2, hor_con, hor_fac, hor_fac, hor_fac]
    generalize pcos x * pcos x = t
    grind
  · rw [v2]
    unfold deP pTr pDe pTM
    rw [hor_padd, hor_padd, hor_prod, hor_prod, hor_padd, hor_padd, hor_prod, hor_prod, hor_prod, hor_psub, hor_prod, hor_prod, hor_prod, hor_pT, hor_p2, hor_pM, hor_con, hor_fac, hor_fac, hor_fac]

end Fo

set_option maxHeartbeats 4100000
namespace Fo
open PySem PySem.Spec PyProof.Rows L2
open FoWd
def spShape (K : PySem.W.Frag) : Sp := fun vs H Q _ => ∃ (a : Addr) (N : Nat) (ps : Ps), vs = [.ref a] ∧ FmAt K H a (form N ps) ∧ Le N ps ∧ N ≤ 12 ∧ SmS ps ∧ form N ps = form N (turn ps) ∧
  ∀ t H' p0 p1, H t = none → Same H H' → H' t = some (.tup [.ref p0, .ref p1]) → PolAt K H' p0 (trP ps) → PolAt K H' p1 (deP ps) → Q (.ref t) H'
theorem pmulQ {K : PySem.W.Frag} {H : Hp} {a b : Addr} {x z : List Rat} {Q : VK} {E : XK} (ha : PolAt K H a x) (hb : PolAt K H b z) (cx : CD 100 x) (cz : CD 100 z) (lx : x.length ≤ 20) (lz : z.length ≤ 20) (q : ∀ p H', H p = none → Same H H' → PolAt K H' p (FoQ.prod x z) → Q (.ref p) H') :
    FoA.rBin (PC K) (spPMul K) E (.ref a) (.ref b) H Q := by
  obtain ⟨dx, t, i1⟩ := ha.ins
  obtain ⟨dy, u, j1⟩ := hb.ins
  exact ⟨a, dx, _, rfl, i1, .inr ⟨b, dy, _, rfl, j1⟩, a, b, x, z, rfl, ha, hb, cx, cz, lx, lz, q⟩
theorem pl2Q {K : PySem.W.Frag} {f : List Rat → List Rat → List Rat} {H : Hp} {a b : Addr} {x z : List Rat} {Q : VK} {E : XK} (ha : PolAt K H a x) (hb : PolAt K H b z) (cx : AllSz 900 x) (cz : AllSz 900 z) (lx : x.length ≤ 500) (lz : z.length ≤ 500) (q : ∀ p H', H p = none → Same H H' → PolAt K H' p (f x z) → Q (.ref p) H') :
    FoA.rBin (PC K) (spP2 K f 900 500) E (.ref a) (.ref b) H Q := by
  obtain ⟨dx, t, i1⟩ := ha.ins
  obtain ⟨dy, u, j1⟩ := hb.ins
  exact ⟨a, dx, _, rfl, i1, .inr ⟨b, dy, _, rfl, j1⟩, a, b, x, z, rfl, ha, hb, cx, cz, lx, lz, q⟩
theorem nil_k28 {σ : List (Option V)} {H : Hp} {k : List V → Hp → Prop} (h : k [] H) : tNil σ H k := h
theorem mir_pre {K : PySem.W.Frag} {H : Hp} {a : Addr} {N : Nat} {ps : Ps} {Q : VK} {E : XK} (hF : FmAt K H a (form N ps)) (le : Le N ps) (n12 : N ≤ 12) (hs : SmS ps) (q : ∀ H', Same H H' → Q (.bl (decide (form N ps = form N (turn ps)))) H') : spFIsM K [.ref a] H Q E := by
  have o := hs.form N
  have fl := form_len N ps
  refine ⟨a, ps, N, rfl, hF, by omega, by omega, fun p hp => (o p hp).sz1 (by decide) (by decide) (by decide), grow_of o.turn (by decide) (by decide) (by decide) (by show (List.map _ _).length ≤ 1000; rw [List.length_map]; omega), ?_⟩
  rw [form_turn le]
  exact q
section
variable {P : Program} {w : World} {K : PySem.W.Frag} {mg : Str → Option Value} {base : Heap}
theorem ok_shape (T : Tx K mg) : FnOk P w K mg base CX0 12 (He.ga K "shape") T.fd_shape ["formula"] (spShape K) := by
  refine T.F_shape.ok sc_shape (fun vs H Q E h => ?_) (fun cdv A outer s H vs Q E hr h => ?_)
  · obtain ⟨a, N, ps, rfl, _⟩ := h
    rfl
  · obtain ⟨a, N, ps, rfl, hF, le, n12, hs, hev, q⟩ := h
    refine ⟨_, (pss_cons (ps_if (pt_not (pt_val (pe_meth0 (pv 0) T.cl_F T.mF_is_mirror (ok_Fismir T) (hr.mono (by decide)) T.b_Formula_is_mirror .nil pass0))) (pss_one ps_never) pss_nil)
      (pss_cons (ps_asg (pe_call (ok_pfactors T) (hr.mono (by decide)) (by rfl) T.g_plane_factors T.F_plane_factors.kp T.b_plane_factors .nil pass0 (pa_cons (pv 0) pa_nil)) (pg_tup (by rfl) (pgs_cons (pg_name (i := 1) sc_shape.nd rfl (.inl rfl)) (pgs_cons (pg_name (i := 2) sc_shape.nd rfl (.inl rfl)) (pgs_cons (pg_name (i := 3) sc_shape.nd rfl (.inl rfl)) (pgs_cons (pg_name (i := 4) sc_shape.nd rfl (.inl rfl)) (pgs_cons (pg_name (i := 5) sc_shape.nd rfl (.inl rfl)) pgs_nil)))))))
      (pss_cons (ps_set (i := 6) sc_shape.nd rfl (.inl rfl) (pe_make T.mk_P (ok_Pinit T) (hr.mono (by decide)) (by rfl) T.c_Polynomial T.b_Polynomial_init .nil pass0 (pa_cons (pe_lst (pa_cons pe_int (pa_cons pe_int pa_nil))) pa_nil)))
      (pss_cons (ps_set (i := 7) sc_shape.nd rfl (.inl rfl) (pe_op (FoA.op_own (ok_Padd T) (hr.mono (by decide)) T.b_Polynomial_add pass0 T.biP_add FoN.int_add FoN.int_addR) (pe_op (FoA.op_own (ok_Padd T) (hr.mono (by decide)) T.b_Polynomial_add pass0 T.biP_add FoN.int_add FoN.int_addR) (pv 2) (pv 3)) (pe_op (FoA.op_own (ok_Pmul T) (hr.mono (by decide)) T.b_Polynomial_mul pass0 T.biP_mul FoN.int_mul FoN.int_mulR) (pe_op (FoA.op_own (ok_Pmul T) (hr.mono (by decide)) T.b_Polynomial_mul pass0 T.biP_mul FoN.int_mul FoN.int_mulR) (pv 6) (pv 4)) (pe_make T.mk_P (ok_Pinit T) (hr.mono (by decide)) (by rfl) T.c_Polynomial T.b_Polynomial_init .nil pass0 (pa_cons (pe_lst (pa_cons pe_int pa_nil)) pa_nil)))))
      (pss_cons (ps_set (i := 8) sc_shape.nd rfl (.inl rfl) (pe_op (FoA.op_own (ok_Pmul T) (hr.mono (by decide)) T.b_Polynomial_mul pass0 T.biP_mul FoN.int_mul FoN.int_mulR) (pe_op (FoA.op_own (ok_Psub T) (hr.mono (by decide)) T.b_Polynomial_sub pass0 T.biP_sub FoN.int_sub FoN.int_subR) (pe_op (FoA.op_own (ok_Pmul T) (hr.mono (by decide)) T.b_Polynomial_mul pass0 T.biP_mul FoN.int_mul FoN.int_mulR) (pv 2) (pv 3)) (pe_op (FoA.op_own (ok_Pmul T) (hr.mono (by decide)) T.b_Polynomial_mul pass0 T.biP_mul FoN.int_mul FoN.int_mulR) (pe_op (FoA.op_own (ok_Pmul T) (hr.mono (by decide)) T.b_Polynomial_mul pass0 T.biP_mul FoN.int_mul FoN.int_mulR) (pv 6) (pv 4)) (pv 4))) (pe_make T.mk_P (ok_Pinit T) (hr.mono (by decide)) (by rfl) T.c_Polynomial T.b_Polynomial_init .nil pass0 (pa_cons (pe_lst (pa_cons pe_int (pa_cons (pe_un un_neg pe_int) pa_nil))) pa_nil))))
      (pss_one (ps_ret (pe_tup (pa_cons (pe_op (FoA.op_own (ok_Padd T) (hr.mono (by decide)) T.b_Polynomial_add pass0 T.biP_add FoN.int_add FoN.int_addR) (pv 7) (pe_op (FoA.op_own (ok_Pmul T) (hr.mono (by decide)) T.b_Polynomial_mul pass0 T.biP_mul FoN.int_mul FoN.int_mulR) (pv 1) (pe_make T.mk_P (ok_Pinit T) (hr.mono (by decide)) (by rfl) T.c_Polynomial T.b_Polynomial_init .nil pass0 (pa_cons (pe_lst (pa_cons pe_int pa_nil)) pa_nil)))) (pa_cons (pe_op (FoA.op_own (ok_Padd T) (hr.mono (by decide)) T.b_Polynomial_add pass0 T.biP_add FoN.int_add FoN.int_addR) (pe_op (FoA.op_own (ok_Padd T) (hr.mono (by decide)) T.b_Polynomial_add pass0 T.biP_add FoN.int_add FoN.int_addR) (pe_op (FoA.op_own (ok_Pmul T) (hr.mono (by decide)) T.b_Polynomial_mul pass0 T.biP_mul FoN.int_mul FoN.int_mulR) (pv 1) (pv 1)) (pe_op (FoA.op_own (ok_Pmul T) (hr.mono (by decide)) T.b_Polynomial_mul pass0 T.biP_mul FoN.int_mul FoN.int_mulR) (pv 1) (pv 7))) (pv 8)) pa_nil)))))))))), ?_⟩
    obtain ⟨dx, d, kd, i1, i2, i3⟩ := id hF
    refine ⟨_, rfl, a, dx, _, rfl, i1, rfl, ?_⟩
    refine nil_k28 ?_
    refine mir_pre hF le n12 hs fun H1 s1 => ⟨_, rfl, ?_⟩
    rw [decide_eq_true hev]
    refine iteF ?_
    refine ⟨_, rfl, a, N, ps, rfl, hF.same s1, le, n12, fun tt H2 p0 pa pb pc pd ntt s2 htt h0 h1 h2 h3 h4 => ?_⟩
    refine ⟨tt, _, rfl, SqT.of htt, rfl, _, _, rfl, _, _, rfl, _, _, rfl, _, _, rfl, _, _, rfl, rfl, ?_⟩
    clear htt
    have A1 := fac_po hs true 1
    have B1 := fac_po hs false 1
    have C1 := fac_po hs true 2
    have lA := fac_len ps true 1
    have lB := fac_len ps false 1
    have lC := fac_len ps true 2
    have c1 := con_po hs
    have lc := con_len ps
    -- angle number
    refine ⟨(by show 2 ≤ sizeLine; rw [sizeLine_eq]; decide), fun L nL => ?_⟩
    have s3 := Same.upd nL (o := .lst [.int 0, .int 1])
    have hL : upd H2 L (.lst [.int 0, .int 1]) L = some (.lst [.int 0, .int 1]) := upd_same
    have h0 := h0.same s3
    have h1 := h1.same s3
    have h2 := h2.same s3
    have h3 := h3.same s3
    have s13 := s1.trans (s2.trans s3)
    generalize upd H2 L (.lst [.int 0, .int 1]) = H3 at *
    refine pq_make (.inl (SqL.of hL)) (int_ls [0, 1]) (by decide) fun pt H4 npt s4 hpt => ⟨rfl, ?_⟩
    have h0 := h0.same s4
    have h1 := h1.same s4
    have h2 := h2.same s4
    have h3 := h3.same s4
    have s14 := s13.trans s4
    clear hL s13
    -- trace
    refine ⟨_, rfl, _, rfl, pl2Q h1 h2 (A1.s9 (by decide) (by decide) (by decide)) (B1.s9 (by decide) (by decide) (by decide)) (Nat.le_trans lA (by decide)) (Nat.le_trans lB (by decide)) fun q1 H5 nq1 s5 hq1 => ?_⟩
    have h0 := h0.same s5
    have h1 := h1.same s5
    have h2 := h2.same s5
    have h3 := h3.same s5
    have hpt := hpt.same s5
    have s15 := s14.trans s5
    have cC := C1.cd1 (by decide)
    have cT : CD 100 pT := pT_po.cd (by decide) (by decide) (by decide)
    have tm := tm_po C1 lC
    have tm2 := tm2_po C1 lC
    have lT := pT_len
    refine ⟨_, rfl, _, rfl, pmulQ hpt h3 cT cC (Nat.le_trans pT_len (by decide)) (Nat.le_trans lC (by decide)) fun q2 H6 nq2 s6 hq2 => ?_⟩
    have h0 := h0.same s6
    have h1 := h1.same s6
    have h2 := h2.same s6
    have h3 := h3.same s6
    have hpt := hpt.same s6
    have hq1 := hq1.same s6
    have s16 := s15.trans s6
    refine ⟨(by show 1 ≤ sizeLine; rw [sizeLine_eq]; decide), fun L nL => ?_⟩
    have sL := Same.upd nL (o := .lst [.int 2])
    have hL : upd H6 L (.lst [.int 2]) L = some (.lst [.int 2]) := upd_same
    have h0 := h0.same sL
    have h1 := h1.same sL
    have h2 := h2.same sL
    have h3 := h3.same sL
    have hpt := hpt.same sL
    have hq1 := hq1.same sL
    have hq2 := hq2.same sL
    have s16L := s16.trans sL
    generalize upd H6 L (.lst [.int 2]) = G6 at *
    refine pq_make (.inl (SqL.of hL)) (int_ls [2]) (by decide) fun pa2 H7 npa2 s7 hpa2 => ⟨rfl, ?_⟩
    have h0 := h0.same s7
    have h1 := h1.same s7
    have h2 := h2.same s7
    have h3 := h3.same s7
    have hpt := hpt.same s7
    have hq1 := hq1.same s7
    have hq2 := hq2.same s7
    have s17 := s16L.trans s7
    clear hL
    refine pmulQ hq2 hpa2 (tm.1.cd1 (by decide)) (p2_po.cd (by decide) (by decide) (by decide)) (Nat.le_trans tm.2 (by decide)) (Nat.le_trans p2_len (by decide)) fun q3 H8 nq3 s8 hq3 => ?_
    have h0 := h0.same s8
    have h1 := h1.same s8
    have h2 := h2.same s8
    have h3 := h3.same s8
    have hpt := hpt.same s8
    have hq1 := hq1.same s8
    have s18 := s17.trans s8
    have ab := ab_po A1 B1 lA lB
    have tr := tr_po A1 B1 C1 lA lB lC
    refine pl2Q hq1 hq3 (ab.1.s9 (by decide) (by decide) (by decide)) (tm2.1.s9 (by decide) (by decide) (by decide)) (Nat.le_trans ab.2 (by decide)) (Nat.le_trans tm2.2 (by decide)) fun qt H9 nqt s9 hqt => ?_
    have h0 := h0.same s9
    have h1 := h1.same s9
    have h2 := h2.same s9
    have h3 := h3.same s9
    have hpt := hpt.same s9
    have s19 := s18.trans s9
    have abm := abm_po A1 B1 lA lB
    have tmm := tmm_po C1 lC
    have dif := dif_po A1 B1 C1 lA lB lC
    have de := de_po A1 B1 C1 lA lB lC
    refine ⟨_, rfl, _, rfl, pmulQ h1 h2 (A1.cd1 (by decide)) (B1.cd1 (by decide)) (Nat.le_trans lA (by decide)) (Nat.le_trans lB (by decide)) fun r1 H10 nr1 s10 hr1 => ?_⟩
    have h0 := h0.same s10
    have h1 := h1.same s10
    have h2 := h2.same s10
    have h3 := h3.same s10
    have hpt := hpt.same s10
    have hqt := hqt.same s10
    have s110 := s19.trans s10
    refine ⟨_, rfl, _, rfl, pmulQ hpt h3 cT cC (Nat.le_trans pT_len (by decide)) (Nat.le_trans lC (by decide)) fun r2 H11 nr2 s11 hr2 => ?_⟩
    have h0 := h0.same s11
    have h3 := h3.same s11
    have hqt := hqt.same s11
    have hr1 := hr1.same s11
    have s111 := s110.trans s11
    refine ⟨_, rfl, pmulQ hr2 h3 (tm.1.cd1 (by decide)) cC (Nat.le_trans tm.2 (by decide)) (Nat.le_trans lC (by decide)) fun r3 H12 nr3 s12 hr3 => ?_⟩
    have h0 := h0.same s12
    have hqt := hqt.same s12
    have hr1 := hr1.same s12
    have s112 := s111.trans s12
    refine pl2Q hr1 hr3 (abm.1.s9 (by decide) (by decide) (by decide)) (tmm.1.s9 (by decide) (by decide) (by decide)) (Nat.le_trans abm.2 (by decide)) (Nat.le_trans tmm.2 (by decide)) fun r4 H13 nr4 s13 hr4 => ?_
    have h0 := h0.same s13
    have hqt := hqt.same s13
    have s113 := s112.trans s13
    refine ⟨_, rfl, (by show 2 ≤ sizeLine; rw [sizeLine_eq]; decide), fun L nL => ?_⟩
    have sL := Same.upd nL (o := .lst [.int 1, .int (-1)])
    have hL : upd H13 L (.lst [.int 1, .int (-1)]) L = some (.lst [.int 1, .int (-1)]) := upd_same
    have h0 := h0.same sL
    have hqt := hqt.same sL
    have hr4 := hr4.same sL
    have s113L := s113.trans sL
    generalize upd H13 L (.lst [.int 1, .int (-1)]) = G13 at *
    refine pq_make (.inl (SqL.of hL)) (int_ls [1, -1]) (by decide) fun pm1 H14 npm1 s14 hpm1 => ⟨rfl, ?_⟩
    have h0 := h0.same s14
    have hqt := hqt.same s14
    have hr4 := hr4.same s14
    have s114 := s113L.trans s14
    clear hL
    refine pmulQ hr4 hpm1 (dif.1.cd2 (by decide)) (pM_po.cd (by decide) (by decide) (by decide)) (Nat.le_trans dif.2 (by decide)) (Nat.le_trans pM_len (by decide)) fun rd H15 nrd s15 hrd => ?_
    have h0 := h0.same s15
    have hqt := hqt.same s15
    have s115 := s114.trans s15
    have c2 := c2_po c1 lc
    have cc := cc_po c1 lc
    have ct := ctr_po A1 B1 C1 lA lB lC c1 lc
    have cct := cct_po A1 B1 C1 lA lB lC c1 lc
    refine ⟨_, rfl, _, rfl, (by show 1 ≤ sizeLine; rw [sizeLine_eq]; decide), fun L nL => ?_⟩
    have sL := Same.upd nL (o := .lst [.int 2])
    have hL : upd H15 L (.lst [.int 2]) L = some (.lst [.int 2]) := upd_same
    have h0 := h0.same sL
    have hqt := hqt.same sL
    have hrd := hrd.same sL
    have s115L := s115.trans sL
    generalize upd H15 L (.lst [.int 2]) = G15 at *
    refine pq_make (.inl (SqL.of hL)) (int_ls [2]) (by decide) fun pb2 H16 npb2 s16 hpb2 => ⟨rfl, ?_⟩
    have h0 := h0.same s16
    have hqt := hqt.same s16
    have hrd := hrd.same s16
    have s116 := s115L.trans s16
    clear hL
    refine pmulQ h0 hpb2 (c1.cd1 (by decide)) (p2_po.cd (by decide) (by decide) (by decide)) (Nat.le_trans lc (by decide)) (Nat.le_trans p2_len (by decide)) fun t1 H17 nt1 s17 ht1 => ?_
    have h0 := h0.same s17
    have hqt := hqt.same s17
    have hrd := hrd.same s17
    have s117 := s116.trans s17
    refine pl2Q hqt ht1 (tr.1.s9 (by decide) (by decide) (by decide)) (c2.1.s9 (by decide) (by decide) (by decide)) (Nat.le_trans tr.2 (by decide)) (Nat.le_trans c2.2 (by decide)) fun t2 H18 nt2 s18 ht2 => ?_
    have h0 := h0.same s18
    have hqt := hqt.same s18
    have hrd := hrd.same s18
    have s118 := s117.trans s18
    refine ⟨_, rfl, _, rfl, pmulQ h0 h0 (c1.cd1 (by decide)) (c1.cd1 (by decide)) (Nat.le_trans lc (by decide)) (Nat.le_trans lc (by decide)) fun t3 H19 nt3 s19 ht3 => ?_⟩
    have h0 := h0.same s19
    have hqt := hqt.same s19
    have hrd := hrd.same s19
    have ht2 := ht2.same s19
    have s119 := s118.trans s19
    refine ⟨_, rfl, _, rfl, pmulQ h0 hqt (c1.cd1 (by decide)) (tr.1.cd1 (by decide)) (Nat.le_trans lc (by decide)) (Nat.le_trans tr.2 (by decide)) fun t4 H20 nt4 s20 ht4 => ?_⟩
    have hrd := hrd.same s20
    have ht2 := ht2.same s20
    have ht3 := ht3.same s20
    have s120 := s119.trans s20
    refine pl2Q ht3 ht4 (cc.1.s9 (by decide) (by decide) (by decide)) (ct.1.s9 (by decide) (by decide) (by decide)) (Nat.le_trans cc.2 (by decide)) (Nat.le_trans ct.2 (by decide)) fun t5 H21 nt5 s21 ht5 => ?_
    have hrd := hrd.same s21
    have ht2 := ht2.same s21
    have s121 := s120.trans s21
    refine ⟨_, rfl, pl2Q ht5 hrd (cct.1.s9 (by decide) (by decide) (by decide)) (de.1.s9 (by decide) (by decide) (by decide)) (Nat.le_trans cct.2 (by decide)) (Nat.le_trans de.2 (by decide)) fun t6 H22 nt6 s22 ht6 => ?_⟩
    have ht2 := ht2.same s22
    have s122 := s121.trans s22
    refine ⟨(by show 2 ≤ sizeLine; rw [sizeLine_eq]; decide), fun t nt => ?_⟩
    have s23 := Same.upd nt (o := .tup [.ref t2, .ref t6])
    exact q t _ t2 t6 (s122.free nt) (s122.trans s23) upd_same (ht2.same s23) (ht6.same s23)
end

end Fo

set_option maxHeartbeats 4100000
namespace Fo
open PySem PySem.Spec PyProof.Rows L2
open FoWd
def spShapeB (K : PySem.W.Frag) : Sp := fun vs H Q E => ∃ (a : Addr) (N : Nat) (ps : Ps), vs = [.ref a] ∧ FmAt K H a (form N ps) ∧ Le N ps ∧ N ≤ 12 ∧ SmS ps ∧
  (form N ps = form N (turn ps) → ∀ t H' p0 p1, H t = none → Same H H' → H' t = some (.tup [.ref p0, .ref p1]) → PolAt K H' p0 (trP ps) → PolAt K H' p1 (deP ps) → Q (.ref t) H') ∧
  (¬ form N ps = form N (turn ps) → ∀ H', Same H H' → E (.ref (He.ga K "NotMirror")) none H')
def spTold (K : PySem.W.Frag) : Sp := fun vs H Q _ => ∃ (a : Addr) (N : Nat) (ps : Ps), vs = [.ref a] ∧ FmAt K H a (form N ps) ∧ Le N ps ∧ N ≤ 12 ∧ SmS ps ∧
  (form N ps = form N (turn ps) → ∀ t H' p0 p1, H t = none → Same H H' → H' t = some (.tup [.ref p0, .ref p1]) → PolAt K H' p0 (trP ps) → PolAt K H' p1 (deP ps) → Q (.ref t) H') ∧
  (¬ form N ps = form N (turn ps) → ∀ H', Same H H' → Q .non H')
section
variable {P : Program} {w : World} {K : PySem.W.Frag} {mg : Str → Option Value} {base : Heap}
theorem ok_shapeB (T : Tx K mg) : FnOk P w K mg base (L2.CX P w) 12 (He.ga K "shape") T.fd_shape ["formula"] (spShapeB K) := by
  refine T.F_shape.okX sc_shape (fun vs H Q E h => ?_) (fun cdv A outer s H vs Q E hr h => ?_)
  · obtain ⟨a, N, ps, rfl, _⟩ := h
    rfl
  · obtain ⟨a, N, ps, rfl, hF, le, n12, hs, q, qx⟩ := h
    refine ⟨_, (pss_cons (ps_if (pt_not (pt_val (pe_meth0 (pv 0) T.cl_F T.mF_is_mirror (ok_Fismir T) (hr.mono (by decide)) T.b_Formula_is_mirror .nil pass0))) (pss_one (ps_raise rfl (takes_of rfl rfl rfl rfl) (FoB.pmk_own0 T.e_NotMirror T.c_NotMirror rfl))) pss_nil)
      (pss_cons (ps_asg (pe_call (ok_pfactors T) (hr.mono (by decide)) (by rfl) T.g_plane_factors T.F_plane_factors.kp T.b_plane_factors .nil pass0 (pa_cons (pv 0) pa_nil)) (pg_tup (by rfl) (pgs_cons (pg_name (i := 1) sc_shape.nd rfl (.inl rfl)) (pgs_cons (pg_name (i := 2) sc_shape.nd rfl (.inl rfl)) (pgs_cons (pg_name (i := 3) sc_shape.nd rfl (.inl rfl)) (pgs_cons (pg_name (i := 4) sc_shape.nd rfl (.inl rfl)) (pgs_cons (pg_name (i := 5) sc_shape.nd rfl (.inl rfl)) pgs_nil)))))))
      (pss_cons (ps_set (i := 6) sc_shape.nd rfl (.inl rfl) (pe_make T.mk_P (ok_Pinit T) (hr.mono (by decide)) (by rfl) T.c_Polynomial T.b_Polynomial_init .nil pass0 (pa_cons (pe_lst (pa_cons pe_int (pa_cons pe_int pa_nil))) pa_nil)))
      (pss_cons (ps_set (i := 7) sc_shape.nd rfl (.inl rfl) (pe_op (FoA.op_own (ok_Padd T) (hr.mono (by decide)) T.b_Polynomial_add pass0 T.biP_add FoN.int_add FoN.int_addR) (pe_op (FoA.op_own (ok_Padd T) (hr.mono (by decide)) T.b_Polynomial_add pass0 T.biP_add FoN.int_add FoN.int_addR) (pv 2) (pv 3)) (pe_op (FoA.op_own (ok_Pmul T) (hr.mono (by decide)) T.b_Polynomial_mul pass0 T.biP_mul FoN.int_mul FoN.int_mulR) (pe_op (FoA.op_own (ok_Pmul T) (hr.mono (by decide)) T.b_Polynomial_mul pass0 T.biP_mul FoN.int_mul FoN.int_mulR) (pv 6) (pv 4)) (pe_make T.mk_P (ok_Pinit T) (hr.mono (by decide)) (by rfl) T.c_Polynomial T.b_Polynomial_init .nil pass0 (pa_cons (pe_lst (pa_cons pe_int pa_nil)) pa_nil)))))
      (pss_cons (ps_set (i := 8) sc_shape.nd rfl (.inl rfl) (pe_op (FoA.op_own (ok_Pmul T) (hr.mono (by decide)) T.b_Polynomial_mul pass0 T.biP_mul FoN.int_mul FoN.int_mulR) (pe_op (FoA.op_own (ok_Psub T) (hr.mono (by decide)) T.b_Polynomial_sub pass0 T.biP_sub FoN.int_sub FoN.int_subR) (pe_op (FoA.op_own (ok_Pmul T) (hr.mono (by decide)) T.b_Polynomial_mul pass0 T.biP_mul FoN.int_mul FoN.int_mulR) (pv 2) (pv 3)) (pe_op (FoA.op_own (ok_Pmul T) (hr.mono (by decide)) T.b_Polynomial_mul pass0 T.biP_mul FoN.int_mul FoN.int_mulR) (pe_op (FoA.op_own (ok_Pmul T) (hr.mono (by decide)) T.b_Polynomial_mul pass0 T.biP_mul FoN.int_mul FoN.int_mulR) (pv 6) (pv 4)) (pv 4))) (pe_make T.mk_P (ok_Pinit T) (hr.mono (by decide)) (by rfl) T.c_Polynomial T.b_Polynomial_init .nil pass0 (pa_cons (pe_lst (pa_cons pe_int (pa_cons (pe_un un_neg pe_int) pa_nil))) pa_nil))))
      (pss_one (ps_ret (pe_tup (pa_cons (pe_op (FoA.op_own (ok_Padd T) (hr.mono (by decide)) T.b_Polynomial_add pass0 T.biP_add FoN.int_add FoN.int_addR) (pv 7) (pe_op (FoA.op_own (ok_Pmul T) (hr.mono (by decide)) T.b_Polynomial_mul pass0 T.biP_mul FoN.int_mul FoN.int_mulR) (pv 1) (pe_make T.mk_P (ok_Pinit T) (hr.mono (by decide)) (by rfl) T.c_Polynomial T.b_Polynomial_init .nil pass0 (pa_cons (pe_lst (pa_cons pe_int pa_nil)) pa_nil)))) (pa_cons (pe_op (FoA.op_own (ok_Padd T) (hr.mono (by decide)) T.b_Polynomial_add pass0 T.biP_add FoN.int_add FoN.int_addR) (pe_op (FoA.op_own (ok_Padd T) (hr.mono (by decide)) T.b_Polynomial_add pass0 T.biP_add FoN.int_add FoN.int_addR) (pe_op (FoA.op_own (ok_Pmul T) (hr.mono (by decide)) T.b_Polynomial_mul pass0 T.biP_mul FoN.int_mul FoN.int_mulR) (pv 1) (pv 1)) (pe_op (FoA.op_own (ok_Pmul T) (hr.mono (by decide)) T.b_Polynomial_mul pass0 T.biP_mul FoN.int_mul FoN.int_mulR) (pv 1) (pv 7))) (pv 8)) pa_nil)))))))))), ?_⟩
    obtain ⟨dx, d, kd, i1, i2, i3⟩ := id hF
    refine ⟨_, rfl, a, dx, _, rfl, i1, rfl, ?_⟩
    refine nil_k28 ?_
    refine mir_pre hF le n12 hs fun H1 s1 => ⟨_, rfl, ?_⟩
    by_cases hev : form N ps = form N (turn ps)
    · rw [decide_eq_true hev]
      refine iteF ?_
      refine ⟨_, rfl, a, N, ps, rfl, hF.same s1, le, n12, fun tt H2 p0 pa pb pc pd ntt s2 htt h0 h1 h2 h3 h4 => ?_⟩
      refine ⟨tt, _, rfl, SqT.of htt, rfl, _, _, rfl, _, _, rfl, _, _, rfl, _, _, rfl, _, _, rfl, rfl, ?_⟩
      clear htt
      have A1 := fac_po hs true 1
      have B1 := fac_po hs false 1
      have C1 := fac_po hs true 2
      have lA := fac_len ps true 1
      have lB := fac_len ps false 1
      have lC := fac_len ps true 2
      have c1 := con_po hs
      have lc := con_len ps
      -- angle number
      refine ⟨(by show 2 ≤ sizeLine; rw [sizeLine_eq]; decide), fun L nL => ?_⟩
      have s3 := Same.upd nL (o := .lst [.int 0, .int 1])
      have hL : upd H2 L (.lst [.int 0, .int 1]) L = some (.lst [.int 0, .int 1]) := upd_same
      have h0 := h0.same s3
      have h1 := h1.same s3
      have h2 := h2.same s3
      have h3 := h3.same s3
      have s13 := s1.trans (s2.trans s3)
      generalize upd H2 L (.lst [.int 0, .int 1]) = H3 at *
      refine pq_make (.inl (SqL.of hL)) (int_ls [0, 1]) (by decide) fun pt H4 npt s4 hpt => ⟨rfl, ?_⟩
      have h0 := h0.same s4
      have h1 := h1.same s4
      have h2 := h2.same s4
      have h3 := h3.same s4
      have s14 := s13.trans s4
      clear hL s13
      -- trace
      refine ⟨_, rfl, _, rfl, pl2Q h1 h2 (A1.s9 (by decide) (by decide) (by decide)) (B1.s9 (by decide) (by decide) (by decide)) (Nat.le_trans lA (by decide)) (Nat.le_trans lB (by decide)) fun q1 H5 nq1 s5 hq1 => ?_⟩
      have h0 := h0.same s5
      have h1 := h1.same s5
      have h2 := h2.same s5
      have h3 := h3.same s5
      have hpt := hpt.same s5
      have s15 := s14.trans s5
      have cC := C1.cd1 (by decide)
      have cT : CD 100 pT := pT_po.cd (by decide) (by decide) (by decide)
      have tm := tm_po C1 lC
      have tm2 := tm2_po C1 lC
      have lT := pT_len
      refine ⟨_, rfl, _, rfl, pmulQ hpt h3 cT cC (Nat.le_trans pT_len (by decide)) (Nat.le_trans lC (by decide)) fun q2 H6 nq2 s6 hq2 => ?_⟩
      have h0 := h0.same s6
      have h1 := h1.same s6
      have h2 := h2.same s6
      have h3 := h3.same s6
      have hpt := hpt.same s6
      have hq1 := hq1.same s6
      have s16 := s15.trans s6
      refine ⟨(by show 1 ≤ sizeLine; rw [sizeLine_eq]; decide), fun L nL => ?_⟩
      have sL := Same.upd nL (o := .lst [.int 2])
      have hL : upd H6 L (.lst [.int 2]) L = some (.lst [.int 2]) := upd_same
      have h0 := h0.same sL
      have h1 := h1.same sL
      have h2 := h2.same sL
      have h3 := h3.same sL
      have hpt := hpt.same sL
      have hq1 := hq1.same sL
      have hq2 := hq2.same sL
      have s16L := s16.trans sL
      generalize upd H6 L (.lst [.int 2]) = G6 at *
      refine pq_make (.inl (SqL.of hL)) (int_ls [2]) (by decide) fun pa2 H7 npa2 s7 hpa2 => ⟨rfl, ?_⟩
      have h0 := h0.same s7
      have h1 := h1.same s7
      have h2 := h2.same s7
      have h3 := h3.same s7
      have hpt := hpt.same s7
      have hq1 := hq1.same s7
      have hq2 := hq2.same s7
      have s17 := s16L.trans s7
      clear hL
      refine pmulQ hq2 hpa2 (tm.1.cd1 (by decide)) (p2_po.cd (by decide) (by decide) (by decide)) (Nat.le_trans tm.2 (by decide)) (Nat.le_trans p2_len (by decide)) fun q3 H8 nq3 s8 hq3 => ?_
      have h0 := h0.same s8
      have h1 := h1.same s8
      have h2 := h2.same s8
      have h3 := h3.same s8
      have hpt := hpt.same s8
      have hq1 := hq1.same s8
      have s18 := s17.trans s8
      have ab := ab_po A1 B1 lA lB
      have tr := tr_po A1 B1 C1 lA lB lC
      refine pl2Q hq1 hq3 (ab.1.s9 (by decide) (by decide) (by decide)) (tm2.1.s9 (by decide) (by decide) (by decide)) (Nat.le_trans ab.2 (by decide)) (Nat.le_trans tm2.2 (by decide)) fun qt H9 nqt s9 hqt => ?_
      have h0 := h0.same s9
      have h1 := h1.same s9
      have h2 := h2.same s9
      have h3 := h3.same s9
      have hpt := hpt.same s9
      have s19 := s18.trans s9
      have abm := abm_po A1 B1 lA lB
      have tmm := tmm_po C1 lC
      have dif := dif_po A1 B1 C1 lA lB lC
      have de := de_po A1 B1 C1 lA lB lC
      refine ⟨_, rfl, _, rfl, pmulQ h1 h2 (A1.cd1 (by decide)) (B1.cd1 (by decide)) (Nat.le_trans lA (by decide)) (Nat.le_trans lB (by decide)) fun r1 H10 nr1 s10 hr1 => ?_⟩
      have h0 := h0.same s10
      have h1 := h1.same s10
      have h2 := h2.same s10
      have h3 := h3.same s10
      have hpt := hpt.same s10
      have hqt := hqt.same s10
      have s110 := s19.trans s10
      refine ⟨_, rfl, _, rfl, pmulQ hpt h3 cT cC (Nat.le_trans pT_len (by decide)) (Nat.le_trans lC (by decide)) fun r2 H11 nr2 s11 hr2 => ?_⟩
      have h0 := h0.same s11
      have h3 := h3.same s11
      have hqt := hqt.same s11
      have hr1 := hr1.same s11
      have s111 := s110.trans s11
      refine ⟨_, rfl, pmulQ hr2 h3 (tm.1.cd1 (by decide)) cC (Nat.le_trans tm.2 (by decide)) (Nat.le_trans lC (by decide)) fun r3 H12 nr3 s12 hr3 => ?_⟩
      have h0 := h0.same s12
      have hqt := hqt.same s12
      have hr1 := hr1.same s12
      have s112 := s111.trans s12
      refine pl2Q hr1 hr3 (abm.1.s9 (by decide) (by decide) (by decide)) (tmm.1.s9 (by decide) (by decide) (by decide)) (Nat.le_trans abm.2 (by decide)) (Nat.le_trans tmm.2 (by decide)) fun r4 H13 nr4 s13 hr4 => ?_
      have h0 := h0.same s13
      have hqt := hqt.same s13
      have s113 := s112.trans s13
      refine ⟨_, rfl, (by show 2 ≤ sizeLine; rw [sizeLine_eq]; decide), fun L nL => ?_⟩
      have sL := Same.upd nL (o := .lst [.int 1, .int (-1)])
      have hL : upd H13 L (.lst [.int 1, .int (-1)]) L = some (.lst [.int 1, .int (-1)]) := upd_same
      have h0 := h0.same sL
      have hqt := hqt.same sL
      have hr4 := hr4.same sL
      have s113L := s113.trans sL
      generalize upd H13 L (.lst [.int 1, .int (-1)]) = G13 at *
      refine pq_make (.inl (SqL.of hL)) (int_ls [1, -1]) (by decide) fun pm1 H14 npm1 s14 hpm1 => ⟨rfl, ?_⟩
      have h0 := h0.same s14
      have hqt := hqt.same s14
      have hr4 := hr4.same s14
      have s114 := s113L.trans s14
      clear hL
      refine pmulQ hr4 hpm1 (dif.1.cd2 (by decide)) (pM_po.cd (by decide) (by decide) (by decide)) (Nat.le_trans dif.2 (by decide)) (Nat.le_trans pM_len (by decide)) fun rd H15 nrd s15 hrd => ?_
      have h0 := h0.same s15
      have hqt := hqt.same s15
      have s115 := s114.trans s15
      have c2 := c2_po c1 lc
      have cc := cc_po c1 lc
      have ct := ctr_po A1 B1 C1 lA lB lC c1 lc
      have cct := cct_po A1 B1 C1 lA lB lC c1 lc
      refine ⟨_, rfl, _, rfl, (by show 1 ≤ sizeLine; rw [sizeLine_eq]; decide), fun L nL => ?_⟩
      have sL := Same.upd nL (o := .lst [.int 2])
      have hL : upd H15 L (.lst [.int 2]) L = some (.lst [.int 2]) := upd_same
      have h0 := h0.same sL
      have hqt := hqt.same sL
      have hrd := hrd.same sL
      have s115L := s115.trans sL
      generalize upd H15 L (.lst [.int 2]) = G15 at *
      refine pq_make (.inl (SqL.of hL)) (int_ls [2]) (by decide) fun pb2 H16 npb2 s16 hpb2 => ⟨rfl, ?_⟩
      have h0 := h0.same s16
      have hqt := hqt.same s16
      have hrd := hrd.same s16
      have s116 := s115L.trans s16
      clear hL
      refine pmulQ h0 hpb2 (c1.cd1 (by decide)) (p2_po.cd (by decide) (by decide) (by decide)) (Nat.le_trans lc (by decide)) (Nat.le_trans p2_len (by decide)) fun t1 H17 nt1 s17 ht1 => ?_
      have h0 := h0.same s17
      have hqt := hqt.same s17
      have hrd := hrd.same s17
      have s117 := s116.trans s17
      refine pl2Q hqt ht1 (tr.1.s9 (by decide) (by decide) (by decide)) (c2.1.s9 (by decide) (by decide) (by decide)) (Nat.le_trans tr.2 (by decide)) (Nat.le_trans c2.2 (by decide)) fun t2 H18 nt2 s18 ht2 => ?_
      have h0 := h0.same s18
      have hqt := hqt.same s18
      have hrd := hrd.same s18
      have s118 := s117.trans s18
      refine ⟨_, rfl, _, rfl, pmulQ h0 h0 (c1.cd1 (by decide)) (c1.cd1 (by decide)) (Nat.le_trans lc (by decide)) (Nat.le_trans lc (by decide)) fun t3 H19 nt3 s19 ht3 => ?_⟩
      have h0 := h0.same s19
      have hqt := hqt.same s19
      have hrd := hrd.same s19
      have ht2 := ht2.same s19
      have s119 := s118.trans s19
      refine ⟨_, rfl, _, rfl, pmulQ h0 hqt (c1.cd1 (by decide)) (tr.1.cd1 (by decide)) (Nat.le_trans lc (by decide)) (Nat.le_trans tr.2 (by decide)) fun t4 H20 nt4 s20 ht4 => ?_⟩
      have hrd := hrd.same s20
      have ht2 := ht2.same s20
      have ht3 := ht3.same s20
      have s120 := s119.trans s20
      refine pl2Q ht3 ht4 (cc.1.s9 (by decide) (by decide) (by decide)) (ct.1.s9 (by decide) (by decide) (by decide)) (Nat.le_trans cc.2 (by decide)) (Nat.le_trans ct.2 (by decide)) fun t5 H21 nt5 s21 ht5 => ?_
      have hrd := hrd.same s21
      have ht2 := ht2.same s21
      have s121 := s120.trans s21
      refine ⟨_, rfl, pl2Q ht5 hrd (cct.1.s9 (by decide) (by decide) (by decide)) (de.1.s9 (by decide) (by decide) (by decide)) (Nat.le_trans cct.2 (by decide)) (Nat.le_trans de.2 (by decide)) fun t6 H22 nt6 s22 ht6 => ?_⟩
      have ht2 := ht2.same s22
      have s122 := s121.trans s22
      refine ⟨(by show 2 ≤ sizeLine; rw [sizeLine_eq]; decide), fun t nt => ?_⟩
      have s23 := Same.upd nt (o := .tup [.ref t2, .ref t6])
      exact q hev t _ t2 t6 (s122.free nt) (s122.trans s23) upd_same (ht2.same s23) (ht6.same s23)
    · rw [decide_eq_false hev]
      refine iteT ?_
      exact qx hev _ s1
theorem ok_told (T : Tx K mg) : FnOk P w K mg base CX0 13 (He.ga K "_law_shape_told") T.fd_shape_told ["_law_formula_here"] (spTold K) := by
  refine T.F_shape_told.ok sc_shape_told (fun vs H Q E h => ?_) (fun cdv A outer s H vs Q E hr h => ?_)
  · obtain ⟨a, N, ps, rfl, _⟩ := h
    rfl
  · obtain ⟨a, N, ps, rfl, hF, le, n12, hs, q, qx⟩ := h
    refine ⟨_, (pss_one (ps_try_only (Wout := fun _ _ _ _ => False) rfl rfl ⟨rfl, by decide, Or.inl T.c_NotMirror⟩ takes0 (fun W pn xe tk _ => pss_one (ps_ret (pe_callS (ok_shapeB T) (hr.mono (by decide)) (by rfl) T.g_shape T.F_shape.kp T.b_shape (fun σ => passAt tk σ) (pa_cons (pv 0) pa_nil)))) (fun a oe cls d pn hz hf => pss_one (ps_ret pe_non)))), ?_⟩
    refine ⟨_, rfl, a, N, ps, rfl, hF, le, n12, hs, q, fun hn H' s' => ?_⟩
    exact ⟨true, T.e_NotMirror.me, fun _ x3 nx3 => qx hn _ s', fun z => nomatch z⟩
end

end Fo



set_option maxHeartbeats 4100000
namespace Fo
open PySem PySem.Spec PyProof.Rows L2
/-! ### the law's form -/
open FoWd
/-- a pair of a row and a fraction -/
def PrAt (H : Hp) (v : V) (p : Wd × Rat) : Prop := ∃ q t, v = .ref q ∧ H q = some (.tup [.str (tx p.1), .ref t]) ∧ FrQ H t p.2
/-- a list of them -/
def LP (H : Hp) (a : Addr) (ps : Ps) : Prop := ∃ vs, H a = some (.lst vs) ∧ Paired (PrAt H) vs ps
theorem PrAt.nld {H H' : Hp} {v : V} {p : Wd × Rat} (h : PrAt H v p) (s : NLD H H') : PrAt H' v p := by
  obtain ⟨q, t, e1, e2, e3⟩ := h
  exact ⟨q, t, e1, s _ _ e2 trivial, s _ _ e3 trivial⟩
theorem LP.same {H H' : Hp} {a : Addr} {ps : Ps} (h : LP H a ps) (s : Same H H') : LP H' a ps := by
  obtain ⟨vs, e, hp⟩ := h
  exact ⟨vs, s _ _ e, Paired.mapP hp fun v p q => q.nld (same_nld s)⟩
def spFormL : Sp := fun vs H Q _ => ∃ (a : Addr) (ps : Ps) (N : Nat), vs = [.ref a] ∧ LP H a ps ∧ Le N ps ∧ N ≤ 30 ∧ ps.length ≤ 200 ∧ Grow 1900 ps ∧
  ∀ p H' kvs, H p = none → Same H H' → H' p = some (.dK kvs) → DL Rq H' kvs (form N ps) → Q (.ref p) H'
theorem tx_at0 {w : Wd} : (tx w).length = w.length := tx_len w
section
variable {P : Program} {w : World} {K : PySem.W.Frag} {mg : Str → Option Value} {base : Heap}
theorem ok_formL (T : Tx K mg) : FnOk P w K mg base CX0 3 (He.ga K "_law_form") T.fd_form ["_law_pairs"] spFormL := by
  refine T.F_form.ok sc_form (fun vs H Q E h => ?_) (fun cdv A outer s H vs Q E hr h => ?_)
  · obtain ⟨a, ps, N, rfl, _⟩ := h
    rfl
  · obtain ⟨a, ps, N, rfl, ⟨vs, ha, hL⟩, hN, n30, l200, hG, Qr⟩ := h
    refine ⟨_, (pss_cons (ps_set (i := 1) sc_form.nd rfl (.inl rfl) pe_dnewK)
      (pss_cons (ps_for PassesOwn.never rfl (pi_list (pv 0)) (pg_tup (by rfl) (pgs_cons (pg_name (i := 2) sc_form.nd rfl (.inl rfl)) (pgs_cons (pg_name (i := 3) sc_form.nd rfl (.inl rfl)) pgs_nil))) (pss_cons (ps_set (i := 4) sc_form.nd rfl (.inl rfl) (pe_call (ok_shortL T) (hr.mono (by decide)) (by rfl) T.g_short T.F_short.kp T.b_short .nil pass0 (pa_cons (pv 2) pa_nil)))
      (pss_one (ps_dput (Nat.lt_of_le_of_lt (Nat.add_le_add_left (by decide) _) hr.units) (pv 1) (pv 4) (pe_call (ok_plusQ T) (hr.mono (by decide)) (by rfl) T.g_plus T.F_plus.kp T.b_plus .nil pass0 (pa_cons (pe_dget2 (Nat.lt_of_le_of_lt (Nat.add_le_add_left (by decide) _) hr.units) (pv 1) (pv 4) (pe_tup (pa_cons pe_int (pa_cons pe_int pa_nil))) ⟨by rfl, by rfl, by rfl, by rfl⟩) (pa_cons (pv 3) pa_nil))) rfl))))
      (pss_cons (ps_set (i := 5) sc_form.nd rfl (.inl rfl) pe_dnewK)
      (pss_cons (ps_for PassesOwn.never rfl (pi_range1 (by rfl) T.z_range (pa_cons pe_int pa_nil)) (pg_name (i := 6) sc_form.nd rfl (.inl rfl)) (pss_one (ps_for PassesOwn.never rfl (pi_list (pe_callB cr_sortedS (by rfl) T.z_sorted (by decide +kernel) (pa_cons (pe_lc (own := [("_law_key", 4)]) (g := gName 4) rfl sc_form.nd (pi_list (pe_callTy (call_list_dK (by rfl)) (by rfl) T.z_list (by decide +kernel) (pa_cons (pv 1) pa_nil))) (blkOk_by (own := [("_law_key", 4)]) (N := ["_law_pairs", "_law_found", "_law_row_here", "_law_x", "_law_key", "_law_made", "_law_size"]) (sc := defScope s_form) (by decide +kernel)) (fun _ _ _ _ _ => (pg_name (i := 4) sc_form.nd rfl (.inl rfl))) (fun _ _ _ _ _ => pts_nil) (fun _ _ _ _ _ => (pe_callTy SkE.call_str_str (by rfl) T.z_str (by decide +kernel) (pa_cons (pv 4) pa_nil)))) pa_nil))) (pg_name (i := 2) sc_form.nd rfl (.inl rfl)) (pss_one (ps_if (PW.pt (pw_and (pt_cmpR op_eq (pe_callB call_len_str (by rfl) T.z_len PySem.boot_len (pa_cons (pv 2) pa_nil)) (pv 6) (nomark _)) (pw_and1 (pt_cmpR op_ne (pe_ix ix_tup (pe_dget (Nat.lt_of_le_of_lt (Nat.add_le_add_left (by decide) _) hr.units) (pv 1) (pv 2) (fun _ _ => rfl)) pe_int (fun _ _ => rfl)) pe_int (nomark _))))) (pss_one (ps_dput (Nat.lt_of_le_of_lt (Nat.add_le_add_left (by decide) _) hr.units) (pv 5) (pv 2) (pe_dget (Nat.lt_of_le_of_lt (Nat.add_le_add_left (by decide) _) hr.units) (pv 1) (pv 2) (fun _ _ => rfl)) rfl)) pss_nil)))))
      (pss_one (ps_ret (pv 5))))))), ?_⟩
    have lv : vs.length = ps.length := Paired.length hL
    refine fun p np => ?_
    have s0 := Same.upd np (o := .dK [])
    have p0 : upd H p (.dK []) p = some (.dK []) := upd_same
    generalize upd H p (.dK []) = H1 at *
    refine ⟨_, rfl, a, rfl, ⟨_, SqL.of (s0 _ _ ha)⟩, ?_⟩
    refine for_list (xs := vs) (fun i σ H2 => ∃ kt o2 o3 o4, σ = [some (.ref a), some (.ref p), o2, o3, o4, none, none] ∧ H2 p = some (.dK kt) ∧ DL Rq H2 kt (gath (ps.take i)) ∧ Same H H2)
      ⟨[], none, none, none, rfl, p0, .nil, s0⟩ (fun i σ H2 _ ⟨_, _, _, _, _, _, _, h⟩ => SqL.of (h _ _ ha)) ?_ ?_
    · rintro i v σ H3 ev ⟨kt, o2, o3, o4, rfl, hp, hD, hs⟩
      obtain ⟨q, eq, tq, r, rfl, hq, hr⟩ := paired_get hL ev
      obtain ⟨qw, qx⟩ := q
      dsimp only at hq hr
      have mq := List.mem_of_getElem? eq
      have z1 := hG.1 _ mq
      have z2 := hG.2 i (sh qw)
      have lw : qw.length ≤ 1000 := Nat.le_trans (hN _ mq) (by omega)
      refine ⟨tq, _, rfl, SqT.of (hs _ _ hq), rfl, _, _, rfl, _, _, rfl, rfl, _, rfl, qw, rfl, lw, ?_⟩
      refine ⟨_, rfl, p, rfl, .inl ⟨kt, .inl hp⟩, _, rfl, (by show 2 ≤ sizeLine; rw [sizeLine_eq]; decide), fun p0 np0 => ?_⟩
      have s4 := Same.upd np0 (o := .tup [.int 0, .int 1])
      have h0 : FrQ (upd H3 p0 (.tup [.int 0, .int 1])) p0 0 := upd_same
      generalize upd H3 p0 (.tup [.int 0, .int 1]) = H4 at *
      have hp4 := s4 _ _ hp
      have hr4 : FrQ H4 r qx := s4 _ _ (hs _ _ hr)
      have got : ∃ o, DGet H4 p (.str (tx (sh qw))) o ∧ ∃ b, o.getD (.ref p0) = .ref b ∧ FrQ H4 b (coef (ps.take i) (sh qw)) := by
        refine ⟨_, .inl ⟨kt, .inr (tx (sh qw)), .inl hp4, rfl, rfl⟩, ?_⟩
        rw [← (gath_all (ps.take i)).2.1 (sh qw)]
        rcases hD.look (w := sh qw) with ⟨l1, l2⟩ | ⟨x, v, l1, l2, b, rfl, hb⟩
        · rw [l1, l2]
          exact ⟨p0, rfl, h0⟩
        · rw [l1, l2]
          exact ⟨b, rfl, s4 _ _ hb⟩
      obtain ⟨o, g1, b, g2, hb⟩ := got
      refine ⟨o, g1, ?_⟩
      rw [g2]
      refine ⟨_, rfl, b, r, _, _, rfl, hb, hr4, z2, z1, fun p5 np5 => ?_⟩
      have s5 := Same.upd np5 (o := qt (coef (ps.take i) (sh qw) + qx))
      have h5 : FrQ (upd H4 p5 (qt (coef (ps.take i) (sh qw) + qx))) p5 (coef (ps.take i) (sh qw) + qx) := upd_same
      generalize upd H4 p5 (qt (coef (ps.take i) (sh qw) + qx)) = H5 at *
      have hp5 := s5 _ _ hp4
      refine ⟨_, rfl, _, rfl, p, _, rfl, .inl ⟨kt, .inr (tx (sh qw)), hp5, rfl, ?_, rfl⟩, _, _, _, _, rfl, upd_same, ?_, fun b o e => ?_⟩
      · have z := gath_len (ps.take i)
        rw [← hD.len, List.length_take] at z
        rw [sizeLine_eq]
        omega
      · rw [gath_take eq]
        unfold addAt
        rw [(gath_all (ps.take i)).2.1]
        exact DL.put ((hD.nld rq_solidD (same_nld (s4.trans s5))).nld rq_solidD (nld_upd hp5 id)) (gath_all (ps.take i)).1 ⟨p5, rfl, nld_upd hp5 id _ _ h5 trivial⟩
      · rw [upd_ne (fun z => by rw [z, np] at e; cases e)]
        exact s5 _ _ (s4 _ _ (hs b o e))
    · rintro σ H2 ⟨kt, o2, o3, o4, rfl, hp, hD, hs⟩
      rw [lv, List.take_length] at hD
      refine fun p2 np2 => ?_
      have p2p : p2 ≠ p := fun z => by rw [z, hp] at np2; cases np2
      have s1 := Same.upd np2 (o := .dK [])
      have m0 : upd H2 p2 (.dK []) p2 = some (.dK []) := upd_same
      have hp1 := s1 _ _ hp
      have hD1 := hD.nld rq_solidD (same_nld s1)
      have hs1 : Same H (upd H2 p2 (.dK [])) := hs.trans s1
      have np2H : H p2 = none := hs.free np2
      clear hD
      generalize upd H2 p2 (.dK []) = H3 at *
      have frise := form_rising N ps
      have kn := (gath_all ps).1
      refine ⟨40, rfl, by decide, by decide, ?_⟩
      refine for_range (n := 40) (fun s σ H4 => ∃ km o2 o3 o4 o6, σ = [some (.ref a), some (.ref p), o2, o3, o4, some (.ref p2), o6] ∧ H4 p2 = some (.dK km) ∧ DL Rq H4 km (below s (form N ps)) ∧ But p2 H3 H4)
        ⟨[], _, _, _, _, rfl, m0, by rw [below_zero]; exact .nil, fun b o e n => e⟩ ?_ ?_
      · rintro s σ H4 hs40 ⟨km, o2, o3, o4, o6, rfl, hm, hM, b4⟩
        have hp4 := b4 _ _ hp1 (Ne.symm p2p)
        have n4 : NLD H3 H4 := fun b o e fi => b4 _ _ e (fun z => by rw [z, m0] at e; cases e; exact fi)
        have hD4 := hD1.nld rq_solidD n4
        refine ⟨_, rfl, p, kt, rfl, hp4, fun q1 nq1 => ?_⟩
        have q1p2 : q1 ≠ p2 := fun z => by rw [z, hm] at nq1; cases nq1
        have s5 := Same.upd nq1 (o := .lst (kt.map fun kv => kV kv.1))
        have g5 : upd H4 q1 (.lst (kt.map fun kv => kV kv.1)) q1 = some (.lst (kt.map fun kv => kV kv.1)) := upd_same
        generalize upd H4 q1 (.lst (kt.map fun kv => kV kv.1)) = H5 at *
        have ek : (kt.map fun kv => kV kv.1) = ((FoWd.keys (gath ps)).map tx).map V.str := by
          have z := hD4.keys
          have z2 : (kt.map fun kv => kV kv.1) = (kt.map (·.1)).map kV := by rw [List.map_map]; rfl
          rw [z2, z, List.map_map, List.map_map]
          rfl
        rw [ek] at g5
        have hm5 := s5 _ _ hm
        have hp5 := s5 _ _ hp4
        have b5 : But p2 H3 H5 := fun b o e n => s5 _ _ (b4 b o e n)
        have hM5 := hM.nld rq_solidD (same_nld s5)
        have hD5 := hD4.nld rq_solidD (same_nld s5)
        clear hm hp4 b4 hM hD4 n4
        refine ⟨q1, rfl, ⟨_, SqL.of g5⟩, fun D nD => ?_⟩
        refine lc_list (fun i H' => H' D = some (.lst ((((FoWd.keys (gath ps)).map tx).take i).map V.str)) ∧ Same H5 H') ⟨upd_same, Same.upd nD⟩ (fun i H' _ h => SqL.of (h.2 _ _ g5)) (fun i x H6 ex h => ?_) (fun H6 h => ?_)
        · obtain ⟨hD6, s6⟩ := h
          rw [List.getElem?_map] at ex
          obtain ⟨z, ez⟩ : ∃ z, ((FoWd.keys (gath ps)).map tx)[i]? = some z := by
            cases e : ((FoWd.keys (gath ps)).map tx)[i]? with
            | none => rw [e] at ex; cases ex
            | some z => exact ⟨z, rfl⟩
          rw [ez] at ex
          cases ex
          refine ⟨rfl, _, rfl, z, rfl, _, hD6, ?_, ?_, fun b o e => ?_⟩
          · have := keys_len hN
            rw [List.length_map, List.length_take, List.length_map, sizeLine_eq]
            omega
          · rw [upd_same, List.take_add_one, ez, List.map_append]
            rfl
          · rw [upd_ne (ne_of_none e nD)]
            exact s6 _ _ e
        · obtain ⟨hD6, s6⟩ := h
          rw [List.length_map, ← List.length_map (f := V.str), List.take_of_length_le (by simp)] at hD6
          have kl := keys_len hN
          refine ⟨D, _, rfl, SqL.of hD6, by rw [List.length_map]; omega, fun ys q2 perm hsort nq2 => ?_⟩
          obtain ⟨k', pk, rfl⟩ := perm_tx perm
          have s7 := Same.upd nq2 (o := .lst ((k'.map tx).map V.str))
          have g7 : upd H6 q2 (.lst ((k'.map tx).map V.str)) q2 = some (.lst ((k'.map tx).map V.str)) := upd_same
          have s67 := s6.trans s7
          generalize upd H6 q2 (.lst ((k'.map tx).map V.str)) = H7 at *
          have hm7 := s67 _ _ hm5
          have q2p2 : q2 ≠ p2 := fun z => by
            rw [z, s6 _ _ hm5] at nq2
            cases nq2
          have b7 : But p2 H3 H7 := fun b o e n => s67 _ _ (b5 b o e n)
          have nk' : k'.Nodup := pk.nodup_iff.mpr kn
          refine ⟨q2, rfl, ⟨_, SqL.of g7⟩, ?_⟩
          refine for_list (xs := (k'.map tx).map V.str) (fun j σ H8 => ∃ km o2, σ = [some (.ref a), some (.ref p), o2, o3, o4, some (.ref p2), some (.int (0 + s))] ∧ H8 p2 = some (.dK km) ∧ DL Rq H8 km (below s (form N ps) ++ (k'.take j).filterMap (sel ps s)) ∧ But p2 H7 H8)
            ⟨km, o2, rfl, hm7, by rw [List.take_zero, List.filterMap_nil, List.append_nil]; exact hM5.nld rq_solidD (same_nld s67), fun b o e n => e⟩ (fun j σ H8 _ ⟨_, _, _, _, _, h⟩ => SqL.of (h _ _ g7 q2p2)) ?_ ?_
          · rintro j v σ H8 ev ⟨km, o2, rfl, hm8, hM8, b8⟩
            rw [List.getElem?_map, List.getElem?_map] at ev
            obtain ⟨wd, ew⟩ : ∃ wd, k'[j]? = some wd := by
              cases e : k'[j]? with
              | none => rw [e] at ev; cases ev
              | some z => exact ⟨z, rfl⟩
            rw [ew] at ev
            cases ev
            have mw : wd ∈ FoWd.keys (gath ps) := pk.mem_iff.mp (List.mem_of_getElem? ew)
            have lw := AW_len (gath_aw hN wd mw)
            have n8 : NLD H5 H8 := fun b o e fi => b8 _ _ (s67 _ _ e) (fun z => by rw [z, hm5] at e; cases e; exact fi)
            have hp8 : H8 p = some (.dK kt) := b8 _ _ (s67 _ _ hp5) (Ne.symm p2p)
            have hD8 := hD5.nld rq_solidD n8
            obtain ⟨v, l2, b, rfl, hb⟩ : ∃ v, valV kt (.inr (tx wd)) = some v ∧ Rq (coef ps wd) H8 v := by
              rcases hD8.look (w := wd) with ⟨l1, _⟩ | ⟨x, v, l1, l2, hv⟩
              · rw [gath_at mw] at l1
                cases l1
              · rw [gath_at mw] at l1
                cases l1
                exact ⟨v, l2, hv⟩
            have gd : DGet H8 p (.str (tx wd)) (some (.ref b)) := .inl ⟨kt, .inr (tx wd), .inl hp8, rfl, l2.symm⟩
            have tk2 := fm_take (f := sel ps s) ew
            refine ⟨_, rfl, tx wd, rfl, by rw [tx_len, sizeLine_eq]; omega, _, rfl, rfl, _, rfl, ?_⟩
            rw [tx_len]
            by_cases c1 : wd.length = s
            · have e1 : decide (V.int (wd.length : Int) = .int (0 + (s : Int))) = true := decide_eq_true (by rw [c1, Int.zero_add])
              rw [e1]
              refine iteT ?_
              refine ⟨_, rfl, _, rfl, p, .ref b, rfl, gd, b, _, 0, _, rfl, rfl, SqT.of hb, rfl, rfl, _, rfl, ?_⟩
              by_cases c0 : coef ps wd = 0
              · have e2 : decide (V.int (coef ps wd).num = .int 0) = true := decide_eq_true (by rw [c0]; rfl)
                rw [e2]
                refine iteF ⟨km, _, rfl, hm8, ?_, b8⟩
                rw [tk2, show sel ps s wd = none by unfold sel; rw [if_pos c1, if_pos c0]]
                simpa using hM8
              · have e2 : decide (V.int (coef ps wd).num = .int 0) = false := decide_eq_false fun z => c0 (Rat.num_eq_zero.mp (V.int.inj z))
                rw [e2]
                refine iteT ⟨_, rfl, _, rfl, p, .ref b, rfl, gd, _, rfl, _, rfl, p2, _, rfl, .inl ⟨km, .inr (tx wd), hm8, rfl, ?_, rfl⟩, _, _, rfl, upd_same, ?_, fun b2 o2 e2 n2 => ?_⟩
                · have z1 := hM8.len
                  have z2 := List.length_filterMap_le (sel ps s) (k'.take j)
                  have z3 : (below s (form N ps)).length ≤ 61 := Nat.le_trans (List.length_filter_le _ _) (Nat.le_trans (form_len N ps) (by omega))
                  have z4 := pk.length_eq
                  rw [List.length_take] at z2
                  rw [List.length_append] at z1
                  rw [sizeLine_eq]
                  omega
                · rw [tk2, show sel ps s wd = some (wd, coef ps wd) by unfold sel; rw [if_pos c1, if_neg c0]]
                  have fresh : wd ∉ FoWd.keys (below s (form N ps) ++ (k'.take j).filterMap (sel ps s)) := by
                    intro hm
                    unfold FoWd.keys at hm
                    rw [List.map_append] at hm
                    rcases List.mem_append.mp hm with hm | hm
                    · obtain ⟨pr, hpr, e1⟩ := List.mem_map.mp hm
                      have := of_decide_eq_true (List.mem_filter.mp hpr).2
                      rw [e1] at this
                      omega
                    · obtain ⟨pr, hpr, e1⟩ := List.mem_map.mp hm
                      obtain ⟨a2, ha2, e2⟩ := List.mem_filterMap.mp hpr
                      have e3 : a2 = wd := by
                        unfold sel at e2
                        split at e2
                        · split at e2
                          · cases e2
                          · cases e2
                            exact e1
                        · cases e2
                      subst e3
                      obtain ⟨j2, hj2, ej⟩ := List.mem_take_iff_getElem.mp ha2
                      obtain ⟨i3, i4⟩ := List.getElem?_eq_some_iff.mp ew
                      exact (List.pairwise_iff_getElem.mp nk') j2 j (by omega) i3 (by omega) (ej.trans i4.symm)
                  have nk : valV km (.inr (tx wd)) = none := by
                    rcases hM8.look (w := wd) with ⟨_, z⟩ | ⟨x, v, l1, _⟩
                    · exact z
                    · rw [look_none fresh] at l1; cases l1
                  rw [putK_new _ nk, Option.toList_some, ← List.append_assoc]
                  exact DL.snoc (hM8.nld rq_solidD (nld_upd hm8 id)) ⟨b, rfl, nld_upd hm8 id _ _ hb trivial⟩
                · rw [upd_ne n2]
                  exact b8 _ _ e2 n2
            · have e1 : decide (V.int (wd.length : Int) = .int (0 + (s : Int))) = false := decide_eq_false fun z => c1 (by have := V.int.inj z; omega)
              rw [e1]
              refine iteF ⟨km, _, rfl, hm8, ?_, b8⟩
              rw [tk2, show sel ps s wd = none by unfold sel; rw [if_neg c1]]
              simpa using hM8
          · rintro σ H8 ⟨km, o2, rfl, hm8, hM8, b8⟩
            rw [List.length_map, List.length_map, List.take_length, sel_slice hN pk hsort, ← below_next frise] at hM8
            exact ⟨km, _, _, _, _, rfl, hm8, hM8, fun b o e n => b8 _ _ (b7 _ _ e n) n⟩
      · rintro σ H4 ⟨km, o2, o3, o4, o6, rfl, hm, hM, b4⟩
        rw [below_all (fun p hp => by have := form_le N ps p hp; omega)] at hM
        refine ⟨_, rfl, Qr p2 H4 km np2H (fun b o e => b4 _ _ (hs1 _ _ e) (fun z => by rw [z, np2H] at e; cases e)) hm hM⟩
end

end Fo

/-! join, told of a frame that does not name the block; lengths of joined texts. -/
namespace FoJ2
open PySem PySem.Spec PyProof.Rows L2
theorem pe_joinK {X : Cx} {K' : PySem.W.Frag} {o e : Expr} {to te : TE} {apos pos : Pos} (hK : X.K = K') (ho : PE X o to) (he : PE X e te) (hs : starEach [e] X.env = [(false, eval e X.env)] := by rfl) (hbase : attributeBase o "join" X.env (eval o X.env) = eval o X.env := by rfl) (hline : (apos.endLine == pos.line) = true := by rfl) :
    PE X (.Call (.Attribute o "join" apos) [e] [] pos) (tM1 (fun x xs H Q => ∃ a p, ∃ ys : List Str, x = .str a ∧ xs = [.ref p] ∧ (SqL K' H p (ys.map V.str) ∨ SqT K' H p (ys.map V.str)) ∧
      (ys.map (·.length)).sum + ys.length * a.length ≤ 16777216 ∧ Q (.str (Txt.join a ys)) H) to te) := hK ▸ pe_join ho he hs hbase hline
theorem sum_le {B : Nat} : ∀ ys : List Str, (∀ y ∈ ys, y.length ≤ B) → (ys.map (·.length)).sum ≤ ys.length * B
  | [], _ => by simp
  | y :: ys, h => by
    have h1 := h y (List.mem_cons_self ..)
    have h2 := sum_le ys fun z hz => h z (List.mem_cons_of_mem _ hz)
    rw [List.map_cons, List.sum_cons, List.length_cons, Nat.succ_mul]
    omega
theorem joinL_len (S : List Nat) : ∀ ps : List (List Nat), (TL.joinL S ps).length ≤ (ps.map (·.length)).sum + ps.length * S.length
  | [] => by simp [TL.joinL]
  | [p] => by
    show p.length ≤ _
    simp
  | p :: q :: r => by
    have := joinL_len S (q :: r)
    show (p ++ (S ++ TL.joinL S (q :: r))).length ≤ _
    rw [List.length_append, List.length_append, List.map_cons, List.sum_cons, List.length_cons, Nat.succ_mul]
    omega
theorem join_len (y : Str) (ps : List Str) : (Txt.join y ps).length ≤ (ps.map (·.length)).sum + ps.length * y.length := by
  rw [TL.join_eq, TL.len_tl, TL.tl_join]
  have h := joinL_len (TL.tl y) (ps.map TL.tl)
  rw [List.map_map, List.length_map, ← TL.len_tl] at h
  have e : (ps.map ((fun x => x.length) ∘ TL.tl)) = ps.map (·.length) := List.map_congr_left fun x _ => (TL.len_tl x).symm
  rw [e] at h
  exact h
/-- a list that holds these texts -/
theorem strs_of {us : List V} {xs : List Str} {f : Nat → Str} (hl : us.length = xs.length) (hu : ∀ (j : Nat) (v : V), us[j]? = some v → v = .str (f j)) (hx : ∀ j, j < xs.length → xs[j]? = some (f j)) : us = xs.map V.str := by
  refine List.ext_getElem? fun i => ?_
  by_cases c : i < xs.length
  · have ev : us[i]? = some us[i] := List.getElem?_eq_getElem (by omega)
    rw [ev, hu i _ ev, List.getElem?_map, hx i c]
    rfl
  · rw [List.getElem?_eq_none (by omega), List.getElem?_eq_none (by rw [List.length_map]; omega)]
end FoJ2


set_option maxHeartbeats 4100000
namespace Fo
open PySem PySem.Spec PyProof.Rows L2
open FoWd
theorem BoxAt.same {H H' : Hp} {p : Addr} {n : Nat} (h : BoxAt H p n) (e : Same H H') : BoxAt H' p n :=
  let ⟨x, c, sd, a, r⟩ := h
  ⟨x, c, sd, e _ _ a, r⟩
theorem BoxAt.mono {H : Hp} {p : Addr} {n m : Nat} (h : BoxAt H p n) (e : n ≤ m) : BoxAt H p m :=
  let ⟨x, c, sd, a, h1, h2, h3, h4, h5⟩ := h
  ⟨x, c, sd, a, h1, h2, by omega, h4, h5⟩
theorem BoxAt.ne {H : Hp} {p t : Addr} {n : Nat} (h : BoxAt H p n) (e : H t = none) : t ≠ p := fun z => by
  obtain ⟨x, c, sd, a, _⟩ := h
  rw [z, a] at e
  cases e
theorem But.free {H H' : Hp} {b t : Addr} (h : But b H H') (nb : t ≠ b) (e : H' t = none) : H t = none := by
  cases q : H t with
  | none => rfl
  | some o =>
    rw [h t o q nb] at e
    cases e
theorem sz1000 {m : Int} (h0 : 0 ≤ m := by decide) (h : m < 1000000 := by decide) : FoM.Sz 4000 m := sz_of 1000000 (by omega) h (Nat.le_trans (by decide) (Nat.pow_le_pow_right (by decide) (show 20 ≤ 4000 by decide)))
/-- an if or an assignment whose ways go on alike -/
theorem gen_t {st u : TS} {D : Ends} {σ : L2.St} {H : Hp} (C : Hp → Prop) (h1 : ∀ D' : Ends, (∀ H', C H' → D'.nx σ H') → st D' σ H) (h2 : ∀ H', C H' → u D σ H') : tSeq st u D σ H := h1 { D with nx := u D } h2
theorem gen_s {te : TE} {g : TG} {u : TS} {D : Ends} {σ : L2.St} {H : Hp} (C : V → Hp → Prop) (h1 : ∀ Q' : VK, (∀ x H', C x H' → Q' x H') → te σ H Q') (h2 : ∀ x H', C x H' → g x σ H' (u D)) : tSeq (tAsg te g) u D σ H := h1 _ h2
/-- a list of fractions as a value that is compared -/
def tq (r : Rat) : PyData := .tuple [.int r.num, .int r.den]
theorem dp_q {K : PySem.W.Frag} {H : Hp} {a : Addr} {r : Rat} (h : FrQ H a r) : Dp K H (.ref a) (tq r) := .tup (SqT.of h) (.cons (.int _) (.cons (.int _) .nil))
theorem eqv2 (u d v e : Int) : PyData.eqv (.tuple [.int u, .int d]) (.tuple [.int v, .int e]) = (decide (u = v) && decide (d = e)) := by
  show ((u == v) && ((d == e) && true)) = _
  rw [Bool.and_true]
  by_cases h1 : u = v <;> by_cases h2 : d = e <;> simp [h1, h2]
theorem tq_eqv (x z : Rat) : PyData.eqv (tq x) (tq z) = decide (x = z) := by
  rw [← eq_bool]
  exact eqv2 _ _ _ _
def spNumber9 : Sp := fun vs H Q _ => ∃ (b : Addr) (n : Nat) (mo : Int), vs = [.ref b, .int mo] ∧ 1 ≤ mo ∧ mo ≤ 9 ∧ BoxAt H b n ∧ n ≤ 90000 ∧ ∀ p H' r, H p = none → FrQ H' p r → Ov 2520 22680 r → BoxAt H' b (n + 3) → But b H H' → Q (.ref p) H'
theorem pick10 (g : Int) (k : Nat) (h : k < 6) (g0 : 0 ≤ g) (g1 : g < 10) : ∃ m q : Int, [V.int 1, V.int 1, V.int 2, V.int 3, V.int 5, V.int (1 + g)][k]? = some (.int m) ∧ 0 < m ∧ m ≤ 10 ∧ m * q = 2520 ∧ q.natAbs ≤ 2520 :=
  match k, h with
  | 0, _ => ⟨_, 2520, rfl, by decide, by decide, by decide, by decide⟩
  | 1, _ => ⟨_, 2520, rfl, by decide, by decide, by decide, by decide⟩
  | 2, _ => ⟨_, 1260, rfl, by decide, by decide, by decide, by decide⟩
  | 3, _ => ⟨_, 840, rfl, by decide, by decide, by decide, by decide⟩
  | 4, _ => ⟨_, 504, rfl, by decide, by decide, by decide, by decide⟩
  | 5, _ => by
    have : g = 0 ∨ g = 1 ∨ g = 2 ∨ g = 3 ∨ g = 4 ∨ g = 5 ∨ g = 6 ∨ g = 7 ∨ g = 8 ∨ g = 9 := by omega
    rcases this with rfl | rfl | rfl | rfl | rfl | rfl | rfl | rfl | rfl | rfl
    · exact ⟨_, 2520, rfl, by decide, by decide, by decide, by decide⟩
    · exact ⟨_, 1260, rfl, by decide, by decide, by decide, by decide⟩
    · exact ⟨_, 840, rfl, by decide, by decide, by decide, by decide⟩
    · exact ⟨_, 630, rfl, by decide, by decide, by decide, by decide⟩
    · exact ⟨_, 504, rfl, by decide, by decide, by decide, by decide⟩
    · exact ⟨_, 420, rfl, by decide, by decide, by decide, by decide⟩
    · exact ⟨_, 360, rfl, by decide, by decide, by decide, by decide⟩
    · exact ⟨_, 315, rfl, by decide, by decide, by decide, by decide⟩
    · exact ⟨_, 280, rfl, by decide, by decide, by decide, by decide⟩
    · exact ⟨_, 252, rfl, by decide, by decide, by decide, by decide⟩
theorem ov_div {u m q : Int} (hm : 0 < m) (hq : m * q = 2520) (lq : q.natAbs ≤ 2520) (hu : u.natAbs ≤ 9) : Ov 2520 22680 (Rat.divInt u m) := by
  refine ⟨u * q, ?_, ?_⟩
  · rw [Int.natAbs_mul]
    exact Nat.mul_le_mul hu lq
  · have m0 : (m : Rat) ≠ 0 := fun z => by
      have : m = 0 := by exact_mod_cast z
      omega
    have e : ((2520 : Nat) : Rat) = (m : Rat) * (q : Rat) := by
      rw [← Rat.intCast_mul, hq]
      rfl
    rw [e, Rat.divInt_eq_div, Rat.intCast_mul, ← Rat.mul_assoc, Rat.div_mul_cancel m0]
theorem Ov.sz40 {r : Rat} (h : Ov 2520 22680 r) : FoQ.SzR 40 r := h.sz (by decide) (by decide) (by decide)
def spRowL : Sp := fun vs H Q _ => ∃ (b : Addr) (n m : Nat), vs = [.ref b, .int m] ∧ m ≤ 6 ∧ BoxAt H b n ∧ n ≤ 90000 ∧ ∀ (w : Wd) H', w.length ≤ m → BoxAt H' b (n + 7) → But b H H' → Q (.str (tx w)) H'
theorem str_p : ("p" : Str) = tx [true] := rfl
theorem str_q : ("q" : Str) = tx [false] := rfl
theorem pq_at (k : Nat) (h : k < 2) : [V.str "p", V.str "q"][k]? = some (.str (tx [decide (k = 0)])) :=
  match k, h with
  | 0, _ => rfl
  | 1, _ => rfl
theorem joinL_nil : ∀ ps : List (List Nat), TL.joinL [] ps = ps.flatten
  | [] => rfl
  | [p] => by
    show p = _
    simp
  | p :: q :: r => by
    show p ++ ([] ++ TL.joinL [] (q :: r)) = _
    rw [joinL_nil (q :: r)]
    rfl
theorem join_tx (w : Wd) : Txt.join "" (w.map fun c => tx [c]) = tx w := by
  refine TL.ext_tl ?_
  rw [TL.join_eq, TL.tl_join, show TL.tl ("" : Str) = [] from rfl, joinL_nil, List.map_map, tl_tx]
  induction w with
  | nil => rfl
  | cons c w ih =>
    rw [List.map_cons, List.flatten_cons, ih]
    rfl
/-- a list of pairs as a value that is compared -/
def pd (p : Wd × Rat) : PyData := .tuple [.str (tx p.1), tq p.2]
theorem PrAt.dp {K : PySem.W.Frag} {H : Hp} {v : V} {p : Wd × Rat} (h : PrAt H v p) : Dp K H v (pd p) := by
  obtain ⟨q, t, rfl, e2, e3⟩ := h
  exact .tup (SqT.of e2) (.cons (.str _) (.cons (dp_q e3) .nil))
theorem dp_prs {K : PySem.W.Frag} {H : Hp} {us : List V} {ps : Ps} (h : Paired (PrAt H) us ps) : DpAll K H us (ps.map pd) := by
  induction h with
  | nil => exact .nil
  | cons r t ih => exact .cons r.dp ih
theorem tx_ok (w : Wd) : PyData.strOk (tx w) = true := by
  show (tx w).cps.all (· < 0x110000) = true
  rw [← Array.all_toList, List.all_eq_true]
  intro c hc
  obtain ⟨b, _, rfl⟩ := List.mem_map.mp (show c ∈ w.map lcode from hc)
  cases b <;> decide
theorem lay_list {k : Nat} : ∀ ds : List PyData, (∀ d ∈ ds, PyData.canLay0 d = true ∧ PyData.depth d ≤ k) → PyData.canLayAll0 ds = true ∧ PyData.depthAll ds ≤ k
  | [], _ => ⟨rfl, Nat.zero_le _⟩
  | d :: ds, h => by
    obtain ⟨h1, h2⟩ := h d List.mem_cons_self
    obtain ⟨g1, g2⟩ := lay_list ds fun x hx => h x (List.mem_cons_of_mem _ hx)
    refine ⟨?_, Nat.max_le.mpr ⟨h2, g2⟩⟩
    show (PyData.canLay0 d && PyData.canLayAll0 ds) = true
    rw [h1, g1]
    rfl
theorem shaped_list {k : Nat} {ds : List PyData} (h : ∀ d ∈ ds, PyData.canLay0 d = true ∧ PyData.depth d ≤ k) (hk : k ≤ 60) : SeqAt.shaped (.list ds) = true := by
  obtain ⟨h1, h2⟩ := lay_list ds h
  show (PyData.canLayAll0 ds && decide (PyData.depthAll ds + 1 ≤ 64)) = true
  rw [h1, decide_eq_true (by omega)]
  rfl
theorem pd_lay (p : Wd × Rat) : PyData.canLay0 (pd p) = true ∧ PyData.depth (pd p) ≤ 2 := by
  refine ⟨?_, Nat.le_refl 2⟩
  show (PyData.strOk (tx p.1) && (PyData.canLay0 (tq p.2) && true)) = true
  rw [tx_ok]
  rfl
theorem pds_shaped (ps : Ps) : SeqAt.shaped (.list (ps.map pd)) = true := shaped_list (k := 2) (fun d hd => by
  obtain ⟨p, _, rfl⟩ := List.mem_map.mp hd
  exact pd_lay p) (by decide)
theorem txs_shaped (ws : List Wd) : SeqAt.shaped (.list (ws.map fun w => PyData.str (tx w))) = true := shaped_list (k := 0) (fun d hd => by
  obtain ⟨p, _, rfl⟩ := List.mem_map.mp hd
  exact ⟨tx_ok p, Nat.le_refl 0⟩) (by decide)
theorem dp_txs {K : PySem.W.Frag} {H : Hp} : ∀ ws : List Wd, DpAll K H ((ws.map tx).map V.str) (ws.map fun w => PyData.str (tx w))
  | [] => .nil
  | w :: ws => .cons (.str _) (dp_txs ws)
theorem LP.cong {H H' : Hp} {b a : Addr} {n : Nat} {ps : Ps} (h : LP H a ps) (hB : BoxAt H b n) (hb : But b H H') (ab : a ≠ b) : LP H' a ps := by
  obtain ⟨vs, e, hp⟩ := h
  obtain ⟨_, _, _, eb, _⟩ := hB
  refine ⟨vs, hb _ _ e ab, Paired.mapP hp fun v p q => q.nld fun c o e1 fi => hb _ _ e1 fun z => ?_⟩
  rw [z, eb] at e1
  cases e1
  exact fi
def spTermsR : Sp := fun vs H Q _ => ∃ (b : Addr) (m z n : Nat), vs = [.ref b, .int m, .int z] ∧ BoxAt H b n ∧ n ≤ 80000 ∧ m ≤ 8 ∧ z ≤ 6 ∧ ∀ D H' ps, H D = none → D ≠ b → LP H' D ps → (FoWd.keys ps).Nodup → Le z ps → ps.length ≤ m → AllOv 2520 22680 ps → BoxAt H' b (n + 100) → But b H H' → Q (.ref D) H'
section
variable {P : Program} {w : World} {K : PySem.W.Frag} {mg : Str → Option Value} {base : Heap}
theorem ok_number (T : Tx K mg) : FnOk P w K mg base CX0 2 (He.ga K "_law_number") T.fd_number ["_law_box_here", "_law_most"] spNumber9 := by
  refine T.F_number.ok sc_number (fun vs H Q E h => ?_) (fun cdv A outer s H vs Q E hr h => ?_)
  · obtain ⟨b, n, mo, rfl, _⟩ := h
    rfl
  · obtain ⟨b, n, mo, rfl, mo1, mo9, hB, hn, q⟩ := h
    refine ⟨_, (pss_cons (ps_set (i := 2) sc_number.nd rfl (.inl rfl) (pe_op op_sub (pe_call (ok_take T) (hr.mono (by decide)) (by rfl) T.g_take T.F_take.kp T.b_take .nil pass0 (pa_cons (pv 0) (pa_cons (pe_op op_add (pe_op op_mulW pe_int (pv 1)) pe_int) pa_nil))) (pv 1)))
      (pss_one (ps_ret (pe_call (ok_fracQ T) (hr.mono (by decide)) (by rfl) T.g_frac T.F_frac.kp T.b_frac .nil pass0 (pa_cons (pv 2) (pa_cons (pe_ix ix_list (pe_lst (pa_cons pe_int (pa_cons pe_int (pa_cons pe_int (pa_cons pe_int (pa_cons pe_int (pa_cons (pe_op op_add pe_int (pe_call (ok_take T) (hr.mono (by decide)) (by rfl) T.g_take T.F_take.kp T.b_take .nil pass0 (pa_cons (pv 0) (pa_cons (pe_op op_add (pv 1) pe_int) pa_nil)))) pa_nil))))))) (pe_call (ok_take T) (hr.mono (by decide)) (by rfl) T.g_take T.F_take.kp T.b_take .nil pass0 (pa_cons (pv 0) (pa_cons pe_int pa_nil))) (fun _ _ => rfl)) pa_nil)))))), ?_⟩
    refine ⟨_, rfl, _, rfl, _, _, rfl, rfl, FoM.Sz.mulok (n := 20) (m := 20) (sz_of 1000000 (by decide) (by decide) (by decide)) (sz_of 1000000 (by omega) (by omega) (by decide)), _, _, rfl, rfl, ?_⟩
    refine ⟨b, _, n, rfl, hB, by omega, by omega, sz1000 (by omega) (by omega), fun g1 H1 g10 g11 hB1 b1 => ?_⟩
    refine ⟨_, rfl, _, _, rfl, rfl, ?_⟩
    refine ⟨_, rfl, _, rfl, _, rfl, _, _, rfl, rfl, ?_⟩
    refine ⟨b, _, n + 1, rfl, hB1, by omega, by omega, sz1000 (by omega) (by omega), fun g2 H2 g20 g21 hB2 b2 => ?_⟩
    refine ⟨_, _, rfl, rfl, (by show 6 ≤ sizeLine; rw [sizeLine_eq]; decide), fun t1 nt1 => ?_⟩
    have n1 := hB2.ne nt1
    refine ⟨_, rfl, b, 6, n + 2, rfl, hB2.same (Same.upd nt1), by omega, by decide, sz1000, fun g3 H3 g30 g31 hB3 b3 => ?_⟩
    have hL := b3 _ _ upd_same n1
    obtain ⟨k3, rfl⟩ := Int.eq_ofNat_of_zero_le g30
    obtain ⟨d, dq, ed, d0, d1, d2, d3⟩ := pick10 g2 k3 (by omega) g20 (by omega)
    refine ⟨t1, _, _, _, rfl, rfl, SqL.of hL, atI_nat ed, ?_⟩
    have zd : FoM.Sz 12 d := sz_of 1002 (by omega) (by omega) (by decide)
    have bb : But b H H3 := b1.trans (b2.trans ((But.of_same (Same.upd nt1)).trans b3))
    refine ⟨g1 - mo, d, rfl, by omega, zd.mono (by decide), fun p np => ?_⟩
    have npb := hB3.ne np
    exact q p _ _ (bb.free npb np) upd_same (ov_div d0 d2 d3 (by omega)) (hB3.same (Same.upd np)) (bb.trans (But.of_same (Same.upd np)))

theorem ok_row (T : Tx K mg) : FnOk P w K mg base CX0 2 (He.ga K "_law_row") T.fd_row ["_law_box_here", "_law_most"] spRowL := by
  refine T.F_row.ok sc_row (fun vs H Q E h => ?_) (fun cdv A outer s H vs Q E hr h => ?_)
  · obtain ⟨b, n, m, rfl, _⟩ := h
    rfl
  · obtain ⟨b, n, m, rfl, hm6, hB, hn, q⟩ := h
    refine ⟨_, (pss_one (ps_ret (pe_join pe_str (pe_lc (own := [("_law_k", 2)]) (g := gName 2) rfl sc_row.nd (pi_range1 (by rfl) T.z_range (pa_cons (pe_call (ok_take T) (hr.mono (by decide)) (by rfl) T.g_take T.F_take.kp T.b_take .nil pass0 (pa_cons (pv 0) (pa_cons (pe_op op_add (pv 1) pe_int) pa_nil))) pa_nil)) (blkOk_by (own := [("_law_k", 2)]) (N := ["_law_box_here", "_law_most", "_law_k"]) (sc := defScope s_row) (by decide +kernel)) (fun _ _ _ _ _ => (pg_name (i := 2) sc_row.nd rfl (.inl rfl))) (fun _ _ _ _ _ => pts_nil) (fun _ _ _ _ _ => (pe_ix (FoK.ix_listK (K' := K) rfl) (pe_lst (pa_cons pe_str (pa_cons pe_str pa_nil))) (pe_call (ok_take T) (hr.mono (by decide)) (by rfl) T.g_take T.F_take.kp T.b_take .nil pass0 (pa_cons (pv 0) (pa_cons pe_int pa_nil))) (fun _ _ => rfl))))))), ?_⟩
    refine ⟨⟨_, rfl⟩, ?_⟩
    refine ⟨_, rfl, _, rfl, _, _, rfl, rfl, ?_⟩
    refine ⟨b, _, n, rfl, hB, by omega, by omega, sz1000 (by omega) (by omega), fun g1 H1 g10 g11 hB1 b1 => ?_⟩
    refine ⟨_, rfl, by omega, by omega, fun D nD => ?_⟩
    have db := hB1.ne nD
    refine lc_range (fun i H' => But b H1 H' ∧ BoxAt H' b (n + 1 + i) ∧ ∃ w : Wd, w.length = i ∧ H' D = some (.lst ((w.map fun c => tx [c]).map V.str))) ⟨But.of_same (Same.upd nD), hB1.same (Same.upd nD), [], rfl, upd_same⟩ (fun i H2 hi h => ?_) (fun H2 h => ?_)
    · obtain ⟨b2, hB2, w, lw, e2⟩ := h
      refine ⟨rfl, (by show 2 ≤ sizeLine; rw [sizeLine_eq]; decide), fun t1 nt1 => ?_⟩
      have n1 := hB2.ne nt1
      refine ⟨_, rfl, b, 2, n + 1 + i, rfl, hB2.same (Same.upd nt1), by omega, by decide, sz1000, fun g3 H3 g30 g31 hB3 b3 => ?_⟩
      have hL := b3 _ _ upd_same n1
      obtain ⟨k3, rfl⟩ := Int.eq_ofNat_of_zero_le g30
      refine ⟨t1, _, _, _, rfl, rfl, SqL.of hL, atI_nat (pq_at k3 (by omega)), ?_⟩
      have e3 := b3 _ _ ((Same.upd nt1) _ _ e2) db
      refine ⟨_, e3, by rw [List.length_map, List.length_map, sizeLine_eq]; omega, fun c o e0 ne => ?_, ?_, w ++ [decide (k3 = 0)], by rw [List.length_append, lw]; rfl, ?_⟩
      · rw [upd_ne (ne_of_none e0 nD)]
        exact b3 _ _ ((Same.upd nt1) _ _ (b2 _ _ e0 ne)) ne
      · obtain ⟨x, c, sd, e, w⟩ := hB3
        exact ⟨x, c, sd, by rw [upd_ne (Ne.symm db)]; exact e, by omega⟩
      · rw [upd_same, List.map_append, List.map_append]
        rfl
    · obtain ⟨b2, hB2, w, lw, e2⟩ := h
      refine ⟨_, D, _, rfl, rfl, .inl (SqL.of e2), ?_, ?_⟩
      · have z := FoJ2.sum_le (B := 1) (w.map fun c => tx [c]) (fun y hy => by
          obtain ⟨c, _, rfl⟩ := List.mem_map.mp hy
          exact Nat.le_refl 1)
        rw [List.length_map] at z
        rw [List.length_map, show ("" : Str).length = 0 from rfl]
        omega
      · rw [join_tx]
        exact q w H2 (by omega) (hB2.mono (by omega)) (b1.trans b2)
end
theorem Paired.snoc {α β : Type} {R : α → β → Prop} {l : List α} {m : List β} {a : α} {b : β} (h : Paired R l m) (q : R a b) : Paired R (l ++ [a]) (m ++ [b]) := by
  induction h with
  | nil => exact .cons q .nil
  | cons r t ih => exact .cons r ih
/-- pairs put together at D so far -/
def LPI (ps : Ps) (H1 : Hp) (D : Addr) (i : Nat) (H : Hp) : Prop := Same H1 H ∧ ∃ vs, H D = some (.lst vs) ∧ Paired (PrAt H) vs (ps.take i)
theorem LPI.start {ps : Ps} {H1 : Hp} {D : Addr} (nD : H1 D = none) : LPI ps H1 D 0 (upd H1 D (.lst [])) := ⟨Same.upd nD, [], upd_same, by rw [List.take_zero]; exact .nil⟩
theorem LPI.next {ps : Ps} {H1 H H4 : Hp} {D : Addr} {i : Nat} {v : V} {p : Wd × Rat} (h : LPI ps H1 D i H) (nD : H1 D = none) (s : Same H H4) (e : ps[i]? = some p) (q : PrAt H4 v p) (l : ps.length ≤ 10000) :
    ∃ acc, H4 D = some (.lst acc) ∧ acc.length < sizeLine ∧ LPI ps H1 D (i + 1) (upd H4 D (.lst (acc ++ [v]))) := by
  obtain ⟨s1, vs, e1, hp⟩ := h
  have e4 := s _ _ e1
  refine ⟨vs, e4, ?_, fun b o e0 => ?_, _, upd_same, ?_⟩
  · have := Paired.length hp
    rw [List.length_take] at this
    rw [sizeLine_eq]
    omega
  · rw [upd_ne (ne_of_none e0 nD)]
    exact s _ _ (s1 _ _ e0)
  · rw [List.take_add_one, e]
    exact Paired.snoc (Paired.mapP hp fun v p q => (q.nld (same_nld s)).nld (nld_upd e4 id)) (q.nld (nld_upd e4 id))
theorem LPI.done {ps : Ps} {H1 H : Hp} {D : Addr} (h : LPI ps H1 D ps.length H) : LP H D ps := by
  obtain ⟨s1, vs, e1, hp⟩ := h
  rw [List.take_length] at hp
  exact ⟨vs, e1, hp⟩
def spFormulaL (K : PySem.W.Frag) : Sp := fun vs H Q _ => ∃ (a : Addr) (ps : Ps) (N : Nat), vs = [.ref a] ∧ LP H a ps ∧ (FoWd.keys ps).Nodup ∧ Le N ps ∧ N ≤ 60 ∧ ps.length ≤ 200 ∧ Grow 1900 ps ∧
  ∀ p H', H p = none → Same H H' → FmN K H H' p (form N ps) → Q (.ref p) H'
section
variable {P : Program} {w : World} {K : PySem.W.Frag} {mg : Str → Option Value} {base : Heap}
theorem ok_termsR (T : Tx K mg) : FnOk P w K mg base CX0 3 (He.ga K "_law_terms") T.fd_terms ["_law_box_here", "_law_most", "_law_size"] spTermsR := by
  refine T.F_terms.ok sc_terms (fun vs H Q E h => ?_) (fun cdv A outer s H vs Q E hr h => ?_)
  · obtain ⟨b, m, z, n, rfl, _⟩ := h
    rfl
  · obtain ⟨b, m, z, n, rfl, hB, hn, hm, hz6, q⟩ := h
    refine ⟨_, (pss_cons (ps_set (i := 3) sc_terms.nd rfl (.inl rfl) (pe_lst pa_nil))
      (pss_cons (ps_for PassesOwn.never rfl (pi_range1 (by rfl) T.z_range (pa_cons (pe_call (ok_take T) (hr.mono (by decide)) (by rfl) T.g_take T.F_take.kp T.b_take .nil pass0 (pa_cons (pv 0) (pa_cons (pe_op op_add (pv 1) pe_int) pa_nil))) pa_nil)) (pg_name (i := 4) sc_terms.nd rfl (.inl rfl)) (pss_cons (ps_set (i := 5) sc_terms.nd rfl (.inr rfl) (pe_call (ok_row T) (hr.mono (by decide)) (by rfl) T.g_row T.F_row.kp T.b_row .nil pass0 (pa_cons (pv 0) (pa_cons (pv 2) pa_nil))))
      (pss_one (ps_if (pt_cmpR (op_eqD hr.units) (pe_lc (own := [("_law_pair", 6)]) (g := gName 6) rfl sc_terms.nd (pi_list (pv 3)) (blkOk_by (own := [("_law_pair", 6)]) (N := ["_law_box_here", "_law_most", "_law_size", "_law_found", "_law_k", "_law_row_here", "_law_pair"]) (sc := defScope s_terms) (by decide +kernel)) (fun _ _ _ _ _ => (pg_name (i := 6) sc_terms.nd rfl (.inl rfl))) (fun _ _ _ _ _ => (pts_one (pt_cmpR op_eq (pe_ix (FoK.ix_tupK (K' := K) rfl) (pv 6) pe_int (fun _ _ => rfl)) (pv 5) (nomark _)))) (fun _ _ _ _ _ => (pv 6))) (pe_lst pa_nil) (nomark _)) (pss_one (ps_expr (pe_bm PySem.F.plainAttrs_list PySem.F.slot_list_append PySem.F.type_list_append mt_append (pv 3) (pa_cons (pe_tup (pa_cons (pv 5) (pa_cons (pe_call (ok_number T) (hr.mono (by decide)) (by rfl) T.g_number T.F_number.kp T.b_number .nil pass0 (pa_cons (pv 0) (pa_cons pe_int pa_nil))) pa_nil))) pa_nil)))) pss_nil))))
      (pss_one (ps_ret (pv 3))))), ?_⟩
    refine ⟨(by show 0 ≤ sizeLine; rw [sizeLine_eq]; decide), fun D nD => ?_⟩
    have db := hB.ne nD
    have hB0 := hB.same (Same.upd nD (o := .lst []))
    have e0 : upd H D (.lst []) D = some (.lst []) := upd_same
    have b0 : But b H (upd H D (.lst [])) := But.of_same (Same.upd nD)
    generalize upd H D (.lst []) = H0 at *
    refine ⟨_, rfl, _, rfl, _, _, rfl, rfl, b, _, n, rfl, hB0, by omega, by omega, sz1000 (by omega) (by omega), fun g1 H1 g10 g11 hB1 b1 => ?_⟩
    refine ⟨_, rfl, by omega, by omega, ?_⟩
    have e1 := b1 _ _ e0 db
    refine for_range (fun i σ H2 => But b H H2 ∧ BoxAt H2 b (n + 1 + 11 * i) ∧ (∃ vs ps, H2 D = some (.lst vs) ∧ Paired (PrAt H2) vs ps ∧ (FoWd.keys ps).Nodup ∧ Le z ps ∧ ps.length ≤ i ∧ AllOv 2520 22680 ps) ∧ ∃ o4 o5, σ = [some (.ref b), some (.int m), some (.int z), some (.ref D), o4, o5, none])
      ⟨b0.trans b1, hB1, ⟨[], [], e1, .nil, List.nodup_nil, fun p hp => absurd hp (by simp), Nat.le_refl _, fun p hp => absurd hp (by simp)⟩, none, none, rfl⟩ ?_ ?_
    · rintro i σ H2 hi ⟨b2, hB2, ⟨vs, ps, e2, hP, hnd, hle, hlen, hov⟩, o4, o5, rfl⟩
      have hi8 : i ≤ 8 := by omega
      refine ⟨_, rfl, _, rfl, b, _, z, rfl, hz6, hB2, by omega, fun w H3 lw hB3 b3 => ?_⟩
      have e3 := b3 _ _ e2 db
      have n3 : NLD H2 H3 := fun c o e1 fi => by
        refine b3 _ _ e1 fun z => ?_
        obtain ⟨_, _, _, eb, _⟩ := hB2
        rw [z, eb] at e1
        cases e1
        exact fi
      have hP3 := Paired.mapP hP fun v p q => q.nld n3
      have lv := Paired.length hP
      refine ⟨_, rfl, D, rfl, ⟨_, SqL.of e3⟩, fun D2 nD2 => ?_⟩
      refine lc_list (fun j H' => Same H3 H' ∧ ∃ us qs, H' D2 = some (.lst us) ∧ Paired (PrAt H') us qs ∧ qs.length ≤ j ∧ (qs = [] → ∀ k p, k < j → ps[k]? = some p → p.1 ≠ w)) ⟨Same.upd nD2, [], [], upd_same, .nil, Nat.le_refl _, fun _ k p hk => absurd hk (Nat.not_lt_zero k)⟩ (fun j H' _ h => SqL.of (h.1 _ _ e3)) (fun j x H4 ex h => ?_) (fun H4 h => ?_)
      · obtain ⟨s4, us, qs, ed, hQ, hl, hz⟩ := h
        obtain ⟨p, ep, tq, r, rfl, hq, hr⟩ := paired_get hP3 ex
        have hq4 := s4 _ _ hq
        have hjl := (List.getElem?_eq_some_iff.mp ex).1
        refine ⟨rfl, _, rfl, tq, _, _, _, rfl, rfl, SqT.of hq4, rfl, _, rfl, rfl, _, rfl, ?_⟩
        by_cases c : p.1 = w
        · have eb : decide (V.str (tx p.1) = V.str (tx w)) = true := decide_eq_true (by rw [c])
          rw [eb]
          refine iteT ⟨_, rfl, us, ed, ?_, ?_⟩
          · have := Paired.length hQ
            rw [sizeLine_eq]
            omega
          · refine ⟨fun b2 o2 e0 => ?_, _, qs ++ [p], upd_same, Paired.snoc (Paired.mapP hQ fun v p q => q.nld (nld_upd ed id)) ⟨tq, r, rfl, nld_upd ed id _ _ hq4 trivial, nld_upd ed id _ _ (s4 _ _ hr) trivial⟩, by rw [List.length_append]; show _ + 1 ≤ _; omega, fun z => absurd z (by simp)⟩
            rw [upd_ne (ne_of_none e0 nD2)]
            exact s4 _ _ e0
        · have eb : decide (V.str (tx p.1) = V.str (tx w)) = false := decide_eq_false fun z => c (tx_inj (V.str.inj z))
          rw [eb]
          refine iteF ⟨s4, us, qs, ed, hQ, by omega, fun z k p2 hk e2 => ?_⟩
          by_cases ck : k = j
          · subst ck
            rw [ep] at e2
            cases e2
            exact c
          · exact hz z k p2 (by omega) e2
      · obtain ⟨s4, us, qs, ed, hQ, hl, hz⟩ := h
        refine ⟨(by show 0 ≤ sizeLine; rw [sizeLine_eq]; decide), fun x nx => ?_⟩
        have sx := Same.upd nx (o := .lst [])
        refine ⟨_, .list [], .lst (SqL.of (sx _ _ ed)) (dp_prs (Paired.mapP hQ fun v p q => q.nld (same_nld sx))), .lst (SqL.of upd_same) .nil, pds_shaped qs, rfl, _, rfl, ?_⟩
        have ek : PyData.eqv (.list (qs.map pd)) (.list []) = decide (qs = []) := by cases qs <;> rfl
        rw [ek]
        have s5 := s4.trans sx
        generalize upd H4 x (.lst []) = H5 at *
        have e5 := s5 _ _ e3
        have hB5 := hB3.same s5
        have b5 : But b H H5 := (b2.trans b3).trans (But.of_same s5)
        have hP5 := Paired.mapP hP3 fun v p q => q.nld (same_nld s5)
        by_cases hk : qs = []
        · rw [decide_eq_true hk]
          refine iteT ?_
          refine ⟨_, rfl, .inl ⟨rfl, _, SqL.of e5⟩, ?_⟩
          refine ⟨_, rfl, _, rfl, b, _, 9, rfl, by decide, by decide, hB5, by omega, fun p6 H6 r np6 hp6 hov6 hB6 b6 => ?_⟩
          refine ⟨(by show 2 ≤ sizeLine; rw [sizeLine_eq]; decide), fun t7 nt7 => ?_⟩
          have s7 := Same.upd nt7 (o := .tup [V.str (tx w), V.ref p6])
          have t7e : upd H6 t7 (.tup [V.str (tx w), V.ref p6]) t7 = some (.tup [V.str (tx w), V.ref p6]) := upd_same
          have e7 := s7 _ _ (b6 _ _ e5 db)
          have n6 : NLD H5 H6 := fun c o e1 fi => by
            refine b6 _ _ e1 fun z => ?_
            obtain ⟨_, _, _, eb, _⟩ := hB5
            rw [z, eb] at e1
            cases e1
            exact fi
          have hP7 := Paired.mapP hP5 fun v p q => (q.nld n6).nld (same_nld s7)
          have hB7 := hB6.same s7
          have b7 : But b H (upd H6 t7 (.tup [V.str (tx w), V.ref p6])) := (b5.trans b6).trans (But.of_same s7)
          have hp7 := s7 _ _ hp6
          generalize upd H6 t7 (.tup [V.str (tx w), V.ref p6]) = H7 at *
          refine ⟨D, _, _, rfl, rfl, e7, by rw [sizeLine_eq]; omega, ?_⟩
          refine ⟨fun c o e0 ne => ?_, ?_, ⟨_, ps ++ [(w, r)], upd_same, ?_, ?_, ?_, ?_, ?_⟩, _, _, rfl⟩
          · rw [upd_ne (ne_of_none e0 nD)]
            exact b7 _ _ e0 ne
          · obtain ⟨x, c, sd, e, w⟩ := hB7.mono (m := n + 1 + 11 * (i + 1)) (by omega)
            exact ⟨x, c, sd, by rw [upd_ne (Ne.symm db)]; exact e, w⟩
          · exact Paired.snoc (Paired.mapP hP7 fun v p q => q.nld (nld_upd e7 id)) ⟨t7, p6, rfl, nld_upd e7 id _ _ t7e trivial, nld_upd e7 id _ _ hp7 trivial⟩
          · unfold FoWd.keys
            rw [List.map_append]
            refine List.nodup_append.mpr ⟨hnd, List.nodup_cons.mpr ⟨by simp, List.nodup_nil⟩, fun a ha c hc z => ?_⟩
            obtain rfl := List.mem_singleton.mp hc
            obtain ⟨p, hp, e1⟩ := List.mem_map.mp ha
            obtain ⟨k, hk1, hk2⟩ := List.mem_iff_getElem.mp hp
            exact hz hk k p (by omega) (by rw [List.getElem?_eq_getElem hk1, hk2]) (e1.trans z)
          · intro p hp
            rcases List.mem_append.mp hp with hp | hp
            · exact hle p hp
            · rw [List.mem_singleton.mp hp]
              exact lw
          · rw [List.length_append]
            show _ + 1 ≤ _
            omega
          · intro p hp
            rcases List.mem_append.mp hp with hp | hp
            · exact hov p hp
            · rw [List.mem_singleton.mp hp]
              exact hov6
        · rw [decide_eq_false hk]
          exact iteF ⟨b5, hB5.mono (by omega), ⟨vs, ps, e5, hP5, hnd, hle, by omega, hov⟩, _, _, rfl⟩
    · rintro σ H2 ⟨b2, hB2, ⟨vs, ps, e2, hP, hnd, hle, hlen, hov⟩, o4, o5, rfl⟩
      exact ⟨_, rfl, q D H2 ps nD db ⟨vs, e2, hP⟩ hnd hle (by omega) hov (hB2.mono (by omega)) b2⟩
theorem ok_formulaF (T : Tx K mg) : FnOk P w K mg base CX0 8 (He.ga K "_law_formula") T.fd_formula ["_law_pairs"] (spFormulaL K) := by
  refine T.F_formula.ok sc_formula (fun vs H Q E h => ?_) (fun cdv A outer s H vs Q E hr h => ?_)
  · obtain ⟨a, ps, N, rfl, _⟩ := h
    rfl
  · obtain ⟨a, ps, N, rfl, ⟨vs, ha, hP⟩, hnd, hN, n60, l200, hG, q⟩ := h
    refine ⟨_, (pss_cons (ps_set (i := 1) sc_formula.nd rfl (.inl rfl) pe_dnewK)
      (pss_cons (ps_for PassesOwn.never rfl (pi_list (pv 0)) (pg_tup (by rfl) (pgs_cons (pg_name (i := 2) sc_formula.nd rfl (.inl rfl)) (pgs_cons (pg_name (i := 3) sc_formula.nd rfl (.inl rfl)) pgs_nil))) (pss_one (ps_dput (Nat.lt_of_le_of_lt (Nat.add_le_add_left (by decide) _) hr.units) (pv 1) (pv 2) (pe_make T.mk_R (ok_initQ T) (hr.mono (by decide)) (by rfl) T.c_Ratio (bind_init2 T) .nil pass0 (pa_cons (pe_ix ix_tup (pv 3) pe_int (fun _ _ => rfl)) (pa_cons (pe_ix ix_tup (pv 3) pe_int (fun _ _ => rfl)) pa_nil))) rfl)))
      (pss_one (ps_ret (pe_make T.mk_F (ok_Finit T) (hr.mono (by decide)) (by rfl) T.c_Formula T.b_Formula_init .nil pass0 (pa_cons (pv 1) pa_nil)))))), ?_⟩
    have lv := Paired.length hP
    refine fun p np => ?_
    have s0 := Same.upd np (o := .dK [])
    have p0 : upd H p (.dK []) p = some (.dK []) := upd_same
    generalize upd H p (.dK []) = H1 at *
    refine ⟨_, rfl, a, rfl, ⟨_, SqL.of (s0 _ _ ha)⟩, ?_⟩
    refine for_list (xs := vs) (fun i σ H2 => ∃ kt o2 o3, σ = [some (.ref a), some (.ref p), o2, o3] ∧ H2 p = some (.dK kt) ∧ DL (Rr K) H2 kt (ps.take i) ∧ Same H H2)
      ⟨[], none, none, rfl, p0, by rw [List.take_zero]; exact .nil, s0⟩ (fun i σ H2 _ ⟨_, _, _, _, _, _, h⟩ => SqL.of (h _ _ ha)) ?_ ?_
    · rintro i v σ H3 ev ⟨kt, o2, o3, rfl, hp, hD, hs⟩
      obtain ⟨⟨qw, qx⟩, eq, tq, r, rfl, hq, hr⟩ := paired_get hP ev
      dsimp only at hq hr
      have zq := hG.1 _ (List.mem_of_getElem? eq)
      have hr3 : FrQ H3 r qx := hs _ _ hr
      have hr4 := hr3.at_ (K := K)
      refine ⟨tq, _, rfl, SqT.of (hs _ _ hq), rfl, _, _, rfl, _, _, rfl, rfl, _, rfl, r, _, _, _, rfl, rfl, hr4, rfl, _, rfl, r, _, _, _, rfl, rfl, hr4, rfl, ?_⟩
      refine rq_make (r := qx) (FoQ.den_ne _) (zq.2.mono (by decide)) (Rat.num_divInt_den _) fun p5 H5 np5 s5 h5 => ⟨rfl, ?_⟩
      have hp5 := s5 _ _ hp
      have fresh : qw ∉ FoWd.keys (ps.take i) := take_fresh hnd eq
      have hD5 := hD.nld rr_solidD (same_nld s5)
      have nk : valV kt (.inr (tx qw)) = none := by
        rcases hD5.look (w := qw) with ⟨_, z⟩ | ⟨x, v, l1, _⟩
        · exact z
        · rw [look_none fresh] at l1; cases l1
      refine ⟨_, rfl, _, rfl, p, _, rfl, .inl ⟨kt, .inr (tx qw), hp5, rfl, ?_, rfl⟩, _, _, _, rfl, upd_same, ?_, fun b o e => ?_⟩
      · have z := hD.len
        rw [List.length_take] at z
        rw [sizeLine_eq]
        omega
      · rw [putK_new _ nk, List.take_add_one, eq]
        exact DL.snoc (hD5.nld rr_solidD (nld_upd hp5 id)) ⟨p5, rfl, rtAt_nld h5 (nld_upd hp5 id)⟩
      · rw [upd_ne (fun z => by rw [z, np] at e; cases e)]
        exact s5 _ _ (hs b o e)
    · rintro σ H2 ⟨kt, o2, o3, rfl, hp, hD, hs⟩
      rw [lv, List.take_length] at hD
      refine ⟨_, rfl, fm_make hp (Paired.mapP hD fun kv q ⟨e1, b, e2, e3⟩ => ⟨e1, .inl ⟨b, e2, e3⟩⟩) hnd hN n60 l200 hG fun p9 H9 np9 s9 hF => ⟨rfl, q p9 H9 (hs.free np9) (hs.trans s9) (hF.back hs)⟩⟩
end

end Fo


set_option maxHeartbeats 4100000
namespace Fo
open PySem PySem.Spec PyProof.Rows L2
open FoWd
theorem BoxAt.nl {H H' : Hp} {p : Addr} {n : Nat} (h : BoxAt H p n) (b : But p H H') : NLst H H' :=
  let ⟨_, _, _, a, _⟩ := h
  NLst.but a b
/-! ### rows of the law -/
def RowL (l : List Rat) (D : Addr) (H : Hp) (v : V) : Prop := ∃ q us, v = .ref q ∧ q ≠ D ∧ H q = some (.lst us) ∧ Ls Rq H us l
def LR (H : Hp) (a : Addr) (m : List (List Rat)) : Prop := ∃ ws, H a = some (.lst ws) ∧ ws.length = m.length ∧ ∀ (i : Nat) (v : V), ws[i]? = some v → RowL (m.getD i []) a H v
theorem RowL.same {l : List Rat} {D : Addr} {H H' : Hp} {v : V} (h : RowL l D H v) (s : Same H H') : RowL l D H' v := by
  obtain ⟨q, us, e1, e2, e3, e4⟩ := h
  exact ⟨q, us, e1, e2, s _ _ e3, e4.nl rq_solid (same_nl s)⟩
theorem RowL.but {l : List Rat} {D E : Addr} {H H' : Hp} {v : V} {acc : List V} (h : RowL l D H v) (hE : H E = some (.lst acc)) (b : But E H H') (n : ∀ q, v = .ref q → q ≠ E) : RowL l D H' v := by
  obtain ⟨q, us, e1, e2, e3, e4⟩ := h
  exact ⟨q, us, e1, e2, b _ _ e3 (n q e1), e4.nl rq_solid (NLst.but hE b)⟩
theorem RowL.self {l : List Rat} {D : Addr} {H H' : Hp} {v : V} {acc : List V} (h : RowL l D H v) (hE : H D = some (.lst acc)) (b : But D H H') : RowL l D H' v := by
  obtain ⟨q, us, e1, e2, e3, e4⟩ := h
  exact ⟨q, us, e1, e2, b _ _ e3 e2, e4.nl rq_solid (NLst.but hE b)⟩
theorem LR.same {H H' : Hp} {a : Addr} {m : List (List Rat)} (h : LR H a m) (s : Same H H') : LR H' a m := by
  obtain ⟨ws, e, el, hw⟩ := h
  exact ⟨ws, s _ _ e, el, fun i v ev => (hw i v ev).same s⟩
theorem ls_ne_box {H : Hp} {b q : Addr} {n : Nat} {us : List V} {l : List Rat} (hB : BoxAt H b n) (hq : H q = some (.lst us)) (hL : Ls Rq H us l) : q ≠ b := fun z => by
  obtain ⟨x, c, sd, e, _⟩ := hB
  rw [z, e] at hq
  cases hq
  obtain ⟨a, ea, _⟩ := hL.2 0 _ rfl
  cases ea
theorem LR.but {H H' : Hp} {a b : Addr} {n : Nat} {m : List (List Rat)} (h : LR H a m) (hB : BoxAt H b n) (s : But b H H') : LR H' a m := by
  obtain ⟨ws, e, el, hw⟩ := h
  have ab : a ≠ b := fun z => by
    obtain ⟨x, c, sd, e2, _⟩ := hB
    rw [z, e2] at e
    cases e
    obtain ⟨q, us, e3, _⟩ := hw 0 _ rfl
    cases e3
  refine ⟨ws, s _ _ e ab, el, fun i v ev => ?_⟩
  obtain ⟨q, us, e1, e2, e3, e4⟩ := hw i v ev
  exact ⟨q, us, e1, e2, s _ _ e3 (ls_ne_box hB e3 e4), e4.nl rq_solid (hB.nl s)⟩
theorem LR.row {H : Hp} {a : Addr} {m : List (List Rat)} (h : LR H a m) {i : Nat} (hi : i < m.length) : ∃ (ws : List V) (q : Addr) (us : List V), H a = some (.lst ws) ∧ ws[i]? = some (.ref q) ∧ H q = some (.lst us) ∧ Ls Rq H us (m.getD i []) := by
  obtain ⟨ws, e, el, hw⟩ := h
  have hi2 : i < ws.length := by omega
  obtain ⟨q, us, e1, e2, e3, e4⟩ := hw i _ (List.getElem?_eq_getElem hi2)
  exact ⟨ws, q, us, e, by rw [List.getElem?_eq_getElem hi2, e1], e3, e4⟩
/-- m[i][j], with its places -/
theorem LR.item {H : Hp} {a : Addr} {m : List (List Rat)} (h : LR H a m) {i j : Nat} (hi : i < m.length) (hj : j < (m.getD i []).length) : ∃ (ws : List V) (q : Addr) (us : List V) (t : Addr), H a = some (.lst ws) ∧ ws[i]? = some (.ref q) ∧ H q = some (.lst us) ∧ us[j]? = some (.ref t) ∧ FrQ H t (ent m i j) := by
  obtain ⟨ws, q, us, e1, e2, e3, e4⟩ := h.row hi
  obtain ⟨v, ev, t, rfl, ht⟩ := e4.at_ hj
  exact ⟨ws, q, us, t, e1, e2, e3, ev, ht⟩
theorem LR.len {H : Hp} {a : Addr} {m : List (List Rat)} (h : LR H a m) : ∃ ws, H a = some (.lst ws) ∧ ws.length = m.length := let ⟨ws, e, el, _⟩ := h; ⟨ws, e, el⟩
/-- rows that are being made at D -/
abbrev LI (f : Nat → List Rat) (H1 : Hp) (D : Addr) (i : Nat) (H : Hp) : Prop := LInv (fun j => RowL (f j) D) H1 D i H
theorem LI.next {f : Nat → List Rat} {H1 H H4 : Hp} {D q : Addr} {us : List V} {i : Nat} (h : LI f H1 D i H) (nD : H1 D = none) (s : Same H H4) (nq : H q = none) (hq : H4 q = some (.lst us)) (hu : Ls Rq H4 us (f i)) (hi : i < 1000) :
    ∃ acc, H4 D = some (.lst acc) ∧ acc.length < sizeLine ∧ LI f H1 D (i + 1) (upd H4 D (.lst (acc ++ [V.ref q]))) := by
  have qD : q ≠ D := fun z => by
    obtain ⟨_, ws, e, _⟩ := h
    rw [z, e] at nq
    cases nq
  exact LInv.nextB h (fun j {G G' acc u} hD b hR => RowL.self hR hD b) nD s ⟨q, us, rfl, qD, hq, hu⟩ (by omega)
theorem LI.done {f : Nat → List Rat} {H1 H : Hp} {D : Addr} {n : Nat} {m : List (List Rat)} (h : LI f H1 D n H) (hm : m.length = n) (hf : ∀ i, i < n → m.getD i [] = f i) : LR H D m := by
  obtain ⟨s, ws, e, el, hw⟩ := h
  refine ⟨ws, e, by omega, fun i v ev => ?_⟩
  have hi := (List.getElem?_eq_some_iff.mp ev).1
  rw [hf i (by omega)]
  exact hw i v ev
theorem LI.tab {f : Nat → Nat → Rat} {H1 H : Hp} {D : Addr} {n : Nat} (h : LI (fun i => (List.range n).map (f i)) H1 D n H) : LR H D (tab n f) := h.done (tab_len _ _) fun i hi => tab_row hi
theorem ls_tab {H : Hp} {us : List V} {n : Nat} {g : Nat → Rat} (e : us.length = n) (h : ∀ (j : Nat) (v : V), us[j]? = some v → Rq (g j) H v) : Ls Rq H us ((List.range n).map g) := by
  refine ⟨by rw [e]; simp, fun j u eu => ?_⟩
  have hj := (List.getElem?_eq_some_iff.mp eu).1
  rw [FoQ.co_map, if_pos (by omega)]
  exact h j u eu
theorem at0 {ws : List V} {i : Nat} {v : V} (h : ws[i]? = some v) : atI ws (0 + (i : Int)) = some v := by
  rw [Int.zero_add]
  exact atI_nat h
def spL1 (f : List (List Rat) → List (List Rat)) : Sp := fun vs H Q _ => ∃ (a : Addr) (m : List (List Rat)), vs = [.ref a] ∧ LR H a m ∧ Sqr m ∧ AllE 900 m ∧ ∀ p H', H p = none → Same H H' → LR H' p (f m) → Q (.ref p) H'
def spL2 (f : List (List Rat) → List (List Rat) → List (List Rat)) : Sp := fun vs H Q _ => ∃ (a b : Addr) (m k : List (List Rat)), vs = [.ref a, .ref b] ∧ LR H a m ∧ LR H b k ∧ Sqr m ∧ Sqr k ∧ m.length = k.length ∧ AllE 900 m ∧ AllE 900 k ∧ (∀ i j c, c ≤ m.length → FoQ.SzR 1900 (dotQ (m.getD i []) (colm k j) c)) ∧ ∀ p H', H p = none → Same H H' → LR H' p (f m k) → Q (.ref p) H'
def spLAdd : Sp := fun vs H Q _ => ∃ (a b c : Addr) (m k : List (List Rat)) (x : Rat), vs = [.ref a, .ref b, .ref c] ∧ LR H a m ∧ LR H b k ∧ FrQ H c x ∧ FoQ.SzR 900 x ∧ Sqr m ∧ Sqr k ∧ m.length = k.length ∧ AllE 1900 m ∧ AllE 900 k ∧ ∀ p H', H p = none → Same H H' → LR H' p (tzip (fun y z => y + x * z) m k) → Q (.ref p) H'
def spLUnit : Sp := fun vs H Q _ => ∃ (n : Nat), vs = [.int n] ∧ n ≤ 8 ∧ ∀ p H', H p = none → Same H H' → LR H' p (tunit n) → Q (.ref p) H'
def spLRows (K : PySem.W.Frag) : Sp := fun vs H Q _ => ∃ (a : Addr) (m : List (List Rat)), vs = [.ref a] ∧ TabAt K H a m ∧ m.length ≤ 8 ∧ (∀ i, (m.getD i []).length ≤ 1000) ∧ ∀ p H', H p = none → Same H H' → LR H' p m → Q (.ref p) H'
theorem dotQ_sz {x y : List Rat} {n : Nat} (hx : AllSz n x) (hy : AllSz n y) : ∀ k, FoQ.SzR ((2 * n + 1) * k + 1) (dotQ x y k)
  | 0 => FoQ.SzR.zero (by omega)
  | k + 1 => ((dotQ_sz hx hy k).add ((hx k).mul (hy k))).mono (by rw [Nat.mul_add]; omega)
theorem app_keep {H H' : Hp} {D : Addr} {v : V} {acc : List V} (s : Same H H') (nD : H D = none) : Same H (upd H' D (.lst (acc ++ [v]))) := same_set s nD
section
variable {P : Program} {w : World} {K : PySem.W.Frag} {mg : Str → Option Value} {base : Heap}
theorem ok_ttL (T : Tx K mg) : FnOk P w K mg base CX0 3 (He.ga K "_law_times_tables") T.fd_times_tables ["_law_one", "_law_other"] (spL2 tmul) := by
  refine T.F_times_tables.ok sc_times_tables (fun vs H Q E h => ?_) (fun cdv A outer s H vs Q E hr h => ?_)
  · obtain ⟨a, b, m, k, rfl, _⟩ := h
    rfl
  · obtain ⟨a, b, m, k, rfl, hA, hB, ⟨m1, m8, sm⟩, ⟨k1, k8, sk⟩, hl, zm, zk, zd, q⟩ := h
    refine ⟨_, (pss_cons (ps_set (i := 2) sc_times_tables.nd rfl (.inl rfl) (pe_callB call_len_seq (by rfl) T.z_len PySem.boot_len (pa_cons (pv 0) pa_nil)))
      (pss_cons (ps_set (i := 3) sc_times_tables.nd rfl (.inl rfl) (pe_lst pa_nil))
      (pss_cons (ps_for PassesOwn.never rfl (pi_range1 (by rfl) T.z_range (pa_cons (pv 2) pa_nil)) (pg_name (i := 4) sc_times_tables.nd rfl (.inl rfl)) (pss_cons (ps_set (i := 5) sc_times_tables.nd rfl (.inl rfl) (pe_lst pa_nil))
      (pss_cons (ps_for PassesOwn.never rfl (pi_range1 (by rfl) T.z_range (pa_cons (pv 2) pa_nil)) (pg_name (i := 6) sc_times_tables.nd rfl (.inl rfl)) (pss_cons (ps_set (i := 7) sc_times_tables.nd rfl (.inl rfl) (pe_tup (pa_cons pe_int (pa_cons pe_int pa_nil))))
      (pss_cons (ps_for PassesOwn.never rfl (pi_range1 (by rfl) T.z_range (pa_cons (pv 2) pa_nil)) (pg_name (i := 8) sc_times_tables.nd rfl (.inl rfl)) (pss_one (ps_set (i := 7) sc_times_tables.nd rfl (.inl rfl) (pe_call (ok_plusQ T) (hr.mono (by decide)) (by rfl) T.g_plus T.F_plus.kp T.b_plus .nil pass0 (pa_cons (pv 7) (pa_cons (pe_call (ok_timesQ T) (hr.mono (by decide)) (by rfl) T.g_times T.F_times.kp T.b_times .nil pass0 (pa_cons (pe_ix ix_list (pe_ix ix_list (pv 0) (pv 4) (fun _ _ => rfl)) (pv 8) (fun _ _ => rfl)) (pa_cons (pe_ix ix_list (pe_ix ix_list (pv 1) (pv 8) (fun _ _ => rfl)) (pv 6) (fun _ _ => rfl)) pa_nil))) pa_nil))))))
      (pss_one (ps_expr (pe_bm PySem.F.plainAttrs_list PySem.F.slot_list_append PySem.F.type_list_append mt_append (pv 5) (pa_cons (pv 7) pa_nil)))))))
      (pss_one (ps_expr (pe_bm PySem.F.plainAttrs_list PySem.F.slot_list_append PySem.F.type_list_append mt_append (pv 3) (pa_cons (pv 5) pa_nil)))))))
      (pss_one (ps_ret (pv 3)))))), ?_⟩
    obtain ⟨wa, ea, la⟩ := hA.len
    refine ⟨_, rfl, a, _, rfl, .inl (SqL.of ea), (by show 0 ≤ sizeLine; rw [sizeLine_eq]; decide), fun D nD => ?_⟩
    refine ⟨_, rfl, _, rfl, by omega, by omega, ?_⟩
    have s0 := Same.upd nD (o := .lst [])
    refine for_range (fun i σ H' => LI (fun i => (List.range m.length).map fun j => dotQ (m.getD i []) (colm k j) m.length) H D i H' ∧ ∃ o4 o5 o6 o7 o8, σ = [some (.ref a), some (.ref b), some (.int m.length), some (.ref D), o4, o5, o6, o7, o8]) ⟨LInv.start nD, _, _, _, _, _, by rw [← la]; rfl⟩ ?_ ?_
    · rintro i σ H1 hi ⟨h1, o4, o5, o6, o7, o8, rfl⟩
      have hi : i < m.length := by omega
      refine ⟨(by show 0 ≤ sizeLine; rw [sizeLine_eq]; decide), fun D2 nD2 => ?_⟩
      refine ⟨_, rfl, _, rfl, by omega, by omega, ?_⟩
      refine for_range (fun j σ H' => LInv (fun j => Rq (dotQ (m.getD i []) (colm k j) m.length)) H1 D2 j H' ∧ ∃ o6 o7 o8, σ = [some (.ref a), some (.ref b), some (.int m.length), some (.ref D), some (.int (0 + i)), some (.ref D2), o6, o7, o8]) ⟨LInv.start nD2, _, _, _, rfl⟩ ?_ ?_
      · rintro j σ H2 hj ⟨h2, o6, o7, o8, rfl⟩
        have hj : j < m.length := by omega
        refine ⟨(by show 2 ≤ sizeLine; rw [sizeLine_eq]; decide), fun t0 nt0 => ?_⟩
        have s2 := Same.upd nt0 (o := .tup [.int 0, .int 1])
        refine ⟨_, rfl, _, rfl, by omega, by omega, ?_⟩
        refine for_range (fun c σ H' => Same (upd H2 t0 (.tup [.int 0, .int 1])) H' ∧ ∃ f o8, σ = [some (.ref a), some (.ref b), some (.int m.length), some (.ref D), some (.int (0 + i)), some (.ref D2), some (.int (0 + j)), some (.ref f), o8] ∧ FrQ H' f (dotQ (m.getD i []) (colm k j) c)) ⟨Same.refl _, t0, _, rfl, upd_same⟩ ?_ ?_
        · rintro c σ H3 hc ⟨s3, f, o8, rfl, hf⟩
          have hc : c < m.length := by omega
          have sA : Same H H3 := h1.1.trans (h2.1.trans (s2.trans s3))
          obtain ⟨w1, q1, u1, t1, a1, a2, a3, a4, a5⟩ := (hA.same sA).item (i := i) (j := c) hi (by rw [sm i hi]; exact hc)
          obtain ⟨w2, q2, u2, t2, b1, b2, b3, b4, b5⟩ := (hB.same sA).item (i := c) (j := j) (by omega) (by rw [sk c (by omega)]; omega)
          have e5 : FoQ.co (colm k j) c = ent k c j := by
            unfold colm
            rw [FoQ.co_map, if_pos (by omega)]
          have zf : FoQ.SzR 1900 (dotQ (m.getD i []) (colm k j) c) := zd i j c (by omega)
          refine ⟨_, rfl, _, rfl, _, rfl, a, _, _, _, rfl, rfl, SqL.of a1, at0 a2, _, rfl, q1, _, _, _, rfl, rfl, SqL.of a3, at0 a4, ?_⟩
          refine ⟨_, rfl, _, rfl, b, _, _, _, rfl, rfl, SqL.of b1, at0 b2, _, rfl, q2, _, _, _, rfl, rfl, SqL.of b3, at0 b4, ?_⟩
          refine ⟨t1, t2, _, _, rfl, a5, b5, (zm i c).mono (by decide), (zk c j).mono (by decide), fun p4 n4 => ?_⟩
          have s4 := Same.upd n4 (o := qt (ent m i c * ent k c j))
          refine ⟨f, p4, _, _, rfl, hf.same s4, upd_same, zf.mono (by decide), ((zm i c).mul (zk c j)).mono (by decide), fun p5 n5 => ?_⟩
          refine ⟨s3.trans (s4.trans (Same.upd n5)), p5, _, rfl, ?_⟩
          show FrQ _ p5 (dotQ (m.getD i []) (colm k j) c + FoQ.co (m.getD i []) c * FoQ.co (colm k j) c)
          rw [e5]
          exact upd_same
        · rintro σ H3 ⟨s3, f, o8, rfl, hf⟩
          have e2 := h2.2
          obtain ⟨wr, er, lr, hr2⟩ := e2
          have er3 := (s2.trans s3) _ _ er
          refine ⟨_, rfl, .inl ⟨rfl, _, SqL.of er3⟩, _, rfl, D2, _, _, rfl, rfl, er3, by rw [lr, sizeLine_eq]; omega, ?_⟩
          have tn : (m.length : Int).toNat = m.length := Int.toNat_natCast _
          obtain ⟨acc, ea2, la2, hn2⟩ := h2.next (fun j => rq_solid _) nD2 (s2.trans s3) (v := .ref f) ⟨f, rfl, by rw [← tn]; exact hf⟩ (by omega)
          rw [er3] at ea2
          cases ea2
          exact ⟨hn2, _, _, _, rfl⟩
      · rintro σ H2 ⟨h2, o6, o7, o8, rfl⟩
        obtain ⟨s2, wr, er, lr, hr2⟩ := h2
        have e1 := h1.2
        obtain ⟨wf, ef, lf, hf⟩ := e1
        have ef2 := s2 _ _ ef
        refine ⟨_, rfl, .inl ⟨rfl, _, SqL.of ef2⟩, _, rfl, D, _, _, rfl, rfl, ef2, by rw [lf, sizeLine_eq]; omega, ?_⟩
        obtain ⟨acc, ea2, la2, hn2⟩ := LI.next h1 nD s2 nD2 er (ls_tab (by rw [lr]; exact Int.toNat_natCast _) hr2) (by omega)
        rw [ef2] at ea2
        cases ea2
        exact ⟨hn2, _, _, _, _, _, rfl⟩
    · rintro σ H1 ⟨h1, o4, o5, o6, o7, o8, rfl⟩
      have tn : ((wa.length : Nat) : Int).toNat = m.length := by rw [Int.toNat_natCast, la]
      rw [tn] at h1
      exact ⟨_, rfl, q D H1 nD h1.1 h1.tab⟩
end

section
variable {P : Program} {w : World} {K : PySem.W.Frag} {mg : Str → Option Value} {base : Heap}
theorem ok_addL (T : Tx K mg) : FnOk P w K mg base CX0 3 (He.ga K "_law_added") T.fd_added ["_law_one", "_law_other", "_law_factor"] spLAdd := by
  refine T.F_added.ok sc_added (fun vs H Q E h => ?_) (fun cdv A outer s H vs Q E hr h => ?_)
  · obtain ⟨a, b, c, m, k, x, rfl, _⟩ := h
    rfl
  · obtain ⟨a, b, c, m, k, x, rfl, hA, hB, hx, zx, ⟨m1, m8, sm⟩, ⟨k1, k8, sk⟩, hl, zm, zk, q⟩ := h
    refine ⟨_, (pss_cons (ps_set (i := 3) sc_added.nd rfl (.inl rfl) (pe_lst pa_nil))
      (pss_cons (ps_for PassesOwn.never rfl (pi_range1 (by rfl) T.z_range (pa_cons (pe_callB call_len_seq (by rfl) T.z_len PySem.boot_len (pa_cons (pv 0) pa_nil)) pa_nil)) (pg_name (i := 4) sc_added.nd rfl (.inr rfl)) (pss_one (ps_expr (pe_bm PySem.F.plainAttrs_list PySem.F.slot_list_append PySem.F.type_list_append mt_append (pv 3) (pa_cons (pe_lc (own := [("_law_k", 5)]) (g := gName 5) rfl sc_added.nd (pi_range1 (by rfl) T.z_range (pa_cons (pe_callB call_len_seq (by rfl) T.z_len PySem.boot_len (pa_cons (pv 0) pa_nil)) pa_nil)) (blkOk_by (own := [("_law_k", 5)]) (N := ["_law_one", "_law_other", "_law_factor", "_law_found", "_law_j", "_law_k"]) (sc := defScope s_added) (by decide +kernel)) (fun _ _ _ _ _ => (pg_name (i := 5) sc_added.nd rfl (.inl rfl))) (fun _ _ _ _ _ => pts_nil) (fun _ _ _ _ _ => (pe_call (ok_plusQ T) (hr.mono (by decide)) (by rfl) T.g_plus T.F_plus.kp T.b_plus .nil pass0 (pa_cons (pe_ix (FoK.ix_listK (K' := K) rfl) (pe_ix (FoK.ix_listK (K' := K) rfl) (pv 0) (pv 4) (fun _ _ => rfl)) (pv 5) (fun _ _ => rfl)) (pa_cons (pe_call (ok_timesQ T) (hr.mono (by decide)) (by rfl) T.g_times T.F_times.kp T.b_times .nil pass0 (pa_cons (pv 2) (pa_cons (pe_ix (FoK.ix_listK (K' := K) rfl) (pe_ix (FoK.ix_listK (K' := K) rfl) (pv 1) (pv 4) (fun _ _ => rfl)) (pv 5) (fun _ _ => rfl)) pa_nil))) pa_nil))))) pa_nil)))))
      (pss_one (ps_ret (pv 3))))), ?_⟩
    refine ⟨(by show 0 ≤ sizeLine; rw [sizeLine_eq]; decide), fun D nD => ?_⟩
    have s0 := Same.upd nD (o := .lst [])
    obtain ⟨wa, ea, la⟩ := hA.len
    refine ⟨_, rfl, a, _, rfl, .inl (SqL.of (s0 _ _ ea)), _, rfl, by omega, by omega, ?_⟩
    have tn : ((wa.length : Nat) : Int).toNat = m.length := by rw [Int.toNat_natCast, la]
    refine for_range (fun i σ H' => LI (fun i => (List.range m.length).map fun j => ent m i j + x * ent k i j) H D i H' ∧ ∃ o4 o5, σ = [some (.ref a), some (.ref b), some (.ref c), some (.ref D), o4, o5]) ⟨LInv.start nD, _, _, rfl⟩ ?_ ?_
    · rintro i σ H1 hi ⟨h1, o4, o5, rfl⟩
      have hi : i < m.length := by omega
      have e1 := h1.2
      obtain ⟨wf, ef, lf, hf⟩ := e1
      refine ⟨_, rfl, .inl ⟨rfl, _, SqL.of ef⟩, ?_⟩
      obtain ⟨wa1, ea1, la1⟩ := (hA.same h1.1).len
      have tn1 : ((wa1.length : Nat) : Int).toNat = m.length := by rw [Int.toNat_natCast, la1]
      refine ⟨_, rfl, a, _, rfl, .inl (SqL.of ea1), _, rfl, by omega, by omega, fun D2 nD2 => ?_⟩
      refine lc_range (LInv (fun j => Rq (ent m i j + x * ent k i j)) H1 D2) (LInv.start nD2) (fun j H2 hj h2 => ?_) (fun H2 h2 => ?_)
      · have hj : j < m.length := by omega
        have sA := h1.1.trans h2.1
        obtain ⟨w1, q1, u1, t1, a1, a2, a3, a4, a5⟩ := (hA.same sA).item (i := i) (j := j) hi (by rw [sm i hi]; exact hj)
        obtain ⟨w2, q2, u2, t2, b1, b2, b3, b4, b5⟩ := (hB.same sA).item (i := i) (j := j) (by omega) (by rw [sk i (by omega)]; omega)
        refine ⟨rfl, ?_⟩
        refine ⟨_, rfl, _, rfl, a, _, _, _, rfl, rfl, SqL.of a1, at0 a2, _, rfl, q1, _, _, _, rfl, rfl, SqL.of a3, at0 a4, ?_⟩
        refine ⟨_, rfl, _, rfl, _, rfl, b, _, _, _, rfl, rfl, SqL.of b1, at0 b2, _, rfl, q2, _, _, _, rfl, rfl, SqL.of b3, at0 b4, ?_⟩
        refine ⟨c, t2, _, _, rfl, hx.same sA, b5, zx.mono (by decide), (zk i j).mono (by decide), fun p4 n4 => ?_⟩
        have s4 := Same.upd n4 (o := qt (x * ent k i j))
        refine ⟨t1, p4, _, _, rfl, a5.same s4, upd_same, (zm i j).mono (by decide), (zx.mul (zk i j)).mono (by decide), fun p5 n5 => ?_⟩
        exact h2.next (fun j => rq_solid _) nD2 (s4.trans (Same.upd n5)) ⟨p5, rfl, upd_same⟩ (by omega)
      · obtain ⟨s2, wr, er, lr, hr2⟩ := h2
        have ef2 := s2 _ _ ef
        refine ⟨D, _, _, rfl, rfl, ef2, by rw [lf, sizeLine_eq]; omega, ?_⟩
        obtain ⟨acc, ea2, la2, hn2⟩ := LI.next h1 nD s2 nD2 er (ls_tab (by rw [lr]; exact tn1) hr2) (by omega)
        rw [ef2] at ea2
        cases ea2
        exact ⟨hn2, _, _, rfl⟩
    · rintro σ H1 ⟨h1, o4, o5, rfl⟩
      rw [tn] at h1
      exact ⟨_, rfl, q D H1 nD h1.1 h1.tab⟩
theorem ok_unitL (T : Tx K mg) : FnOk P w K mg base CX0 1 (He.ga K "_law_unit") T.fd_unit ["_law_size"] spLUnit := by
  refine T.F_unit.ok sc_unit (fun vs H Q E h => ?_) (fun cdv A outer s H vs Q E hr h => ?_)
  · obtain ⟨n, rfl, _⟩ := h
    rfl
  · obtain ⟨n, rfl, h8, q⟩ := h
    refine ⟨_, (pss_one (ps_ret (pe_lc (own := [("_law_j", 1)]) (g := gName 1) rfl sc_unit.nd (pi_range1 (by rfl) T.z_range (pa_cons (pv 0) pa_nil)) (blkOk_by (own := [("_law_j", 1)]) (N := ["_law_size", "_law_j", "_law_k"]) (sc := defScope s_unit) (by decide +kernel)) (fun _ _ _ _ _ => (pg_name (i := 1) sc_unit.nd rfl (.inr rfl))) (fun _ _ _ _ _ => pts_nil) (fun _ _ _ _ _ => (pe_lc (own := [("_law_k", 2)]) (g := gName 2) rfl sc_unit.nd (pi_range1 (by rfl) T.z_range (pa_cons (pv 0) pa_nil)) (blkOk_by (own := [("_law_k", 2)]) (N := ["_law_size", "_law_j", "_law_k"]) (sc := _) (by kernel_rfl)) (fun _ _ _ _ _ => (pg_name (i := 2) sc_unit.nd rfl (.inl rfl))) (fun _ _ _ _ _ => pts_nil) (fun _ _ _ _ _ => (pe_tup (pa_cons (pe_callTy FoA.call_intB (by rfl) T.z_int (by decide +kernel) (pa_cons (pe_cmpR op_eq (pv 1) (pv 2) (nomark _)) pa_nil)) (pa_cons pe_int pa_nil))))))))), ?_⟩
    have tn : ((n : Nat) : Int).toNat = n := Int.toNat_natCast _
    refine ⟨_, rfl, _, rfl, by omega, by omega, fun D nD => ?_⟩
    refine lc_range (LI (fun i => (List.range n).map fun j => if i = j then (1 : Rat) else 0) H D) (LInv.start nD) (fun i H2 hi h => ?_) (fun H2 h => ?_)
    · refine ⟨rfl, _, rfl, _, rfl, by omega, by omega, fun D2 nD2 => ?_⟩
      refine lc_range (LInv (fun j => Rq (if i = j then (1 : Rat) else 0)) H2 D2) (LInv.start nD2) (fun j H3 hj h3 => ?_) (fun H3 h3 => ?_)
      · refine ⟨rfl, _, rfl, _, rfl, rfl, _, rfl, (by show 2 ≤ sizeLine; rw [sizeLine_eq]; decide), fun p np => ?_⟩
        refine h3.next (fun j => rq_solid _) nD2 (Same.upd np) ⟨p, rfl, ?_⟩ (by omega)
        by_cases c : i = j
        · rw [if_pos c, decide_eq_true (show V.int (0 + (i : Int)) = V.int (0 + (j : Int)) by rw [c])]
          exact upd_same
        · rw [if_neg c, decide_eq_false (fun z : V.int (0 + (i : Int)) = V.int (0 + (j : Int)) => c (by have := V.int.inj z; omega))]
          exact upd_same
      · obtain ⟨s5, us, e5, l5, hu⟩ := h3
        exact LI.next h nD s5 nD2 e5 (ls_tab (by rw [l5]; exact tn) hu) (by omega)
    · rw [tn] at h
      exact q D H2 nD h.1 h.tab
theorem ok_flipL (T : Tx K mg) : FnOk P w K mg base CX0 1 (He.ga K "_law_flipped") T.fd_flipped ["_law_rows"] (spL1 flip) := by
  refine T.F_flipped.ok sc_flipped (fun vs H Q E h => ?_) (fun cdv A outer s H vs Q E hr h => ?_)
  · obtain ⟨a, m, rfl, _⟩ := h
    rfl
  · obtain ⟨a, m, rfl, hA, ⟨m1, m8, sm⟩, zm, q⟩ := h
    refine ⟨_, (pss_one (ps_ret (pe_lc (own := [("_law_j", 1)]) (g := gName 1) rfl sc_flipped.nd (pi_range1 (by rfl) T.z_range (pa_cons (pe_callB call_len_seq (by rfl) T.z_len PySem.boot_len (pa_cons (pv 0) pa_nil)) pa_nil)) (blkOk_by (own := [("_law_j", 1)]) (N := ["_law_rows", "_law_j", "_law_k"]) (sc := defScope s_flipped) (by decide +kernel)) (fun _ _ _ _ _ => (pg_name (i := 1) sc_flipped.nd rfl (.inr rfl))) (fun _ _ _ _ _ => pts_nil) (fun _ _ _ _ _ => (pe_lc (own := [("_law_k", 2)]) (g := gName 2) rfl sc_flipped.nd (pi_range1 (by rfl) T.z_range (pa_cons (pe_callB (FoK.call_lenK (K' := K) (by rfl)) (by rfl) T.z_len PySem.boot_len (pa_cons (pv 0) pa_nil)) pa_nil)) (blkOk_by (own := [("_law_k", 2)]) (N := ["_law_rows", "_law_j", "_law_k"]) (sc := _) (by kernel_rfl)) (fun _ _ _ _ _ => (pg_name (i := 2) sc_flipped.nd rfl (.inl rfl))) (fun _ _ _ _ _ => pts_nil) (fun _ _ _ _ _ => (pe_ix (FoK.ix_listK (K' := K) rfl) (pe_ix (FoK.ix_listK (K' := K) rfl) (pv 0) (pv 2) (fun _ _ => rfl)) (pv 1) (fun _ _ => rfl)))))))), ?_⟩
    obtain ⟨wa, ea, la⟩ := hA.len
    have tn : ((wa.length : Nat) : Int).toNat = m.length := by rw [Int.toNat_natCast, la]
    refine ⟨_, rfl, a, _, rfl, .inl (SqL.of ea), _, rfl, by omega, by omega, fun D nD => ?_⟩
    refine lc_range (LI (fun i => (List.range m.length).map fun j => ent m j i) H D) (LInv.start nD) (fun i H2 hi h => ?_) (fun H2 h => ?_)
    · have ea2 := h.1 _ _ ea
      refine ⟨rfl, _, rfl, a, _, rfl, .inl (SqL.of ea2), _, rfl, by omega, by omega, fun D2 nD2 => ?_⟩
      refine lc_range (LInv (fun j => Rq (ent m j i)) H2 D2) (LInv.start nD2) (fun j H3 hj h3 => ?_) (fun H3 h3 => ?_)
      · obtain ⟨w1, q1, u1, t1, a1, a2, a3, a4, a5⟩ := (hA.same (h.1.trans h3.1)).item (i := j) (j := i) (by omega) (by rw [sm j (by omega)]; omega)
        refine ⟨rfl, _, rfl, _, rfl, a, _, _, _, rfl, rfl, SqL.of a1, at0 a2, _, rfl, q1, _, _, _, rfl, rfl, SqL.of a3, at0 a4, ?_⟩
        exact h3.next (fun j => rq_solid _) nD2 (Same.refl _) ⟨t1, rfl, a5⟩ (by omega)
      · obtain ⟨s5, us, e5, l5, hu⟩ := h3
        exact LI.next h nD s5 nD2 e5 (ls_tab (by rw [l5]; exact tn) hu) (by omega)
    · rw [tn] at h
      exact q D H2 nD h.1 h.tab
end

theorem dp_all {K : PySem.W.Frag} {H : Hp} : ∀ {ws : List V} {l : List Rat}, Ls Rq H ws l → DpAll K H ws (l.map tq)
  | [], l, h => by
    have e : l = [] := List.length_eq_zero_iff.mp h.1.symm
    subst e
    exact .nil
  | v :: ws, [], h => absurd h.1 (by simp)
  | v :: ws, x :: l, h => by
    obtain ⟨a, rfl, ha⟩ := h.2 0 v rfl
    rw [FoQ.co_zero] at ha
    exact .cons (dp_q ha) (dp_all ⟨by have := h.1; simpa using this, fun i w e => by have := h.2 (i + 1) w e; rwa [FoQ.co_succ] at this⟩)
theorem dp_ls {K : PySem.W.Frag} {H : Hp} {a : Addr} {ws : List V} {l : List Rat} (h : H a = some (.lst ws)) (g : Ls Rq H ws l) : Dp K H (.ref a) (.list (l.map tq)) := .lst (SqL.of h) (dp_all g)
theorem all_lay : ∀ l : List Rat, PyData.canLayAll0 (l.map tq) = true ∧ PyData.depthAll (l.map tq) ≤ 1
  | [] => ⟨rfl, by decide⟩
  | x :: l => by
    obtain ⟨h1, h2⟩ := all_lay l
    refine ⟨?_, ?_⟩
    · show (PyData.canLay0 (tq x) && PyData.canLayAll0 (l.map tq)) = true
      rw [h1]
      rfl
    · show max (PyData.depth (tq x)) (PyData.depthAll (l.map tq)) ≤ 1
      exact Nat.max_le.mpr ⟨Nat.le_refl 1, h2⟩
theorem ls_shaped (l : List Rat) : SeqAt.shaped (.list (l.map tq)) = true := by
  obtain ⟨h1, h2⟩ := all_lay l
  show (PyData.canLayAll0 (l.map tq) && decide (PyData.depthAll (l.map tq) + 1 ≤ 64)) = true
  rw [h1, decide_eq_true (by omega)]
  rfl
theorem ls_eqv : ∀ l m : List Rat, PyData.eqv (.list (l.map tq)) (.list (m.map tq)) = decide (l = m)
  | [], [] => rfl
  | [], _ :: _ => rfl
  | _ :: _, [] => rfl
  | x :: l, z :: m => by
    have h := ls_eqv l m
    show (PyData.eqv (tq x) (tq z) && PyData.eqv (.list (l.map tq)) (.list (m.map tq))) = _
    rw [h, tq_eqv]
    by_cases e1 : x = z <;> by_cases e2 : l = m <;> simp [e1, e2]
def tr (l : List Rat) : PyData := .list (l.map tq)
theorem dp_rows {K : PySem.W.Frag} {H : Hp} {a : Addr} : ∀ {ws : List V} {m : List (List Rat)}, ws.length = m.length → (∀ (i : Nat) (v : V), ws[i]? = some v → RowL (m.getD i []) a H v) → DpAll K H ws (m.map tr)
  | [], m, h, _ => by
    have e : m = [] := List.length_eq_zero_iff.mp h.symm
    subst e
    exact .nil
  | v :: ws, [], h, _ => absurd h (by simp)
  | v :: ws, x :: l, h, g => by
    obtain ⟨q, us, rfl, _, e3, e4⟩ := g 0 v rfl
    exact .cons (dp_ls e3 e4) (dp_rows (by simpa using h) fun i w e => g (i + 1) w e)
theorem dp_lr {K : PySem.W.Frag} {H : Hp} {a : Addr} {m : List (List Rat)} (h : LR H a m) : Dp K H (.ref a) (.list (m.map tr)) := by
  obtain ⟨ws, e, el, hw⟩ := h
  exact .lst (SqL.of e) (dp_rows el hw)
theorem lay_rows : ∀ m : List (List Rat), PyData.canLayAll0 (m.map tr) = true ∧ PyData.depthAll (m.map tr) ≤ 2
  | [] => ⟨rfl, by decide⟩
  | x :: l => by
    obtain ⟨h1, h2⟩ := lay_rows l
    obtain ⟨g1, g2⟩ := all_lay x
    refine ⟨?_, ?_⟩
    · show (PyData.canLayAll0 (x.map tq) && PyData.canLayAll0 (l.map tr)) = true
      rw [h1, g1]
      rfl
    · show max (PyData.depthAll (x.map tq) + 1) (PyData.depthAll (l.map tr)) ≤ 2
      exact Nat.max_le.mpr ⟨by omega, h2⟩
theorem lr_shaped (m : List (List Rat)) : SeqAt.shaped (.list (m.map tr)) = true := by
  obtain ⟨h1, h2⟩ := lay_rows m
  show (PyData.canLayAll0 (m.map tr) && decide (PyData.depthAll (m.map tr) + 1 ≤ 64)) = true
  rw [h1, decide_eq_true (by omega)]
  rfl
theorem lr_eqv : ∀ l m : List (List Rat), PyData.eqv (.list (l.map tr)) (.list (m.map tr)) = decide (l = m)
  | [], [] => rfl
  | [], _ :: _ => rfl
  | _ :: _, [] => rfl
  | x :: l, z :: m => by
    have h := lr_eqv l m
    show (PyData.eqv (tr x) (tr z) && PyData.eqv (.list (l.map tr)) (.list (m.map tr))) = _
    rw [h]
    unfold tr
    rw [ls_eqv]
    by_cases e1 : x = z <;> by_cases e2 : l = m <;> simp [e1, e2]
theorem lr_ne {K : PySem.W.Frag} {H : Hp} {a b : Addr} {l m : List (List Rat)} {Q : VK} (ha : LR H a l) (hb : LR H b m) (e : l = m) (q : Q (.bl false) H) : rNeD K (.ref a) (.ref b) H Q := by
  refine ⟨_, _, dp_lr ha, dp_lr hb, lr_shaped _, lr_shaped _, ?_⟩
  rw [lr_eqv, decide_eq_true e]
  exact q
theorem lr_eq {K : PySem.W.Frag} {H : Hp} {a b : Addr} {l m : List (List Rat)} {Q : VK} (ha : LR H a l) (hb : LR H b m) (q : Q (.bl (decide (l = m))) H) : rEqD K (.ref a) (.ref b) H Q := by
  refine ⟨_, _, dp_lr ha, dp_lr hb, lr_shaped _, lr_shaped _, ?_⟩
  rw [lr_eqv]
  exact q

end Fo


set_option maxHeartbeats 4100000
namespace Fo
open PySem PySem.Spec PyProof.Rows L2
open FoWd
theorem PairOk.sqW {n b : Nat} {P R : List (List Rat)} (o : PairOk n b P R) (n1 : 1 ≤ n) (n4 : n ≤ 4) (w : Wd) : Sqr (prodW n P R w) := (prodW_sq o.sP o.sR w).sqr n1 (by omega)
theorem PairOk.w6 {n b : Nat} {P R : List (List Rat)} (o : PairOk n b P R) (n4 : n ≤ 4) (b56 : b ≤ 56) {w : Wd} (h : w.length ≤ 6) : CDT 400 (prodW n P R w) := (o.word n4 w).mono (by
  have : (b + 3) * w.length ≤ 59 * 6 := Nat.mul_le_mul (by omega) h
  omega)
theorem CDT.row {B : Nat} {m : List (List Rat)} (h : CDT B m) (i : Nat) : CD B (m.getD i []) := by
  obtain ⟨N, n0, n1, n2⟩ := h
  exact ⟨N, n0, n1, fun j => n2 i j⟩
theorem CDT.col {B : Nat} {m : List (List Rat)} (h : CDT B m) (j : Nat) : CD B (colm m j) := by
  obtain ⟨N, n0, n1, n2⟩ := h
  refine ⟨N, n0, n1, fun i => ?_⟩
  unfold colm
  rw [FoQ.co_map]
  split
  · exact n2 i j
  · exact ⟨0, Nat.two_pow_pos B, by rw [Rat.zero_mul]; rfl⟩
theorem CDT.dots {B C n : Nat} {m k : List (List Rat)} (h : CDT B m) (g : CDT C k) (s : SqN n m) (n4 : n ≤ 4) (l : B + C + 3 ≤ 1900) : ∀ i j c, c ≤ m.length → FoQ.SzR 1900 (dotQ (m.getD i []) (colm k j) c) := fun i j c hc => (CD.dot (h.row i) (g.col j) (by rw [s.1] at hc; omega)).mono l
theorem vent_sz {n b : Nat} {P R : List (List Rat)} (o : PairOk n b P R) (n1 : 1 ≤ n) (n4 : n ≤ 4) (b56 : b ≤ 56) {ps : Ps} (h : AllOv 2520 400000 ps) (g : Le 6 ps) (l : ps.length ≤ 12) (i j : Nat) : FoQ.SzR 1800 (vent n P R ps i j) := by
  obtain ⟨N, n0, hN, W⟩ := o.tb n1 n4 b56
  refine (vent_ov W h (fun p hp => Nat.le_trans (g p hp) (by decide)) i j).sz (Nat.mul_pos (by decide) n0) (pow_m (a := 12) (b := 1008) (by decide) (by decide) (Nat.le_of_lt hN)) ?_
  rw [← Nat.mul_assoc]
  exact pow_m (a := 23) (b := 1026) (by decide) (Nat.lt_of_le_of_lt (Nat.mul_le_mul_right _ l) (by decide)) (Nat.le_refl _)
theorem vent_snoc {n : Nat} {P R : List (List Rat)} (ps : Ps) (p : Wd × Rat) (i j : Nat) : vent n P R (ps ++ [p]) i j = vent n P R ps i j + p.2 * ent (prodW n P R p.1) i j := by
  unfold vent
  rw [lin_app]
  congr 1
  show p.2 * _ + 0 = _
  rw [Rat.add_zero]
theorem tval_snoc {n : Nat} {P R : List (List Rat)} (hP : SqN n P) (hR : SqN n R) (ps : Ps) (p : Wd × Rat) : tzip (fun y z => y + p.2 * z) (tval n P R ps) (prodW n P R p.1) = tval n P R (ps ++ [p]) := by
  unfold tzip
  rw [(tval_sq ps).1]
  refine tab_congr fun i j hi hj => ?_
  rw [tval_ent hi hj, vent_snoc]
theorem tval_nil {n : Nat} {P R : List (List Rat)} : tzip (fun y z => y + (-1) * z) (tunit n) (tunit n) = tval n P R [] := by
  unfold tzip
  rw [show (tunit n).length = n from tab_len _ _]
  refine tab_congr fun i j hi hj => ?_
  show _ = (0 : Rat)
  grind
theorem unit_sz {n B : Nat} (hB : 2 ≤ B) : AllE B (tunit n) := allE_tab (fun i j _ _ => by
  show FoQ.SzR B (if i = j then (1 : Rat) else 0)
  split
  · exact (FoQ.SzR.int (i := 1) (sz_of 2 (by decide) (by decide) (by decide)) (by decide)).mono hB
  · exact FoQ.SzR.zero (by omega)) (by omega)
def spLVal : Sp := fun vs H Q _ => ∃ (a p q : Addr) (ps : Ps) (n b : Nat) (P R : List (List Rat)), vs = [.ref a, .ref p, .ref q] ∧ LP H a ps ∧ LR H p P ∧ LR H q R ∧ PairOk n b P R ∧ 1 ≤ n ∧ n ≤ 4 ∧ b ≤ 56 ∧ Le 6 ps ∧ ps.length ≤ 12 ∧ AllOv 2520 400000 ps ∧
  ∀ r H', H r = none → Same H H' → LR H' r (tval n P R ps) → Q (.ref r) H'
section
variable {P : Program} {w : World} {K : PySem.W.Frag} {mg : Str → Option Value} {base : Heap}
theorem ok_valueL (T : Tx K mg) : FnOk P w K mg base CX0 4 (He.ga K "_law_value") T.fd_value ["_law_pairs", "_law_first", "_law_second"] spLVal := by
  refine T.F_value.ok sc_value (fun vs H Q E h => ?_) (fun cdv A outer s H vs Q E hr h => ?_)
  · obtain ⟨a, p, q, ps, n, b0, P, R, rfl, _⟩ := h
    rfl
  · obtain ⟨a, p, q, ps, n, b0, P, R, rfl, ⟨vs, ha, hL⟩, hP, hR, o, n1', n4', b56', h6, l12, hz, Qr⟩ := h
    have n8' : n ≤ 8 := by omega
    refine ⟨_, (pss_cons (ps_set (i := 3) sc_value.nd rfl (.inl rfl) (pe_callB call_len_seq (by rfl) T.z_len PySem.boot_len (pa_cons (pv 1) pa_nil)))
      (pss_cons (ps_set (i := 4) sc_value.nd rfl (.inl rfl) (pe_call (ok_addL T) (hr.mono (by decide)) (by rfl) T.g_added T.F_added.kp T.b_added .nil pass0 (pa_cons (pe_call (ok_unitL T) (hr.mono (by decide)) (by rfl) T.g_unit T.F_unit.kp T.b_unit .nil pass0 (pa_cons (pv 3) pa_nil)) (pa_cons (pe_call (ok_unitL T) (hr.mono (by decide)) (by rfl) T.g_unit T.F_unit.kp T.b_unit .nil pass0 (pa_cons (pv 3) pa_nil)) (pa_cons (pe_tup (pa_cons (pe_un un_neg pe_int) (pa_cons pe_int pa_nil))) pa_nil)))))
      (pss_cons (ps_for PassesOwn.never rfl (pi_list (pv 0)) (pg_tup (by rfl) (pgs_cons (pg_name (i := 5) sc_value.nd rfl (.inl rfl)) (pgs_cons (pg_name (i := 6) sc_value.nd rfl (.inl rfl)) pgs_nil))) (pss_cons (ps_set (i := 7) sc_value.nd rfl (.inl rfl) (pe_call (ok_unitL T) (hr.mono (by decide)) (by rfl) T.g_unit T.F_unit.kp T.b_unit .nil pass0 (pa_cons (pv 3) pa_nil)))
      (pss_cons (ps_for PassesOwn.never rfl (pi_str (pe_call (ok_shortL T) (hr.mono (by decide)) (by rfl) T.g_short T.F_short.kp T.b_short .nil pass0 (pa_cons (pv 5) pa_nil))) (pg_name (i := 8) sc_value.nd rfl (.inl rfl)) (pss_one (ps_set (i := 7) sc_value.nd rfl (.inl rfl) (pe_call (ok_ttL T) (hr.mono (by decide)) (by rfl) T.g_times_tables T.F_times_tables.kp T.b_times_tables .nil pass0 (pa_cons (pv 7) (pa_cons (pe_ifExp (pt_cmpR op_eq (pv 8) pe_str (nomark _)) (pv 1) (pv 2)) pa_nil))))))
      (pss_one (ps_set (i := 4) sc_value.nd rfl (.inl rfl) (pe_call (ok_addL T) (hr.mono (by decide)) (by rfl) T.g_added T.F_added.kp T.b_added .nil pass0 (pa_cons (pv 4) (pa_cons (pv 7) (pa_cons (pv 6) pa_nil)))))))))
      (pss_one (ps_ret (pv 4)))))), ?_⟩
    have lv := Paired.length hL
    obtain ⟨wp, ep, lp⟩ := hP.len
    rw [o.sP.1] at lp
    refine ⟨_, rfl, p, _, rfl, .inl (SqL.of ep), ?_⟩
    rw [lp]
    refine ⟨_, rfl, n, rfl, n8', fun u1 H1 n1 s1 hu1 => ?_⟩
    refine ⟨_, rfl, n, rfl, n8', fun u2 H2 n2 s2 hu2 => ?_⟩
    refine ⟨_, rfl, (by show 2 ≤ sizeLine; rw [sizeLine_eq]; decide), fun t0 nt0 => ?_⟩
    have s3 := Same.upd nt0 (o := .tup [.int (-1), .int 1])
    have h0 : FrQ (upd H2 t0 (.tup [.int (-1), .int 1])) t0 (-1) := upd_same
    have sU : Sqr (tunit n) := (SqN.tab n _).sqr n1' n8'
    refine ⟨u1, u2, t0, tunit n, tunit n, -1, rfl, (hu1.same s2).same s3, hu2.same s3, h0, (FoQ.SzR.int (i := -1) (sz_of 2 (by decide) (by decide) (by decide)) (by decide) : FoQ.SzR 2 ((-1 : Int) : Rat)).mono (by decide), sU, sU, rfl, unit_sz (by decide), unit_sz (by decide), fun f0 H3 nf0 s4 hf0 => ?_⟩
    rw [tval_nil (P := P) (R := R)] at hf0
    have s04 : Same H H3 := s1.trans (s2.trans (s3.trans s4))
    have nfH : H f0 = none := (s1.trans (s2.trans s3)).free nf0
    refine ⟨_, rfl, a, rfl, ⟨_, SqL.of (s04 _ _ ha)⟩, ?_⟩
    refine for_list (xs := vs) (fun i σ G => ∃ (f : Addr) (o5 o6 o7 o8 : Option V), σ = [some (.ref a), some (.ref p), some (.ref q), some (.int n), some (.ref f), o5, o6, o7, o8] ∧ H f = none ∧ LR G f (tval n P R (ps.take i)) ∧ Same H G)
      ⟨f0, none, none, none, none, rfl, nfH, by rw [List.take_zero]; exact hf0, s04⟩ (fun i σ G _ ⟨_, _, _, _, _, _, _, _, h⟩ => SqL.of (h _ _ ha)) ?_ ?_
    · rintro i v σ G ev ⟨f, o5, o6, o7, o8, rfl, nf, hf, sG⟩
      obtain ⟨⟨qw, qx⟩, eq, tq, r, rfl, hq, hr⟩ := paired_get hL ev
      dsimp only at hq hr
      have mq := List.mem_of_getElem? eq
      have lw : qw.length ≤ 6 := h6 _ mq
      have zq : FoQ.SzR 40 qx := Ov.sz (hz _ mq) (by decide) (by decide) (by decide)
      have hi := (List.getElem?_eq_some_iff.mp eq).1
      refine ⟨tq, _, rfl, SqT.of (sG _ _ hq), rfl, _, _, rfl, _, _, rfl, rfl, ?_⟩
      refine ⟨_, rfl, n, rfl, n8', fun u3 G1 nu3 s1 hu3 => ?_⟩
      refine ⟨_, rfl, qw, rfl, Nat.le_trans lw (by decide), ?_⟩
      have sl := sh_len qw
      refine ⟨_, rfl, ?_⟩
      refine for_it walk_str (fun j σ G2 => ∃ (m : Addr) (o8 : Option V), σ = [some (.ref a), some (.ref p), some (.ref q), some (.int n), some (.ref f), some (.str (tx qw)), some (.ref r), some (.ref m), o8] ∧ LR G2 m (prodW n P R ((sh qw).take j)) ∧ Same G G2)
        ⟨u3, _, rfl, hu3, s1⟩ (fun _ _ _ _ _ => trivial) (fun j v σ G2 G3 hj h y => ?_) (fun σ G2 h => ?_)
      · obtain ⟨m, o8, rfl, hm, sG2⟩ := h
        obtain ⟨rfl, c, ec, rfl⟩ := y
        obtain ⟨b, eb, rfl⟩ := tx_at ec
        have hj' : j < (sh qw).length := by rw [← tx_size]; exact hj
        have e1 : (sh qw).take (j + 1) = (sh qw).take j ++ [b] := by rw [List.take_add_one, eb]; rfl
        have ht : ((sh qw).take j).length ≤ 6 := by rw [List.length_take]; omega
        have hm8 := hm
        have cond : ∀ {A : Addr} {M : List (List Rat)}, LR G3 A M → Sqr M → CDT 56 M → prodW n P R ((sh qw).take (j + 1)) = tmul (prodW n P R ((sh qw).take j)) M → M.length = n → spL2 tmul [.ref m, .ref A] G3 (fun x G4 => ∃ (m : Addr) (o8 : Option V), [some (.ref a), some (.ref p), some (.ref q), some (.int n), some (.ref f), some (.str (tx qw)), some (.ref r), some x, some (V.str (tx [b]))] = [some (.ref a), some (.ref p), some (.ref q), some (.int n), some (.ref f), some (.str (tx qw)), some (.ref r), some (.ref m), o8] ∧ LR G4 m (prodW n P R ((sh qw).take (j + 1))) ∧ Same G G4) L2.E0 := fun {A M} hA sA zA eM lM =>
          ⟨m, A, _, M, rfl, hm, hA, o.sqW n1' n4' _, sA, by rw [(prodW_sq o.sP o.sR _).1, lM], (fun i j => ((o.w6 n4' b56' ht).sz i j).mono (by decide)), (fun i j => (zA.sz i j).mono (by decide)), (o.w6 n4' b56' ht).dots zA (prodW_sq o.sP o.sR _) n4' (by decide), fun p9 G9 np9 s9 h9 => ⟨p9, _, rfl, by rw [eM]; exact h9, sG2.trans s9⟩⟩
        have eP := prodW_snoc o.sP o.sR ((sh qw).take j) b
        rw [← e1] at eP
        refine ⟨_, rfl, _, rfl, rfl, _, rfl, ?_⟩
        cases b with
        | true =>
          refine iteT ⟨_, rfl, ?_⟩
          exact cond (hP.same (sG.trans sG2)) (o.sP.sqr n1' n8') (o.cP.mono b56') eP o.sP.1
        | false =>
          refine iteF ⟨_, rfl, ?_⟩
          exact cond (hR.same (sG.trans sG2)) (o.sR.sqr n1' n8') (o.cR.mono b56') eP o.sR.1
      · obtain ⟨m, o8, rfl, hm, sG2⟩ := h
        rw [tx_size, List.take_length, prodW_sh o.sP o.sR o.fP.2.symm o.fR.2.symm] at hm
        have sq : SqN n (tval n P R (ps.take i)) := tval_sq _
        have zt : AllE 1800 (tval n P R (ps.take i)) := allE_tab (fun x y _ _ => vent_sz o n1' n4' b56' (ps := ps.take i) hz.take (fun q hq => h6 q (List.mem_of_mem_take hq)) (by rw [List.length_take]; omega) x y) (by decide)
        have sGG := sG.trans sG2
        refine ⟨_, rfl, _, rfl, _, rfl, f, m, r, _, _, qx, rfl, hf.same sG2, hm, sGG _ _ hr, zq.mono (by decide), sq.sqr n1' n8', o.sqW n1' n4' _, by rw [sq.1, (prodW_sq o.sP o.sR _).1], (fun x y => (zt x y).mono (by decide)), (fun x y => ((o.w6 n4' b56' lw).sz x y).mono (by decide)), fun f9 G9 nf9 s9 hf9 => ?_⟩
        rw [tval_snoc o.sP o.sR (ps.take i) (qw, qx)] at hf9
        refine ⟨f9, _, _, _, _, rfl, sGG.free nf9, ?_, sGG.trans s9⟩
        rw [List.take_add_one, eq]
        exact hf9
    · rintro σ G ⟨f, o5, o6, o7, o8, rfl, nf, hf, sG⟩
      rw [lv, List.take_length] at hf
      exact ⟨_, rfl, Qr f G nf sG hf⟩
end

end Fo

set_option maxHeartbeats 4100000
/-! list(..) with the frame named, for the inside of comprehensions. -/
namespace FoKl
open PySem PySem.Spec PyProof.Rows L2
section
variable {X : Cx} {K' : PySem.W.Frag}
theorem call_listK (hK : X.K = K') : CallR X (.type "list") (fun xs H Q => ∃ p ys, xs = [.ref p] ∧ (SqL K' H p ys ∨ SqT K' H p ys) ∧ ∀ l, H l = none → Q (.ref l) (upd H l (.lst ys))) := hK ▸ call_list_of
end
end FoKl


set_option maxHeartbeats 4100000
namespace Fo
open PySem PySem.Spec PyProof.Rows L2
open FoWd
theorem LR.off {H H' : Hp} {a D : Addr} {m : List (List Rat)} {n : Nat} {acc : List V} (h : LR H a m) (sq : SqN n m) (n1 : 1 ≤ n) (hD : H D = some (.lst acc)) (bt : But D H H') (aD : a ≠ D) (no : ∀ t x, acc[0]? = some (.ref t) → ¬ FrQ H t x) : LR H' a m := by
  obtain ⟨ws, e, el, hw⟩ := h
  refine ⟨ws, bt _ _ e aD, el, fun i v ev => ?_⟩
  have hi : i < n := by
    have := (List.getElem?_eq_some_iff.mp ev).1
    rw [el, sq.1] at this
    exact this
  refine RowL.but (hw i v ev) hD bt fun q eq z => ?_
  obtain ⟨q2, us, e1, e2, e3, e4⟩ := hw i v ev
  rw [eq] at e1
  cases e1
  rw [z, hD] at e3
  cases e3
  obtain ⟨u, eu, t, rfl, ht⟩ := e4.at_ (i := 0) (by rw [sq.2 i hi]; exact n1)
  exact no t _ eu ht
theorem _root_.L2.Same.trans_off {G H : Hp} {D : Addr} {o : HO} (s : Same G H) (nD : G D = none) : Same G (upd H D o) := fun b u e => by
  rw [upd_ne (ne_of_none e nD)]
  exact s _ _ e

/-- two tables in a list -/
def LR2 (H : Hp) (a : Addr) (A C : List (List Rat)) : Prop := ∃ x y, H a = some (.lst [.ref x, .ref y]) ∧ LR H x A ∧ LR H y C
theorem LR2.same {H H' : Hp} {a : Addr} {A C : List (List Rat)} (h : LR2 H a A C) (s : Same H H') : LR2 H' a A C := let ⟨x, y, e, h1, h2⟩ := h; ⟨x, y, s _ _ e, h1.same s, h2.same s⟩
theorem LR2.but {H H' : Hp} {a b : Addr} {n : Nat} {A C : List (List Rat)} (h : LR2 H a A C) (hB : BoxAt H b n) (s : But b H H') : LR2 H' a A C := by
  obtain ⟨x, y, e, h1, h2⟩ := h
  refine ⟨x, y, s _ _ e (fun z => ?_), h1.but hB s, h2.but hB s⟩
  obtain ⟨u, c, sd, e2, _⟩ := hB
  rw [z, e2] at e
  cases e
theorem LR2.ne {H : Hp} {a b : Addr} {n : Nat} {A C : List (List Rat)} (h : LR2 H a A C) (hB : BoxAt H b n) : a ≠ b := fun z => by
  obtain ⟨x, y, e, _⟩ := h
  obtain ⟨u, c, sd, e2, _⟩ := hB
  rw [z, e2] at e
  cases e
/-- tables that are made one after the other at D -/
def TwoIn (M N : List (List Rat)) (D : Addr) (i : Nat) (H : Hp) : Prop := (i = 0 ∧ H D = some (.lst [])) ∨ (i = 1 ∧ ∃ r1, r1 ≠ D ∧ H D = some (.lst [.ref r1]) ∧ LR H r1 M) ∨ (i = 2 ∧ ∃ r1 r2, H D = some (.lst [.ref r1, .ref r2]) ∧ LR H r1 M ∧ LR H r2 N)
theorem TwoIn.same {M N : List (List Rat)} {D : Addr} {i : Nat} {H H' : Hp} (h : TwoIn M N D i H) (s : Same H H') : TwoIn M N D i H' := by
  rcases h with ⟨e, h⟩ | ⟨e, r1, n, h, l⟩ | ⟨e, r1, r2, h, l, l2⟩
  · exact .inl ⟨e, s _ _ h⟩
  · exact .inr (.inl ⟨e, r1, n, s _ _ h, l.same s⟩)
  · exact .inr (.inr ⟨e, r1, r2, s _ _ h, l.same s, l2.same s⟩)
theorem TwoIn.next {M N : List (List Rat)} {D r : Addr} {i n : Nat} {H G : Hp} (h : TwoIn M N D i H) (hi : i < 2) (s : Same H G) (nr : H r = none) (hr : LR G r (if i = 0 then M else N)) (sM : SqN n M) (sN : SqN n N) (n1 : 1 ≤ n) :
    ∃ acc, G D = some (.lst acc) ∧ acc.length < sizeLine ∧ TwoIn M N D (i + 1) (upd G D (.lst (acc ++ [V.ref r]))) := by
  rcases h with ⟨rfl, h⟩ | ⟨rfl, r1, nD, h, l⟩ | ⟨rfl, _⟩
  · have hD := s _ _ h
    have rD : r ≠ D := fun z => by rw [z, h] at nr; cases nr
    exact ⟨_, hD, by rw [sizeLine_eq]; show 0 < 16777216; decide, .inr (.inl ⟨rfl, r, rD, upd_same, LR.off hr sM n1 hD But.upd rD (fun t x e => by cases e)⟩)⟩
  · have hD := s _ _ h
    have rD : r ≠ D := fun z => by rw [z, h] at nr; cases nr
    have l' := l.same s
    have no : ∀ t x, ([V.ref r1] : List V)[0]? = some (.ref t) → ¬ FrQ G t x := fun t x e z => by
      cases e
      obtain ⟨ws, e2, _⟩ := l'
      have z : G r1 = some (qt x) := z
      rw [e2] at z
      cases z
    exact ⟨_, hD, by rw [sizeLine_eq]; show 1 < 16777216; decide, .inr (.inr ⟨rfl, r1, r, upd_same, l'.off sM n1 hD But.upd nD no, LR.off hr sN n1 hD But.upd rD no⟩)⟩
  · omega
theorem rep_get {k c : Nat} {v u : V} (h : ((List.replicate k [v]).flatten)[c]? = some u) : u = v := by
  rw [List.flatten_replicate_singleton] at h
  have := List.mem_of_getElem? h
  exact List.eq_of_mem_replicate this
theorem rep_len {k : Nat} {v : V} : ((List.replicate k [v]).flatten).length = k := by
  rw [List.flatten_replicate_singleton, List.length_replicate]
theorem rq_app {H : Hp} {us zs : List V} {n l : Nat} {g h : Nat → Rat} (e1 : us.length = n) (e2 : zs.length = l) (h1 : ∀ (c : Nat) (u : V), us[c]? = some u → Rq (g c) H u) (h2 : ∀ (c : Nat) (u : V), zs[c]? = some u → Rq (h c) H u) :
    Ls Rq H (us ++ zs) ((List.range (n + l)).map fun c => if c < n then g c else h (c - n)) := by
  refine ⟨by rw [List.length_append, e1, e2]; simp, fun j u eu => ?_⟩
  have hj := (List.getElem?_eq_some_iff.mp eu).1
  rw [List.length_append, e1, e2] at hj
  rw [FoQ.co_map, if_pos hj]
  rw [List.getElem?_append] at eu
  split at eu
  · rw [if_pos (by omega)]
    exact h1 j u eu
  · rw [if_neg (by omega), ← e1]
    exact h2 _ u eu
def spLBes : Sp := fun vs H Q _ => ∃ (a b : Addr) (n l : Nat) (A B C D : List (List Rat)), vs = [.ref a, .ref b] ∧ LR2 H a A C ∧ LR2 H b B D ∧ SqN n A ∧ SqN n C ∧ SqN l B ∧ SqN l D ∧ n + l ≤ 50 ∧ 1 ≤ n + l ∧
  ∀ p H', H p = none → Same H H' → LR2 H' p (bsd n l A B) (bsd n l C D) → Q (.ref p) H'
section
variable {P : Program} {w : World} {K : PySem.W.Frag} {mg : Str → Option Value} {base : Heap}
end

end Fo


set_option maxHeartbeats 4100000
namespace Fo
open PySem PySem.Spec PyProof.Rows L2
open FoWd
/-- a fraction's tuple that need not be in lowest terms -/
def FrR (H : Hp) (p : Addr) (x : Rat) : Prop := ∃ u d : Int, H p = some (.tup [.int u, .int d]) ∧ d ≠ 0 ∧ FoM.Sz 1900 u ∧ FoM.Sz 1900 d ∧ Rat.divInt u d = x
theorem FrR.same {H H' : Hp} {p : Addr} {x : Rat} (h : FrR H p x) (s : Same H H') : FrR H' p x := let ⟨u, d, e, g⟩ := h; ⟨u, d, s _ _ e, g⟩
theorem FrQ.raw {H : Hp} {p : Addr} {x : Rat} (h : FrQ H p x) (z : FoQ.SzR 1900 x) : FrR H p x := ⟨x.num, x.den, h, FoQ.den_ne x, z.1, z.2, Rat.num_divInt_den x⟩
def spTimesR : Sp := fun vs H Q _ => ∃ (a b : Addr) (x z : Rat), vs = [.ref a, .ref b] ∧ FrR H a x ∧ FrR H b z ∧ ∀ p, H p = none → Q (.ref p) (upd H p (qt (x * z)))
theorem inv_div {d : Rat} (h : d ≠ 0) : Rat.divInt d.den d.num = 1 / d := by
  have := FoQ.q_div 1 d
  rw [← this]
  show Rat.divInt (d.den : Int) d.num = Rat.divInt (1 * (d.den : Int)) (1 * d.num)
  rw [Int.one_mul, Int.one_mul]
theorem pcos_eq (x : Rat) : (1 - x * x) * (1 / (1 + x * x)) = pcos x := by
  unfold pcos
  rw [Rat.div_def, Rat.div_def, Rat.one_mul, Rat.add_comm]
theorem psin_eq (x : Rat) : 2 * x * (1 / (1 + x * x)) = psin x := by
  unfold psin
  rw [Rat.div_def, Rat.div_def, Rat.one_mul, Rat.add_comm, Rat.mul_comm 2 x]
theorem lr_22 {H : Hp} {D r1 r2 t1 t2 t3 t4 : Addr} {e : List (List Rat)} {x1 x2 x3 x4 : Rat} (hD : H D = some (.lst [.ref r1, .ref r2])) (h1 : H r1 = some (.lst [.ref t1, .ref t2])) (h2 : H r2 = some (.lst [.ref t3, .ref t4])) (n1 : r1 ≠ D) (n2 : r2 ≠ D) (he : e = [[x1, x2], [x3, x4]])
    (f1 : FrQ H t1 x1) (f2 : FrQ H t2 x2) (f3 : FrQ H t3 x3) (f4 : FrQ H t4 x4) : LR H D e := by
  subst he
  have two : ∀ {u v : Addr} {p q : Rat}, FrQ H u p → FrQ H v q → Ls Rq H [.ref u, .ref v] [p, q] := fun {u v p q} g1 g2 => ⟨rfl, fun j t e => by
    have : j = 0 ∨ j = 1 := by have := (List.getElem?_eq_some_iff.mp e).1; simp at this; omega
    rcases this with rfl | rfl
    · cases e; exact ⟨u, rfl, g1⟩
    · cases e; exact ⟨v, rfl, g2⟩⟩
  refine ⟨_, hD, rfl, fun k v e => ?_⟩
  have : k = 0 ∨ k = 1 := by have := (List.getElem?_eq_some_iff.mp e).1; simp at this; omega
  rcases this with rfl | rfl
  · cases e
    exact ⟨r1, _, rfl, n1, h1, two f1 f2⟩
  · cases e
    exact ⟨r2, _, rfl, n2, h2, two f3 f4⟩
def spPlaneL : Sp := fun vs H Q _ => ∃ (a : Addr) (x : Rat), vs = [.ref a] ∧ FrR H a x ∧ FoQ.SzR 100 x ∧ ∀ p H', H p = none → Same H H' → LR2 H' p planeP (planeQ x) → Q (.ref p) H'
def spTableL (K : PySem.W.Frag) : Sp := fun vs H Q _ => ∃ (a : Addr) (m : List (List Rat)), vs = [.ref a] ∧ LR H a m ∧ Sqr m ∧ AllE 100 m ∧ ∀ p H', H p = none → Same H H' → TabAt K H' p m → Q (.ref p) H'
section
variable {P : Program} {w : World} {K : PySem.W.Frag} {mg : Str → Option Value} {base : Heap}
theorem ok_timesR (T : Tx K mg) : FnOk P w K mg base CX0 2 (He.ga K "_law_times") T.fd_times ["_law_x", "_law_y"] spTimesR := (ok_times T).imp fun vs H Q E h => by
  obtain ⟨a, b, x, z, e, ⟨u, d, h1, h2, h3, h4, h5⟩, ⟨v, g, k1, k2, k3, k4, k5⟩, q⟩ := h
  exact ⟨a, b, u, d, v, g, e, SqT.of h1, SqT.of k1, h2, k2, h3, h4, k3, k4, fun p hp => by
    rw [qt_of (Int.mul_ne_zero h2 k2) (show Rat.divInt (u * v) (d * g) = x * z by rw [← h5, ← k5, Rat.divInt_mul_divInt])]
    exact q p hp⟩
theorem ok_planeL (T : Tx K mg) : FnOk P w K mg base CX0 3 (He.ga K "_law_plane") T.fd_plane ["_law_m"] spPlaneL := by
  refine T.F_plane.ok sc_plane (fun vs H Q E h => ?_) (fun cdv A outer s H vs Q E hr h => ?_)
  · obtain ⟨a, x, rfl, _⟩ := h
    rfl
  · obtain ⟨a, x, rfl, hx, zx, q⟩ := h
    refine ⟨_, (pss_cons (ps_set (i := 1) sc_plane.nd rfl (.inl rfl) (pe_call (ok_timesR T) (hr.mono (by decide)) (by rfl) T.g_times T.F_times.kp T.b_times .nil pass0 (pa_cons (pv 0) (pa_cons (pv 0) pa_nil))))
      (pss_cons (ps_set (i := 2) sc_plane.nd rfl (.inl rfl) (pe_call (ok_plusQ T) (hr.mono (by decide)) (by rfl) T.g_plus T.F_plus.kp T.b_plus .nil pass0 (pa_cons (pe_tup (pa_cons pe_int (pa_cons pe_int pa_nil))) (pa_cons (pv 1) pa_nil))))
      (pss_cons (ps_set (i := 3) sc_plane.nd rfl (.inl rfl) (pe_call (ok_fracQ T) (hr.mono (by decide)) (by rfl) T.g_frac T.F_frac.kp T.b_frac .nil pass0 (pa_cons (pe_ix ix_tup (pv 2) pe_int (fun _ _ => rfl)) (pa_cons (pe_ix ix_tup (pv 2) pe_int (fun _ _ => rfl)) pa_nil))))
      (pss_cons (ps_set (i := 4) sc_plane.nd rfl (.inl rfl) (pe_call (ok_timesQ T) (hr.mono (by decide)) (by rfl) T.g_times T.F_times.kp T.b_times .nil pass0 (pa_cons (pe_call (ok_minusQ T) (hr.mono (by decide)) (by rfl) T.g_minus T.F_minus.kp T.b_minus .nil pass0 (pa_cons (pe_tup (pa_cons pe_int (pa_cons pe_int pa_nil))) (pa_cons (pv 1) pa_nil))) (pa_cons (pv 3) pa_nil))))
      (pss_cons (ps_set (i := 5) sc_plane.nd rfl (.inl rfl) (pe_call (ok_timesQ T) (hr.mono (by decide)) (by rfl) T.g_times T.F_times.kp T.b_times .nil pass0 (pa_cons (pe_call (ok_timesR T) (hr.mono (by decide)) (by rfl) T.g_times T.F_times.kp T.b_times .nil pass0 (pa_cons (pe_tup (pa_cons pe_int (pa_cons pe_int pa_nil))) (pa_cons (pv 0) pa_nil))) (pa_cons (pv 3) pa_nil))))
      (pss_cons (ps_set (i := 6) sc_plane.nd rfl (.inl rfl) (pe_lst (pa_cons (pe_lst (pa_cons (pe_tup (pa_cons pe_int (pa_cons pe_int pa_nil))) (pa_cons (pe_tup (pa_cons pe_int (pa_cons pe_int pa_nil))) pa_nil))) (pa_cons (pe_lst (pa_cons (pe_tup (pa_cons pe_int (pa_cons pe_int pa_nil))) (pa_cons (pe_tup (pa_cons pe_int (pa_cons pe_int pa_nil))) pa_nil))) pa_nil))))
      (pss_one (ps_ret (pe_lst (pa_cons (pv 6) (pa_cons (pe_lst (pa_cons (pe_lst (pa_cons (pe_call (ok_timesQ T) (hr.mono (by decide)) (by rfl) T.g_times T.F_times.kp T.b_times .nil pass0 (pa_cons (pv 4) (pa_cons (pv 4) pa_nil))) (pa_cons (pe_call (ok_timesQ T) (hr.mono (by decide)) (by rfl) T.g_times T.F_times.kp T.b_times .nil pass0 (pa_cons (pv 4) (pa_cons (pv 5) pa_nil))) pa_nil))) (pa_cons (pe_lst (pa_cons (pe_call (ok_timesQ T) (hr.mono (by decide)) (by rfl) T.g_times T.F_times.kp T.b_times .nil pass0 (pa_cons (pv 4) (pa_cons (pv 5) pa_nil))) (pa_cons (pe_call (ok_timesQ T) (hr.mono (by decide)) (by rfl) T.g_times T.F_times.kp T.b_times .nil pass0 (pa_cons (pv 5) (pa_cons (pv 5) pa_nil))) pa_nil))) pa_nil))) pa_nil))))))))))), ?_⟩
    have zxx : FoQ.SzR 200 (x * x) := (zx.mul zx).mono (by decide)
    have z1 : FoQ.SzR 2 (1 : Rat) := FoQ.SzR.int (i := 1) (sz_of 2 (by decide) (by decide) (by decide)) (by decide)
    have z2 : FoQ.SzR 3 (2 : Rat) := FoQ.SzR.int (i := 2) (sz_of 3 (by decide) (by decide) (by decide)) (by decide)
    have zd : FoQ.SzR 210 (1 + x * x) := (z1.add zxx).mono (by decide)
    have zm : FoQ.SzR 210 (1 - x * x) := (z1.sub zxx).mono (by decide)
    have dn : 1 + x * x ≠ 0 := by rw [Rat.add_comm]; exact sq_pos x
    have dn0 : (1 + x * x).num ≠ 0 := fun z => dn (FoQ.num0.mp z)
    have zi : FoQ.SzR 300 (1 / (1 + x * x)) := (szr_div z1 zd dn).mono (by decide)
    have z2x : FoQ.SzR 200 (2 * x) := (z2.mul zx).mono (by decide)
    have zc : FoQ.SzR 1900 (pcos x) := by rw [← pcos_eq]; exact (zm.mul zi).mono (by decide)
    have zs : FoQ.SzR 1900 (psin x) := by rw [← psin_eq]; exact (z2x.mul zi).mono (by decide)
    have sAll : Same H H := Same.refl _
    refine ⟨_, rfl, _, rfl, a, a, x, x, rfl, hx, hx, fun p1 np1 => ?_⟩
    have sp1 := Same.upd np1 (o := qt (x * x))
    have f1 : upd H p1 (qt (x * x)) p1 = some (qt (x * x)) := upd_same
    have sAll := sAll.trans sp1
    generalize upd H p1 (qt (x * x)) = K1 at *
    refine ⟨(by show 2 ≤ sizeLine; rw [sizeLine_eq]; decide), fun t2 nt2 => ?_⟩
    have st2 := Same.upd nt2 (o := .tup [.int 1, .int 1])
    have f2 : upd K1 t2 (.tup [.int 1, .int 1]) t2 = some (.tup [.int 1, .int 1]) := upd_same
    have f1 := st2 _ _ f1
    have sAll := sAll.trans st2
    generalize upd K1 t2 (.tup [.int 1, .int 1]) = K2 at *
    refine ⟨_, rfl, t2, p1, 1, x * x, rfl, f2, f1, z1.mono (by decide), zxx.mono (by decide), fun p3 np3 => ?_⟩
    have sp3 := Same.upd np3 (o := qt (1 + x * x))
    have f3 : upd K2 p3 (qt (1 + x * x)) p3 = some (qt (1 + x * x)) := upd_same
    have f1 := sp3 _ _ f1
    have f2 := sp3 _ _ f2
    have sAll := sAll.trans sp3
    generalize upd K2 p3 (qt (1 + x * x)) = K3 at *
    have fd : FrQ K3 p3 (1 + x * x) := f3
    have fd' := fd.at_ (K := K)
    refine ⟨_, rfl, p3, _, _, _, rfl, rfl, fd', rfl, _, rfl, p3, _, _, _, rfl, rfl, fd', rfl, ((1 + x * x).den : Int), (1 + x * x).num, rfl, dn0, zd.1.mono (by decide), fun p4 np4 => ?_⟩
    have sp4 := Same.upd np4 (o := qt (Rat.divInt (1 + x * x).den (1 + x * x).num))
    have f4 : upd K3 p4 (qt (Rat.divInt (1 + x * x).den (1 + x * x).num)) p4 = some (qt (Rat.divInt (1 + x * x).den (1 + x * x).num)) := upd_same
    have f1 := sp4 _ _ f1
    have f2 := sp4 _ _ f2
    have f3 := sp4 _ _ f3
    have sAll := sAll.trans sp4
    generalize upd K3 p4 (qt (Rat.divInt (1 + x * x).den (1 + x * x).num)) = K4 at *
    rw [inv_div dn] at f4
    refine ⟨(by show 2 ≤ sizeLine; rw [sizeLine_eq]; decide), fun t5 nt5 => ?_⟩
    have st5 := Same.upd nt5 (o := .tup [.int 1, .int 1])
    have f5 : upd K4 t5 (.tup [.int 1, .int 1]) t5 = some (.tup [.int 1, .int 1]) := upd_same
    have f1 := st5 _ _ f1
    have f2 := st5 _ _ f2
    have f3 := st5 _ _ f3
    have f4 := st5 _ _ f4
    have sAll := sAll.trans st5
    generalize upd K4 t5 (.tup [.int 1, .int 1]) = K5 at *
    refine ⟨_, rfl, t5, p1, 1, x * x, rfl, f5, f1, z1.mono (by decide), zxx.mono (by decide), fun p6 np6 => ?_⟩
    have sp6 := Same.upd np6 (o := qt (1 - x * x))
    have f6 : upd K5 p6 (qt (1 - x * x)) p6 = some (qt (1 - x * x)) := upd_same
    have f1 := sp6 _ _ f1
    have f2 := sp6 _ _ f2
    have f3 := sp6 _ _ f3
    have f4 := sp6 _ _ f4
    have f5 := sp6 _ _ f5
    have sAll := sAll.trans sp6
    generalize upd K5 p6 (qt (1 - x * x)) = K6 at *
    refine ⟨_, rfl, p6, p4, 1 - x * x, 1 / (1 + x * x), rfl, f6, f4, zm.mono (by decide), zi.mono (by decide), fun c nc => ?_⟩
    have sc := Same.upd nc (o := qt ((1 - x * x) * (1 / (1 + x * x))))
    have fc : upd K6 c (qt ((1 - x * x) * (1 / (1 + x * x)))) c = some (qt ((1 - x * x) * (1 / (1 + x * x)))) := upd_same
    have f1 := sc _ _ f1
    have f2 := sc _ _ f2
    have f3 := sc _ _ f3
    have f4 := sc _ _ f4
    have f5 := sc _ _ f5
    have f6 := sc _ _ f6
    have sAll := sAll.trans sc
    generalize upd K6 c (qt ((1 - x * x) * (1 / (1 + x * x)))) = K7 at *
    rw [pcos_eq] at fc
    refine ⟨(by show 2 ≤ sizeLine; rw [sizeLine_eq]; decide), fun t7 nt7 => ?_⟩
    have st7 := Same.upd nt7 (o := .tup [.int 2, .int 1])
    have f7 : upd K7 t7 (.tup [.int 2, .int 1]) t7 = some (.tup [.int 2, .int 1]) := upd_same
    have f1 := st7 _ _ f1
    have f2 := st7 _ _ f2
    have f3 := st7 _ _ f3
    have f4 := st7 _ _ f4
    have f5 := st7 _ _ f5
    have f6 := st7 _ _ f6
    have fc := st7 _ _ fc
    have sAll := sAll.trans st7
    generalize upd K7 t7 (.tup [.int 2, .int 1]) = K8 at *
    have r7 : FrR K8 t7 2 := ⟨2, 1, f7, by decide, sz_of 2000 (by decide) (by decide) (by decide), sz_of 2000 (by decide) (by decide) (by decide), by decide +kernel⟩
    have hx9 : FrR K8 a x := hx.same sAll
    refine ⟨_, rfl, t7, a, 2, x, rfl, r7, hx9, fun p8 np8 => ?_⟩
    have sp8 := Same.upd np8 (o := qt (2 * x))
    have f8 : upd K8 p8 (qt (2 * x)) p8 = some (qt (2 * x)) := upd_same
    have f1 := sp8 _ _ f1
    have f2 := sp8 _ _ f2
    have f3 := sp8 _ _ f3
    have f4 := sp8 _ _ f4
    have f5 := sp8 _ _ f5
    have f6 := sp8 _ _ f6
    have fc := sp8 _ _ fc
    have f7 := sp8 _ _ f7
    have sAll := sAll.trans sp8
    generalize upd K8 p8 (qt (2 * x)) = K9 at *
    refine ⟨_, rfl, p8, p4, 2 * x, 1 / (1 + x * x), rfl, f8, f4, z2x.mono (by decide), zi.mono (by decide), fun s ns => ?_⟩
    have ss := Same.upd ns (o := qt (2 * x * (1 / (1 + x * x))))
    have fs : upd K9 s (qt (2 * x * (1 / (1 + x * x)))) s = some (qt (2 * x * (1 / (1 + x * x)))) := upd_same
    have f1 := ss _ _ f1
    have f2 := ss _ _ f2
    have f3 := ss _ _ f3
    have f4 := ss _ _ f4
    have f5 := ss _ _ f5
    have f6 := ss _ _ f6
    have fc := ss _ _ fc
    have f7 := ss _ _ f7
    have f8 := ss _ _ f8
    have sAll := sAll.trans ss
    generalize upd K9 s (qt (2 * x * (1 / (1 + x * x)))) = K10 at *
    rw [psin_eq] at fs
    refine ⟨(by show 2 ≤ sizeLine; rw [sizeLine_eq]; decide), fun a1 na1 => ?_⟩
    have sa1 := Same.upd na1 (o := .tup [.int 1, .int 1])
    have g1 : upd K10 a1 (.tup [.int 1, .int 1]) a1 = some (.tup [.int 1, .int 1]) := upd_same
    have f1 := sa1 _ _ f1
    have f2 := sa1 _ _ f2
    have f3 := sa1 _ _ f3
    have f4 := sa1 _ _ f4
    have f5 := sa1 _ _ f5
    have f6 := sa1 _ _ f6
    have fc := sa1 _ _ fc
    have f7 := sa1 _ _ f7
    have f8 := sa1 _ _ f8
    have fs := sa1 _ _ fs
    have sAll := sAll.trans sa1
    generalize upd K10 a1 (.tup [.int 1, .int 1]) = K11 at *
    refine ⟨(by show 2 ≤ sizeLine; rw [sizeLine_eq]; decide), fun a2 na2 => ?_⟩
    have sa2 := Same.upd na2 (o := .tup [.int 0, .int 1])
    have g2 : upd K11 a2 (.tup [.int 0, .int 1]) a2 = some (.tup [.int 0, .int 1]) := upd_same
    have f1 := sa2 _ _ f1
    have f2 := sa2 _ _ f2
    have f3 := sa2 _ _ f3
    have f4 := sa2 _ _ f4
    have f5 := sa2 _ _ f5
    have f6 := sa2 _ _ f6
    have fc := sa2 _ _ fc
    have f7 := sa2 _ _ f7
    have f8 := sa2 _ _ f8
    have fs := sa2 _ _ fs
    have g1 := sa2 _ _ g1
    have sAll := sAll.trans sa2
    generalize upd K11 a2 (.tup [.int 0, .int 1]) = K12 at *
    refine ⟨(by show 2 ≤ sizeLine; rw [sizeLine_eq]; decide), fun r1 nr1 => ?_⟩
    have sr1 := Same.upd nr1 (o := .lst [.ref a1, .ref a2])
    have h1 : upd K12 r1 (.lst [.ref a1, .ref a2]) r1 = some (.lst [.ref a1, .ref a2]) := upd_same
    have f1 := sr1 _ _ f1
    have f2 := sr1 _ _ f2
    have f3 := sr1 _ _ f3
    have f4 := sr1 _ _ f4
    have f5 := sr1 _ _ f5
    have f6 := sr1 _ _ f6
    have fc := sr1 _ _ fc
    have f7 := sr1 _ _ f7
    have f8 := sr1 _ _ f8
    have fs := sr1 _ _ fs
    have g1 := sr1 _ _ g1
    have g2 := sr1 _ _ g2
    have sAll := sAll.trans sr1
    generalize upd K12 r1 (.lst [.ref a1, .ref a2]) = K13 at *
    refine ⟨(by show 2 ≤ sizeLine; rw [sizeLine_eq]; decide), fun a3 na3 => ?_⟩
    have sa3 := Same.upd na3 (o := .tup [.int 0, .int 1])
    have g3 : upd K13 a3 (.tup [.int 0, .int 1]) a3 = some (.tup [.int 0, .int 1]) := upd_same
    have f1 := sa3 _ _ f1
    have f2 := sa3 _ _ f2
    have f3 := sa3 _ _ f3
    have f4 := sa3 _ _ f4
    have f5 := sa3 _ _ f5
    have f6 := sa3 _ _ f6
    have fc := sa3 _ _ fc
    have f7 := sa3 _ _ f7
    have f8 := sa3 _ _ f8
    have fs := sa3 _ _ fs
    have g1 := sa3 _ _ g1
    have g2 := sa3 _ _ g2
    have h1 := sa3 _ _ h1
    have sAll := sAll.trans sa3
    generalize upd K13 a3 (.tup [.int 0, .int 1]) = K14 at *
    refine ⟨(by show 2 ≤ sizeLine; rw [sizeLine_eq]; decide), fun a4 na4 => ?_⟩
    have sa4 := Same.upd na4 (o := .tup [.int 0, .int 1])
    have g4 : upd K14 a4 (.tup [.int 0, .int 1]) a4 = some (.tup [.int 0, .int 1]) := upd_same
    have f1 := sa4 _ _ f1
    have f2 := sa4 _ _ f2
    have f3 := sa4 _ _ f3
    have f4 := sa4 _ _ f4
    have f5 := sa4 _ _ f5
    have f6 := sa4 _ _ f6
    have fc := sa4 _ _ fc
    have f7 := sa4 _ _ f7
    have f8 := sa4 _ _ f8
    have fs := sa4 _ _ fs
    have g1 := sa4 _ _ g1
    have g2 := sa4 _ _ g2
    have h1 := sa4 _ _ h1
    have g3 := sa4 _ _ g3
    have sAll := sAll.trans sa4
    generalize upd K14 a4 (.tup [.int 0, .int 1]) = K15 at *
    refine ⟨(by show 2 ≤ sizeLine; rw [sizeLine_eq]; decide), fun r2 nr2 => ?_⟩
    have sr2 := Same.upd nr2 (o := .lst [.ref a3, .ref a4])
    have h2 : upd K15 r2 (.lst [.ref a3, .ref a4]) r2 = some (.lst [.ref a3, .ref a4]) := upd_same
    have f1 := sr2 _ _ f1
    have f2 := sr2 _ _ f2
    have f3 := sr2 _ _ f3
    have f4 := sr2 _ _ f4
    have f5 := sr2 _ _ f5
    have f6 := sr2 _ _ f6
    have fc := sr2 _ _ fc
    have f7 := sr2 _ _ f7
    have f8 := sr2 _ _ f8
    have fs := sr2 _ _ fs
    have g1 := sr2 _ _ g1
    have g2 := sr2 _ _ g2
    have h1 := sr2 _ _ h1
    have g3 := sr2 _ _ g3
    have g4 := sr2 _ _ g4
    have sAll := sAll.trans sr2
    generalize upd K15 r2 (.lst [.ref a3, .ref a4]) = K16 at *
    refine ⟨(by show 2 ≤ sizeLine; rw [sizeLine_eq]; decide), fun D1 nD1 => ?_⟩
    have sD1 := Same.upd nD1 (o := .lst [.ref r1, .ref r2])
    have d1 : upd K16 D1 (.lst [.ref r1, .ref r2]) D1 = some (.lst [.ref r1, .ref r2]) := upd_same
    have y1 : r1 ≠ D1 := ne_of_none h1 nD1
    have y2 : r2 ≠ D1 := ne_of_none h2 nD1
    have f1 := sD1 _ _ f1
    have f2 := sD1 _ _ f2
    have f3 := sD1 _ _ f3
    have f4 := sD1 _ _ f4
    have f5 := sD1 _ _ f5
    have f6 := sD1 _ _ f6
    have fc := sD1 _ _ fc
    have f7 := sD1 _ _ f7
    have f8 := sD1 _ _ f8
    have fs := sD1 _ _ fs
    have g1 := sD1 _ _ g1
    have g2 := sD1 _ _ g2
    have h1 := sD1 _ _ h1
    have g3 := sD1 _ _ g3
    have g4 := sD1 _ _ g4
    have h2 := sD1 _ _ h2
    have sAll := sAll.trans sD1
    generalize upd K16 D1 (.lst [.ref r1, .ref r2]) = K17 at *
    refine ⟨_, rfl, _, rfl, _, rfl, c, c, pcos x, pcos x, rfl, fc, fc, zc, zc, fun b1 nb1 => ?_⟩
    have sb1 := Same.upd nb1 (o := qt (pcos x * pcos x))
    have k1 : upd K17 b1 (qt (pcos x * pcos x)) b1 = some (qt (pcos x * pcos x)) := upd_same
    have f1 := sb1 _ _ f1
    have f2 := sb1 _ _ f2
    have f3 := sb1 _ _ f3
    have f4 := sb1 _ _ f4
    have f5 := sb1 _ _ f5
    have f6 := sb1 _ _ f6
    have fc := sb1 _ _ fc
    have f7 := sb1 _ _ f7
    have f8 := sb1 _ _ f8
    have fs := sb1 _ _ fs
    have g1 := sb1 _ _ g1
    have g2 := sb1 _ _ g2
    have h1 := sb1 _ _ h1
    have g3 := sb1 _ _ g3
    have g4 := sb1 _ _ g4
    have h2 := sb1 _ _ h2
    have d1 := sb1 _ _ d1
    have sAll := sAll.trans sb1
    generalize upd K17 b1 (qt (pcos x * pcos x)) = K18 at *
    refine ⟨_, rfl, _, rfl, c, s, pcos x, psin x, rfl, fc, fs, zc, zs, fun b2 nb2 => ?_⟩
    have sb2 := Same.upd nb2 (o := qt (pcos x * psin x))
    have k2 : upd K18 b2 (qt (pcos x * psin x)) b2 = some (qt (pcos x * psin x)) := upd_same
    have f1 := sb2 _ _ f1
    have f2 := sb2 _ _ f2
    have f3 := sb2 _ _ f3
    have f4 := sb2 _ _ f4
    have f5 := sb2 _ _ f5
    have f6 := sb2 _ _ f6
    have fc := sb2 _ _ fc
    have f7 := sb2 _ _ f7
    have f8 := sb2 _ _ f8
    have fs := sb2 _ _ fs
    have g1 := sb2 _ _ g1
    have g2 := sb2 _ _ g2
    have h1 := sb2 _ _ h1
    have g3 := sb2 _ _ g3
    have g4 := sb2 _ _ g4
    have h2 := sb2 _ _ h2
    have d1 := sb2 _ _ d1
    have k1 := sb2 _ _ k1
    have sAll := sAll.trans sb2
    generalize upd K18 b2 (qt (pcos x * psin x)) = K19 at *
    refine ⟨(by show 2 ≤ sizeLine; rw [sizeLine_eq]; decide), fun r3 nr3 => ?_⟩
    have sr3 := Same.upd nr3 (o := .lst [.ref b1, .ref b2])
    have h3 : upd K19 r3 (.lst [.ref b1, .ref b2]) r3 = some (.lst [.ref b1, .ref b2]) := upd_same
    have f1 := sr3 _ _ f1
    have f2 := sr3 _ _ f2
    have f3 := sr3 _ _ f3
    have f4 := sr3 _ _ f4
    have f5 := sr3 _ _ f5
    have f6 := sr3 _ _ f6
    have fc := sr3 _ _ fc
    have f7 := sr3 _ _ f7
    have f8 := sr3 _ _ f8
    have fs := sr3 _ _ fs
    have g1 := sr3 _ _ g1
    have g2 := sr3 _ _ g2
    have h1 := sr3 _ _ h1
    have g3 := sr3 _ _ g3
    have g4 := sr3 _ _ g4
    have h2 := sr3 _ _ h2
    have d1 := sr3 _ _ d1
    have k1 := sr3 _ _ k1
    have k2 := sr3 _ _ k2
    have sAll := sAll.trans sr3
    generalize upd K19 r3 (.lst [.ref b1, .ref b2]) = K20 at *
    refine ⟨_, rfl, _, rfl, c, s, pcos x, psin x, rfl, fc, fs, zc, zs, fun b3 nb3 => ?_⟩
    have sb3 := Same.upd nb3 (o := qt (pcos x * psin x))
    have k3 : upd K20 b3 (qt (pcos x * psin x)) b3 = some (qt (pcos x * psin x)) := upd_same
    have f1 := sb3 _ _ f1
    have f2 := sb3 _ _ f2
    have f3 := sb3 _ _ f3
    have f4 := sb3 _ _ f4
    have f5 := sb3 _ _ f5
    have f6 := sb3 _ _ f6
    have fc := sb3 _ _ fc
    have f7 := sb3 _ _ f7
    have f8 := sb3 _ _ f8
    have fs := sb3 _ _ fs
    have g1 := sb3 _ _ g1
    have g2 := sb3 _ _ g2
    have h1 := sb3 _ _ h1
    have g3 := sb3 _ _ g3
    have g4 := sb3 _ _ g4
    have h2 := sb3 _ _ h2
    have d1 := sb3 _ _ d1
    have k1 := sb3 _ _ k1
    have k2 := sb3 _ _ k2
    have h3 := sb3 _ _ h3
    have sAll := sAll.trans sb3
    generalize upd K20 b3 (qt (pcos x * psin x)) = K21 at *
    refine ⟨_, rfl, _, rfl, s, s, psin x, psin x, rfl, fs, fs, zs, zs, fun b4 nb4 => ?_⟩
    have sb4 := Same.upd nb4 (o := qt (psin x * psin x))
    have k4 : upd K21 b4 (qt (psin x * psin x)) b4 = some (qt (psin x * psin x)) := upd_same
    have f1 := sb4 _ _ f1
    have f2 := sb4 _ _ f2
    have f3 := sb4 _ _ f3
    have f4 := sb4 _ _ f4
    have f5 := sb4 _ _ f5
    have f6 := sb4 _ _ f6
    have fc := sb4 _ _ fc
    have f7 := sb4 _ _ f7
    have f8 := sb4 _ _ f8
    have fs := sb4 _ _ fs
    have g1 := sb4 _ _ g1
    have g2 := sb4 _ _ g2
    have h1 := sb4 _ _ h1
    have g3 := sb4 _ _ g3
    have g4 := sb4 _ _ g4
    have h2 := sb4 _ _ h2
    have d1 := sb4 _ _ d1
    have k1 := sb4 _ _ k1
    have k2 := sb4 _ _ k2
    have h3 := sb4 _ _ h3
    have k3 := sb4 _ _ k3
    have sAll := sAll.trans sb4
    generalize upd K21 b4 (qt (psin x * psin x)) = K22 at *
    refine ⟨(by show 2 ≤ sizeLine; rw [sizeLine_eq]; decide), fun r4 nr4 => ?_⟩
    have sr4 := Same.upd nr4 (o := .lst [.ref b3, .ref b4])
    have h4 : upd K22 r4 (.lst [.ref b3, .ref b4]) r4 = some (.lst [.ref b3, .ref b4]) := upd_same
    have f1 := sr4 _ _ f1
    have f2 := sr4 _ _ f2
    have f3 := sr4 _ _ f3
    have f4 := sr4 _ _ f4
    have f5 := sr4 _ _ f5
    have f6 := sr4 _ _ f6
    have fc := sr4 _ _ fc
    have f7 := sr4 _ _ f7
    have f8 := sr4 _ _ f8
    have fs := sr4 _ _ fs
    have g1 := sr4 _ _ g1
    have g2 := sr4 _ _ g2
    have h1 := sr4 _ _ h1
    have g3 := sr4 _ _ g3
    have g4 := sr4 _ _ g4
    have h2 := sr4 _ _ h2
    have d1 := sr4 _ _ d1
    have k1 := sr4 _ _ k1
    have k2 := sr4 _ _ k2
    have h3 := sr4 _ _ h3
    have k3 := sr4 _ _ k3
    have k4 := sr4 _ _ k4
    have sAll := sAll.trans sr4
    generalize upd K22 r4 (.lst [.ref b3, .ref b4]) = K23 at *
    refine ⟨(by show 2 ≤ sizeLine; rw [sizeLine_eq]; decide), fun D2 nD2 => ?_⟩
    have sD2 := Same.upd nD2 (o := .lst [.ref r3, .ref r4])
    have d2 : upd K23 D2 (.lst [.ref r3, .ref r4]) D2 = some (.lst [.ref r3, .ref r4]) := upd_same
    have y3 : r3 ≠ D2 := ne_of_none h3 nD2
    have y4 : r4 ≠ D2 := ne_of_none h4 nD2
    have f1 := sD2 _ _ f1
    have f2 := sD2 _ _ f2
    have f3 := sD2 _ _ f3
    have f4 := sD2 _ _ f4
    have f5 := sD2 _ _ f5
    have f6 := sD2 _ _ f6
    have fc := sD2 _ _ fc
    have f7 := sD2 _ _ f7
    have f8 := sD2 _ _ f8
    have fs := sD2 _ _ fs
    have g1 := sD2 _ _ g1
    have g2 := sD2 _ _ g2
    have h1 := sD2 _ _ h1
    have g3 := sD2 _ _ g3
    have g4 := sD2 _ _ g4
    have h2 := sD2 _ _ h2
    have d1 := sD2 _ _ d1
    have k1 := sD2 _ _ k1
    have k2 := sD2 _ _ k2
    have h3 := sD2 _ _ h3
    have k3 := sD2 _ _ k3
    have k4 := sD2 _ _ k4
    have h4 := sD2 _ _ h4
    have sAll := sAll.trans sD2
    generalize upd K23 D2 (.lst [.ref r3, .ref r4]) = K24 at *
    refine ⟨(by show 2 ≤ sizeLine; rw [sizeLine_eq]; decide), fun D3 nD3 => ?_⟩
    have hn3 := sAll.free nD3
    have sD3 := Same.upd nD3 (o := .lst [.ref D1, .ref D2])
    have d3 : upd K24 D3 (.lst [.ref D1, .ref D2]) D3 = some (.lst [.ref D1, .ref D2]) := upd_same
    have f1 := sD3 _ _ f1
    have f2 := sD3 _ _ f2
    have f3 := sD3 _ _ f3
    have f4 := sD3 _ _ f4
    have f5 := sD3 _ _ f5
    have f6 := sD3 _ _ f6
    have fc := sD3 _ _ fc
    have f7 := sD3 _ _ f7
    have f8 := sD3 _ _ f8
    have fs := sD3 _ _ fs
    have g1 := sD3 _ _ g1
    have g2 := sD3 _ _ g2
    have h1 := sD3 _ _ h1
    have g3 := sD3 _ _ g3
    have g4 := sD3 _ _ g4
    have h2 := sD3 _ _ h2
    have d1 := sD3 _ _ d1
    have k1 := sD3 _ _ k1
    have k2 := sD3 _ _ k2
    have h3 := sD3 _ _ h3
    have k3 := sD3 _ _ k3
    have k4 := sD3 _ _ k4
    have h4 := sD3 _ _ h4
    have d2 := sD3 _ _ d2
    have sAll := sAll.trans sD3
    generalize upd K24 D3 (.lst [.ref D1, .ref D2]) = K25 at *
    exact q D3 _ hn3 sAll ⟨D1, D2, d3, lr_22 d1 h1 h2 y1 y2 (e := planeP) rfl g1 g2 g3 g4, lr_22 d2 h3 h4 y3 y4 (e := planeQ x) rfl k1 k2 k3 k4⟩
end

end Fo

set_option maxHeartbeats 4100000
namespace Fo
open PySem PySem.Spec PyProof.Rows L2
open FoWd
def two (q : Wd × Rat) : Ps := [(q.1, q.2), (q.1.reverse, q.2)]
def both (ps : Ps) : Ps := ps.flatMap two
theorem both_take {ps : Ps} {i : Nat} {q : Wd × Rat} (e : ps[i]? = some q) : both (ps.take (i + 1)) = both (ps.take i) ++ two q := by
  unfold both
  rw [List.take_add_one, e, List.flatMap_append]
  rfl
theorem both_len : ∀ ps : Ps, (both ps).length = 2 * ps.length
  | [] => rfl
  | q :: ps => by
    show (two q ++ both ps).length = _
    rw [List.length_append, both_len ps, List.length_cons]
    show 2 + _ = _
    omega
theorem both_mem {ps : Ps} {p : Wd × Rat} (h : p ∈ both ps) : ∃ q ∈ ps, (p.1 = q.1 ∨ p.1 = q.1.reverse) ∧ p.2 = q.2 := by
  obtain ⟨q, hq, hp⟩ := List.mem_flatMap.mp h
  refine ⟨q, hq, ?_⟩
  rcases List.mem_cons.mp hp with rfl | hp
  · exact ⟨.inl rfl, rfl⟩
  · rw [List.mem_singleton.mp hp]
    exact ⟨.inr rfl, rfl⟩
theorem both_ov {N B : Nat} {ps : Ps} (h : AllOv N B ps) : AllOv N B (both ps) := fun p hp => by
  obtain ⟨q, hq, _, e⟩ := both_mem hp
  rw [e]
  exact h q hq
theorem both_le {N : Nat} {ps : Ps} (h : Le N ps) : Le N (both ps) := fun p hp => by
  obtain ⟨q, hq, e, _⟩ := both_mem hp
  rcases e with e | e
  · rw [e]
    exact h q hq
  · rw [e, List.length_reverse]
    exact h q hq
theorem accum_app (t a b : Ps) : accum t (a ++ b) = accum (accum t a) b := by
  unfold accum
  rw [List.foldl_append]
/-- the rows after i of them and j of the next one's two -/
def mid (ps : Ps) (i j : Nat) (q : Wd × Rat) : Ps := accum [] (both (ps.take i) ++ (two q).take j)
theorem mid_next {ps : Ps} {i j : Nat} {q p : Wd × Rat} (e : (two q)[j]? = some p) : mid ps i (j + 1) q = addTo (mid ps i j q) p.1 p.2 := by
  unfold mid
  rw [List.take_add_one, e, ← List.append_assoc, accum_app]
  rfl
/-- the rows of a formula and of its mirror, each row once -/
def mrr (ps : Ps) : Ps := accum [] (both ps)
/-- what the law's rows are -/
structure Mn (ps : Ps) : Prop where
  nd : (FoWd.keys ps).Nodup
  le : Le 6 ps
  l8 : ps.length ≤ 8
  ov : AllOv 2520 181440 ps
theorem Mn.gr {ps : Ps} (h : Mn ps) : Grow 1900 ps := grow_of h.ov (by decide) (by decide) (by decide) (by have := h.l8; omega)
theorem Mn.s {ps : Ps} (h : Mn ps) : SmS ps := fun a => ((coef_ov (N := 6350400) (B := 181440 * 2520) (fun p hp => (h.ov p hp).scale (M := 2520)) a).mono (by
  have := Nat.mul_le_mul_right (181440 * 2520) h.l8
  exact Nat.le_trans this (by decide)))
theorem mn_of {ps : Ps} (nd : (FoWd.keys ps).Nodup) (le : Le 6 ps) (l4 : ps.length ≤ 4) (ov : AllOv 2520 22680 ps) : Mn ps := ⟨nd, le, by omega, ov.mono (by decide)⟩
theorem mn_mrr {ps : Ps} (le : Le 6 ps) (l4 : ps.length ≤ 4) (ov : AllOv 2520 22680 ps) : Mn (mrr ps) := by
  have n0 : (FoWd.keys ([] : Ps)).Nodup := List.nodup_nil
  have z := accum_all n0 (both ps)
  have bl := both_len ps
  refine ⟨z.1, le_accum n0 (fun p hp => nomatch hp) (both_le le), ?_, (accum_ov n0 (C := 0) (fun p hp => nomatch hp) (both_ov ov)).mono ?_⟩
  · have := z.2.2.1
    have e : ([] : Ps).length = 0 := rfl
    show (accum [] (both ps)).length ≤ 8
    omega
  · rw [Nat.zero_add]
    exact Nat.le_trans (Nat.mul_le_mul_right _ (show (both ps).length ≤ 8 by omega)) (by decide)
def spMirr : Sp := fun vs H Q _ => ∃ (a : Addr) (ps : Ps), vs = [.ref a] ∧ LP H a ps ∧ Le 6 ps ∧ ps.length ≤ 4 ∧ AllOv 2520 22680 ps ∧ ∀ D H', H D = none → Same H H' → LP H' D (mrr ps) → Q (.ref D) H'
theorem rev_tx (w : Wd) : FoRv.revS (tx w) = tx w.reverse := by
  refine TL.ext_tl ?_
  show ((w.map lcode).reverse : List Nat) = w.reverse.map lcode
  rw [List.map_reverse]
section
variable {P : Program} {w : World} {K : PySem.W.Frag} {mg : Str → Option Value} {base : Heap}
theorem ok_mirrored (T : Tx K mg) : FnOk P w K mg base CX0 3 (He.ga K "_law_mirrored") T.fd_mirrored ["_law_pairs"] spMirr := by
  refine T.F_mirrored.ok sc_mirrored (fun vs H Q E h => ?_) (fun cdv A outer s H vs Q E hr h => ?_)
  · obtain ⟨a, ps, rfl, _⟩ := h
    rfl
  · obtain ⟨a, ps, rfl, hLP, h6, l4, hv, Qr⟩ := h
    refine ⟨_, (pss_cons (ps_set (i := 1) sc_mirrored.nd rfl (.inr rfl) pe_dnewK)
      (pss_cons (ps_for PassesOwn.never rfl (pi_list (pv 0)) (pg_tup (by rfl) (pgs_cons (pg_name (i := 2) sc_mirrored.nd rfl (.inl rfl)) (pgs_cons (pg_name (i := 3) sc_mirrored.nd rfl (.inl rfl)) pgs_nil))) (pss_one (ps_for PassesOwn.never rfl (pi_list (pe_lst (pa_cons (pv 2) (pa_cons (FoRv.pe_revS (pv 2) (pe_un un_neg pe_int)) pa_nil)))) (pg_name (i := 4) sc_mirrored.nd rfl (.inl rfl)) (pss_one (ps_dput (Nat.lt_of_le_of_lt (Nat.add_le_add_left (by decide) _) hr.units) (pv 1) (pv 4) (pe_call (ok_plusQ T) (hr.mono (by decide)) (by rfl) T.g_plus T.F_plus.kp T.b_plus .nil pass0 (pa_cons (pe_dget2 (Nat.lt_of_le_of_lt (Nat.add_le_add_left (by decide) _) hr.units) (pv 1) (pv 4) (pe_tup (pa_cons pe_int (pa_cons pe_int pa_nil))) ⟨by rfl, by rfl, by rfl, by rfl⟩) (pa_cons (pv 3) pa_nil))) rfl)))))
      (pss_one (ps_ret (pe_lc (own := [("_law_row_here", 2)]) (g := gName 2) rfl sc_mirrored.nd (pi_list (pe_callTy (call_list_dK (by rfl)) (by rfl) T.z_list (by decide +kernel) (pa_cons (pv 1) pa_nil))) (blkOk_by (own := [("_law_row_here", 2)]) (N := ["_law_pairs", "_law_found", "_law_row_here", "_law_x", "_law_key"]) (sc := defScope s_mirrored) (by decide +kernel)) (fun _ _ _ _ _ => (pg_name (i := 2) sc_mirrored.nd rfl (.inl rfl))) (fun _ _ _ _ _ => pts_nil) (fun _ _ _ _ _ => (pe_tup (pa_cons (pv 2) (pa_cons (pe_dget (Nat.lt_of_le_of_lt (Nat.add_le_add_left (by decide) _) hr.units) (pv 1) (pv 2) (fun _ _ => rfl)) pa_nil))))))))), ?_⟩
    obtain ⟨vs, ha, hL⟩ := id hLP
    have lv : vs.length = ps.length := Paired.length hL
    refine fun p np => ?_
    have s0 := Same.upd np (o := .dK [])
    have p0 : upd H p (.dK []) p = some (.dK []) := upd_same
    generalize upd H p (.dK []) = H1 at *
    refine ⟨_, rfl, a, rfl, ⟨_, SqL.of (s0 _ _ ha)⟩, ?_⟩
    refine for_list (xs := vs) (fun i σ G => ∃ kt o2 o3 o4, σ = [some (.ref a), some (.ref p), o2, o3, o4] ∧ G p = some (.dK kt) ∧ DL Rq G kt (accum [] (both (ps.take i))) ∧ Same H G)
      ⟨[], none, none, none, rfl, p0, .nil, s0⟩ (fun i σ G _ ⟨_, _, _, _, _, _, _, h⟩ => SqL.of (h _ _ ha)) ?_ ?_
    · rintro i v σ G ev ⟨kt, o2, o3, o4, rfl, hp, hD, sG⟩
      obtain ⟨q, eq, tq, r, rfl, hq, hr0⟩ := paired_get hL ev
      have mq := List.mem_of_getElem? eq
      have lw : q.1.length ≤ 6 := h6 _ mq
      have ovx : Ov 2520 22680 q.2 := hv _ mq
      have hi : i < 4 := by
        have := (List.getElem?_eq_some_iff.mp ev).1
        omega
      refine ⟨tq, _, rfl, SqT.of (sG _ _ hq), rfl, _, _, rfl, _, _, rfl, rfl, ?_⟩
      refine ⟨_, rfl, _, rfl, 1, rfl, rfl, tx q.1, rfl, by rw [tx_size]; omega, ?_⟩
      rw [rev_tx]
      refine ⟨(by show 2 ≤ sizeLine; rw [sizeLine_eq]; decide), fun L nL => ?_⟩
      have sL := Same.upd nL (o := .lst [.str (tx q.1), .str (tx q.1.reverse)])
      have hLl : upd G L (.lst [.str (tx q.1), .str (tx q.1.reverse)]) L = some (.lst [.str (tx q.1), .str (tx q.1.reverse)]) := upd_same
      have hp1 := sL _ _ hp
      have hD1 := hD.nld rq_solidD (same_nld sL)
      have sG1 := sG.trans sL
      have Lp : L ≠ p := fun z => by rw [z, hp] at nL; cases nL
      generalize upd G L (.lst [.str (tx q.1), .str (tx q.1.reverse)]) = G1 at *
      refine ⟨L, rfl, ⟨_, SqL.of hLl⟩, ?_⟩
      refine for_list (xs := [.str (tx q.1), .str (tx q.1.reverse)]) (fun j τ G2 => ∃ kt o4, τ = [some (.ref a), some (.ref p), some (.str (tx q.1)), some (.ref r), o4] ∧ G2 p = some (.dK kt) ∧ DL Rq G2 kt (mid ps i j q) ∧ Same H G2 ∧ G2 L = some (.lst [.str (tx q.1), .str (tx q.1.reverse)]))
        ⟨kt, o4, rfl, hp1, by unfold mid; rw [List.take_zero, List.append_nil]; exact hD1, sG1, hLl⟩ (fun j τ G2 _ ⟨_, _, _, _, _, _, h⟩ => SqL.of h) ?_ ?_
      · rintro j v τ G2 ev2 ⟨kt2, o5, rfl, hp2, hD2, s2, hL2⟩
        have hj : j < 2 := (List.getElem?_eq_some_iff.mp ev2).1
        obtain ⟨kw, e2, rfl, lk⟩ : ∃ kw : Wd, (two q)[j]? = some (kw, q.2) ∧ v = .str (tx kw) ∧ kw.length ≤ 6 := by
          rcases (show j = 0 ∨ j = 1 by omega) with rfl | rfl
          · cases ev2
            exact ⟨q.1, rfl, rfl, lw⟩
          · cases ev2
            exact ⟨q.1.reverse, rfl, rfl, by rw [List.length_reverse]; exact lw⟩
        have n0 : (FoWd.keys ([] : Ps)).Nodup := List.nodup_nil
        have z := accum_all n0 (both (ps.take i) ++ (two q).take j)
        have lm : (both (ps.take i) ++ (two q).take j).length ≤ 8 := by
          rw [List.length_append, both_len, List.length_take, List.length_take]
          show 2 * _ + min j 2 ≤ 8
          omega
        have ovm : AllOv 2520 22680 (both (ps.take i) ++ (two q).take j) := (both_ov hv.take).app fun p hp => by
          have hp := List.mem_of_mem_take hp
          rcases List.mem_cons.mp hp with rfl | hp
          · exact ovx
          · rw [List.mem_singleton.mp hp]
            exact ovx
        have kn : (FoWd.keys (mid ps i j q)).Nodup := z.1
        have lmid : (mid ps i j q).length ≤ 8 := by
          have := z.2.2.1
          have e : ([] : Ps).length = 0 := rfl
          show (accum [] _).length ≤ 8
          omega
        have zf : ∀ w, FoQ.SzR 40 ((look (mid ps i j q) w).getD 0) := fun w => by
          have c0 : ∀ w, Ov 2520 0 ((look ([] : Ps) w).getD 0) := fun w => Ov.zero
          refine ((accum_look ovm (C := 0) (t := []) c0 w).mono (C := 181440) ?_).sz (by decide) (by decide) (by decide)
          rw [Nat.zero_add]
          exact Nat.le_trans (Nat.mul_le_mul_right _ lm) (by decide)
        refine ⟨_, rfl, p, rfl, .inl ⟨kt2, .inl hp2⟩, _, rfl, (by show 2 ≤ sizeLine; rw [sizeLine_eq]; decide), fun p0 np0 => ?_⟩
        have s4 := Same.upd np0 (o := .tup [.int 0, .int 1])
        have h0 : FrQ (upd G2 p0 (.tup [.int 0, .int 1])) p0 0 := upd_same
        have hp4 := s4 _ _ hp2
        have hr4 : FrQ (upd G2 p0 (.tup [.int 0, .int 1])) r q.2 := s4 _ _ (s2 _ _ hr0)
        have hD4 := hD2.nld rq_solidD (same_nld s4)
        have hL4 := s4 _ _ hL2
        have s24 := s2.trans s4
        generalize upd G2 p0 (.tup [.int 0, .int 1]) = G4 at *
        obtain ⟨o, g1, bb, g2, hb⟩ : ∃ o, DGet G4 p (.str (tx kw)) o ∧ ∃ b, o.getD (.ref p0) = .ref b ∧ FrQ G4 b ((look (mid ps i j q) kw).getD 0) := by
          refine ⟨_, .inl ⟨kt2, .inr (tx kw), .inl hp4, rfl, rfl⟩, ?_⟩
          rcases hD4.look (w := kw) with ⟨l1, l2⟩ | ⟨x, v, l1, l2, b, rfl, hb⟩
          · rw [l1, l2]
            exact ⟨p0, rfl, h0⟩
          · rw [l1, l2]
            exact ⟨b, rfl, hb⟩
        refine ⟨o, g1, ?_⟩
        rw [g2]
        refine ⟨_, rfl, bb, r, _, _, rfl, hb, hr4, (zf kw).mono (by decide), (ovx.sz (k := 40) (by decide) (by decide) (by decide)).mono (by decide), fun p5 np5 => ?_⟩
        have s5 := Same.upd np5 (o := qt ((look (mid ps i j q) kw).getD 0 + q.2))
        have h5 : FrQ (upd G4 p5 (qt ((look (mid ps i j q) kw).getD 0 + q.2))) p5 ((look (mid ps i j q) kw).getD 0 + q.2) := upd_same
        have hp5 := s5 _ _ hp4
        have hD5 := hD4.nld rq_solidD (same_nld s5)
        have hL5 := s5 _ _ hL4
        have s25 := s24.trans s5
        generalize upd G4 p5 (qt ((look (mid ps i j q) kw).getD 0 + q.2)) = G5 at *
        refine ⟨_, rfl, _, rfl, p, _, rfl, .inl ⟨kt2, .inr (tx kw), hp5, rfl, ?_, rfl⟩, ?_⟩
        · rw [hD5.len, sizeLine_eq]
          omega
        refine ⟨_, _, rfl, upd_same, ?_, fun c o e => ?_, ?_⟩
        · rw [mid_next e2]
          unfold addTo
          exact DL.put (hD5.nld rq_solidD (nld_upd hp5 id)) kn ⟨p5, rfl, nld_upd hp5 id _ _ h5 trivial⟩
        · rw [upd_ne (fun z => by rw [z, np] at e; cases e)]
          exact s25 _ _ e
        · rw [upd_ne Lp]
          exact hL5
      · rintro τ G2 ⟨kt2, o5, rfl, hp2, hD2, s2, hL2⟩
        refine ⟨kt2, _, _, _, rfl, hp2, ?_, s2⟩
        rw [both_take eq]
        exact hD2
    · rintro σ H2 ⟨kt, o2, o3, o4, rfl, hp, hD, sG⟩
      rw [lv, List.take_length] at hD
      have mn := mn_mrr h6 l4 hv
      have hD : DL Rq H2 kt (mrr ps) := hD
      have kn := mn.nd
      have m8 := mn.l8
      generalize mrr ps = fs at *
      refine ⟨_, rfl, p, kt, rfl, hp, fun q1 nq1 => ?_⟩
      have ek : (kt.map fun kv => kV kv.1) = ((FoWd.keys fs).map tx).map V.str := by
        have z := hD.keys
        have z2 : (kt.map fun kv => kV kv.1) = (kt.map (·.1)).map kV := by rw [List.map_map]; rfl
        rw [z2, z, List.map_map, List.map_map]
        rfl
      rw [ek]
      have s5 := Same.upd nq1 (o := .lst (((FoWd.keys fs).map tx).map V.str))
      have g5 : upd H2 q1 (.lst (((FoWd.keys fs).map tx).map V.str)) q1 = some (.lst (((FoWd.keys fs).map tx).map V.str)) := upd_same
      generalize upd H2 q1 (.lst (((FoWd.keys fs).map tx).map V.str)) = H5 at *
      have hp5 := s5 _ _ hp
      have hD5 := hD.nld rq_solidD (same_nld s5)
      have sG5 := sG.trans s5
      refine ⟨q1, rfl, ⟨_, SqL.of g5⟩, fun D nD => ?_⟩
      refine lc_list (LPI fs H5 D) (LPI.start nD) (fun i H' _ h => SqL.of (h.1 _ _ g5)) (fun i x H6 ex h => ?_) (fun H6 h => ?_)
      · have s6 := h.1
        rw [List.getElem?_map, List.getElem?_map] at ex
        obtain ⟨pr, epr⟩ : ∃ pr, fs[i]? = some pr := by
          cases e : fs[i]? with
          | none =>
            have e2 : (FoWd.keys fs)[i]? = none := by unfold FoWd.keys; rw [List.getElem?_map, e]; rfl
            rw [e2] at ex; cases ex
          | some z => exact ⟨z, rfl⟩
        have ew : (FoWd.keys fs)[i]? = some pr.1 := by unfold FoWd.keys; rw [List.getElem?_map, epr]; rfl
        rw [ew] at ex
        cases ex
        have lk : look fs pr.1 = some pr.2 := (look_mem kn).mpr (List.mem_of_getElem? epr)
        obtain ⟨r, l2, hr⟩ : ∃ r, valV kt (.inr (tx pr.1)) = some (.ref r) ∧ FrQ H6 r pr.2 := by
          rcases (hD5.nld rq_solidD (same_nld s6)).look (w := pr.1) with ⟨l1, _⟩ | ⟨x', v, l1, l2, r, rfl, hr⟩
          · rw [lk] at l1; cases l1
          · rw [lk] at l1; cases l1; exact ⟨r, l2, hr⟩
        have gd1 : DGet H6 p (.str (tx pr.1)) (some (.ref r)) := .inl ⟨kt, .inr (tx pr.1), .inl (s6 _ _ hp5), rfl, l2.symm⟩
        refine ⟨rfl, _, rfl, _, rfl, _, rfl, p, .ref r, rfl, gd1, (by show 2 ≤ sizeLine; rw [sizeLine_eq]; decide), fun t nt => ?_⟩
        have st := Same.upd nt (o := .tup [.str (tx pr.1), .ref r])
        exact h.next nD st epr ⟨t, r, rfl, upd_same, st _ _ hr⟩ (by omega)
      · have e : (((FoWd.keys fs).map tx).map V.str).length = fs.length := by rw [List.length_map, List.length_map]; exact List.length_map _
        rw [e] at h
        exact Qr D H6 (sG5.free nD) (sG5.trans h.1) h.done
end

end Fo

set_option maxHeartbeats 4100000
namespace Fo
open PySem PySem.Spec PyProof.Rows L2
open FoWd
theorem fr_neV {K : PySem.W.Frag} {H : Hp} {a b : Addr} {x z : Rat} {Q : VK} (ha : FrQ H a x) (hb : FrQ H b z) (e : x = z) (q : Q (.bl false) H) : rNeD K (.ref a) (.ref b) H Q := by
  refine ⟨_, _, dp_q ha, dp_q hb, rfl, rfl, ?_⟩
  rw [tq_eqv, decide_eq_true e]
  exact q
theorem fr_eqV {K : PySem.W.Frag} {H : Hp} {a b : Addr} {x z : Rat} {Q : VK} (ha : FrQ H a x) (hb : FrQ H b z) (e : x = z) (q : Q (.bl true) H) : rEqD K (.ref a) (.ref b) H Q := by
  refine ⟨_, _, dp_q ha, dp_q hb, rfl, rfl, ?_⟩
  rw [tq_eqv, decide_eq_true e]
  exact q
def spFits (K : PySem.W.Frag) : Sp := fun vs H Q _ => ∃ (tp l tq p0 p1 : Addr) (l0 l1 : List Rat) (M : List (List Rat)) (x : Rat), vs = [.ref tp, .ref l, .ref tq] ∧ H tp = some (.tup [.ref p0, .ref p1]) ∧ PolAt K H p0 l0 ∧ PolAt K H p1 l1 ∧ AllSz 78 l0 ∧ l0.length ≤ 18 ∧ AllSz 78 l1 ∧ l1.length ≤ 18 ∧
  LR H l M ∧ SqN 2 M ∧ AllE 900 M ∧ FrQ H tq x ∧ FoQ.SzR 20 x ∧ FoQ.hor x l0 = ent M 0 0 + ent M 1 1 ∧ FoQ.hor x l1 = ent M 0 0 * ent M 1 1 - ent M 0 1 * ent M 1 0 ∧ ∀ H', Same H H' → Q (.bl true) H'
section
variable {P : Program} {w : World} {K : PySem.W.Frag} {mg : Str → Option Value} {base : Heap}
theorem ok_fits (T : Tx K mg) : FnOk P w K mg base CX0 8 (He.ga K "_law_fits") T.fd_fits ["_law_polys", "_law_rows", "_law_t"] (spFits K) := by
  refine T.F_fits.ok sc_fits (fun vs H Q E h => ?_) (fun cdv A outer s H vs Q E hr h => ?_)
  · obtain ⟨tp, l, tq, p0, p1, l0, l1, M, x, rfl, _⟩ := h
    rfl
  · obtain ⟨tp, l, tq, p0, p1, l0, l1, M, x, rfl, ht, h0, h1, z0, n0, z1, n1, hM, sM, zM, hx, zx, e0, e1, q⟩ := h
    refine ⟨_, (pss_cons (ps_set (i := 3) sc_fits.nd rfl (.inl rfl) (pe_make T.mk_R (ok_initQ T) (hr.mono (by decide)) (by rfl) T.c_Ratio (bind_init2 T) .nil pass0 (pa_cons (pe_ix ix_tup (pv 2) pe_int (fun _ _ => rfl)) (pa_cons (pe_ix ix_tup (pv 2) pe_int (fun _ _ => rfl)) pa_nil))))
      (pss_cons (ps_set (i := 4) sc_fits.nd rfl (.inl rfl) (pe_meth (pe_ix ix_tup (pv 0) pe_int (fun _ _ => rfl)) T.cl_P T.mP_worth (ok_Pworth T) (hr.mono (by decide)) T.b_Polynomial_worth .nil pass0 (pa_cons (pv 3) pa_nil)))
      (pss_cons (ps_set (i := 5) sc_fits.nd rfl (.inl rfl) (pe_call (ok_minusQ T) (hr.mono (by decide)) (by rfl) T.g_minus T.F_minus.kp T.b_minus .nil pass0 (pa_cons (pe_call (ok_timesQ T) (hr.mono (by decide)) (by rfl) T.g_times T.F_times.kp T.b_times .nil pass0 (pa_cons (pe_ix ix_list (pe_ix ix_list (pv 1) pe_int (fun _ _ => rfl)) pe_int (fun _ _ => rfl)) (pa_cons (pe_ix ix_list (pe_ix ix_list (pv 1) pe_int (fun _ _ => rfl)) pe_int (fun _ _ => rfl)) pa_nil))) (pa_cons (pe_call (ok_timesQ T) (hr.mono (by decide)) (by rfl) T.g_times T.F_times.kp T.b_times .nil pass0 (pa_cons (pe_ix ix_list (pe_ix ix_list (pv 1) pe_int (fun _ _ => rfl)) pe_int (fun _ _ => rfl)) (pa_cons (pe_ix ix_list (pe_ix ix_list (pv 1) pe_int (fun _ _ => rfl)) pe_int (fun _ _ => rfl)) pa_nil))) pa_nil))))
      (pss_cons (ps_if (pt_cmpR (op_neD hr.units) (pe_tup (pa_cons (pe_prop (pv 4) T.cl_R T.p_top (ok_topQ T) (hr.mono (by decide)) T.b_Ratio_top .nil pass0 (by rfl)) (pa_cons (pe_prop (pv 4) T.cl_R T.p_bottom (ok_bottomQ T) (hr.mono (by decide)) T.b_Ratio_bottom .nil pass0 (by rfl)) pa_nil))) (pe_call (ok_plusQ T) (hr.mono (by decide)) (by rfl) T.g_plus T.F_plus.kp T.b_plus .nil pass0 (pa_cons (pe_ix ix_list (pe_ix ix_list (pv 1) pe_int (fun _ _ => rfl)) pe_int (fun _ _ => rfl)) (pa_cons (pe_ix ix_list (pe_ix ix_list (pv 1) pe_int (fun _ _ => rfl)) pe_int (fun _ _ => rfl)) pa_nil))) (nomark _)) (pss_one (ps_ret pe_bl)) pss_nil)
      (pss_cons (ps_set (i := 6) sc_fits.nd rfl (.inl rfl) (pe_meth (pe_ix ix_tup (pv 0) pe_int (fun _ _ => rfl)) T.cl_P T.mP_worth (ok_Pworth T) (hr.mono (by decide)) T.b_Polynomial_worth .nil pass0 (pa_cons (pv 3) pa_nil)))
      (pss_one (ps_ret (pe_cmpR (op_eqD hr.units) (pe_tup (pa_cons (pe_prop (pv 6) T.cl_R T.p_top (ok_topQ T) (hr.mono (by decide)) T.b_Ratio_top .nil pass0 (by rfl)) (pa_cons (pe_prop (pv 6) T.cl_R T.p_bottom (ok_bottomQ T) (hr.mono (by decide)) T.b_Ratio_bottom .nil pass0 (by rfl)) pa_nil))) (pv 5) (nomark _))))))))), ?_⟩
    have hT := (show FrQ H tq x from hx).at_ (K := K)
    refine ⟨_, rfl, _, _, _, _, rfl, rfl, hT, rfl, _, rfl, _, _, _, _, rfl, rfl, hT, rfl, rq_make (FoQ.den_ne x) (zx.2.mono (by decide)) (Rat.num_divInt_den x) fun rx H1 nrx s1 hrx => ⟨rfl, ?_⟩⟩
    have ht1 := s1 _ _ ht
    obtain ⟨dx, t', i1⟩ := (h0.same s1).ins
    refine ⟨_, rfl, tp, _, _, _, rfl, rfl, SqT.of ht1, rfl, p0, dx, _, rfl, i1, rfl, _, rfl, p0, .ref rx, l0, x, rfl, h0.same s1, .inl ⟨rx, rfl, hrx⟩, z0, zx, n0, fun r2 H2 s2 hr2 => ?_⟩
    have s12 := s1.trans s2
    have hrx := hrx.same s2
    have hM2 := hM.same s12
    have ll : M.length = 2 := sM.1
    have it : ∀ {G : Hp}, LR G l M → ∀ i j, i < 2 → j < 2 → ∃ (ws : List V) (q : Addr) (us : List V) (t : Addr), G l = some (.lst ws) ∧ ws[i]? = some (.ref q) ∧ G q = some (.lst us) ∧ us[j]? = some (.ref t) ∧ FrQ G t (ent M i j) := fun h i j hi hj => h.item (by omega) (by rw [sM.2 i hi]; exact hj)
    have a0 : ∀ {ws : List V} {v : V}, ws[0]? = some v → atI ws 0 = some v := fun h => atI_nat (j := 0) h
    have a1 : ∀ {ws : List V} {v : V}, ws[1]? = some v → atI ws 1 = some v := fun h => atI_nat (j := 1) h
    obtain ⟨wa, qa, ua, ta, c1, c2, c3, c4, c5⟩ := it hM2 0 0 (by decide) (by decide)
    obtain ⟨wb, qb, ub, tb, d1, d2, d3, d4, d5⟩ := it hM2 1 1 (by decide) (by decide)
    have zz : ∀ i j, FoQ.SzR 900 (ent M i j) := zM
    refine ⟨_, rfl, l, _, _, _, rfl, rfl, SqL.of c1, a0 c2, qa, _, _, _, rfl, rfl, SqL.of c3, a0 c4, ?_⟩
    refine ⟨_, rfl, l, _, _, _, rfl, rfl, SqL.of d1, a1 d2, qb, _, _, _, rfl, rfl, SqL.of d3, a1 d4, ?_⟩
    refine ⟨ta, tb, _, _, rfl, c5, d5, (zz 0 0).mono (by decide), (zz 1 1).mono (by decide), fun m1 nm1 => ?_⟩
    have s3 := Same.upd nm1 (o := qt (ent M 0 0 * ent M 1 1))
    have hm1 : FrQ (upd H2 m1 (qt (ent M 0 0 * ent M 1 1))) m1 (ent M 0 0 * ent M 1 1) := upd_same
    have hr2 := hr2.same s3
    have hrx := hrx.same s3
    have s13 := s12.trans s3
    generalize upd H2 m1 (qt (ent M 0 0 * ent M 1 1)) = H3 at *
    clear c1 c2 c3 c4 c5 d1 d2 d3 d4 d5
    have hM3 := hM.same s13
    obtain ⟨wa, qa, ua, ta, c1, c2, c3, c4, c5⟩ := it hM3 0 1 (by decide) (by decide)
    obtain ⟨wb, qb, ub, tb, d1, d2, d3, d4, d5⟩ := it hM3 1 0 (by decide) (by decide)
    refine ⟨_, rfl, l, _, _, _, rfl, rfl, SqL.of c1, a0 c2, qa, _, _, _, rfl, rfl, SqL.of c3, a1 c4, ?_⟩
    refine ⟨_, rfl, l, _, _, _, rfl, rfl, SqL.of d1, a1 d2, qb, _, _, _, rfl, rfl, SqL.of d3, a0 d4, ?_⟩
    refine ⟨ta, tb, _, _, rfl, c5, d5, (zz 0 1).mono (by decide), (zz 1 0).mono (by decide), fun m2 nm2 => ?_⟩
    have s4 := Same.upd nm2 (o := qt (ent M 0 1 * ent M 1 0))
    have hm2 : FrQ (upd H3 m2 (qt (ent M 0 1 * ent M 1 0))) m2 (ent M 0 1 * ent M 1 0) := upd_same
    have hr2 := hr2.same s4
    have hrx := hrx.same s4
    have hm1 := FrQ.same hm1 s4
    have s14 := s13.trans s4
    generalize upd H3 m2 (qt (ent M 0 1 * ent M 1 0)) = H4 at *
    clear c1 c2 c3 c4 c5 d1 d2 d3 d4 d5
    refine ⟨m1, m2, _, _, rfl, hm1, hm2, ((zz 0 0).mul (zz 1 1)).mono (by decide), ((zz 0 1).mul (zz 1 0)).mono (by decide), fun m3 nm3 => ?_⟩
    have s5 := Same.upd nm3 (o := qt (ent M 0 0 * ent M 1 1 - ent M 0 1 * ent M 1 0))
    have hm3 : FrQ (upd H4 m3 (qt (ent M 0 0 * ent M 1 1 - ent M 0 1 * ent M 1 0))) m3 (ent M 0 0 * ent M 1 1 - ent M 0 1 * ent M 1 0) := upd_same
    have hr2 := hr2.same s5
    have hrx := hrx.same s5
    have s15 := s14.trans s5
    generalize upd H4 m3 (qt (ent M 0 0 * ent M 1 1 - ent M 0 1 * ent M 1 0)) = H5 at *
    -- the trace
    obtain ⟨dr, er⟩ := id hr2
    refine ⟨_, rfl, r2, dr, _, rfl, er, r2, _, rfl, hr2, _, rfl, r2, dr, _, rfl, er, r2, _, rfl, hr2, (by show 2 ≤ sizeLine; rw [sizeLine_eq]; decide), fun p6 n6 => ?_⟩
    have s6 := Same.upd n6 (o := .tup [.int (FoQ.hor x l0).num, .int (FoQ.hor x l0).den])
    have h6 : FrQ (upd H5 p6 (.tup [.int (FoQ.hor x l0).num, .int (FoQ.hor x l0).den])) p6 (FoQ.hor x l0) := upd_same
    have hm3 := FrQ.same hm3 s6
    have hrx := hrx.same s6
    have s16 := s15.trans s6
    generalize upd H5 p6 (.tup [.int (FoQ.hor x l0).num, .int (FoQ.hor x l0).den]) = H6 at *
    have hM6 := hM.same s16
    obtain ⟨wa, qa, ua, ta, c1, c2, c3, c4, c5⟩ := it hM6 0 0 (by decide) (by decide)
    obtain ⟨wb, qb, ub, tb, d1, d2, d3, d4, d5⟩ := it hM6 1 1 (by decide) (by decide)
    refine ⟨_, rfl, l, _, _, _, rfl, rfl, SqL.of c1, a0 c2, qa, _, _, _, rfl, rfl, SqL.of c3, a0 c4, ?_⟩
    refine ⟨_, rfl, l, _, _, _, rfl, rfl, SqL.of d1, a1 d2, qb, _, _, _, rfl, rfl, SqL.of d3, a1 d4, ?_⟩
    refine ⟨ta, tb, _, _, rfl, c5, d5, (zz 0 0).mono (by decide), (zz 1 1).mono (by decide), fun m7 nm7 => ?_⟩
    have s7 := Same.upd nm7 (o := qt (ent M 0 0 + ent M 1 1))
    have hm7 : FrQ (upd H6 m7 (qt (ent M 0 0 + ent M 1 1))) m7 (ent M 0 0 + ent M 1 1) := upd_same
    have hrx := hrx.same s7
    have hm3 := FrQ.same hm3 s7
    have h6 := FrQ.same h6 s7
    have s17 := s16.trans s7
    generalize upd H6 m7 (qt (ent M 0 0 + ent M 1 1)) = H7 at *
    clear c1 c2 c3 c4 c5 d1 d2 d3 d4 d5
    refine fr_neV h6 hm7 e0 ⟨_, rfl, iteF ?_⟩
    -- the determinant
    have ht7 := s17 _ _ ht
    obtain ⟨dx, t', i1⟩ := (h1.same s17).ins
    refine ⟨_, rfl, tp, _, _, _, rfl, rfl, SqT.of ht7, rfl, p1, dx, _, rfl, i1, rfl, _, rfl, p1, .ref rx, l1, x, rfl, h1.same s17, .inl ⟨rx, rfl, hrx⟩, z1, zx, n1, fun r8 H8 s8 hr8 => ?_⟩
    have hm3 := FrQ.same hm3 s8
    obtain ⟨dr8, er8⟩ := id hr8
    refine ⟨_, rfl, r8, dr8, _, rfl, er8, r8, _, rfl, hr8, _, rfl, r8, dr8, _, rfl, er8, r8, _, rfl, hr8, (by show 2 ≤ sizeLine; rw [sizeLine_eq]; decide), fun p9 n9 => ?_⟩
    have s9 := Same.upd n9 (o := .tup [.int (FoQ.hor x l1).num, .int (FoQ.hor x l1).den])
    refine ⟨_, rfl, fr_eqV (show FrQ (upd H8 p9 (.tup [.int (FoQ.hor x l1).num, .int (FoQ.hor x l1).den])) p9 (FoQ.hor x l1) from upd_same) (FrQ.same hm3 s9) e1 ?_⟩
    exact q _ (s17.trans (s8.trans s9))
end

end Fo

set_option maxHeartbeats 4100000
namespace Fo
open PySem PySem.Spec PyProof.Rows L2
open FoWd
theorem eqW_data {X : Cx} {n : Nat} {H : Hp} {x y : V} {d e : PyData} (hd : Dp X.K H x d) (he : Dp X.K H y e) (sd : PyData.canLay0 d = true) (se : PyData.canLay0 e = true) (hu : (FoG.inN n X.A).units + min d.depth e.depth < cLine) : FoG.EqW X n H x y (PyData.eqv d e) := by
  intro pz τ s v u Q I rv ru h
  obtain ⟨as, r1⟩ := Dp.reads I d x v hd rv
  obtain ⟨bs, r2⟩ := Dp.reads I e y u he ru
  exact SeqAt.eqBoolOverData _ _ _ _ _ _ _ _ _ _ _ _ r1 r2 sd se hu (h s I)
theorem eqW_rq {X : Cx} {n : Nat} (hr : Room (2 + n) X.A) {H : Hp} {a b : Addr} {x z : Rat} (ha : FrQ H a x) (hz : FrQ H b z) : FoG.EqW X n H (.ref a) (.ref b) (decide (x = z)) := by
  rw [← tq_eqv]
  refine eqW_data (dp_q ha) (dp_q hz) rfl rfl ?_
  have h1 := (FoG.inN_room (k := 2) (n := n) hr).units
  have h2 : min (tq x).depth (tq z).depth = 1 := rfl
  rw [h2]
  omega
theorem hits_rq {X : Cx} (hr : Room 3 X.A) {H : Hp} {kb : List (Key × V)} {g : Ps} (hg : DL Rq H kb g) {ka : List (Key × V)} {f : Ps} (h : DL Rq H ka f) : FoDq.Hits X 1 H kb ka (f.all fun p => decide (look g p.1 = some p.2)) := by
  induction h with
  | nil => exact .nil
  | @cons a b l1 l2 r t ih =>
    obtain ⟨ak, av⟩ := a
    obtain ⟨r1, c, rfl, hc⟩ := r
    dsimp only at r1
    subst r1
    rw [List.all_cons]
    rcases hg.look (w := b.1) with ⟨l1, l2⟩ | ⟨x, v, l1, l2, e, rfl, he⟩
    · rw [l1]
      exact .miss l2
    · rw [l1]
      have e1 : decide (some x = some b.2) = decide (b.2 = x) := decide_eq_decide.mpr ⟨fun z => (Option.some.inj z).symm, fun z => by rw [z]⟩
      rw [e1]
      exact .hit l2 (eqW_rq hr hc he) ih
theorem els_q {H H' : Hp} {d u : Addr} {kv kw kvs : List (Key × V)} {f : Ps} (hd : H d = some (.dK kv)) (hu : H u = some (.dK kw)) (s : FoDq.Els d u H H') (h : DL Rq H kvs f) : DL Rq H' kvs f :=
  Paired.mapP h fun a b ⟨e, c, e2, e3⟩ => ⟨e, c, e2, s _ _ (fun z => by
    have e3 : H c = some (qt b.2) := e3
    rw [z, hd] at e3; cases e3) (fun z => by
    have e3 : H c = some (qt b.2) := e3
    rw [z, hu] at e3; cases e3) e3⟩
/-- two forms compared, as dicts of fractions -/
theorem eq_forms {X : Cx} (hr : Room 3 X.A) {H : Hp} {a b : Addr} {ka kb : List (Key × V)} {N : Nat} {ps qs : Ps} {Q : VK} (ha : H a = some (.dK ka)) (hb : H b = some (.dK kb)) (la : DL Rq H ka (form N ps)) (lb : DL Rq H kb (form N qs)) (q : Q (.bl (decide (form N ps = form N qs))) H) :
    FoDq.rEqDo X (.ref a) (.ref b) H Q := by
  refine ⟨a, b, ka, kb, (form N ps).all fun p => decide (look (form N qs) p.1 = some p.2), rfl, rfl, ha, hb, fun H' hel _ => hits_rq hr (els_q ha hb hel lb) (els_q ha hb hel la), ?_⟩
  rw [la.len, lb.len, form_eq_bool]
  exact q
def cdtOk (B N : Nat) (m : List (List Rat)) : Bool := decide (0 < N) && decide (N < 2 ^ B) && (List.range m.length).all fun i => (List.range m.length).all fun j => decide ((ent m i j * (N : Rat)).den = 1) && decide ((ent m i j * (N : Rat)).num.natAbs < 2 ^ B)
theorem cdt_of {n B N : Nat} {m : List (List Rat)} (s : SqN n m) (h : cdtOk B N m = true) : CDT B m := by
  unfold cdtOk at h
  rw [Bool.and_eq_true, Bool.and_eq_true] at h
  obtain ⟨⟨h1, h2⟩, h3⟩ := h
  refine ⟨N, of_decide_eq_true h1, of_decide_eq_true h2, fun i j => ?_⟩
  by_cases c : i < n ∧ j < n
  · have a1 := List.all_eq_true.mp h3 i (List.mem_range.mpr (by have := s.1; omega))
    have a2 := List.all_eq_true.mp a1 j (List.mem_range.mpr (by have := s.1; omega))
    rw [Bool.and_eq_true] at a2
    refine ⟨(ent m i j * (N : Rat)).num, of_decide_eq_true a2.2, ?_⟩
    have d1 := of_decide_eq_true a2.1
    generalize ent m i j * (N : Rat) = r at *
    exact Rat.ext (Rat.num_intCast _).symm (by rw [d1, Rat.den_intCast])
  · rw [ent_out s c]
    exact ⟨0, Nat.two_pow_pos B, by rw [Rat.zero_mul]; rfl⟩

theorem PairOk.tbG {n b K : Nat} {P R : List (List Rat)} (o : PairOk n b P R) (n1 : 1 ≤ n) (n4 : n ≤ 4) (k0 : K ≠ 0) : ∃ N, 0 < N ∧ N < 2 ^ ((b + b) * K) ∧ ∀ w : Wd, w.length ≤ K → TB N (2 ^ ((2 + (b + b)) * K)) (prodW n P R w) := by
  obtain ⟨N, n0, hN, hP, hR⟩ := tb_of o.cP o.cR
  refine ⟨N ^ K, Nat.pow_pos n0, ?_, fun w hw i j => (tb_word_le (K := K) o.sP o.sR hP hR n1 (Nat.le_of_lt hN) hw i j).mono ?_⟩
  · rw [Nat.pow_mul]
    exact Nat.pow_lt_pow_left hN k0
  · rw [show 2 ^ ((2 + (b + b)) * K) = (4 * 2 ^ (b + b)) ^ K by rw [Nat.pow_mul, Nat.pow_add 2 2 (b + b)]]
    exact Nat.pow_le_pow_left (Nat.mul_le_mul_right _ n4) _

theorem gen_st {st u : TS} {D : Ends} {τ : L2.St} {H : Hp} (C : L2.St → Hp → Prop) (h1 : ∀ D' : Ends, (∀ τ' H', C τ' H' → D'.nx τ' H') → st D' τ H) (h2 : ∀ τ' H', C τ' H' → u D τ' H') : tSeq st u D τ H := h1 { D with nx := u D } h2
theorem gn_k {i : Nat} {v : V} {τ : L2.St} {H : Hp} {Q : L2.St → Hp → Prop} (h : Q (τ.set i (some v)) H) : gName i v τ H Q := h

theorem bl_neB {H : Hp} {i j : Bool} {Q : VK} (q : Q (.bl (decide (i ≠ j))) H) : rNe (.bl i) (.bl j) H Q := by
  refine ⟨rfl, ?_⟩
  cases i <;> cases j <;> exact q


theorem gen_e {te : TE} {τ : L2.St} {H : Hp} {Q : VK} (C : V → Hp → Prop) (h1 : ∀ Q' : VK, (∀ v G, C v G → Q' v G) → te τ H Q') (h2 : ∀ v G, C v G → Q v G) : te τ H Q := h1 Q h2
def plN (u d : Nat) : Nat := (u ^ 2 + d ^ 2) ^ 2
theorem pl_num : ∀ u : Fin 19, ∀ d : Fin 10, (cdtOk 20 (plN (if u.val ≤ 9 then 9 - u.val else u.val - 9) (d.val + 1)) (planeQ (Rat.divInt ((u.val : Int) - 9) ((d.val : Int) + 1))) && decide (isF (planeQ (Rat.divInt ((u.val : Int) - 9) ((d.val : Int) + 1))))) = true := by decide +kernel
theorem pl_frac : ∀ u : Fin 13, (cdtOk 20 (plN u.val 13) (planeQ (Rat.divInt (u.val : Int) 13)) && decide (isF (planeQ (Rat.divInt (u.val : Int) 13)))) = true := by decide +kernel
theorem planeP_ok28 : (cdtOk 20 1 planeP && decide (isF planeP)) = true := by decide +kernel
theorem pair_of28 {x : Rat} {N : Nat} (h : (cdtOk 20 N (planeQ x) && decide (isF (planeQ x))) = true) : PairOk 2 20 planeP (planeQ x) := by
  have z := planeP_ok28
  rw [Bool.and_eq_true] at h z
  exact ⟨planeP_sq, planeQ_sq x, of_decide_eq_true z.2, of_decide_eq_true h.2, cdt_of planeP_sq z.1, cdt_of (planeQ_sq x) h.1⟩
theorem pair_num {u d : Int} (hu : u.natAbs ≤ 9) (d1 : 1 ≤ d) (d2 : d ≤ 10) : PairOk 2 20 planeP (planeQ (Rat.divInt u d)) := by
  obtain ⟨k, rfl⟩ : ∃ k : Nat, u = (k : Int) - 9 := ⟨(u + 9).toNat, by omega⟩
  obtain ⟨e, rfl⟩ : ∃ e : Nat, d = (e : Int) + 1 := ⟨(d - 1).toNat, by omega⟩
  exact pair_of28 (pl_num ⟨k, by omega⟩ ⟨e, by omega⟩)
theorem pair_frac {u : Nat} (hu : u < 13) : PairOk 2 20 planeP (planeQ (Rat.divInt (u : Int) 13)) := pair_of28 (pl_frac ⟨u, hu⟩)
/-- a plane of a number that is drawn -/
def PlX (x : Rat) : Prop := PairOk 2 20 planeP (planeQ x) ∧ FoQ.SzR 100 x
theorem szr_small {u d : Int} (hu : u.natAbs ≤ 20) (d1 : 1 ≤ d) (d2 : d ≤ 20) : FoQ.SzR 100 (Rat.divInt u d) := by
  obtain ⟨k, hk⟩ : ∃ k : Int, k * d = u * 1 ∨ True := ⟨0, .inr trivial⟩
  have h := FoQ.SzR.int (i := u) (n := 10) (sz_of 21 (by omega) (by omega) (by decide)) (by decide)
  have g := FoQ.SzR.int (i := d) (n := 10) (sz_of 21 (by omega) (by omega) (by decide)) (by decide)
  have d0 : ((d : Int) : Rat) ≠ 0 := fun z => by
    have : d = 0 := by exact_mod_cast z
    omega
  rw [Rat.divInt_eq_div]
  exact (szr_div h g d0).mono (by decide)
/-- numbers of a value on such a plane -/
theorem val_cdt28 {x : Rat} {M B k K : Nat} {ps : Ps} (o : PairOk 2 20 planeP (planeQ x)) (k0 : K ≠ 0) (m0 : 0 < M) (h : AllOv M B ps) (le : Le K ps) (hM : M < 2 ^ 23) (hb : ps.length * B < 2 ^ 40) (hk : 42 * K + 40 ≤ k) : CDT k (tval 2 planeP (planeQ x) ps) := by
  obtain ⟨N, n0, hN, W⟩ := o.tbG (K := K) (by decide) (by decide) k0
  have e1 : 2 ^ ((20 + 20) * K) ≤ 2 ^ (42 * K) := Nat.pow_le_pow_right (by decide) (by omega)
  have e2 : 2 ^ ((2 + (20 + 20)) * K) ≤ 2 ^ (42 * K) := Nat.pow_le_pow_right (by decide) (by omega)
  refine ⟨M * N, Nat.mul_pos m0 n0, ?_, fun i j => ?_⟩
  · exact pow_m (a := 23) (b := 42 * K) (by omega) hM (Nat.le_of_lt (Nat.lt_of_lt_of_le hN e1))
  · by_cases c : i < 2 ∧ j < 2
    · rw [tval_ent c.1 c.2]
      obtain ⟨z, z1, z2⟩ := vent_ov W h le i j
      refine ⟨z, ?_, z2⟩
      refine Nat.lt_of_le_of_lt z1 ?_
      rw [← Nat.mul_assoc]
      exact pow_m (a := 40) (b := 42 * K) (by omega) hb e2
    · rw [ent_out (tval_sq ps) c]
      exact ⟨0, Nat.two_pow_pos _, by rw [Rat.zero_mul]; rfl⟩
theorem turn_mulC (f g : Ps) (a : Wd) : coef (turn (mul f g)) a = coef (mul (turn g) (turn f)) a := by
  unfold coef
  rw [lin_turn, lin_mul, lin_mul, lin_turn, lin_swap]
  refine lin_congr fun w _ => ?_
  rw [lin_turn]
  refine lin_congr fun v _ => ?_
  rw [List.reverse_append]
theorem turn_turnP (f : Ps) : turn (turn f) = f := by
  unfold turn
  rw [List.map_map]
  refine (List.map_congr_left fun p _ => ?_).trans (List.map_id f)
  show (p.1.reverse.reverse, p.2) = p
  rw [List.reverse_reverse]
theorem star_even (N : Nat) (f : Ps) : form N (mul (turn f) f) = form N (turn (mul (turn f) f)) := form_ext fun a => by
  rw [turn_mulC, turn_turnP]
theorem le_mul28 {N M : Nat} {f g : Ps} (h : Le N f) (k : Le M g) : Le (N + M) (mul f g) := fun p hp => by
  obtain ⟨a, ha, hp⟩ := List.mem_flatMap.mp hp
  obtain ⟨b, hb, rfl⟩ := List.mem_map.mp hp
  show (a.1 ++ b.1).length ≤ N + M
  rw [List.length_append]
  exact Nat.add_le_add (h a ha) (k b hb)
theorem turn_len28 (f : Ps) : (turn f).length = f.length := List.length_map _
/-- f* f of the drawn rows -/
theorem star_ov {ps : Ps} (h : AllOv 2520 22680 ps) : AllOv 6350400 (22680 * 22680) (mul (turn ps) ps) := h.turn.mul h
theorem star_len {ps : Ps} (l4 : ps.length ≤ 4) : (mul (turn ps) ps).length ≤ 16 := by
  rw [mul_len, turn_len28]
  exact Nat.mul_le_mul l4 l4
theorem star_s {ps : Ps} (l4 : ps.length ≤ 4) (h : AllOv 2520 22680 ps) : SmS (mul (turn ps) ps) := fun a => (coef_ov (star_ov h) a).mono (Nat.le_trans (Nat.mul_le_mul_right _ (star_len l4)) (by decide))
theorem even_up {ps : Ps} {N M : Nat} (le : Le N ps) (e : form N ps = form N (turn ps)) : form M ps = form M (turn ps) := form_ext fun a => by
  rw [← coef_form le, e, coef_form (le_turn le)]
/-- the shape fits the value -/
theorem fits_of {ps : Ps} {N : Nat} {x : Rat} (o : PairOk 2 20 planeP (planeQ x)) (le : Le N ps) (n14 : N ≤ 14) (e : form N ps = form N (turn ps)) :
    FoQ.hor (ent (planeQ x) 0 0) (trP ps) = ent (tval 2 planeP (planeQ x) ps) 0 0 + ent (tval 2 planeP (planeQ x) ps) 1 1 ∧
    FoQ.hor (ent (planeQ x) 0 0) (deP ps) = ent (tval 2 planeP (planeQ x) ps) 0 0 * ent (tval 2 planeP (planeQ x) ps) 1 1 - ent (tval 2 planeP (planeQ x) ps) 0 1 * ent (tval 2 planeP (planeQ x) ps) 1 0 := by
  have l14 : Le 14 ps := fun p hp => Nat.le_trans (le p hp) n14
  have h := shape_plane l14 (even_up le e) x
  have v : ∀ i j, vent 2 planeP (planeQ x) (form 14 ps) i j = vent 2 planeP (planeQ x) ps i j := fun i j => vent_form o.sP o.sR o.fP.2.symm o.fR.2.symm l14 i j
  rw [v, v, v, v] at h
  rw [tval_ent (by decide) (by decide), tval_ent (by decide) (by decide), tval_ent (by decide) (by decide), tval_ent (by decide) (by decide)]
  exact h
theorem star_val {x : Rat} (o : PairOk 2 20 planeP (planeQ x)) (ps : Ps) : tmul (flip (tval 2 planeP (planeQ x) ps)) (tval 2 planeP (planeQ x) ps) = tval 2 planeP (planeQ x) (mul (turn ps) ps) := by
  rw [tmul_tval o.sP o.sR, tval_turn o.sP o.sR o.fP.1 o.fR.1]
theorem trP_nil : trP [] = [] := by decide +kernel
def spNumberF : Sp := fun vs H Q _ => ∃ (b : Addr) (n : Nat) (mo : Int), vs = [.ref b, .int mo] ∧ 1 ≤ mo ∧ mo ≤ 9 ∧ BoxAt H b n ∧ n ≤ 90000 ∧ ∀ p H' (u d : Int), H p = none → FrQ H' p (Rat.divInt u d) → u.natAbs ≤ 9 → 1 ≤ d → d ≤ 10 → BoxAt H' b (n + 3) → But b H H' → Q (.ref p) H'
section
variable {P : Program} {w : World} {K : PySem.W.Frag} {mg : Str → Option Value} {base : Heap}
theorem ok_numberF (T : Tx K mg) : FnOk P w K mg base CX0 2 (He.ga K "_law_number") T.fd_number ["_law_box_here", "_law_most"] spNumberF := by
  refine T.F_number.ok sc_number (fun vs H Q E h => ?_) (fun cdv A outer s H vs Q E hr h => ?_)
  · obtain ⟨b, n, mo, rfl, _⟩ := h
    rfl
  · obtain ⟨b, n, mo, rfl, mo1, mo9, hB, hn, q⟩ := h
    refine ⟨_, (pss_cons (ps_set (i := 2) sc_number.nd rfl (.inl rfl) (pe_op op_sub (pe_call (ok_take T) (hr.mono (by decide)) (by rfl) T.g_take T.F_take.kp T.b_take .nil pass0 (pa_cons (pv 0) (pa_cons (pe_op op_add (pe_op op_mulW pe_int (pv 1)) pe_int) pa_nil))) (pv 1)))
      (pss_one (ps_ret (pe_call (ok_fracQ T) (hr.mono (by decide)) (by rfl) T.g_frac T.F_frac.kp T.b_frac .nil pass0 (pa_cons (pv 2) (pa_cons (pe_ix ix_list (pe_lst (pa_cons pe_int (pa_cons pe_int (pa_cons pe_int (pa_cons pe_int (pa_cons pe_int (pa_cons (pe_op op_add pe_int (pe_call (ok_take T) (hr.mono (by decide)) (by rfl) T.g_take T.F_take.kp T.b_take .nil pass0 (pa_cons (pv 0) (pa_cons (pe_op op_add (pv 1) pe_int) pa_nil)))) pa_nil))))))) (pe_call (ok_take T) (hr.mono (by decide)) (by rfl) T.g_take T.F_take.kp T.b_take .nil pass0 (pa_cons (pv 0) (pa_cons pe_int pa_nil))) (fun _ _ => rfl)) pa_nil)))))), ?_⟩
    refine ⟨_, rfl, _, rfl, _, _, rfl, rfl, FoM.Sz.mulok (n := 20) (m := 20) (sz_of 1000000 (by decide) (by decide) (by decide)) (sz_of 1000000 (by omega) (by omega) (by decide)), _, _, rfl, rfl, ?_⟩
    refine ⟨b, _, n, rfl, hB, by omega, by omega, sz1000 (by omega) (by omega), fun g1 H1 g10 g11 hB1 b1 => ?_⟩
    refine ⟨_, rfl, _, _, rfl, rfl, ?_⟩
    refine ⟨_, rfl, _, rfl, _, rfl, _, _, rfl, rfl, ?_⟩
    refine ⟨b, _, n + 1, rfl, hB1, by omega, by omega, sz1000 (by omega) (by omega), fun g2 H2 g20 g21 hB2 b2 => ?_⟩
    refine ⟨_, _, rfl, rfl, (by show 6 ≤ sizeLine; rw [sizeLine_eq]; decide), fun t1 nt1 => ?_⟩
    have n1 := hB2.ne nt1
    refine ⟨_, rfl, b, 6, n + 2, rfl, hB2.same (Same.upd nt1), by omega, by decide, sz1000, fun g3 H3 g30 g31 hB3 b3 => ?_⟩
    have hL := b3 _ _ upd_same n1
    obtain ⟨k3, rfl⟩ := Int.eq_ofNat_of_zero_le g30
    obtain ⟨d, dq, ed, d0, d1, d2, d3⟩ := pick10 g2 k3 (by omega) g20 (by omega)
    refine ⟨t1, _, _, _, rfl, rfl, SqL.of hL, atI_nat ed, ?_⟩
    have zd : FoM.Sz 12 d := sz_of 1002 (by omega) (by omega) (by decide)
    have bb : But b H H3 := b1.trans (b2.trans ((But.of_same (Same.upd nt1)).trans b3))
    refine ⟨g1 - mo, d, rfl, by omega, zd.mono (by decide), fun p np => ?_⟩
    have npb := hB3.ne np
    exact q p _ (g1 - mo) d (bb.free npb np) upd_same (by omega) (by omega) (by omega) (hB3.same (Same.upd np)) (bb.trans (But.of_same (Same.upd np)))

end

end Fo

set_option maxHeartbeats 4100000
namespace Fo
open PySem PySem.Spec PyProof.Rows L2
open FoWd
def spLaw (K : PySem.W.Frag) : Sp := fun vs H Q _ => ∃ (a : Addr) (ns : List Int), vs = [.ref a] ∧ SqL K H a (ns.map V.int) ∧ ns.length ≤ 63 ∧ ∀ H', Q (.bl true) H'
/-- whether the rows are their own mirror -/
abbrev Evn (m : Ps) : Prop := form 6 m = form 6 (turn m)
/-- what has been told of the shape -/
def Td (K : PySem.W.Frag) (H : Hp) (m : Ps) (v : V) : Prop := (Evn m ∧ ∃ t p0 p1, v = .ref t ∧ H t = some (.tup [.ref p0, .ref p1]) ∧ PolAt K H p0 (trP m) ∧ PolAt K H p1 (deP m)) ∨ (¬ Evn m ∧ v = .non)
theorem Td.nl {K : PySem.W.Frag} {H H' : Hp} {m : Ps} {v : V} (h : Td K H m v) (s : NLst H H') : Td K H' m v := by
  rcases h with ⟨e, t, p0, p1, rfl, ht, h0, h1⟩ | ⟨e, rfl⟩
  · exact .inl ⟨e, t, p0, p1, rfl, s _ _ ht (fun xs z => by cases z), h0.nl s, h1.nl s⟩
  · exact .inr ⟨e, rfl⟩
section
variable {P : Program} {w : World} {K : PySem.W.Frag} {mg : Str → Option Value} {base : Heap}
set_option maxHeartbeats 8000000 in
theorem ok_law (T : Tx K mg) : FnOk P w K mg base CX0 15 (He.ga K "law") T.fd_law ["_law_script"] (spLaw K) := by
  refine T.F_law.ok sc_law (fun vs H Q E h => ?_) (fun cdv A outer s H vs Q E hr h => ?_)
  · obtain ⟨a, ns, rfl, _⟩ := h
    rfl
  · obtain ⟨a, ns, rfl, hS, hlen, q⟩ := h
    refine ⟨_, (pss_cons (ps_set (i := 1) sc_law.nd rfl (.inl rfl) (pe_call (ok_box T) (hr.mono (by decide)) (by rfl) T.g_box T.F_box.kp T.b_box .nil pass0 (pa_cons (pv 0) (pa_cons pe_int pa_nil))))
      (pss_cons (ps_set (i := 2) sc_law.nd rfl (.inl rfl) (pe_call (ok_termsR T) (hr.mono (by decide)) (by rfl) T.g_terms T.F_terms.kp T.b_terms .nil pass0 (pa_cons (pv 1) (pa_cons pe_int (pa_cons pe_int pa_nil)))))
      (pss_cons (ps_set (i := 3) sc_law.nd rfl (.inl rfl) (pe_ifExp (pt_cmpR op_gt (pe_call (ok_take T) (hr.mono (by decide)) (by rfl) T.g_take T.F_take.kp T.b_take .nil pass0 (pa_cons (pv 1) (pa_cons pe_int pa_nil))) pe_int (nomark _)) (pe_call (ok_mirrored T) (hr.mono (by decide)) (by rfl) T.g_mirrored T.F_mirrored.kp T.b_mirrored .nil pass0 (pa_cons (pv 2) pa_nil)) (pv 2)))
      (pss_cons (ps_set (i := 4) sc_law.nd rfl (.inl rfl) (pe_call (ok_formulaF T) (hr.mono (by decide)) (by rfl) T.g_formula T.F_formula.kp T.b_formula .nil pass0 (pa_cons (pv 3) pa_nil)))
      (pss_cons (ps_set (i := 5) sc_law.nd rfl (.inl rfl) (pe_call (ok_formL T) (hr.mono (by decide)) (by rfl) T.g_form T.F_form.kp T.b_form .nil pass0 (pa_cons (pv 3) pa_nil)))
      (pss_cons (ps_set (i := 8) sc_law.nd rfl (.inl rfl) (pe_cmpR (FoDq.op_eqDo (Nat.lt_of_le_of_lt (Nat.le_add_right _ _) hr.units)) (pv 5) (pe_call (ok_formL T) (hr.mono (by decide)) (by rfl) T.g_form T.F_form.kp T.b_form .nil pass0 (pa_cons (pe_lc (own := [("_law_row_here", 6), ("_law_x", 7)])  rfl sc_law.nd (pi_list (pv 3)) (blkOk_by (own := [("_law_row_here", 6), ("_law_x", 7)]) (N := ["_law_script", "_law_box_here", "_law_pairs", "_law_mine", "_law_formula_here", "_law_form_here", "_law_row_here", "_law_x", "_law_even", "_law_told_here", "_law_k", "_law_first", "_law_second", "_law_t", "_law_rows"]) (sc := defScope s_law) (by decide +kernel)) (fun _ _ _ _ _ => (FoK.pg_tupK (K' := K) (n := 2) rfl (by rfl) (pgs_cons (pg_name (i := 6) sc_law.nd rfl (.inl rfl)) (pgs_cons (pg_name (i := 7) sc_law.nd rfl (.inl rfl)) pgs_nil)))) (fun _ _ _ _ _ => pts_nil) (fun _ _ _ _ _ => (pe_tup (pa_cons (FoRv.pe_revS (pv 6) (pe_un un_neg pe_int)) (pa_cons (pv 7) pa_nil))))) pa_nil)) (nomark _)))
      (pss_cons (ps_set (i := 9) sc_law.nd rfl (.inl rfl) (pe_call (ok_told T) (hr.mono (by decide)) (by rfl) T.g_shape_told T.F_shape_told.kp T.b_shape_told .nil pass0 (pa_cons (pv 4) pa_nil)))
      (pss_cons (ps_if (pt_cmpR op_ne (pe_cmpR op_notN (pv 9) pe_non (nomark _)) (pv 8) (nomark _)) (pss_one (ps_ret pe_bl)) pss_nil)
      (pss_cons (ps_for PassesOwn.never rfl (pi_range2 (by rfl) T.z_range (pa_cons pe_int (pa_cons pe_int pa_nil))) (pg_name (i := 10) sc_law.nd rfl (.inl rfl)) (pss_cons (ps_asg (pe_call (ok_planeL T) (hr.mono (by decide)) (by rfl) T.g_plane T.F_plane.kp T.b_plane .nil pass0 (pa_cons (pe_ifExp (pt_cmpR op_lt (pv 10) pe_int (nomark _)) (pe_call (ok_fracQ T) (hr.mono (by decide)) (by rfl) T.g_frac T.F_frac.kp T.b_frac .nil pass0 (pa_cons (pv 10) (pa_cons pe_int pa_nil))) (pe_call (ok_numberF T) (hr.mono (by decide)) (by rfl) T.g_number T.F_number.kp T.b_number .nil pass0 (pa_cons (pv 1) (pa_cons pe_int pa_nil)))) pa_nil)) (pg_lst (by rfl) (pgs_cons (pg_name (i := 11) sc_law.nd rfl (.inl rfl)) (pgs_cons (pg_name (i := 12) sc_law.nd rfl (.inl rfl)) pgs_nil))))
      (pss_cons (ps_set (i := 13) sc_law.nd rfl (.inl rfl) (pe_ix ix_list (pe_ix ix_list (pv 12) pe_int (fun _ _ => rfl)) pe_int (fun _ _ => rfl)))
      (pss_cons (ps_if (PW.pt (pw_and (pt_cmpR op_notN (pv 9) pe_non (nomark _)) (pw_and1 (pt_not (pt_val (pe_call (ok_fits T) (hr.mono (by decide)) (by rfl) T.g_fits T.F_fits.kp T.b_fits .nil pass0 (pa_cons (pv 9) (pa_cons (pe_call (ok_valueL T) (hr.mono (by decide)) (by rfl) T.g_value T.F_value.kp T.b_value .nil pass0 (pa_cons (pv 3) (pa_cons (pv 11) (pa_cons (pv 12) pa_nil)))) (pa_cons (pv 13) pa_nil))))))))) (pss_one (ps_ret pe_bl)) pss_nil)
      (pss_cons (ps_set (i := 14) sc_law.nd rfl (.inl rfl) (pe_call (ok_valueL T) (hr.mono (by decide)) (by rfl) T.g_value T.F_value.kp T.b_value .nil pass0 (pa_cons (pv 2) (pa_cons (pv 11) (pa_cons (pv 12) pa_nil)))))
      (pss_one (ps_if (pt_not (pt_val (pe_call (ok_fits T) (hr.mono (by decide)) (by rfl) T.g_fits T.F_fits.kp T.b_fits .nil pass0 (pa_cons (pe_call (ok_shape T) (hr.mono (by decide)) (by rfl) T.g_shape T.F_shape.kp T.b_shape .nil pass0 (pa_cons (pe_op (FoA.op_own (ok_Fmul T) (hr.mono (by decide)) T.b_Formula_mul pass0 T.biF_mul FoN.int_mul FoN.int_mulR) (pe_meth0 (pe_call (ok_formulaF T) (hr.mono (by decide)) (by rfl) T.g_formula T.F_formula.kp T.b_formula .nil pass0 (pa_cons (pv 2) pa_nil)) T.cl_F T.mF_mirror (ok_Fmirror T) (hr.mono (by decide)) T.b_Formula_mirror .nil pass0) (pe_call (ok_formulaF T) (hr.mono (by decide)) (by rfl) T.g_formula T.F_formula.kp T.b_formula .nil pass0 (pa_cons (pv 2) pa_nil))) pa_nil)) (pa_cons (pe_call (ok_ttL T) (hr.mono (by decide)) (by rfl) T.g_times_tables T.F_times_tables.kp T.b_times_tables .nil pass0 (pa_cons (pe_call (ok_flipL T) (hr.mono (by decide)) (by rfl) T.g_flipped T.F_flipped.kp T.b_flipped .nil pass0 (pa_cons (pv 14) pa_nil)) (pa_cons (pv 14) pa_nil))) (pa_cons (pv 13) pa_nil)))))) (pss_one (ps_ret pe_bl)) pss_nil)))))))
      (pss_one (ps_ret (pe_cmpR op_eq (pe_callB (FoL.call_lenO (ok_Plen T) (hr.mono (by decide)) T.b_Polynomial_len pass0 T.mP_len.at_ T.mP_len.fn) (by rfl) T.z_len PySem.boot_len (pa_cons (pe_ix ix_tup (pe_call (ok_shape T) (hr.mono (by decide)) (by rfl) T.g_shape T.F_shape.kp T.b_shape .nil pass0 (pa_cons (pe_make T.mk_F (ok_Finit T) (hr.mono (by decide)) (by rfl) T.c_Formula T.b_Formula_init .nil pass0 (pa_cons pe_dnewK pa_nil)) pa_nil)) pe_int (fun _ _ => rfl)) pa_nil)) pe_int (nomark _))))))))))))), ?_⟩
    refine ⟨_, rfl, a, ns, 0, rfl, hS, by omega, fun b H1 nb s1 hB => ?_⟩
    refine ⟨_, rfl, b, 4, 6, _, rfl, hB, by decide, by decide, by decide, fun D H2 ps nD Db hps nd le l4 ov hB2 b2 => ?_⟩
    refine gn_k ?_
    dsimp only
    -- the rows
    refine gen_s (te := tIf _ _ _) (fun v G => ∃ Dm m, v = .ref Dm ∧ Dm ≠ b ∧ LP G Dm m ∧ Mn m ∧ BoxAt G b 200 ∧ But b H2 G) (fun Q' hQ => ?_) ?_
    · refine ⟨_, rfl, b, 4, _, rfl, hB2, by decide, by decide, sz1000, fun g1 H3 g10 g11 hB3 b3 => ?_⟩
      refine ⟨_, _, rfl, rfl, _, rfl, ite2 (fun _ => ?_) (fun _ => ?_)⟩
      · refine ⟨_, rfl, D, ps, rfl, hps.cong hB2 b3 Db, le, l4, ov, fun Dm H4 nDm s4 hm => ?_⟩
        exact hQ _ _ ⟨Dm, mrr ps, rfl, hB3.ne nDm, hm, mn_mrr le l4 ov, (hB3.same s4).mono (by decide), b3.trans (But.of_same s4)⟩
      · exact ⟨_, rfl, hQ _ _ ⟨D, ps, rfl, Db, hps.cong hB2 b3 Db, mn_of nd le l4 ov, hB3.mono (by decide), b3⟩⟩
    rintro v H3 ⟨Dm, m, rfl, Dmb, hm, mn, hB3, b3⟩
    have hps := hps.cong hB2 b3 Db
    have ml := mn.l8
    refine gn_k ?_
    generalize hσ : List.set _ 3 (some (V.ref Dm)) = σ
    obtain rfl : σ = [some (.ref a), some (.ref b), some (.ref D), some (.ref Dm), none, none, none, none, none, none, none, none, none, none, none] := by rw [← hσ]; rfl
    clear hσ
    refine ⟨_, rfl, Dm, m, 6, rfl, hm, mn.nd, mn.le, by decide, by omega, mn.gr, fun f H4 nf s4 hf => ?_⟩
    refine ⟨_, rfl, Dm, m, 6, rfl, hm.same s4, mn.le, by decide, by omega, mn.gr, fun pf H5 kf npf s5 hpf hDf => ?_⟩
    -- is it its own mirror
    have s45 := s4.trans s5
    have hm5 := hm.same s45
    obtain ⟨vs, hav, hP⟩ := id hm5
    have lv := Paired.length hP
    have lt : (turn m).length = m.length := turn_len28 m
    refine ⟨_, rfl, _, rfl, Dm, rfl, ⟨_, SqL.of hav⟩, fun D2 nD2 => ?_⟩
    refine lc_list (LPI (turn m) H5 D2) (LPI.start nD2) (fun i H' _ h => SqL.of (h.1 _ _ hav)) (fun i x H6 ex h => ?_) (fun H6 h => ?_)
    · obtain ⟨p, ep, tq, r, rfl, hq, hr⟩ := paired_get hP ex
      have hq2 := h.1 _ _ hq
      have lw : p.1.length ≤ 6 := mn.le _ (List.mem_of_getElem? ep)
      refine ⟨tq, _, rfl, SqT.of hq2, rfl, _, _, rfl, _, _, rfl, rfl, rfl, ?_⟩
      refine ⟨_, rfl, 1, rfl, rfl, tx p.1, rfl, by rw [tx_size]; omega, ?_⟩
      rw [rev_tx]
      refine ⟨_, rfl, (by show 2 ≤ sizeLine; rw [sizeLine_eq]; decide), fun t nt => ?_⟩
      have st := Same.upd nt (o := .tup [.str (tx p.1.reverse), .ref r])
      exact h.next nD2 st (turn_at ep) ⟨t, r, rfl, upd_same, st _ _ (h.1 _ _ hr)⟩ (by omega)
    rw [lv, ← lt] at h
    have hT := h.done
    have s6 := h.1
    have mt : Mn (turn m) := ⟨keys_turn mn.nd, le_turn mn.le, by rw [lt]; exact ml, mn.ov.turn⟩
    refine ⟨D2, turn m, 6, rfl, hT, le_turn mn.le, by decide, by omega, mt.gr, fun pg H7 kg npg s7 hpg hDg => ?_⟩
    have s57 := s6.trans s7
    refine eq_forms (hr.mono (by decide)) (s57 _ _ hpf) hpg (hDf.nld rq_solidD (same_nld s57)) hDg ?_
    refine gn_k ?_
    generalize hσ : List.set _ 8 (some (V.bl (decide (Evn m)))) = σ
    obtain rfl : σ = [some (.ref a), some (.ref b), some (.ref D), some (.ref Dm), some (.ref f), some (.ref pf), none, none, some (.bl (decide (Evn m))), none, none, none, none, none, none] := by rw [← hσ]; rfl
    clear hσ
    have s37 := s45.trans s57
    have hf7 : FmAt K H7 f (form 6 m) := hf.at.same (s5.trans s57)
    have hps7 := hps.same s37
    have hm7 := hm.same s37
    have hB7 := hB3.same s37
    clear h hT hDg hDf hP hav hm5 hpf hpg
    -- what is told
    dsimp only
    refine gen_s (te := tCall _ _ _ _) (fun v G => Same H7 G ∧ Td K G m v) (fun Q' hQ => ?_) ?_
    · exact ⟨_, rfl, f, 6, m, rfl, hf7, mn.le, by decide, mn.s, (fun hev t H' p0 p1 nt s ht h0 h1 => hQ _ _ ⟨s, .inl ⟨hev, t, p0, p1, rfl, ht, h0, h1⟩⟩), fun hne H' s => hQ _ _ ⟨s, .inr ⟨hne, rfl⟩⟩⟩
    rintro v H8 ⟨s8, td⟩
    have hps := hps7.same s8
    have hm := hm7.same s8
    have hB8 := hB7.same s8
    clear hps7 hm7 hB7 hf7 hB3
    refine gn_k ?_
    generalize hσ : List.set _ 9 (some v) = σ
    obtain rfl : σ = [some (.ref a), some (.ref b), some (.ref D), some (.ref Dm), some (.ref f), some (.ref pf), none, none, some (.bl (decide (Evn m))), some v, none, none, none, none, none] := by rw [← hσ]; rfl
    clear hσ
    have hbl : decide ((!decide (v = V.non)) ≠ decide (Evn m)) = false := by
      rcases td with ⟨e, t, p0, p1, rfl, _⟩ | ⟨e, rfl⟩
      · rw [decide_eq_true e, decide_eq_false (show ¬ (V.ref t = V.non) from fun z => nomatch z)]
        rfl
      · rw [decide_eq_false e, decide_eq_true rfl]
        rfl
    refine ⟨_, rfl, rfl, _, rfl, bl_neB ⟨_, rfl, ?_⟩⟩
    rw [hbl]
    refine iteF ?_
    dsimp only [tNext]
    clear hbl
    -- the planes
    refine ⟨0, 14, rfl, ⟨by decide, by decide, by decide, by decide⟩, ?_⟩
    refine for_range (lo := 0) (n := 14) (fun i σ G => ∃ o10 o11 o12 o13 o14, σ = [some (.ref a), some (.ref b), some (.ref D), some (.ref Dm), some (.ref f), some (.ref pf), none, none, some (.bl (decide (Evn m))), some v, o10, o11, o12, o13, o14] ∧ BoxAt G b (200 + 3 * i) ∧ But b H8 G)
      ⟨none, none, none, none, none, rfl, hB8, fun c o e n => e⟩ ?_ ?_
    · rintro i σ G hi ⟨o10, o11, o12, o13, o14, rfl, hBG, bG⟩
      have hps := hps.cong hB8 bG Db
      have hm := hm.cong hB8 bG Dmb
      have td := td.nl (hB8.nl bG)
      rw [show (0 : Int) + (i : Nat) = (i : Nat) from Int.zero_add _]
      refine gn_k ?_
      generalize hσ : List.set _ 10 (some (V.int ((i : Nat) : Int))) = σ
      obtain rfl : σ = [some (.ref a), some (.ref b), some (.ref D), some (.ref Dm), some (.ref f), some (.ref pf), none, none, some (.bl (decide (Evn m))), some v, some (.int (i : Nat)), o11, o12, o13, o14] := by rw [← hσ]; rfl
      clear hσ
      dsimp only
      refine gen_s (te := tCall _ _ _ _) (fun u G2 => ∃ lp x, u = .ref lp ∧ PairOk 2 20 planeP (planeQ x) ∧ LR2 G2 lp planeP (planeQ x) ∧ BoxAt G2 b (200 + 3 * (i + 1)) ∧ But b G G2) (fun Q' hQ => ?_) ?_
      · refine ⟨_, rfl, _, _, rfl, rfl, _, rfl, ite2 (fun hc => ?_) (fun hc => ?_)⟩
        · have hi13 : i < 13 := by
            have := of_decide_eq_true hc
            omega
          refine ⟨_, rfl, ((i : Nat) : Int), 13, rfl, by decide, sz_of 14 (by decide) (by decide) (by decide), fun p np => ?_⟩
          have s2 := Same.upd np (o := qt (Rat.divInt ((i : Nat) : Int) 13))
          have hp : FrQ (upd G p (qt (Rat.divInt ((i : Nat) : Int) 13))) p (Rat.divInt ((i : Nat) : Int) 13) := upd_same
          generalize upd G p (qt (Rat.divInt ((i : Nat) : Int) 13)) = G1 at *
          have zx : FoQ.SzR 100 (Rat.divInt ((i : Nat) : Int) 13) := szr_small (by omega) (by decide) (by decide)
          refine ⟨p, _, rfl, hp.raw (zx.mono (by decide)), zx, fun lp G2 nlp s3 hl => ?_⟩
          exact hQ _ _ ⟨lp, _, rfl, pair_frac hi13, hl, (hBG.same (s2.trans s3)).mono (by omega), But.of_same (s2.trans s3)⟩
        · refine ⟨_, rfl, b, _, 9, rfl, by decide, by decide, hBG, by omega, fun p G1 u d np hp hu d1 d2 hB1 b1 => ?_⟩
          have zx : FoQ.SzR 100 (Rat.divInt u d) := szr_small (by omega) d1 (by omega)
          refine ⟨p, _, rfl, hp.raw (zx.mono (by decide)), zx, fun lp G2 nlp s3 hl => ?_⟩
          exact hQ _ _ ⟨lp, _, rfl, pair_num hu d1 d2, hl, (hB1.same s3).mono (by omega), b1.trans (But.of_same s3)⟩
      rintro u G2 ⟨lp, x, rfl, o, ⟨x1, y1, hl, hx1, hy1⟩, hB2', b2'⟩
      have hps := hps.cong hBG b2' Db
      have hm := hm.cong hBG b2' Dmb
      have td := td.nl (hBG.nl b2')
      have bG2 := bG.trans b2'
      refine ⟨lp, _, rfl, SqL.of hl, rfl, _, _, rfl, _, _, rfl, rfl, ?_⟩
      generalize hσ : List.set _ 12 (some (V.ref y1)) = σ
      obtain rfl : σ = [some (.ref a), some (.ref b), some (.ref D), some (.ref Dm), some (.ref f), some (.ref pf), none, none, some (.bl (decide (Evn m))), some v, some (.int (i : Nat)), some (.ref x1), some (.ref y1), o13, o14] := by rw [← hσ]; rfl
      clear hσ
      have sQ : SqN 2 (planeQ x) := o.sR
      obtain ⟨wq, qq, uq, tq, c1, c2, c3, c4, c5⟩ := hy1.item (i := 0) (j := 0) (by rw [sQ.1]; decide) (by rw [sQ.2 0 (by decide)]; decide)
      refine ⟨_, rfl, y1, _, _, _, rfl, rfl, SqL.of c1, atI_nat (j := 0) c2, qq, _, _, _, rfl, rfl, SqL.of c3, atI_nat (j := 0) c4, ?_⟩
      refine gn_k ?_
      generalize hσ : List.set _ 13 (some (V.ref tq)) = σ
      obtain rfl : σ = [some (.ref a), some (.ref b), some (.ref D), some (.ref Dm), some (.ref f), some (.ref pf), none, none, some (.bl (decide (Evn m))), some v, some (.int (i : Nat)), some (.ref x1), some (.ref y1), some (.ref tq), o14] := by rw [← hσ]; rfl
      clear hσ
      clear c1 c2 c3 c4
      have z20 : FoQ.SzR 20 (ent (planeQ x) 0 0) := o.cR.sz 0 0
      have cm : CDT 300 (tval 2 planeP (planeQ x) m) := val_cdt28 (K := 6) o (by decide) (by decide) mn.ov mn.le (by decide) (Nat.lt_of_le_of_lt (Nat.mul_le_mul_right _ ml) (by decide)) (by decide)
      have cps : CDT 300 (tval 2 planeP (planeQ x) ps) := val_cdt28 (K := 6) o (by decide) (by decide) ov le (by decide) (Nat.lt_of_le_of_lt (Nat.mul_le_mul_right _ l4) (by decide)) (by decide)
      have leS : Le 12 (mul (turn ps) ps) := le_mul28 (le_turn le) le
      have cs : CDT 560 (tval 2 planeP (planeQ x) (mul (turn ps) ps)) := val_cdt28 (K := 12) o (by decide) (by decide) (star_ov ov) leS (by decide) (Nat.lt_of_le_of_lt (Nat.mul_le_mul_right _ (star_len l4)) (by decide)) (by decide)
      -- mine
      dsimp only
      refine gen_st (st := tIfS _ _ _) (fun τ G3 => τ = [some (.ref a), some (.ref b), some (.ref D), some (.ref Dm), some (.ref f), some (.ref pf), none, none, some (.bl (decide (Evn m))), some v, some (.int (i : Nat)), some (.ref x1), some (.ref y1), some (.ref tq), o14] ∧ Same G2 G3) (fun D' hn => ?_) ?_
      · rcases id td with ⟨e, t, p0, p1, rfl, ht, h0, h1⟩ | ⟨e, rfl⟩
        · refine ⟨_, rfl, rfl, _, rfl, ?_⟩
          rw [decide_eq_false (show ¬ (V.ref t = V.non) from fun z => nomatch z)]
          refine iteT ?_
          refine ⟨_, rfl, _, rfl, _, rfl, _, rfl, Dm, x1, y1, m, 2, 20, planeP, planeQ x, rfl, hm, hx1, hy1, o, by decide, by decide, by decide, mn.le, by omega, mn.ov.mono (by decide), fun r G4 nr s4 hr4 => ?_⟩
          obtain ⟨f0, f1⟩ := fits_of o mn.le (by decide) e
          refine ⟨_, rfl, t, r, tq, p0, p1, trP m, deP m, _, _, rfl, s4 _ _ ht, h0.same s4, h1.same s4, (trP_ok mn.s).1, (trP_ok mn.s).2, (deP_ok mn.s).1, (deP_ok mn.s).2, hr4, tval_sq m, fun i j => (cm.sz i j).mono (by decide), FrQ.same c5 s4, z20, f0, f1, fun G5 s5 => ?_⟩
          exact ⟨_, rfl, iteF (hn _ _ ⟨rfl, s4.trans s5⟩)⟩
        · refine ⟨_, rfl, rfl, _, rfl, ?_⟩
          rw [decide_eq_true rfl]
          exact iteF (iteF (hn _ _ ⟨rfl, Same.refl _⟩))
      rintro τ G3 ⟨rfl, s3⟩
      have hps := hps.same s3
      have hx1 := hx1.same s3
      have hy1 := hy1.same s3
      have c5 := FrQ.same c5 s3
      refine ⟨_, rfl, _, rfl, _, rfl, D, x1, y1, ps, 2, 20, planeP, planeQ x, rfl, hps, hx1, hy1, o, by decide, by decide, by decide, le, by omega, ov.mono (by decide), fun r G4 nr s4 hr4 => ?_⟩
      refine gn_k ?_
      generalize hσ : List.set _ 14 (some (V.ref r)) = σ
      obtain rfl : σ = [some (.ref a), some (.ref b), some (.ref D), some (.ref Dm), some (.ref f), some (.ref pf), none, none, some (.bl (decide (Evn m))), some v, some (.int (i : Nat)), some (.ref x1), some (.ref y1), some (.ref tq), some (.ref r)] := by rw [← hσ]; rfl
      clear hσ
      have hps := hps.same s4
      have c5 := FrQ.same c5 s4
      -- f* f
      have gp : Grow 1900 ps := (mn_of nd le l4 ov).gr
      have fo : AllOv 2520 90720 (form 6 ps) := ov.form.mono (Nat.le_trans (Nat.mul_le_mul_right _ l4) (by decide))
      have fl : (form 6 ps).length ≤ 13 := form_len 6 ps
      have fto : AllOv 2520 90720 (form 6 (turn (form 6 ps))) := by
        rw [form_turn le]
        exact ov.turn.form.mono (Nat.le_trans (Nat.mul_le_mul_right _ (by rw [turn_len28]; exact l4)) (by decide))
      have ftl : (form 6 (turn (form 6 ps))).length ≤ 13 := form_len 6 _
      refine ⟨_, rfl, D, ps, 6, rfl, hps, nd, le, by decide, by omega, gp, fun f1 G5 nf1 s5 hf1 => ?_⟩
      obtain ⟨dx, d1, kd1, i1, i2, i3⟩ := hf1.at
      refine ⟨f1, dx, _, rfl, i1, rfl, ?_⟩
      refine nil_k28 ?_
      refine ⟨f1, form 6 ps, 6, rfl, hf1.at, form_nodup _ _, form_le _ _, by decide, by omega, fun p hp => (fo p hp).sz1 (by decide) (by decide) (by decide), grow_of fo.turn (by decide) (by decide) (by decide) (by rw [turn_len28]; omega), fun f2 G6 nf2 s6 hf2 => ?_⟩
      have s46 := s5.trans s6
      refine ⟨_, rfl, D, ps, 6, rfl, hps.same s46, nd, le, by decide, by omega, gp, fun f3 G7 nf3 s7 hf3 => ?_⟩
      have two : FmTwo K G7 f2 f3 (form 6 (turn (form 6 ps))) (form 6 ps) := FmTwo.of hf2.at s7 hf3
      have s47 := s46.trans s7
      obtain ⟨dx, d, kf, dy, u, kg, n, e1, e2, e3, g1, g2, g3⟩ := id two
      have lM : (mul (form 6 (turn (form 6 ps))) (form 6 ps)).length ≤ 169 := by
        rw [mul_len]
        exact Nat.mul_le_mul ftl fl
      have oM : AllOv (2520 * 2520) (90720 * 90720) (mul (form 6 (turn (form 6 ps))) (form 6 ps)) := fto.mul fo
      refine ⟨f2, dx, _, rfl, e1, .inr ⟨f3, dy, _, rfl, g1⟩, f2, f3, _, _, 6, 6, rfl, two, form_le _ _, form_le _ _, by decide, by omega, by omega, by omega, fun p hp => ((fto p hp).sz (k := 60) (by decide) (by decide) (by decide)).mono (by decide), fun p hp => ((fo p hp).sz (k := 60) (by decide) (by decide) (by decide)).mono (by decide), (growT_of (t := []) (C := 0) (fun p hp => nomatch hp) oM (by decide) (by decide) (by decide) (by decide) (by omega)).2, growA_of (t := []) (C := 0) List.nodup_nil (fun p hp => nomatch hp) oM (by decide) (by decide) (by decide) (by decide) (by omega) (by decide), fun f4 G8 nf4 s8' hf4 => ?_⟩
      have eF : form (6 + 6) (mul (form 6 (turn (form 6 ps))) (form 6 ps)) = form 12 (mul (turn ps) ps) := by
        rw [form_turn le, form_mul (le_turn le) le]
      rw [eF] at hf4
      have s48 := s47.trans s8'
      refine ⟨f4, 12, mul (turn ps) ps, rfl, hf4.at, leS, by decide, star_s l4 ov, star_even _ _, fun t G9 p0 p1 nt s9 ht h0 h1 => ?_⟩
      have s49 := s48.trans s9
      have qV : SqN 2 (tval 2 planeP (planeQ x) ps) := tval_sq ps
      refine ⟨_, rfl, r, _, rfl, hr4.same s49, qV.sqr (by decide) (by decide), fun i j => (cps.sz i j).mono (by decide), fun r1 G10 nr1 s10 hr1 => ?_⟩
      have s410 := s49.trans s10
      have cfl := cps.flip qV
      have qF : SqN 2 (flip (tval 2 planeP (planeQ x) ps)) := by
        rw [← tval_turn o.sP o.sR o.fP.1 o.fR.1]
        exact tval_sq _
      refine ⟨_, rfl, r1, r, _, _, rfl, hr1, hr4.same s410, qF.sqr (by decide) (by decide), qV.sqr (by decide) (by decide), by rw [qF.1, qV.1], fun i j => (cfl.sz i j).mono (by decide), fun i j => (cps.sz i j).mono (by decide), cfl.dots cps qF (by decide) (by decide), fun r2 G11 nr2 s11 hr2 => ?_⟩
      rw [star_val o] at hr2
      have s411 := s410.trans s11
      have s911 := s10.trans s11
      obtain ⟨f0, f1'⟩ := fits_of o leS (by decide) (star_even 12 ps)
      refine ⟨_, rfl, t, r2, tq, p0, p1, trP (mul (turn ps) ps), deP (mul (turn ps) ps), _, _, rfl, s911 _ _ ht, h0.same s911, h1.same s911, (trP_ok (star_s l4 ov)).1, (trP_ok (star_s l4 ov)).2, (deP_ok (star_s l4 ov)).1, (deP_ok (star_s l4 ov)).2, hr2, tval_sq _, fun i j => (cs.sz i j).mono (by decide), FrQ.same c5 s411, z20, f0, f1', fun G12 s12 => ?_⟩
      refine ⟨_, rfl, iteF ?_⟩
      have sE : Same G2 G12 := s3.trans (s4.trans (s411.trans s12))
      exact ⟨_, _, _, _, _, rfl, hB2'.same sE, bG2.trans (But.of_same sE)⟩
    · rintro σ G ⟨o10, o11, o12, o13, o14, rfl, hBG, bG⟩
      refine fun p0 np0 => ?_
      have s0 := Same.upd np0 (o := .dK [])
      have e0 : upd G p0 (.dK []) p0 = some (.dK []) := upd_same
      generalize upd G p0 (.dK []) = G0 at *
      refine fm_make (ps := []) (N := 6) e0 .nil List.nodup_nil (fun p hp => nomatch hp) (by decide) (by decide) (grow_of (N := 1) (B := 0) (fun p hp => nomatch hp) (by decide) (by decide) (by decide) (by decide)) fun c0 H1 nc0 s1 hF0 => ⟨rfl, ?_⟩
      refine ⟨c0, 6, [], rfl, hF0.at, (fun p hp => nomatch hp), by decide, (fun w => Ov.zero), rfl, fun t G9 q0 q1 nt s9 ht h0 h1 => ?_⟩
      rw [trP_nil] at h0
      obtain ⟨dx, t', i1⟩ := h0.ins
      refine ⟨t, _, _, _, rfl, rfl, SqT.of ht, rfl, ?_⟩
      refine ⟨q0, dx, _, rfl, i1, q0, [], rfl, h0, 0, rfl, by decide, ?_⟩
      exact ⟨rfl, q _⟩
end

end Fo

set_option maxHeartbeats 4100000
open PySem PySem.W PySem.Calls PyProof.Rows
set_option maxHeartbeats 0 in
theorem PySem.Challenge.cw_filterorders_k28_shapes_holds : PySem.Challenge.rw_filterorders_k28_shapes.Holds := by
  w_on; o_law
  refine FoI.head_imp (r := OpenLaw.row PySem.Challenge.rw_filterorders_k28_shapes) (q := view (OpenLaw.row PySem.Challenge.rw_filterorders_k28_shapes).prog [68]) (H := Fo.hk) (ob := Fo.ob) (M := 20000) (lse := Fo.loose) (d := HandSHeadRun.topDef (OpenLaw.row PySem.Challenge.rw_filterorders_k28_shapes).prog 68) (kwq := []) Fo.ob_eq
    Fo.run (by kernel_rfl) (by kernel_rfl) (by kernel_rfl) (by rfl) (by first | assumption | decide +kernel) (by decide +kernel) ⟨rfl, rfl, rfl, rfl, rfl, by decide +kernel⟩ ?hw ?hc
  case hw => w_witness2
  case hc =>
    refine L2.walk_ofE (l := PySem.Challenge.rw_filterorders_k28_shapes) (n := 63) (k := 15) (x := "_law_script") (CX := L2.CX0) rfl (by decide) (by kernel_rfl) ⟨rfl, by decide, by decide⟩ ?F (fun _ _ _ _ z => z)
    intro w mg fa h Y G hmg0
    obtain ⟨K, KX, c⟩ := Y
    have hmg : mg ("law" : PySem.Str) = some (.ref fa) := by
      have e : (HandSHeadRun.topDef (OpenLaw.row PySem.Challenge.rw_filterorders_k28_shapes).prog 68).name = ("law" : PySem.Str) := by kernel_rfl
      rw [← e]
      exact hmg0
    obtain ⟨T⟩ := Fo.facts KX G c
    have efa := hmg.symm.trans T.g_law
    cases efa
    exact ⟨K, T.fd_law, Fo.spLaw K, KX, fun s v => FoZ.bind1 T.F_law s v, fun H a ns hl _ hS => ⟨a, ns, rfl, hS, hl, fun _ => rfl⟩, fun base _ _ => Fo.ok_law T⟩

