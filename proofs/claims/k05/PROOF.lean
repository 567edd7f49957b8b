import PyProof.Rows.All
import Wide.All
import OpenK.AllK
import Wide.FinOn
import PySem.Challenge.RW_filterorders_k05_polynomials
import KE.KStateDown
import HandS.ForMost
import HandS.Exc
import HandS.Defaults
import HandS.HeadHook1
import HandS.HeadHook2
import HandS.HeadNt
import HandS.HeadEnd
import HandS.Head2
import HandS.Property
import KE.KOpsOwn
import HandS.ExcOwn
import HandS.ExcInit
import HandS.TryOnly
import HandS.WordsExc
import HandS.MakeKw
import HandS.MakeKwOnly
import HandS.IsInst
import HandS.OwnEq
import HandS.Gcd
import HandS.Wide
import HandS.RaiseMore
import HandS.CallSlots
import PyProof.ReprRoads
import PyProof.ReprHeadsEmpty
import PyProof.InstNe
import HandS.Comp
import HandS.Iter
import HandS.Text
import KE.KMathG
import PyProof.TupleKey
import HandS.List
import HandS.Walk
import HandS.Rev
import KE.GoesEnum
import KE.GoesMore
set_option Elab.async false
set_option linter.all false
set_option maxRecDepth 100000
set_option maxHeartbeats 4100000
/-! A hook whose facts are free Bools of the written part; defs at any address. -/
namespace FoZ
open PySem PySem.Spec PyProof.Rows L2
abbrev Fr1 := PySem.W.Frag
/-- what is looked at: all of the Bools, and the defs -/
def look (bs : List (Fr1 → Bool)) (ds : List He5.DefA) (K : Fr1) : Bool × List He.FnW :=
  ((bs.all fun b => b K) && ds.all fun d => d.ok K, ds.map fun d => He5.fnA K (d.at_ K))
def want (ds : List He5.DefA) : Bool × List He.FnW := (true, ds.map He5.DefA.val)
def Told (bs : List (Fr1 → Bool)) (ds : List He5.DefA) (K : Fr1) : Prop := look bs ds K = want ds
def lookG (n : Nat) (bs : List (Fr1 → Bool)) (ds : List He5.DefA) (g : Addr → Option Obj) : Bool × List He.FnW :=
  look bs ds (He.frG g (He5.asA g n))
def hook (n : Nat) (bs : List (Fr1 → Bool)) (ds : List He5.DefA) : PySem.W.Hook where
  α := Bool × List He.FnW
  obs := fun s => lookG n bs ds s.heap.get?
  val := fun _ => want ds
  says := fun _ h => ∃ K : Fr1, K.In h ∧ Told bs ds K
  of := fun _ _ e => ⟨_, He.frG_in, e⟩
  keeps := fun _ _ _ ⟨K, hKK, c⟩ k => ⟨K, PySem.W.Frag.In.keeps hKK k, c⟩
theorem lookG_eq {n : Nat} {bs : List (Fr1 → Bool)} {ds : List He5.DefA} {g : Addr → Option Obj} {s : Shared}
    (h : ∀ a, g a = s.heap.get? a) : lookG n bs ds g = (hook n bs ds).obs s := by
  have e : g = s.heap.get? := funext h; rw [e]
  rfl
section
variable {bs : List (Fr1 → Bool)} {ds : List He5.DefA} {K : Fr1}
theorem Told.bool (c : Told bs ds K) (i : Nat) {b : Fr1 → Bool} (h : bs[i]? = some b := by rfl) : b K = true := by
  have c0 : ((bs.all fun b => b K) && ds.all fun d => d.ok K) = true := congrArg Prod.fst c
  have c1 := (Bool.and_eq_true_iff.mp c0).1
  exact List.all_eq_true.mp c1 b (List.mem_of_getElem? h)
theorem Told.defn (c : Told bs ds K) (i : Nat) {d : He5.DefA} (h : ds[i]? = some d := by rfl) :
    ∃ fd, FunD K d.name d.qual d.params d.body d.scope (d.dvs K) (d.kws K) (d.at_ K) fd := by
  have c0 : ((bs.all fun b => b K) && ds.all fun d => d.ok K) = true := congrArg Prod.fst c
  have c1 := (Bool.and_eq_true_iff.mp c0).2
  have e : ds.map (fun d => He5.fnA K (d.at_ K)) = ds.map He5.DefA.val := congrArg Prod.snd c
  have e1 : (ds.map fun d => He5.fnA K (d.at_ K))[i]? = (ds.map He5.DefA.val)[i]? := by rw [e]
  rw [List.getElem?_map, List.getElem?_map, h] at e1
  exact He5.DefA.funD (Option.some.inj e1) (List.all_eq_true.mp c1 d (List.mem_of_getElem? h))
end
/-! ### further Bools -/
/-- the getter of a property m of the class that the name x stands for -/
def pg (K : Fr1) (x m : Str) : Addr := match PySem.W.recIn K (He.ma K (He.ga K x) m) "property" with
  | some (.ref g :: _) => g
  | _ => 0
def propB (x m : Str) (K : Fr1) : Bool :=
  He.eqO (PySem.W.findIn K (.ref (He.ga K x)) m) (some (some (.ref (He.ma K (He.ga K x) m)))) &&
  (He.eqO (PySem.W.specialIn K (.ref (He.ma K (He.ga K x) m)) "__get__") (some (some (.builtin "property.__get__"))) &&
  (decide (PySem.W.takesIn K (.ref (He.ma K (He.ga K x) m)) = some true) && (match PySem.W.recIn K (He.ma K (He.ga K x) m) "property" with
    | some (.ref _ :: _) => true
    | _ => false)))
theorem prop_ok {K : Fr1} {x m : Str} (h : propB x m K = true) : PropOf K (He.ga K x) m (He.ma K (He.ga K x) m) (pg K x m) := by
  obtain ⟨h1, h⟩ := He.ba h
  obtain ⟨h2, h⟩ := He.ba h
  obtain ⟨h3, h4⟩ := He.ba h
  refine ⟨He.eqO_ok h1, He.eqO_ok h2, of_decide_eq_true h3, ?_⟩
  unfold pg
  split at h4
  · rename_i g r e
    exact ⟨r, by rw [e]⟩
  · cases h4
def impB (x : Str) (id : String) (K : Fr1) : Bool := He.eqO (PySem.W.nsIn K mainGlobals x) (some (some (.builtin id)))
theorem imp_ok {K : Fr1} {h : Heap} {mg : Str → Option Value} (X : K.In h) (G : h.Ns mainGlobals mg) {x : Str} {id : String} (c : impB x id K = true) : mg x = some (.builtin id) :=
  PySem.W.mg_of X G (He.eqO_ok c)
def binB (x m r : Str) (K : Fr1) : Bool := PySem.W.selfFirst K (He.ga K x) && (He.eqO (PySem.W.findIn K (.ref (He.ga K x)) m) (some (some (.ref (He.ma K (He.ga K x) m)))) &&
  (PySem.W.isFn K (.ref (He.ma K (He.ga K x) m)) && (He.eqO (PySem.W.findIn K (.ref (He.ga K x)) r) (some none) && decide (PySem.W.subIn K (.type "int") (.ref (He.ga K x)) = some false))))
def tyNames : List String := ["NoneType", "bool", "int", "str", "list", "tuple", "dict"]
def cmpB (x m : Str) (K : Fr1) : Bool := He.eqO (PySem.W.findIn K (.ref (He.ga K x)) m) (some (some (.ref (He.ma K (He.ga K x) m)))) &&
  (PySem.W.isFn K (.ref (He.ma K (He.ga K x) m)) && tyNames.all fun T => decide (PySem.W.subIn K (.type T) (.ref (He.ga K x)) = some false))
/-- the binding of the law's one argument -/
theorem bind1 {K : Fr1} {x qual y : Str} {st : Stmt} {f : Addr} {fd : FuncData} (F : Fun K x qual st f fd) (s : Shared) (v : Value)
    (h : ∀ (kV doc pm : Value) (an : Option Addr) (cv ct : Value), bindArgs (PySem.W.fnOf x qual (defArgs st) (defBody st) (defScope st) .none kV doc pm an cv ct) ⟨[v], []⟩ = pure [(y, v)] := by intros; rfl) : BindsTo s fd ⟨[v], []⟩ [(y, v)] := by
  obtain ⟨oc, od, kV, doc, pm, an, cv, ct, osl, rfl, lk, hcd⟩ := F.ex
  exact .of_eq (h kV doc pm an cv ct)
end FoZ

set_option maxHeartbeats 4100000
/-! Rules that the layer lacks: operators of own classes, powers and quotients of greater ints, calls by keywords alone. -/
namespace FoA
open PySem PySem.Spec PyProof.Rows L2
section
variable {X : Cx}
/-! ### numbers -/
def CPowW (i j : Int) : Prop := 0 ≤ j ∧ j ≤ 1000 ∧ i.natAbs < 2 ^ 1000
theorem bits_of {i : Int} {n : Nat} (h0 : 0 < n) (h : i.natAbs < 2 ^ n) : Builtin.Int.intBits i ≤ n := by
  have z := PySem.Flt.log2_lt_of h0 h
  unfold Builtin.Int.intBits
  split <;> omega
theorem op_powW : OpR X (binaryOp .Pow) (rI CPowW fun i j => .int (i ^ j.toNat)) := opI fun i j _ _ _ _ _ hc q => by
  obtain ⟨h1, h2, h3⟩ := hc
  refine pow_int h1 ?_ q
  have b := bits_of (by decide) h3
  have b2 : (Builtin.Int.intBits i : Int) ≤ 1000 := by omega
  have b3 : (Builtin.Int.intBits i : Int) * j ≤ 1000 * 1000 := Int.mul_le_mul b2 h2 h1 (by decide)
  exact Int.le_trans b3 (by decide)
/-- // by any divisor but 0 below 2 ^ 9000 -/
def CDivZ (_ j : Int) : Prop := j ≠ 0 ∧ j.natAbs.log2 < 9000
theorem op_fdivZ : OpR X (binaryOp .FloorDiv) (rI CDivZ fun i j => .int (i.fdiv j)) :=
  opI fun _ _ _ _ _ _ _ hc q => floordiv_int hc.1 q (.inl (PyProof.noPylong_of_log2 hc.2))
theorem divZ_of {i j : Int} {b : Nat} (h : j ≠ 0) (hb : j.natAbs < 2 ^ b) (h0 : 0 < b) (h9 : b ≤ 9000) : CDivZ i j :=
  ⟨h, Nat.lt_of_lt_of_le (PySem.Flt.log2_lt_of h0 hb) h9⟩

/-! ### what a method hands back is never NotImplemented -/
theorem back_ok {pz : List (Addr × Obj)} {τ : L2.St} {Q : VK} {u : Value} {s : Shared} (h : EP X pz τ Q u s) :
    PySem.W.CmpBack (EP X pz τ Q) u s := by
  obtain ⟨v, H, I, r, q⟩ := h
  have z : EP X pz τ Q u s := ⟨v, H, I, r, q⟩
  cases v with
  | non => cases (show u = Value.none from r); exact z
  | bl b => cases (show u = Value.bool b from r); exact z
  | int i => obtain ⟨t, e⟩ := (show ∃ t, u = Value.int i t from r); cases e; exact z
  | str x => obtain ⟨t, e⟩ := (show ∃ t, u = Value.str x t from r); cases e; exact z
  | byt b => obtain ⟨t, e⟩ := (show ∃ t, u = Value.bytes b t from r); cases e; exact z
  | flt b => obtain ⟨t, e⟩ := (show ∃ t, u = Value.float b t from r); cases e; exact z
  | ref a => cases (show u = Value.ref a from r); exact z
  | ty n => cases (show u = Value.type n from r); exact z

/-! ### a op b, a of an own class, b of the class or an int -/
/-- what the written part says of the class's method for op -/
structure BinC (K : PySem.W.Frag) (C f : Addr) (op : Operator) : Prop where
  sf : PySem.W.selfFirst K C = true
  at_ : PySem.W.findIn K (.ref C) (PySem.dunder op.info.2) = some (some (.ref f))
  (fn : PySem.W.isFn K (.ref f) = true)
  nr : PySem.W.findIn K (.ref C) (dunderR op.info.2) = some none
  ni : PySem.W.subIn K (.type "int") (.ref C) = some false
def rBin (C : Addr) (sp : Sp) (E : XK) : R2 := fun x y H Q => ∃ a dx fs, x = .ref a ∧ H a = some (.ins C dx fs) ∧
  ((∃ i, y = .int i) ∨ ∃ b dy gs, y = .ref b ∧ H b = some (.ins C dy gs)) ∧ sp [x, y] H Q E
section
variable {CX : CXT} {k : Nat} {C f : Addr} {fd : FuncData} {ps : List Str} {sp : Sp} {E : XK} {op : Operator}
theorem op_own {fo ro : Option Value} (F : FnOk X.prog X.w X.K X.mg X.base CX k f fd ps sp) (hr : Room k X.A) (hb : Binds X.K fd ps []) (hx : Passes CX X E) (B : BinC X.K C f op)
    (h1 : PySem.W.findIn X.K (.type "int") (PySem.dunder op.info.2) = some fo) (h2 : PySem.W.findIn X.K (.type "int") (dunderR op.info.2) = some ro) : OpR X (binaryOp op) (rBin C sp E) := by
  intro pz s τ H x y v u Q I rx ry h
  obtain ⟨a, dx, fs, rfl, ea, hy, q⟩ := h
  cases rx
  obtain ⟨mA, J, _⟩ := ins_get I.hok ea
  obtain ⟨od, J, _⟩ := J.look
  obtain ⟨m, hF⟩ := I.fr
  have call := run_fn (us := [.ref a, u]) (vs := [.ref a, y]) (dvs := []) F hr hb .nil hx I (.cons rfl (.cons ry .nil)) (by simpa using q)
  have back := wpAny_mono call (fun r s' z => back_ok z) fun _ _ e => e
  rcases hy with ⟨i, rfl⟩ | ⟨b, dy, gs, rfl, eb⟩
  · obtain ⟨t, rfl⟩ := ry
    exact PySem.W.ksp_binT hF I.ok.mod.kin J rfl B.sf B.at_ B.fn B.nr (.inl rfl) h1 h2 B.ni back
  · cases ry
    obtain ⟨mB, J', _⟩ := ins_get I.hok eb
    obtain ⟨od', J', _⟩ := J'.look; exact PySem.W.binop_K hF I.ok.mod.kin J J'.type B.sf B.at_ B.fn back
/-- -a, a of an own class -/
theorem un_own (F : FnOk X.prog X.w X.K X.mg X.base CX k f fd ps sp) (hr : Room k X.A) (hb : Binds X.K fd ps []) (hx : Passes CX X E)
    (h1 : PySem.W.findIn X.K (.ref C) "__neg__" = some (some (.ref f))) (h2 : PySem.W.isFn X.K (.ref f) = true) :
    UnR X (unaryOp .USub) (fun x H Q => ∃ a dx fs, x = .ref a ∧ H a = some (.ins C dx fs) ∧ sp [x] H Q E) := by
  intro pz s τ H x v Q I rx h
  obtain ⟨a, dx, fs, rfl, ea, q⟩ := h
  cases rx
  obtain ⟨mA, J, _⟩ := ins_get I.hok ea
  obtain ⟨od, J, _⟩ := J.look
  obtain ⟨m, hF⟩ := I.fr
  exact PySem.W.ksp_neg hF I.ok.mod.kin J h1 h2 (run_fn (us := [.ref a]) (vs := [.ref a]) (dvs := []) F hr hb .nil hx I (.cons rfl .nil) (by simpa using q))
/-! ### a == b, a < b, a <= b by an own method: b a plain value, a list, a tuple, a dict, an object of the class -/
inductive OthV (H : Hp) (C : Addr) : V → Prop where
  | non : OthV H C .non
  | bl (b : Bool) : OthV H C (.bl b)
  | int (i : Int) : OthV H C (.int i)
  | str (x : Str) : OthV H C (.str x)
  | lst {a : Addr} {xs : List V} (e : H a = some (.lst xs)) : OthV H C (.ref a)
  | tup {a : Addr} {xs : List V} (e : H a = some (.tup xs)) : OthV H C (.ref a)
  | dK {a : Addr} {xs : List (Key × V)} (e : H a = some (.dK xs)) : OthV H C (.ref a)
  | ins {a dx : Addr} {fs : List (Str × V)} (e : H a = some (.ins C dx fs)) : OthV H C (.ref a)
structure CmpC (K : PySem.W.Frag) (C f : Addr) (op : CmpOp) : Prop where
  at_ : PySem.W.findIn K (.ref C) (cmpInfo op).2.1 = some (some (.ref f))
  (fn : PySem.W.isFn K (.ref f) = true)
  nt : ∀ T ∈ ["NoneType", "bool", "int", "str", "list", "tuple", "dict"], PySem.W.subIn K (.type T) (.ref C) = some false
theorem CmpC.ty {K : PySem.W.Frag} {C f : Addr} {op : CmpOp} (c : CmpC K C f op) {T : String} (h : T ∈ ["NoneType", "bool", "int", "str", "list", "tuple", "dict"]) : PySem.W.notFirst K C (.type T) = true := by
  unfold PySem.W.notFirst
  rw [c.nt T h]
  exact Bool.or_eq_true_iff.mpr (.inr (beq_self_eq_true _))
def rCmp (C : Addr) (sp : Sp) (E : XK) : R2 := fun x y H Q => ∃ a dx fs, x = .ref a ∧ H a = some (.ins C dx fs) ∧ OthV H C y ∧ sp [x, y] H Q E
theorem look_type {pz : List (Addr × Obj)} {s : Shared} {τ : L2.St} {H : Hp} {a : Addr} {T : String} (o : Obj) (h : s.heap.get? a = some o) (c : o.cls = .type T) {M : Model} :
    PySem.W.Looks M s.heap (typeOf (.ref a)) (.type T) := fun A Q E s k q => wpAny_typeOf_ref (k _ _ h) (by rw [c]; exact q)
theorem op_ownC {op : CmpOp} (F : FnOk X.prog X.w X.K X.mg X.base CX k f fd ps sp) (hr : Room k X.A) (hb : Binds X.K fd ps []) (hx : Passes CX X E) (B : CmpC X.K C f op)
    (ho : ∀ v u : Value, compareOp op v u = richCompare op v u) : OpR X (compareOp op) (rCmp C sp E) := by
  intro pz s τ H x y v u Q I rx ry h
  obtain ⟨a, dx, fs, rfl, ea, hy, q⟩ := h
  cases rx
  rw [ho]
  obtain ⟨mA, J, _⟩ := ins_get I.hok ea
  obtain ⟨od, J, _⟩ := J.look
  obtain ⟨m, hF⟩ := I.fr
  have call := run_fn (us := [.ref a, u]) (vs := [.ref a, y]) (dvs := []) F hr hb .nil hx I (.cons rfl (.cons ry .nil)) (by simpa using q)
  have back := wpAny_mono call (fun r s' z => back_ok z) fun _ _ e => e
  have hu := hr.units0
  cases hy with
  | non => cases ry; exact PySem.W.cmp_K hu hF I.ok.mod.kin J (PySem.W.Looks.of_pure rfl) (B.ty (T := "NoneType") (by simp)) B.at_ B.fn back
  | bl b => cases ry; exact PySem.W.cmp_K hu hF I.ok.mod.kin J (PySem.W.Looks.of_pure rfl) (B.ty (T := "bool") (by simp)) B.at_ B.fn back
  | int i => obtain ⟨t, rfl⟩ := ry; exact PySem.W.cmp_K hu hF I.ok.mod.kin J (PySem.W.Looks.of_pure rfl) (B.ty (T := "int") (by simp)) B.at_ B.fn back
  | str z => obtain ⟨t, rfl⟩ := ry; exact PySem.W.cmp_K hu hF I.ok.mod.kin J (PySem.W.Looks.of_pure rfl) (B.ty (T := "str") (by simp)) B.at_ B.fn back
  | @lst b xs e =>
    cases ry
    obtain ⟨_, _, n, _, h1⟩ := (show ObjOk X.prog X.w H s.heap b (.lst xs) from I.hok b _ e)
    exact PySem.W.cmp_K hu hF I.ok.mod.kin J (look_type (pz := pz) (τ := τ) (H := H) _ h1 rfl) (B.ty (T := "list") (by simp)) B.at_ B.fn back
  | @tup b xs e =>
    cases ry
    obtain ⟨_, _, _, o, h1, h2, _⟩ := (show ObjOk X.prog X.w H s.heap b (.tup xs) from I.hok b _ e)
    exact PySem.W.cmp_K hu hF I.ok.mod.kin J (look_type (pz := pz) (τ := τ) (H := H) _ h1 h2) (B.ty (T := "tuple") (by simp)) B.at_ B.fn back
  | @dK b xs e =>
    cases ry
    obtain ⟨_, _, vs, _, o, es, ep, h1, h2, _⟩ := (show ObjOk X.prog X.w H s.heap b (.dK xs) from I.hok b _ e)
    exact PySem.W.cmp_K hu hF I.ok.mod.kin J (look_type (pz := pz) (τ := τ) (H := H) _ h1 h2.1) (B.ty (T := "dict") (by simp)) B.at_ B.fn back
  | @ins b dy gs e =>
    cases ry
    obtain ⟨mB, J', _⟩ := ins_get I.hok e
    obtain ⟨od', J', _⟩ := J'.look; exact PySem.W.cmp_K hu hF I.ok.mod.kin J J'.type (by simp [PySem.W.notFirst]) B.at_ B.fn back
end
end
section
variable {X : Cx}
theorem call_intI : CallR X (.type "int") (fun xs H Q => ∃ i, xs = [.int i] ∧ Q (.int i) H) := fun pz s τ H xs us Q I r h =>
  call_int1 pz s τ H xs us Q I r (.inl h)
theorem call_intB : CallR X (.type "int") (fun xs H Q => ∃ k, xs = [.bl k] ∧ Q (.int (if k then 1 else 0)) H) := fun pz s τ H xs us Q I r h =>
  call_int1 pz s τ H xs us Q I r (.inr h)
end
end FoA

set_option maxHeartbeats 4100000
namespace FoB
open PySem PySem.Spec PyProof.Rows L2 FoZ
section
variable {K : PySem.W.Frag} {x m r : Str}
theorem bin_raw {op : Operator} (h : binB x m r K = true) (hm : PySem.dunder op.info.2 = m) (hr : dunderR op.info.2 = r) : FoA.BinC K (He.ga K x) (He.ma K (He.ga K x) m) op := by
  obtain ⟨h1, h⟩ := He.ba h
  obtain ⟨h2, h⟩ := He.ba h
  obtain ⟨h3, h⟩ := He.ba h
  obtain ⟨h4, h5⟩ := He.ba h
  exact ⟨h1, by rw [hm]; exact He.eqO_ok h2, h3, by rw [hr]; exact He.eqO_ok h4, of_decide_eq_true h5⟩
theorem bin_add (h : binB x "__add__" "__radd__" K = true) : FoA.BinC K (He.ga K x) (He.ma K (He.ga K x) "__add__") .Add := bin_raw h (by kernel_rfl) (by kernel_rfl)
theorem bin_sub (h : binB x "__sub__" "__rsub__" K = true) : FoA.BinC K (He.ga K x) (He.ma K (He.ga K x) "__sub__") .Sub := bin_raw h (by kernel_rfl) (by kernel_rfl)
theorem bin_mul (h : binB x "__mul__" "__rmul__" K = true) : FoA.BinC K (He.ga K x) (He.ma K (He.ga K x) "__mul__") .Mult := bin_raw h (by kernel_rfl) (by kernel_rfl)
theorem cmp_raw {op : CmpOp} (h : cmpB x m K = true) (hm : (cmpInfo op).2.1 = m) : FoA.CmpC K (He.ga K x) (He.ma K (He.ga K x) m) op := by
  obtain ⟨h1, h⟩ := He.ba h
  obtain ⟨h2, h3⟩ := He.ba h
  exact ⟨by rw [hm]; exact He.eqO_ok h1, h2, fun T hT => of_decide_eq_true (List.all_eq_true.mp h3 T hT)⟩
theorem cmp_eq (h : cmpB x "__eq__" K = true) : FoA.CmpC K (He.ga K x) (He.ma K (He.ga K x) "__eq__") .Eq := cmp_raw h rfl
theorem cmp_lt (h : cmpB x "__lt__" K = true) : FoA.CmpC K (He.ga K x) (He.ma K (He.ga K x) "__lt__") .Lt := cmp_raw h rfl
theorem cmp_le (h : cmpB x "__le__" K = true) : FoA.CmpC K (He.ga K x) (He.ma K (He.ga K x) "__le__") .LtE := cmp_raw h rfl
end
section
variable {K : PySem.W.Frag} {x : Str}
/-! ### isinstance -/
/-- an object of x's class: what isinstance looks at; its class against int, bool, the class itself; the plain types against the class -/
def isiB (x : Str) (K : PySem.W.Frag) : Bool := He.eqO (PySem.W.findIn K (.ref (He.ga K x)) "__class__") (some (some (.builtin "object.__class__"))) &&
  (He.eqO (PySem.W.specialIn K (.builtin "object.__class__") "__get__") (some (some (.builtin "getset_descriptor.__get__"))) &&
  (decide (PySem.W.takesIn K (.builtin "object.__class__") = some true) && (decide (PySem.W.mroIn K (He.ga K x) (.type "object") = some true) &&
  (decide (PySem.W.kitOne K (.ref (He.ga K x)) (.type "int") = some false) && (decide (PySem.W.kitOne K (.ref (He.ga K x)) (.type "bool") = some false) &&
  tyNames.all fun T => decide (PySem.W.kitOne K (.type T) (.ref (He.ga K x)) = some false))))))
structure Isi (K : PySem.W.Frag) (D : Addr) : Prop where
  (ha : PySem.W.findIn K (.ref D) "__class__" = some (some (.builtin "object.__class__")))
  (hn : PySem.W.specialIn K (.builtin "object.__class__") "__get__" = some (some (.builtin "getset_descriptor.__get__")))
  (ht : PySem.W.takesIn K (.builtin "object.__class__") = some true)
  (hm : PySem.W.mroIn K D (.type "object") = some true)
  ki : PySem.W.kitOne K (.ref D) (.type "int") = some false
  kb : PySem.W.kitOne K (.ref D) (.type "bool") = some false
  kt : ∀ T ∈ tyNames, PySem.W.kitOne K (.type T) (.ref D) = some false
theorem isi_ok (h : isiB x K = true) : Isi K (He.ga K x) := by
  obtain ⟨h1, h⟩ := He.ba h
  obtain ⟨h2, h⟩ := He.ba h
  obtain ⟨h3, h⟩ := He.ba h
  obtain ⟨h4, h⟩ := He.ba h
  obtain ⟨h5, h⟩ := He.ba h
  obtain ⟨h6, h7⟩ := He.ba h
  exact ⟨He.eqO_ok h1, He.eqO_ok h2, of_decide_eq_true h3, of_decide_eq_true h4, of_decide_eq_true h5, of_decide_eq_true h6, fun T hT => of_decide_eq_true (List.all_eq_true.mp h7 T hT)⟩
theorem kit_self {K : PySem.W.Frag} {D : Addr} : PySem.W.kitOne K (.ref D) (.ref D) = some true := by
  unfold PySem.W.kitOne
  rw [if_pos (beq_self_eq_true (Value.ref D))]
/-- isinstance(e, D), e an object of D -/
theorem TyI {D a dx : Addr} {H : Hp} {fs : List (Str × V)} (i : Isi K D) (c : Cls K D) (e : H a = some (.ins D dx fs)) : TyX K H (.ref a) (.ref D) := .base (.ins e c i.ha i.hn i.ht i.hm)
/-! ### own errors -/
structure ErrC (K : PySem.W.Frag) (D : Addr) : Prop where
  ex : PySem.W.excIn K D He.veBase "ValueError.__new__" = true
  kp : PySem.W.keepIn K (.ref D) = true
  sb : PySem.W.subIn K (.ref D) (.type "BaseException") = some true
  ty : PySem.W.typeIn K (.ref D) = some (.type "type")
  me : PySem.W.exmOne K (.ref D) (.ref D) = some true
def errB (x : Str) (K : PySem.W.Frag) : Bool := (He.Fa.exc x).ok K && (He.Fa.exm x x true).ok K
theorem err_ok (h : errB x K = true) : ErrC K (He.ga K x) := by
  obtain ⟨h1, h2⟩ := He.ba h
  obtain ⟨a, b, c, d⟩ := He.exc_ok h1
  exact ⟨a, b, c, d, He.exm_ok h2⟩
/-- an error with an __init__ of its own -/
def oexB (x : Str) (f : Str) (K : PySem.W.Frag) : Bool := (match K.lookup (He.ga K x) with
    | some ⟨.type t, _, .cls cdt, slt⟩ => decide (t = "type") && ((match cdt.mro with
      | .ref D :: bm => decide (D = He.ga K x) && PySem.HandSPX.refsVE bm
      | _ => false) && (cdt.hasDict && (!cdt.hasDel && (match slt.toList with
      | [_, _, _, _, some (.builtin n), _] => decide (n = "ValueError.__new__")
      | _ => false))))
    | _ => false) &&
  (He.eqO (PySem.W.findIn K (.ref (He.ga K x)) "__setattr__") (some (some (.builtin "object.__setattr__"))) &&
  (decide (PySem.W.subIn K (.ref (He.ga K x)) (.type "BaseException") = some true) && (decide (PySem.W.typeIn K (.ref (He.ga K x)) = some (.type "type")) && (PySem.W.keepIn K (.ref (He.ga K x)) &&
  (He.eqO (PySem.W.findIn K (.ref (He.ga K x)) f) (some none) && ((He.Fa.exm x x true).ok K &&
  (He.eqO (PySem.W.findIn K (.ref (He.ga K x)) "__init__") (some (some (.ref (He.ma K (He.ga K x) "__init__")))) && (decide (PySem.W.typeIn K (.ref (He.ma K (He.ga K x) "__init__")) = some (.type "function")) &&
  (He.eqO (PySem.W.findIn K (.ref (He.ga K x)) "__getattribute__") (some (some (.builtin "BaseException.__getattribute__"))) && (He.eqO (PySem.W.findIn K (.ref (He.ga K x)) "__getattr__") (some none) && PySem.W.hasDictIn K (He.ga K x)))))))))))
structure OErr (K : PySem.W.Frag) (D fI : Addr) (f : Str) : Prop where
  ox : OexC K D
  no : PySem.W.findIn K (.ref D) f = some none
  me : PySem.W.exmOne K (.ref D) (.ref D) = some true
  iC : PySem.W.findIn K (.ref D) "__init__" = some (some (.ref fI))
  tI : PySem.W.typeIn K (.ref fI) = some (.type "function")
  ga : PySem.W.findIn K (.ref D) "__getattribute__" = some (some (.builtin "BaseException.__getattribute__"))
  gg : PySem.W.findIn K (.ref D) "__getattr__" = some none
  (hd : PySem.W.hasDictIn K D = true)
theorem oerr_ok {f : Str} (h : oexB x f K = true) : OErr K (He.ga K x) (He.ma K (He.ga K x) "__init__") f := by
  obtain ⟨h1, h⟩ := He.ba h
  obtain ⟨h2, h⟩ := He.ba h
  obtain ⟨h3, h⟩ := He.ba h
  obtain ⟨h4, h⟩ := He.ba h
  obtain ⟨h5, h⟩ := He.ba h
  obtain ⟨h6, h⟩ := He.ba h
  obtain ⟨h7, h⟩ := He.ba h
  obtain ⟨h8, h⟩ := He.ba h
  obtain ⟨h9, h⟩ := He.ba h
  obtain ⟨h10, h⟩ := He.ba h
  obtain ⟨h11, h12⟩ := He.ba h
  refine ⟨⟨?_, He.eqO_ok h2, of_decide_eq_true h3, of_decide_eq_true h4, h5⟩, He.eqO_ok h6, He.exm_ok h7, He.eqO_ok h8, of_decide_eq_true h9, He.eqO_ok h10, He.eqO_ok h11, h12⟩
  generalize He.ga K x = D at h1
  split at h1
  · rename_i t dd cdt slt lk
    obtain ⟨g1, g⟩ := He.ba h1
    obtain ⟨g2, g⟩ := He.ba g
    obtain ⟨g3, g⟩ := He.ba g
    obtain ⟨g4, g5⟩ := He.ba g
    have e1 : t = "type" := of_decide_eq_true g1
    subst e1
    split at g2
    · rename_i C' bm hm
      obtain ⟨q1, q2⟩ := He.ba g2
      have e2 : C' = D := of_decide_eq_true q1
      subst e2
      split at g5
      · rename_i k0 k1 k2 k3 n k5 hs
        have e3 : n = "ValueError.__new__" := of_decide_eq_true g5
        subst e3
        obtain ⟨nm, bs, mro, ns, qn, hd, sn, sub, ab, col, del⟩ := cdt
        dsimp only at hm g3 g4
        subst hm g3
        have e4 : del = false := by
          cases del
          · rfl
          · cases g4
        subst e4
        have hsl : slt = #[k0, k1, k2, k3, some (.builtin "ValueError.__new__"), k5] := by
          obtain ⟨l⟩ := slt
          simp only at hs
          rw [hs]
        subst hsl
        exact ⟨nm, qn, ns, bs, bm, sn, sub, ab, col, dd, k0, k1, k2, k3, k5, lk, q2⟩
      · cases g5
    · cases g2
  · cases h1
end
section
variable {X : Cx} {D : Addr}
/-- X() -/
theorem pmk_own0 {x : Str} {p pos : Pos} (e : ErrC X.K D) (gC : X.mg x = some (.ref D)) (hg : Gl X x) (hdq : (x == ("__debug__" : Str)) = false := by decide) :
    L2.PMk X (.Call (.Name x p) [] [] pos) (fun _ H Q => Q (.ref D) none H) := by
  intro pz s τ H Q I h
  refine wpAny_Call_Name_kw (ld_glob I hg gC ?_ hdq)
  refine PySem.W.callWith_K0 I.kIn e.kp ?_
  show wpAny _ _ (call (.ref D) []) _ _ _
  obtain ⟨bm, N, nm, qn, bs, hdct, sn, sub, ab, col, dd, k0, k1, k2, k3, k5, mN, hC, hN, hni, T⟩ := exc_obj I.kIn e.ex
  refine wpAny_call_exc_subT PySem.F.excBase_ValueError T hC hN hni (fun h' e' hm => ?_) (Nat.zero_le _)
  exact mk_of I hm (raises_own e.sb e.ty) h (I.hok.gone hm.new)
end
end FoB

/-! Fractions in lowest terms, sizes of whole numbers. Plain mathematics. -/
namespace FoM
/-! ### sizes -/
def Sz (n : Nat) (i : Int) : Prop := i.natAbs < 2 ^ n
theorem Sz.mono {n m : Nat} {i : Int} (h : Sz n i) (l : n ≤ m) : Sz m i := Nat.lt_of_lt_of_le h (Nat.pow_le_pow_right (by decide) l)
theorem Sz.mul {n m : Nat} {i j : Int} (h : Sz n i) (g : Sz m j) : Sz (n + m) (i * j) := by
  unfold Sz
  rw [Nat.pow_add 2, Int.natAbs_mul]
  exact Nat.mul_lt_mul'' h g
theorem Sz.add {n : Nat} {i j : Int} (h : Sz n i) (g : Sz n j) : Sz (n + 1) (i + j) := by
  unfold Sz at *
  have e : 2 ^ (n + 1) = 2 ^ n + 2 ^ n := by rw [Nat.pow_succ]; omega
  omega
theorem Sz.sub {n : Nat} {i j : Int} (h : Sz n i) (g : Sz n j) : Sz (n + 1) (i - j) := by
  unfold Sz at *
  have e : 2 ^ (n + 1) = 2 ^ n + 2 ^ n := by rw [Nat.pow_succ]; omega
  omega
theorem Sz.neg {n : Nat} {i : Int} (h : Sz n i) : Sz n (-i) := by
  unfold Sz at *
  omega
theorem Sz.le {n : Nat} {i j : Int} (h : Sz n j) (l : i.natAbs ≤ j.natAbs) : Sz n i := Nat.lt_of_le_of_lt l h
theorem Sz.mulok {n m : Nat} {i j : Int} (h : Sz n i) (g : Sz m j) (h0 : 0 < n := by decide) (g0 : 0 < m := by decide) (l : n + m ≤ 1000000 := by decide) : L2.CMulW i j :=
  L2.wide_mul h g h0 g0 l
/-! ### the greatest common divisor, with the sign of the lower number -/
def gc (u d : Int) : Int := if d < 0 then -((Nat.gcd u.natAbs d.natAbs : Nat) : Int) else ((Nat.gcd u.natAbs d.natAbs : Nat) : Int)
def frN (u d : Int) : Int := u.fdiv (gc u d)
def frD (u d : Int) : Int := d.fdiv (gc u d)
theorem gc_abs (u d : Int) : (gc u d).natAbs = Nat.gcd u.natAbs d.natAbs := by
  unfold gc
  split <;> omega
theorem gc_ne {u d : Int} (h : d ≠ 0) : gc u d ≠ 0 := by
  intro e
  have z := gc_abs u d
  rw [e] at z
  have p : 0 < Nat.gcd u.natAbs d.natAbs := Nat.gcd_pos_of_pos_right _ (by omega)
  omega
theorem gc_le {u d : Int} (h : d ≠ 0) : (gc u d).natAbs ≤ d.natAbs := by
  rw [gc_abs]
  exact Nat.le_of_dvd (by omega) (Nat.gcd_dvd_right _ _)
theorem gc_dvd_l (u d : Int) : gc u d ∣ u := by
  rw [← Int.natAbs_dvd_natAbs, gc_abs]
  exact Nat.gcd_dvd_left _ _
theorem gc_dvd_r (u d : Int) : gc u d ∣ d := by
  rw [← Int.natAbs_dvd_natAbs, gc_abs]
  exact Nat.gcd_dvd_right _ _
theorem frN_mul {u d : Int} : frN u d * gc u d = u := Int.fdiv_mul_cancel (gc_dvd_l u d)
theorem frD_mul {u d : Int} : frD u d * gc u d = d := Int.fdiv_mul_cancel (gc_dvd_r u d)
theorem frD_ne {u d : Int} (h : d ≠ 0) : frD u d ≠ 0 := fun e => h (by rw [← frD_mul (u := u) (d := d), e, Int.zero_mul])
theorem gc_sign {u d : Int} (h : d ≠ 0) : (d < 0 ∧ gc u d < 0) ∨ (0 < d ∧ 0 < gc u d) := by
  have p : 0 < Nat.gcd u.natAbs d.natAbs := Nat.gcd_pos_of_pos_right _ (by omega)
  by_cases hd : d < 0
  · refine .inl ⟨hd, ?_⟩
    unfold gc
    rw [if_pos hd]
    omega
  · refine .inr ⟨by omega, ?_⟩
    unfold gc
    rw [if_neg hd]
    omega
theorem frD_pos {u d : Int} (h : d ≠ 0) : 0 < frD u d := by
  have e := frD_mul (u := u) (d := d)
  rcases gc_sign (u := u) h with ⟨a, b⟩ | ⟨a, b⟩
  · by_cases z : 0 < frD u d
    · exact z
    · have : 0 ≤ frD u d * gc u d := Int.mul_nonneg_of_nonpos_of_nonpos (by omega) (by omega)
      omega
  · by_cases z : 0 < frD u d
    · exact z
    · have : frD u d * gc u d ≤ 0 := Int.mul_nonpos_of_nonpos_of_nonneg (by omega) (by omega)
      omega
theorem fr_cop {u d : Int} (h : d ≠ 0) : Nat.gcd (frN u d).natAbs (frD u d).natAbs = 1 := by
  have e1 := congrArg Int.natAbs (frN_mul (u := u) (d := d))
  have e2 := congrArg Int.natAbs (frD_mul (u := u) (d := d))
  rw [Int.natAbs_mul, gc_abs] at e1 e2
  have p : 0 < Nat.gcd u.natAbs d.natAbs := Nat.gcd_pos_of_pos_right _ (by omega)
  have q : Nat.gcd ((frN u d).natAbs * Nat.gcd u.natAbs d.natAbs) ((frD u d).natAbs * Nat.gcd u.natAbs d.natAbs) = Nat.gcd u.natAbs d.natAbs := by rw [e1, e2]
  rw [Nat.gcd_mul_right] at q
  exact Nat.eq_of_mul_eq_mul_right p (by rw [Nat.one_mul]; exact q)
theorem frN_le {u d : Int} (h : d ≠ 0) : (frN u d).natAbs ≤ u.natAbs := by
  have e1 := congrArg Int.natAbs (frN_mul (u := u) (d := d))
  rw [Int.natAbs_mul, gc_abs] at e1
  have p : 0 < Nat.gcd u.natAbs d.natAbs := Nat.gcd_pos_of_pos_right _ (by omega)
  calc (frN u d).natAbs = (frN u d).natAbs * 1 := (Nat.mul_one _).symm
    _ ≤ (frN u d).natAbs * Nat.gcd u.natAbs d.natAbs := Nat.mul_le_mul_left _ p
    _ = u.natAbs := e1
theorem frD_le {u d : Int} (h : d ≠ 0) : (frD u d).natAbs ≤ d.natAbs := by
  have e1 := congrArg Int.natAbs (frD_mul (u := u) (d := d))
  rw [Int.natAbs_mul, gc_abs] at e1
  have p : 0 < Nat.gcd u.natAbs d.natAbs := Nat.gcd_pos_of_pos_right _ (by omega)
  calc (frD u d).natAbs = (frD u d).natAbs * 1 := (Nat.mul_one _).symm
    _ ≤ (frD u d).natAbs * Nat.gcd u.natAbs d.natAbs := Nat.mul_le_mul_left _ p
    _ = d.natAbs := e1
/-- the same fraction -/
theorem fr_cross {u d : Int} : frN u d * d = u * frD u d := by
  have e1 := frN_mul (u := u) (d := d)
  have e2 := frD_mul (u := u) (d := d)
  calc frN u d * d = frN u d * (frD u d * gc u d) := by rw [e2]
    _ = (frN u d * gc u d) * frD u d := by rw [Int.mul_comm (frD u d), Int.mul_assoc]
    _ = u * frD u d := by rw [e1]
/-- lowest terms are unique -/
theorem low_uniq {a b c e : Int} (hb : 0 < b) (he : 0 < e) (g1 : Nat.gcd a.natAbs b.natAbs = 1) (g2 : Nat.gcd c.natAbs e.natAbs = 1) (h : a * e = c * b) : a = c ∧ b = e := by
  have hn : a.natAbs * e.natAbs = c.natAbs * b.natAbs := by rw [← Int.natAbs_mul, ← Int.natAbs_mul, h]
  have d1 : b.natAbs ∣ e.natAbs := by
    have : b.natAbs ∣ a.natAbs * e.natAbs := ⟨c.natAbs, by rw [hn, Nat.mul_comm]⟩
    exact Nat.Coprime.dvd_of_dvd_mul_left (by rw [Nat.coprime_comm]; exact g1) this
  have d2 : e.natAbs ∣ b.natAbs := by
    have : e.natAbs ∣ c.natAbs * b.natAbs := ⟨a.natAbs, by rw [← hn, Nat.mul_comm]⟩
    exact Nat.Coprime.dvd_of_dvd_mul_left (by rw [Nat.coprime_comm]; exact g2) this
  have eb : b.natAbs = e.natAbs := Nat.dvd_antisymm d1 d2
  have eb' : b = e := by omega
  subst eb'
  refine ⟨?_, rfl⟩
  exact Int.eq_of_mul_eq_mul_right (by omega) h
theorem fr_eq {u d u' d' : Int} (h : d ≠ 0) (h' : d' ≠ 0) (e : u * d' = u' * d) : frN u d = frN u' d' ∧ frD u d = frD u' d' := by
  refine low_uniq (frD_pos h) (frD_pos h') (fr_cop h) (fr_cop h') ?_
  have c1 := fr_cross (u := u) (d := d)
  have c2 := fr_cross (u := u') (d := d')
  have hz : d * d' ≠ 0 := Int.mul_ne_zero h h'
  refine Int.eq_of_mul_eq_mul_right hz ?_
  calc frN u d * frD u' d' * (d * d') = (frN u d * d) * (frD u' d' * d') := by
        rw [Int.mul_assoc, Int.mul_assoc, ← Int.mul_assoc (frD u' d') d d', Int.mul_comm (frD u' d') d, Int.mul_assoc]
    _ = (u * frD u d) * (frD u' d' * d') := by rw [c1]
    _ = (u * d') * (frD u d * frD u' d') := by
        rw [Int.mul_assoc, Int.mul_assoc, Int.mul_comm (frD u' d') d', ← Int.mul_assoc (frD u d), Int.mul_comm (frD u d) d', Int.mul_assoc]
    _ = (u' * d) * (frD u d * frD u' d') := by rw [e]
    _ = (u' * frD u' d') * (frD u d * d) := by
        rw [Int.mul_assoc, Int.mul_assoc, Int.mul_comm (frD u d) (frD u' d'), ← Int.mul_assoc d, Int.mul_comm d, Int.mul_assoc (frD u' d'), Int.mul_comm d]
    _ = (frN u' d' * d') * (frD u d * d) := by rw [c2]
    _ = frN u' d' * frD u d * (d * d') := by
        rw [Int.mul_assoc, Int.mul_assoc, ← Int.mul_assoc d', Int.mul_comm d' (frD u d), Int.mul_assoc, Int.mul_comm d' d]
theorem fr_low {a b : Int} (hb : 0 < b) (g : Nat.gcd a.natAbs b.natAbs = 1) : frN a b = a ∧ frD a b = b := by
  have e : gc a b = 1 := by
    unfold gc
    rw [if_neg (by omega), g]
    rfl
  unfold frN frD
  rw [e]
  exact ⟨Int.fdiv_one a, Int.fdiv_one b⟩
theorem fr_one (a : Int) : frN a 1 = a ∧ frD a 1 = 1 := fr_low (by decide) (by simp)
/-- the sign of the upper number of a fraction with a lower number above 0 -/
theorem frN_sign {u d : Int} (h : 0 < d) : (0 < frN u d ↔ 0 < u) ∧ (frN u d < 0 ↔ u < 0) := by
  have c := fr_cross (u := u) (d := d)
  have p := frD_pos (u := u) (d := d) (by omega)
  refine ⟨⟨fun z => ?_, fun z => ?_⟩, ⟨fun z => ?_, fun z => ?_⟩⟩
  · have q : 0 < u * frD u d := by rw [← c]; exact Int.mul_pos z h
    exact Int.pos_of_mul_pos_left q p
  · have q : 0 < frN u d * d := by rw [c]; exact Int.mul_pos z p
    exact Int.pos_of_mul_pos_left q h
  · have q : u * frD u d < 0 := by rw [← c]; exact Int.mul_neg_of_neg_of_pos z h
    exact Int.neg_of_mul_neg_left q p
  · have q : frN u d * d < 0 := by rw [c]; exact Int.mul_neg_of_neg_of_pos z p
    exact Int.neg_of_mul_neg_left q h
end FoM

set_option maxHeartbeats 4100000
/-! The head of a program that begins with imports: the opening and the top by one kernel run each. -/
noncomputable section
namespace FoI
open PySem PySem.W PySem.Calls PyProof.Rows HandSHeadRun
/-- the state behind the opening, its heap as a tree -/
def treeOf (s : Shared) (r : PySem.W.BT × Nat) : SharedT := ⟨r.1, r.2, s.heap.life, s.gens, s.drawn, s.toks, s.os⟩
theorem treeOf_abs {s : Shared} {t : PySem.W.BT} {n : Nat} (e : putAll s.heap.objs.toList .nil 0 = some (t, n)) : (treeOf s (t, n)).abs = s := by
  have h := putAll_heap e
  show (⟨absHeap t n s.heap.life, s.gens, s.drawn, s.toks, s.os⟩ : Shared) = s
  rw [h]
def endS (st : SharedT → Thread → Option (SharedT × Thread)) (M : Nat) (p : Program) (s0 : Shared) : Option SharedT := match putAll s0.heap.objs.toList .nil 0 with
  | some (t, n) => frNat n fun n0 => goF st n0 (s0.heap.nsMap mainGlobals "__annotations__") M (treeOf s0 (t, n0)) (topStub p)
  | none => none
theorem endS_ok {M : Nat} {p : Program} {w : World} {s0 : Shared} {s : SharedT} (h : endS (stepT (denote treeTable) p w) M p s0 = some s) :
    topRun treeTable p w s0.heap.objs.size (s0.heap.nsMap mainGlobals "__annotations__") M s0 (topStub p) = some s.abs := by
  unfold endS at h
  cases e : putAll s0.heap.objs.toList .nil 0 with
  | none =>
    rw [e] at h
    cases h
  | some r =>
    obtain ⟨t, n⟩ := r
    rw [e] at h
    have h1 : (frNat n fun n0 => goF (stepT (denote treeTable) p w) n0 (s0.heap.nsMap mainGlobals "__annotations__") M (treeOf s0 (t, n0)) (topStub p)) = some s := h
    rw [frNat_eq] at h1
    have q := goF_ok h1
    have en : s0.heap.objs.size = n := by
      have eh := putAll_heap e
      have z : (absHeap t n s0.heap.life).objs.size = s0.heap.objs.size := by rw [eh]
      rw [← z]
      exact absHeap_size t n _
    rw [treeOf_abs e] at q
    rw [en]
    exact q
/-- the whole run, from nothing -/
def endI (tb : String → Option Builtin) (st : SharedT → Thread → Option (SharedT × Thread)) (M : Nat) (p : Program) (w : World) : Option (Shared × SharedT) :=
  match fencedOpening tb p w M with
  | some s0 => match endS st M p s0 with
    | some s => some (s0, s)
    | none => none
  | none => none
def looksI (p : Program) (s0 : Shared) (s : Shared) : Bool := (s0.heap.isNs mainGlobals && s0.gens.size == 0) && (staticsOk (importedModules p.main.body) s0.heap s.heap && namesBound p s.heap && gensDone s && laidKept s0.heap s.heap)
theorem left_imp {p q : Program} {lse : List PySem.Str} {Xt : Shared → Bool} {α : Type} {Yf : Shared → α} {Ya : World → α} {M : Nat}
    (run : ∀ w : World, (endI treeTable (stepT (denote treeTable) p w) M p w).map (fun s => (looksI p s.1 s.2.abs, openSeen q lse (importedModules p.main.body) Xt true s.2.abs, Yf s.2.abs)) = some (true, openGood q lse, Ya w)) :
    LeftO p q lse Xt Yf Ya M true := fun w => by
  obtain ⟨⟨s0, s⟩, hs, hv⟩ := Option.map_eq_some_iff.mp (run w)
  obtain ⟨m1, m2, m3⟩ : _ ∧ _ ∧ _ := by simpa only [Prod.mk.injEq] using hv
  unfold endI at hs
  cases e0 : fencedOpening treeTable p w M with
  | none =>
    rw [e0] at hs
    cases hs
  | some z =>
    rw [e0] at hs
    dsimp only at hs
    cases e1 : endS (stepT (denote treeTable) p w) M p z with
    | none =>
      rw [e1] at hs
      cases hs
    | some y =>
      rw [e1] at hs
      dsimp only at hs
      obtain ⟨rfl, rfl⟩ : z = s0 ∧ y = s := by
        have := Option.some.inj hs
        exact Prod.mk.inj this
      obtain ⟨a, b⟩ := Bool.and_eq_true_iff.mp m1
      have r := endS_ok e1
      have t : topFrom treeTable p w M z = some y.abs := by
        unfold topFrom
        rw [a]
        show (topRun treeTable p w z.heap.objs.size (z.heap.nsMap mainGlobals "__annotations__") M z (topStub p)).bind _ = _
        rw [r]
        show (match staticsOk (importedModules p.main.body) z.heap y.abs.heap && namesBound p y.abs.heap && gensDone y.abs && laidKept z.heap y.abs.heap with | true => some y.abs | false => none) = _
        rw [b]
      unfold openEnds
      rw [e0]
      show (topFrom treeTable p w M z).map _ = _
      rw [t]
      exact congrArg some (Prod.ext m2 m3)
/-- the run's equation at a world, by the library's twins -/
def RunI (r : OpenRow) (q : Program) (H : Hook) (ob : SharedT → H.α) (M : Nat) (lse : List PySem.Str) (w : World) : Prop :=
  (endI tabQ (stepQ (denQ tabQ) r.prog w) M r.prog w).map (fun s => (looksI r.prog s.1 s.2.abs, seenQ q lse (importedModules r.prog.main.body) (fun s => xlAt q [] s && recOk r.toRowW.records s) s.2.abs, ob s.2)) = some (true, openGood q lse, H.val w)
theorem head_imp {r : OpenRow} {q : Program} {H : Hook} {ob : SharedT → H.α} {M : Nat} {lse : List PySem.Str} {d : DefRec} {kwq : List (PySem.Str × PySem.Expr)} (ho : ∀ s : SharedT, ob s = H.obs s.abs)
    (run : ∀ w, RunI r q H ob M lse w)
    (hdef : defOf q r.name = some (d, kwq)) (hp : r.prog.theDef r.name = some (d.params, d.body, d.scope)) (hk : kwWritten? d.params.kwonlyargs d.params.kw_defaults = some kwq) (hwr : (!r.writes || r.records.isEmpty) = true)
    (k1 : r.wellSaid = true)
      (ok : (chainsOk q && opensWell r.prog && (frees r.toRowW && r.within.isEmpty)) = true) (hb : r.prog.bare) (hw : r.toRowW.promised)
    (call : WalkO q lse (XL q []) H.says r.toRowW d kwq fun f vs => PySem.call f vs) : r.Holds := by
  have lft : LeftO r.prog q lse (fun s => xlAt q [] s && recOk r.toRowW.records s) H.obs H.val M true :=
    left_imp fun w => by
      have z := run w
      have eob : ob = fun s => H.obs s.abs := funext ho
      unfold RunI at z
      rw [eob] at z
      have e2 : endI treeTable (stepT (denote treeTable) r.prog w) M r.prog w = endI tabQ (stepQ (denQ tabQ) r.prog w) M r.prog w := by
        rw [tabQ_eq, stepQ_eq, denQ_eq]
      rw [e2]
      simp only [seenQ_eq]
      exact z
  exact holds_open (r := r) (q := q) (loose := lse) (XP := XL q []) (YP := H.says) (d := d) (kwd := kwq) lft H.of H.keeps (fun s z => xl_of s (Bool.and_eq_true_iff.mp z).1) XL.keeps hdef hp hk (fun s z => recFacts_of (Bool.and_eq_true_iff.mp z).2) hwr k1 ok hb hw call
end FoI

set_option maxHeartbeats 4100000
/-! Calls by keywords alone; calls whose exceptions are wished for at the caller's slots. -/
namespace FoC
open PySem PySem.Spec PyProof.Rows L2
section
variable {X : Cx} {CX : CXT} {k n : Nat} {f C : Addr} {fd : FuncData} {ps ks : List Str} {sp : Sp} {E : XK} {x m : Str} {p pos apos : Pos} {e o : Expr} {es : List Expr} {kws : List Keyword} {t tk : TA} {ta te : TE} {g : List Value → List Value → List Value} {gV : List V → List V → List V}
/-- f(k = v, ..) -/
theorem pe_callN0 (F : FnOk X.prog X.w X.K X.mg X.base CX k f fd ps sp) (hr : Room k X.A) (hg : Gl X x) (hg2 : X.mg x = some (.ref f)) (hk : PySem.W.keepIn X.K (.ref f) = true) (hb : KBn X.K fd ps 0 ks g gV) (hx : Passes CX X E)
    (hkw : PK X kws tk) (hall : (backToKw pos (keywordEach kws X.env)).all (·.1.isSome) = true := by rfl) (hks : (backToKw pos (keywordEach kws X.env)).filterMap (·.1) = ks := by rfl)
    (hdq : (x == ("__debug__" : Str)) = false := by decide) (hpq : ((backTo pos (starEach [] X.env)).any (·.1) || (backToKw pos (keywordEach kws X.env)).any (·.1.isNone)) = false := by rfl) :
    PE X (.Call (.Name x p) [] kws pos) (tCallN 0 ks.length sp gV E tNil tk) := by
  refine ⟨fun pz s τ H Q I h => ?_⟩
  refine wpAny_Call_Name_kw (ld_glob I hg hg2 ?_ hdq)
  refine PySem.W.callWith_KW0 (h₀ := X.base) I.ok.mod.kin hk hall ?_ hpq
  refine thn (hkw.run pos pz s τ H _ I h) fun ws s2 ⟨zz, H2, J2, rk, l1, l2, q2⟩ => ⟨J2.kIn, ?_⟩
  rw [hks]
  exact run_fnN (us := []) (vs := []) F hr hb hx J2 .nil rk l1 l2 q2
/-- o.m(k = v, ..) -/
def tMethN (C : Addr) (m : Str) (nk : Nat) (sp : Sp) (gV : List V → List V → List V) (E : XK) (ta : TE) (tk : TA) : TE := fun τ H Q => ta τ H fun x H1 => ∃ a dx fs, x = .ref a ∧ H1 a = some (.ins C dx fs) ∧ fs.lookup m = none ∧
  tk τ H1 fun zz H2 => zz.length = nk ∧ sp (gV [x] zz) H2 Q E
theorem pe_methN0 {pl : Sem Bool} (he : PE X o ta) (c : Cls X.K C) (hg2 : Meth X.K C m f) (F : FnOk X.prog X.w X.K X.mg X.base CX k f fd ps sp) (hr : Room k X.A) (hb : KBn X.K fd ps 1 ks g gV) (hx : Passes CX X E) (hkw : PK X kws tk)
    (hall : (backToKw pos (keywordEach kws X.env)).all (·.1.isSome) = true := by rfl) (hks : (backToKw pos (keywordEach kws X.env)).filterMap (·.1) = ks := by rfl)
    (hpq : ((backTo pos (starEach [] X.env)).any (·.1) || (backToKw pos (keywordEach kws X.env)).any (·.1.isNone)) = false := by rfl)
    (ht : eval (.Call (.Attribute o m apos) [] kws pos) X.env = (do
      let ov ← eval o X.env
      standAt apos.atName
      let (f, first) ← holding [ov] (getMethod ov m pl)
      callWith pos f first (backTo pos (starEach [] X.env)) (backToKw pos (keywordEach kws X.env))) := by rfl) :
    PE X (.Call (.Attribute o m apos) [] kws pos) (tMethN C m ks.length sp gV E ta tk) := by
  refine ⟨fun pz s τ H Q I h => ?_⟩
  refine PySem.W.methodCall_KW (pl := pl) (thn (he.run pz s τ H _ I h) fun u s1 ⟨x, H1, J1, rx, a, dx, fs, ex, ea, l, q⟩ => ?_) ht
  subst ex
  obtain rfl : u = Value.ref a := rx
  refine getmeth_ok J1 ea c hg2 l ?_
  refine PySem.W.callWith_KW0 (first := [.ref a]) (h₀ := X.base) I.ok.mod.kin hg2.kp hall ?_ hpq
  refine thn (hkw.run pos pz s1 τ H1 _ J1 q) fun ws s2 ⟨zz, H2, J2, rk, l2, q2⟩ => ⟨J2.kIn, ?_⟩
  rw [hks]
  exact run_fnN (us := [.ref a]) (vs := [.ref a]) F hr hb hx J2 (.cons rfl .nil) rk rfl l2 q2
/-- how a def without defaults binds: n values and the keywords ks -/
theorem kbn {K : PySem.W.Frag} {x qual : Str} {st : Stmt} {f : Addr} {fd : FuncData} {ps ks : List Str} {n : Nat} (g : {α : Type} → List α → List α → List α) (F : Fun K x qual st f fd)
    (hrel : ∀ {vs zz : List V} {us ws : List Value}, Vals vs us → Vals zz ws → Vals (g vs zz) (g us ws))
    (h : ∀ (kV doc pm : Value) (an : Option Addr) (cv ct : Value) (us ws : List Value), us.length = n → ws.length = ks.length →
      bindArgs (PySem.W.fnOf x qual (defArgs st) (defBody st) (defScope st) .none kV doc pm an cv ct) ⟨us, ks.zip ws⟩ = pure (ps.zip (g us ws))) : KBn K fd ps n ks (fun us ws => g us ws) (fun vs zz => g vs zz) := by
  obtain ⟨oc, od, kV, doc, pm, an, cv, ct, ol, rfl, lk, hcd⟩ := F.ex
  exact ⟨fun s us ws _ l1 l2 => .of_eq (h kV doc pm an cv ct us ws l1 l2), fun r1 rr => hrel r1 rr⟩
end
section
variable {X : Cx} {CX : CXT} {k : Nat} {f C : Addr} {fd : FuncData} {ps : List Str} {sp : Sp} {dvs : List V} {ds : List Value} {E : L2.St → XK} {x m : Str} {p pos apos : Pos} {e o : Expr} {es : List Expr} {t : TA} {ta : TE}
/-- o.m(e, ..), what is raised wished for at the slots -/
def tMethS (C : Addr) (m : Str) (sp : Sp) (dvs : List V) (E : L2.St → XK) (ta : TE) (t : TA) : TE := fun τ H Q => ta τ H fun x H1 => ∃ a dx fs, x = .ref a ∧ H1 a = some (.ins C dx fs) ∧ fs.lookup m = none ∧
  t τ H1 fun vs H2 => sp (x :: (vs ++ dvs)) H2 Q (E τ)
theorem pe_methS {pl : Sem Bool} (he : PE X o ta) (c : Cls X.K C) (hg2 : Meth X.K C m f) (F : FnOk X.prog X.w X.K X.mg X.base CX k f fd ps sp) (hr : Room k X.A) (hb : Binds X.K fd ps ds) (hd : Vals dvs ds) (hx : ∀ τ, PassesAt CX X τ (E τ)) (ha : PA X (e :: es) t)
    (hst : starEach (e :: es) X.env = (false, eval e X.env) :: starEach es X.env := by rfl) (hpq : (backTo pos (starEach es X.env)).any (·.1) = false := by rfl)
    (ht : eval (.Call (.Attribute o m apos) (e :: es) [] pos) X.env = (do
      let ov ← eval o X.env
      standAt apos.atName
      let (f, first) ← holding [ov] (getMethod ov m pl)
      callWith pos f first (backTo pos (starEach (e :: es) X.env)) (backToKw pos (keywordEach [] X.env))) := by rfl) :
    PE X (.Call (.Attribute o m apos) (e :: es) [] pos) (tMethS C m sp dvs E ta t) := by
  refine ⟨fun pz s τ H Q I h => ?_⟩
  refine PySem.W.methodCall_KW (pl := pl) (thn (he.run pz s τ H _ I h) fun u s1 ⟨x, H1, J1, rx, a, dx, fs, ex, ea, l, q⟩ => ?_) ht
  subst ex
  obtain rfl : u = Value.ref a := rx
  refine getmeth_ok J1 ea c hg2 l ?_
  refine PySem.W.callWith_K (first := [.ref a]) (h₀ := X.base) I.ok.mod.kin hg2.kp (thn (ha.run pos pz s1 τ H1 _ J1 q) fun us s2 ⟨vs, H2, J2, r, q2⟩ => ⟨J2.kIn, ?_⟩) hst hpq
  exact run_fnSD (us := .ref a :: us) (vs := .ref a :: vs) F hr hb hd (hx τ) J2 (.cons rfl r) q2
/-- C(e, ..), what is raised wished for at the slots -/
def tMakeS (C : Addr) (sp : Sp) (dvs : List V) (E : L2.St → XK) (t : TA) : TE := fun τ H Q => t τ H fun vs H1 => ∀ x dx, H1 x = none → H1 dx = none → dx ≠ x →
  sp (.ref x :: (vs ++ dvs)) (upd (upd H1 dx (.own x)) x (.ins C dx [])) (fun v H2 => v = .non ∧ Q (.ref x) H2) (E τ)
theorem run_makeS {pz : List (Addr × Obj)} {τ : L2.St} {H : Hp} {s : Shared} {Q : VK} {us : List Value} {vs : List V} (M : Mk X.K C f) (F : FnOk X.prog X.w X.K X.mg X.base CX k f fd ps sp) (hr : Room (k + 1) X.A) (hb : Binds X.K fd ps ds) (hd : Vals dvs ds)
    (hx : PassesAt CX X τ (E τ)) (I : Inv X pz τ H s) (r : Vals vs us)
    (h : ∀ x dx, H x = none → H dx = none → dx ≠ x → sp (.ref x :: (vs ++ dvs)) (upd (upd H dx (.own x)) x (.ins C dx [])) (fun v H2 => v = .non ∧ Q (.ref x) H2) (E τ)) :
    wpAny (model X.prog X.w) X.A (call (.ref C) us) (EP X pz τ Q) X.xe s := by
  have hj := h (s.heap.objs.size + 1) s.heap.objs.size (I.hok.fresh (Nat.le_succ _)) (I.hok.fresh (Nat.le_refl _)) (Nat.ne_of_lt (Nat.lt_succ_self _)); have J2 := Inv.made (C := C) I
  have rr : Vals (V.ref (s.heap.objs.size + 1) :: (vs ++ dvs)) (Value.ref (s.heap.objs.size + 1) :: (us ++ ds)) := .cons rfl (r.append hd)
  have hn : (Value.ref (s.heap.objs.size + 1) :: us ++ ds).length = ps.length := by
    have e := rr.length
    rw [F.len _ _ _ _ hj] at e
    exact e.symm
  refine wpAny_call (make_map (f := f) I.kIn M.makes M.init (beq_iff_eq.mp M.fn) (codeAny_mono (F.run _ X.stack _ _ ⟨Value.ref (s.heap.objs.size + 1) :: us, []⟩ (Value.ref (s.heap.objs.size + 1) :: (us ++ ds)) _ _ (E τ) (hr.make C us [])
    (J2.env0.make C us []) (hb _ (Value.ref (s.heap.objs.size + 1) :: us) J2.kIn hn) rr hj) fun r s' hq' => ?_))
  cases r with
  | error e => exact hx pz _ _ e s' J2 hq'
  | ok fl =>
    cases fl with
    | ret u =>
      obtain ⟨v, H', I3, rv, ev, q9⟩ := J2.after hq'
      subst ev
      exact ⟨rv, ⟨V.ref (s.heap.objs.size + 1), H', I3, rfl, q9⟩⟩
    | next | brk | cont => exact False.elim hq'
theorem pe_makeS (M : Mk X.K C f) (F : FnOk X.prog X.w X.K X.mg X.base CX k f fd ps sp) (hr : Room (k + 1) X.A) (hg : Gl X x) (hg2 : X.mg x = some (.ref C)) (hb : Binds X.K fd ps ds) (hd : Vals dvs ds) (hx : ∀ τ, PassesAt CX X τ (E τ))
    (ha : PA X (e :: es) t) (hdq : (x == ("__debug__" : Str)) = false := by decide) (he : starEach (e :: es) X.env = (false, eval e X.env) :: starEach es X.env := by rfl) (hpq : (backTo pos (starEach es X.env)).any (·.1) = false := by rfl) :
    PE X (.Call (.Name x p) (e :: es) [] pos) (tMakeS C sp dvs E t) := by
  refine ⟨fun pz s τ H Q I h => ?_⟩
  refine wpAny_Call_Name_kw (ld_glob I hg hg2 ?_ hdq)
  refine PySem.W.callWith_K (h₀ := X.base) I.ok.mod.kin M.kp (thn (ha.run pos pz s τ H _ I h) fun us s1 ⟨vs, H1, J1, r, q⟩ => ⟨J1.kIn, ?_⟩) he hpq
  exact run_makeS M F hr hb hd (hx τ) J1 r q
end
/-! ### an own error's field, read where it is held -/
section
variable {X : Cx} {C fI : Addr} {f : Str}
/-- e.f, e the exception that the suite holds (at a; its class cls, its dict d) -/
def tExF (f : Str) (C : Addr) (a : Addr) (cls : Value) (d : Option Addr) (te : TE) : TE := fun τ H Q => te τ H fun x H1 => x = .ref a ∧ cls = .ref C ∧ ∃ (dd : Addr) (v : V) (fs : List (Str × V)), d = some dd ∧ H1 dd = some (.xd fs) ∧ fs.lookup f = some v ∧ Q v H1
theorem pe_exF {a : Addr} {oe : Obj} {cls : Value} {d : Option Addr} {e : Expr} {te : TE} {pos : Pos} (T : FoB.OErr X.K C fI f) (hz : Zc cls d oe) (hf : ∃ vs, oe.data = .fields vs) (hg2 : (a, oe) ∈ X.pn) (he : PE X e te)
    (hb : attributeBase e f X.env (eval e X.env) = eval e X.env := by rfl) :
    PE X (.Attribute e f pos) (tExF f C a cls d te) := by
  refine ⟨fun pz s τ H Q I h => ?_⟩
  refine attr_of hb (thn (he.run pz s τ H _ I h) fun u s1 hh => ?_)
  obtain ⟨x, H1, J1, rx, ex, ec, dd, v, fs, ed, ea, hl1, q⟩ := hh
  subst ex
  obtain rfl : u = Value.ref a := rx
  subst ec
  subst ed
  obtain ⟨ha, _⟩ := J1.pin (a, oe) (List.mem_append_left _ hg2)
  obtain ⟨vs, hd⟩ := hf
  have hx : ObjOk X.prog X.w H1 s1.heap dd (.xd fs) := J1.hok dd _ ea
  obtain ⟨mA, hns, hr⟩ := hx
  obtain ⟨od, ho, hn⟩ := lookIn_ns hns
  obtain ⟨u, hu, ru⟩ := RelO.some_of (v := v) (o := mA f) (by rw [← hl1]; exact hr f)
  have J : PySem.W.InstAt s1.heap a oe C (some od) := ⟨ha, hz.1, by unfold PySem.W.notCls; rw [hd] <;> rfl, by rw [hz.2]; exact ho⟩
  exact HandSPX.exc_get J1.kIn J T.ga T.gg T.ox.exC (PySem.W.findObj_own T.hd T.no rfl (by rw [hn, hu])) (handed_of ru) ⟨v, H1, J1.tok _, ru, q⟩
end
end FoC

set_option maxHeartbeats 4100000
/-! repr of scalars, and of lists and tuples of scalars, whatever is under way below. -/
namespace FoR
open PySem PySem.Spec PyProof.Rows L2
/-- what stands below may be taken as known -/
theorem wpAny_guards {α : Type} {M : Model} {A : Around} {t : Sem α} {Q : α → Shared → Prop} {E : Value → Shared → Prop} {s : Shared} (h : ∀ g, wpAny M { A with guards := some g } t Q E s) : wpAny M A t Q E s :=
  fun Γ p hΓ => h (Γ.code.guards ++ guardsOf Γ.below) Γ p ⟨hΓ.1, hΓ.2.1, hΓ.2.2.1, fun g hgd => Option.some.inj hgd, hΓ.2.2.2.2⟩
abbrev gd (X : Cx) (g : List Code) : Cx := { X with A := { X.A with guards := some g } }
section
variable {X : Cx} {pz : List (Addr × Obj)} {τ : L2.St} {H : Hp} {s : Shared} {g : List Code}
theorem ok_gd (okx : X.Ok) : (gd X g).Ok :=
  ⟨okx.mod, okx.kind, okx.glob, okx.blt, okx.above, okx.inj, okx.has, okx.cab, okx.hd, okx.frames, okx.stk, okx.exf, okx.bs, okx.bsz, okx.noex, okx.exfs, okx.funs, okx.frf⟩
theorem inv_gd (I : Inv X pz τ H s) : Inv (gd X g) pz τ H s :=
  ⟨ok_gd I.ok, I.os, I.bare, I.base, I.loc, I.cell, I.free, I.freeC, I.pin, I.hok, I.len⟩
theorem inv_of {okx : X.Ok} (I : Inv (gd X g) pz τ H s) : Inv X pz τ H s :=
  ⟨okx, I.os, I.bare, I.base, I.loc, I.cell, I.free, I.freeC, I.pin, I.hok, I.len⟩
theorem pe_gd {e : Expr} {t : List Code → TE} (h : ∀ g, PE (gd X g) e (t g)) : PE X e (fun τ H Q => ∀ g, t g τ H Q) := by
  refine ⟨fun pz s τ H Q I q => wpAny_guards fun g => ?_⟩
  refine wpAny_mono ((h g).run pz s τ H Q (inv_gd I) (q g)) (fun u s' z => ?_) fun _ _ z => z
  obtain ⟨v, H', I', r, q'⟩ := z
  exact ⟨v, H', inv_of (okx := I.ok) I', r, q'⟩
end
/-! ### texts -/
def scText : V → Str
  | .non => "None"
  | .bl b => if b then "True" else "False"
  | .int i => toString i
  | .str x => reprText x
  | _ => "?"
inductive Sc : V → Prop where
  | non : Sc .non
  | bl (b : Bool) : Sc (.bl b)
  | int (i : Int) (h : i.natAbs.log2 < 1920) : Sc (.int i)
  | str (x : Str) (h : (reprText x).length ≤ sizeLine) : Sc (.str x)
def lstF (self : Value) : Code × Pos → Bool := fun
  | (.builtin "list.__repr__.loop" ⟨v :: _, _⟩, _) => Builtin.List.listSameRef v self
  | _ => false
theorem lstF_cons (self : Value) (id : String) (v : Value) (rest : List Value) (kw : List (Str × Value)) (p : Pos) : lstF self (.builtin id ⟨v :: rest, kw⟩, p) = (decide (id = "list.__repr__.loop") && Builtin.List.listSameRef v self) := by
  by_cases h : id = "list.__repr__.loop"
  · subst h
    simp [lstF]
  · simp only [h, decide_false, Bool.false_and]
    unfold lstF
    split <;> simp_all
theorem lstF_nil (self : Value) (id : String) (kw : List (Str × Value)) (p : Pos) : lstF self (.builtin id ⟨[], kw⟩, p) = false := by
  unfold lstF
  split <;> simp_all
theorem lstF_pos (self : Value) (c : Code) (p : Pos) : lstF self (c, p) = lstF self (c, default) := by
  cases c with
  | builtin id args =>
    obtain ⟨pos, kw⟩ := args
    cases pos with
    | nil => rw [lstF_nil, lstF_nil]
    | cons v rest => rw [lstF_cons, lstF_cons]
  | _ => rfl
theorem lstF_off (self : Value) (c : Code) (p : Pos) (hcc : c.isGuard = false) : lstF self (c, p) = false := by
  cases c with
  | builtin id args =>
    obtain ⟨pos, kw⟩ := args
    cases pos with
    | nil => exact lstF_nil _ _ _ _
    | cons v rest =>
      simp [Code.isGuard, guardIds] at hcc
      rw [lstF_cons]
      simp [hcc]
  | _ => rfl
def way (f : Code × Pos → Bool) (g : List Code) : Bool := g.any fun c => f (c, default)
/-- what repr tells, g what is under way below -/
def seqText (g : List Code) (a : Addr) : HO → Str
  | .lst xs => if xs = [] then "[]" else if way (lstF (.ref a)) g then "[...]" else listText (xs.map scText)
  | .tup xs => if way (tupGuardF (.ref a)) g then "(...)" else tupleText (xs.map scText)
  | .dK _ => if way (dictGuardF (.ref a)) g then "{...}" else "{}"
  | _ => "?"
def repText (g : List Code) (H : Hp) : V → Str
  | .ref a => match H a with
    | some o => seqText g a o
    | none => "?"
  | v => scText v
inductive Sho (H : Hp) : V → Prop where
  | sc {v : V} (h : Sc v) : Sho H v
  | lst {a : Addr} {xs : List V} (e : H a = some (.lst xs)) (h : ∀ y ∈ xs, Sc y) (z : (listText (xs.map scText)).length ≤ sizeLine) : Sho H (.ref a)
  | tup {a : Addr} {xs : List V} (e : H a = some (.tup xs)) (h : ∀ y ∈ xs, Sc y) (z : (tupleText (xs.map scText)).length ≤ sizeLine) : Sho H (.ref a)
  | dic {a : Addr} (e : H a = some (.dK [])) : Sho H (.ref a)
theorem sc_is {prog : Program} {w : World} {v : V} {u : Value} (h : Sc v) (r : RelV v u) : ReprIs prog w u (scText v) := by
  cases h with
  | non => cases r; exact ReprIs.none
  | bl b => cases r; exact ReprIs.bool b
  | int i z => obtain ⟨t, rfl⟩ := r; exact ReprIs.int t z
  | str x z => obtain ⟨t, rfl⟩ := r; exact ReprIs.str x t z
theorem sc_all {prog : Program} {w : World} : ∀ {l : List V} {its : List Value}, Vals l its → (∀ y ∈ l, Sc y) → ReprAll prog w its (l.map scText)
  | [], _, r, _ => by
    cases r
    exact .nil
  | y :: l, _, r, h => by
    cases r with
    | cons r1 r2 => exact .cons (sc_is (h y List.mem_cons_self) r1) (sc_all r2 fun z hz => h z (List.mem_cons_of_mem _ hz))
theorem all_item {prog : Program} {w : World} : ∀ {l : List V} {its : List Value}, Vals l its → (∀ y ∈ l, Sc y) → ∀ (i : Nat) (y : Value), its.toArray[i]? = some y → ∃ t, (l.map scText)[i]? = some t ∧ ReprIs prog w y t
  | _, _, .nil, _, i, y, e => by simp at e
  | x :: l, _, .cons r1 r2, h, 0, y, e => by
    simp at e
    subst e
    exact ⟨_, rfl, sc_is (h x List.mem_cons_self) r1⟩
  | x :: l, _, .cons r1 r2, h, i + 1, y, e => by
    obtain ⟨t, e1, e2⟩ := all_item r2 (fun z hz => h z (List.mem_cons_of_mem _ hz)) i y (by simpa using e)
    exact ⟨t, by simpa using e1, e2⟩
section
variable {prog : Program} {w : World} {A : Around} {E : Value → Shared → Prop} {s : Shared} {a : Addr} {o : Obj} {g : List Code}
theorem list_in {x : Value} {l : List Value} {n : Nat} {Q : Value → Shared → Prop} (hTy : s.TypeIs (.ref a) "list") (hgd : A.guards = some g) (hrun : way (lstF (.ref a)) g = true) (hat : s.heap.get? a = some o) (hd : o.data = .seq (x :: l).toArray n)
    (hQ : ∀ u tk, Q (.str "[...]" u) { s with toks := tk }) : wpAny (model prog w) A (call (.builtin "list.__repr__") [.ref a]) Q E s := by
  refine wpAny_call (codeAny_call_builtin_own (Code.quiet_builtin _ (by decide +kernel)) F.entry_list_repr (F.slot_list_repr.check _ _ _ _ _ _ _ _ hTy (F.args_list_repr_1 _) ?_))
  intro Γ p hcc hΓ
  show Sem.wp (model prog w) Γ (Builtin.listReprAt 0 ⟨[.ref a], []⟩) _ _ p s
  unfold Builtin.listReprAt
  have e : Γ.below.any (lstF (.ref a)) = true := by
    rw [PySem.any_eq_guards (lstF_off _) (lstF_pos _), hΓ.2.2.2.1 g hgd]
    exact hrun
  simp [slotArgs, Builtin.List.listItems, seqItems?, Sem.wp_load_of (h := hat), hd, stack]
  show Sem.wp (model prog w) Γ (if (Γ.below.any (lstF (.ref a))) = true then _ else _) _ _ p s
  rw [if_pos e]
  simp [rule, retStr, ret]
  exact (PySem.wpAny_mkStr (A := A.under Γ.code) (hQ _ _) (by decide +kernel)) Γ p hΓ.in
theorem dict_in {n : Nat} {Q : Value → Shared → Prop} (hs : (a == sysModules) = false) (hgd : A.guards = some g) (hat : s.heap.get? a = some o) (hcc : o.cls = .type "dict") (hd : o.data = .dict #[] n)
    (hQ : ∀ u tk, Q (.str (if way (dictGuardF (.ref a)) g then "{...}" else "{}") u) { s with toks := tk }) : wpAny (model prog w) A (call (.builtin "dict.__repr__") [.ref a]) Q E s := by
  have hTy : s.TypeIs (.ref a) "dict" := ⟨o, hat, hcc⟩
  refine wpAny_call (codeAny_call_builtin_own (Code.quiet_builtin _ (by decide +kernel)) F.entry_dict_repr (F.slot_dict_repr.check _ _ _ _ _ _ _ _ hTy (F.args_dict_repr_1 _) ?_))
  show wpOwn (model prog w) A _ (Builtin.dictReprAt 0 ⟨[.ref a], []⟩) _ _ s
  unfold Builtin.dictReprAt
  refine wpOwn_bind (wpOwn_of_wpAny ?_); unfold Builtin.Dict.dictSlotNone
  refine wpAny_bind (wpAny_notOrdered_dict hTy ?_); show wpAny _ _ (pure (Value.ref a)) _ _ s
  refine wpAny_pure ?_
  rw [dictReprRunning_eq]
  refine wpOwn_bind (wpOwn_stackTailAny hgd (dictGuardF_off _) (dictGuardF_pos _) ?_)
  show wpOwn _ _ _ (if way (dictGuardF (.ref a)) g = true then _ else _) _ _ s
  cases hw : way (dictGuardF (.ref a)) g with
  | true =>
    rw [hw] at hQ
    rw [if_pos rfl]
    refine wpOwn_of_wpAny (wpAny_bind (wpAny_rule (wpAny_bind (wpAny_mkStr (wpAny_pure ?_) (by decide +kernel)))))
    exact hQ _ _
  | false =>
    rw [hw] at hQ
    rw [if_neg Bool.false_ne_true]; refine wpOwn_of_wpAny ?_
    show wpAny _ _ (Builtin.Dict.addrOf (.ref a) >>= _) _ _ s; refine wpAny_bind (wpAny_pure ?_)
    show wpAny _ _ (Builtin.Dict.showsAll a >>= _) _ _ s; unfold Builtin.Dict.showsAll
    rw [if_neg (by rw [hs]; exact Bool.false_ne_true)]
    refine wpAny_bind (wpAny_pure ?_); refine wpAny_bind (wpAny_dictEpoch hat hd ?_)
    refine wpAny_bind (wpAny_dictEntries hat hd ?_)
    refine wpAny_bind ?_
    show wpAny _ _ (forIn [0:0] _ _) _ _ s
    rw [Std.Legacy.Range.forIn_eq_forIn_range']; simp only [Std.Legacy.Range.size, Nat.sub_zero, Nat.add_sub_cancel, Nat.div_one, List.range'_zero]
    refine wpAny_pure ?_
    refine wpAny_bind (wpAny_mkStr (wpAny_pure ?_) (by decide +kernel)); exact hQ _ _
theorem tup_in {items : Array Value} {n : Nat} {ts : List Str} {Q : Value → Shared → Prop} (hTy : s.TypeIs (.ref a) "tuple") (hgd : A.guards = some g) (hat : s.heap.get? a = some o) (hd : o.data = .seq items n) (hTp : ReprAll prog w items.toList ts)
    (hsz : (tupleText ts).length ≤ sizeLine) (hQ : ∀ u tk, Q (.str (if way (tupGuardF (.ref a)) g then "(...)" else tupleText ts) u) { s with toks := tk }) : wpAny (model prog w) A (call (.builtin "tuple.__repr__") [.ref a]) Q E s := by
  refine wpAny_call (codeAny_call_builtin_own (Code.quiet_builtin _ (by decide +kernel)) F.entry_tuple_repr (F.slot_tuple_repr.check _ _ _ _ _ _ _ _ hTy (F.args_tuple_repr_1 _) ?_))
  show wpOwn (model prog w) A _ (Builtin.tupleReprAt 0 ⟨[.ref a], []⟩) _ _ s
  rw [tuple_repr_tree, tupleReprUnderWay_eq]; refine wpOwn_bind (wpOwn_stackTailAny hgd (tupGuardF_off _) (tupGuardF_pos _) ?_)
  show wpOwn _ _ _ (if way (tupGuardF (.ref a)) g = true then _ else _) _ _ s
  cases hw : way (tupGuardF (.ref a)) g with
  | true =>
    rw [hw] at hQ
    rw [if_pos rfl]
    refine wpOwn_of_wpAny (wpAny_bind (wpAny_rule (wpAny_bind (wpAny_mkStr (wpAny_pure ?_) (by decide +kernel)))))
    exact hQ _ _
  | false =>
    rw [hw] at hQ
    rw [if_neg Bool.false_ne_true]; exact wpOwn_of_wpAny (wpAny_tupleReprRest hat hd hTp (fun u tk => hQ u tk) (by omega))
end
theorem seq_lst {g : List Code} {a : Addr} {y : V} {ys : List V} : seqText g a (.lst (y :: ys)) = if way (lstF (.ref a)) g then ("[...]" : Str) else listText ((y :: ys).map scText) := by
  show (if (y :: ys) = [] then ("[]" : Str) else if way (lstF (.ref a)) g then ("[...]" : Str) else listText ((y :: ys).map scText)) = _
  rw [if_neg (by simp)]
section
variable {X : Cx} {g : List Code}
theorem call_rep (hgd : X.A.guards = some g) (hu : X.A.units + 1 < cLine) : CallR X (.builtin "repr") (fun xs H Q => ∃ v, xs = [v] ∧ Sho H v ∧ Q (.str (repText g H v)) H) := by
  intro pz s τ H xs us Q I r h
  obtain ⟨v, rfl, hs, q⟩ := h
  obtain ⟨u, rfl, rv0⟩ := vals1 r
  cases hs with
  | sc hv =>
    cases hv with
    | non =>
      cases rv0
      exact PySem.P.repr_of_none ⟨.str _, H, I.tok _, ⟨_, rfl⟩, q⟩
    | bl b =>
      cases rv0
      exact PySem.P.repr_of_bool ⟨.str _, H, I.tok _, ⟨_, rfl⟩, q⟩
    | int i z =>
      obtain ⟨t, rfl⟩ := rv0
      exact PySem.P.repr_of_int z ⟨.str _, H, I.tok _, ⟨_, rfl⟩, q⟩
    | str x z =>
      obtain ⟨t, rfl⟩ := rv0
      exact PySem.P.repr_of_str ⟨.str _, H, I.tok _, ⟨_, rfl⟩, q⟩ z
  | @lst a ys e hy z =>
    cases rv0
    obtain ⟨_, its, n, rv, ho⟩ := (show ObjOk X.prog X.w H s.heap a (.lst ys) from I.hok a _ e)
    have hTp : s.TypeIs (.ref a) "list" := ⟨_, ho, rfl⟩
    have qt : repText g H (.ref a) = seqText g a (.lst ys) := by
      show (match H a with | some o => seqText g a o | none => "?") = _
      rw [e]
    rw [qt] at q
    refine call_repr_slot hu hTp F.slot_list_repr.toG ?_
    cases rv with
    | nil => exact call_list_repr_empty hTp ho rfl ⟨_, _, rfl, .str _, H, I.tok _, ⟨_, rfl⟩, q⟩
    | @cons y u0 ys us r1 r2 =>
      rw [seq_lst] at q
      cases hw : way (lstF (.ref a)) g with
      | true =>
        rw [hw, if_pos rfl] at q
        exact list_in (A := X.A.in1) hTp hgd hw ho rfl fun u tk => ⟨_, _, rfl, .str _, H, I.tok _, ⟨_, rfl⟩, q⟩
      | false =>
        rw [hw, if_neg Bool.false_ne_true] at q
        refine call_list_repr (A := X.A.in1) (ts := (y :: ys).map scText) hTp hgd (fun v rest kw hm => ?_) ho rfl (by simpa using (Vals.length r2)) (fun i x hx => all_item (.cons r1 r2) hy i x hx)
          (fun h' u tk hk => ⟨_, _, rfl, .str _, H, I.kept hk, ⟨_, rfl⟩, q⟩) z
        have z1 := List.any_eq_false.mp (show (g.any fun c => lstF (.ref a) (c, default)) = false from hw) _ hm
        rw [lstF_cons] at z1
        simpa using z1
  | @tup a ys e hy z =>
    cases rv0
    obtain ⟨_, its, rv, o, ho, hcc, n, hd⟩ := (show ObjOk X.prog X.w H s.heap a (.tup ys) from I.hok a _ e)
    have hTp : s.TypeIs (.ref a) "tuple" := ⟨_, ho, hcc⟩
    have qt : repText g H (.ref a) = seqText g a (.tup ys) := by
      show (match H a with | some o => seqText g a o | none => "?") = _
      rw [e]
    rw [qt] at q
    refine call_repr_slot hu hTp F.slot_tuple_repr ?_
    exact tup_in (A := X.A.in1) hTp hgd ho hd (sc_all rv hy) z fun u tk => ⟨_, _, rfl, .str _, H, I.tok _, ⟨_, rfl⟩, q⟩
  | @dic a e =>
    cases rv0
    obtain ⟨_, hs, vs, kv, o, es, ep, ho, hx, hd, hk, hp, hn⟩ := (show ObjOk X.prog X.w H s.heap a (.dK []) from I.hok a _ e)
    cases kv
    have e0 : es = #[] := by
      cases es with
      | mk l =>
        cases hp
        rfl
    subst e0
    have hTp : s.TypeIs (.ref a) "dict" := ⟨_, ho, hx.1⟩
    have qt : repText g H (.ref a) = seqText g a (.dK []) := by
      show (match H a with | some o => seqText g a o | none => "?") = _
      rw [e]
    rw [qt] at q
    refine call_repr_slot hu hTp F.slot_dict_repr ?_
    exact dict_in (A := X.A.in1) hs hgd ho hx.1 hd fun u tk => ⟨_, _, rfl, .str _, H, I.tok _, ⟨_, rfl⟩, q⟩
end
end FoR

set_option maxHeartbeats 4100000
/-! a != b where the class has an own __eq__ alone. -/
namespace FoN
open PySem PySem.Spec PyProof.Rows L2
section
variable {prog : Program} {w : World} {A : Around} {E : Value → Shared → Prop} {s : Shared} {K : PySem.W.Frag} {x C f : Addr} {ox : Obj} {od : Option Obj} {b : Value}
/-- object.__ne__ asks __eq__ -/
theorem ne_entry {Q : Fin → Shared → Prop} (hcl : A.units < cLine) (kin : K.In s.heap) (I : PySem.W.InstAt s.heap x ox C od) (he : PySem.W.findIn K (.ref C) "__eq__" = some (some (.ref f))) (hf : PySem.W.isFn K (.ref f) = true)
    (h : wpAny (model prog w) A (call (.ref f) [.ref x, b]) (fun v s' => ∃ c, v = .bool c ∧ Q (.done (.ret (.bool (!c)))) s') E s) : wpAny (model prog w) A (Builtin.«object.__ne__» ⟨[.ref x, b], []⟩) Q E s := by
  have ask : wpAny (model prog w) A (callSpecialIfBound? (.ref x) (Str.ofString "__eq__") [b]) (fun r s' => ∃ c, r = some (.bool c) ∧ Q (.done (.ret (.bool (!c)))) s') E s := by
    refine PySem.W.ifBound_K kin I he hf (wpAny_mono h (fun v s' z => ?_) fun _ _ z => z)
    obtain ⟨c, rfl, q⟩ := z
    exact ⟨c, rfl, q⟩
  unfold Builtin.«object.__ne__»; repeat (first
    | with_reducible refine wpAny_cRoomFor hcl ?_
    | (refine wpAny_bind (m := callSpecialIfBound? (.ref x) (Str.ofString "__eq__") [b]) (wpAny_mono ask (fun r s' z => ?_) fun _ _ z => z); obtain ⟨c, rfl, q⟩ := z)
    | exact q
    | exact wpAny_pure q
    | (refine wpAny_bind (m := truthy (.bool _)) (wpAny_truthy_bool ?_))
    | wp_step)
theorem try_ne {Q : Value → Shared → Prop} (hcl : A.units + 1 < cLine) (kin : K.In s.heap) (I : PySem.W.InstAt s.heap x ox C od) (hm : PySem.W.mroIn K C (.type "object") = some true) (hn : PySem.W.findIn K (.ref C) "__ne__" = some (some (.builtin "object.__ne__")))
    (he : PySem.W.findIn K (.ref C) "__eq__" = some (some (.ref f))) (hf : PySem.W.isFn K (.ref f) = true)
    (h : wpAny (model prog w) A.in1 (call (.ref f) [.ref x, b]) (fun v s' => ∃ c, v = .bool c ∧ Q (.bool (!c)) s') E s) : wpAny (model prog w) A (tryCompare (.ref x) "__ne__" b) (fun r s' => ∃ v, r = some v ∧ Q v s') E s := by
  have go : wpAny (model prog w) A (call (.builtin "object.__ne__") [.ref x, b]) (fun v s' => ∃ c, v = .bool c ∧ Q v s') E s := by
    refine wpAny_call (codeAny_call_builtin F.cmp_object.ne.plain F.cmpEntry_ne (PySem.W.check_slot F.cmpKind_ne F.cmpSplit_ne (I.type.andThen (PySem.W.looks_mroIn kin hm)) (F.cmpArgs_ne _ _) ?_))
    refine ne_entry (A := A.in1) hcl kin I he hf (wpAny_mono h (fun v s' z => ?_) fun _ _ z => z)
    obtain ⟨c, rfl, q⟩ := z
    exact ⟨c, rfl, _, rfl, q⟩
  have back : wpAny (model prog w) A (call (.builtin "object.__ne__") ([.ref x] ++ [b]) >>= fun v => pure (some v)) (fun r s' => ∃ c, r = some (.bool c) ∧ Q (.bool c) s') E s := by
    refine wpAny_bind (wpAny_mono go (fun v s' z => ?_) fun _ _ z => z)
    obtain ⟨c, rfl, q⟩ := z
    exact wpAny_pure ⟨c, rfl, q⟩
  unfold tryCompare
  have ask : wpAny (model prog w) A (callSpecialIfBound? (.ref x) "__ne__" [b]) (fun r s' => ∃ c, r = some (.bool c) ∧ Q (.bool c) s') E s := by
    unfold callSpecialIfBound? bindSpecialIfBound?
    refine wpAny_holding (wpAny_bind (wpAny_bind (wpAny_bind (I.type.here ((PySem.W.looks_findIn kin hn).here ?_)))))
    refine wpAny_bind (wpAny_askSetting (wpAny_ite ?_)); split
    · exact wpAny_bind (wpAny_of_eq (F.cmp_object.ne.bind _) (wpAny_pure (by exact back)))
    · exact wpAny_tryCatch (wpAny_bind (wpAny_of_eq (F.cmp_object.ne.bind _) (wpAny_pure (by exact back))))
  refine wpAny_bind (wpAny_mono ask (fun r s' z => ?_) fun _ _ z => z)
  obtain ⟨c, rfl, q⟩ := z
  exact wpAny_pure ⟨_, rfl, q⟩
end
section
variable {X : Cx} {CX : CXT} {k : Nat} {f C : Addr} {fd : FuncData} {ps : List Str} {sp : Sp} {E : XK}
structure NeC (K : PySem.W.Frag) (C : Addr) : Prop where
  ne : PySem.W.findIn K (.ref C) "__ne__" = some (some (.builtin "object.__ne__"))
  ob : PySem.W.mroIn K C (.type "object") = some true
def neB (x : Str) (K : PySem.W.Frag) : Bool := He.eqO (PySem.W.findIn K (.ref (He.ga K x)) "__ne__") (some (some (.builtin "object.__ne__"))) && decide (PySem.W.mroIn K (He.ga K x) (.type "object") = some true)
theorem ne_ok {K : PySem.W.Frag} {x : Str} (h : neB x K = true) : NeC K (He.ga K x) := by
  obtain ⟨h1, h2⟩ := He.ba h
  exact ⟨He.eqO_ok h1, of_decide_eq_true h2⟩
/-- the callee runs a unit deeper -/
theorem run_in1 {pz : List (Addr × Obj)} {τ : L2.St} {H : Hp} {s : Shared} {Q : VK} {us : List Value} {vs : List V} (F : FnOk X.prog X.w X.K X.mg X.base CX k f fd ps sp) (hr : Room (k + 1) X.A) (hb : Binds X.K fd ps []) (hx : Passes CX X E)
    (I : Inv X pz τ H s) (r : Vals vs us) (h : sp vs H Q E) : wpAny (model X.prog X.w) X.A.in1 (call (.ref f) us) (EP X pz τ Q) X.xe s := by
  have hn : us.length = ps.length := by rw [← r.length]; exact F.len _ _ _ _ h
  have b := hb s us I.kIn (by rw [List.append_nil]; exact hn)
  rw [List.append_nil] at b
  have hr1 : Room k X.A.in1 := ⟨hr.hd, by have := hr.dp; show X.A.depth + 3 * k + 5 < _; omega, by have := hr.un; show X.A.units + 1 + 16 * k + 200 < _; omega⟩
  refine wpAny_call (codeAny_mono (F.run X.A.in1 X.stack s H ⟨us, []⟩ us vs Q E hr1 I.env0.in1 b r h) fun r s' hj => ?_)
  cases r with
  | error e => exact hx pz τ H s e s' I hj
  | ok fl =>
    cases fl with
    | ret u => exact I.after hj
    | next => exact False.elim hj
    | brk => exact False.elim hj
    | cont => exact False.elim hj
def rNe (C : Addr) (sp : Sp) (E : XK) : R2 := fun x y H Q => ∃ a dx fs i, x = .ref a ∧ H a = some (.ins C dx fs) ∧ y = .int i ∧ sp [x, y] H (fun v H' => ∃ b, v = .bl b ∧ Q (.bl (!b)) H') E
theorem op_neC (F : FnOk X.prog X.w X.K X.mg X.base CX k f fd ps sp) (hr : Room (k + 1) X.A) (hb : Binds X.K fd ps []) (hx : Passes CX X E) (B : FoA.CmpC X.K C f .Eq) (N : NeC X.K C) : OpR X (compareOp .NotEq) (rNe C sp E) := by
  intro pz s τ H x y v u Q I ra ry h
  obtain ⟨a, dx, fs, i, rfl, ea, rfl, q⟩ := h
  cases ra
  obtain ⟨t, rfl⟩ := ry
  obtain ⟨mA, Jx, _⟩ := ins_get I.hok ea
  obtain ⟨od, Jx, _⟩ := Jx.look
  have hcl : X.A.units + 1 < cLine := hu_of hr
  have kin := I.kIn
  have one : wpAny (model X.prog X.w) X.A (tryCompare (.ref a) "__ne__" (.int i t)) (fun r s' => ∃ z, r = some z ∧ EP X pz τ Q z s') X.xe s := by
    refine FoN.try_ne hcl kin Jx N.ob N.ne B.at_ B.fn ?_
    refine wpAny_mono (run_in1 (us := [.ref a, .int i t]) (vs := [.ref a, .int i]) F hr hb hx I (.cons rfl (.cons ⟨t, rfl⟩ .nil)) q) (fun r s' z => ?_) fun _ _ z => z
    obtain ⟨v, H', I', rv, b, rfl, q'⟩ := z
    cases rv
    exact ⟨b, rfl, .bl (!b), H', I', rfl, q'⟩
  show wpAny _ _ (richCompare .NotEq (.ref a) (.int i t)) _ _ _
  have sub := B.nt "int" (by simp)
  unfold richCompare
  simp only [oneThing_ref]
  refine wpAny_holding ?_
  refine wpAny_bind (wpAny_cRoomFor (Nat.lt_of_succ_lt hcl) ?_)
  refine wpAny_bind (Jx.type.here ?_)
  refine wpAny_bind ((PySem.W.Looks.of_pure (rfl : typeOf (.int i t) = pure (.type "int"))).here ?_)
  rw [if_pos (by simp)]
  refine wpAny_bind ((PySem.W.looks_subIn kin sub).here ?_)
  rw [if_neg Bool.false_ne_true]; refine wpAny_bind (wpAny_mono one (fun r s' z => ?_) fun _ _ z => z)
  obtain ⟨v, rfl, q'⟩ := z
  exact wpAny_pure q'
end
section
variable {K : PySem.W.Frag}
theorem int_add : PySem.W.findIn K (.type "int") (PySem.dunder (Operator.info .Add).2) = some (some (.builtin "int.__add__")) := by kernel_rfl
theorem int_addR : PySem.W.findIn K (.type "int") (dunderR (Operator.info .Add).2) = some (some (.builtin "int.__radd__")) := by kernel_rfl
theorem int_sub : PySem.W.findIn K (.type "int") (PySem.dunder (Operator.info .Sub).2) = some (some (.builtin "int.__sub__")) := by kernel_rfl
theorem int_subR : PySem.W.findIn K (.type "int") (dunderR (Operator.info .Sub).2) = some (some (.builtin "int.__rsub__")) := by kernel_rfl
theorem int_mul : PySem.W.findIn K (.type "int") (PySem.dunder (Operator.info .Mult).2) = some (some (.builtin "int.__mul__")) := by kernel_rfl
theorem int_mulR : PySem.W.findIn K (.type "int") (dunderR (Operator.info .Mult).2) = some (some (.builtin "int.__rmul__")) := by kernel_rfl
end
end FoN

set_option maxHeartbeats 4100000
/-! xs[::-1] of a list. -/
namespace FoV
open PySem PySem.Spec PyProof.Rows L2
theorem fm_congr {α β : Type} {f k : α → Option β} : ∀ {l : List α}, (∀ x ∈ l, f x = k x) → l.filterMap f = l.filterMap k
  | [], _ => rfl
  | x :: l, h => by
    rw [List.filterMap_cons, List.filterMap_cons, h x List.mem_cons_self, fm_congr fun y hy => h y (List.mem_cons_of_mem _ hy)]
theorem all_items {α : Type} : ∀ ys : List α, (List.range ys.length).filterMap (fun i => ys[i]?) = ys
  | [] => rfl
  | y :: ys => by
    rw [List.length_cons, List.range_succ_eq_map, List.filterMap_cons, List.filterMap_map]
    exact congrArg (y :: ·) (all_items ys)
theorem back_items {α : Type} (its : List α) : (List.range its.length).filterMap (fun i => its[its.length - 1 - i]?) = its.reverse := by
  have e : (List.range its.length).filterMap (fun i => its[its.length - 1 - i]?) = (List.range its.length).filterMap (fun i => its.reverse[i]?) := by
    refine fm_congr fun i hi => ?_
    exact (List.getElem?_reverse (List.mem_range.mp hi)).symm
  rw [e]
  have z := all_items its.reverse
  rw [List.length_reverse] at z
  exact z
theorem pick_back (its : List Value) : slicePick its.toArray none none (some (-1)) = its.reverse.toArray := by
  unfold slicePick
  have e : sliceBounds none none (some (-1)) its.toArray.size = (((its.length : Nat) : Int) - 1, -1, -1) := by
    simp [sliceBounds]
  rw [e]
  show (List.filterMap _ (sliceRange (((its.length : Nat) : Int) - 1) (-1) (-1))).toArray = _
  congr 1
  have e2 : sliceRange (((its.length : Nat) : Int) - 1) (-1) (-1) = (List.range its.length).map fun i => its.length - 1 - i := by
    unfold sliceRange
    have c : (if (-1 : Int) > 0 then (if ((its.length : Nat) : Int) - 1 < -1 then (-1 - (((its.length : Nat) : Int) - 1) + -1 - 1) / -1 else 0) else (if ((its.length : Nat) : Int) - 1 > -1 then (((its.length : Nat) : Int) - 1 - -1 - -1 - 1) / (- -1) else 0)).toNat = its.length := by
      rw [if_neg (by decide)]
      split
      · rw [show (- -1 : Int) = 1 by decide, Int.ediv_one]
        omega
      · omega
    show (List.range (if (-1 : Int) > 0 then (if ((its.length : Nat) : Int) - 1 < -1 then (-1 - (((its.length : Nat) : Int) - 1) + -1 - 1) / -1 else 0) else (if ((its.length : Nat) : Int) - 1 > -1 then (((its.length : Nat) : Int) - 1 - -1 - -1 - 1) / (- -1) else 0)).toNat).map _ = _
    rw [c]
    refine List.map_congr_left fun i hi => ?_
    have := List.mem_range.mp hi
    omega
  rw [e2, List.filterMap_map]
  have z := back_items its
  refine Eq.trans (fm_congr fun i hi => ?_) z
  simp
def tRevL (K : PySem.W.Frag) (te ts : TE) : TE := fun τ H Q => te τ H fun x H1 => ts τ H1 fun y H2 => y = .int (-1) ∧ ∃ a xs, x = .ref a ∧ SqL K H2 a xs ∧ ∀ p, H2 p = none → Q (.ref p) (upd H2 p (.lst xs.reverse))
section
variable {X : Cx} {e st : Expr} {te ts : TE} {p2 pos : Pos}
theorem pe_revL (he : PE X e te) (hs : PE X st ts) : PE X (.Subscript e (.Slice none none (some st) p2) pos) (tRevL X.K te ts) := by
  refine ⟨fun pz s τ H Q I h => ?_⟩
  refine Subscript_ (thn (he.run pz s τ H _ I h) fun v s1 ⟨x, H1, I1, r1, q1⟩ => ?_)
  refine wpAny_Slice ?_
  rw [evalPart_none, evalPart_some]
  refine wpAny_pure (wpAny_pure (thn (hs.run pz s1 τ H1 _ I1 q1) fun w s3 ⟨y, H3, I3, ry, ey, a, xs, ex, hx, q⟩ => ?_))
  subst ey ex
  cases r1
  obtain ⟨t, rfl⟩ := ry
  have I4 : Inv X pz τ H3 { s3 with heap := s3.heap.push { cls := .type "slice", data := .fields #[Value.none, Value.none, .int (-1) t] } } := I3.kept (t' := s3.toks) fun b ob z => Heap.get?_push_of_some _ z
  obtain ⟨its, r, ht, hz⟩ := I4.list hx
  have hn := r.length
  have got : wpAny (model X.prog X.w) X.A (getItem (.ref a) (.ref s3.heap.objs.size)) (EP X pz τ Q) X.xe { s3 with heap := s3.heap.push { cls := .type "slice", data := .fields #[Value.none, Value.none, .int (-1) t] } } := by
    refine wpAny_getItem_list_slice ht.isList (Heap.IsSliceOf.new ..) .none .none (.int (-1) t) (by simp) ?_ (by rw [List.size_toArray] <;> omega)
    rw [pick_back]
    refine ⟨.ref _, _, I4.laid (t' := s3.toks) (o := .lst xs.reverse) (fun b ob z => Heap.get?_push_of_some _ z) (Nat.le_refl _) ?_, rfl, q _ (I4.hok.fresh (Nat.le_refl _))⟩
    exact ⟨by rw [List.length_reverse]; exact hz, its.reverse, 0, r.reverse, Heap.get?_push_size _ rfl⟩
  exact tail_any (ops := [.ref a, .ref s3.heap.objs.size]) ht.isList.typeIs slot_list_getitem.lookup got (by with_unfolding_all rfl)
end
/-- a comprehension over a text's signs -/
theorem lc_str {z : Str} {g : TG} {tt : TT} {te : TE} {vs : List Nat} {τ : L2.St} {H1 : Hp} {D : Addr} {Qd : Hp → Prop} (Pv : Nat → Hp → Prop) (h0 : Pv 0 (upd H1 D (.lst [])))
    (hs : ∀ i c H, z.cps[i]? = some c → Pv i H → g (.str ⟨#[c]⟩) (wipe τ vs) H fun σ2 H2 => wipe σ2 vs = wipe τ vs ∧ tt σ2 H2 fun b H3 =>
      if b = true then te σ2 H3 fun y H4 => ∃ acc, H4 D = some (.lst acc) ∧ acc.length < sizeLine ∧ Pv (i + 1) (upd H4 D (.lst (acc ++ [y]))) else Pv (i + 1) H3) (hd : ∀ H, Pv z.cps.size H → Qd H)  : ∃ W : Nat → Nat → Hp → Prop, (∃ m, W 0 m (upd H1 D (.lst []))) ∧ ∀ i m H, W i m H →
      ((Its z).stop i H ∧ Qd H) ∨ ((Its z).go i H ∧ ∃ Nx : Hp → Prop, (∀ H', Nx H' → ∃ m', m' < m ∧ W (i + 1) m' H') ∧ ∀ x H', (Its z).yld i H x H' → g x (wipe τ vs) H' fun σ2 H2 => wipe σ2 vs = wipe τ vs ∧ tt σ2 H2 fun b H3 => if b = true then te σ2 H3 fun y H4 => ∃ acc, H4 D = some (.lst acc) ∧ acc.length < sizeLine ∧ Nx (upd H4 D (.lst (acc ++ [y]))) else Nx H3) := by
  refine ⟨fun i m H => m = z.cps.size - i ∧ i ≤ z.cps.size ∧ Pv i H, ⟨z.cps.size, by simp, Nat.zero_le _, h0⟩, ?_⟩
  rintro i m H ⟨rfl, hi, p⟩
  by_cases lt : i < z.cps.size
  · refine .inr ⟨lt, Pv (i + 1), fun H' p' => ⟨z.cps.size - (i + 1), by omega, rfl, lt, p'⟩, fun x H' y => ?_⟩
    obtain ⟨e, c, ec, ex⟩ := y
    subst e ex
    exact hs i c _ ec p
  · have e : i = z.cps.size := by omega
    subst e
    exact .inl ⟨Nat.le_refl z.cps.size, hd H p⟩
/-- a list of one-sign texts -/
def chs (l : List Nat) : List PyData := l.map fun c => .str ⟨#[c]⟩
theorem sign_ok : ∀ c : Nat, c < 128 → PyData.canLay0 (.str ⟨#[c]⟩) = true := by decide +kernel
theorem chs_lay : ∀ l : List Nat, (∀ c ∈ l, c < 128) → PyData.canLayAll0 (chs l) = true ∧ PyData.depthAll (chs l) = 0
  | [], _ => ⟨rfl, rfl⟩
  | c :: l, h => by
    obtain ⟨h1, h2⟩ := chs_lay l fun d hd => h d (List.mem_cons_of_mem _ hd)
    constructor
    · show (PyData.canLay0 (.str ⟨#[c]⟩) && PyData.canLayAll0 (chs l)) = true
      rw [sign_ok c (h c List.mem_cons_self), h1]
      rfl
    · show max 0 (PyData.depthAll (chs l)) = 0
      rw [h2]
      rfl
theorem chs_shaped (l : List Nat) (h : ∀ c ∈ l, c < 128) : SeqAt.shaped (.list (chs l)) = true := by
  obtain ⟨h1, h2⟩ := chs_lay l h
  show (PyData.canLayAll0 (chs l) && decide (PyData.depthAll (chs l) + 1 ≤ 64)) = true
  rw [h1, h2]
  rfl
theorem chs_nil (l : List Nat) : PyData.eqv (.list (chs l)) (.list []) = decide (l = []) := by
  cases l with
  | nil => rfl
  | cons c r => rfl
theorem chs_dp {K : PySem.W.Frag} {H : Hp} : ∀ l : List Nat, DpAll K H (l.map fun c => V.str ⟨#[c]⟩) (chs l)
  | [] => .nil
  | c :: l => .cons (.str _) (chs_dp l)
end FoV

set_option maxHeartbeats 4100000
/-! math.lcm of greater whole numbers. -/
namespace FoL
open PySem PySem.Spec PyProof.Rows L2 PySem.W
theorem log_div {n k : Nat} (h : n < 2 ^ k) (l : k ≤ 13000) : ¬ n.log2 / 30 + 1 > 450 := by
  have z : n.log2 ≤ k := by
    by_cases h0 : n = 0
    · subst h0
      rw [Nat.log2_zero]
      exact Nat.zero_le _
    · exact Nat.le_of_lt ((Nat.log2_lt h0).mpr h)
  omega
/-- lcm(a, b), a and b of at most 6,000 bits -/
def rLcm : List V → Hp → VK → Prop := fun vs H Q => ∃ a b : Int, vs = [.int a, .int b] ∧ a.natAbs < 2 ^ 6000 ∧ b.natAbs < 2 ^ 6000 ∧ Q (.int ((Nat.lcm a.natAbs b.natAbs : Nat) : Int)) H
theorem cr_lcm {X : Cx} : CallR X (.builtin "math.lcm") rLcm := by
  intro pz s τ H vs us Q I r h
  obtain ⟨a, b, rfl, ha, hb, q⟩ := h
  obtain ⟨t, u, rfl⟩ := Vals.int2 r
  have e : (Nat.lcm 1 a.natAbs).lcm b.natAbs = Nat.lcm a.natAbs b.natAbs := by rw [Nat.lcm_one_left]
  have p1 : 1 < 2 ^ 6000 := Nat.one_lt_two_pow (by decide)
  have hm : Nat.lcm a.natAbs b.natAbs < 2 ^ 12000 := by
    have z : Nat.lcm a.natAbs b.natAbs ≤ a.natAbs * b.natAbs := by
      unfold Nat.lcm
      exact Nat.div_le_self _ _
    have z2 : a.natAbs * b.natAbs < 2 ^ 6000 * 2 ^ 6000 := Nat.mul_lt_mul'' ha hb
    rw [← Nat.pow_add] at z2
    exact Nat.lt_of_le_of_lt z z2
  have m1 : max 1 a.natAbs < 2 ^ 6000 := Nat.max_lt.mpr ⟨p1, ha⟩
  have m2 : max a.natAbs b.natAbs < 2 ^ 6000 := Nat.max_lt.mpr ⟨ha, hb⟩
  have hsz : ((((Nat.lcm 1 a.natAbs).lcm b.natAbs : Nat) : Int)).natAbs.log2 < bitsLine := by
    rw [e, Int.natAbs_natCast]
    have z : (Nat.lcm a.natAbs b.natAbs).log2 ≤ 12000 := by
      by_cases h0 : Nat.lcm a.natAbs b.natAbs = 0
      · rw [h0, Nat.log2_zero]
        exact Nat.zero_le _
      · exact Nat.le_of_lt ((Nat.log2_lt h0).mpr hm)
    exact Nat.lt_of_le_of_lt z (by decide +kernel)
  refine call_function_meets MGF.kind_lcm MGF.plain_lcm MGF.entry_lcm (MGF.args_lcm _ _) (mg_run_lcm a t b u (log_div m1 (by decide)) (log_div m2 (by decide)) hsz).meets ?_
  rw [e]
  exact ⟨.int _, H, I.tok _, ⟨_, rfl⟩, q⟩
section
variable {X : Cx} {CX : CXT} {k : Nat} {f C D : Addr} {fd : FuncData} {ps : List Str} {sp : Sp} {E : XK}
/-- len(a), a of an own class with its own __len__ -/
def rLenO (C : Addr) (sp : Sp) (E : XK) : List V → Hp → VK → Prop := fun xs H Q => ∃ a dx fs, xs = [.ref a] ∧ H a = some (.ins C dx fs) ∧ sp [.ref a] H (fun v H' => ∃ n : Nat, v = .int n ∧ (n : Int) < 2 ^ 63 ∧ Q (.int n) H') E
theorem call_lenO (F : FnOk X.prog X.w X.K X.mg X.base CX k f fd ps sp) (hr : Room (k + 1) X.A) (hb : Binds X.K fd ps []) (hx : Passes CX X E) (h1 : PySem.W.findIn X.K (.ref C) "__len__" = some (some (.ref f))) (h2 : PySem.W.isFn X.K (.ref f) = true) :
    CallR X (.builtin "len") (rLenO C sp E) := by
  intro pz s τ H xs us Q I r h
  obtain ⟨a, dx, fs, rfl, ea, q⟩ := h
  obtain ⟨u, rfl, ru⟩ := vals1 r
  cases ru
  obtain ⟨mA, J, _⟩ := ins_get I.hok ea
  obtain ⟨od, J, _⟩ := J.look
  obtain ⟨m, hF⟩ := I.fr
  refine PySem.W.len_K hF I.ok.mod.kin J h1 h2 ?_
  refine wpAny_mono (FoN.run_in1 (us := [.ref a]) (vs := [.ref a]) F hr hb hx I (.cons rfl .nil) q) (fun v s' z => ?_) fun _ _ z => z
  obtain ⟨y, H', I', rv, n, rfl, n1, q'⟩ := z
  obtain ⟨t, rfl⟩ := rv
  exact ⟨⟨by omega, n1⟩, .int n, H', I'.tok _, ⟨_, rfl⟩, q'⟩
/-- a == b by an own method, b an object of another own class -/
def rCmpO (C D : Addr) (sp : Sp) (E : XK) : R2 := fun x y H Q => ∃ a dx fs b dy gs, x = .ref a ∧ H a = some (.ins C dx fs) ∧ y = .ref b ∧ H b = some (.ins D dy gs) ∧ sp [x, y] H Q E
theorem op_ownO {op : CmpOp} (F : FnOk X.prog X.w X.K X.mg X.base CX k f fd ps sp) (hr : Room k X.A) (hb : Binds X.K fd ps []) (hx : Passes CX X E) (B : FoA.CmpC X.K C f op) (no : PySem.W.subIn X.K (.ref D) (.ref C) = some false)
    (ho : ∀ v u : Value, compareOp op v u = richCompare op v u) : OpR X (compareOp op) (rCmpO C D sp E) := by
  intro pz s τ H x y v u Q I rx ry h
  obtain ⟨a, dx, fs, b, dy, gs, rfl, ea, rfl, eb, q⟩ := h
  cases rx
  cases ry
  rw [ho]
  obtain ⟨mA, J, _⟩ := ins_get I.hok ea
  obtain ⟨od, J, _⟩ := J.look
  obtain ⟨mB, J', _⟩ := ins_get I.hok eb
  obtain ⟨od', J', _⟩ := J'.look
  obtain ⟨m, hF⟩ := I.fr
  have go := run_fn (us := [.ref a, .ref b]) (vs := [.ref a, .ref b]) (dvs := []) F hr hb .nil hx I (.cons rfl (.cons rfl .nil)) (by simpa using q)
  have nf : PySem.W.notFirst X.K C (.ref D) = true := by
    unfold PySem.W.notFirst
    rw [no]
    exact Bool.or_eq_true_iff.mpr (.inr (beq_self_eq_true _))
  exact PySem.W.cmp_K hr.units0 hF I.ok.mod.kin J J'.type nf B.at_ B.fn (wpAny_mono go (fun r s' z => FoA.back_ok z) fun _ _ z => z)
end
end FoL

/-! Fractions as rational numbers; lists of them without zeros at the end; products of polynomials. Plain mathematics. -/
namespace FoQ
open FoM
/-! ### lowest terms -/
theorem den_pos (r : Rat) : (0 : Int) < r.den := by
  have := r.den_pos
  omega
theorem den_ne (r : Rat) : (r.den : Int) ≠ 0 := by
  have := den_pos r
  omega
theorem fr_rat {u d : Int} (h : d ≠ 0) : frN u d = (Rat.divInt u d).num ∧ frD u d = ((Rat.divInt u d).den : Int) := by
  have e : Rat.divInt (Rat.divInt u d).num (Rat.divInt u d).den = Rat.divInt u d := Rat.num_divInt_den _
  rw [Rat.divInt_eq_divInt_iff (den_ne _) h] at e
  have z := fr_eq (u := u) (d := d) (u' := (Rat.divInt u d).num) (d' := ((Rat.divInt u d).den : Int)) h (den_ne _) (by rw [e])
  have w := fr_low (a := (Rat.divInt u d).num) (b := ((Rat.divInt u d).den : Int)) (den_pos _) (by simpa using (Rat.divInt u d).reduced)
  rw [w.1, w.2] at z
  exact z
theorem fr_of {u d : Int} {r : Rat} (h : d ≠ 0) (e : Rat.divInt u d = r) : frN u d = r.num ∧ frD u d = (r.den : Int) := by
  rw [← e]
  exact fr_rat h
theorem q_add (x z : Rat) : Rat.divInt (x.num * z.den + z.num * x.den) (x.den * z.den) = x + z := by
  rw [← Rat.divInt_add_divInt _ _ (den_ne x) (den_ne z), Rat.num_divInt_den, Rat.num_divInt_den]
theorem q_sub (x z : Rat) : Rat.divInt (x.num * z.den - z.num * x.den) (x.den * z.den) = x - z := by
  rw [← Rat.divInt_sub_divInt _ _ (den_ne x) (den_ne z), Rat.num_divInt_den, Rat.num_divInt_den]
theorem q_mul (x z : Rat) : Rat.divInt (x.num * z.num) (x.den * z.den) = x * z := by
  rw [← Rat.divInt_mul_divInt, Rat.num_divInt_den, Rat.num_divInt_den]
theorem q_neg (x : Rat) : Rat.divInt (-x.num) x.den = -x := by
  rw [← Rat.neg_divInt, Rat.num_divInt_den]
theorem q_div (x z : Rat) : Rat.divInt (x.num * z.den) (x.den * z.num) = x / z := by
  rw [Rat.divInt_eq_div, Rat.intCast_mul, Rat.intCast_mul]
  have e1 : x = (x.num : Rat) / (x.den : Int) := by
    rw [← Rat.divInt_eq_div, Rat.num_divInt_den]
  have e2 : z = (z.num : Rat) / (z.den : Int) := by
    rw [← Rat.divInt_eq_div, Rat.num_divInt_den]
  have d1 : ((x.den : Int) : Rat) ≠ 0 := by
    intro h
    exact den_ne x (by exact_mod_cast h)
  have d2 : ((z.den : Int) : Rat) ≠ 0 := by
    intro h
    exact den_ne z (by exact_mod_cast h)
  generalize ((x.den : Int) : Rat) = xd at *
  generalize ((z.den : Int) : Rat) = zd at *
  generalize (x.num : Rat) = xn at *
  generalize (z.num : Rat) = zn at *
  subst e1 e2
  grind
theorem q_int (n : Int) : Rat.divInt n 1 = (n : Rat) := by
  rw [Rat.divInt_eq_div]
  show (n : Rat) / ((1 : Int) : Rat) = n
  rw [show ((1 : Int) : Rat) = 1 from rfl]
  grind
theorem q_eq_iff (x z : Rat) : (x.num = z.num ∧ (x.den : Int) = z.den) ↔ x = z := ⟨fun h => Rat.ext h.1 (by have := h.2; omega), fun h => by subst h; exact ⟨rfl, rfl⟩⟩
theorem q_lt (x z : Rat) : x < z ↔ x.num * z.den < z.num * x.den := Rat.lt_iff x z
theorem q_le (x z : Rat) : x ≤ z ↔ x.num * z.den ≤ z.num * x.den := Rat.le_iff x z
theorem num0 {x : Rat} : x.num = 0 ↔ x = 0 := Rat.num_eq_zero
/-! ### sizes -/
def SzR (n : Nat) (r : Rat) : Prop := Sz n r.num ∧ Sz n r.den
theorem SzR.mono {n m : Nat} {r : Rat} (h : SzR n r) (l : n ≤ m) : SzR m r := ⟨h.1.mono l, h.2.mono l⟩
theorem SzR.divInt {n : Nat} {u d : Int} (hd : d ≠ 0) (h : Sz n u) (g : Sz n d) : SzR n (Rat.divInt u d) := by
  obtain ⟨e1, e2⟩ := fr_rat (u := u) hd
  refine ⟨?_, ?_⟩
  · rw [← e1]
    exact h.le (frN_le hd)
  · rw [← e2]
    exact g.le (frD_le hd)
theorem SzR.add {n m : Nat} {x z : Rat} (h : SzR n x) (g : SzR m z) : SzR (n + m + 1) (x + z) := by
  rw [← q_add]
  refine SzR.divInt (Int.mul_ne_zero (den_ne x) (den_ne z)) ((h.1.mul g.2).add ?_) ((h.2.mul g.2).mono (Nat.le_succ _))
  have := g.1.mul h.2
  rw [Nat.add_comm] at this
  exact this
theorem SzR.sub {n m : Nat} {x z : Rat} (h : SzR n x) (g : SzR m z) : SzR (n + m + 1) (x - z) := by
  rw [← q_sub]
  refine SzR.divInt (Int.mul_ne_zero (den_ne x) (den_ne z)) ((h.1.mul g.2).sub ?_) ((h.2.mul g.2).mono (Nat.le_succ _))
  have := g.1.mul h.2
  rw [Nat.add_comm] at this
  exact this
theorem SzR.mul {n m : Nat} {x z : Rat} (h : SzR n x) (g : SzR m z) : SzR (n + m) (x * z) := by
  rw [← q_mul]
  exact SzR.divInt (Int.mul_ne_zero (den_ne x) (den_ne z)) (h.1.mul g.1) (h.2.mul g.2)
theorem SzR.neg {n : Nat} {x : Rat} (h : SzR n x) : SzR n (-x) := by
  rw [← q_neg]
  exact SzR.divInt (den_ne x) h.1.neg h.2
theorem SzR.int {n : Nat} {i : Int} (h : Sz n i) (l : 0 < n) : SzR n (i : Rat) := by
  refine ⟨by rw [Rat.num_intCast]; exact h, ?_⟩
  rw [Rat.den_intCast]
  show (1 : Nat) < 2 ^ n
  exact Nat.one_lt_two_pow (by omega)
theorem SzR.zero {n : Nat} (l : 0 < n) : SzR n 0 := SzR.int (i := 0) (by unfold Sz; exact Nat.two_pow_pos n) l
/-! ### lists without zeros at the end -/
def co (l : List Rat) (n : Nat) : Rat := l.getD n 0
theorem co_nil (n : Nat) : co [] n = 0 := by simp [co]
theorem co_zero (x : Rat) (l : List Rat) : co (x :: l) 0 = x := by simp [co]
theorem co_succ (x : Rat) (l : List Rat) (n : Nat) : co (x :: l) (n + 1) = co l n := by simp [co]
theorem co_some {l : List Rat} {n : Nat} {x : Rat} (h : l[n]? = some x) : co l n = x := by simp [co, List.getD, h]
theorem co_lt {l : List Rat} {n : Nat} (h : n < l.length) : l[n]? = some (co l n) := by simp [co, List.getD, List.getElem?_eq_getElem h]
theorem co_ge {l : List Rat} {n : Nat} (h : l.length ≤ n) : co l n = 0 := by simp [co, List.getD, List.getElem?_eq_none h]
def trim : List Rat → List Rat
  | [] => []
  | x :: l => if x = 0 ∧ trim l = [] then [] else x :: trim l
theorem trim_co : ∀ (l : List Rat) (n : Nat), co (trim l) n = co l n
  | [], _ => rfl
  | x :: l, n => by
    unfold trim
    split
    · rename_i h
      cases n with
      | zero => rw [co_nil, co_zero, h.1]
      | succ n => rw [co_nil, co_succ, ← trim_co l n, h.2, co_nil]
    · cases n with
      | zero => rw [co_zero, co_zero]
      | succ n => rw [co_succ, co_succ, trim_co l n]
theorem trim_nil : ∀ {l : List Rat}, (∀ n, co l n = 0) → trim l = []
  | [], _ => rfl
  | x :: l, h => by
    unfold trim
    rw [if_pos ⟨by have := h 0; rwa [co_zero] at this, trim_nil fun n => by have := h (n + 1); rwa [co_succ] at this⟩]
theorem trim_ext : ∀ {l l' : List Rat}, (∀ n, co l n = co l' n) → trim l = trim l'
  | [], l', h => (trim_nil fun n => by rw [← h n, co_nil]).symm
  | x :: l, [], h => trim_nil fun n => by rw [h n, co_nil]
  | x :: l, y :: l', h => by
    have e0 := h 0
    rw [co_zero, co_zero] at e0
    have e1 := trim_ext (l := l) (l' := l') fun n => by have := h (n + 1); rwa [co_succ, co_succ] at this
    unfold trim
    rw [e0, e1]
theorem trim_self : ∀ {l : List Rat}, (l = [] ∨ co l (l.length - 1) ≠ 0) → trim l = l
  | [], _ => rfl
  | x :: l, h => by
    have h := h.resolve_left (by simp)
    unfold trim
    cases l with
    | nil =>
      rw [if_neg (fun z => h (by simpa [co] using z.1))]
      rfl
    | cons y l =>
      have e := trim_self (l := y :: l) (.inr (by
        have : co (x :: y :: l) ((x :: y :: l).length - 1) = co (y :: l) ((y :: l).length - 1) := by
          show co (x :: y :: l) (l.length + 1) = co (y :: l) l.length
          rw [co_succ]
        rw [← this]
        exact h))
      rw [if_neg (fun z => by rw [e] at z; exact absurd z.2 (by simp)), e]
theorem co_take (l : List Rat) (k n : Nat) : co (l.take k) n = if n < k then co l n else 0 := by
  by_cases h : n < k
  · rw [if_pos h]
    simp [co, List.getD, List.getElem?_take, h]
  · rw [if_neg h]
    simp [co, List.getD, List.getElem?_take, h]
/-- what a loop from the end leaves -/
theorem trim_take {l : List Rat} {k : Nat} (hk : k ≤ l.length) (hz : ∀ n, k ≤ n → co l n = 0) (hl : k = 0 ∨ co l (k - 1) ≠ 0) : trim l = l.take k := by
  have e : trim l = trim (l.take k) := trim_ext fun n => by
    rw [co_take]
    split
    · rfl
    · exact hz n (by omega)
  rw [e]
  refine trim_self ?_
  rcases hl with rfl | hl
  · exact .inl (by simp)
  · by_cases h0 : k = 0
    · subst h0
      exact .inl (by simp)
    refine .inr ?_
    rw [List.length_take, Nat.min_eq_left hk, co_take, if_pos (by omega)]
    exact hl
theorem trim_idem (l : List Rat) : trim (trim l) = trim l := trim_ext (trim_co l)
theorem trim_len : ∀ l : List Rat, (trim l).length ≤ l.length
  | [] => Nat.le_refl _
  | x :: l => by
    unfold trim
    split
    · simp
    · simp only [List.length_cons]
      have := trim_len l
      omega
theorem trim_eq (l : List Rat) : trim l = l.take (trim l).length := by
  refine List.ext_getElem? fun n => ?_
  rw [List.getElem?_take]
  by_cases h : n < (trim l).length
  · rw [if_pos h, co_lt h, trim_co]
    have := trim_len l
    rw [co_lt (by omega)]
  · rw [if_neg h, List.getElem?_eq_none (by omega)]
theorem trim_mem {l : List Rat} {x : Rat} (h : x ∈ trim l) : x ∈ l := by
  rw [trim_eq] at h
  exact List.mem_of_mem_take h
theorem trim_last {l : List Rat} : trim l = [] ∨ co l ((trim l).length - 1) ≠ 0 := by
  induction l with
  | nil => exact .inl rfl
  | cons x l ih =>
    unfold trim
    split
    · exact .inl rfl
    · rename_i h
      refine .inr ?_
      simp only [List.length_cons, Nat.add_sub_cancel]
      cases e : trim l with
      | nil =>
        rw [List.length_nil, co_zero]
        exact fun z => h ⟨z, e⟩
      | cons y r =>
        rw [List.length_cons, co_succ]
        have z := ih.resolve_left (by rw [e]; simp)
        rw [e] at z
        exact z
/-! ### products -/
/-- the n-th coefficient of the product, from the first j coefficients of f -/
def S (f g : Nat → Rat) : Nat → Nat → Rat
  | 0, _ => 0
  | j + 1, n => S f g j n + (if j ≤ n then f j * g (n - j) else 0)
/-- and the first k products of the next one -/
def SP (f g : Nat → Rat) (j k n : Nat) : Rat := S f g j n + (if j ≤ n ∧ n - j < k then f j * g (n - j) else 0)
theorem SP_zero (f g : Nat → Rat) (j n : Nat) : SP f g j 0 n = S f g j n := by
  unfold SP
  rw [if_neg (by omega)]
  grind
theorem SP_done {f g : Nat → Rat} {j k n : Nat} (h : ∀ m, k ≤ m → g m = 0) : SP f g j k n = S f g (j + 1) n := by
  unfold SP
  show _ = S f g j n + _
  congr 1
  by_cases h1 : j ≤ n
  · rw [if_pos h1]
    by_cases h2 : n - j < k
    · rw [if_pos ⟨h1, h2⟩]
    · rw [if_neg (fun z => h2 z.2), h _ (by omega)]
      grind
  · rw [if_neg h1, if_neg (fun z => h1 z.1)]
theorem SP_here (f g : Nat → Rat) (j k : Nat) : SP f g j (k + 1) (j + k) = SP f g j k (j + k) + f j * g k := by
  unfold SP
  rw [if_pos ⟨by omega, by omega⟩, if_neg (by omega)]
  rw [show j + k - j = k by omega]
  grind
theorem SP_else {f g : Nat → Rat} {j k n : Nat} (h : n ≠ j + k) : SP f g j (k + 1) n = SP f g j k n := by
  unfold SP
  congr 1
  by_cases h1 : j ≤ n ∧ n - j < k
  · rw [if_pos h1, if_pos ⟨h1.1, by omega⟩]
  · rw [if_neg h1, if_neg (by omega)]
theorem S_more {f g : Nat → Rat} {j n : Nat} (h : ∀ i, j ≤ i → f i = 0) : ∀ k, S f g (j + k) n = S f g j n
  | 0 => rfl
  | k + 1 => by
    show S f g (j + k) n + (if j + k ≤ n then f (j + k) * g (n - (j + k)) else 0) = _
    rw [S_more h k, h (j + k) (by omega)]
    split <;> grind
theorem S_congr {f g f' g' : Nat → Rat} (h1 : ∀ i, f i = f' i) (h2 : ∀ i, g i = g' i) : ∀ j n, S f g j n = S f' g' j n
  | 0, _ => rfl
  | j + 1, n => by
    show S f g j n + _ = S f' g' j n + _
    rw [S_congr h1 h2 j n, h1 j, h2 (n - j)]
theorem S_far {f g : Nat → Rat} {m : Nat} (hg : ∀ i, m ≤ i → g i = 0) : ∀ j n, j + m ≤ n + 1 → S f g j n = 0
  | 0, _, _ => rfl
  | j + 1, n, h => by
    show S f g j n + _ = 0
    rw [S_far hg j n (by omega)]
    split
    · rw [hg (n - j) (by omega)]
      grind
    · grind
/-- the product's coefficients -/
def prod (xs ys : List Rat) : List Rat := trim ((List.range (xs.length + ys.length)).map (S (co xs) (co ys) xs.length))
theorem co_map {f : Nat → Rat} {m n : Nat} : co ((List.range m).map f) n = if n < m then f n else 0 := by
  by_cases h : n < m
  · rw [if_pos h]
    simp [co, List.getD, h]
  · rw [if_neg h]
    simp [co, List.getD, h]
theorem prod_co (xs ys : List Rat) (n : Nat) : co (prod xs ys) n = S (co xs) (co ys) xs.length n := by
  unfold prod
  rw [trim_co, co_map]
  split
  · rfl
  · rw [S_far (m := ys.length) (fun i hi => co_ge hi) _ _ (by omega)]
/-- a list that holds them all -/
theorem prod_of {xs ys us vs l : List Rat} (hx : ∀ n, co xs n = co us n) (hy : ∀ n, co ys n = co vs n) (h : ∀ n, co l n = S (co us) (co vs) us.length n) : trim l = prod xs ys := by
  unfold prod
  refine trim_ext fun n => ?_
  rw [h n, co_map]
  have e : S (co us) (co vs) us.length n = S (co xs) (co ys) xs.length n := by
    rw [S_congr (fun i => (hx i).symm) (fun i => (hy i).symm)]
    rcases Nat.le_total xs.length us.length with z | z
    · have := S_more (f := co xs) (g := co ys) (j := xs.length) (n := n) (fun i hi => co_ge hi) (us.length - xs.length)
      rw [show xs.length + (us.length - xs.length) = us.length by omega] at this
      exact this
    · have := S_more (f := co xs) (g := co ys) (j := us.length) (n := n) (fun i hi => by rw [hx]; exact co_ge hi) (xs.length - us.length)
      rw [show us.length + (xs.length - us.length) = xs.length by omega] at this
      exact this.symm
  rw [e]
  split
  · rfl
  · exact S_far (m := ys.length) (fun i hi => co_ge hi) _ _ (by omega)
end FoQ

/-! Common denominators; products by whole numbers; values of polynomials. Plain mathematics. -/
namespace FoQ
open FoM
def AllSz' (n : Nat) (l : List Rat) : Prop := ∀ i, SzR n (co l i)
/-! ### one denominator for all -/
def lcmD (l : List Rat) : Nat := l.foldl (fun b r => Nat.lcm b r.den) 1
theorem lcmD_snoc (l : List Rat) (r : Rat) : lcmD (l ++ [r]) = Nat.lcm (lcmD l) r.den := by
  unfold lcmD
  rw [List.foldl_append]
  rfl
theorem take_snoc {l : List Rat} {i : Nat} (h : i < l.length) : l.take (i + 1) = l.take i ++ [co l i] := by
  rw [List.take_add_one, co_lt h]
  rfl
theorem lcmD_take {l : List Rat} {i : Nat} (h : i < l.length) : lcmD (l.take (i + 1)) = Nat.lcm (lcmD (l.take i)) (co l i).den := by
  rw [take_snoc h, lcmD_snoc]
theorem lcmD_ind {l : List Rat} {p : Nat → Prop} (h0 : p 1) (hs : ∀ i b, i < l.length → p b → p (Nat.lcm b (co l i).den)) : ∀ i, i ≤ l.length → p (lcmD (l.take i))
  | 0, _ => by simpa [lcmD] using h0
  | i + 1, h => by
    rw [lcmD_take (by omega)]
    exact hs i _ (by omega) (lcmD_ind h0 hs i (by omega))
theorem lcmD_pos (l : List Rat) : 0 < lcmD l := by
  have := lcmD_ind (l := l) (p := fun b => 0 < b) (by decide) (fun i b _ hb => Nat.lcm_pos hb (co l i).den_pos) l.length (Nat.le_refl _)
  rwa [List.take_length] at this
theorem lcmD_pos' (l : List Rat) (i : Nat) : 0 < lcmD (l.take i) := lcmD_pos _
theorem lcmD_dvd {l : List Rat} {i : Nat} (h : i < l.length) : (co l i).den ∣ lcmD l := by
  have key : ∀ k, k ≤ l.length → i < k → (co l i).den ∣ lcmD (l.take k) := by
    intro k
    induction k with
    | zero => intro _ h; omega
    | succ k ih =>
      intro hk hi
      rw [lcmD_take (by omega)]
      by_cases c : i = k
      · subst c
        exact Nat.dvd_lcm_right _ _
      · exact Nat.dvd_trans (ih (by omega) (by omega)) (Nat.dvd_lcm_left _ _)
  have := key l.length (Nat.le_refl _) h
  rwa [List.take_length] at this
theorem lcm_sz {n m a b : Nat} (h : Sz n (a : Int)) (g : Sz m (b : Int)) : Sz (n + m) ((Nat.lcm a b : Nat) : Int) := by
  have z : Nat.lcm a b ≤ a * b := by
    unfold Nat.lcm
    exact Nat.div_le_self _ _
  refine Sz.le (h.mul g) ?_
  rw [Int.natAbs_natCast, ← Int.natCast_mul, Int.natAbs_natCast]
  exact z
theorem lcmD_sz {n : Nat} {l : List Rat} (h : ∀ i, SzR n (co l i)) : ∀ i, i ≤ l.length → Sz (n * i + 1) ((lcmD (l.take i) : Nat) : Int)
  | 0, _ => by
    simp [lcmD, Sz]
  | i + 1, hi => by
    rw [lcmD_take (by omega)]
    have := lcm_sz (lcmD_sz h i (by omega)) (h i).2
    rw [show n * i + 1 + n = n * (i + 1) + 1 by rw [Nat.mul_add]; omega] at this
    exact this
/-- a fraction, times a whole number that its denominator divides -/
theorem whole_eq {r : Rat} {M : Nat} (h : r.den ∣ M) : ((r.num * ((M : Int).fdiv (r.den : Int)) : Int) : Rat) = r * (M : Int) := by
  obtain ⟨k, rfl⟩ := h
  have e : (((r.den * k : Nat) : Int)).fdiv (r.den : Int) = (k : Int) := by
    rw [Int.natCast_mul, Int.mul_comm]
    exact Int.mul_fdiv_cancel _ (den_ne r)
  rw [e]
  have e1 : r = (r.num : Rat) / ((r.den : Int) : Rat) := by
    rw [← Rat.divInt_eq_div, Rat.num_divInt_den]
  have d1 : ((r.den : Int) : Rat) ≠ 0 := by
    intro z
    exact den_ne r (by exact_mod_cast z)
  rw [Int.natCast_mul, Rat.intCast_mul, Rat.intCast_mul]
  generalize ((k : Int) : Rat) = kk at *
  generalize hD : ((r.den : Int) : Rat) = D at *
  generalize hN : (r.num : Rat) = N at *
  rw [e1]
  grind
theorem whole_sz {n m : Nat} {r : Rat} {M : Nat} (h : SzR n r) (g : Sz m (M : Int)) : Sz (n + m) (r.num * ((M : Int).fdiv (r.den : Int))) := by
  refine h.1.mul (Sz.le g ?_)
  rw [Int.fdiv_eq_ediv_of_nonneg _ (by omega)]
  have z : ((M : Int) / (r.den : Int)) = ((M / r.den : Nat) : Int) := by rw [Int.natCast_ediv]
  rw [z, Int.natAbs_natCast, Int.natAbs_natCast]
  exact Nat.div_le_self _ _
theorem fdiv_whole {M d : Nat} : ((M : Int).fdiv (d : Int)) = ((M / d : Nat) : Int) := by
  rw [Int.fdiv_eq_ediv_of_nonneg _ (by omega), Int.natCast_ediv]
/-! ### whole coefficients -/
def ci (xs : List Int) (i : Nat) : Rat := ((xs.getD i 0 : Int) : Rat)
theorem ci_ge {xs : List Int} {i : Nat} (h : xs.length ≤ i) : ci xs i = 0 := by
  unfold ci
  rw [List.getD_eq_getElem?_getD, List.getElem?_eq_none h]
  rfl
theorem S_scale (a b : Rat) (f g : Nat → Rat) : ∀ j n, S (fun i => f i * a) (fun i => g i * b) j n = S f g j n * (a * b)
  | 0, n => by
    show (0 : Rat) = 0 * (a * b)
    grind
  | j + 1, n => by
    show S _ _ j n + _ = (S f g j n + _) * (a * b)
    rw [S_scale a b f g j n]
    split <;> grind
theorem S_zero {f g : Nat → Rat} (h : ∀ i, g i = 0) : ∀ j n, S f g j n = 0
  | 0, _ => rfl
  | j + 1, n => by
    show S f g j n + (if j ≤ n then f j * g (n - j) else 0) = 0
    rw [S_zero h j n, h]
    split <;> grind
theorem ci_set {cs : List Int} {i n : Nat} {v : Int} (h : i < cs.length) : ci (cs.set i v) n = if n = i then (v : Rat) else ci cs n := by
  unfold ci
  rw [List.getD_eq_getElem?_getD, List.getD_eq_getElem?_getD, List.getElem?_set]
  by_cases e : i = n
  · subst e
    rw [if_pos rfl, if_pos h, if_pos rfl]
    rfl
  · rw [if_neg e, if_neg (Ne.symm e)]
theorem getD_set {cs : List Int} {i n : Nat} {v : Int} (h : i < cs.length) : (cs.set i v).getD n 0 = if n = i then v else cs.getD n 0 := by
  rw [List.getD_eq_getElem?_getD, List.getD_eq_getElem?_getD, List.getElem?_set]
  by_cases e : i = n
  · subst e
    rw [if_pos rfl, if_pos h, if_pos rfl]
    rfl
  · rw [if_neg e, if_neg (Ne.symm e)]
theorem ci_rep (n m : Nat) : ci (List.replicate m 0) n = 0 := by
  unfold ci
  have : (List.replicate m (0 : Int)).getD n 0 = 0 := by
    rw [List.getD_eq_getElem?_getD, List.getElem?_replicate]
    split <;> rfl
  rw [this]
  rfl
/-- and divided by it again -/
theorem divInt_whole {c : Int} {s : Rat} {M T : Nat} (hM : 0 < M) (hT : 0 < T) (h : (c : Rat) = s * ((M : Int) * (T : Int))) : Rat.divInt c ((M : Int) * (T : Int)) = s := by
  rw [Rat.divInt_eq_div, h, Rat.intCast_mul]
  have m0 : ((M : Int) : Rat) ≠ 0 := by
    intro z
    have : (M : Int) = 0 := by exact_mod_cast z
    omega
  have t0 : ((T : Int) : Rat) ≠ 0 := by
    intro z
    have : (T : Int) = 0 := by exact_mod_cast z
    omega
  generalize ((M : Int) : Rat) = m at *
  generalize ((T : Int) : Rat) = t at *
  grind
/-! ### values -/
def hor (x : Rat) : List Rat → Rat
  | [] => 0
  | c :: l => hor x l * x + c
theorem hor_trim (x : Rat) : ∀ l : List Rat, hor x (trim l) = hor x l
  | [] => rfl
  | c :: l => by
    unfold trim
    split
    · rename_i h
      have z := hor_trim x l
      rw [h.2] at z
      show (0 : Rat) = hor x l * x + c
      rw [← z, h.1]
      show (0 : Rat) = 0 * x + 0
      grind
    · show hor x (trim l) * x + c = hor x l * x + c
      rw [hor_trim x l]
theorem hor_drop {x : Rat} {l : List Rat} {i : Nat} (h : i < l.length) : hor x (l.drop i) = hor x (l.drop (i + 1)) * x + co l i := by
  rw [List.drop_eq_getElem_cons h]
  show hor x (l.drop (i + 1)) * x + l[i] = _
  have := co_lt h
  rw [List.getElem?_eq_getElem h] at this
  rw [Option.some.inj this]
theorem hor_sz {n m : Nat} {x : Rat} {l : List Rat} (h : ∀ i, SzR n (co l i)) (g : SzR m x) : ∀ k, k ≤ l.length → SzR ((n + m + 1) * k + 1) (hor x (l.drop (l.length - k)))
  | 0, _ => by
    rw [Nat.sub_zero, List.drop_length]
    exact SzR.zero (by omega)
  | k + 1, hk => by
    rw [hor_drop (by omega), show l.length - (k + 1) + 1 = l.length - k by omega]
    have := ((hor_sz h g k (by omega)).mul g).add (h (l.length - (k + 1)))
    rw [show (n + m + 1) * k + 1 + m + n + 1 = (n + m + 1) * (k + 1) + 1 by rw [Nat.mul_add]; omega] at this
    exact this
end FoQ

set_option maxHeartbeats 4100000
/-! A list comprehension whose step may raise (a call in it). -/
namespace FoE
open PySem PySem.Spec PyProof.Rows L2
theorem note_frame {e : Value} {a b : Env} (h : a.frame = b.frame) : noteFrame e a = noteFrame e b := by
  unfold noteFrame PySem.frameOf
  simp only [h]
/-- what is left to do behind the block, whose names stand in ce -/
def After (M : Model) (A : Around) (E : Value → Shared → Prop) (u? : Option (Value → Sem Unit)) (R : Value → Shared → Prop) (l : Value) (ce : Env) : Result → Shared → Prop := fun r t =>
  match r, u? with
  | .ok _, none => ∃ m, t.heap.Ns ce.locals m ∧ ∀ g, Heap.SameBut ce.locals t.heap g → R l { t with heap := g }
  | .ok _, some u => wpAny M A (u l) (fun _ t' => ∃ m, t'.heap.Ns ce.locals m ∧ ∀ g, Heap.SameBut ce.locals t'.heap g → R .none { t' with heap := g }) E t
  | .error x, _ => ∃ m, t.heap.Ns ce.locals m ∧ ∀ g, Heap.SameBut ce.locals t.heap g → wpAny M A (PySem.passOn "comprehension.variables-let-go" x ce : Sem Value) R E { t with heap := g }
section
variable {M : Model} {A : Around} {E : Value → Shared → Prop} {t : Shared} {env : Env}
theorem comp_all {e : Expr} {sc : Scope} {env : Env} {pos : Pos} {newAcc first : Sem Value} {c : Comprehension} {cs : List Comprehension} {cl : List (Str × Addr)} {u? : Option (Value → Sem Unit)} {R : Value → Shared → Prop}
    (h1 : clausesOf e = c :: cs) (h2 : ∀ x, foldedSetIterable c.iter env x = pure x) (h3 : closureFor sc env = pure cl)
    (h4 : sc.kind = .function) (h5 : ∀ x ∈ sc.names, x.2 = .local → sc.names.lookup x.1 = some .local)
    (go : wpAny M A first (fun x s1 => wpAny M A (pyIter x) (fun it s2 => wpAny M A newAcc (fun l s3 =>
      wpAny M A (newFunctionEnv sc env.globals cl [] env.qual none .none (some env)) (fun ce s4 =>
        codeAny M A (.compStart e 0 it l { ce with scope := relabel sc env }) (After M A E u? R l { ce with scope := relabel sc env }) s4) E s3) E s2) E s1) E t) :
    wpAny M A (comprehension e sc env pos newAcc false first u?) R E t := by
  unfold comprehension
  rw [h3, h1]
  refine wpAny_bind (wpAny_mono go (fun x s1 g1 => wpAny_bind (wpAny_standAt (wpAny_bind (wpAny_of_eq (h2 x) (wpAny_bind (wpAny_holding (wpAny_mono g1 (fun it s2 g2 => wpAny_standIf (wpAny_bind (wpAny_mono g2 (fun l s3 g3 => wpAny_bind (wpAny_pure (wpAny_bind (wpAny_mono g3 (fun ce s4 g4 => ?_) fun _ _ z => z)))) fun _ _ z => z))) fun _ _ z => z))))))) fun _ _ z => z)
  dsimp only
  have v1 : ∀ x ∈ (sc.names.filter fun x => (x.2 == .local || x.2 == .cell) && x.1 != (".0" : Str)).reverse, x.2 = .local → Env.kindOf { ce with scope := relabel sc env } x.1 = some .local :=
    fun x hx hl => lookup_relabel_local (h5 x (List.mem_filter.mp (List.mem_reverse.mp hx)).1 hl)
  have v2 : ∀ x ∈ (sc.names.filter fun x => (x.2 == .local || x.2 == .cell) && x.1 != (".0" : Str)).reverse.drop 1 ++ (sc.names.filter fun x => (x.2 == .local || x.2 == .cell) && x.1 != (".0" : Str)).reverse.take 1, x.2 = .local → Env.kindOf { ce with scope := relabel sc env } x.1 = some .local := fun x hx hl =>
    (List.mem_append.mp hx).elim (fun z => v1 x (List.mem_of_mem_drop z) hl) (fun z => v1 x (List.mem_of_mem_take z) hl)
  refine wpAny_holding (wpAny_bind (wpAny_attempt (wpAny_holding (wpAny_run (codeAny_mono g4 fun r s5 q => ?_)))))
  cases r with
  | ok f =>
    cases u? with
    | none =>
      obtain ⟨m, n, q⟩ := q
      exact wpAny_bind (wpAny_holding (wpAny_comp_letGo (cenv := { ce with scope := relabel sc env }) h4 _ s5 m v1 n fun g _ _ sb => wpAny_pure (q g sb)))
    | some u =>
      refine wpAny_bind (wpAny_rule (wpAny_bind (wpAny_holding (wpAny_mono q (fun _ s6 q' => ?_) fun _ _ z => z))))
      obtain ⟨m, n, q'⟩ := q'
      exact wpAny_bind (wpAny_comp_letGo (cenv := { ce with scope := relabel sc env }) h4 _ s6 m v2 n fun g _ _ sb => wpAny_pure (q' g sb))
  | error x =>
    have q' : ∃ m, s5.heap.Ns ce.locals m ∧ ∀ g, Heap.SameBut ce.locals s5.heap g → wpAny M A (PySem.passOn "comprehension.variables-let-go" x { ce with scope := relabel sc env } : Sem Value) R E { s5 with heap := g } := by cases u? <;> exact q
    obtain ⟨m, n, q'⟩ := q'
    exact wpAny_bind (wpAny_holding (wpAny_comp_letGo (cenv := { ce with scope := relabel sc env }) h4 _ s5 m v1 n fun g _ _ sb => q' g sb))
end
/-! ### an exception of a block, whose names stand at C -/
/-- as XE, noted already if b, and without what stands at C -/
def XC (X : Cx) (W : WX) (C : Addr) (b : Bool) (u : Value) (t : Shared) : Prop :=
  ∃ (a : Addr) (B : Heap) (sI : Shared) (pins : List (Addr × Obj)) (σ : L2.St) (H : Hp) (cls : Value) (d : Option Addr),
    u = .ref a ∧ Inv X pins σ H sI ∧ (∀ b o, sI.heap.get? b = some o → b ∉ frs X.stack → B.get? b = some o) ∧ sI.heap.UpToSlots t.heap ∧
      (if b then HandSPX.HeldZ B X.stack a (Zc cls d) X.env.locals t.heap else HandSPX.FlyingZ B X.stack a (Zc cls d) t.heap) ∧ H a = none ∧ t.os = sI.os ∧ AllBare t.gens ∧ W cls d σ H ∧
      B.get? C = none ∧ sI.heap.get? C = none
section
variable {X : Cx} {W : WX} {C : Addr} {u : Value} {t : Shared}
theorem XC.xe (x : XC X W C true u t) : XE X W u t := by
  obtain ⟨a, B, sI, pins, σ, H, cls, d, e, I, nb, up, sky, na, os, ag, w, _, _⟩ := x
  exact ⟨a, B, sI, pins, σ, H, cls, d, e, I, nb, up, .inr (.inr sky), na, os, ag, w⟩
/-- the def's frame notes it -/
theorem XC.noted {ce : Env} {Q : Unit → Shared → Prop} {E : Value → Shared → Prop} (x : XC X W C false u t) (ok : X.A.frames = some X.stack) (hs : X.stack = X.env :: X.outer) (hf : X.env.frame = some X.env.locals) (hce : ce.frame = X.env.frame)
    (hQ : ∀ g, t.heap.UpToSlots g → XC X W C true u { t with heap := g } → Q () { t with heap := g }) : wpAny (model X.prog X.w) X.A (noteFrame u ce) Q E t := by
  obtain ⟨a, B, sI, pins, σ, H, cls, d, rfl, I, nb, up, sky, na, os, ag, w, c1, c2⟩ := x
  rw [note_frame hce]
  have fl : HandSPX.FlyingZ B (X.env :: X.outer) a (Zc cls d) t.heap := by rw [← hs]; exact sky
  refine HandSPX.looks_onZ Zc.steady (by rw [ok, hs]) hf fl fun g hh ug => hQ g ug ?_
  exact ⟨a, B, sI, pins, σ, H, cls, d, rfl, I, nb, up.trans ug, by rw [hs]; exact hh, na, os, ag, w, c1, c2⟩
/-- what stands at C changes -/
theorem frames_but {B h g : Heap} : ∀ {l : List Env}, h.FunFrames B l → (∀ L ∈ frs l, g.get? L = h.get? L) → g.FunFrames B l
  | [], _, _ => trivial
  | env :: l, x, k => by
    obtain ⟨x1, ⟨L, o, x2, x3, x4, x5⟩, x6⟩ := x
    have m : L ∈ frs (env :: l) := List.mem_filterMap.mpr ⟨env, List.mem_cons_self, x2⟩
    refine ⟨x1, ⟨L, o, x2, x3, (k L m).trans x4, x5⟩, frames_but x6 fun b hb => k b ?_⟩
    obtain ⟨e, he, q⟩ := List.mem_filterMap.mp hb
    exact List.mem_filterMap.mpr ⟨e, List.mem_cons_of_mem _ he, q⟩
theorem XC.but {m : Str → Option Value} {g : Heap} (x : XC X W C true u t) (n : t.heap.Ns C m) (sb : Heap.SameBut C t.heap g) (hC : C ∉ frs X.stack) : XC X W C true u { t with heap := g } := by
  obtain ⟨a, B, sI, pins, σ, H, cls, d, rfl, I, nb, up, sky, na, os, ag, w, c1, c2⟩ := x
  obtain ⟨k1, k2, k3, oe, vs, T, oT, ts, he, hz, hd, h1, hnT, hTe, hT, hdT, h3⟩ := (show HandSPX.HeldZ B X.stack a (Zc cls d) X.env.locals t.heap from sky)
  obtain ⟨oC, es, ep, eC, dC, _⟩ := n
  have aC : a ≠ C := fun z => by
    rw [z, eC] at he
    cases he
    rw [dC] at hd
    cases hd
  have tC : T ≠ C := fun z => by
    rw [z, eC] at hT
    cases hT
    rw [dC] at hdT
    cases hdT
  have st : B.StaysIn g := fun b o e => (sb.2 b fun z => by rw [z, c1] at e; cases e).trans (k1 b o e)
  refine ⟨a, B, sI, pins, σ, H, cls, d, rfl, I, nb, fun b o e f => ?_, ?_, na, os, ag, w, c1, c2⟩
  · obtain ⟨sl, q⟩ := up b o e f
    exact ⟨sl, (sb.2 b fun z => by rw [z, c2] at e; cases e).trans q⟩
  · exact ⟨st, k2, frames_but k3 fun L hL => sb.2 L fun z => hC (z ▸ hL), oe, vs, T, oT, ts, (sb.2 a aC).trans he, hz, hd, h1, hnT, hTe, (sb.2 T tC).trans hT, hdT, h3⟩
theorem XC.pass {ce : Env} {R : Value → Shared → Prop} (x : XC X W C true u t) (hf : X.env.frame = some X.env.locals) (hce : ce.frame = X.env.frame) (tk : Takes X W) :
    wpAny (model X.prog X.w) X.A (PySem.passOn "comprehension.variables-let-go" u ce : Sem Value) R X.xe t := by
  obtain ⟨a, B, sI, pins, σ, H, cls, d, rfl, I, nb, up, sky, na, os, ag, w, c1, c2⟩ := x
  have sky : HandSPX.HeldZ B X.stack a (Zc cls d) X.env.locals t.heap := sky
  obtain ⟨k1, k2, k3, oe, vs, T, oT, ts, he, hz, hd, h1, _⟩ := id sky
  unfold PySem.passOn
  refine wpAny_bind (wpAny_field he hd h1 ?_)
  rw [if_neg (show ¬ ((Value.ref T == Value.none) = true) from by simp)]
  have fin : wpAny (model X.prog X.w) X.A (setFlight (.ref a) ce.frame) (fun _ s4 => wpAny (model X.prog X.w) X.A (throw (.ref a) : Sem Value) R X.xe s4) X.xe t := by
    rw [hce, hf]
    refine HandSPX.setFlight_onZ sky fun g hh ug => wpAny_throw (tk _ _ ?_)
    exact ⟨a, B, sI, pins, σ, H, cls, d, rfl, I, nb, up.trans ug, .inr (.inr hh), na, os, ag, w⟩
  first
    | exact wpAny_bind (wpAny_pure (wpAny_bind fin))
    | exact wpAny_bind fin
end

/-- a block's context, with a wish about what is raised in it -/
abbrev blkX (X : Cx) (s : Shared) (H : Hp) (sc : Scope) (ce : Env) (fp : List Addr) (xe : Value → Shared → Prop) : Cx := { X.blk s H sc ce fp with xe := xe }
theorem toX {X : Cx} {s t : Shared} {H H' : Hp} {sc : Scope} {ce : Env} {fp : List Addr} {xe : Value → Shared → Prop} {pz : List (Addr × Obj)} {τ : L2.St} (I : Inv (X.blk s H sc ce fp) pz τ H' t) : Inv (blkX X s H sc ce fp xe) pz τ H' t :=
  ⟨⟨I.ok.mod, I.ok.kind, I.ok.glob, I.ok.blt, I.ok.above, I.ok.inj, I.ok.has, I.ok.cab, I.ok.hd, I.ok.frames, I.ok.stk, I.ok.exf, I.ok.bs, I.ok.bsz, I.ok.noex, I.ok.exfs, I.ok.funs, I.ok.frf⟩, I.os, I.bare, I.base, I.loc, I.cell, I.free, I.freeC, I.pin, I.hok, I.len⟩
theorem ofX {X : Cx} {s t : Shared} {H H' : Hp} {sc : Scope} {ce : Env} {fp : List Addr} {xe : Value → Shared → Prop} {pz : List (Addr × Obj)} {τ : L2.St} (I : Inv (blkX X s H sc ce fp xe) pz τ H' t) : Inv (X.blk s H sc ce fp) pz τ H' t :=
  ⟨⟨I.ok.mod, I.ok.kind, I.ok.glob, I.ok.blt, I.ok.above, I.ok.inj, I.ok.has, I.ok.cab, I.ok.hd, I.ok.frames, I.ok.stk, I.ok.exf, I.ok.bs, I.ok.bsz, I.ok.noex, I.ok.exfs, I.ok.funs, I.ok.frf⟩, I.os, I.bare, I.base, I.loc, I.cell, I.free, I.freeC, I.pin, I.hok, I.len⟩
/-- what a call of a block let out, as the def sees it -/
theorem XC.of_call {X : Cx} {s3 s5 s' : Shared} {H3 H5 : Hp} {sc : Scope} {ce : Env} {fp : List Addr} {pins pz : List (Addr × Obj)} {σ τ : L2.St} {W : WX} {E : XK} {u : Value} (I3 : Inv X pins σ H3 s3) (I : Inv (X.blk s3 H3 sc ce fp) pz τ H5 s5)
    (hfp : ∀ b ∈ fp, FpOk X pins H3 b ∧ b < s3.heap.objs.size) (cL : ce.locals = s3.heap.objs.size) (hW : ∀ cls d H', E cls d H' → W cls d σ H') (c : L2.CX X.prog X.w X.stack H5 s5 E u s') : XC X W s3.heap.objs.size false u s' := by
  obtain ⟨a, B, H', cls, d, rfl, fl, hok, ub, na, os, ag, hE⟩ := c
  obtain ⟨G, g1, g2⟩ := restrict s'.heap fun b => ((B.get? b).isSome && decide (b ≠ s3.heap.objs.size)) || decide (b ∈ frs X.stack)
  have st : B.StaysIn s'.heap := fl.1
  have nC : s3.heap.get? s3.heap.objs.size = none := by
    cases e : s3.heap.get? s3.heap.objs.size with
    | none => rfl
    | some o => exact absurd (Heap.lt_size e) (Nat.lt_irrefl _)
  have hC0 : s3.heap.objs.size ∉ frs X.stack := fun z => by
    obtain ⟨_, o, e, _⟩ := I3.stack.mem z
    rw [nC] at e
    cases e
  have gB : ∀ b o, B.get? b = some o → b ≠ s3.heap.objs.size → G.get? b = some o := fun b o e n => by
    rw [g1 b (by simp [e, n])]
    exact st b o e
  have gF : ∀ b, b ∈ frs X.stack → G.get? b = s'.heap.get? b := fun b hb => g1 b (by simp [hb])
  have og : ∀ b o, G.get? b = some o → s'.heap.get? b = some o ∧ (((B.get? b).isSome = true ∧ b ≠ s3.heap.objs.size) ∨ b ∈ frs X.stack) := fun b o e => by
    cases q : (((B.get? b).isSome && decide (b ≠ s3.heap.objs.size)) || decide (b ∈ frs X.stack)) with
    | false => rw [g2 b q] at e; cases e
    | true =>
      rw [g1 b q] at e
      exact ⟨e, by simpa [Bool.or_eq_true] using q⟩
  have ne3 : ∀ b o, s3.heap.get? b = some o → b ≠ s3.heap.objs.size := fun b o e z => by rw [z, nC] at e; cases e
  have HC : H' s3.heap.objs.size = none := by
    obtain ⟨m, ⟨oC, es, ep, eC, _⟩, _⟩ := I.loc
    have eC : s5.heap.get? ce.locals = some oC := eC
    have z : H5 ce.locals = none := I.free
    rw [cL] at eC z
    exact ub.free _ _ eC z
  have hokG : HOk X.prog X.w H' G := fun b o q => (hok b o q).stay (fun c v hc r => gB c v r fun z => by
    rcases hc with hc | hc
    · rw [hc] at z
      rw [z, HC] at q
      cases q
    · rw [z, HC] at hc
      cases hc) (fun _ r => r) fun _ _ r => r
  have un := I.base
  have un : Un (frs X.stack) fp H3 H5 s3.heap s5.heap := un
  have J : Inv X pins σ H' { s5 with heap := G, gens := s'.gens, drawn := s'.drawn, toks := s'.toks } := by
    refine I3.call' (ch := fp) I.os ⟨fun b o e n h1 h2 => ?_, fun b o e n h1 h2 => ?_, fun b o e n h2 => ?_, fun b o e h2 => ?_, fun b xs q => ub.tups b xs (un.tups b xs q), fun b o v q => ub.frzs b o v (un.frzs b o v q), fun b ps q => ?_⟩ hokG ag
      fun b hb => ⟨(hfp b hb).1.2.2.2.1, (hfp b hb).1.2.1, (hfp b hb).1.2.2.2.2.1, (hfp b hb).1.2.2.2.2.2⟩
    · exact gB b o (ub.keep b o (un.keep b o e n h1 h2) (un.free b o e n h2) h1) (ne3 b o e)
    · obtain ⟨sl, q⟩ := un.slot b o e n h1 h2
      obtain ⟨sl2, q2⟩ := ub.slot b _ q h1
      exact ⟨sl2, by rw [gF b h1]; exact q2⟩
    · by_cases hb : b ∈ frs X.stack
      · obtain ⟨sl, q⟩ := un.slot b o e n hb h2
        exact ub.free b _ q (un.free b o e n h2)
      · exact ub.free b o (un.keep b o e n hb h2) (un.free b o e n h2)
    · obtain ⟨o1, q1⟩ := un.there b o e h2
      by_cases hb : b ∈ frs X.stack
      · obtain ⟨sl, q⟩ := ub.slot b o1 q1 hb
        exact ⟨_, by rw [gF b hb]; exact q⟩
      · obtain ⟨o', q⟩ := ub.there b o1 q1 hb
        exact ⟨o', gB b o' q (ne3 b o e)⟩
    · obtain ⟨m1, q1⟩ := un.tbls b ps q
      obtain ⟨m2, q2⟩ := ub.tbls b _ q1
      exact ⟨m1 ++ m2, by rw [q2, Array.append_assoc]⟩
  refine ⟨a, PySem.W.hideAll B [s3.heap.objs.size], { s5 with heap := G, gens := s'.gens, drawn := s'.drawn, toks := s'.toks }, pins, σ, H', cls, d, rfl, J, fun b o e hb => ?_, Heap.UpToSlots.of_keeps fun b o e => (og b o e).1, ?_, na, os, ag, hW _ _ _ hE, ?_, ?_⟩
  · obtain ⟨e', h⟩ := og b o e
    rcases h with ⟨h, n⟩ | h
    · obtain ⟨o', q⟩ := Option.isSome_iff_exists.mp h
      have z := st b o' q
      rw [e'] at z
      cases z
      exact PySem.W.hideAll_get _ q (by simpa using n)
    · exact absurd h hb
  · obtain ⟨k1, k2, k3, oe, vs, T, oT, ts, he, hz, hd, h1, hnT, hTe, hT, hdT, h3⟩ := fl
    have hid : ∀ {b : Addr}, B.get? b = none → (PySem.W.hideAll B [s3.heap.objs.size]).get? b = none := fun {b} z => by
      cases q : (PySem.W.hideAll B [s3.heap.objs.size]).get? b with
      | none => rfl
      | some o =>
        have y := PySem.W.of_hideAll _ q
        rw [z] at y
        cases y
    exact ⟨fun b o e => st b o (PySem.W.of_hideAll _ e), hid k2, funFrames_none k3 fun L hL => hid (k3.mem hL).1, oe, vs, T, oT, ts, he, hz, hd, h1, hid hnT, hTe, hT, hdT, h3⟩
  · exact PySem.W.hideAll_none _ (by simp)
  · refine g2 _ ?_
    simp [hC0]

/-- [elt for target in iter if ..], a step may raise: te is told what is wished of an exception of it -/
def tLcX (wi : TI) (g : TG) (tt : TT) (te : WX → TE) (vs : List Nat) (W : WX) : TE := fun τ H Q => wi τ H fun J H1 => ∀ D, H1 D = none → ∃ V : Nat → Nat → Hp → Prop, (∃ m, V 0 m (upd H1 D (.lst []))) ∧ ∀ i m H, V i m H →
  (J.stop i H ∧ Q (.ref D) H) ∨ (J.go i H ∧ ∃ Nx : Hp → Prop, (∀ H', Nx H' → ∃ m', m' < m ∧ V (i + 1) m' H') ∧ ∀ x H', J.yld i H x H' → g x (wipe τ vs) H' fun σ2 H2 => wipe σ2 vs = wipe τ vs ∧ tt σ2 H2 fun b H3 =>
    if b = true then te (fun cls d _ H => W cls d τ H) σ2 H3 fun y H4 => ∃ acc, H4 D = some (.lst acc) ∧ acc.length < sizeLine ∧ Nx (upd H4 D (.lst (acc ++ [y]))) else Nx H3)
section
variable {X : Cx} {elt tg iter : Expr} {ifs : List Expr} {scope : Scope} {own : List (Str × Nat)} {pos pos' : Pos} {wi : TI} {g : TG} {tt : TT} {te : WX → TE} {W : WX}
theorem core {pz : List (Addr × Obj)} {s : Shared} {τ : L2.St} {H : Hp} {Q : VK} {u? : Option (Value → Sem Unit)} {Qf : Value → Shared → Prop}
    (hs : X.stack = X.env :: X.outer) (hf : X.env.frame = some X.env.locals) (tk : Takes X W) (hc : X.calm = true) (hN : X.N.Nodup) (I : Inv X pz τ H s) (hi : PI X tg iter wi) (ok : BlkOk X.N X.env.scope scope own)
    (hg : ∀ s H C cl fp xe, PG (blkX X s H scope (compEnvC scope cl C X.env) fp xe) tg g) (ht : ∀ s H C cl fp xe, PTs (blkX X s H scope (compEnvC scope cl C X.env) fp xe) ifs tt)
    (he : ∀ s H C cl fp xe V, (∀ σ, PassesAt (L2.CX X.prog X.w) (blkX X s H scope (compEnvC scope cl C X.env) fp xe) σ (WE V σ)) → PE (blkX X s H scope (compEnvC scope cl C X.env) fp xe) elt (te V)) (hset : ∀ x, foldedSetIterable iter X.env x = pure x)
    (h : tLcX wi g tt te (own.map (·.2)) W τ H Q)
    (hR : ∀ D ce s' m H', Inv X pz τ H' s' → Q (.ref D) H' → s'.heap.Ns ce.locals m → FpOk X pz H' ce.locals → After (model X.prog X.w) X.A X.xe u? Qf (.ref D) ce (.ok .next) s') :
    wpAny (model X.prog X.w) X.A (comprehension (.ListComp elt [⟨tg, iter, ifs, 0⟩] scope pos) scope X.env pos' (newList []) false (eval iter X.env) u?) Qf X.xe s := by
  have hfree : ∀ y ∈ scope.names, y.2 = .free → ∃ c, X.env.cells.lookup y.1 = some c := fun y hy e =>
    (ok.free y hy e).elim (fun k => I.ok.has _ (.inl k)) (fun k => I.ok.has _ (.inr k))
  refine comp_all (u? := u?) rfl hset (closure_ok hfree) ok.kind (fun y hy e => by rw [ok.uniq y hy, e]) (thn (hi.run pz s τ H _ I h) fun xv s1 hx => thn hx fun itv s2 h2 => ?_)
  obtain ⟨it, fp, tn, J, H2, e, I2, T, st2, f2, q⟩ := h2
  subst e
  refine wpAny_newObj_type (newEnv_comp ?_) (by show 0 ≤ sizeLine; decide)
  generalize hD : s2.heap.objs.size = D
  have hDn : H2 D = none := I2.hok.fresh (Nat.le_of_eq hD)
  obtain ⟨V, ⟨m0, w0⟩, turn⟩ := q D hDn
  generalize hs3 : ({ s2 with heap := s2.heap.push { cls := .type "list", data := .seq ([] : List Value).toArray } } : Shared) = s3
  have I3 : Inv X pz τ (upd H2 D (.lst [])) s3 := by
    rw [← hs3]
    exact I2.laid (t' := s2.toks) (fun b o e => Heap.get?_push_of_some _ e) (Nat.le_of_eq hD) ⟨Nat.zero_le _, [], 0, .nil, by rw [← hD]; exact Heap.get?_push_size _ rfl⟩
  have h3 : s3.heap = s2.heap.push { cls := .type "list", data := .seq ([] : List Value).toArray } := by rw [← hs3]
  have f3 : ∀ b ∈ fp, FpOk X pz (upd H2 D (.lst [])) b ∧ b < s3.heap.objs.size := fun b hb => by
    obtain ⟨o, e, _⟩ := T.obj _ _ st2 b hb
    have hlt := Heap.lt_size e
    exact ⟨⟨by rw [upd_ne (by rw [← hD]; exact Nat.ne_of_lt hlt)]; exact (f2 b hb).1, (f2 b hb).2⟩, by rw [h3, Heap.size_push]; exact Nat.lt_succ_of_lt hlt⟩
  have st3 : tn 0 s3.heap := T.keep _ _ _ st2 fun b _ o e => by rw [h3]; exact Heap.get?_push_of_some _ e
  have I4 := block_start I3 ok hN f3
  show codeAny _ _ (.compStart (.ListComp elt [⟨tg, iter, ifs, 0⟩] scope pos) 0 (.ref it) (.ref D) (compEnvC scope (cellsFrom (s3.heap.objs.size + 1) scope.names (cloFrom X.env.cells scope.names [])) s3.heap.objs.size X.env)) (After (model X.prog X.w) X.A X.xe u? Qf (.ref D) (compEnvC scope (cellsFrom (s3.heap.objs.size + 1) scope.names (cloFrom X.env.cells scope.names [])) s3.heap.objs.size X.env)) { s3 with heap := pushCells (s3.heap.push { cls := .type "dict", data := .dict #[] }) scope.names }
  have nfp : ∀ b ∈ fp, (upd H2 D (.lst [])) b = none := fun b hb => (f3 b hb).1.1
  generalize hcl : cellsFrom (s3.heap.objs.size + 1) scope.names (cloFrom X.env.cells scope.names []) = cl at I4 ⊢
  generalize hce : compEnvC scope cl s3.heap.objs.size X.env = ce at I4 ⊢
  have cL : ce.locals = s3.heap.objs.size := by subst hce; rfl
  have cF : ce.frame = X.env.frame := by subst hce; rfl
  generalize hH3 : upd H2 D (.lst []) = H3 at I3 I4 w0 nfp f3
  generalize hs4 : ({ s3 with heap := pushCells (s3.heap.push { cls := .type "dict", data := .dict #[] }) scope.names } : Shared) = s4 at I4 ⊢
  have st4 : tn 0 s4.heap := T.keep _ _ _ st3 fun b _ o e => by rw [← hs4]; exact pushCells_keeps _ _ _ _ (Heap.get?_push_of_some _ e)
  -- what is wished of an exception in the block
  generalize hxe : notedBy (model X.prog X.w) X.A ce (fun e s' => After (model X.prog X.w) X.A X.xe u? Qf (.ref D) ce (.error e) s') = xe
  have pg := hg s3 H3 s3.heap.objs.size cl fp xe
  have pt := ht s3 H3 s3.heap.objs.size cl fp xe
  have pe := he s3 H3 s3.heap.objs.size cl fp xe (fun cls d _ H => W cls d τ H)
  rw [hce] at pg pt pe
  have hC0 : s3.heap.objs.size ∉ frs X.stack := fun z => by
    obtain ⟨_, o, e, _⟩ := I3.stack.mem z
    exact absurd (Heap.lt_size e) (Nat.lt_irrefl _)
  have pe := pe fun σ2 pz2 H5 s5 e s6 I5 c => by
    have x : XC X W s3.heap.objs.size false e s6 := XC.of_call I3 (ofX I5) f3 cL (fun cls d H' h => h) c
    have n6 : ∃ m, s6.heap.Ns ce.locals m := by
      obtain ⟨a, B, H', cls, d, _, fl, _, ub, _⟩ := c
      obtain ⟨m, ⟨oC, es, ep, eC, r⟩, _⟩ := I5.loc
      have eC : s5.heap.get? ce.locals = some oC := eC
      have z : H5 ce.locals = none := I5.free
      exact ⟨m, oC, es, ep, fl.1 _ _ (ub.keep _ _ eC z (by rw [cL]; exact hC0)), r⟩
    show xe e s6
    rw [← hxe]
    refine x.noted I3.ok.frames hs hf cF fun g6 ug x6 => ?_
    obtain ⟨m, oC, es, ep, eC, dC, r⟩ := n6
    obtain ⟨sl, eg⟩ := ug _ _ eC (fun vs z => by rw [dC] at z; cases z)
    have ng : Heap.Ns g6 ce.locals m := ⟨_, es, ep, eg, dC, r⟩
    show ∃ m, Heap.Ns g6 ce.locals m ∧ _
    refine ⟨m, ng, fun g7 sb => ?_⟩
    rw [cL] at ng sb
    exact (XC.but x6 ng sb hC0).pass hf cF tk
  have stat : ∀ {σ' : L2.St} {H' : Hp} {s' : Shared}, Inv (blkX X s3 H3 scope ce fp xe) [] σ' H' s' → (∀ b ∈ fp, H' b = none) → ∀ b ∈ fp, FpOk (blkX X s3 H3 scope ce fp xe) [] H' b := fun {σ' H' s'} I' hn b hb =>
    ⟨hn b hb, (I'.ok.exf b hb).1, I'.ok.exfs b hb, .inl hb, fun x c e => (I'.ok.exf b hb).2 x c e, fun p hp => absurd (show p ∈ ([] : List (Addr × Obj)) ++ [] from hp) (by simp)⟩
  have loop : codeAny (model X.prog X.w) X.A (.compLoop (.ListComp elt [⟨tg, iter, ifs, 0⟩] scope pos) 0 (.ref it) (.ref D) ce) (After (model X.prog X.w) X.A X.xe u? Qf (.ref D) ce) s4 := by
    refine compLoop_any (fun n s' => ∃ i H', Inv (blkX X s3 H3 scope ce fp xe) [] (wipe τ (own.map (·.2))) H' s' ∧ tn i s'.heap ∧ (∀ b ∈ fp, H' b = none) ∧ V i n H') ?_ m0 ⟨0, H3, toX I4, st4, nfp, w0⟩
    rintro n s5 ⟨i, H5, I5, st5, n5, w5⟩
    rw [hxe]
    rcases turn i n H5 w5 with ⟨stop, qq⟩ | ⟨go, Nx, hNx, step⟩
    · refine thnF (T.done (blkX X s3 H3 scope ce fp xe) rfl rfl rfl hc i [] s5 _ H5 (fun _ _ => False) I5 (stat I5 n5) st5 stop) fun r s6 ⟨hr, I6⟩ => ?_
      subst hr
      have I7 : Inv X pz τ H5 s6 := I3.call' (ch := fp) I6.os I6.base I6.hok I6.bare fun b hb => ⟨(f3 b hb).1.2.2.2.1, (f3 b hb).1.2.1, (f3 b hb).1.2.2.2.2.1, (f3 b hb).1.2.2.2.2.2⟩
      obtain ⟨m, hn, _⟩ := I6.loc
      have z : H5 ce.locals = none := I6.free
      exact hR D ce s6 m H5 I7 qq hn (I3.fpOk (by rw [cL]; exact Nat.le_refl _) z)
    · refine thnF (T.item (blkX X s3 H3 scope ce fp xe) rfl rfl rfl hc i [] s5 _ H5 (fun _ _ => False) I5 (stat I5 n5) st5 go) fun r s6 ⟨u, hr, h6⟩ => ?_
      subst hr
      refine thnF h6 fun _ s7 ⟨x, H7, I7, r7, y7, st7, n7⟩ => ?_
      have I7' := I7.pinned (stat I7 n7) (T.obj _ _ st7)
      refine thn (pg.run _ s7 _ H7 x u _ I7' r7 (step x H7 y7)) fun _ s8 ⟨σ8, H8, I8, hw8, q8⟩ => ?_
      refine thn (pt.run _ s8 σ8 H8 _ I8 q8) fun b s9 ⟨H9, I9, q9⟩ => ?_
      have fin : ∀ {s' : Shared} {H' : Hp}, Inv (blkX X s3 H3 scope ce fp xe) ([] ++ pinsAt fp s7.heap) σ8 H' s' → Nx H' → ∃ m, m < n ∧ ∃ i H', Inv (blkX X s3 H3 scope ce fp xe) [] (wipe τ (own.map (·.2))) H' s' ∧ tn i s'.heap ∧ (∀ b ∈ fp, H' b = none) ∧ V i m H' := fun {s' H'} I' nx => by
        obtain ⟨m', hm, w'⟩ := hNx H' nx
        have pin' : ∀ b ∈ fp, ∀ o, s7.heap.get? b = some o → s'.heap.get? b = some o ∧ H' b = none := fun b hb o e =>
          let z := I'.pin (b, o) (List.mem_append_right _ (List.mem_append_right _ (mem_pinsAt hb e)))
          ⟨z.1, z.2.1⟩
        have hl : (wipe τ (own.map (·.2))).length = σ8.length := by rw [← hw8, wipe_length]
        refine ⟨m', hm, i + 1, H', (I'.unpinned (pins := [])).weak hl (fun j v e => ?_), T.keep _ _ _ st7 fun b hb o e => (pin' b hb o e).1, fun b hb => ?_, w'⟩
        · rw [← hw8] at e
          exact (wipe_some e).1
        · obtain ⟨o, e, _⟩ := T.obj _ _ st7 b hb
          exact (pin' b hb o e).2
      cases b with
      | false =>
        simp only [Bool.false_eq_true, if_false] at q9 ⊢
        exact fin I9 q9
      | true =>
        simp only [if_true] at q9 ⊢
        refine thn (pe.run _ s9 σ8 H9 _ I9 q9) fun z s10 ⟨yv, H10, I10, r10, acc, hD10, hz10, nx⟩ => ?_
        exact app_ok (X := blkX X s3 H3 scope ce fp xe) I10 hD10 hz10 r10 fun s11 I11 => fin I11 nx
  exact codeAny_compStart_list loop (T.self X.A 0 _ _ _ st4 loop)
/-- as a value -/
theorem pe_lcX (hs : X.stack = X.env :: X.outer) (hf : X.env.frame = some X.env.locals) (tk : Takes X W) (hc : X.calm = true) (hN : X.N.Nodup) (hi : PI X tg iter wi) (ok : BlkOk X.N X.env.scope scope own)
    (hg : ∀ s H C cl fp xe, PG (blkX X s H scope (compEnvC scope cl C X.env) fp xe) tg g) (ht : ∀ s H C cl fp xe, PTs (blkX X s H scope (compEnvC scope cl C X.env) fp xe) ifs tt)
    (he : ∀ s H C cl fp xe V, (∀ σ, PassesAt (L2.CX X.prog X.w) (blkX X s H scope (compEnvC scope cl C X.env) fp xe) σ (WE V σ)) → PE (blkX X s H scope (compEnvC scope cl C X.env) fp xe) elt (te V))
    (hset : ∀ x, foldedSetIterable iter X.env x = pure x := by intro _; rfl) :
    PE X (.ListComp elt [⟨tg, iter, ifs, 0⟩] scope pos) (tLcX wi g tt te (own.map (·.2)) W) := by
  refine ⟨fun pz s τ H Q I h => ?_⟩
  rw [eval_ListComp]
  refine core hs hf tk hc hN I hi ok hg ht he hset h fun D ce s' m H' I' q hn f => ⟨m, hn, fun h'' sb => ?_⟩
  obtain ⟨f0, f1, f2, f3, f4, f5⟩ := f
  exact ⟨.ref D, H', I'.turned (t' := s'.toks) (fun b o hb e => (sb.2 b hb).trans e) f0 f1 f3 f4 f5, rfl, q⟩
end
end FoE

set_option maxHeartbeats 4100000
/-! == of tuples, whose items are told by their own == . -/
namespace FoG
open PySem PySem.Spec PyProof.Rows L2
def inN : Nat → Around → Around
  | 0, A => A
  | n + 1, A => (inN n A).in1
theorem inN_room {A : Around} : ∀ {n k : Nat}, Room (k + n) A → Room k (inN n A)
  | 0, _, r => r
  | n + 1, k, r => by
    have z : Room (k + 1) (inN n A) := inN_room (by rw [Nat.add_right_comm]; exact r)
    exact ⟨z.hd, by have := z.dp; show (inN n A).depth + 3 * k + 5 < _; omega, by have := z.un; show (inN n A).units + 1 + 16 * k + 200 < _; omega⟩
theorem inN_env {P : Program} {w : World} {K : PySem.W.Frag} {mg : Str → Option Value} {base : Heap} {A : Around} {outer : List Env} {s : Shared} {H : Hp} (e : Env0 P w K mg base A outer s H) : ∀ n, Env0 P w K mg base (inN n A) outer s H
  | 0 => e
  | n + 1 => (inN_env e n).in1
/-- x == y, n units deeper: it is b, and nothing has changed -/
def EqW (X : Cx) (n : Nat) (H : Hp) (x y : V) (b : Bool) : Prop := ∀ pz τ s v u (Q : Bool → Shared → Prop), Inv X pz τ H s → RelV x v → RelV y u → (∀ s', Inv X pz τ H s' → Q b s') → wpAny (model X.prog X.w) (inN n X.A) (eqBool v u) Q X.xe s
section
variable {X : Cx} {CX : CXT} {k n : Nat} {f C a b : Addr} {fd : FuncData} {ps : List Str} {sp : Sp} {E : XK} {H : Hp}
theorem ask_refs {M : Model} {A : Around} {E : Value → Shared → Prop} {Q : Bool → Shared → Prop} {s : Shared} (h1 : a = b → Q true s) (h : a ≠ b → wpAny M A (richCompare .Eq (.ref a) (.ref b)) (fun v s' => ∃ c, v = .bool c ∧ Q c s') E s) : wpAny M A (eqBool (.ref a) (.ref b)) Q E s := by
  unfold eqBool
  refine wpAny_holding ?_
  by_cases e : a = b
  · subst e
    rw [if_pos (beq_self_eq_true _)]
    exact wpAny_bind (wpAny_rule (wpAny_pure (h1 rfl)))
  · rw [if_neg (fun z => e (by have z := eq_of_beq z; injection z))]
    refine wpAny_bind (wpAny_mono (h e) (fun v s' z => ?_) fun _ _ z => z)
    obtain ⟨c, rfl, q⟩ := z
    exact wpAny_truthy_bool q
theorem eqW_own (F : FnOk X.prog X.w X.K X.mg X.base CX k f fd ps sp) (hr : Room (k + n) X.A) (hb : Binds X.K fd ps []) (hx : Passes CX X E) (B : FoA.CmpC X.K C f .Eq) {dx dy : Addr} {fs gs : List (Str × V)} (ea : H a = some (.ins C dx fs)) (eb : H b = some (.ins C dy gs))
    {c : Bool} (hc : a = b → c = true) (h : sp [.ref a, .ref b] H (fun v H' => v = .bl c ∧ H' = H) E) : EqW X n H (.ref a) (.ref b) c := by
  intro pz τ s v u Q I rv ru q
  cases rv
  cases ru
  refine ask_refs (fun e => by rw [hc e] at q; exact q s I) fun _ => ?_
  obtain ⟨mA, J, _⟩ := ins_get I.hok ea
  obtain ⟨od, J, _⟩ := J.look
  obtain ⟨mB, J', _⟩ := ins_get I.hok eb
  obtain ⟨od', J', _⟩ := J'.look
  obtain ⟨m, hF⟩ := I.fr
  have hr1 : Room k (inN n X.A) := inN_room hr
  have bd := hb s [.ref a, .ref b] I.kIn (by rw [List.append_nil]; exact F.len _ _ _ _ h)
  rw [List.append_nil] at bd
  refine PySem.W.cmp_K hr1.units0 hF I.ok.mod.kin J J'.type (by simp [PySem.W.notFirst]) B.at_ B.fn ?_
  refine wpAny_call (codeAny_mono (F.run (inN n X.A) X.stack s H ⟨[.ref a, .ref b], []⟩ [.ref a, .ref b] [.ref a, .ref b] _ E hr1 (inN_env I.env0 n) bd (.cons rfl (.cons rfl .nil)) h) fun r s' hj => ?_)
  cases r with
  | error e => exact hx pz τ H s e s' I hj
  | ok fl =>
    cases fl with
    | ret w =>
      obtain ⟨y, H', I', rv, e1, e2⟩ := I.after hj
      subst e1 e2
      cases rv
      exact ⟨c, rfl, q _ I'⟩
    | next => exact False.elim hj
    | brk => exact False.elim hj
    | cont => exact False.elim hj
/-- the items' answers, one after the other -/
inductive EqWs (X : Cx) (n : Nat) (H : Hp) : List V → List V → Bool → Prop where
  | nil : EqWs X n H [] [] true
  | left {x : V} {xs : List V} : EqWs X n H (x :: xs) [] false
  | right {y : V} {ys : List V} : EqWs X n H [] (y :: ys) false
  | cons {x y : V} {xs ys : List V} {b c : Bool} (h : EqW X n H x y b) (t : EqWs X n H xs ys c) : EqWs X n H (x :: xs) (y :: ys) (b && c)
theorem EqWs.len {n : Nat} {H : Hp} : ∀ {xs ys : List V} {c : Bool}, EqWs X n H xs ys c → c = true → xs.length = ys.length
  | _, _, _, .nil, _ => rfl
  | _, _, _, .cons h t, e => by
    rw [Bool.and_eq_true] at e
    rw [List.length_cons, List.length_cons, t.len e.2]
theorem tup_builtin {pz : List (Addr × Obj)} {τ : L2.St} {s : Shared} {xs ys : List V} {c : Bool} {P : Fin → Shared → Prop} (n : Nat) (I : Inv X pz τ H s) (ha : SqT X.K H a xs) (hb : SqT X.K H b ys) (e : EqWs X n H xs ys c)
    (h : ∀ s', Inv X pz τ H s' → P (.done (.ret (.bool c))) s') : wpAny (model X.prog X.w) (inN n X.A) (Builtin.«tuple.__eq__» ⟨[.ref a, .ref b], []⟩) P X.xe s := by
  obtain ⟨as, ra, ⟨oa, hoa, hca, na, hda⟩, _⟩ := I.tuple ha
  obtain ⟨bs, rb, ⟨ob, hob, hcb, nb, hdb⟩, _⟩ := I.tuple hb
  have hTb : s.TypeIs (.ref b) "tuple" := ⟨ob, hob, hcb⟩
  show wpAny _ _ (isInstance (.ref b) (.type "tuple") >>= _) _ _ s
  refine wpAny_bind (wpAny_isInstance hTb isSubtype_tuple_tuple ?_)
  simp only [Bool.not_true, Bool.false_eq_true, if_false]
  refine wpAny_bind (wpAny_tupleItemsOf hoa hda (wpAny_bind (wpAny_tupleItemsOf hob hdb (wpAny_bind ?_))))
  have zl : ((as.toArray.size == bs.toArray.size) = true) = (xs.length = ys.length) := by
    have e1 := ra.length
    have e2 := rb.length
    simp [e1, e2]
  refine wpAny_forIn_list _ (fun rest r t => r.1 = none ∧ Inv X pz τ H t ∧ ∃ xs' ys' as' bs' d, rest = List.zip as' bs' ∧ Vals xs' as' ∧ Vals ys' bs' ∧ EqWs X n H xs' ys' d ∧ d = c ∧ (xs'.length = ys'.length ↔ xs.length = ys.length)) _ ?_ ?_ _ _ ⟨rfl, I, xs, ys, as, bs, c, rfl, ra, rb, e, rfl, Iff.rfl⟩
  · rintro ⟨u, v⟩ rest r t ⟨hr, It, xs', ys', as', bs', d, hz, r1, r2, e', hd, hl⟩
    cases e' with
    | nil =>
      cases r1
      simp at hz
    | left =>
      cases r2
      simp at hz
    | right =>
      cases r1
      simp at hz
    | @cons x y xs2 ys2 b1 c1 h1 t1 =>
      cases r1 with
      | cons q1 w1 =>
        cases r2 with
        | cons q2 w2 =>
          simp only [List.zip_cons_cons, List.cons.injEq, Prod.mk.injEq] at hz
          obtain ⟨⟨rfl, rfl⟩, rfl⟩ := hz
          refine wpAny_bind (h1 pz τ t _ _ _ It q1 q2 fun t' It' => ?_)
          cases b1 with
          | true =>
            simp only [Bool.not_true, Bool.false_eq_true, if_false]
            exact wpAny_pure ⟨rfl, It', xs2, ys2, _, _, c1, rfl, w1, w2, t1, by rw [← hd, Bool.true_and], by rw [← hl]; simp⟩
          | false =>
            simp only [Bool.not_false, if_true]
            have hc : c = false := by rw [← hd, Bool.false_and]
            rw [hc] at h
            exact wpAny_bind (wpAny_pure (wpAny_pure (wpAny_pure (h t' It'))))
  · rintro ⟨r1, r2⟩ t ⟨hr, It, xs', ys', as', bs', d, hz, q1, q2, e', hd, hl⟩
    simp only at hr
    subst hr
    refine wpAny_pure ?_
    have fin : (as.toArray.size == bs.toArray.size) = c := by
      cases e' with
      | nil =>
        rw [← hd]
        exact zl.symm ▸ (hl.mp rfl)
      | left =>
        rw [← hd]
        cases q : (as.toArray.size == bs.toArray.size) with
        | false => rfl
        | true => exact absurd (hl.mpr (zl ▸ q)) (by simp)
      | right =>
        rw [← hd]
        cases q : (as.toArray.size == bs.toArray.size) with
        | false => rfl
        | true => exact absurd (hl.mpr (zl ▸ q)) (by simp)
      | cons _ _ =>
        cases q1
        cases q2
        simp at hz
    show P (.done (.ret (.bool (as.toArray.size == bs.toArray.size)))) t
    rw [fin]
    exact h t It
/-- two tuples, by richCompare -/
theorem rc_tups {pz : List (Addr × Obj)} {τ : L2.St} {s : Shared} {xs ys : List V} {c : Bool} {Q : Value → Shared → Prop} (n : Nat) (hu : (inN n X.A).units < cLine) (I : Inv X pz τ H s) (ha : SqT X.K H a xs) (hb : SqT X.K H b ys) (e : EqWs X (n + 1) H xs ys c)
    (h : ∀ s', Inv X pz τ H s' → Q (.bool c) s') : wpAny (model X.prog X.w) (inN n X.A) (richCompare .Eq (.ref a) (.ref b)) Q X.xe s := by
  obtain ⟨as, ra, ⟨oa, hoa, hca, na, hda⟩, _⟩ := I.tuple ha
  obtain ⟨bs, rb, ⟨ob, hob, hcb, nb, hdb⟩, _⟩ := I.tuple hb
  have ta : s.TypeIs (.ref a) "tuple" := ⟨oa, hoa, hca⟩
  have tb : s.TypeIs (.ref b) "tuple" := ⟨ob, hob, hcb⟩
  refine wpAny_richCompare_same_room (op := .Eq) ta tb F.slot_tuple_eq (wpAny_call_entry F.slot_tuple_eq ta F.entry_tuple_eq ?_ (F.args_tuple_eq_2 _ _)) hu
  exact tup_builtin (n + 1) I ha hb e fun s' I' => ⟨_, rfl, (fun z => nomatch z), h s' I'⟩
theorem eqW_tup {xs ys : List V} {c : Bool} (hu : (inN n X.A).units < cLine) (ha : SqT X.K H a xs) (hb : SqT X.K H b ys) (e : EqWs X (n + 1) H xs ys c) (hc : a = b → c = true) : EqW X n H (.ref a) (.ref b) c := by
  intro pz τ s v u Q I rv ru q
  cases rv
  cases ru
  refine ask_refs (fun z => by rw [hc z] at q; exact q s I) fun _ => ?_
  exact rc_tups n hu I ha hb e fun s' I' => ⟨c, rfl, q s' I'⟩
/-- a == b, both tuples -/
def rEqT (X : Cx) : R2 := fun x y H Q => ∃ a b xs ys c, x = .ref a ∧ y = .ref b ∧ SqT X.K H a xs ∧ SqT X.K H b ys ∧ EqWs X 1 H xs ys c ∧ Q (.bl c) H
theorem op_eqT (hu : X.A.units < cLine) : OpR X (compareOp .Eq) (rEqT X) := by
  intro pz s τ H x y v u Q I rv ru h
  obtain ⟨a, b, xs, ys, c, rfl, rfl, ha, hb, e, q⟩ := h
  cases rv
  cases ru
  show wpAny _ _ (richCompare .Eq (.ref a) (.ref b)) _ _ _
  exact rc_tups 0 hu I ha hb e fun s' I' => ⟨.bl c, H, I', rfl, q⟩
end
end FoG

/-! Rules with the frame named: for the inside of a comprehension. -/
namespace FoK
open PySem PySem.Spec PyProof.Rows L2
section
variable {X : Cx} {K' : PySem.W.Frag} {e : Expr} {f : Str} {pos : Pos} {ta : TE}
theorem pe_fldK (he : PE X e ta) (hb : attributeBase e f X.env (eval e X.env) = eval e X.env) (hK : X.K = K') : PE X (.Attribute e f pos) (tFld K' ta f) := hK ▸ pe_fld he hb
theorem pg_tupK {es : List Expr} {k n : Nat} {t : TGs} (hK : X.K = K') (hc : X.calm = true) (h : PGs X es t) (hn : (assignEach es X.env).length = n := by rfl) (hst : (assignEach es X.env).findIdx? (·.1) = none := by rfl) : PG X (.Tuple es k pos) (gTup K' n t) := hK ▸ pg_tup hc h hn hst
theorem ix_listK (hK : X.K = K') : IxR X (rIxL K') := hK ▸ ix_list
theorem ix_tupK (hK : X.K = K') : IxR X (rIxT K') := hK ▸ ix_tup
end
end FoK

set_option maxHeartbeats 4100000
/-! for i, x in enumerate(t), t a tuple. -/
namespace FoW
open PySem PySem.Spec PyProof.Rows L2
theorem meets_new1 {v : Value} {o : Obj} {H : Heap → Prop} (B : Begins v o H) :
    Meets (Builtin.«enumerate.__new__» ⟨[.type "enumerate", v], []⟩) (fun _ R s => H s.heap ∧
      R (.ok (.ret (.ref (s.heap.push o).objs.size))) { s with heap := (s.heap.push o).push { cls := .type "enumerate", data := .fields #[.none, .bool false, .ref s.heap.objs.size, rawInt 0, .none, .none] } }) :=
  .of_wp fun prog w A R s h => by
    obtain ⟨hp, g, d, tk, os⟩ := s; obtain ⟨hH, h⟩ := h
    have hsub := sub_enumerate
    have q1 : ∀ {A' : Around} {E : Value → Shared → Prop} {Q : Value → Shared → Prop}, Q (.ref hp.objs.size) ⟨hp.push o, g, d, tk, os⟩ → wpAny (model prog w) A' (pyIter v) Q E ⟨hp, g, d, tk, os⟩ := fun q => B.iter prog w _ _ ⟨hp, g, d, tk, os⟩ _ hH q
    wp_walk using q1
    refine wpAny_stack_any fun st => wpAny_pure ?_
    split
    · rename_i c _ _ _ _ _
      cases (c == Value.type "enumerate")
      · wp_walk using q1; exact ⟨_, rfl, h⟩
      · wp_walk using q1; exact ⟨_, rfl, h⟩
    · wp_walk using q1; exact ⟨_, rfl, h⟩
section
variable {prog : Program} {w : World} {A : Around} {E : Value → Shared → Prop} {s : Shared}
theorem begins1 {v : Value} {o : Obj} {H : Heap → Prop} {Q : Value → Shared → Prop} (B : Begins v o H) (h1 : H s.heap)
    (h : ∀ g, IsEnum g (s.heap.objs.size + 1) s.heap.objs.size 0 .none → g.get? s.heap.objs.size = some o → (∀ b u, s.heap.get? b = some u → g.get? b = some u) → Q (.ref (s.heap.objs.size + 1)) { s with heap := g }) :
    wpAny (model prog w) A (call (.type "enumerate") [v]) Q E s := by
  refine callType_new F.called_enumerate (by decide) (F.typeCall_enumerate_1 _) (F.newCall_enumerate_1 _) (fun obj => F.args_object_init_2 obj _) F.entry_enumerate_new (meets_new1 B) ⟨h1, ?_⟩
  have z : (s.heap.push o).objs.size = s.heap.objs.size + 1 := Heap.size_push ..
  show _ ∧ _
  rw [z]
  have e : IsEnum ((s.heap.push o).push { cls := .type "enumerate", data := .fields #[.none, .bool false, .ref s.heap.objs.size, rawInt 0, .none, .none] }) (s.heap.objs.size + 1) s.heap.objs.size 0 .none := by
    have q := Heap.get?_push_size (s.heap.push o) (o := { cls := .type "enumerate", data := .fields #[.none, .bool false, .ref s.heap.objs.size, rawInt 0, .none, .none] }) rfl
    rw [z] at q
    exact q
  exact ⟨⟨_, e, rfl⟩, h _ e (Heap.get?_push_of_some _ (Heap.get?_push_size _ B.free)) fun b u x => Heap.get?_push_of_some _ (Heap.get?_push_of_some _ x)⟩
end
/-- the tuple at a, each item in a new pair -/
def IteT (K : PySem.W.Frag) (a : Addr) : It :=
  ⟨fun i H => ∃ (xs : List V) (x : V), SqT K H a xs ∧ xs[i]? = some x, fun i H v H' => ∃ p x, v = .ref p ∧ H p = none ∧ H' = upd H p (.tup [.int (i : Nat), x]) ∧ ∀ xs, SqT K H a xs → xs[i]? = some x, fun i H => ∃ xs : List V, SqT K H a xs ∧ xs.length ≤ i⟩
theorem turn_enumT {P : Program} {w : World} {K : PySem.W.Frag} {elts : List Expr} {kk : Nat} {tpos : Pos} (a e it : Addr) (hai : a ≠ it) (hae : a ≠ e) :
    Turn P w K (.Tuple elts kk tpos) (IteT K a) [e, it] e (fun i h => (∃ old, IsEnum h e it ((i : Nat) : Int) old) ∧ h.IsTupleIter it a i ∧ e ≠ it) where
  mem := by simp
  obj := fun i h st b hb => by
    obtain ⟨⟨old, he⟩, ⟨o, ho, hc, hd⟩, _⟩ := st
    rcases (show b = e ∨ b = it by simpa using hb) with z | z
    · rw [z]; exact ⟨_, he, fun v q => nomatch q⟩
    · rw [z]; exact ⟨o, ho, fun v q => by rw [hd] at q; cases q⟩
  keep := fun i h h' st k => ⟨⟨st.1.choose, k e (by simp) _ st.1.choose_spec⟩, st.2.1.at fun o q => k it (by simp) o q, st.2.2⟩
  item := by
    intro X hP hw hK hc i pz s τ H E I hf st hg
    subst hP hw hK
    obtain ⟨⟨old, he⟩, hit, hne⟩ := st
    obtain ⟨xs, x, hq, hx⟩ := hg
    obtain ⟨its, rv, p, hz⟩ := I.tuple hq
    obtain ⟨u, hu, ru⟩ := rv.get hx
    have el : e < s.heap.objs.size := Heap.lt_size he
    have il : it < s.heap.objs.size := by obtain ⟨_, q, _⟩ := hit; exact Heap.lt_size q
    have hlt : i < its.toArray.size := by
      have := (List.getElem?_eq_some_iff.mp hu).1
      simpa using this
    have hT : Heap.IsTuple s.heap a its.toArray := let ⟨o, q1, q2, n, q3⟩ := p; ⟨o, q1, q2, n, q3⟩
    refine wpAny_pyNext_enum_itemD (Draws.tuple (prog := X.prog) (w := X.w) (A := X.A.in1) (show X.A.in1.handled = none from I.ok.hd hc) it a hai its.toArray) he ⟨hit, hT⟩ hlt hne (by simp [hne, Ne.symm hae]) fun y h' tk py ho st' hTn hsz hk => ?_
    have ey : y = u := by
      have hu' : its.toArray[i]? = some u := by simpa using hu
      rw [hu'] at py
      exact (Option.some.inj py).symm
    subst ey
    refine ⟨_, rfl, wpAny_letOwnedTupleGo_enum (s := { s with heap := h', toks := tk + 1 }) ho fun h2 he2 sb => ?_⟩
    have hT2 : h2.get? s.heap.objs.size = some { cls := .type "tuple", data := .seq #[.int i tk, y] } := (sb.2 _ (Nat.ne_of_gt el)).trans hTn
    have new : ObjOk X.prog X.w (upd H s.heap.objs.size (.tup [.int (i : Nat), x])) h2 s.heap.objs.size (.tup [.int (i : Nat), x]) :=
      ⟨by show 2 ≤ sizeLine; rw [sizeLine_eq]; decide, [.int i tk, y], .cons ⟨_, rfl⟩ (.cons ru .nil), ⟨_, hT2, rfl, _, rfl⟩⟩
    have I1 : Inv X pz τ (upd H s.heap.objs.size (.tup [.int (i : Nat), x])) { s with heap := h2, toks := tk + 1 } :=
      I.turnedNew (ch := [e, it]) (fun b ob hb q => (sb.2 b (fun z => hb (by simp [z]))).trans (hk b ob (fun z => hb (by simp [z])) (fun z => hb (by simp [z])) q)) hf (Nat.le_refl _) new
    refine ⟨.ref s.heap.objs.size, _, I1, rfl, ⟨_, x, rfl, I.hok.fresh (Nat.le_refl _), rfl, fun ys hy => by rw [I.tuple_inj hy hq]; exact hx⟩, ⟨⟨y, ?_⟩, st'.1.at fun o q => (sb.2 it (Ne.symm hne)).trans q, hne⟩, fun b hb => ?_⟩
    · rw [show ((i + 1 : Nat) : Int) = (i : Int) + 1 by omega]
      exact he2
    · have hb' : b < s.heap.objs.size := by
        rcases (show b = e ∨ b = it by simpa using hb) with z | z
        · rw [z]; exact el
        · rw [z]; exact il
      rw [upd_ne (Nat.ne_of_lt hb')]
      exact (hf b hb).1
  done := by
    intro X hP hw hK hc i pz s τ H E I hf st hg
    subst hP hw hK
    obtain ⟨⟨old, he⟩, hit, hne⟩ := st
    obtain ⟨xs, hq, hx⟩ := hg
    obtain ⟨its, rv, p, hz⟩ := I.tuple hq
    obtain ⟨f0, f1, f2, f3, f4, f5⟩ := hf it (by simp)
    have hl := rv.length
    have hT : Heap.IsTuple s.heap a its.toArray := let ⟨o, q1, q2, n, q3⟩ := p; ⟨o, q1, q2, n, q3⟩
    have hT' := id hit
    unfold pyNext
    have ty : s.TypeIs (.ref e) "enumerate" := ⟨_, he, rfl⟩
    refine wpAny_bind (wpAny_attempt (wpAny_callSpecial?_slot (name := Str.ofString "__next__") ty F.slot_enumerate_next (wpAny_call_entry F.slot_enumerate_next ty F.entry_enumerate_next ?_ (F.args_enumerate_next_1 _))))
    show wpAny _ _ (field (.ref e) 2 >>= _) _ _ _
    refine wpAny_bind (wpAny_field he rfl (x := .ref it) rfl (wpAny_bind (wpAny_nextOf_tuple_end (I.ok.hd hc) hit hT (by simp; omega) fun h' x he' hx' => ?_)))
    obtain ⟨o, ho, hcl⟩ := hx'
    refine wpAny_bind (wpAny_isInstance (T := "StopIteration") (b := true) ⟨o, ho, hcl⟩ isSubtype_stop (wpAny_pure ⟨rfl, ?_⟩))
    exact I.turned (t' := s.toks) (fun b u hb q => he' b u hb q) f0 f1 f3 f4 f5
  self := fun A i s Q E st h => let ⟨⟨_, he⟩, _⟩ := st; wpAny_pyIter_enum he h
def iEnumT (K : PySem.W.Frag) (ta : TA) : TI := fun τ H R => ta τ H fun vs H1 => ∃ a xs, vs = [.ref a] ∧ SqT K H1 a xs ∧ R (IteT K a) H1
theorem pi_enumT {X : Cx} {e : Expr} {ta : TA} {p pos tpos : Pos} {elts : List Expr} {kk : Nat} (hg : Gl X "enumerate") (hm : X.mg "enumerate" = none) (ha : PA X [e] ta) (hs : starEach [e] X.env = [(false, eval e X.env)] := by rfl) :
    PI X (.Tuple elts kk tpos) (.Call (.Name "enumerate" p) [e] [] pos) (iEnumT X.K ta) := by
  refine ⟨fun pz s τ H R I h => ?_⟩
  refine Call_ (ld_blt I hg hm boot_enumerate (PyProof.Rows.callWith_type1 (thn (ha.run pos pz s τ H _ I h) fun us s1 ⟨vs, H1, I1, r1, q1⟩ => ?_) hs rfl))
  obtain ⟨a, xs, ex, hq, q⟩ := q1
  subst ex
  cases r1 with
  | cons r rr =>
    cases rr
    cases r
    obtain ⟨its, rv, p', hz⟩ := I1.tuple hq
    have hT : Heap.IsTuple s1.heap a its.toArray := let ⟨o, q1, q2, n, q3⟩ := p'; ⟨o, q1, q2, n, q3⟩
    have al : a < s1.heap.objs.size := by obtain ⟨o, q1, _⟩ := p'; exact Heap.lt_size q1
    refine begins1 (begins_tuple a its.toArray) hT fun g he hit hk => wpAny_pyIter_enum he ?_
    have I2 : Inv X pz τ H1 { s1 with heap := g } := I1.kept (t' := s1.toks) hk
    refine ⟨s1.heap.objs.size + 1, [s1.heap.objs.size + 1, s1.heap.objs.size], _, _, H1, rfl, I2, turn_enumT a (s1.heap.objs.size + 1) s1.heap.objs.size (Nat.ne_of_lt al) (Nat.ne_of_lt (Nat.lt_succ_of_lt al)), ⟨⟨.none, he⟩, ⟨_, hit, rfl, rfl⟩, Nat.succ_ne_self _⟩, fun b hb => ?_, q⟩
    have hle : s1.heap.objs.size ≤ b := by
      rcases (show b = s1.heap.objs.size + 1 ∨ b = s1.heap.objs.size by simpa using hb) with z | z
      · rw [z]; exact Nat.le_add_right _ _
      · rw [z]; exact Nat.le_refl _
    exact I1.fpOk hle (I1.hok.fresh hle)
/-- the walk, in a comprehension -/
theorem lc_enumT {K : PySem.W.Frag} {a : Addr} {xs : List V} {g : TG} {tt : TT} {te : TE} {vs : List Nat} {τ : L2.St} {H1 : Hp} {D : Addr} {Qd : Hp → Prop} (Pv : Nat → Hp → Prop) (h0 : Pv 0 (upd H1 D (.lst []))) (hl : ∀ i H, i ≤ xs.length → Pv i H → SqT K H a xs)
    (hs : ∀ i x H p, xs[i]? = some x → H p = none → Pv i H → g (.ref p) (wipe τ vs) (upd H p (.tup [.int (i : Nat), x])) fun σ2 H2 => wipe σ2 vs = wipe τ vs ∧ tt σ2 H2 fun b H3 =>
      if b = true then te σ2 H3 fun y H4 => ∃ acc, H4 D = some (.lst acc) ∧ acc.length < sizeLine ∧ Pv (i + 1) (upd H4 D (.lst (acc ++ [y]))) else Pv (i + 1) H3) (hd : ∀ H, Pv xs.length H → Qd H) :
    ∃ W : Nat → Nat → Hp → Prop, (∃ m, W 0 m (upd H1 D (.lst []))) ∧ ∀ i m H, W i m H →
      ((IteT K a).stop i H ∧ Qd H) ∨ ((IteT K a).go i H ∧ ∃ Nx : Hp → Prop, (∀ H', Nx H' → ∃ m', m' < m ∧ W (i + 1) m' H') ∧ ∀ x H', (IteT K a).yld i H x H' → g x (wipe τ vs) H' fun σ2 H2 => wipe σ2 vs = wipe τ vs ∧ tt σ2 H2 fun b H3 =>
        if b = true then te σ2 H3 fun y H4 => ∃ acc, H4 D = some (.lst acc) ∧ acc.length < sizeLine ∧ Nx (upd H4 D (.lst (acc ++ [y]))) else Nx H3) := by
  refine ⟨fun i m H => m = xs.length - i ∧ i ≤ xs.length ∧ Pv i H, ⟨xs.length, by simp, Nat.zero_le _, h0⟩, ?_⟩
  rintro i m H ⟨rfl, hi, pv⟩
  have q := hl i H hi pv
  by_cases lt : i < xs.length
  · refine .inr ⟨⟨xs, xs[i], q, by simp [lt]⟩, Pv (i + 1), fun H' p' => ⟨xs.length - (i + 1), by omega, rfl, lt, p'⟩, fun x H' y => ?_⟩
    obtain ⟨p, z, rfl, hp, rfl, hz⟩ := y
    exact hs i z H p (hz xs q) hp pv
  · have e : i = xs.length := by omega
    subst e
    exact .inl ⟨⟨xs, q, Nat.le_refl _⟩, hd H pv⟩
theorem walk_enumT {K : PySem.W.Frag} {a : Addr} {xs : List V} : Walk (IteT K a) xs.length (fun H => SqT K H a xs) (YPair (fun i => some (.int (i : Nat))) (fun i => xs[i]?)) := by
  refine ⟨fun i _ hi q => ⟨xs, xs[i], q, by simp [hi]⟩, fun _ q => ⟨xs, q, Nat.le_refl _⟩, fun i H v H' _ q y => ?_⟩
  obtain ⟨p, x, h1, h2, h3, h4⟩ := y
  exact ⟨p, .int (i : Nat), x, h1, h2, h3, rfl, h4 xs q⟩
theorem walk_revT {K : PySem.W.Frag} {a : Addr} {xs : List V} : Walk (RT.ItvT K a xs.length) xs.length (fun H => SqT K H a xs) (fun i H x H' => H' = H ∧ xs[xs.length - 1 - i]? = some x) :=
  ⟨fun i _ hi q => ⟨hi, xs, xs[xs.length - 1 - i]'(by omega), q, by simp [show xs.length - 1 - i < xs.length by omega]⟩, fun _ _ => Nat.le_refl _, fun _ _ _ _ _ q y => ⟨y.1, y.2 xs q⟩⟩
end FoW

set_option maxHeartbeats 4100000
namespace Fo
open PySem PySem.Spec PyProof.Rows L2
def top (i : Nat) : Stmt := PySem.Challenge.pw_filterorders_k05_polynomials.main.body.getD i (.Pass ⟨0, 0, 0, 0⟩)
abbrev s_BadNumber_init : Stmt := inClass (top 5) 0
theorem sc_BadNumber_init : FnScope ["self", "given"] ["self", "given"] (defScope s_BadNumber_init) := ⟨rfl, rfl, rfl, by decide +kernel, rfl, by decide +kernel, by decide +kernel⟩
abbrev s_Ratio_init : Stmt := inClass (top 10) 0
theorem sc_Ratio_init : FnScope ["self", "top", "bottom", "shared"] ["self", "top", "bottom"] (defScope s_Ratio_init) := ⟨rfl, rfl, rfl, by decide +kernel, rfl, by decide +kernel, by decide +kernel⟩
abbrev s_Ratio_top : Stmt := inClass (top 10) 2
theorem sc_Ratio_top : FnScope ["self"] ["self"] (defScope s_Ratio_top) := ⟨rfl, rfl, rfl, by decide +kernel, rfl, by decide +kernel, by decide +kernel⟩
abbrev s_Ratio_bottom : Stmt := inClass (top 10) 3
theorem sc_Ratio_bottom : FnScope ["self"] ["self"] (defScope s_Ratio_bottom) := ⟨rfl, rfl, rfl, by decide +kernel, rfl, by decide +kernel, by decide +kernel⟩
abbrev s_Ratio_eq : Stmt := inClass (top 10) 4
theorem sc_Ratio_eq : FnScope ["self", "other"] ["self", "other"] (defScope s_Ratio_eq) := ⟨rfl, rfl, rfl, by decide +kernel, rfl, by decide +kernel, by decide +kernel⟩
abbrev s_Ratio_add : Stmt := inClass (top 10) 7
theorem sc_Ratio_add : FnScope ["self", "other", "right"] ["self", "other"] (defScope s_Ratio_add) := ⟨rfl, rfl, rfl, by decide +kernel, rfl, by decide +kernel, by decide +kernel⟩
abbrev s_Ratio_sub : Stmt := inClass (top 10) 8
theorem sc_Ratio_sub : FnScope ["self", "other", "right"] ["self", "other"] (defScope s_Ratio_sub) := ⟨rfl, rfl, rfl, by decide +kernel, rfl, by decide +kernel, by decide +kernel⟩
abbrev s_Ratio_mul : Stmt := inClass (top 10) 9
theorem sc_Ratio_mul : FnScope ["self", "other", "right"] ["self", "other"] (defScope s_Ratio_mul) := ⟨rfl, rfl, rfl, by decide +kernel, rfl, by decide +kernel, by decide +kernel⟩
abbrev s_Ratio_neg : Stmt := inClass (top 10) 10
theorem sc_Ratio_neg : FnScope ["self"] ["self"] (defScope s_Ratio_neg) := ⟨rfl, rfl, rfl, by decide +kernel, rfl, by decide +kernel, by decide +kernel⟩
abbrev s_is_whole : Stmt := top 11
theorem sc_is_whole : FnScope ["given"] ["given"] (defScope s_is_whole) := ⟨rfl, rfl, rfl, by decide +kernel, rfl, by decide +kernel, by decide +kernel⟩
abbrev s_is_number : Stmt := top 12
theorem sc_is_number : FnScope ["given"] ["given"] (defScope s_is_number) := ⟨rfl, rfl, rfl, by decide +kernel, rfl, by decide +kernel, by decide +kernel⟩
abbrev s_as_ratio : Stmt := top 13
theorem sc_as_ratio : FnScope ["given"] ["given"] (defScope s_as_ratio) := ⟨rfl, rfl, rfl, by decide +kernel, rfl, by decide +kernel, by decide +kernel⟩
abbrev s_trimmed : Stmt := top 18
theorem sc_trimmed : FnScope ["terms", "many"] ["terms"] (defScope s_trimmed) := ⟨rfl, rfl, rfl, by decide +kernel, rfl, by decide +kernel, by decide +kernel⟩
abbrev s_shared_bottom : Stmt := top 19
theorem sc_shared_bottom : FnScope ["ratios", "bottom", "ratio"] ["ratios"] (defScope s_shared_bottom) := ⟨rfl, rfl, rfl, by decide +kernel, rfl, by decide +kernel, by decide +kernel⟩
abbrev s_multiplied : Stmt := top 20
theorem sc_multiplied : FnScope ["ratios", "bottom", "ratio"] ["ratios", "bottom"] (defScope s_multiplied) := ⟨rfl, rfl, rfl, by decide +kernel, rfl, by decide +kernel, by decide +kernel⟩
abbrev s_whole_product : Stmt := top 21
theorem sc_whole_product : FnScope ["one", "other", "_", "found", "start", "factor", "at", "term"] ["one", "other"] (defScope s_whole_product) := ⟨rfl, rfl, rfl, by decide +kernel, rfl, by decide +kernel, by decide +kernel⟩
abbrev s_Polynomial_init : Stmt := inClass (top 23) 0
theorem sc_Polynomial_init : FnScope ["self", "numbers", "number"] ["self", "numbers"] (defScope s_Polynomial_init) := ⟨rfl, rfl, rfl, by decide +kernel, rfl, by decide +kernel, by decide +kernel⟩
abbrev s_Polynomial_terms : Stmt := inClass (top 23) 1
theorem sc_Polynomial_terms : FnScope ["self"] ["self"] (defScope s_Polynomial_terms) := ⟨rfl, rfl, rfl, by decide +kernel, rfl, by decide +kernel, by decide +kernel⟩
abbrev s_Polynomial_len : Stmt := inClass (top 23) 2
theorem sc_Polynomial_len : FnScope ["self"] ["self"] (defScope s_Polynomial_len) := ⟨rfl, rfl, rfl, by decide +kernel, rfl, by decide +kernel, by decide +kernel⟩
abbrev s_Polynomial_eq : Stmt := inClass (top 23) 3
theorem sc_Polynomial_eq : FnScope ["self", "other"] ["self", "other"] (defScope s_Polynomial_eq) := ⟨rfl, rfl, rfl, by decide +kernel, rfl, by decide +kernel, by decide +kernel⟩
abbrev s_Polynomial_add : Stmt := inClass (top 23) 4
theorem sc_Polynomial_add : FnScope ["self", "other", "many", "at"] ["self", "other"] (defScope s_Polynomial_add) := ⟨rfl, rfl, rfl, by decide +kernel, rfl, by decide +kernel, by decide +kernel⟩
abbrev s_Polynomial_sub : Stmt := inClass (top 23) 5
theorem sc_Polynomial_sub : FnScope ["self", "other", "many", "at"] ["self", "other"] (defScope s_Polynomial_sub) := ⟨rfl, rfl, rfl, by decide +kernel, rfl, by decide +kernel, by decide +kernel⟩
abbrev s_Polynomial_mul : Stmt := inClass (top 23) 6
theorem sc_Polynomial_mul : FnScope ["self", "other", "mine", "theirs", "found", "term"] ["self", "other"] (defScope s_Polynomial_mul) := ⟨rfl, rfl, rfl, by decide +kernel, rfl, by decide +kernel, by decide +kernel⟩
abbrev s_Polynomial_neg : Stmt := inClass (top 23) 7
theorem sc_Polynomial_neg : FnScope ["self", "term"] ["self"] (defScope s_Polynomial_neg) := ⟨rfl, rfl, rfl, by decide +kernel, rfl, by decide +kernel, by decide +kernel⟩
abbrev s_Polynomial_worth : Stmt := inClass (top 23) 8
theorem sc_Polynomial_worth : FnScope ["self", "number", "place", "value", "term"] ["self", "number"] (defScope s_Polynomial_worth) := ⟨rfl, rfl, rfl, by decide +kernel, rfl, by decide +kernel, by decide +kernel⟩
abbrev s_Polynomial_slope : Stmt := inClass (top 23) 9
theorem sc_Polynomial_slope : FnScope ["self", "at", "term"] ["self"] (defScope s_Polynomial_slope) := ⟨rfl, rfl, rfl, by decide +kernel, rfl, by decide +kernel, by decide +kernel⟩
abbrev s_term_at : Stmt := top 24
theorem sc_term_at : FnScope ["terms", "at"] ["terms", "at"] (defScope s_term_at) := ⟨rfl, rfl, rfl, by decide +kernel, rfl, by decide +kernel, by decide +kernel⟩
abbrev s_cell : Stmt := top 26
theorem sc_cell : FnScope ["_law_script", "_law_k"] ["_law_script", "_law_k"] (defScope s_cell) := ⟨rfl, rfl, rfl, by decide +kernel, rfl, by decide +kernel, by decide +kernel⟩
abbrev s_box : Stmt := top 27
theorem sc_box : FnScope ["_law_script", "_law_k"] ["_law_script", "_law_k"] (defScope s_box) := ⟨rfl, rfl, rfl, by decide +kernel, rfl, by decide +kernel, by decide +kernel⟩
abbrev s_take : Stmt := top 28
theorem sc_take : FnScope ["_law_box_here", "_law_many", "_law_digit", "_law_mixed"] ["_law_box_here", "_law_many"] (defScope s_take) := ⟨rfl, rfl, rfl, by decide +kernel, rfl, by decide +kernel, by decide +kernel⟩
abbrev s_frac : Stmt := top 29
theorem sc_frac : FnScope ["_law_up", "_law_down", "_law_one", "_law_other"] ["_law_up", "_law_down"] (defScope s_frac) := ⟨rfl, rfl, rfl, by decide +kernel, rfl, by decide +kernel, by decide +kernel⟩
abbrev s_plus : Stmt := top 30
theorem sc_plus : FnScope ["_law_x", "_law_y"] ["_law_x", "_law_y"] (defScope s_plus) := ⟨rfl, rfl, rfl, by decide +kernel, rfl, by decide +kernel, by decide +kernel⟩
abbrev s_times : Stmt := top 31
theorem sc_times : FnScope ["_law_x", "_law_y"] ["_law_x", "_law_y"] (defScope s_times) := ⟨rfl, rfl, rfl, by decide +kernel, rfl, by decide +kernel, by decide +kernel⟩
abbrev s_minus : Stmt := top 32
theorem sc_minus : FnScope ["_law_x", "_law_y"] ["_law_x", "_law_y"] (defScope s_minus) := ⟨rfl, rfl, rfl, by decide +kernel, rfl, by decide +kernel, by decide +kernel⟩
abbrev s_number : Stmt := top 34
theorem sc_number : FnScope ["_law_box_here", "_law_most", "_law_up"] ["_law_box_here", "_law_most"] (defScope s_number) := ⟨rfl, rfl, rfl, by decide +kernel, rfl, by decide +kernel, by decide +kernel⟩
abbrev s_handed : Stmt := top 35
theorem sc_handed : FnScope ["_law_x", "_law_box_here"] ["_law_x", "_law_box_here"] (defScope s_handed) := ⟨rfl, rfl, rfl, by decide +kernel, rfl, by decide +kernel, by decide +kernel⟩
abbrev s_told : Stmt := top 36
theorem sc_told : FnScope ["_law_amount"] ["_law_amount"] (defScope s_told) := ⟨rfl, rfl, rfl, by decide +kernel, rfl, by decide +kernel, by decide +kernel⟩
abbrev s_q_trimmed : Stmt := top 37
theorem sc_q_trimmed : FnScope ["_law_terms_here", "_law_found"] ["_law_terms_here"] (defScope s_q_trimmed) := ⟨rfl, rfl, rfl, by decide +kernel, rfl, by decide +kernel, by decide +kernel⟩
abbrev s_sum : Stmt := top 38
theorem sc_sum : FnScope ["_law_one", "_law_other", "_law_size", "_law_left", "_law_right", "_law_k"] ["_law_one", "_law_other"] (defScope s_sum) := ⟨rfl, rfl, rfl, by decide +kernel, rfl, by decide +kernel, by decide +kernel⟩
abbrev s_product : Stmt := top 39
theorem sc_product : FnScope ["_law_one", "_law_other", "_law_found", "_law_j", "_law_k"] ["_law_one", "_law_other"] (defScope s_product) := ⟨rfl, rfl, rfl, by decide +kernel, rfl, by decide +kernel, by decide +kernel⟩
abbrev s_at : Stmt := top 40
theorem sc_at : FnScope ["_law_terms_here", "_law_x", "_law_found", "_law_term"] ["_law_terms_here", "_law_x"] (defScope s_at) := ⟨rfl, rfl, rfl, by decide +kernel, rfl, by decide +kernel, by decide +kernel⟩
abbrev s_terms : Stmt := top 42
theorem sc_terms : FnScope ["_law_poly", "_law_term"] ["_law_poly"] (defScope s_terms) := ⟨rfl, rfl, rfl, by decide +kernel, rfl, by decide +kernel, by decide +kernel⟩
abbrev s_refused : Stmt := top 43
theorem sc_refused : FnScope ["_law_row", "e"] ["_law_row"] (defScope s_refused) := ⟨rfl, rfl, rfl, by decide +kernel, rfl, by decide +kernel, by decide +kernel⟩
abbrev s_list : Stmt := top 44
theorem sc_list : FnScope ["_law_box_here", "_law_k", "_law_found", "_law_term"] ["_law_box_here"] (defScope s_list) := ⟨rfl, rfl, rfl, by decide +kernel, rfl, by decide +kernel, by decide +kernel⟩
abbrev s_law : Stmt := top 45
theorem sc_law : FnScope ["_law_script", "_law_k", "_law_box_here", "_law_first", "_law_second", "_law_way", "_law_term", "_law_row", "_law_one", "_law_other", "_law_x", "_law_flipped", "_law_j", "_law_slope", "_law_odd"] ["_law_script"] (defScope s_law) := ⟨rfl, rfl, rfl, by decide +kernel, rfl, by decide +kernel, by decide +kernel⟩
structure Tx (K : PySem.W.Frag) (mg : Str → Option Value) : Type where
  fd_BadNumber_init : FuncData
  F_BadNumber_init : Fun K "__init__" "BadNumber.__init__" s_BadNumber_init (He.ma K (He.ga K "BadNumber") "__init__") fd_BadNumber_init
  b_BadNumber_init : Binds K fd_BadNumber_init ["self", "given"] []
  fd_Ratio_init : FuncData
  F_Ratio_init : FunD K "__init__" "Ratio.__init__" (defArgs s_Ratio_init) (defBody s_Ratio_init) (defScope s_Ratio_init) [V.int 1] [] (He.ma K (He.ga K "Ratio") "__init__") fd_Ratio_init
  fd_Ratio_top : FuncData
  F_Ratio_top : Fun K "top" "Ratio.top" s_Ratio_top (FoZ.pg K "Ratio" "top") fd_Ratio_top
  b_Ratio_top : Binds K fd_Ratio_top ["self"] []
  fd_Ratio_bottom : FuncData
  F_Ratio_bottom : Fun K "bottom" "Ratio.bottom" s_Ratio_bottom (FoZ.pg K "Ratio" "bottom") fd_Ratio_bottom
  b_Ratio_bottom : Binds K fd_Ratio_bottom ["self"] []
  fd_Ratio_eq : FuncData
  F_Ratio_eq : Fun K "__eq__" "Ratio.__eq__" s_Ratio_eq (He.ma K (He.ga K "Ratio") "__eq__") fd_Ratio_eq
  b_Ratio_eq : Binds K fd_Ratio_eq ["self", "other"] []
  fd_Ratio_add : FuncData
  F_Ratio_add : Fun K "__add__" "Ratio.__add__" s_Ratio_add (He.ma K (He.ga K "Ratio") "__add__") fd_Ratio_add
  b_Ratio_add : Binds K fd_Ratio_add ["self", "other"] []
  fd_Ratio_sub : FuncData
  F_Ratio_sub : Fun K "__sub__" "Ratio.__sub__" s_Ratio_sub (He.ma K (He.ga K "Ratio") "__sub__") fd_Ratio_sub
  b_Ratio_sub : Binds K fd_Ratio_sub ["self", "other"] []
  fd_Ratio_mul : FuncData
  F_Ratio_mul : Fun K "__mul__" "Ratio.__mul__" s_Ratio_mul (He.ma K (He.ga K "Ratio") "__mul__") fd_Ratio_mul
  b_Ratio_mul : Binds K fd_Ratio_mul ["self", "other"] []
  fd_Ratio_neg : FuncData
  F_Ratio_neg : Fun K "__neg__" "Ratio.__neg__" s_Ratio_neg (He.ma K (He.ga K "Ratio") "__neg__") fd_Ratio_neg
  b_Ratio_neg : Binds K fd_Ratio_neg ["self"] []
  fd_is_whole : FuncData
  F_is_whole : Fun K "is_whole" "is_whole" s_is_whole (He.ga K "is_whole") fd_is_whole
  b_is_whole : Binds K fd_is_whole ["given"] []
  g_is_whole : mg "is_whole" = some (.ref (He.ga K "is_whole"))
  fd_is_number : FuncData
  F_is_number : Fun K "is_number" "is_number" s_is_number (He.ga K "is_number") fd_is_number
  b_is_number : Binds K fd_is_number ["given"] []
  g_is_number : mg "is_number" = some (.ref (He.ga K "is_number"))
  fd_as_ratio : FuncData
  F_as_ratio : Fun K "as_ratio" "as_ratio" s_as_ratio (He.ga K "as_ratio") fd_as_ratio
  b_as_ratio : Binds K fd_as_ratio ["given"] []
  g_as_ratio : mg "as_ratio" = some (.ref (He.ga K "as_ratio"))
  fd_trimmed : FuncData
  F_trimmed : Fun K "trimmed" "trimmed" s_trimmed (He.ga K "trimmed") fd_trimmed
  b_trimmed : Binds K fd_trimmed ["terms"] []
  g_trimmed : mg "trimmed" = some (.ref (He.ga K "trimmed"))
  fd_shared_bottom : FuncData
  F_shared_bottom : Fun K "shared_bottom" "shared_bottom" s_shared_bottom (He.ga K "shared_bottom") fd_shared_bottom
  b_shared_bottom : Binds K fd_shared_bottom ["ratios"] []
  g_shared_bottom : mg "shared_bottom" = some (.ref (He.ga K "shared_bottom"))
  fd_multiplied : FuncData
  F_multiplied : Fun K "multiplied" "multiplied" s_multiplied (He.ga K "multiplied") fd_multiplied
  b_multiplied : Binds K fd_multiplied ["ratios", "bottom"] []
  g_multiplied : mg "multiplied" = some (.ref (He.ga K "multiplied"))
  fd_whole_product : FuncData
  F_whole_product : Fun K "whole_product" "whole_product" s_whole_product (He.ga K "whole_product") fd_whole_product
  b_whole_product : Binds K fd_whole_product ["one", "other"] []
  g_whole_product : mg "whole_product" = some (.ref (He.ga K "whole_product"))
  fd_Polynomial_init : FuncData
  F_Polynomial_init : Fun K "__init__" "Polynomial.__init__" s_Polynomial_init (He.ma K (He.ga K "Polynomial") "__init__") fd_Polynomial_init
  b_Polynomial_init : Binds K fd_Polynomial_init ["self", "numbers"] []
  fd_Polynomial_terms : FuncData
  F_Polynomial_terms : Fun K "terms" "Polynomial.terms" s_Polynomial_terms (He.ma K (He.ga K "Polynomial") "terms") fd_Polynomial_terms
  b_Polynomial_terms : Binds K fd_Polynomial_terms ["self"] []
  fd_Polynomial_len : FuncData
  F_Polynomial_len : Fun K "__len__" "Polynomial.__len__" s_Polynomial_len (He.ma K (He.ga K "Polynomial") "__len__") fd_Polynomial_len
  b_Polynomial_len : Binds K fd_Polynomial_len ["self"] []
  fd_Polynomial_eq : FuncData
  F_Polynomial_eq : Fun K "__eq__" "Polynomial.__eq__" s_Polynomial_eq (He.ma K (He.ga K "Polynomial") "__eq__") fd_Polynomial_eq
  b_Polynomial_eq : Binds K fd_Polynomial_eq ["self", "other"] []
  fd_Polynomial_add : FuncData
  F_Polynomial_add : Fun K "__add__" "Polynomial.__add__" s_Polynomial_add (He.ma K (He.ga K "Polynomial") "__add__") fd_Polynomial_add
  b_Polynomial_add : Binds K fd_Polynomial_add ["self", "other"] []
  fd_Polynomial_sub : FuncData
  F_Polynomial_sub : Fun K "__sub__" "Polynomial.__sub__" s_Polynomial_sub (He.ma K (He.ga K "Polynomial") "__sub__") fd_Polynomial_sub
  b_Polynomial_sub : Binds K fd_Polynomial_sub ["self", "other"] []
  fd_Polynomial_mul : FuncData
  F_Polynomial_mul : Fun K "__mul__" "Polynomial.__mul__" s_Polynomial_mul (He.ma K (He.ga K "Polynomial") "__mul__") fd_Polynomial_mul
  b_Polynomial_mul : Binds K fd_Polynomial_mul ["self", "other"] []
  fd_Polynomial_neg : FuncData
  F_Polynomial_neg : Fun K "__neg__" "Polynomial.__neg__" s_Polynomial_neg (He.ma K (He.ga K "Polynomial") "__neg__") fd_Polynomial_neg
  b_Polynomial_neg : Binds K fd_Polynomial_neg ["self"] []
  fd_Polynomial_worth : FuncData
  F_Polynomial_worth : Fun K "worth" "Polynomial.worth" s_Polynomial_worth (He.ma K (He.ga K "Polynomial") "worth") fd_Polynomial_worth
  b_Polynomial_worth : Binds K fd_Polynomial_worth ["self", "number"] []
  fd_Polynomial_slope : FuncData
  F_Polynomial_slope : Fun K "slope" "Polynomial.slope" s_Polynomial_slope (He.ma K (He.ga K "Polynomial") "slope") fd_Polynomial_slope
  b_Polynomial_slope : Binds K fd_Polynomial_slope ["self"] []
  fd_term_at : FuncData
  F_term_at : Fun K "_term_at" "_term_at" s_term_at (He.ga K "_term_at") fd_term_at
  b_term_at : Binds K fd_term_at ["terms", "at"] []
  g_term_at : mg "_term_at" = some (.ref (He.ga K "_term_at"))
  fd_cell : FuncData
  F_cell : Fun K "_law_cell" "_law_cell" s_cell (He.ga K "_law_cell") fd_cell
  b_cell : Binds K fd_cell ["_law_script", "_law_k"] []
  g_cell : mg "_law_cell" = some (.ref (He.ga K "_law_cell"))
  fd_box : FuncData
  F_box : Fun K "_law_box" "_law_box" s_box (He.ga K "_law_box") fd_box
  b_box : Binds K fd_box ["_law_script", "_law_k"] []
  g_box : mg "_law_box" = some (.ref (He.ga K "_law_box"))
  fd_take : FuncData
  F_take : Fun K "_law_take" "_law_take" s_take (He.ga K "_law_take") fd_take
  b_take : Binds K fd_take ["_law_box_here", "_law_many"] []
  g_take : mg "_law_take" = some (.ref (He.ga K "_law_take"))
  fd_frac : FuncData
  F_frac : Fun K "_law_frac" "_law_frac" s_frac (He.ga K "_law_frac") fd_frac
  b_frac : Binds K fd_frac ["_law_up", "_law_down"] []
  g_frac : mg "_law_frac" = some (.ref (He.ga K "_law_frac"))
  fd_plus : FuncData
  F_plus : Fun K "_law_plus" "_law_plus" s_plus (He.ga K "_law_plus") fd_plus
  b_plus : Binds K fd_plus ["_law_x", "_law_y"] []
  g_plus : mg "_law_plus" = some (.ref (He.ga K "_law_plus"))
  fd_times : FuncData
  F_times : Fun K "_law_times" "_law_times" s_times (He.ga K "_law_times") fd_times
  b_times : Binds K fd_times ["_law_x", "_law_y"] []
  g_times : mg "_law_times" = some (.ref (He.ga K "_law_times"))
  fd_minus : FuncData
  F_minus : Fun K "_law_minus" "_law_minus" s_minus (He.ga K "_law_minus") fd_minus
  b_minus : Binds K fd_minus ["_law_x", "_law_y"] []
  g_minus : mg "_law_minus" = some (.ref (He.ga K "_law_minus"))
  fd_number : FuncData
  F_number : Fun K "_law_number" "_law_number" s_number (He.ga K "_law_number") fd_number
  b_number : Binds K fd_number ["_law_box_here", "_law_most"] []
  g_number : mg "_law_number" = some (.ref (He.ga K "_law_number"))
  fd_handed : FuncData
  F_handed : Fun K "_law_handed" "_law_handed" s_handed (He.ga K "_law_handed") fd_handed
  b_handed : Binds K fd_handed ["_law_x", "_law_box_here"] []
  g_handed : mg "_law_handed" = some (.ref (He.ga K "_law_handed"))
  fd_told : FuncData
  F_told : Fun K "_law_told" "_law_told" s_told (He.ga K "_law_told") fd_told
  b_told : Binds K fd_told ["_law_amount"] []
  g_told : mg "_law_told" = some (.ref (He.ga K "_law_told"))
  fd_q_trimmed : FuncData
  F_q_trimmed : Fun K "_law_trimmed" "_law_trimmed" s_q_trimmed (He.ga K "_law_trimmed") fd_q_trimmed
  b_q_trimmed : Binds K fd_q_trimmed ["_law_terms_here"] []
  g_q_trimmed : mg "_law_trimmed" = some (.ref (He.ga K "_law_trimmed"))
  fd_sum : FuncData
  F_sum : Fun K "_law_sum" "_law_sum" s_sum (He.ga K "_law_sum") fd_sum
  b_sum : Binds K fd_sum ["_law_one", "_law_other"] []
  g_sum : mg "_law_sum" = some (.ref (He.ga K "_law_sum"))
  fd_product : FuncData
  F_product : Fun K "_law_product" "_law_product" s_product (He.ga K "_law_product") fd_product
  b_product : Binds K fd_product ["_law_one", "_law_other"] []
  g_product : mg "_law_product" = some (.ref (He.ga K "_law_product"))
  fd_at : FuncData
  F_at : Fun K "_law_at" "_law_at" s_at (He.ga K "_law_at") fd_at
  b_at : Binds K fd_at ["_law_terms_here", "_law_x"] []
  g_at : mg "_law_at" = some (.ref (He.ga K "_law_at"))
  fd_terms : FuncData
  F_terms : Fun K "_law_terms" "_law_terms" s_terms (He.ga K "_law_terms") fd_terms
  b_terms : Binds K fd_terms ["_law_poly"] []
  g_terms : mg "_law_terms" = some (.ref (He.ga K "_law_terms"))
  fd_refused : FuncData
  F_refused : Fun K "_law_refused" "_law_refused" s_refused (He.ga K "_law_refused") fd_refused
  b_refused : Binds K fd_refused ["_law_row"] []
  g_refused : mg "_law_refused" = some (.ref (He.ga K "_law_refused"))
  fd_list : FuncData
  F_list : Fun K "_law_list" "_law_list" s_list (He.ga K "_law_list") fd_list
  b_list : Binds K fd_list ["_law_box_here"] []
  g_list : mg "_law_list" = some (.ref (He.ga K "_law_list"))
  fd_law : FuncData
  F_law : Fun K "law" "law" s_law (He.ga K "law") fd_law
  b_law : Binds K fd_law ["_law_script"] []
  g_law : mg "law" = some (.ref (He.ga K "law"))
  z_abs : mg "abs" = none
  z_bool : mg "bool" = none
  z_classmethod : mg "classmethod" = none
  z_divmod : mg "divmod" = none
  z_enumerate : mg "enumerate" = none
  z_int : mg "int" = none
  z_isinstance : mg "isinstance" = none
  z_len : mg "len" = none
  z_list : mg "list" = none
  z_max : mg "max" = none
  z_min : mg "min" = none
  z_property : mg "property" = none
  z_range : mg "range" = none
  z_reversed : mg "reversed" = none
  z_str : mg "str" = none
  z_tuple : mg "tuple" = none
  i_gcd : mg "gcd" = some (.builtin "math.gcd")
  i_lcm : mg "lcm" = some (.builtin "math.lcm")
  c_Ratio : mg "Ratio" = some (.ref (He.ga K "Ratio"))
  cl_R : Cls K (He.ga K "Ratio")
  nT_R : NoAttr K (He.ga K "Ratio") "_top"
  nB_R : NoAttr K (He.ga K "Ratio") "_bottom"
  mk_R : Mk K (He.ga K "Ratio") (He.ma K (He.ga K "Ratio") "__init__")
  p_top : PropOf K (He.ga K "Ratio") "top" (He.ma K (He.ga K "Ratio") "top") (FoZ.pg K "Ratio" "top")
  p_bottom : PropOf K (He.ga K "Ratio") "bottom" (He.ma K (He.ga K "Ratio") "bottom") (FoZ.pg K "Ratio" "bottom")
  bi_add : FoA.BinC K (He.ga K "Ratio") (He.ma K (He.ga K "Ratio") "__add__") .Add
  bi_sub : FoA.BinC K (He.ga K "Ratio") (He.ma K (He.ga K "Ratio") "__sub__") .Sub
  bi_mul : FoA.BinC K (He.ga K "Ratio") (He.ma K (He.ga K "Ratio") "__mul__") .Mult
  cm_eq : FoA.CmpC K (He.ga K "Ratio") (He.ma K (He.ga K "Ratio") "__eq__") .Eq
  m_neg : Meth K (He.ga K "Ratio") "__neg__" (He.ma K (He.ga K "Ratio") "__neg__")
  is_R : FoB.Isi K (He.ga K "Ratio")
  c_BadNumber : mg "BadNumber" = some (.ref (He.ga K "BadNumber"))
  e_BadNumber : FoB.OErr K (He.ga K "BadNumber") (He.ma K (He.ga K "BadNumber") "__init__") "given"
  c_Polynomial : mg "Polynomial" = some (.ref (He.ga K "Polynomial"))
  cl_P : Cls K (He.ga K "Polynomial")
  nT_P : NoAttr K (He.ga K "Polynomial") "_terms"
  mk_P : Mk K (He.ga K "Polynomial") (He.ma K (He.ga K "Polynomial") "__init__")
  is_P : FoB.Isi K (He.ga K "Polynomial")
  mP_terms : Meth K (He.ga K "Polynomial") "terms" (He.ma K (He.ga K "Polynomial") "terms")
  mP_worth : Meth K (He.ga K "Polynomial") "worth" (He.ma K (He.ga K "Polynomial") "worth")
  mP_slope : Meth K (He.ga K "Polynomial") "slope" (He.ma K (He.ga K "Polynomial") "slope")
  mP_neg : Meth K (He.ga K "Polynomial") "__neg__" (He.ma K (He.ga K "Polynomial") "__neg__")
  mP_len : Meth K (He.ga K "Polynomial") "__len__" (He.ma K (He.ga K "Polynomial") "__len__")
  biP_add : FoA.BinC K (He.ga K "Polynomial") (He.ma K (He.ga K "Polynomial") "__add__") .Add
  biP_sub : FoA.BinC K (He.ga K "Polynomial") (He.ma K (He.ga K "Polynomial") "__sub__") .Sub
  biP_mul : FoA.BinC K (He.ga K "Polynomial") (He.ma K (He.ga K "Polynomial") "__mul__") .Mult
  cmP_eq : FoA.CmpC K (He.ga K "Polynomial") (He.ma K (He.ga K "Polynomial") "__eq__") .Eq
  noRP : PySem.W.subIn K (.ref (He.ga K "Ratio")) (.ref (He.ga K "Polynomial")) = some false
  kRP : PySem.W.kitOne K (.ref (He.ga K "Ratio")) (.ref (He.ga K "Polynomial")) = some false
end Fo

set_option maxHeartbeats 4100000
namespace Fo
open PySem PySem.Spec PyProof.Rows L2
def hb : List (PySem.W.Frag → Bool) := [(He.Fa.glo "is_whole").ok,
  (He.Fa.glo "is_number").ok,
  (He.Fa.glo "as_ratio").ok,
  (He.Fa.glo "trimmed").ok,
  (He.Fa.glo "shared_bottom").ok,
  (He.Fa.glo "multiplied").ok,
  (He.Fa.glo "whole_product").ok,
  (He.Fa.glo "_term_at").ok,
  (He.Fa.glo "_law_cell").ok,
  (He.Fa.glo "_law_box").ok,
  (He.Fa.glo "_law_take").ok,
  (He.Fa.glo "_law_frac").ok,
  (He.Fa.glo "_law_plus").ok,
  (He.Fa.glo "_law_times").ok,
  (He.Fa.glo "_law_minus").ok,
  (He.Fa.glo "_law_number").ok,
  (He.Fa.glo "_law_handed").ok,
  (He.Fa.glo "_law_told").ok,
  (He.Fa.glo "_law_trimmed").ok,
  (He.Fa.glo "_law_sum").ok,
  (He.Fa.glo "_law_product").ok,
  (He.Fa.glo "_law_at").ok,
  (He.Fa.glo "_law_terms").ok,
  (He.Fa.glo "_law_refused").ok,
  (He.Fa.glo "_law_list").ok,
  (He.Fa.glo "law").ok,
  (He.Fa.free "abs").ok,
  (He.Fa.free "bool").ok,
  (He.Fa.free "classmethod").ok,
  (He.Fa.free "divmod").ok,
  (He.Fa.free "enumerate").ok,
  (He.Fa.free "int").ok,
  (He.Fa.free "isinstance").ok,
  (He.Fa.free "len").ok,
  (He.Fa.free "list").ok,
  (He.Fa.free "max").ok,
  (He.Fa.free "min").ok,
  (He.Fa.free "property").ok,
  (He.Fa.free "range").ok,
  (He.Fa.free "reversed").ok,
  (He.Fa.free "str").ok,
  (He.Fa.free "tuple").ok,
  FoZ.impB "gcd" "math.gcd",
  FoZ.impB "lcm" "math.lcm",
  (He.Fa.glo "Ratio").ok,
  (He.Fa.cls "Ratio").ok,
  (He.Fa.noat "Ratio" "_top").ok,
  (He.Fa.noat "Ratio" "_bottom").ok,
  (He.Fa.mkr "Ratio").ok,
  FoZ.propB "Ratio" "top",
  FoZ.propB "Ratio" "bottom",
  FoZ.binB "Ratio" "__add__" "__radd__",
  FoZ.binB "Ratio" "__sub__" "__rsub__",
  FoZ.binB "Ratio" "__mul__" "__rmul__",
  FoZ.cmpB "Ratio" "__eq__",
  (He.Fa.meth "Ratio" "__neg__").ok,
  FoB.isiB "Ratio",
  (He.Fa.glo "BadNumber").ok,
  FoB.oexB "BadNumber" "given",
  (He.Fa.glo "Polynomial").ok,
  (He.Fa.cls "Polynomial").ok,
  (He.Fa.noat "Polynomial" "_terms").ok,
  (He.Fa.mkr "Polynomial").ok,
  FoB.isiB "Polynomial",
  (He.Fa.meth "Polynomial" "terms").ok,
  (He.Fa.meth "Polynomial" "worth").ok,
  (He.Fa.meth "Polynomial" "slope").ok,
  (He.Fa.meth "Polynomial" "__neg__").ok,
  (He.Fa.meth "Polynomial" "__len__").ok,
  FoZ.binB "Polynomial" "__add__" "__radd__",
  FoZ.binB "Polynomial" "__sub__" "__rsub__",
  FoZ.binB "Polynomial" "__mul__" "__rmul__",
  FoZ.cmpB "Polynomial" "__eq__",
  (fun K => decide (PySem.W.subIn K (.ref (He.ga K "Ratio")) (.ref (He.ga K "Polynomial")) = some false)),
  (fun K => decide (PySem.W.kitOne K (.ref (He.ga K "Ratio")) (.ref (He.ga K "Polynomial")) = some false))]
def hd : List He5.DefA := [⟨fun K => (He.ma K (He.ga K "BadNumber") "__init__"), "__init__", "BadNumber.__init__", defArgs s_BadNumber_init, defBody s_BadNumber_init, defScope s_BadNumber_init, [], []⟩,
  ⟨fun K => (He.ma K (He.ga K "Ratio") "__init__"), "__init__", "Ratio.__init__", defArgs s_Ratio_init, defBody s_Ratio_init, defScope s_Ratio_init, [.int 1], []⟩,
  ⟨fun K => (FoZ.pg K "Ratio" "top"), "top", "Ratio.top", defArgs s_Ratio_top, defBody s_Ratio_top, defScope s_Ratio_top, [], []⟩,
  ⟨fun K => (FoZ.pg K "Ratio" "bottom"), "bottom", "Ratio.bottom", defArgs s_Ratio_bottom, defBody s_Ratio_bottom, defScope s_Ratio_bottom, [], []⟩,
  ⟨fun K => (He.ma K (He.ga K "Ratio") "__eq__"), "__eq__", "Ratio.__eq__", defArgs s_Ratio_eq, defBody s_Ratio_eq, defScope s_Ratio_eq, [], []⟩,
  ⟨fun K => (He.ma K (He.ga K "Ratio") "__add__"), "__add__", "Ratio.__add__", defArgs s_Ratio_add, defBody s_Ratio_add, defScope s_Ratio_add, [], []⟩,
  ⟨fun K => (He.ma K (He.ga K "Ratio") "__sub__"), "__sub__", "Ratio.__sub__", defArgs s_Ratio_sub, defBody s_Ratio_sub, defScope s_Ratio_sub, [], []⟩,
  ⟨fun K => (He.ma K (He.ga K "Ratio") "__mul__"), "__mul__", "Ratio.__mul__", defArgs s_Ratio_mul, defBody s_Ratio_mul, defScope s_Ratio_mul, [], []⟩,
  ⟨fun K => (He.ma K (He.ga K "Ratio") "__neg__"), "__neg__", "Ratio.__neg__", defArgs s_Ratio_neg, defBody s_Ratio_neg, defScope s_Ratio_neg, [], []⟩,
  ⟨fun K => (He.ga K "is_whole"), "is_whole", "is_whole", defArgs s_is_whole, defBody s_is_whole, defScope s_is_whole, [], []⟩,
  ⟨fun K => (He.ga K "is_number"), "is_number", "is_number", defArgs s_is_number, defBody s_is_number, defScope s_is_number, [], []⟩,
  ⟨fun K => (He.ga K "as_ratio"), "as_ratio", "as_ratio", defArgs s_as_ratio, defBody s_as_ratio, defScope s_as_ratio, [], []⟩,
  ⟨fun K => (He.ga K "trimmed"), "trimmed", "trimmed", defArgs s_trimmed, defBody s_trimmed, defScope s_trimmed, [], []⟩,
  ⟨fun K => (He.ga K "shared_bottom"), "shared_bottom", "shared_bottom", defArgs s_shared_bottom, defBody s_shared_bottom, defScope s_shared_bottom, [], []⟩,
  ⟨fun K => (He.ga K "multiplied"), "multiplied", "multiplied", defArgs s_multiplied, defBody s_multiplied, defScope s_multiplied, [], []⟩,
  ⟨fun K => (He.ga K "whole_product"), "whole_product", "whole_product", defArgs s_whole_product, defBody s_whole_product, defScope s_whole_product, [], []⟩,
  ⟨fun K => (He.ma K (He.ga K "Polynomial") "__init__"), "__init__", "Polynomial.__init__", defArgs s_Polynomial_init, defBody s_Polynomial_init, defScope s_Polynomial_init, [], []⟩,
  ⟨fun K => (He.ma K (He.ga K "Polynomial") "terms"), "terms", "Polynomial.terms", defArgs s_Polynomial_terms, defBody s_Polynomial_terms, defScope s_Polynomial_terms, [], []⟩,
  ⟨fun K => (He.ma K (He.ga K "Polynomial") "__len__"), "__len__", "Polynomial.__len__", defArgs s_Polynomial_len, defBody s_Polynomial_len, defScope s_Polynomial_len, [], []⟩,
  ⟨fun K => (He.ma K (He.ga K "Polynomial") "__eq__"), "__eq__", "Polynomial.__eq__", defArgs s_Polynomial_eq, defBody s_Polynomial_eq, defScope s_Polynomial_eq, [], []⟩,
  ⟨fun K => (He.ma K (He.ga K "Polynomial") "__add__"), "__add__", "Polynomial.__add__", defArgs s_Polynomial_add, defBody s_Polynomial_add, defScope s_Polynomial_add, [], []⟩,
  ⟨fun K => (He.ma K (He.ga K "Polynomial") "__sub__"), "__sub__", "Polynomial.__sub__", defArgs s_Polynomial_sub, defBody s_Polynomial_sub, defScope s_Polynomial_sub, [], []⟩,
  ⟨fun K => (He.ma K (He.ga K "Polynomial") "__mul__"), "__mul__", "Polynomial.__mul__", defArgs s_Polynomial_mul, defBody s_Polynomial_mul, defScope s_Polynomial_mul, [], []⟩,
  ⟨fun K => (He.ma K (He.ga K "Polynomial") "__neg__"), "__neg__", "Polynomial.__neg__", defArgs s_Polynomial_neg, defBody s_Polynomial_neg, defScope s_Polynomial_neg, [], []⟩,
  ⟨fun K => (He.ma K (He.ga K "Polynomial") "worth"), "worth", "Polynomial.worth", defArgs s_Polynomial_worth, defBody s_Polynomial_worth, defScope s_Polynomial_worth, [], []⟩,
  ⟨fun K => (He.ma K (He.ga K "Polynomial") "slope"), "slope", "Polynomial.slope", defArgs s_Polynomial_slope, defBody s_Polynomial_slope, defScope s_Polynomial_slope, [], []⟩,
  ⟨fun K => (He.ga K "_term_at"), "_term_at", "_term_at", defArgs s_term_at, defBody s_term_at, defScope s_term_at, [], []⟩,
  ⟨fun K => (He.ga K "_law_cell"), "_law_cell", "_law_cell", defArgs s_cell, defBody s_cell, defScope s_cell, [], []⟩,
  ⟨fun K => (He.ga K "_law_box"), "_law_box", "_law_box", defArgs s_box, defBody s_box, defScope s_box, [], []⟩,
  ⟨fun K => (He.ga K "_law_take"), "_law_take", "_law_take", defArgs s_take, defBody s_take, defScope s_take, [], []⟩,
  ⟨fun K => (He.ga K "_law_frac"), "_law_frac", "_law_frac", defArgs s_frac, defBody s_frac, defScope s_frac, [], []⟩,
  ⟨fun K => (He.ga K "_law_plus"), "_law_plus", "_law_plus", defArgs s_plus, defBody s_plus, defScope s_plus, [], []⟩,
  ⟨fun K => (He.ga K "_law_times"), "_law_times", "_law_times", defArgs s_times, defBody s_times, defScope s_times, [], []⟩,
  ⟨fun K => (He.ga K "_law_minus"), "_law_minus", "_law_minus", defArgs s_minus, defBody s_minus, defScope s_minus, [], []⟩,
  ⟨fun K => (He.ga K "_law_number"), "_law_number", "_law_number", defArgs s_number, defBody s_number, defScope s_number, [], []⟩,
  ⟨fun K => (He.ga K "_law_handed"), "_law_handed", "_law_handed", defArgs s_handed, defBody s_handed, defScope s_handed, [], []⟩,
  ⟨fun K => (He.ga K "_law_told"), "_law_told", "_law_told", defArgs s_told, defBody s_told, defScope s_told, [], []⟩,
  ⟨fun K => (He.ga K "_law_trimmed"), "_law_trimmed", "_law_trimmed", defArgs s_q_trimmed, defBody s_q_trimmed, defScope s_q_trimmed, [], []⟩,
  ⟨fun K => (He.ga K "_law_sum"), "_law_sum", "_law_sum", defArgs s_sum, defBody s_sum, defScope s_sum, [], []⟩,
  ⟨fun K => (He.ga K "_law_product"), "_law_product", "_law_product", defArgs s_product, defBody s_product, defScope s_product, [], []⟩,
  ⟨fun K => (He.ga K "_law_at"), "_law_at", "_law_at", defArgs s_at, defBody s_at, defScope s_at, [], []⟩,
  ⟨fun K => (He.ga K "_law_terms"), "_law_terms", "_law_terms", defArgs s_terms, defBody s_terms, defScope s_terms, [], []⟩,
  ⟨fun K => (He.ga K "_law_refused"), "_law_refused", "_law_refused", defArgs s_refused, defBody s_refused, defScope s_refused, [], []⟩,
  ⟨fun K => (He.ga K "_law_list"), "_law_list", "_law_list", defArgs s_list, defBody s_list, defScope s_list, [], []⟩,
  ⟨fun K => (He.ga K "law"), "law", "law", defArgs s_law, defBody s_law, defScope s_law, [], []⟩]
abbrev R : PySem.W.OpenRow := PySem.W.OpenLaw.row PySem.Challenge.rw_filterorders_k05_polynomials
abbrev hk : PySem.W.Hook := FoZ.hook 6 hb hd
def ob (s : PySem.W.SharedT) : Bool × List He.FnW := FoZ.lookG 6 hb hd (HandSHeadRun.getT s)
theorem ob_eq (s : PySem.W.SharedT) : ob s = hk.obs s.abs := FoZ.lookG_eq (HandSHeadRun.getT_eq s)
def loose : List PySem.Str := (["gcd", "lcm", "_wall", "FilterError", "ByZero", "BadNumber", "BadText", "PIECE_DIGITS", "PIECE", "Ratio", "is_whole", "is_number", "as_ratio", "_has_only_digits", "_decimal", "_integer_of", "trimmed", "shared_bottom", "multiplied", "whole_product", "Polynomial", "_term_at", "_law_cell", "_law_box", "_law_take", "_law_frac", "_law_plus", "_law_times", "_law_minus", "_law_less"] : List PySem.Str) ++ (["_law_number", "_law_handed", "_law_told", "_law_trimmed", "_law_sum", "_law_product", "_law_at", "_law_made", "_law_terms", "_law_refused", "_law_list"] : List PySem.Str)
theorem run (w : World) : FoI.RunI R (PySem.W.view R.prog [45]) hk ob 6000 loose w := by
  unfold FoI.RunI
  kernel_rfl
theorem facts {K : PySem.W.Frag} {h : Heap} {mg : Str → Option Value} (X : K.In h) (G : h.Ns mainGlobals mg) (c : FoZ.Told hb hd K) : Nonempty (Tx K mg) := by
  obtain ⟨fd0, F0⟩ := c.defn 0
  obtain ⟨fd1, F1⟩ := c.defn 1
  obtain ⟨fd2, F2⟩ := c.defn 2
  obtain ⟨fd3, F3⟩ := c.defn 3
  obtain ⟨fd4, F4⟩ := c.defn 4
  obtain ⟨fd5, F5⟩ := c.defn 5
  obtain ⟨fd6, F6⟩ := c.defn 6
  obtain ⟨fd7, F7⟩ := c.defn 7
  obtain ⟨fd8, F8⟩ := c.defn 8
  obtain ⟨fd9, F9⟩ := c.defn 9
  obtain ⟨fd10, F10⟩ := c.defn 10
  obtain ⟨fd11, F11⟩ := c.defn 11
  obtain ⟨fd12, F12⟩ := c.defn 12
  obtain ⟨fd13, F13⟩ := c.defn 13
  obtain ⟨fd14, F14⟩ := c.defn 14
  obtain ⟨fd15, F15⟩ := c.defn 15
  obtain ⟨fd16, F16⟩ := c.defn 16
  obtain ⟨fd17, F17⟩ := c.defn 17
  obtain ⟨fd18, F18⟩ := c.defn 18
  obtain ⟨fd19, F19⟩ := c.defn 19
  obtain ⟨fd20, F20⟩ := c.defn 20
  obtain ⟨fd21, F21⟩ := c.defn 21
  obtain ⟨fd22, F22⟩ := c.defn 22
  obtain ⟨fd23, F23⟩ := c.defn 23
  obtain ⟨fd24, F24⟩ := c.defn 24
  obtain ⟨fd25, F25⟩ := c.defn 25
  obtain ⟨fd26, F26⟩ := c.defn 26
  obtain ⟨fd27, F27⟩ := c.defn 27
  obtain ⟨fd28, F28⟩ := c.defn 28
  obtain ⟨fd29, F29⟩ := c.defn 29
  obtain ⟨fd30, F30⟩ := c.defn 30
  obtain ⟨fd31, F31⟩ := c.defn 31
  obtain ⟨fd32, F32⟩ := c.defn 32
  obtain ⟨fd33, F33⟩ := c.defn 33
  obtain ⟨fd34, F34⟩ := c.defn 34
  obtain ⟨fd35, F35⟩ := c.defn 35
  obtain ⟨fd36, F36⟩ := c.defn 36
  obtain ⟨fd37, F37⟩ := c.defn 37
  obtain ⟨fd38, F38⟩ := c.defn 38
  obtain ⟨fd39, F39⟩ := c.defn 39
  obtain ⟨fd40, F40⟩ := c.defn 40
  obtain ⟨fd41, F41⟩ := c.defn 41
  obtain ⟨fd42, F42⟩ := c.defn 42
  obtain ⟨fd43, F43⟩ := c.defn 43
  obtain ⟨fd44, F44⟩ := c.defn 44
  exact ⟨⟨fd0,
    He5.fun_of (st := s_BadNumber_init) F0,
    ((He5.fun_of (st := s_BadNumber_init) F0).binds (ps := ["self", "given"]) fun _ _ _ _ _ _ us hl => match us, hl with | [_, _], _ => rfl),
    fd1,
    F1,
    fd2,
    He5.fun_of (st := s_Ratio_top) F2,
    ((He5.fun_of (st := s_Ratio_top) F2).binds (ps := ["self"]) fun _ _ _ _ _ _ us hl => match us, hl with | [_], _ => rfl),
    fd3,
    He5.fun_of (st := s_Ratio_bottom) F3,
    ((He5.fun_of (st := s_Ratio_bottom) F3).binds (ps := ["self"]) fun _ _ _ _ _ _ us hl => match us, hl with | [_], _ => rfl),
    fd4,
    He5.fun_of (st := s_Ratio_eq) F4,
    ((He5.fun_of (st := s_Ratio_eq) F4).binds (ps := ["self", "other"]) fun _ _ _ _ _ _ us hl => match us, hl with | [_, _], _ => rfl),
    fd5,
    He5.fun_of (st := s_Ratio_add) F5,
    ((He5.fun_of (st := s_Ratio_add) F5).binds (ps := ["self", "other"]) fun _ _ _ _ _ _ us hl => match us, hl with | [_, _], _ => rfl),
    fd6,
    He5.fun_of (st := s_Ratio_sub) F6,
    ((He5.fun_of (st := s_Ratio_sub) F6).binds (ps := ["self", "other"]) fun _ _ _ _ _ _ us hl => match us, hl with | [_, _], _ => rfl),
    fd7,
    He5.fun_of (st := s_Ratio_mul) F7,
    ((He5.fun_of (st := s_Ratio_mul) F7).binds (ps := ["self", "other"]) fun _ _ _ _ _ _ us hl => match us, hl with | [_, _], _ => rfl),
    fd8,
    He5.fun_of (st := s_Ratio_neg) F8,
    ((He5.fun_of (st := s_Ratio_neg) F8).binds (ps := ["self"]) fun _ _ _ _ _ _ us hl => match us, hl with | [_], _ => rfl),
    fd9,
    He5.fun_of (st := s_is_whole) F9,
    ((He5.fun_of (st := s_is_whole) F9).binds (ps := ["given"]) fun _ _ _ _ _ _ us hl => match us, hl with | [_], _ => rfl),
    He.glo_ok X G (c.bool 0),
    fd10,
    He5.fun_of (st := s_is_number) F10,
    ((He5.fun_of (st := s_is_number) F10).binds (ps := ["given"]) fun _ _ _ _ _ _ us hl => match us, hl with | [_], _ => rfl),
    He.glo_ok X G (c.bool 1),
    fd11,
    He5.fun_of (st := s_as_ratio) F11,
    ((He5.fun_of (st := s_as_ratio) F11).binds (ps := ["given"]) fun _ _ _ _ _ _ us hl => match us, hl with | [_], _ => rfl),
    He.glo_ok X G (c.bool 2),
    fd12,
    He5.fun_of (st := s_trimmed) F12,
    ((He5.fun_of (st := s_trimmed) F12).binds (ps := ["terms"]) fun _ _ _ _ _ _ us hl => match us, hl with | [_], _ => rfl),
    He.glo_ok X G (c.bool 3),
    fd13,
    He5.fun_of (st := s_shared_bottom) F13,
    ((He5.fun_of (st := s_shared_bottom) F13).binds (ps := ["ratios"]) fun _ _ _ _ _ _ us hl => match us, hl with | [_], _ => rfl),
    He.glo_ok X G (c.bool 4),
    fd14,
    He5.fun_of (st := s_multiplied) F14,
    ((He5.fun_of (st := s_multiplied) F14).binds (ps := ["ratios", "bottom"]) fun _ _ _ _ _ _ us hl => match us, hl with | [_, _], _ => rfl),
    He.glo_ok X G (c.bool 5),
    fd15,
    He5.fun_of (st := s_whole_product) F15,
    ((He5.fun_of (st := s_whole_product) F15).binds (ps := ["one", "other"]) fun _ _ _ _ _ _ us hl => match us, hl with | [_, _], _ => rfl),
    He.glo_ok X G (c.bool 6),
    fd16,
    He5.fun_of (st := s_Polynomial_init) F16,
    ((He5.fun_of (st := s_Polynomial_init) F16).binds (ps := ["self", "numbers"]) fun _ _ _ _ _ _ us hl => match us, hl with | [_, _], _ => rfl),
    fd17,
    He5.fun_of (st := s_Polynomial_terms) F17,
    ((He5.fun_of (st := s_Polynomial_terms) F17).binds (ps := ["self"]) fun _ _ _ _ _ _ us hl => match us, hl with | [_], _ => rfl),
    fd18,
    He5.fun_of (st := s_Polynomial_len) F18,
    ((He5.fun_of (st := s_Polynomial_len) F18).binds (ps := ["self"]) fun _ _ _ _ _ _ us hl => match us, hl with | [_], _ => rfl),
    fd19,
    He5.fun_of (st := s_Polynomial_eq) F19,
    ((He5.fun_of (st := s_Polynomial_eq) F19).binds (ps := ["self", "other"]) fun _ _ _ _ _ _ us hl => match us, hl with | [_, _], _ => rfl),
    fd20,
    He5.fun_of (st := s_Polynomial_add) F20,
    ((He5.fun_of (st := s_Polynomial_add) F20).binds (ps := ["self", "other"]) fun _ _ _ _ _ _ us hl => match us, hl with | [_, _], _ => rfl),
    fd21,
    He5.fun_of (st := s_Polynomial_sub) F21,
    ((He5.fun_of (st := s_Polynomial_sub) F21).binds (ps := ["self", "other"]) fun _ _ _ _ _ _ us hl => match us, hl with | [_, _], _ => rfl),
    fd22,
    He5.fun_of (st := s_Polynomial_mul) F22,
    ((He5.fun_of (st := s_Polynomial_mul) F22).binds (ps := ["self", "other"]) fun _ _ _ _ _ _ us hl => match us, hl with | [_, _], _ => rfl),
    fd23,
    He5.fun_of (st := s_Polynomial_neg) F23,
    ((He5.fun_of (st := s_Polynomial_neg) F23).binds (ps := ["self"]) fun _ _ _ _ _ _ us hl => match us, hl with | [_], _ => rfl),
    fd24,
    He5.fun_of (st := s_Polynomial_worth) F24,
    ((He5.fun_of (st := s_Polynomial_worth) F24).binds (ps := ["self", "number"]) fun _ _ _ _ _ _ us hl => match us, hl with | [_, _], _ => rfl),
    fd25,
    He5.fun_of (st := s_Polynomial_slope) F25,
    ((He5.fun_of (st := s_Polynomial_slope) F25).binds (ps := ["self"]) fun _ _ _ _ _ _ us hl => match us, hl with | [_], _ => rfl),
    fd26,
    He5.fun_of (st := s_term_at) F26,
    ((He5.fun_of (st := s_term_at) F26).binds (ps := ["terms", "at"]) fun _ _ _ _ _ _ us hl => match us, hl with | [_, _], _ => rfl),
    He.glo_ok X G (c.bool 7),
    fd27,
    He5.fun_of (st := s_cell) F27,
    ((He5.fun_of (st := s_cell) F27).binds (ps := ["_law_script", "_law_k"]) fun _ _ _ _ _ _ us hl => match us, hl with | [_, _], _ => rfl),
    He.glo_ok X G (c.bool 8),
    fd28,
    He5.fun_of (st := s_box) F28,
    ((He5.fun_of (st := s_box) F28).binds (ps := ["_law_script", "_law_k"]) fun _ _ _ _ _ _ us hl => match us, hl with | [_, _], _ => rfl),
    He.glo_ok X G (c.bool 9),
    fd29,
    He5.fun_of (st := s_take) F29,
    ((He5.fun_of (st := s_take) F29).binds (ps := ["_law_box_here", "_law_many"]) fun _ _ _ _ _ _ us hl => match us, hl with | [_, _], _ => rfl),
    He.glo_ok X G (c.bool 10),
    fd30,
    He5.fun_of (st := s_frac) F30,
    ((He5.fun_of (st := s_frac) F30).binds (ps := ["_law_up", "_law_down"]) fun _ _ _ _ _ _ us hl => match us, hl with | [_, _], _ => rfl),
    He.glo_ok X G (c.bool 11),
    fd31,
    He5.fun_of (st := s_plus) F31,
    ((He5.fun_of (st := s_plus) F31).binds (ps := ["_law_x", "_law_y"]) fun _ _ _ _ _ _ us hl => match us, hl with | [_, _], _ => rfl),
    He.glo_ok X G (c.bool 12),
    fd32,
    He5.fun_of (st := s_times) F32,
    ((He5.fun_of (st := s_times) F32).binds (ps := ["_law_x", "_law_y"]) fun _ _ _ _ _ _ us hl => match us, hl with | [_, _], _ => rfl),
    He.glo_ok X G (c.bool 13),
    fd33,
    He5.fun_of (st := s_minus) F33,
    ((He5.fun_of (st := s_minus) F33).binds (ps := ["_law_x", "_law_y"]) fun _ _ _ _ _ _ us hl => match us, hl with | [_, _], _ => rfl),
    He.glo_ok X G (c.bool 14),
    fd34,
    He5.fun_of (st := s_number) F34,
    ((He5.fun_of (st := s_number) F34).binds (ps := ["_law_box_here", "_law_most"]) fun _ _ _ _ _ _ us hl => match us, hl with | [_, _], _ => rfl),
    He.glo_ok X G (c.bool 15),
    fd35,
    He5.fun_of (st := s_handed) F35,
    ((He5.fun_of (st := s_handed) F35).binds (ps := ["_law_x", "_law_box_here"]) fun _ _ _ _ _ _ us hl => match us, hl with | [_, _], _ => rfl),
    He.glo_ok X G (c.bool 16),
    fd36,
    He5.fun_of (st := s_told) F36,
    ((He5.fun_of (st := s_told) F36).binds (ps := ["_law_amount"]) fun _ _ _ _ _ _ us hl => match us, hl with | [_], _ => rfl),
    He.glo_ok X G (c.bool 17),
    fd37,
    He5.fun_of (st := s_q_trimmed) F37,
    ((He5.fun_of (st := s_q_trimmed) F37).binds (ps := ["_law_terms_here"]) fun _ _ _ _ _ _ us hl => match us, hl with | [_], _ => rfl),
    He.glo_ok X G (c.bool 18),
    fd38,
    He5.fun_of (st := s_sum) F38,
    ((He5.fun_of (st := s_sum) F38).binds (ps := ["_law_one", "_law_other"]) fun _ _ _ _ _ _ us hl => match us, hl with | [_, _], _ => rfl),
    He.glo_ok X G (c.bool 19),
    fd39,
    He5.fun_of (st := s_product) F39,
    ((He5.fun_of (st := s_product) F39).binds (ps := ["_law_one", "_law_other"]) fun _ _ _ _ _ _ us hl => match us, hl with | [_, _], _ => rfl),
    He.glo_ok X G (c.bool 20),
    fd40,
    He5.fun_of (st := s_at) F40,
    ((He5.fun_of (st := s_at) F40).binds (ps := ["_law_terms_here", "_law_x"]) fun _ _ _ _ _ _ us hl => match us, hl with | [_, _], _ => rfl),
    He.glo_ok X G (c.bool 21),
    fd41,
    He5.fun_of (st := s_terms) F41,
    ((He5.fun_of (st := s_terms) F41).binds (ps := ["_law_poly"]) fun _ _ _ _ _ _ us hl => match us, hl with | [_], _ => rfl),
    He.glo_ok X G (c.bool 22),
    fd42,
    He5.fun_of (st := s_refused) F42,
    ((He5.fun_of (st := s_refused) F42).binds (ps := ["_law_row"]) fun _ _ _ _ _ _ us hl => match us, hl with | [_], _ => rfl),
    He.glo_ok X G (c.bool 23),
    fd43,
    He5.fun_of (st := s_list) F43,
    ((He5.fun_of (st := s_list) F43).binds (ps := ["_law_box_here"]) fun _ _ _ _ _ _ us hl => match us, hl with | [_], _ => rfl),
    He.glo_ok X G (c.bool 24),
    fd44,
    He5.fun_of (st := s_law) F44,
    ((He5.fun_of (st := s_law) F44).binds (ps := ["_law_script"]) fun _ _ _ _ _ _ us hl => match us, hl with | [_], _ => rfl),
    He.glo_ok X G (c.bool 25),
    He.free_ok X G (c.bool 26),
    He.free_ok X G (c.bool 27),
    He.free_ok X G (c.bool 28),
    He.free_ok X G (c.bool 29),
    He.free_ok X G (c.bool 30),
    He.free_ok X G (c.bool 31),
    He.free_ok X G (c.bool 32),
    He.free_ok X G (c.bool 33),
    He.free_ok X G (c.bool 34),
    He.free_ok X G (c.bool 35),
    He.free_ok X G (c.bool 36),
    He.free_ok X G (c.bool 37),
    He.free_ok X G (c.bool 38),
    He.free_ok X G (c.bool 39),
    He.free_ok X G (c.bool 40),
    He.free_ok X G (c.bool 41),
    FoZ.imp_ok X G (c.bool 42),
    FoZ.imp_ok X G (c.bool 43),
    He.glo_ok X G (c.bool 44),
    He.cls_ok (c.bool 45),
    He.noat_ok (c.bool 46),
    He.noat_ok (c.bool 47),
    He.mkr_ok (c.bool 48),
    FoZ.prop_ok (c.bool 49),
    FoZ.prop_ok (c.bool 50),
    FoB.bin_add (c.bool 51),
    FoB.bin_sub (c.bool 52),
    FoB.bin_mul (c.bool 53),
    FoB.cmp_eq (c.bool 54),
    He.meth_ok (c.bool 55),
    FoB.isi_ok (c.bool 56),
    He.glo_ok X G (c.bool 57),
    FoB.oerr_ok (c.bool 58),
    He.glo_ok X G (c.bool 59),
    He.cls_ok (c.bool 60),
    He.noat_ok (c.bool 61),
    He.mkr_ok (c.bool 62),
    FoB.isi_ok (c.bool 63),
    He.meth_ok (c.bool 64),
    He.meth_ok (c.bool 65),
    He.meth_ok (c.bool 66),
    He.meth_ok (c.bool 67),
    He.meth_ok (c.bool 68),
    FoB.bin_add (c.bool 69),
    FoB.bin_sub (c.bool 70),
    FoB.bin_mul (c.bool 71),
    FoB.cmp_eq (c.bool 72),
    of_decide_eq_true (c.bool 73),
    of_decide_eq_true (c.bool 74)⟩⟩
end Fo

set_option maxHeartbeats 4100000
namespace Fo
open PySem PySem.Spec PyProof.Rows L2
/-! ### what the law's own helpers promise -/
/-- the drawing box at p, drawn from at most n times -/
def BoxAt (H : Hp) (p : Addr) (n : Nat) : Prop := ∃ x c sd : Int, H p = some (.lst [.int x, .int c, .int sd]) ∧ 0 ≤ x ∧ 0 ≤ c ∧ c ≤ n ∧ 0 ≤ sd ∧ sd ≤ 2 ^ 40
/-- all but the object at p stands as it stood -/
def But (p : Addr) (H H' : Hp) : Prop := ∀ b o, H b = some o → b ≠ p → H' b = some o
theorem But.refl (p : Addr) (H : Hp) : But p H H := fun _ _ h _ => h
theorem But.trans {p : Addr} {H H1 H2 : Hp} (a : But p H H1) (b : But p H1 H2) : But p H H2 := fun c o h n => b c o (a c o h n) n
theorem But.of_same {p : Addr} {H H' : Hp} (a : Same H H') : But p H H' := fun c o h _ => a c o h
theorem Same.upd {H : Hp} {p : Addr} {o : HO} (h : H p = none) : Same H (upd H p o) := fun b u e => by
  rw [upd_ne (ne_of_none e h)]
  exact e
theorem But.upd {H : Hp} {p : Addr} {o : HO} : But p H (upd H p o) := fun b u e n => by
  rw [upd_ne n]
  exact e
theorem SqT.same {K : PySem.W.Frag} {H H' : Hp} {a : Addr} {xs : List V} (e : Same H H') (h : H a = some (.tup xs)) : SqT K H' a xs := SqT.of (e _ _ h)
def spCell (K : PySem.W.Frag) : Sp := fun vs H Q _ => ∃ (a : Addr) (ns : List Int) (i : Nat), vs = [.ref a, .int i] ∧ SqL K H a (ns.map V.int) ∧ Q (.int (ns.getD i 0)) H
def spBox (K : PySem.W.Frag) : Sp := fun vs H Q _ => ∃ (a : Addr) (ns : List Int) (i : Nat), vs = [.ref a, .int i] ∧ SqL K H a (ns.map V.int) ∧ i ≤ 1000 ∧ ∀ p H', H p = none → Same H H' → BoxAt H' p 0 → Q (.ref p) H'
def spTake : Sp := fun vs H Q _ => ∃ (p : Addr) (m : Int) (n : Nat), vs = [.ref p, .int m] ∧ BoxAt H p n ∧ n ≤ 100000 ∧ 0 < m ∧ FoM.Sz 4000 m ∧
  ∀ d H', 0 ≤ d → d < m → BoxAt H' p (n + 1) → But p H H' → Q (.int d) H'
/-- a fraction's tuple -/
def FrAt (K : PySem.W.Frag) (H : Hp) (a : Addr) (u d : Int) : Prop := SqT K H a [.int u, .int d]
def spFrac : Sp := fun vs H Q _ => ∃ u d : Int, vs = [.int u, .int d] ∧ d ≠ 0 ∧ FoM.Sz 4000 d ∧ ∀ p, H p = none → Q (.ref p) (upd H p (.tup [.int (FoM.frN u d), .int (FoM.frD u d)]))
/-- two fractions, and what is reckoned of them -/
def sp2 (K : PySem.W.Frag) (N D : Int → Int → Int → Int → Int) : Sp := fun vs H Q _ => ∃ (a b : Addr) (u d v e : Int), vs = [.ref a, .ref b] ∧ FrAt K H a u d ∧ FrAt K H b v e ∧ d ≠ 0 ∧ e ≠ 0 ∧
  FoM.Sz 1900 u ∧ FoM.Sz 1900 d ∧ FoM.Sz 1900 v ∧ FoM.Sz 1900 e ∧ ∀ p, H p = none → Q (.ref p) (upd H p (.tup [.int (FoM.frN (N u d v e) (D u d v e)), .int (FoM.frD (N u d v e) (D u d v e))]))
abbrev spPlus (K : PySem.W.Frag) : Sp := sp2 K (fun u d v e => u * e + v * d) (fun _ d _ e => d * e)
abbrev spMinus (K : PySem.W.Frag) : Sp := sp2 K (fun u d v e => u * e - v * d) (fun _ d _ e => d * e)
abbrev spTimes (K : PySem.W.Frag) : Sp := sp2 K (fun u _ v _ => u * v) (fun _ d _ e => d * e)
def spLess (K : PySem.W.Frag) : Sp := fun vs H Q _ => ∃ (a b : Addr) (u d v e : Int), vs = [.ref a, .ref b] ∧ FrAt K H a u d ∧ FrAt K H b v e ∧
  FoM.Sz 1900 u ∧ FoM.Sz 1900 d ∧ FoM.Sz 1900 v ∧ FoM.Sz 1900 e ∧ Q (.bl (decide (u * e < v * d))) H
theorem pow18 : ((10 : Int) ^ (18 : Int).toNat) = 1000000000000000000 := by decide
theorem sz_of {n : Nat} {i : Int} (m : Int) (h : -m < i) (g : i < m) (e : m.natAbs ≤ 2 ^ n) : FoM.Sz n i := Nat.lt_of_lt_of_le (by omega) e
theorem pow3 (i : Int) : i ^ (3 : Int).toNat = i * i * i := by
  show i ^ 3 = _
  rw [Int.pow_succ, Int.pow_succ, Int.pow_succ, Int.pow_zero, Int.one_mul]
section
variable {P : Program} {w : World} {K : PySem.W.Frag} {mg : Str → Option Value} {base : Heap}
theorem ok_cell (T : Tx K mg) : FnOk P w K mg base CX0 1 (He.ga K "_law_cell") T.fd_cell ["_law_script", "_law_k"] (spCell K) := by
  refine T.F_cell.ok sc_cell (fun vs H Q E h => ?_) (fun cdv A outer s H vs Q E hr h => ?_)
  · obtain ⟨a, ns, i, rfl, _⟩ := h
    rfl
  · obtain ⟨a, ns, i, rfl, hS, q⟩ := h
    refine ⟨_, (pss_one (ps_ret (pe_ifExp (pt_cmpR op_lt (pv 1) (pe_callB call_len_seq (by rfl) T.z_len PySem.boot_len (pa_cons (pv 0) pa_nil)) (nomark _)) (pe_ix ix_list (pv 0) (pv 1) (fun _ _ => rfl)) pe_int))), ?_⟩
    refine ⟨_, rfl, _, rfl, a, _, rfl, .inl hS, _, _, rfl, rfl, _, rfl, ite2 (fun e => ?_) (fun e => ?_)⟩
    · have e1 : i < ns.length := by
        have e0 := of_decide_eq_true e
        rw [List.length_map] at e0
        omega
      refine ⟨_, rfl, _, rfl, a, _, _, _, rfl, rfl, hS, atI_nat (by rw [List.getElem?_map, List.getElem?_eq_getElem e1]; rfl), ?_⟩
      have e2 : ns.getD i 0 = ns[i] := by simp [List.getD, List.getElem?_eq_getElem e1]
      rw [← e2]
      exact q
    · have e1 : ¬ i < ns.length := fun z => e (decide_eq_true (by rw [List.length_map]; omega))
      have e2 : ns.getD i 0 = 0 := by simp [List.getD, List.getElem?_eq_none (Nat.le_of_not_lt e1)]
      rw [e2] at q
      exact q
theorem ok_box (T : Tx K mg) : FnOk P w K mg base CX0 2 (He.ga K "_law_box") T.fd_box ["_law_script", "_law_k"] (spBox K) := by
  refine T.F_box.ok sc_box (fun vs H Q E h => ?_) (fun cdv A outer s H vs Q E hr h => ?_)
  · obtain ⟨a, ns, i, rfl, _⟩ := h
    rfl
  · obtain ⟨a, ns, i, rfl, hS, hi, q⟩ := h
    refine ⟨_, (pss_one (ps_ret (pe_lst (pa_cons (pe_callB call_abs (by rfl) T.z_abs (by decide +kernel) (pa_cons (pe_callTy FoA.call_intI (by rfl) T.z_int (by decide +kernel) (pa_cons (pe_call (ok_cell T) (hr.mono (by decide)) (by rfl) T.g_cell T.F_cell.kp T.b_cell .nil pass0 (pa_cons (pv 0) (pa_cons (pv 1) pa_nil))) pa_nil)) pa_nil)) (pa_cons pe_int (pa_cons (pe_op op_add (pe_op op_mulW pe_int (pv 1)) pe_int) pa_nil)))))), ?_⟩
    refine ⟨_, rfl, _, rfl, a, ns, i, rfl, hS, _, rfl, _, rfl, _, rfl, _, _, rfl, rfl, FoM.Sz.mulok (n := 20) (m := 20) (sz_of 1000000 (by decide) (by decide) (by decide)) (sz_of 1000000 (by omega) (by omega) (by decide)), _, _, rfl, rfl, ?_⟩
    refine ⟨(by show 3 ≤ sizeLine; rw [sizeLine_eq]; decide), fun p hp => ?_⟩
    refine q p _ hp (Same.upd hp) ⟨_, _, _, upd_same, ?_, ?_, ?_, ?_, ?_⟩
    · split <;> omega
    · omega
    · omega
    · omega
    · omega
theorem ok_take (T : Tx K mg) : FnOk P w K mg base CX0 1 (He.ga K "_law_take") T.fd_take ["_law_box_here", "_law_many"] spTake := by
  refine T.F_take.ok sc_take (fun vs H Q E h => ?_) (fun cdv A outer s H vs Q E hr h => ?_)
  · obtain ⟨p, m, n, rfl, _⟩ := h
    rfl
  · obtain ⟨p, m, n, rfl, ⟨x, c, sd, hB, hx, hc, hcn, hs, hs2⟩, hn, hm, hz, q⟩ := h
    have hL : SqL K H p [.int x, .int c, .int sd] := SqL.of hB
    refine ⟨_, (pss_cons (ps_if (pt_cmpR op_ge (pe_ix ix_list (pv 0) pe_int (fun _ _ => rfl)) (pe_op FoA.op_powW pe_int pe_int) (nomark _)) (pss_cons (ps_set (i := 2) sc_take.nd rfl (.inl rfl) (pe_op op_mod (pe_callTy FoA.call_intI (by rfl) T.z_int (by decide +kernel) (pa_cons (pe_ix ix_list (pv 0) pe_int (fun _ _ => rfl)) pa_nil)) (pv 1)))
      (pss_cons (ps_asg (pe_op op_fdivW (pe_ix ix_list (pv 0) pe_int (fun _ _ => rfl)) (pv 1)) (pg_sub (pv 0) pe_int set_list))
      (pss_one (ps_ret (pv 2))))) pss_nil)
      (pss_cons (ps_asg (pe_op op_add (pe_ix ix_list (pv 0) pe_int (fun _ _ => rfl)) pe_int) (pg_sub (pv 0) pe_int set_list))
      (pss_cons (ps_set (i := 3) sc_take.nd rfl (.inl rfl) (pe_op op_mod (pe_op FoA.op_powW (pe_callTy FoA.call_intI (by rfl) T.z_int (by decide +kernel) (pa_cons (pe_op op_add (pe_op op_add (pe_op op_mulW (pe_op op_add (pe_ix ix_list (pv 0) pe_int (fun _ _ => rfl)) pe_int) pe_int) (pe_op op_mulW (pe_ix ix_list (pv 0) pe_int (fun _ _ => rfl)) pe_int)) (pe_ix ix_list (pv 0) pe_int (fun _ _ => rfl))) pa_nil)) pe_int) pe_int))
      (pss_cons (ps_set (i := 3) sc_take.nd rfl (.inl rfl) (pe_op op_mod (pe_op FoA.op_powW (pe_callTy FoA.call_intI (by rfl) T.z_int (by decide +kernel) (pa_cons (pe_op op_add (pv 3) (pe_op op_mulW (pe_ix ix_list (pv 0) pe_int (fun _ _ => rfl)) pe_int)) pa_nil)) pe_int) pe_int))
      (pss_one (ps_ret (pe_op op_mod (pe_callTy FoA.call_intI (by rfl) T.z_int (by decide +kernel) (pa_cons (pe_op op_fdivW (pv 3) pe_int) pa_nil)) (pv 1)))))))), ?_⟩
    refine ⟨_, rfl, _, _, _, _, rfl, rfl, hL, rfl, _, _, rfl, rfl, ⟨by decide, by decide, by decide⟩, _, _, rfl, rfl, _, rfl, ite2 (fun e => ?_) (fun e => ?_)⟩
    · -- a digit of the number itself
      have hdv : CDivW x m := wide_div hm hz (by decide) (by decide)
      refine ⟨_, rfl, _, _, _, _, rfl, rfl, hL, rfl, _, rfl, _, rfl, _, _, rfl, rfl, hm, ?_⟩
      refine ⟨_, rfl, _, _, _, _, rfl, rfl, hL, rfl, _, rfl, _, _, rfl, rfl, hdv, _, rfl, p, _, 0, 0, rfl, rfl, hB, rfl, ?_⟩
      refine ⟨_, rfl, q _ _ (Int.emod_nonneg _ (by omega)) (Int.emod_lt_of_pos _ hm) ⟨x / m, c, sd, upd_same, Int.ediv_nonneg hx (by omega), hc, by omega, hs, hs2⟩ But.upd⟩
    · have hx2 : x < 1000000000000000000 := by
        rw [pow18] at e
        have e2 := of_decide_eq_false (Bool.eq_false_iff.mpr e)
        omega
      -- counted up
      refine ⟨_, rfl, _, _, _, _, rfl, rfl, hL, rfl, _, _, rfl, rfl, _, rfl, p, _, 1, 1, rfl, rfl, hB, rfl, ?_⟩
      have hL1 : SqL K (upd H p (.lst [.int x, .int (c + 1), .int sd])) p [.int x, .int (c + 1), .int sd] := SqL.of upd_same
      refine ⟨_, rfl, _, _, _, _, rfl, rfl, hL1, rfl, _, _, rfl, rfl, _, _, rfl, rfl, FoM.Sz.mulok (n := 64) (m := 20) (sz_of 2000000000000000000 (by omega) (by omega) (by decide)) (sz_of 1000000 (by decide) (by decide) (by decide)),
        _, rfl, _, _, _, _, rfl, rfl, hL1, rfl, _, _, rfl, rfl, FoM.Sz.mulok (n := 20) (m := 20) (sz_of 1000000 (by omega) (by omega) (by decide)) (sz_of 1000000 (by decide) (by decide) (by decide)), _, _, rfl, rfl,
        _, rfl, _, _, _, _, rfl, rfl, hL1, rfl, _, _, rfl, rfl, _, rfl, _, _, rfl, rfl, ⟨by decide, by decide, ?_⟩, _, _, rfl, rfl, (by show (0 : Int) < 2147483647; decide), ?_⟩
      · exact sz_of (n := 1000) 1000000000000000000000000000000 (by omega) (by omega) (by decide)
      generalize hg : ((x + 7) * 69069 + (c + 1) * 40692 + sd) ^ (3 : Int).toNat % 2147483647 = g
      have g0 : 0 ≤ g := by
        rw [← hg]
        exact Int.emod_nonneg _ (by decide)
      have g1 : g < 2147483647 := by
        rw [← hg]
        exact Int.emod_lt_of_pos _ (by decide)
      refine ⟨_, rfl, _, rfl, _, _, _, _, rfl, rfl, hL1, rfl, _, _, rfl, rfl, FoM.Sz.mulok (n := 20) (m := 20) (sz_of 1000000 (by omega) (by omega) (by decide)) (sz_of 1000000 (by decide) (by decide) (by decide)), _, _, rfl, rfl, _, rfl, _, _, rfl, rfl, ⟨by decide, by decide, ?_⟩, _, _, rfl, rfl, (by show (0 : Int) < 2147483399; decide), ?_⟩
      · exact sz_of (n := 1000) 1000000000000000000000000000000 (by omega) (by omega) (by decide)
      generalize hk : (g + (c + 1) * 17389) ^ (3 : Int).toNat % 2147483399 = k
      have k0 : 0 ≤ k := by
        rw [← hk]
        exact Int.emod_nonneg _ (by decide)
      refine ⟨_, rfl, _, _, rfl, rfl, wide_div (b := 20) (by decide) (by decide) (by decide) (by decide), _, rfl, _, rfl, _, _, rfl, rfl, hm, ?_⟩
      exact q _ _ (Int.emod_nonneg _ (by omega)) (Int.emod_lt_of_pos _ hm) ⟨x, c + 1, sd, upd_same, hx, by omega, by omega, hs, hs2⟩ But.upd
theorem ok_frac (T : Tx K mg) : FnOk P w K mg base CX0 1 (He.ga K "_law_frac") T.fd_frac ["_law_up", "_law_down"] spFrac := by
  refine T.F_frac.ok sc_frac (fun vs H Q E h => ?_) (fun cdv A outer s H vs Q E hr h => ?_)
  · obtain ⟨u, d, rfl, _⟩ := h
    rfl
  · obtain ⟨u, d, rfl, hd, hz, q⟩ := h
    refine ⟨_, (pss_cons (ps_par (i := 2) (j := 3) (by rfl) sc_frac.nd rfl rfl (by decide) rfl rfl (pa_cons (pe_callB call_abs (by rfl) T.z_abs (by decide +kernel) (pa_cons (pv 0) pa_nil)) (pa_cons (pe_callB call_abs (by rfl) T.z_abs (by decide +kernel) (pa_cons (pv 1) pa_nil)) pa_nil)) (by rfl))
      (pss_cons (ps_while PassesOwn.never (pt_cmpR op_gt (pv 3) pe_int (nomark _)) (pss_one (ps_par (i := 2) (j := 3) (by rfl) sc_frac.nd rfl rfl (by decide) rfl rfl (pa_cons (pv 3) (pa_cons (pe_op op_mod (pv 2) (pv 3)) pa_nil)) (by rfl))))
      (pss_cons (ps_if (pt_cmpR op_lt (pv 1) pe_int (nomark _)) (pss_one (ps_set (i := 2) sc_frac.nd rfl (.inl rfl) (pe_op op_sub pe_int (pv 2)))) pss_nil)
      (pss_one (ps_ret (pe_tup (pa_cons (pe_op FoA.op_fdivZ (pv 0) (pv 2)) (pa_cons (pe_op FoA.op_fdivZ (pv 1) (pv 2)) pa_nil)))))))), ?_⟩
    refine ⟨_, rfl, _, rfl, _, rfl, _, rfl, _, _, rfl, ?_⟩
    -- the greatest common divisor
    refine ⟨fun k σ H2 => H2 = H ∧ ∃ a b : Int, σ = [some (.int u), some (.int d), some (.int a), some (.int b)] ∧ 0 ≤ a ∧ 0 ≤ b ∧ k = b.toNat ∧ Nat.gcd a.natAbs b.natAbs = Nat.gcd u.natAbs d.natAbs, ⟨_, rfl, _, _, rfl, ?_, ?_, rfl, ?_⟩, ?_⟩
    · split <;> omega
    · split <;> omega
    · congr 1 <;> (split <;> omega)
    rintro k σ H2 ⟨rfl, a, b, rfl, ha, hb, rfl, hg⟩
    refine ⟨_, rfl, _, _, rfl, rfl, _, rfl, ite2 (fun e => ?_) (fun e => ?_)⟩
    · have hb0 : 0 < b := of_decide_eq_true e
      refine ⟨fun σ' H' => H' = H2 ∧ σ' = [some (.int u), some (.int d), some (.int b), some (.int (a % b))], fun σ' H' h => ?_, ?_⟩
      · obtain ⟨rfl, rfl⟩ := h
        have l1 := Int.emod_lt_of_pos a hb0
        have l0 := Int.emod_nonneg a (show b ≠ 0 by omega)
        refine ⟨(a % b).toNat, by omega, rfl, b, a % b, rfl, hb, l0, rfl, ?_⟩
        rw [← hg]
        have e1 : (a % b).natAbs = a.natAbs % b.natAbs := by
          have e2 : ((a.natAbs : Int) % (b.natAbs : Int)) = a % b := by
            rw [Int.natAbs_of_nonneg ha, Int.natAbs_of_nonneg hb]
          rw [← e2]
          omega
        rw [e1, Nat.gcd_comm a.natAbs, Nat.gcd_rec b.natAbs a.natAbs, Nat.gcd_comm]
      · exact ⟨_, rfl, _, rfl, _, rfl, _, _, rfl, rfl, hb0, _, _, rfl, rfl, rfl⟩
    · have hb0 : b = 0 := by
        have := of_decide_eq_false (Bool.eq_false_iff.mpr e)
        omega
      subst hb0
      have hga : a = ((Nat.gcd u.natAbs d.natAbs : Nat) : Int) := by
        rw [← hg]
        simp
        omega
      have hne := FoM.gc_ne (u := u) hd
      have hle := FoM.gc_le (u := u) hd
      have hdz : FoA.CDivZ u (FoM.gc u d) := FoA.divZ_of hne (FoM.Sz.le hz hle) (by decide) (by decide)
      have hdz2 : FoA.CDivZ d (FoM.gc u d) := FoA.divZ_of hne (FoM.Sz.le hz hle) (by decide) (by decide)
      refine ⟨_, rfl, _, _, rfl, rfl, _, rfl, ite2 (fun e2 => ?_) (fun e2 => ?_)⟩
      · have hd0 : d < 0 := of_decide_eq_true e2
        have eg : (0 : Int) - a = FoM.gc u d := by
          unfold FoM.gc
          rw [if_pos hd0, hga]
          omega
        rw [← eg] at hdz hdz2
        refine ⟨_, rfl, _, _, rfl, rfl, _, rfl, _, rfl, _, _, rfl, rfl, hdz, _, rfl, _, rfl, _, _, rfl, rfl, hdz2, (by show 2 ≤ sizeLine; rw [sizeLine_eq]; decide), fun p hp => ?_⟩
        have z := q p hp
        unfold FoM.frN FoM.frD at z
        rw [← eg] at z
        exact z
      · have hd0 : ¬ d < 0 := of_decide_eq_false (Bool.eq_false_iff.mpr e2)
        have eg : a = FoM.gc u d := by
          unfold FoM.gc
          rw [if_neg hd0, hga]
        rw [← eg] at hdz hdz2
        refine ⟨_, rfl, _, rfl, _, _, rfl, rfl, hdz, _, rfl, _, rfl, _, _, rfl, rfl, hdz2, (by show 2 ≤ sizeLine; rw [sizeLine_eq]; decide), fun p hp => ?_⟩
        have z := q p hp
        unfold FoM.frN FoM.frD at z
        rw [← eg] at z
        exact z
theorem ok_plus (T : Tx K mg) : FnOk P w K mg base CX0 2 (He.ga K "_law_plus") T.fd_plus ["_law_x", "_law_y"] (spPlus K) := by
  refine T.F_plus.ok sc_plus (fun vs H Q E h => ?_) (fun cdv A outer s H vs Q E hr h => ?_)
  · obtain ⟨a, b, u, d, v, e, rfl, _⟩ := h
    rfl
  · obtain ⟨a, b, u, d, v, e, rfl, ha, hb, hd, he, zu, zd, zv, ze, q⟩ := h
    refine ⟨_, (pss_one (ps_ret (pe_call (ok_frac T) (hr.mono (by decide)) (by rfl) T.g_frac T.F_frac.kp T.b_frac .nil pass0 (pa_cons (pe_op op_add (pe_op op_mulW (pe_ix ix_tup (pv 0) pe_int (fun _ _ => rfl)) (pe_ix ix_tup (pv 1) pe_int (fun _ _ => rfl))) (pe_op op_mulW (pe_ix ix_tup (pv 1) pe_int (fun _ _ => rfl)) (pe_ix ix_tup (pv 0) pe_int (fun _ _ => rfl)))) (pa_cons (pe_op op_mulW (pe_ix ix_tup (pv 0) pe_int (fun _ _ => rfl)) (pe_ix ix_tup (pv 1) pe_int (fun _ _ => rfl))) pa_nil))))), ?_⟩
    exact ⟨_, rfl, _, _, _, _, rfl, rfl, ha, rfl, _, rfl, _, _, _, _, rfl, rfl, hb, rfl, _, _, rfl, rfl, FoM.Sz.mulok zu ze, _, rfl, _, _, _, _, rfl, rfl, hb, rfl, _, rfl, _, _, _, _, rfl, rfl, ha, rfl, _, _, rfl, rfl, FoM.Sz.mulok zv zd, _, _, rfl, rfl,
      _, rfl, _, _, _, _, rfl, rfl, ha, rfl, _, rfl, _, _, _, _, rfl, rfl, hb, rfl, _, _, rfl, rfl, FoM.Sz.mulok zd ze, _, _, rfl, Int.mul_ne_zero hd he, (zd.mul ze).mono (by decide), q⟩
theorem ok_minus (T : Tx K mg) : FnOk P w K mg base CX0 2 (He.ga K "_law_minus") T.fd_minus ["_law_x", "_law_y"] (spMinus K) := by
  refine T.F_minus.ok sc_minus (fun vs H Q E h => ?_) (fun cdv A outer s H vs Q E hr h => ?_)
  · obtain ⟨a, b, u, d, v, e, rfl, _⟩ := h
    rfl
  · obtain ⟨a, b, u, d, v, e, rfl, ha, hb, hd, he, zu, zd, zv, ze, q⟩ := h
    refine ⟨_, (pss_one (ps_ret (pe_call (ok_frac T) (hr.mono (by decide)) (by rfl) T.g_frac T.F_frac.kp T.b_frac .nil pass0 (pa_cons (pe_op op_sub (pe_op op_mulW (pe_ix ix_tup (pv 0) pe_int (fun _ _ => rfl)) (pe_ix ix_tup (pv 1) pe_int (fun _ _ => rfl))) (pe_op op_mulW (pe_ix ix_tup (pv 1) pe_int (fun _ _ => rfl)) (pe_ix ix_tup (pv 0) pe_int (fun _ _ => rfl)))) (pa_cons (pe_op op_mulW (pe_ix ix_tup (pv 0) pe_int (fun _ _ => rfl)) (pe_ix ix_tup (pv 1) pe_int (fun _ _ => rfl))) pa_nil))))), ?_⟩
    exact ⟨_, rfl, _, _, _, _, rfl, rfl, ha, rfl, _, rfl, _, _, _, _, rfl, rfl, hb, rfl, _, _, rfl, rfl, FoM.Sz.mulok zu ze, _, rfl, _, _, _, _, rfl, rfl, hb, rfl, _, rfl, _, _, _, _, rfl, rfl, ha, rfl, _, _, rfl, rfl, FoM.Sz.mulok zv zd, _, _, rfl, rfl,
      _, rfl, _, _, _, _, rfl, rfl, ha, rfl, _, rfl, _, _, _, _, rfl, rfl, hb, rfl, _, _, rfl, rfl, FoM.Sz.mulok zd ze, _, _, rfl, Int.mul_ne_zero hd he, (zd.mul ze).mono (by decide), q⟩
theorem ok_times (T : Tx K mg) : FnOk P w K mg base CX0 2 (He.ga K "_law_times") T.fd_times ["_law_x", "_law_y"] (spTimes K) := by
  refine T.F_times.ok sc_times (fun vs H Q E h => ?_) (fun cdv A outer s H vs Q E hr h => ?_)
  · obtain ⟨a, b, u, d, v, e, rfl, _⟩ := h
    rfl
  · obtain ⟨a, b, u, d, v, e, rfl, ha, hb, hd, he, zu, zd, zv, ze, q⟩ := h
    refine ⟨_, (pss_one (ps_ret (pe_call (ok_frac T) (hr.mono (by decide)) (by rfl) T.g_frac T.F_frac.kp T.b_frac .nil pass0 (pa_cons (pe_op op_mulW (pe_ix ix_tup (pv 0) pe_int (fun _ _ => rfl)) (pe_ix ix_tup (pv 1) pe_int (fun _ _ => rfl))) (pa_cons (pe_op op_mulW (pe_ix ix_tup (pv 0) pe_int (fun _ _ => rfl)) (pe_ix ix_tup (pv 1) pe_int (fun _ _ => rfl))) pa_nil))))), ?_⟩
    exact ⟨_, rfl, _, _, _, _, rfl, rfl, ha, rfl, _, rfl, _, _, _, _, rfl, rfl, hb, rfl, _, _, rfl, rfl, FoM.Sz.mulok zu zv, _, rfl, _, _, _, _, rfl, rfl, ha, rfl, _, rfl, _, _, _, _, rfl, rfl, hb, rfl, _, _, rfl, rfl, FoM.Sz.mulok zd ze, _, _, rfl, Int.mul_ne_zero hd he, (zd.mul ze).mono (by decide), q⟩
end

/-! ### with rational numbers -/
/-- a fraction's tuple as it stands -/
abbrev qt (r : Rat) : HO := .tup [.int r.num, .int r.den]
def FrQ (H : Hp) (p : Addr) (r : Rat) : Prop := H p = some (qt r)
theorem FrQ.at_ {K : PySem.W.Frag} {H : Hp} {p : Addr} {r : Rat} (h : FrQ H p r) : FrAt K H p r.num r.den := SqT.of h
theorem FrQ.same {H H' : Hp} {p : Addr} {r : Rat} (h : FrQ H p r) (e : Same H H') : FrQ H' p r := e _ _ h
theorem qt_fr {u d : Int} (h : d ≠ 0) : (HO.tup [.int (FoM.frN u d), .int (FoM.frD u d)]) = qt (Rat.divInt u d) := by
  rw [(FoQ.fr_rat h).1, (FoQ.fr_rat h).2]
theorem qt_of {u d : Int} {r : Rat} (h : d ≠ 0) (e : Rat.divInt u d = r) : (HO.tup [.int (FoM.frN u d), .int (FoM.frD u d)]) = qt r := by
  rw [qt_fr h, e]
def spFracQ : Sp := fun vs H Q _ => ∃ u d : Int, vs = [.int u, .int d] ∧ d ≠ 0 ∧ FoM.Sz 4000 d ∧ ∀ p, H p = none → Q (.ref p) (upd H p (qt (Rat.divInt u d)))
def sp2Q (f : Rat → Rat → Rat) : Sp := fun vs H Q _ => ∃ (a b : Addr) (x z : Rat), vs = [.ref a, .ref b] ∧ FrQ H a x ∧ FrQ H b z ∧ FoQ.SzR 1900 x ∧ FoQ.SzR 1900 z ∧ ∀ p, H p = none → Q (.ref p) (upd H p (qt (f x z)))
section
variable {P : Program} {w : World} {K : PySem.W.Frag} {mg : Str → Option Value} {base : Heap}
theorem ok_fracQ (T : Tx K mg) : FnOk P w K mg base CX0 1 (He.ga K "_law_frac") T.fd_frac ["_law_up", "_law_down"] spFracQ := (ok_frac T).imp fun vs H Q E h => by
  obtain ⟨u, d, e, hd, hz, q⟩ := h
  exact ⟨u, d, e, hd, hz, fun p hp => by rw [qt_fr hd]; exact q p hp⟩
theorem ok_plusQ (T : Tx K mg) : FnOk P w K mg base CX0 2 (He.ga K "_law_plus") T.fd_plus ["_law_x", "_law_y"] (sp2Q (· + ·)) := (ok_plus T).imp fun vs H Q E h => by
  obtain ⟨a, b, x, z, e, ha, hb, hx, hz, q⟩ := h
  exact ⟨a, b, x.num, x.den, z.num, z.den, e, ha.at_, hb.at_, FoQ.den_ne x, FoQ.den_ne z, hx.1, hx.2, hz.1, hz.2, fun p hp => by rw [qt_of (Int.mul_ne_zero (FoQ.den_ne x) (FoQ.den_ne z)) (FoQ.q_add x z)]; exact q p hp⟩
theorem ok_minusQ (T : Tx K mg) : FnOk P w K mg base CX0 2 (He.ga K "_law_minus") T.fd_minus ["_law_x", "_law_y"] (sp2Q (· - ·)) := (ok_minus T).imp fun vs H Q E h => by
  obtain ⟨a, b, x, z, e, ha, hb, hx, hz, q⟩ := h
  exact ⟨a, b, x.num, x.den, z.num, z.den, e, ha.at_, hb.at_, FoQ.den_ne x, FoQ.den_ne z, hx.1, hx.2, hz.1, hz.2, fun p hp => by rw [qt_of (Int.mul_ne_zero (FoQ.den_ne x) (FoQ.den_ne z)) (FoQ.q_sub x z)]; exact q p hp⟩
theorem ok_timesQ (T : Tx K mg) : FnOk P w K mg base CX0 2 (He.ga K "_law_times") T.fd_times ["_law_x", "_law_y"] (sp2Q (· * ·)) := (ok_times T).imp fun vs H Q E h => by
  obtain ⟨a, b, x, z, e, ha, hb, hx, hz, q⟩ := h
  exact ⟨a, b, x.num, x.den, z.num, z.den, e, ha.at_, hb.at_, FoQ.den_ne x, FoQ.den_ne z, hx.1, hx.2, hz.1, hz.2, fun p hp => by rw [qt_of (Int.mul_ne_zero (FoQ.den_ne x) (FoQ.den_ne z)) (FoQ.q_mul x z)]; exact q p hp⟩
end

end Fo

set_option maxHeartbeats 4100000
namespace Fo
open PySem PySem.Spec PyProof.Rows L2
/-! ### the class Ratio -/
abbrev RC (K : PySem.W.Frag) : Addr := He.ga K "Ratio"
def rf (a b : Int) : List (Str × V) := putF "_bottom" (.int b) (putF "_top" (.int a) [])
theorem tb_ne : ¬ (("_top" : Str) = "_bottom") := by decide +kernel
theorem rf_top (a b : Int) : (rf a b).lookup ("_top" : Str) = some (.int a) := by
  unfold rf
  rw [lookup_putF, if_neg tb_ne, lookup_putF, if_pos rfl]
theorem rf_bot (a b : Int) : (rf a b).lookup ("_bottom" : Str) = some (.int b) := by
  unfold rf
  rw [lookup_putF, if_pos rfl]
theorem rf_no (a b : Int) {m : Str} (h1 : ¬ m = "_bottom") (h2 : ¬ m = "_top") : (rf a b).lookup m = none := by
  unfold rf
  rw [lookup_putF, if_neg h1, lookup_putF, if_neg h2]
  rfl
/-- at p: the Ratio a / b as its object keeps it -/
def RatAt (K : PySem.W.Frag) (H : Hp) (p : Addr) (a b : Int) : Prop := ∃ dx, H p = some (.ins (RC K) dx (rf a b))
theorem RatAt.same {K : PySem.W.Frag} {H H' : Hp} {p : Addr} {a b : Int} (h : RatAt K H p a b) (e : Same H H') : RatAt K H' p a b :=
  let ⟨dx, q⟩ := h
  ⟨dx, e _ _ q⟩
/-- a number: a Ratio, or an int -/
def NumV (K : PySem.W.Frag) (H : Hp) (y : V) (v e : Int) : Prop := (∃ b, y = .ref b ∧ RatAt K H b v e) ∨ (y = .int v ∧ e = 1)
theorem NumV.same {K : PySem.W.Frag} {H H' : Hp} {y : V} {v e : Int} (h : NumV K H y v e) (s : Same H H') : NumV K H' y v e := by
  rcases h with ⟨b, h1, h2⟩ | h
  · exact .inl ⟨b, h1, h2.same s⟩
  · exact .inr h
/-- a value that is no number -/
inductive NoNum (H : Hp) : V → Prop where
  | non : NoNum H .non
  | bl (b : Bool) : NoNum H (.bl b)
  | str (x : Str) : NoNum H (.str x)
  | lst {a : Addr} {xs : List V} (e : H a = some (.lst xs)) : NoNum H (.ref a)
  | tup {a : Addr} {xs : List V} (e : H a = some (.tup xs)) : NoNum H (.ref a)
  | dK {a : Addr} {xs : List (Key × V)} (e : H a = some (.dK xs)) : NoNum H (.ref a)
theorem NoNum.oth {H : Hp} {C : Addr} {y : V} (h : NoNum H y) : FoA.OthV H C y := by
  cases h with
  | non => exact .non
  | bl b => exact .bl b
  | str x => exact .str x
  | lst e => exact .lst e
  | tup e => exact .tup e
  | dK e => exact .dK e
theorem NumV.oth {K : PySem.W.Frag} {H : Hp} {y : V} {v e : Int} (h : NumV K H y v e) : FoA.OthV H (RC K) y := by
  rcases h with ⟨b, rfl, dx, q⟩ | ⟨rfl, _⟩
  · exact .ins q
  · exact .int _
/-- a plain value's type, and what isinstance tells of it -/
theorem NoNum.ty {K : PySem.W.Frag} {H : Hp} {y : V} (h : NoNum H y) : ∃ T, T ∈ FoZ.tyNames ∧ TyX K H y (.type T) ∧ ∃ b1 b2, PySem.W.kitOne K (.type T) (.type "int") = some b1 ∧ PySem.W.kitOne K (.type T) (.type "bool") = some b2 ∧ (b1 && !b2) = false := by
  cases h with
  | non => exact ⟨"NoneType", by decide, .base .non, false, false, kit_ty (by decide +kernel), kit_ty (by decide +kernel), rfl⟩
  | bl b => exact ⟨"bool", by decide, .base (.bl b), true, true, kit_ty (by decide +kernel), kit_ty (by decide +kernel), rfl⟩
  | str x => exact ⟨"str", by decide, .base (.str x), false, false, kit_ty (by decide +kernel), kit_ty (by decide +kernel), rfl⟩
  | lst e => exact ⟨"list", by decide, .base (.lst e), false, false, kit_ty (by decide +kernel), kit_ty (by decide +kernel), rfl⟩
  | tup e => exact ⟨"tuple", by decide, .base (.tup e), false, false, kit_ty (by decide +kernel), kit_ty (by decide +kernel), rfl⟩
  | dK e => exact ⟨"dict", by decide, .base (.dK e), false, false, kit_ty (by decide +kernel), kit_ty (by decide +kernel), rfl⟩
theorem kit_int {K : PySem.W.Frag} : PySem.W.kitOne K (.type "int") (.type "int") = some true ∧ PySem.W.kitOne K (.type "int") (.type "bool") = some false := ⟨kit_ty (by decide +kernel), kit_ty (by decide +kernel)⟩
def sgn (v : Int) : Int := if v = 0 then 0 else if 0 < v then 1 else -1
/-! ### promises -/
def spInit (K : PySem.W.Frag) : Sp := fun vs H Q _ => ∃ (p dx : Addr) (t b : Int), vs = [.ref p, .int t, .int b] ∧ H p = some (.ins (RC K) dx []) ∧ b ≠ 0 ∧ FoM.Sz 4000 b ∧ ∀ H', RatAt K H' p (FoM.frN t b) (FoM.frD t b) → But p H H' → Q .non H'
def spTop (K : PySem.W.Frag) : Sp := fun vs H Q _ => ∃ (a : Addr) (u d : Int), vs = [.ref a] ∧ RatAt K H a u d ∧ Q (.int u) H
def spBot (K : PySem.W.Frag) : Sp := fun vs H Q _ => ∃ (a : Addr) (u d : Int), vs = [.ref a] ∧ RatAt K H a u d ∧ Q (.int d) H
def spIsInt (K : PySem.W.Frag) : Sp := fun vs H Q _ => ∃ y : V, vs = [y] ∧ (((∃ i, y = .int i) ∧ Q (.bl true) H) ∨ (NoNum H y ∧ Q (.bl false) H))
def spIsNumber (K : PySem.W.Frag) : Sp := fun vs H Q _ => ∃ y : V, vs = [y] ∧ ((∃ v e, NumV K H y v e ∧ Q (.bl true) H) ∨ (NoNum H y ∧ Q (.bl false) H))
def spAs (K : PySem.W.Frag) : Sp := fun vs H Q _ => ∃ (y : V) (v e : Int), vs = [y] ∧ NumV K H y v e ∧ ∀ b H', Same H H' → RatAt K H' b v e → Q (.ref b) H'
def spSign (K : PySem.W.Frag) : Sp := fun vs H Q _ => ∃ (y : V) (v e : Int), vs = [y] ∧ NumV K H y v e ∧ ∀ H', Same H H' → Q (.int (sgn v)) H'
def spEq (K : PySem.W.Frag) : Sp := fun vs H Q _ => ∃ (a : Addr) (y : V) (u d : Int), vs = [.ref a, y] ∧ RatAt K H a u d ∧
  ((∃ (b : Addr) (v e : Int), y = .ref b ∧ RatAt K H b v e ∧ Q (.bl (decide (u = v) && decide (d = e))) H) ∨ (∃ i, y = .int i ∧ Q (.bl (decide (d = 1) && decide (u = i))) H) ∨ (NoNum H y ∧ Q (.bl false) H))
/-- an operation of a Ratio and a number: what is told -/
def spCmp (K : PySem.W.Frag) (f : Int → Int → Bool) : Sp := fun vs H Q _ => ∃ (a : Addr) (y : V) (u d v e : Int), vs = [.ref a, y] ∧ RatAt K H a u d ∧ NumV K H y v e ∧
  FoM.Sz 1900 u ∧ FoM.Sz 1900 d ∧ FoM.Sz 1900 v ∧ FoM.Sz 1900 e ∧ ∀ H', Same H H' → Q (.bl (f (u * e) (v * d))) H'
def spOp (K : PySem.W.Frag) (N D : Int → Int → Int → Int → Int) (C : Int → Int → Prop) : Sp := fun vs H Q _ => ∃ (a : Addr) (y : V) (u d v e : Int), vs = [.ref a, y] ∧ RatAt K H a u d ∧ NumV K H y v e ∧ d ≠ 0 ∧ C v e ∧
  FoM.Sz 1900 u ∧ FoM.Sz 1900 d ∧ FoM.Sz 1900 v ∧ FoM.Sz 1900 e ∧ ∀ p H', H p = none → Same H H' → RatAt K H' p (FoM.frN (N u d v e) (D u d v e)) (FoM.frD (N u d v e) (D u d v e)) → Q (.ref p) H'
abbrev spAdd (K : PySem.W.Frag) : Sp := spOp K (fun u d v e => u * e + v * d) (fun _ d _ e => d * e) (fun _ e => e ≠ 0)
abbrev spSub (K : PySem.W.Frag) : Sp := spOp K (fun u d v e => u * e - v * d) (fun _ d _ e => d * e) (fun _ e => e ≠ 0)
abbrev spMul (K : PySem.W.Frag) : Sp := spOp K (fun u _ v _ => u * v) (fun _ d _ e => d * e) (fun _ e => e ≠ 0)
abbrev spOver (K : PySem.W.Frag) : Sp := spOp K (fun u _ _ e => u * e) (fun _ d v _ => d * v) (fun v _ => v ≠ 0)
def spNeg (K : PySem.W.Frag) : Sp := fun vs H Q _ => ∃ (a : Addr) (u d : Int), vs = [.ref a] ∧ RatAt K H a u d ∧ d ≠ 0 ∧ FoM.Sz 4000 d ∧ ∀ p H', H p = none → Same H H' → RatAt K H' p (FoM.frN (-u) d) (FoM.frD (-u) d) → Q (.ref p) H'
section
variable {P : Program} {w : World} {K : PySem.W.Frag} {mg : Str → Option Value} {base : Heap}
theorem bind_init2 (T : Tx K mg) : Binds K T.fd_Ratio_init ["self", "top", "bottom"] [] := by
  obtain ⟨ds, v, b⟩ := T.F_Ratio_init.binds1 (ps := ["self", "top", "bottom"]) 3 1 (by simp) rfl (fun X kV doc pm an cdv ct us its l1 l2 => match us, its, l1, l2 with | [_, _, _], [_], _, _ => ⟨_, rfl, rfl⟩)
  cases v
  exact b
theorem bind_init1 (T : Tx K mg) : ∃ ds, Vals [.int 1] ds ∧ Binds K T.fd_Ratio_init ["self", "top", "bottom"] ds :=
  T.F_Ratio_init.binds1 (ps := ["self", "top", "bottom"]) 2 0 (by simp) rfl (fun X kV doc pm an cdv ct us its l1 l2 => match us, its, l1, l2 with | [_, _], [_], _, _ => ⟨_, rfl, rfl⟩)
theorem ok_Ratio_init (T : Tx K mg) : FnOk P w K mg base CX0 1 (He.ma K (He.ga K "Ratio") "__init__") T.fd_Ratio_init ["self", "top", "bottom"] (spInit K) := by
  refine T.F_Ratio_init.ok sc_Ratio_init (fun vs H Q E h => ?_) (fun cdv A outer s H vs Q E hr h => ?_)
  · obtain ⟨p, dx, t, b, rfl, _⟩ := h
    rfl
  · obtain ⟨p, dx, t, b, rfl, hp, hb, hz, q⟩ := h
    refine ⟨_, (pss_cons (ps_if (pt_cmpR op_eq (pv 2) pe_int (nomark _)) (pss_one ps_never) pss_nil)
      (pss_cons (ps_set (i := 3) sc_Ratio_init.nd rfl (.inl rfl) (pe_callBfun cr_gcd (by rfl) T.i_gcd (pa_cons (pv 1) (pa_cons (pv 2) pa_nil))))
      (pss_cons (ps_if (pt_cmpR op_lt (pv 2) pe_int (nomark _)) (pss_one (ps_set (i := 3) sc_Ratio_init.nd rfl (.inl rfl) (pe_un un_neg (pv 3)))) pss_nil)
      (pss_cons (ps_fld (pv 0) (pe_op FoA.op_fdivZ (pv 1) (pv 3)) rfl)
      (pss_one (ps_fld (pv 0) (pe_op FoA.op_fdivZ (pv 2) (pv 3)) rfl)))))), ?_⟩
    refine ⟨_, rfl, rfl, _, rfl, ite2 (fun e => absurd (V.int.inj (of_decide_eq_true e)) hb) (fun e => ?_)⟩
    refine ⟨_, rfl, _, rfl, _, _, rfl, ?_⟩
    have hne := FoM.gc_ne (u := t) hb
    have hle := FoM.gc_le (u := t) hb
    have hdz : FoA.CDivZ t (FoM.gc t b) := FoA.divZ_of hne (FoM.Sz.le hz hle) (by decide) (by decide)
    have hdz2 : FoA.CDivZ b (FoM.gc t b) := FoA.divZ_of hne (FoM.Sz.le hz hle) (by decide) (by decide)
    have fin : RatAt K (upd (upd H p (.ins (RC K) dx (putF "_top" (.int (FoM.frN t b)) []))) p (.ins (RC K) dx (putF "_bottom" (.int (FoM.frD t b)) (putF "_top" (.int (FoM.frN t b)) [])))) p (FoM.frN t b) (FoM.frD t b) := ⟨dx, upd_same⟩
    have fb : But p H (upd (upd H p (.ins (RC K) dx (putF "_top" (.int (FoM.frN t b)) []))) p (.ins (RC K) dx (putF "_bottom" (.int (FoM.frD t b)) (putF "_top" (.int (FoM.frN t b)) [])))) := But.upd.trans But.upd
    have last := q _ fin fb
    unfold FoM.frN FoM.frD at last
    refine ⟨_, rfl, _, _, rfl, rfl, _, rfl, ite2 (fun e2 => ?_) (fun e2 => ?_)⟩
    · have hd0 : b < 0 := of_decide_eq_true e2
      have eg : -((Nat.gcd t.natAbs b.natAbs : Nat) : Int) = FoM.gc t b := by
        unfold FoM.gc
        rw [if_pos hd0]
      rw [← eg] at hdz hdz2 last
      exact ⟨_, rfl, _, rfl, _, rfl, _, rfl, _, _, rfl, rfl, hdz, _, rfl, p, _, dx, _, rfl, hp, T.cl_R, T.nT_R, (by show 0 < 1000; decide), _, rfl, _, rfl, _, _, rfl, rfl, hdz2, _, rfl, p, _, dx, _, rfl, upd_same, T.cl_R, T.nB_R, (by show 1 < 1000; decide), last⟩
    · have hd0 : ¬ b < 0 := of_decide_eq_false (Bool.eq_false_iff.mpr e2)
      have eg : ((Nat.gcd t.natAbs b.natAbs : Nat) : Int) = FoM.gc t b := by
        unfold FoM.gc
        rw [if_neg hd0]
      rw [← eg] at hdz hdz2 last
      exact ⟨_, rfl, _, rfl, _, _, rfl, rfl, hdz, _, rfl, p, _, dx, _, rfl, hp, T.cl_R, T.nT_R, (by show 0 < 1000; decide), _, rfl, _, rfl, _, _, rfl, rfl, hdz2, _, rfl, p, _, dx, _, rfl, upd_same, T.cl_R, T.nB_R, (by show 1 < 1000; decide), last⟩
/-- what a call of Ratio asks, of a number and another one that is not 0 -/
theorem rd_make {H : Hp} {t b : Int} {Q : VK} {E : XK} (hb : b ≠ 0) (hz : FoM.Sz 4000 b) (q : ∀ p H', H p = none → Same H H' → RatAt K H' p (FoM.frN t b) (FoM.frD t b) → Q (.ref p) H') :
    ∀ x dx, H x = none → H dx = none → dx ≠ x → spInit K [.ref x, .int t, .int b] (upd (upd H dx (.own x)) x (.ins (RC K) dx [])) (fun v H2 => v = .non ∧ Q (.ref x) H2) E := fun x dx nx ndx ne =>
  ⟨x, dx, t, b, rfl, upd_same, hb, hz, fun H' hR hB => ⟨rfl, q x H' nx (Same.made nx ndx hB) hR⟩⟩
theorem ok_Ratio_top (T : Tx K mg) : FnOk P w K mg base CX0 1 (FoZ.pg K "Ratio" "top") T.fd_Ratio_top ["self"] (spTop K) := by
  refine T.F_Ratio_top.ok sc_Ratio_top (fun vs H Q E h => ?_) (fun cdv A outer s H vs Q E hr h => ?_)
  · obtain ⟨a, u, d, rfl, _⟩ := h
    rfl
  · obtain ⟨a, u, d, rfl, ⟨dx, ha⟩, q⟩ := h
    exact ⟨_, (pss_one (ps_ret (pe_fld (pv 0) rfl))), ⟨_, rfl, a, _, dx, _, _, rfl, ha, T.cl_R, T.nT_R, rf_top _ _, q⟩⟩
theorem ok_Ratio_bottom (T : Tx K mg) : FnOk P w K mg base CX0 1 (FoZ.pg K "Ratio" "bottom") T.fd_Ratio_bottom ["self"] (spBot K) := by
  refine T.F_Ratio_bottom.ok sc_Ratio_bottom (fun vs H Q E h => ?_) (fun cdv A outer s H vs Q E hr h => ?_)
  · obtain ⟨a, u, d, rfl, _⟩ := h
    rfl
  · obtain ⟨a, u, d, rfl, ⟨dx, ha⟩, q⟩ := h
    exact ⟨_, (pss_one (ps_ret (pe_fld (pv 0) rfl))), ⟨_, rfl, a, _, dx, _, _, rfl, ha, T.cl_R, T.nB_R, rf_bot _ _, q⟩⟩
theorem ok_is_whole (T : Tx K mg) : FnOk P w K mg base CX0 1 (He.ga K "is_whole") T.fd_is_whole ["given"] (spIsInt K) := by
  refine T.F_is_whole.ok sc_is_whole (fun vs H Q E h => ?_) (fun cdv A outer s H vs Q E hr h => ?_)
  · obtain ⟨y, rfl, _⟩ := h
    rfl
  · obtain ⟨y, rfl, h⟩ := h
    refine ⟨_, (pss_one (ps_ret (pe_and (pe_callB call_isi (by rfl) T.z_isinstance (by decide +kernel) (pa_cons (pv 0) (pa_cons (pe_bltn (v := V.ty "int") (u := Value.type "int") (by rfl) T.z_int (by decide +kernel) rfl) pa_nil))) (pe_one (pe_not (pe_callB call_isi (by rfl) T.z_isinstance (by decide +kernel) (pa_cons (pv 0) (pa_cons (pe_bltn (v := V.ty "bool") (u := Value.type "bool") (by rfl) T.z_bool (by decide +kernel) rfl) pa_nil)))))))), ?_⟩
    rcases h with ⟨⟨i, rfl⟩, q⟩ | ⟨hN, q⟩
    · refine ⟨_, rfl, _, _, _, _, _, rfl, .ty _, .base (.int i), kit_int.1, _, rfl, iteT ?_⟩
      exact ⟨_, rfl, _, _, _, _, _, rfl, .ty _, .base (.int i), kit_int.2, _, rfl, q⟩
    · obtain ⟨X, hX, ty, b1, b2, k1, k2, hb⟩ := hN.ty (K := K)
      refine ⟨_, rfl, _, _, _, _, _, rfl, .ty _, ty, k1, _, rfl, ?_⟩
      cases b1 with
      | false => exact iteF q
      | true =>
        cases b2 with
        | false => cases hb
        | true => exact iteT ⟨_, rfl, _, _, _, _, _, rfl, .ty _, ty, k2, _, rfl, q⟩
theorem ok_is_number (T : Tx K mg) : FnOk P w K mg base CX0 2 (He.ga K "is_number") T.fd_is_number ["given"] (spIsNumber K) := by
  refine T.F_is_number.ok sc_is_number (fun vs H Q E h => ?_) (fun cdv A outer s H vs Q E hr h => ?_)
  · obtain ⟨y, rfl, _⟩ := h
    rfl
  · obtain ⟨y, rfl, h⟩ := h
    refine ⟨_, (pss_one (ps_ret (pe_or (pe_callB call_isi (by rfl) T.z_isinstance (by decide +kernel) (pa_cons (pv 0) (pa_cons (pe_glob (v := V.ref (He.ga K "Ratio")) (by rfl) T.c_Ratio rfl) pa_nil))) (pe_one (pe_call (ok_is_whole T) (hr.mono (by decide)) (by rfl) T.g_is_whole T.F_is_whole.kp T.b_is_whole .nil pass0 (pa_cons (pv 0) pa_nil)))))), ?_⟩
    rcases h with ⟨v, e, ⟨b, rfl, dx, hb⟩ | ⟨rfl, rfl⟩, q⟩ | ⟨hN, q⟩
    · exact ⟨_, rfl, _, _, _, _, _, rfl, .own _, FoB.TyI T.is_R T.cl_R hb, FoB.kit_self, _, rfl, iteT q⟩
    · refine ⟨_, rfl, _, _, _, _, _, rfl, .own _, .base (.int v), T.is_R.kt "int" (by decide), _, rfl, iteF ?_⟩
      exact ⟨_, rfl, _, rfl, .inl ⟨⟨v, rfl⟩, q⟩⟩
    · obtain ⟨X, hX, ty, _⟩ := hN.ty (K := K)
      refine ⟨_, rfl, _, _, _, _, _, rfl, .own _, ty, T.is_R.kt X hX, _, rfl, iteF ?_⟩
      exact ⟨_, rfl, _, rfl, .inr ⟨hN, q⟩⟩
theorem ok_as_ratio (T : Tx K mg) : FnOk P w K mg base CX0 3 (He.ga K "as_ratio") T.fd_as_ratio ["given"] (spAs K) := by
  refine T.F_as_ratio.ok sc_as_ratio (fun vs H Q E h => ?_) (fun cdv A outer s H vs Q E hr h => ?_)
  · obtain ⟨y, v, e, rfl, _⟩ := h
    rfl
  · obtain ⟨y, v, e, rfl, hy, q⟩ := h
    obtain ⟨ds, vd, bd⟩ := bind_init1 T
    refine ⟨_, (pss_cons (ps_if (pt_not (pt_val (pe_call (ok_is_number T) (hr.mono (by decide)) (by rfl) T.g_is_number T.F_is_number.kp T.b_is_number .nil pass0 (pa_cons (pv 0) pa_nil)))) (pss_one ps_never) pss_nil)
      (pss_one (ps_ret (pe_ifExp (pt_val (pe_callB call_isi (by rfl) T.z_isinstance (by decide +kernel) (pa_cons (pv 0) (pa_cons (pe_glob (v := V.ref (He.ga K "Ratio")) (by rfl) T.c_Ratio rfl) pa_nil)))) (pv 0) (pe_make T.mk_R (ok_Ratio_init T) (hr.mono (by decide)) (by rfl) T.c_Ratio bd vd pass0 (pa_cons (pv 0) pa_nil)))))), ?_⟩
    refine ⟨_, rfl, y, rfl, .inl ⟨v, e, hy, _, rfl, iteF ?_⟩⟩
    rcases hy with ⟨b, rfl, hb⟩ | ⟨rfl, rfl⟩
    · obtain ⟨dx, hb'⟩ := id hb
      refine ⟨_, rfl, _, _, _, _, _, rfl, .own _, FoB.TyI T.is_R T.cl_R hb', FoB.kit_self, _, rfl, iteT ?_⟩
      exact ⟨_, rfl, q b H (Same.refl H) hb⟩
    · refine ⟨_, rfl, _, _, _, _, _, rfl, .own _, .base (.int v), T.is_R.kt "int" (by decide), _, rfl, iteF ?_⟩
      refine ⟨_, rfl, rd_make (by decide) (sz_of 1000000 (by decide) (by decide) (Nat.le_trans (by decide) (Nat.pow_le_pow_right (by decide) (show 20 ≤ 4000 by decide)))) fun p H' np sm hR => ?_⟩
      rw [(FoM.fr_one v).1, (FoM.fr_one v).2] at hR
      exact q p H' sm hR
theorem ok_Ratio_eq (T : Tx K mg) : FnOk P w K mg base CX0 2 (He.ma K (He.ga K "Ratio") "__eq__") T.fd_Ratio_eq ["self", "other"] (spEq K) := by
  refine T.F_Ratio_eq.ok sc_Ratio_eq (fun vs H Q E h => ?_) (fun cdv A outer s H vs Q E hr h => ?_)
  · obtain ⟨a, y, u, d, rfl, _⟩ := h
    rfl
  · obtain ⟨a, y, u, d, rfl, ⟨dx, ha⟩, h⟩ := h
    refine ⟨_, (pss_cons (ps_if (pt_val (pe_callB call_isi (by rfl) T.z_isinstance (by decide +kernel) (pa_cons (pv 1) (pa_cons (pe_glob (v := V.ref (He.ga K "Ratio")) (by rfl) T.c_Ratio rfl) pa_nil)))) (pss_one (ps_ret (pe_and (pe_cmpR op_eq (pe_fld (pv 0) rfl) (pe_fld (pv 1) rfl) (nomark _)) (pe_one (pe_cmpR op_eq (pe_fld (pv 0) rfl) (pe_fld (pv 1) rfl) (nomark _)))))) pss_nil)
      (pss_one (ps_ret (pe_and (pe_call (ok_is_whole T) (hr.mono (by decide)) (by rfl) T.g_is_whole T.F_is_whole.kp T.b_is_whole .nil pass0 (pa_cons (pv 1) pa_nil)) (pe_and (pe_cmpR op_eq (pe_fld (pv 0) rfl) pe_int (nomark _)) (pe_one (pe_cmpR op_eq (pe_fld (pv 0) rfl) (pv 1) (nomark _)))))))), ?_⟩
    rcases h with ⟨b, v, e, rfl, ⟨dy, hb⟩, q⟩ | ⟨i, rfl, q⟩ | ⟨hN, q⟩
    · refine ⟨_, rfl, _, _, _, _, _, rfl, .own _, FoB.TyI T.is_R T.cl_R hb, FoB.kit_self, _, rfl, iteT ?_⟩
      refine ⟨_, rfl, a, _, dx, _, _, rfl, ha, T.cl_R, T.nT_R, rf_top _ _, _, rfl, b, _, dy, _, _, rfl, hb, T.cl_R, T.nT_R, rf_top _ _, rfl, _, rfl, ?_⟩
      by_cases e1 : u = v
      · rw [decide_eq_true e1, Bool.true_and] at q
        rw [decide_eq_true (show V.int u = V.int v by rw [e1])]
        refine iteT ⟨_, rfl, a, _, dx, _, _, rfl, ha, T.cl_R, T.nB_R, rf_bot _ _, _, rfl, b, _, dy, _, _, rfl, hb, T.cl_R, T.nB_R, rf_bot _ _, rfl, ?_⟩
        have e2 : decide (V.int d = V.int e) = decide (d = e) := by
          by_cases z : d = e
          · rw [z]; simp
          · rw [decide_eq_false z, decide_eq_false (fun h => z (V.int.inj h))]
        show Q (.bl (decide (V.int d = V.int e))) H
        rw [e2]
        exact q
      · rw [decide_eq_false e1, Bool.false_and] at q
        rw [decide_eq_false (fun h : V.int u = V.int v => e1 (V.int.inj h))]
        exact iteF q
    · refine ⟨_, rfl, _, _, _, _, _, rfl, .own _, .base (.int i), T.is_R.kt "int" (by decide), _, rfl, iteF ?_⟩
      refine ⟨_, rfl, _, rfl, .inl ⟨⟨i, rfl⟩, _, rfl, iteT ?_⟩⟩
      refine ⟨_, rfl, a, _, dx, _, _, rfl, ha, T.cl_R, T.nB_R, rf_bot _ _, rfl, _, rfl, ?_⟩
      by_cases e1 : d = 1
      · rw [decide_eq_true e1, Bool.true_and] at q
        rw [decide_eq_true (show V.int d = V.int 1 by rw [e1])]
        refine iteT ⟨_, rfl, a, _, dx, _, _, rfl, ha, T.cl_R, T.nT_R, rf_top _ _, _, rfl, rfl, ?_⟩
        have e2 : decide (V.int u = V.int i) = decide (u = i) := by
          by_cases z : u = i
          · rw [z]; simp
          · rw [decide_eq_false z, decide_eq_false (fun h => z (V.int.inj h))]
        show Q (.bl (decide (V.int u = V.int i))) H
        rw [e2]
        exact q
      · rw [decide_eq_false e1, Bool.false_and] at q
        rw [decide_eq_false (fun h : V.int d = V.int 1 => e1 (V.int.inj h))]
        exact iteF q
    · obtain ⟨X, hX, ty, _⟩ := hN.ty (K := K)
      refine ⟨_, rfl, _, _, _, _, _, rfl, .own _, ty, T.is_R.kt X hX, _, rfl, iteF ?_⟩
      exact ⟨_, rfl, _, rfl, .inr ⟨hN, _, rfl, iteF q⟩⟩
theorem ok_Ratio_add (T : Tx K mg) : FnOk P w K mg base CX0 4 (He.ma K (He.ga K "Ratio") "__add__") T.fd_Ratio_add ["self", "other"] (spAdd K) := by
  refine T.F_Ratio_add.ok sc_Ratio_add (fun vs H Q E h => ?_) (fun cdv A outer s H vs Q E hr h => ?_)
  · obtain ⟨a, y, u, d, v, e, rfl, _⟩ := h
    rfl
  · obtain ⟨a, y, u, d, v, e, rfl, ha, hy, hd, he, zu, zd, zv, ze, q⟩ := h
    refine ⟨_, (pss_cons (ps_set (i := 2) sc_Ratio_add.nd rfl (.inl rfl) (pe_call (ok_as_ratio T) (hr.mono (by decide)) (by rfl) T.g_as_ratio T.F_as_ratio.kp T.b_as_ratio .nil pass0 (pa_cons (pv 1) pa_nil)))
      (pss_one (ps_ret (pe_make T.mk_R (ok_Ratio_init T) (hr.mono (by decide)) (by rfl) T.c_Ratio (bind_init2 T) .nil pass0 (pa_cons (pe_op op_add (pe_op op_mulW (pe_fld (pv 0) rfl) (pe_fld (pv 2) rfl)) (pe_op op_mulW (pe_fld (pv 2) rfl) (pe_fld (pv 0) rfl))) (pa_cons (pe_op op_mulW (pe_fld (pv 0) rfl) (pe_fld (pv 2) rfl)) pa_nil)))))), ?_⟩
    refine ⟨_, rfl, y, v, e, rfl, hy, fun b H' sm hb => ?_⟩
    obtain ⟨dx, ha'⟩ := ha.same sm
    obtain ⟨dy, hb'⟩ := hb
    exact ⟨_, rfl, a, _, dx, _, _, rfl, ha', T.cl_R, T.nT_R, rf_top _ _, _, rfl, b, _, dy, _, _, rfl, hb', T.cl_R, T.nB_R, rf_bot _ _, _, _, rfl, rfl, FoM.Sz.mulok zu ze, _, rfl, b, _, dy, _, _, rfl, hb', T.cl_R, T.nT_R, rf_top _ _, _, rfl, a, _, dx, _, _, rfl, ha', T.cl_R, T.nB_R, rf_bot _ _, _, _, rfl, rfl, FoM.Sz.mulok zv zd, _, _, rfl, rfl,
      _, rfl, a, _, dx, _, _, rfl, ha', T.cl_R, T.nB_R, rf_bot _ _, _, rfl, b, _, dy, _, _, rfl, hb', T.cl_R, T.nB_R, rf_bot _ _, _, _, rfl, rfl, FoM.Sz.mulok zd ze, rd_make (Int.mul_ne_zero hd he) ((zd.mul ze).mono (by decide)) fun p H2 np sm2 hR => q p H2 (sm.free np) (sm.trans sm2) hR⟩
theorem ok_Ratio_sub (T : Tx K mg) : FnOk P w K mg base CX0 4 (He.ma K (He.ga K "Ratio") "__sub__") T.fd_Ratio_sub ["self", "other"] (spSub K) := by
  refine T.F_Ratio_sub.ok sc_Ratio_sub (fun vs H Q E h => ?_) (fun cdv A outer s H vs Q E hr h => ?_)
  · obtain ⟨a, y, u, d, v, e, rfl, _⟩ := h
    rfl
  · obtain ⟨a, y, u, d, v, e, rfl, ha, hy, hd, he, zu, zd, zv, ze, q⟩ := h
    refine ⟨_, (pss_cons (ps_set (i := 2) sc_Ratio_sub.nd rfl (.inl rfl) (pe_call (ok_as_ratio T) (hr.mono (by decide)) (by rfl) T.g_as_ratio T.F_as_ratio.kp T.b_as_ratio .nil pass0 (pa_cons (pv 1) pa_nil)))
      (pss_one (ps_ret (pe_make T.mk_R (ok_Ratio_init T) (hr.mono (by decide)) (by rfl) T.c_Ratio (bind_init2 T) .nil pass0 (pa_cons (pe_op op_sub (pe_op op_mulW (pe_fld (pv 0) rfl) (pe_fld (pv 2) rfl)) (pe_op op_mulW (pe_fld (pv 2) rfl) (pe_fld (pv 0) rfl))) (pa_cons (pe_op op_mulW (pe_fld (pv 0) rfl) (pe_fld (pv 2) rfl)) pa_nil)))))), ?_⟩
    refine ⟨_, rfl, y, v, e, rfl, hy, fun b H' sm hb => ?_⟩
    obtain ⟨dx, ha'⟩ := ha.same sm
    obtain ⟨dy, hb'⟩ := hb
    exact ⟨_, rfl, a, _, dx, _, _, rfl, ha', T.cl_R, T.nT_R, rf_top _ _, _, rfl, b, _, dy, _, _, rfl, hb', T.cl_R, T.nB_R, rf_bot _ _, _, _, rfl, rfl, FoM.Sz.mulok zu ze, _, rfl, b, _, dy, _, _, rfl, hb', T.cl_R, T.nT_R, rf_top _ _, _, rfl, a, _, dx, _, _, rfl, ha', T.cl_R, T.nB_R, rf_bot _ _, _, _, rfl, rfl, FoM.Sz.mulok zv zd, _, _, rfl, rfl,
      _, rfl, a, _, dx, _, _, rfl, ha', T.cl_R, T.nB_R, rf_bot _ _, _, rfl, b, _, dy, _, _, rfl, hb', T.cl_R, T.nB_R, rf_bot _ _, _, _, rfl, rfl, FoM.Sz.mulok zd ze, rd_make (Int.mul_ne_zero hd he) ((zd.mul ze).mono (by decide)) fun p H2 np sm2 hR => q p H2 (sm.free np) (sm.trans sm2) hR⟩
theorem ok_Ratio_mul (T : Tx K mg) : FnOk P w K mg base CX0 4 (He.ma K (He.ga K "Ratio") "__mul__") T.fd_Ratio_mul ["self", "other"] (spMul K) := by
  refine T.F_Ratio_mul.ok sc_Ratio_mul (fun vs H Q E h => ?_) (fun cdv A outer s H vs Q E hr h => ?_)
  · obtain ⟨a, y, u, d, v, e, rfl, _⟩ := h
    rfl
  · obtain ⟨a, y, u, d, v, e, rfl, ha, hy, hd, he, zu, zd, zv, ze, q⟩ := h
    refine ⟨_, (pss_cons (ps_set (i := 2) sc_Ratio_mul.nd rfl (.inl rfl) (pe_call (ok_as_ratio T) (hr.mono (by decide)) (by rfl) T.g_as_ratio T.F_as_ratio.kp T.b_as_ratio .nil pass0 (pa_cons (pv 1) pa_nil)))
      (pss_one (ps_ret (pe_make T.mk_R (ok_Ratio_init T) (hr.mono (by decide)) (by rfl) T.c_Ratio (bind_init2 T) .nil pass0 (pa_cons (pe_op op_mulW (pe_fld (pv 0) rfl) (pe_fld (pv 2) rfl)) (pa_cons (pe_op op_mulW (pe_fld (pv 0) rfl) (pe_fld (pv 2) rfl)) pa_nil)))))), ?_⟩
    refine ⟨_, rfl, y, v, e, rfl, hy, fun b H' sm hb => ?_⟩
    obtain ⟨dx, ha'⟩ := ha.same sm
    obtain ⟨dy, hb'⟩ := hb
    exact ⟨_, rfl, a, _, dx, _, _, rfl, ha', T.cl_R, T.nT_R, rf_top _ _, _, rfl, b, _, dy, _, _, rfl, hb', T.cl_R, T.nT_R, rf_top _ _, _, _, rfl, rfl, FoM.Sz.mulok zu zv,
      _, rfl, a, _, dx, _, _, rfl, ha', T.cl_R, T.nB_R, rf_bot _ _, _, rfl, b, _, dy, _, _, rfl, hb', T.cl_R, T.nB_R, rf_bot _ _, _, _, rfl, rfl, FoM.Sz.mulok zd ze, rd_make (Int.mul_ne_zero hd he) ((zd.mul ze).mono (by decide)) fun p H2 np sm2 hR => q p H2 (sm.free np) (sm.trans sm2) hR⟩
theorem ok_Ratio_neg (T : Tx K mg) : FnOk P w K mg base CX0 3 (He.ma K (He.ga K "Ratio") "__neg__") T.fd_Ratio_neg ["self"] (spNeg K) := by
  refine T.F_Ratio_neg.ok sc_Ratio_neg (fun vs H Q E h => ?_) (fun cdv A outer s H vs Q E hr h => ?_)
  · obtain ⟨a, u, d, rfl, _⟩ := h
    rfl
  · obtain ⟨a, u, d, rfl, ⟨dx, ha'⟩, hd, hz, q⟩ := h
    refine ⟨_, (pss_one (ps_ret (pe_make T.mk_R (ok_Ratio_init T) (hr.mono (by decide)) (by rfl) T.c_Ratio (bind_init2 T) .nil pass0 (pa_cons (pe_un un_neg (pe_fld (pv 0) rfl)) (pa_cons (pe_fld (pv 0) rfl) pa_nil))))), ?_⟩
    exact ⟨_, rfl, a, _, dx, _, _, rfl, ha', T.cl_R, T.nT_R, rf_top _ _, _, rfl, _, rfl, a, _, dx, _, _, rfl, ha', T.cl_R, T.nB_R, rf_bot _ _, rd_make hd hz q⟩
end

/-! ### the class Ratio, with rational numbers -/
def RtAt (K : PySem.W.Frag) (H : Hp) (p : Addr) (r : Rat) : Prop := RatAt K H p r.num r.den
theorem RtAt.same {K : PySem.W.Frag} {H H' : Hp} {p : Addr} {r : Rat} (h : RtAt K H p r) (e : Same H H') : RtAt K H' p r := RatAt.same h e
def NmV (K : PySem.W.Frag) (H : Hp) (y : V) (r : Rat) : Prop := (∃ b, y = .ref b ∧ RtAt K H b r) ∨ (∃ i : Int, y = .int i ∧ r = (i : Rat))
theorem NmV.num {K : PySem.W.Frag} {H : Hp} {y : V} {r : Rat} (h : NmV K H y r) : NumV K H y r.num r.den := by
  rcases h with ⟨b, rfl, hb⟩ | ⟨i, rfl, rfl⟩
  · exact .inl ⟨b, rfl, hb⟩
  · refine .inr ⟨?_, ?_⟩
    · rw [Rat.num_intCast]
    · rw [Rat.den_intCast]
      rfl
theorem NmV.same {K : PySem.W.Frag} {H H' : Hp} {y : V} {r : Rat} (h : NmV K H y r) (s : Same H H') : NmV K H' y r := by
  rcases h with ⟨b, h1, h2⟩ | h
  · exact .inl ⟨b, h1, h2.same s⟩
  · exact .inr h
theorem RtAt.nm {K : PySem.W.Frag} {H : Hp} {p : Addr} {r : Rat} (h : RtAt K H p r) : NmV K H (.ref p) r := .inl ⟨p, rfl, h⟩
theorem rt_of {K : PySem.W.Frag} {H : Hp} {p : Addr} {u d : Int} {r : Rat} (h : d ≠ 0) (e : Rat.divInt u d = r) (q : RatAt K H p (FoM.frN u d) (FoM.frD u d)) : RtAt K H p r := by
  rw [(FoQ.fr_of h e).1, (FoQ.fr_of h e).2] at q
  exact q
def spInitQ (K : PySem.W.Frag) : Sp := fun vs H Q _ => ∃ (p dx : Addr) (t b : Int), vs = [.ref p, .int t, .int b] ∧ H p = some (.ins (RC K) dx []) ∧ b ≠ 0 ∧ FoM.Sz 4000 b ∧ ∀ H', RtAt K H' p (Rat.divInt t b) → But p H H' → Q .non H'
def spTopQ (K : PySem.W.Frag) : Sp := fun vs H Q _ => ∃ (a : Addr) (r : Rat), vs = [.ref a] ∧ RtAt K H a r ∧ Q (.int r.num) H
def spBotQ (K : PySem.W.Frag) : Sp := fun vs H Q _ => ∃ (a : Addr) (r : Rat), vs = [.ref a] ∧ RtAt K H a r ∧ Q (.int r.den) H
def spAsQ (K : PySem.W.Frag) : Sp := fun vs H Q _ => ∃ (y : V) (r : Rat), vs = [y] ∧ NmV K H y r ∧ ∀ b H', Same H H' → RtAt K H' b r → Q (.ref b) H'
def spEqQ (K : PySem.W.Frag) : Sp := fun vs H Q _ => ∃ (a : Addr) (y : V) (x : Rat), vs = [.ref a, y] ∧ RtAt K H a x ∧ ((∃ z, NmV K H y z ∧ Q (.bl (decide (x = z))) H) ∨ (NoNum H y ∧ Q (.bl false) H))
def spOpQ (K : PySem.W.Frag) (f : Rat → Rat → Rat) (C : Rat → Prop) : Sp := fun vs H Q _ => ∃ (a : Addr) (y : V) (x z : Rat), vs = [.ref a, y] ∧ RtAt K H a x ∧ NmV K H y z ∧ C z ∧ FoQ.SzR 1900 x ∧ FoQ.SzR 1900 z ∧
  ∀ p H', H p = none → Same H H' → RtAt K H' p (f x z) → Q (.ref p) H'
def spCmpQ (K : PySem.W.Frag) (f : Rat → Rat → Bool) : Sp := fun vs H Q _ => ∃ (a : Addr) (y : V) (x z : Rat), vs = [.ref a, y] ∧ RtAt K H a x ∧ NmV K H y z ∧ FoQ.SzR 1900 x ∧ FoQ.SzR 1900 z ∧ ∀ H', Same H H' → Q (.bl (f x z)) H'
def spNegQ (K : PySem.W.Frag) : Sp := fun vs H Q _ => ∃ (a : Addr) (x : Rat), vs = [.ref a] ∧ RtAt K H a x ∧ FoQ.SzR 4000 x ∧ ∀ p H', H p = none → Same H H' → RtAt K H' p (-x) → Q (.ref p) H'
def spSignQ (K : PySem.W.Frag) : Sp := fun vs H Q _ => ∃ (y : V) (r : Rat), vs = [y] ∧ NmV K H y r ∧ ∀ H', Same H H' → Q (.int (sgn r.num)) H'
theorem eq_bool {x z : Rat} : (decide (x.num = z.num) && decide ((x.den : Int) = z.den)) = decide (x = z) := by
  by_cases h : x = z
  · subst h
    simp
  · rw [decide_eq_false h]
    cases e : (decide (x.num = z.num) && decide ((x.den : Int) = z.den)) with
    | false => rfl
    | true =>
      rw [Bool.and_eq_true] at e
      exact absurd ((FoQ.q_eq_iff x z).mp ⟨of_decide_eq_true e.1, of_decide_eq_true e.2⟩) h
section
variable {P : Program} {w : World} {K : PySem.W.Frag} {mg : Str → Option Value} {base : Heap}
theorem ok_initQ (T : Tx K mg) : FnOk P w K mg base CX0 1 (He.ma K (He.ga K "Ratio") "__init__") T.fd_Ratio_init ["self", "top", "bottom"] (spInitQ K) := (ok_Ratio_init T).imp fun vs H Q E h => by
  obtain ⟨p, dx, t, b, e, hp, hb, hz, q⟩ := h
  exact ⟨p, dx, t, b, e, hp, hb, hz, fun H' hR bt => q H' (rt_of hb rfl hR) bt⟩
/-- what a call of Ratio asks -/
theorem rq_make {H : Hp} {t b : Int} {r : Rat} {R : Addr → VK} {E : XK} (hb : b ≠ 0) (hz : FoM.Sz 4000 b) (e : Rat.divInt t b = r) (q : ∀ p H', H p = none → Same H H' → RtAt K H' p r → R p .non H') :
    ∀ x dx, H x = none → H dx = none → dx ≠ x → spInitQ K [.ref x, .int t, .int b] (upd (upd H dx (.own x)) x (.ins (RC K) dx [])) (R x) E := fun x dx nx ndx ne =>
  ⟨x, dx, t, b, rfl, upd_same, hb, hz, fun H' hR hB => q x H' nx (Same.made nx ndx hB) (by rw [← e]; exact hR)⟩
theorem ok_topQ (T : Tx K mg) : FnOk P w K mg base CX0 1 (FoZ.pg K "Ratio" "top") T.fd_Ratio_top ["self"] (spTopQ K) := (ok_Ratio_top T).imp fun vs H Q E h => by
  obtain ⟨a, r, e, ha, q⟩ := h
  exact ⟨a, r.num, r.den, e, ha, q⟩
theorem ok_bottomQ (T : Tx K mg) : FnOk P w K mg base CX0 1 (FoZ.pg K "Ratio" "bottom") T.fd_Ratio_bottom ["self"] (spBotQ K) := (ok_Ratio_bottom T).imp fun vs H Q E h => by
  obtain ⟨a, r, e, ha, q⟩ := h
  exact ⟨a, r.num, r.den, e, ha, q⟩
theorem ok_asQ (T : Tx K mg) : FnOk P w K mg base CX0 3 (He.ga K "as_ratio") T.fd_as_ratio ["given"] (spAsQ K) := (ok_as_ratio T).imp fun vs H Q E h => by
  obtain ⟨y, r, e, hy, q⟩ := h
  exact ⟨y, r.num, r.den, e, hy.num, q⟩
theorem ok_eqQ (T : Tx K mg) : FnOk P w K mg base CX0 2 (He.ma K (He.ga K "Ratio") "__eq__") T.fd_Ratio_eq ["self", "other"] (spEqQ K) := (ok_Ratio_eq T).imp fun vs H Q E h => by
  obtain ⟨a, y, x, e, ha, h⟩ := h
  refine ⟨a, y, x.num, x.den, e, ha, ?_⟩
  rcases h with ⟨z, ⟨b, rfl, hb⟩ | ⟨i, rfl, rfl⟩, q⟩ | h
  · exact .inl ⟨b, z.num, z.den, rfl, hb, by rw [eq_bool]; exact q⟩
  · refine .inr (.inl ⟨i, rfl, ?_⟩)
    have e2 : (decide ((x.den : Int) = 1) && decide (x.num = i)) = decide (x = (i : Rat)) := by
      rw [← eq_bool, Rat.num_intCast, Rat.den_intCast, Bool.and_comm]
      rfl
    rw [e2]
    exact q
  · exact .inr (.inr h)
theorem ok_addQ (T : Tx K mg) : FnOk P w K mg base CX0 4 (He.ma K (He.ga K "Ratio") "__add__") T.fd_Ratio_add ["self", "other"] (spOpQ K (· + ·) fun _ => True) := (ok_Ratio_add T).imp fun vs H Q E h => by
  obtain ⟨a, y, x, z, e, ha, hy, _, hx, hz, q⟩ := h
  exact ⟨a, y, x.num, x.den, z.num, z.den, e, ha, hy.num, FoQ.den_ne x, FoQ.den_ne z, hx.1, hx.2, hz.1, hz.2, fun p H' n s hR => q p H' n s (rt_of (Int.mul_ne_zero (FoQ.den_ne x) (FoQ.den_ne z)) (FoQ.q_add x z) hR)⟩
theorem ok_subQ (T : Tx K mg) : FnOk P w K mg base CX0 4 (He.ma K (He.ga K "Ratio") "__sub__") T.fd_Ratio_sub ["self", "other"] (spOpQ K (· - ·) fun _ => True) := (ok_Ratio_sub T).imp fun vs H Q E h => by
  obtain ⟨a, y, x, z, e, ha, hy, _, hx, hz, q⟩ := h
  exact ⟨a, y, x.num, x.den, z.num, z.den, e, ha, hy.num, FoQ.den_ne x, FoQ.den_ne z, hx.1, hx.2, hz.1, hz.2, fun p H' n s hR => q p H' n s (rt_of (Int.mul_ne_zero (FoQ.den_ne x) (FoQ.den_ne z)) (FoQ.q_sub x z) hR)⟩
theorem ok_mulQ (T : Tx K mg) : FnOk P w K mg base CX0 4 (He.ma K (He.ga K "Ratio") "__mul__") T.fd_Ratio_mul ["self", "other"] (spOpQ K (· * ·) fun _ => True) := (ok_Ratio_mul T).imp fun vs H Q E h => by
  obtain ⟨a, y, x, z, e, ha, hy, _, hx, hz, q⟩ := h
  exact ⟨a, y, x.num, x.den, z.num, z.den, e, ha, hy.num, FoQ.den_ne x, FoQ.den_ne z, hx.1, hx.2, hz.1, hz.2, fun p H' n s hR => q p H' n s (rt_of (Int.mul_ne_zero (FoQ.den_ne x) (FoQ.den_ne z)) (FoQ.q_mul x z) hR)⟩
theorem ok_negQ (T : Tx K mg) : FnOk P w K mg base CX0 3 (He.ma K (He.ga K "Ratio") "__neg__") T.fd_Ratio_neg ["self"] (spNegQ K) := (ok_Ratio_neg T).imp fun vs H Q E h => by
  obtain ⟨a, x, e, ha, hx, q⟩ := h
  exact ⟨a, x.num, x.den, e, ha, FoQ.den_ne x, hx.2, fun p H' n s hR => q p H' n s (rt_of (FoQ.den_ne x) (FoQ.q_neg x) hR)⟩
end

end Fo

set_option maxHeartbeats 4100000
namespace Fo
open PySem PySem.Spec PyProof.Rows L2
/-! ### lists of fractions -/
/-- all that is no list stands as it stood -/
def NLst (H H' : Hp) : Prop := ∀ b o, H b = some o → (∀ xs, o ≠ .lst xs) → H' b = some o
theorem NLst.refl (H : Hp) : NLst H H := fun _ _ h _ => h
theorem NLst.trans {H H1 H2 : Hp} (a : NLst H H1) (b : NLst H1 H2) : NLst H H2 := fun c o h n => b c o (a c o h n) n
theorem same_nl {H H' : Hp} (s : Same H H') : NLst H H' := fun b o h _ => s b o h
theorem nl_upd {H : Hp} {D : Addr} {xs : List V} {o : HO} (h : H D = some (.lst xs)) : NLst H (upd H D o) := fun b u e n => by
  rw [upd_ne (fun z => by rw [z, h] at e; cases e; exact n _ rfl)]
  exact e
theorem NLst.but {H H' : Hp} {D : Addr} {xs : List V} (h : H D = some (.lst xs)) (b : But D H H') : NLst H H' := fun c u e n => b c u e fun z => by
  rw [z, h] at e
  cases e
  exact n _ rfl
/-- told of a value in a heap, and not changed by what happens to lists -/
def Solid (R : Hp → V → Prop) : Prop := ∀ {H H' : Hp} {v : V}, NLst H H' → R H v → R H' v
/-- the values ws are the numbers l, in the sense of R -/
def Ls (R : Rat → Hp → V → Prop) (H : Hp) (ws : List V) (l : List Rat) : Prop := ws.length = l.length ∧ ∀ (i : Nat) (v : V), ws[i]? = some v → R (FoQ.co l i) H v
section
variable {R : Rat → Hp → V → Prop} {H H' : Hp} {ws : List V} {l : List Rat}
theorem Ls.nl (hR : ∀ r, Solid (R r)) (h : Ls R H ws l) (s : NLst H H') : Ls R H' ws l := ⟨h.1, fun i v e => hR _ s (h.2 i v e)⟩
theorem Ls.nil : Ls R H [] [] := ⟨rfl, fun i v e => by simp at e⟩
theorem Ls.take (h : Ls R H ws l) (n : Nat) : Ls R H (ws.take n) (l.take n) := by
  refine ⟨by rw [List.length_take, List.length_take, h.1], fun i v e => ?_⟩
  rw [List.getElem?_take] at e
  split at e
  · rename_i hi
    rw [FoQ.co_take, if_pos hi]
    exact h.2 i v e
  · cases e
theorem Ls.snoc {v : V} {r : Rat} (h : Ls R H ws l) (q : R r H v) : Ls R H (ws ++ [v]) (l ++ [r]) := by
  refine ⟨by simp [h.1], fun i u e => ?_⟩
  rw [List.getElem?_append] at e
  have c1 : FoQ.co (l ++ [r]) i = if i < l.length then FoQ.co l i else FoQ.co [r] (i - l.length) := by
    unfold FoQ.co List.getD
    rw [List.getElem?_append]
    split <;> rfl
  rw [c1]
  split at e
  · rename_i hi
    rw [if_pos (by rw [← h.1]; exact hi)]
    exact h.2 i u e
  · rename_i hi
    rw [if_neg (by rw [← h.1]; exact hi), ← h.1]
    cases q1 : i - ws.length with
    | zero =>
      rw [q1] at e
      cases e
      exact q
    | succ n =>
      rw [q1] at e
      simp at e
theorem Ls.at_ (h : Ls R H ws l) {i : Nat} (hi : i < l.length) : ∃ v, ws[i]? = some v ∧ R (FoQ.co l i) H v := by
  have e : i < ws.length := by rw [h.1]; exact hi
  exact ⟨ws[i], List.getElem?_eq_getElem e, h.2 i _ (List.getElem?_eq_getElem e)⟩
theorem Ls.imp {R' : Rat → Hp → V → Prop} (h : Ls R H ws l) (f : ∀ r v, R r H v → R' r H v) : Ls R' H ws l := ⟨h.1, fun i v e => f _ _ (h.2 i v e)⟩
end
/-- a Ratio -/
def Rr (K : PySem.W.Frag) (r : Rat) (H : Hp) (v : V) : Prop := ∃ a, v = .ref a ∧ RtAt K H a r
/-- a number -/
def Rn (K : PySem.W.Frag) (r : Rat) (H : Hp) (v : V) : Prop := NmV K H v r
/-- a fraction's tuple -/
def Rq (r : Rat) (H : Hp) (v : V) : Prop := ∃ a, v = .ref a ∧ FrQ H a r
theorem RtAt.nl {K : PySem.W.Frag} {H H' : Hp} {a : Addr} {r : Rat} (h : RtAt K H a r) (s : NLst H H') : RtAt K H' a r :=
  let ⟨dx, e⟩ := h
  ⟨dx, s _ _ e (fun xs z => by cases z)⟩
theorem FrQ.nl {H H' : Hp} {a : Addr} {r : Rat} (h : FrQ H a r) (s : NLst H H') : FrQ H' a r := s _ _ h (fun xs z => by cases z)
theorem rr_solid {K : PySem.W.Frag} (r : Rat) : Solid (Rr K r) := fun s ⟨a, e, h⟩ => ⟨a, e, h.nl s⟩
theorem rq_solid (r : Rat) : Solid (Rq r) := fun s ⟨a, e, h⟩ => ⟨a, e, h.nl s⟩
theorem rn_solid {K : PySem.W.Frag} (r : Rat) : Solid (Rn K r) := fun s h => by
  rcases h with ⟨a, e, h⟩ | h
  · exact .inl ⟨a, e, h.nl s⟩
  · exact .inr h
/-- a list that is being made: i items so far, each as R says -/
def LInv (R : Nat → Hp → V → Prop) (H1 : Hp) (D : Addr) (i : Nat) (H : Hp) : Prop := Same H1 H ∧ ∃ ws, H D = some (.lst ws) ∧ ws.length = i ∧ ∀ (j : Nat) (v : V), ws[j]? = some v → R j H v
section
variable {R : Nat → Hp → V → Prop} {H1 H H4 : Hp} {D : Addr} {i : Nat}
theorem LInv.start (nD : H1 D = none) : LInv R H1 D 0 (upd H1 D (.lst [])) := ⟨Same.upd nD, [], upd_same, rfl, fun j v e => by simp at e⟩
theorem same_set {H1 H : Hp} {D : Addr} {o : HO} (s : Same H1 H) (nD : H1 D = none) : Same H1 (upd H D o) := fun b u e => by
  rw [upd_ne (ne_of_none e nD)]
  exact s b u e
theorem LInv.next {v : V} (h : LInv R H1 D i H) (hs : ∀ j, Solid (R j)) (nD : H1 D = none) (s : Same H H4) (hv : R i H4 v) (hi : i < 100000) :
    ∃ acc, H4 D = some (.lst acc) ∧ acc.length < sizeLine ∧ LInv R H1 D (i + 1) (upd H4 D (.lst (acc ++ [v]))) := by
  obtain ⟨s1, ws, e, el, hw⟩ := h
  have e4 := s _ _ e
  have nl : NLst H4 (upd H4 D (.lst (ws ++ [v]))) := nl_upd e4
  refine ⟨ws, e4, by rw [el, sizeLine_eq]; omega, same_set (s1.trans s) nD, ws ++ [v], upd_same, by simp [el], fun j u q => ?_⟩
  rw [List.getElem?_append] at q
  split at q
  · exact hs j nl (hs j (same_nl s) (hw j u q))
  · rename_i hj
    have ej : j = i := by
      cases q1 : j - ws.length with
      | zero => omega
      | succ n =>
        rw [q1] at q
        simp at q
    subst ej
    rw [← el, Nat.sub_self] at q
    cases q
    exact hs _ nl hv
end
theorem cut_to (ws : List V) (k : Nat) (h : k ≤ ws.length) : cutV ws none (some (k : Int)) = ws.take k := by
  unfold cutV
  have e0 : HT.sIx ws.length 0 none = 0 := rfl
  rw [HT.sIx_nat, e0, List.drop_zero, Nat.sub_zero, Nat.min_eq_left h]
def spTrimmed (K : PySem.W.Frag) : Sp := fun vs H Q _ => ∃ (a : Addr) (ws : List V) (l : List Rat), vs = [.ref a] ∧ SqL K H a ws ∧ Ls (Rr K) H ws l ∧ l.length ≤ 1000 ∧ ∀ p H', H p = none → Same H H' → H' p = some (.lst (ws.take (FoQ.trim l).length)) → Q (.ref p) H'
section
variable {P : Program} {w : World} {K : PySem.W.Frag} {mg : Str → Option Value} {base : Heap}
theorem ok_trimmed (T : Tx K mg) : FnOk P w K mg base CX0 3 (He.ga K "trimmed") T.fd_trimmed ["terms"] (spTrimmed K) := by
  refine T.F_trimmed.ok sc_trimmed (fun vs H Q E h => ?_) (fun cdv A outer s H vs Q E hr h => ?_)
  · obtain ⟨a, ws, l, rfl, _⟩ := h
    rfl
  · obtain ⟨a, ws, l, rfl, hS, hA, hl, q⟩ := h
    refine ⟨_, (pss_cons (ps_set (i := 1) sc_trimmed.nd rfl (.inl rfl) (pe_callB call_len_seq (by rfl) T.z_len PySem.boot_len (pa_cons (pv 0) pa_nil)))
      (pss_cons (ps_while PassesOwn.never (PW.pt (pw_and (pt_cmpR op_gt (pv 1) pe_int (nomark _)) (pw_and1 (pt_cmpR (FoA.op_ownC (ok_eqQ T) (hr.mono (by decide)) T.b_Ratio_eq pass0 T.cm_eq (fun _ _ => rfl)) (pe_ix ix_list (pv 0) (pe_op op_sub (pv 1) pe_int) (fun _ _ => rfl)) pe_int (nomark _))))) (pss_one (ps_set (i := 1) sc_trimmed.nd rfl (.inl rfl) (pe_op op_sub (pv 1) pe_int))))
      (pss_one (ps_ret (pe_callTy call_list_of (by rfl) T.z_list (by decide +kernel) (pa_cons (pe_slice sl_list (pv 0) po_none (po_some (pv 1))) pa_nil)))))), ?_⟩
    refine ⟨_, rfl, a, _, rfl, .inl hS, ?_⟩
    refine ⟨fun k σ H2 => H2 = H ∧ k ≤ l.length ∧ σ = [some (.ref a), some (.int k)] ∧ ∀ n, k ≤ n → FoQ.co l n = 0, ⟨l.length, rfl, Nat.le_refl _, ?_, fun n hn => FoQ.co_ge hn⟩, ?_⟩
    · show [some (V.ref a), some (V.int ws.length)] = _
      rw [hA.1]
    rintro k σ H2 ⟨rfl, hk, rfl, hz⟩
    -- what is left when it ends
    have fin : (k = 0 ∨ FoQ.co l (k - 1) ≠ 0) → k = (FoQ.trim l).length := fun h => by
      rw [FoQ.trim_take hk hz h, List.length_take, Nat.min_eq_left hk]
    have cut : cutV ws none (some (k : Int)) = ws.take k := cut_to _ _ (by rw [hA.1]; exact hk)
    have last' : k = (FoQ.trim l).length → ∀ p1 p2, H2 p1 = none → upd H2 p1 (.lst (ws.take k)) p2 = none → Q (.ref p2) (upd (upd H2 p1 (.lst (ws.take k))) p2 (.lst (ws.take k))) := fun kt p1 p2 n1 n2 => by
      refine q p2 _ ((Same.upd n1).free n2) ((Same.upd n1).trans (Same.upd n2)) ?_
      rw [← kt]
      exact upd_same
    refine ⟨_, rfl, _, _, rfl, rfl, _, rfl, ite2 (fun e => ?_) (fun e => ?_)⟩
    · have k0 : 0 < k := by
        have := of_decide_eq_true e
        omega
      obtain ⟨_, eb, b, rfl, hb⟩ := hA.at_ (i := k - 1) (by omega)
      obtain ⟨dx, hb'⟩ := id hb
      refine ⟨_, rfl, _, rfl, _, _, rfl, rfl, a, _, _, _, rfl, rfl, hS, by rw [show ((k : Int) - 1) = ((k - 1 : Nat) : Int) by omega]; exact atI_nat eb, ?_⟩
      refine ⟨b, dx, _, rfl, hb', .int 0, b, .int 0, _, rfl, hb, .inl ⟨0, .inr ⟨0, rfl, rfl⟩, _, rfl, ite2 (fun e2 => ?_) (fun e2 => ?_)⟩⟩
      · have z0 : FoQ.co l (k - 1) = 0 := of_decide_eq_true e2
        refine ⟨fun σ' H' => H' = H2 ∧ σ' = [some (.ref a), some (.int (k - 1 : Nat))], fun σ' H' h => ?_, ?_⟩
        · obtain ⟨rfl, rfl⟩ := h
          refine ⟨k - 1, by omega, rfl, by omega, rfl, fun n hn => ?_⟩
          by_cases c : n = k - 1
          · rw [c]
            exact z0
          · exact hz n (by omega)
        · refine ⟨_, rfl, _, _, rfl, rfl, rfl, ?_⟩
          show [some (V.ref a), some (V.int ((k : Int) - 1))] = _
          rw [show ((k : Int) - 1) = ((k - 1 : Nat) : Int) by omega]
      · have nz : FoQ.co l (k - 1) ≠ 0 := of_decide_eq_false (Bool.eq_false_iff.mpr e2)
        have kt := fin (.inr nz)
        exact ⟨_, rfl, _, rfl, _, rfl, a, _, rfl, hS, fun p1 n1 => by rw [cut]; exact ⟨p1, _, rfl, .inl (SqL.of upd_same), fun p2 n2 => last' kt p1 p2 n1 n2⟩⟩
    · have kt := fin (.inl (by
        have := of_decide_eq_false (Bool.eq_false_iff.mpr e)
        omega))
      exact ⟨_, rfl, _, rfl, _, rfl, a, _, rfl, hS, fun p1 n1 => by rw [cut]; exact ⟨p1, _, rfl, .inl (SqL.of upd_same), fun p2 n2 => last' kt p1 p2 n1 n2⟩⟩
end

end Fo

set_option maxHeartbeats 4100000
namespace Fo
open PySem PySem.Spec PyProof.Rows L2
/-! ### the class Polynomial -/
abbrev PC (K : PySem.W.Frag) : Addr := He.ga K "Polynomial"
theorem pf_look (v : V) : (putF ("_terms" : Str) v []).lookup ("_terms" : Str) = some v := by rw [lookup_putF, if_pos rfl]
theorem pf_no (v : V) {m : Str} (h : ¬ m = "_terms") : (putF ("_terms" : Str) v []).lookup m = none := by
  rw [lookup_putF, if_neg h]
  rfl
/-- at p: the polynomial with the coefficients l -/
def PolAt (K : PySem.W.Frag) (H : Hp) (p : Addr) (l : List Rat) : Prop := ∃ dx t ws, H p = some (.ins (PC K) dx (putF "_terms" (.ref t) [])) ∧ H t = some (.tup ws) ∧ Ls (Rr K) H ws l
theorem PolAt.nl {K : PySem.W.Frag} {H H' : Hp} {p : Addr} {l : List Rat} (h : PolAt K H p l) (s : NLst H H') : PolAt K H' p l :=
  let ⟨dx, t, ws, e1, e2, e3⟩ := h
  ⟨dx, t, ws, s _ _ e1 (fun xs z => by cases z), s _ _ e2 (fun xs z => by cases z), e3.nl rr_solid s⟩
theorem PolAt.same {K : PySem.W.Frag} {H H' : Hp} {p : Addr} {l : List Rat} (h : PolAt K H p l) (s : Same H H') : PolAt K H' p l := h.nl (same_nl s)
theorem rf_cons (u d : Int) : rf u d ≠ [] := fun z => by
  have := rf_top u d
  rw [z] at this
  cases this
/-- a Ratio is not an instance that is still empty -/
theorem rat_ne {K : PySem.W.Frag} {H : Hp} {a p : Addr} {r : Rat} {C dx : Addr} (h : RtAt K H a r) (e : H p = some (.ins C dx [])) : a ≠ p := fun z => by
  obtain ⟨dy, q⟩ := h
  rw [z, e] at q
  have := Option.some.inj q
  injection this with _ _ w
  exact rf_cons _ _ w.symm
def spPIn (K : PySem.W.Frag) : Sp := fun vs H Q _ => ∃ (p dx a : Addr) (ws : List V) (l : List Rat), vs = [.ref p, .ref a] ∧ H p = some (.ins (PC K) dx []) ∧ (SqL K H a ws ∨ SqT K H a ws) ∧ Ls (Rn K) H ws l ∧ l.length ≤ 1000 ∧
  ∀ H', PolAt K H' p (FoQ.trim l) → But p H H' → Q .non H'
/-- what stands in a heap of numbers is kept by a call of as_ratio -/
theorem rn_as {K : PySem.W.Frag} {r : Rat} {H : Hp} {v : V} (h : Rn K r H v) : NmV K H v r := h
theorem sqT_sm {K : PySem.W.Frag} {H H' : Hp} {a : Addr} {xs : List V} (h : SqT K H a xs) (e : Same H H') : SqT K H' a xs := by
  rcases h with (g | ⟨o, g⟩) | g
  · exact .inl (.inl (e _ _ g))
  · exact .inl (.inr ⟨o, e _ _ g⟩)
  · exact .inr g
theorem sqL_sm {K : PySem.W.Frag} {H H' : Hp} {a : Addr} {xs : List V} (h : SqL K H a xs) (e : Same H H') : SqL K H' a xs := by
  rcases h with (g | ⟨o, g⟩) | g
  · exact .inl (.inl (e _ _ g))
  · exact .inl (.inr ⟨o, e _ _ g⟩)
  · exact .inr g
section
variable {P : Program} {w : World} {K : PySem.W.Frag} {mg : Str → Option Value} {base : Heap}
theorem ok_Pinit (T : Tx K mg) : FnOk P w K mg base CX0 4 (He.ma K (He.ga K "Polynomial") "__init__") T.fd_Polynomial_init ["self", "numbers"] (spPIn K) := by
  refine T.F_Polynomial_init.ok sc_Polynomial_init (fun vs H Q E h => ?_) (fun cdv A outer s H vs Q E hr h => ?_)
  · obtain ⟨p, dx, a, ws, l, rfl, _⟩ := h
    rfl
  · obtain ⟨p, dx, a, ws, l, rfl, hp, hS, hN, hl, q⟩ := h
    -- a turn of the comprehension
    have turn : ∀ {D : Addr} (_ : H D = none) {i : Nat} {x : V} {H2 : Hp}, ws[i]? = some x → LInv (fun j => Rr K (FoQ.co l j)) H D i H2 → ∀ (b : Addr) (H4 : Hp), Same H2 H4 → RtAt K H4 b (FoQ.co l i) →
        ∃ acc, H4 D = some (.lst acc) ∧ acc.length < sizeLine ∧ LInv (fun j => Rr K (FoQ.co l j)) H D (i + 1) (upd H4 D (.lst (acc ++ [.ref b]))) := fun {D} nD {i x H2} ex h b H4 s4 hb => by
      refine h.next (fun j => rr_solid _) nD s4 ⟨b, rfl, hb⟩ ?_
      have := (List.getElem?_eq_some_iff.mp ex).1
      rw [hN.1] at this
      omega
    have last : ∀ {D : Addr} {H2 : Hp} (_ : H D = none), LInv (fun j => Rr K (FoQ.co l j)) H D ws.length H2 → ∃ us, SqL K H2 D us ∧ Ls (Rr K) H2 us l ∧ Same H H2 := fun nD h => by
      obtain ⟨s1, us, e, el, hu⟩ := h
      exact ⟨us, SqL.of e, ⟨by rw [el, hN.1], hu⟩, s1⟩
    have fin : ∀ {H2 H3 : Hp} {us : List V} {t : Addr}, Same H H2 → Ls (Rr K) H2 us l → Same H2 H3 → H3 t = none → Q .non (upd (upd H3 t (.tup (us.take (FoQ.trim l).length))) p (.ins (PC K) dx (putF "_terms" (.ref t) []))) := fun {H2 H3 us t} s1 hu s2 nt => by
      have hp3 : H3 p = some (.ins (PC K) dx []) := (s1.trans s2) _ _ hp
      have tp : t ≠ p := fun z => by rw [z, hp3] at nt; cases nt
      refine q _ ⟨dx, t, us.take (FoQ.trim l).length, upd_same, by rw [upd_ne tp, upd_same], ?_⟩ ((But.of_same (s1.trans s2)).trans ((But.of_same (Same.upd nt)).trans But.upd))
      have e : FoQ.trim l = l.take (FoQ.trim l).length := FoQ.trim_eq l
      rw [e, List.length_take, Nat.min_eq_left (FoQ.trim_len l)]
      refine Ls.take ⟨hu.1, fun i v ev => ?_⟩ _
      obtain ⟨a2, rfl, h2⟩ := hu.2 i v ev
      have h3 := (h2.same s2).same (Same.upd nt (o := .tup (us.take (FoQ.trim l).length)))
      have n2 := rat_ne h3 (Same.upd nt (o := .tup (us.take (FoQ.trim l).length)) _ _ hp3)
      obtain ⟨dx2, h4⟩ := h3
      exact ⟨a2, rfl, dx2, by rw [upd_ne n2]; exact h4⟩
    rcases hS with hS | hS
    · refine ⟨_, (pss_one (ps_fld (pv 0) (pe_callTy call_tuple_of (by rfl) T.z_tuple (by decide +kernel) (pa_cons (pe_call (ok_trimmed T) (hr.mono (by decide)) (by rfl) T.g_trimmed T.F_trimmed.kp T.b_trimmed .nil pass0 (pa_cons (pe_lc (own := [("number", 2)]) (g := gName 2) rfl sc_Polynomial_init.nd (pi_list (pv 1)) (blkOk_by (own := [("number", 2)]) (N := ["self", "numbers", "number"]) (sc := defScope s_Polynomial_init) (by decide +kernel)) (fun _ _ _ _ _ => (pg_name (i := 2) sc_Polynomial_init.nd rfl (.inl rfl))) (fun _ _ _ _ _ => pts_nil) (fun _ _ _ _ _ => (pe_call (ok_asQ T) (hr.mono (by decide)) (by rfl) T.g_as_ratio T.F_as_ratio.kp T.b_as_ratio .nil pass0 (pa_cons (pv 2) pa_nil)))) pa_nil)) pa_nil)) rfl)), ?_⟩
      refine ⟨_, rfl, a, rfl, ⟨_, hS⟩, fun D nD => ?_⟩
      refine lc_list (LInv (fun j => Rr K (FoQ.co l j)) H D) (LInv.start nD) (fun i H2 hi h => sqL_sm hS h.1) (fun i x H2 ex h => ?_) (fun H2 h => ?_)
      · exact ⟨rfl, _, rfl, x, _, rfl, (rn_solid _ (same_nl h.1) (hN.2 i x ex)), turn nD ex h⟩
      · obtain ⟨us, e, hu, s1⟩ := last nD h
        refine ⟨D, us, l, rfl, e, hu, hl, fun p2 H3 n2 s2 e2 => ?_⟩
        refine ⟨p2, _, rfl, .inl ⟨SqL.of e2, fun t nt => ?_⟩⟩
        have hp3 : H3 p = some (.ins (PC K) dx []) := (s1.trans s2) _ _ hp
        exact ⟨_, rfl, p, _, dx, _, rfl, Same.upd nt _ _ hp3, T.cl_P, T.nT_P, (by show 0 < 1000; decide), fin s1 hu s2 nt⟩
    · refine ⟨_, (pss_one (ps_fld (pv 0) (pe_callTy call_tuple_of (by rfl) T.z_tuple (by decide +kernel) (pa_cons (pe_call (ok_trimmed T) (hr.mono (by decide)) (by rfl) T.g_trimmed T.F_trimmed.kp T.b_trimmed .nil pass0 (pa_cons (pe_lc (own := [("number", 2)]) (g := gName 2) rfl sc_Polynomial_init.nd (pi_tup (pv 1)) (blkOk_by (own := [("number", 2)]) (N := ["self", "numbers", "number"]) (sc := defScope s_Polynomial_init) (by decide +kernel)) (fun _ _ _ _ _ => (pg_name (i := 2) sc_Polynomial_init.nd rfl (.inl rfl))) (fun _ _ _ _ _ => pts_nil) (fun _ _ _ _ _ => (pe_call (ok_asQ T) (hr.mono (by decide)) (by rfl) T.g_as_ratio T.F_as_ratio.kp T.b_as_ratio .nil pass0 (pa_cons (pv 2) pa_nil)))) pa_nil)) pa_nil)) rfl)), ?_⟩
      refine ⟨_, rfl, a, rfl, ⟨_, hS⟩, fun D nD => ?_⟩
      refine lc_tup (LInv (fun j => Rr K (FoQ.co l j)) H D) (LInv.start nD) (fun i H2 hi h => sqT_sm hS h.1) (fun i x H2 ex h => ?_) (fun H2 h => ?_)
      · exact ⟨rfl, _, rfl, x, _, rfl, (rn_solid _ (same_nl h.1) (hN.2 i x ex)), turn nD ex h⟩
      · obtain ⟨us, e, hu, s1⟩ := last nD h
        refine ⟨D, us, l, rfl, e, hu, hl, fun p2 H3 n2 s2 e2 => ?_⟩
        refine ⟨p2, _, rfl, .inl ⟨SqL.of e2, fun t nt => ?_⟩⟩
        have hp3 : H3 p = some (.ins (PC K) dx []) := (s1.trans s2) _ _ hp
        exact ⟨_, rfl, p, _, dx, _, rfl, Same.upd nt _ _ hp3, T.cl_P, T.nT_P, (by show 0 < 1000; decide), fin s1 hu s2 nt⟩
end

end Fo

set_option maxHeartbeats 4100000
namespace Fo
open PySem PySem.Spec PyProof.Rows L2
/-! ### the methods of Polynomial -/
theorem pq_make {K : PySem.W.Frag} {H : Hp} {a : Addr} {ws : List V} {l : List Rat} {R : Addr → VK} {E : XK} (hS : SqL K H a ws ∨ SqT K H a ws) (hN : Ls (Rn K) H ws l) (hl : l.length ≤ 1000) (q : ∀ p H', H p = none → Same H H' → PolAt K H' p (FoQ.trim l) → R p .non H') :
    ∀ x dx, H x = none → H dx = none → dx ≠ x → spPIn K [.ref x, .ref a] (upd (upd H dx (.own x)) x (.ins (PC K) dx [])) (R x) E := fun x dx nx ndx ne => by
  have s1 : Same H (upd (upd H dx (.own x)) x (.ins (PC K) dx [])) := (Same.upd ndx).trans (Same.upd (by rw [upd_ne (Ne.symm ne)]; exact nx))
  exact ⟨x, dx, a, ws, l, rfl, upd_same, hS.elim (fun h => .inl (sqL_sm h s1)) (fun h => .inr (sqT_sm h s1)), hN.nl (fun r => rn_solid r) (same_nl s1), hl, fun H' hR hB => q x H' nx (Same.made nx ndx hB) hR⟩
theorem Ls.rn {K : PySem.W.Frag} {H : Hp} {ws : List V} {l : List Rat} (h : Ls (Rr K) H ws l) : Ls (Rn K) H ws l := h.imp fun r v ⟨a, e, q⟩ => .inl ⟨a, e, q⟩
def padd (l m : List Rat) : List Rat := FoQ.trim ((List.range (max l.length m.length)).map fun i => FoQ.co l i + FoQ.co m i)
def psub (l m : List Rat) : List Rat := FoQ.trim ((List.range (max l.length m.length)).map fun i => FoQ.co l i - FoQ.co m i)
def pneg (l : List Rat) : List Rat := FoQ.trim ((List.range l.length).map fun i => -FoQ.co l i)
def AllSz (n : Nat) (l : List Rat) : Prop := ∀ i, FoQ.SzR n (FoQ.co l i)
def spTermAt (K : PySem.W.Frag) : Sp := fun vs H Q _ => ∃ (t : Addr) (ws : List V) (l : List Rat) (i : Nat), vs = [.ref t, .int i] ∧ SqT K H t ws ∧ Ls (Rr K) H ws l ∧ ∀ b H', Same H H' → RtAt K H' b (FoQ.co l i) → Q (.ref b) H'
def spPTerms (K : PySem.W.Frag) : Sp := fun vs H Q _ => ∃ (a : Addr) (l : List Rat), vs = [.ref a] ∧ PolAt K H a l ∧ ∀ p H' ws, H p = none → Same H H' → H' p = some (.lst ws) → Ls (Rr K) H' ws l → Q (.ref p) H'
def spPLen (K : PySem.W.Frag) : Sp := fun vs H Q _ => ∃ (a : Addr) (l : List Rat), vs = [.ref a] ∧ PolAt K H a l ∧ Q (.int l.length) H
def spP2 (K : PySem.W.Frag) (f : List Rat → List Rat → List Rat) (n m : Nat) : Sp := fun vs H Q _ => ∃ (a b : Addr) (x z : List Rat), vs = [.ref a, .ref b] ∧ PolAt K H a x ∧ PolAt K H b z ∧ AllSz n x ∧ AllSz n z ∧ x.length ≤ m ∧ z.length ≤ m ∧
  ∀ p H', H p = none → Same H H' → PolAt K H' p (f x z) → Q (.ref p) H'
def spPNeg (K : PySem.W.Frag) : Sp := fun vs H Q _ => ∃ (a : Addr) (x : List Rat), vs = [.ref a] ∧ PolAt K H a x ∧ AllSz 900 x ∧ x.length ≤ 500 ∧ ∀ p H', H p = none → Same H H' → PolAt K H' p (pneg x) → Q (.ref p) H'
theorem sz1q : FoM.Sz 4000 1 := by
  unfold FoM.Sz
  exact Nat.one_lt_two_pow (by decide)
section
variable {P : Program} {w : World} {K : PySem.W.Frag} {mg : Str → Option Value} {base : Heap}
theorem ok_term_at (T : Tx K mg) : FnOk P w K mg base CX0 3 (He.ga K "_term_at") T.fd_term_at ["terms", "at"] (spTermAt K) := by
  refine T.F_term_at.ok sc_term_at (fun vs H Q E h => ?_) (fun cdv A outer s H vs Q E hr h => ?_)
  · obtain ⟨t, ws, l, i, rfl, _⟩ := h
    rfl
  · obtain ⟨t, ws, l, i, rfl, hS, hL, q⟩ := h
    obtain ⟨ds, vd, bd⟩ := bind_init1 T
    refine ⟨_, (pss_one (ps_ret (pe_ifExp (pt_cmpR op_lt (pv 1) (pe_callB call_len_seq (by rfl) T.z_len PySem.boot_len (pa_cons (pv 0) pa_nil)) (nomark _)) (pe_ix ix_tup (pv 0) (pv 1) (fun _ _ => rfl)) (pe_make T.mk_R (ok_initQ T) (hr.mono (by decide)) (by rfl) T.c_Ratio bd vd pass0 (pa_cons pe_int pa_nil))))), ?_⟩
    refine ⟨_, rfl, _, rfl, t, _, rfl, .inr hS, _, _, rfl, rfl, _, rfl, ite2 (fun e => ?_) (fun e => ?_)⟩
    · have hi : i < l.length := by
        have := of_decide_eq_true e
        rw [← hL.1]
        omega
      obtain ⟨v, ev, b, rfl, hb⟩ := hL.at_ hi
      exact ⟨_, rfl, _, rfl, t, _, _, _, rfl, rfl, hS, atI_nat ev, q b H (Same.refl H) hb⟩
    · have hi : l.length ≤ i := by
        have := of_decide_eq_false (Bool.eq_false_iff.mpr e)
        rw [← hL.1]
        omega
      exact rq_make (by decide) sz1q (FoQ.q_int 0) fun p H' np s hR => ⟨rfl, q p H' s (by rw [FoQ.co_ge hi]; exact hR)⟩
theorem ok_Pterms (T : Tx K mg) : FnOk P w K mg base CX0 1 (He.ma K (He.ga K "Polynomial") "terms") T.fd_Polynomial_terms ["self"] (spPTerms K) := by
  refine T.F_Polynomial_terms.ok sc_Polynomial_terms (fun vs H Q E h => ?_) (fun cdv A outer s H vs Q E hr h => ?_)
  · obtain ⟨a, l, rfl, _⟩ := h
    rfl
  · obtain ⟨a, l, rfl, ⟨dx, t, ws, e1, e2, e3⟩, q⟩ := h
    refine ⟨_, (pss_one (ps_ret (pe_callTy call_list_of (by rfl) T.z_list (by decide +kernel) (pa_cons (pe_fld (pv 0) rfl) pa_nil)))), ?_⟩
    refine ⟨_, rfl, a, _, dx, _, _, rfl, e1, T.cl_P, T.nT_P, pf_look _, t, ws, rfl, .inr (SqT.of e2), fun p np => ?_⟩
    exact q p _ ws np (Same.upd np) upd_same (e3.nl rr_solid (same_nl (Same.upd np)))
theorem ok_Plen (T : Tx K mg) : FnOk P w K mg base CX0 1 (He.ma K (He.ga K "Polynomial") "__len__") T.fd_Polynomial_len ["self"] (spPLen K) := by
  refine T.F_Polynomial_len.ok sc_Polynomial_len (fun vs H Q E h => ?_) (fun cdv A outer s H vs Q E hr h => ?_)
  · obtain ⟨a, l, rfl, _⟩ := h
    rfl
  · obtain ⟨a, l, rfl, ⟨dx, t, ws, e1, e2, e3⟩, q⟩ := h
    refine ⟨_, (pss_one (ps_ret (pe_callB call_len_seq (by rfl) T.z_len PySem.boot_len (pa_cons (pe_fld (pv 0) rfl) pa_nil)))), ?_⟩
    refine ⟨_, rfl, a, _, dx, _, _, rfl, e1, T.cl_P, T.nT_P, pf_look _, t, ws, rfl, .inr (SqT.of e2), ?_⟩
    show Q (.int ws.length) H
    rw [e3.1]
    exact q
theorem ok_Padd (T : Tx K mg) : FnOk P w K mg base CX0 6 (He.ma K (He.ga K "Polynomial") "__add__") T.fd_Polynomial_add ["self", "other"] (spP2 K padd 900 500) := by
  refine T.F_Polynomial_add.ok sc_Polynomial_add (fun vs H Q E h => ?_) (fun cdv A outer s H vs Q E hr h => ?_)
  · obtain ⟨a, b, x, z, rfl, _⟩ := h
    rfl
  · obtain ⟨a, b, x, z, rfl, ⟨dx, t, ws, e1, e2, e3⟩, ⟨dy, u, us, f1, f2, f3⟩, zx, zz, lx, lz, q⟩ := h
    refine ⟨_, (pss_cons (ps_set (i := 2) sc_Polynomial_add.nd rfl (.inl rfl) (pe_callB (call_max2 rfl) (by rfl) T.z_max (by decide +kernel) (pa_cons (pe_callB call_len_seq (by rfl) T.z_len PySem.boot_len (pa_cons (pe_fld (pv 0) rfl) pa_nil)) (pa_cons (pe_callB call_len_seq (by rfl) T.z_len PySem.boot_len (pa_cons (pe_fld (pv 1) rfl) pa_nil)) pa_nil))))
      (pss_one (ps_ret (pe_make T.mk_P (ok_Pinit T) (hr.mono (by decide)) (by rfl) T.c_Polynomial T.b_Polynomial_init .nil pass0 (pa_cons (pe_lc (own := [("at", 3)]) (g := gName 3) rfl sc_Polynomial_add.nd (pi_range1 (by rfl) T.z_range (pa_cons (pv 2) pa_nil)) (blkOk_by (own := [("at", 3)]) (N := ["self", "other", "many", "at"]) (sc := defScope s_Polynomial_add) (by decide +kernel)) (fun _ _ _ _ _ => (pg_name (i := 3) sc_Polynomial_add.nd rfl (.inl rfl))) (fun _ _ _ _ _ => pts_nil) (fun _ _ _ _ _ => (pe_op (FoA.op_own (ok_addQ T) (hr.mono (by decide)) T.b_Ratio_add pass0 T.bi_add FoN.int_add FoN.int_addR) (pe_call (ok_term_at T) (hr.mono (by decide)) (by rfl) T.g_term_at T.F_term_at.kp T.b_term_at .nil pass0 (pa_cons (FoK.pe_fldK (K' := K) (pv 0) (by rfl) rfl) (pa_cons (pv 3) pa_nil))) (pe_call (ok_term_at T) (hr.mono (by decide)) (by rfl) T.g_term_at T.F_term_at.kp T.b_term_at .nil pass0 (pa_cons (FoK.pe_fldK (K' := K) (pv 1) (by rfl) rfl) (pa_cons (pv 3) pa_nil)))))) pa_nil))))), ?_⟩
    refine ⟨_, rfl, a, _, dx, _, _, rfl, e1, T.cl_P, T.nT_P, pf_look _, t, ws, rfl, .inr (SqT.of e2), ?_⟩
    refine ⟨_, rfl, b, _, dy, _, _, rfl, f1, T.cl_P, T.nT_P, pf_look _, u, us, rfl, .inr (SqT.of f2), _, _, rfl, ?_⟩
    rw [show (if (us.length : Int) > (ws.length : Int) then (us.length : Int) else (ws.length : Int)) = ((max x.length z.length : Nat) : Int) from by rw [e3.1, f3.1]; split <;> omega]
    refine ⟨_, rfl, _, rfl, by omega, by omega, fun D nD => ?_⟩
    refine lc_range (LInv (fun j => Rr K (FoQ.co x j + FoQ.co z j)) H D) (LInv.start nD) (fun i H2 hi h => ?_) (fun H2 h => ?_)
    · have s0 := h.1
      have hi' : i < max x.length z.length := by omega
      refine ⟨rfl, _, rfl, a, _, dx, _, _, rfl, s0 _ _ e1, T.cl_P, T.nT_P, pf_look _, _, rfl, t, ws, x, i, by show [V.ref t, V.int (0 + (i : Int))] = _; rw [Int.zero_add], SqT.of (s0 _ _ e2), e3.nl rr_solid (same_nl s0), fun b1 H3 s3 hb1 => ?_⟩
      have s03 := s0.trans s3
      refine ⟨_, rfl, b, _, dy, _, _, rfl, s03 _ _ f1, T.cl_P, T.nT_P, pf_look _, _, rfl, u, us, z, i, by show [V.ref u, V.int (0 + (i : Int))] = _; rw [Int.zero_add], SqT.of (s03 _ _ f2), f3.nl rr_solid (same_nl s03), fun b2 H4 s4 hb2 => ?_⟩
      obtain ⟨d1, h1⟩ := hb1.same s4
      obtain ⟨d2, h2⟩ := id hb2
      exact ⟨b1, d1, _, rfl, h1, .inr ⟨b2, d2, _, rfl, h2⟩, b1, .ref b2, _, _, rfl, hb1.same s4, hb2.nm, trivial, (zx i).mono (by decide), (zz i).mono (by decide), fun p H5 np s5 hp => h.next (fun j => rr_solid _) nD (s3.trans (s4.trans s5)) ⟨p, rfl, hp⟩ (by omega)⟩
    · obtain ⟨s1, vs, ev, el, hv⟩ := h
      have ml : vs.length = max x.length z.length := by rw [el]; omega
      refine pq_make (l := (List.range (max x.length z.length)).map fun i => FoQ.co x i + FoQ.co z i) (.inl (SqL.of ev)) ⟨by rw [ml]; simp, fun j v e => ?_⟩ (by simp; omega) fun p H' np s2 hp => ⟨rfl, q p H' (s1.free np) (s1.trans s2) hp⟩
      have hj := (List.getElem?_eq_some_iff.mp e).1
      rw [FoQ.co_map, if_pos (by omega)]
      obtain ⟨b1, e2, h2⟩ := hv j v e
      exact .inl ⟨b1, e2, h2⟩
theorem ok_Psub (T : Tx K mg) : FnOk P w K mg base CX0 6 (He.ma K (He.ga K "Polynomial") "__sub__") T.fd_Polynomial_sub ["self", "other"] (spP2 K psub 900 500) := by
  refine T.F_Polynomial_sub.ok sc_Polynomial_sub (fun vs H Q E h => ?_) (fun cdv A outer s H vs Q E hr h => ?_)
  · obtain ⟨a, b, x, z, rfl, _⟩ := h
    rfl
  · obtain ⟨a, b, x, z, rfl, ⟨dx, t, ws, e1, e2, e3⟩, ⟨dy, u, us, f1, f2, f3⟩, zx, zz, lx, lz, q⟩ := h
    refine ⟨_, (pss_cons (ps_set (i := 2) sc_Polynomial_sub.nd rfl (.inl rfl) (pe_callB (call_max2 rfl) (by rfl) T.z_max (by decide +kernel) (pa_cons (pe_callB call_len_seq (by rfl) T.z_len PySem.boot_len (pa_cons (pe_fld (pv 0) rfl) pa_nil)) (pa_cons (pe_callB call_len_seq (by rfl) T.z_len PySem.boot_len (pa_cons (pe_fld (pv 1) rfl) pa_nil)) pa_nil))))
      (pss_one (ps_ret (pe_make T.mk_P (ok_Pinit T) (hr.mono (by decide)) (by rfl) T.c_Polynomial T.b_Polynomial_init .nil pass0 (pa_cons (pe_lc (own := [("at", 3)]) (g := gName 3) rfl sc_Polynomial_sub.nd (pi_range1 (by rfl) T.z_range (pa_cons (pv 2) pa_nil)) (blkOk_by (own := [("at", 3)]) (N := ["self", "other", "many", "at"]) (sc := defScope s_Polynomial_sub) (by decide +kernel)) (fun _ _ _ _ _ => (pg_name (i := 3) sc_Polynomial_sub.nd rfl (.inl rfl))) (fun _ _ _ _ _ => pts_nil) (fun _ _ _ _ _ => (pe_op (FoA.op_own (ok_subQ T) (hr.mono (by decide)) T.b_Ratio_sub pass0 T.bi_sub FoN.int_sub FoN.int_subR) (pe_call (ok_term_at T) (hr.mono (by decide)) (by rfl) T.g_term_at T.F_term_at.kp T.b_term_at .nil pass0 (pa_cons (FoK.pe_fldK (K' := K) (pv 0) (by rfl) rfl) (pa_cons (pv 3) pa_nil))) (pe_call (ok_term_at T) (hr.mono (by decide)) (by rfl) T.g_term_at T.F_term_at.kp T.b_term_at .nil pass0 (pa_cons (FoK.pe_fldK (K' := K) (pv 1) (by rfl) rfl) (pa_cons (pv 3) pa_nil)))))) pa_nil))))), ?_⟩
    refine ⟨_, rfl, a, _, dx, _, _, rfl, e1, T.cl_P, T.nT_P, pf_look _, t, ws, rfl, .inr (SqT.of e2), ?_⟩
    refine ⟨_, rfl, b, _, dy, _, _, rfl, f1, T.cl_P, T.nT_P, pf_look _, u, us, rfl, .inr (SqT.of f2), _, _, rfl, ?_⟩
    rw [show (if (us.length : Int) > (ws.length : Int) then (us.length : Int) else (ws.length : Int)) = ((max x.length z.length : Nat) : Int) from by rw [e3.1, f3.1]; split <;> omega]
    refine ⟨_, rfl, _, rfl, by omega, by omega, fun D nD => ?_⟩
    refine lc_range (LInv (fun j => Rr K (FoQ.co x j - FoQ.co z j)) H D) (LInv.start nD) (fun i H2 hi h => ?_) (fun H2 h => ?_)
    · have s0 := h.1
      have hi' : i < max x.length z.length := by omega
      refine ⟨rfl, _, rfl, a, _, dx, _, _, rfl, s0 _ _ e1, T.cl_P, T.nT_P, pf_look _, _, rfl, t, ws, x, i, by show [V.ref t, V.int (0 + (i : Int))] = _; rw [Int.zero_add], SqT.of (s0 _ _ e2), e3.nl rr_solid (same_nl s0), fun b1 H3 s3 hb1 => ?_⟩
      have s03 := s0.trans s3
      refine ⟨_, rfl, b, _, dy, _, _, rfl, s03 _ _ f1, T.cl_P, T.nT_P, pf_look _, _, rfl, u, us, z, i, by show [V.ref u, V.int (0 + (i : Int))] = _; rw [Int.zero_add], SqT.of (s03 _ _ f2), f3.nl rr_solid (same_nl s03), fun b2 H4 s4 hb2 => ?_⟩
      obtain ⟨d1, h1⟩ := hb1.same s4
      obtain ⟨d2, h2⟩ := id hb2
      exact ⟨b1, d1, _, rfl, h1, .inr ⟨b2, d2, _, rfl, h2⟩, b1, .ref b2, _, _, rfl, hb1.same s4, hb2.nm, trivial, (zx i).mono (by decide), (zz i).mono (by decide), fun p H5 np s5 hp => h.next (fun j => rr_solid _) nD (s3.trans (s4.trans s5)) ⟨p, rfl, hp⟩ (by omega)⟩
    · obtain ⟨s1, vs, ev, el, hv⟩ := h
      have ml : vs.length = max x.length z.length := by rw [el]; omega
      refine pq_make (l := (List.range (max x.length z.length)).map fun i => FoQ.co x i - FoQ.co z i) (.inl (SqL.of ev)) ⟨by rw [ml]; simp, fun j v e => ?_⟩ (by simp; omega) fun p H' np s2 hp => ⟨rfl, q p H' (s1.free np) (s1.trans s2) hp⟩
      have hj := (List.getElem?_eq_some_iff.mp e).1
      rw [FoQ.co_map, if_pos (by omega)]
      obtain ⟨b1, e2, h2⟩ := hv j v e
      exact .inl ⟨b1, e2, h2⟩
end

end Fo

set_option maxHeartbeats 4100000
namespace Fo
open PySem PySem.Spec PyProof.Rows L2
/-! ### products of polynomials -/
def pneg' : Unit := ()
def intV (xs : List Int) : List V := xs.map V.int
theorem intV_at {xs : List Int} {i : Nat} (h : i < xs.length) : (intV xs)[i]? = some (.int (xs.getD i 0)) := by
  unfold intV
  rw [List.getElem?_map, List.getElem?_eq_getElem h, List.getD_eq_getElem?_getD, List.getElem?_eq_getElem h]
  rfl
theorem intV_some {xs : List Int} {i : Nat} {v : V} (h : (intV xs)[i]? = some v) : i < xs.length ∧ v = .int (xs.getD i 0) := by
  have hi : i < xs.length := by
    have := (List.getElem?_eq_some_iff.mp h).1
    simpa [intV] using this
  rw [intV_at hi] at h
  exact ⟨hi, (Option.some.inj h).symm⟩
/-- the integers that are the Ratios, times M -/
def whole (M : Nat) (l : List Rat) : List Int := (List.range l.length).map fun i => (FoQ.co l i).num * ((M : Int).fdiv ((FoQ.co l i).den : Int))
def spShared (K : PySem.W.Frag) : Sp := fun vs H Q _ => ∃ (t : Addr) (ws : List V) (l : List Rat), vs = [.ref t] ∧ SqT K H t ws ∧ Ls (Rr K) H ws l ∧ AllSz 40 l ∧ l.length ≤ 20 ∧ Q (.int (FoQ.lcmD l)) H
def spMult (K : PySem.W.Frag) : Sp := fun vs H Q _ => ∃ (t : Addr) (ws : List V) (l : List Rat) (M : Nat), vs = [.ref t, .int M] ∧ SqT K H t ws ∧ Ls (Rr K) H ws l ∧ AllSz 40 l ∧ l.length ≤ 20 ∧ 0 < M ∧ FoM.Sz 801 (M : Int) ∧
  ∀ p H', H p = none → Same H H' → H' p = some (.lst (intV (whole M l))) → Q (.ref p) H'
theorem sqT_inj {K : PySem.W.Frag} {H : Hp} {a : Addr} {xs : List V} (h : H a = some (.tup xs)) : SqT K H a xs := SqT.of h
section
variable {P : Program} {w : World} {K : PySem.W.Frag} {mg : Str → Option Value} {base : Heap}
theorem ok_shared (T : Tx K mg) : FnOk P w K mg base CX0 3 (He.ga K "shared_bottom") T.fd_shared_bottom ["ratios"] (spShared K) := by
  refine T.F_shared_bottom.ok sc_shared_bottom (fun vs H Q E h => ?_) (fun cdv A outer s H vs Q E hr h => ?_)
  · obtain ⟨t, ws, l, rfl, _⟩ := h
    rfl
  · obtain ⟨t, ws, l, rfl, hS, hL, hz, hl, q⟩ := h
    refine ⟨_, (pss_cons (ps_set (i := 1) sc_shared_bottom.nd rfl (.inl rfl) pe_int)
      (pss_cons (ps_for PassesOwn.never rfl (pi_tup (pv 0)) (pg_name (i := 2) sc_shared_bottom.nd rfl (.inl rfl)) (pss_one (ps_set (i := 1) sc_shared_bottom.nd rfl (.inl rfl) (pe_callBfun FoL.cr_lcm (by rfl) T.i_lcm (pa_cons (pv 1) (pa_cons (pe_prop (pv 2) T.cl_R T.p_bottom (ok_bottomQ T) (hr.mono (by decide)) T.b_Ratio_bottom .nil pass0 (by rfl)) pa_nil))))))
      (pss_one (ps_ret (pv 1))))), ?_⟩
    refine ⟨_, rfl, t, rfl, ⟨_, hS⟩, ?_⟩
    refine for_tup (xs := ws) (fun i σ H' => H' = H ∧ i ≤ l.length ∧ ∃ o, σ = [some (.ref t), some (.int (FoQ.lcmD (l.take i))), o]) ⟨rfl, Nat.zero_le _, _, rfl⟩ (fun i σ H' _ h => h.1 ▸ hS) ?_ ?_
    · rintro i x σ H' ex ⟨rfl, hi, o, rfl⟩
      have hi' : i < l.length := by
        have := (List.getElem?_eq_some_iff.mp ex).1
        rw [hL.1] at this
        exact this
      obtain ⟨b, rfl, hb⟩ := hL.2 i x ex
      obtain ⟨dx, hb'⟩ := id hb
      have zM := FoQ.lcmD_sz hz i hi
      refine ⟨_, rfl, _, rfl, b, dx, _, rfl, hb', b, _, rfl, hb, _, _, rfl, (zM.mono (show 40 * i + 1 ≤ 6000 by omega)), ((hz i).2.mono (show 40 ≤ 6000 by decide)), rfl, hi', some (.ref b), ?_⟩
      show [some (V.ref t), some (V.int ((Nat.lcm ((FoQ.lcmD (l.take i) : Nat) : Int).natAbs (((FoQ.co l i).den : Nat) : Int).natAbs : Nat) : Int)), some (V.ref b)] = _
      rw [Int.natAbs_natCast, Int.natAbs_natCast, FoQ.lcmD_take hi']
    · rintro σ H' ⟨rfl, hi, o, rfl⟩
      refine ⟨_, rfl, ?_⟩
      rw [hL.1, List.take_length]
      exact q
theorem ok_mult (T : Tx K mg) : FnOk P w K mg base CX0 3 (He.ga K "multiplied") T.fd_multiplied ["ratios", "bottom"] (spMult K) := by
  refine T.F_multiplied.ok sc_multiplied (fun vs H Q E h => ?_) (fun cdv A outer s H vs Q E hr h => ?_)
  · obtain ⟨t, ws, l, M, rfl, _⟩ := h
    rfl
  · obtain ⟨t, ws, l, M, rfl, hS, hL, hz, hl, hM, zM, q⟩ := h
    refine ⟨_, (pss_one (ps_ret (pe_lc (own := [("ratio", 2)]) (g := gName 2) rfl sc_multiplied.nd (pi_tup (pv 0)) (blkOk_by (own := [("ratio", 2)]) (N := ["ratios", "bottom", "ratio"]) (sc := defScope s_multiplied) (by decide +kernel)) (fun _ _ _ _ _ => (pg_name (i := 2) sc_multiplied.nd rfl (.inl rfl))) (fun _ _ _ _ _ => pts_nil) (fun _ _ _ _ _ => (pe_op op_mulW (pe_prop (pv 2) T.cl_R T.p_top (ok_topQ T) (hr.mono (by decide)) T.b_Ratio_top .nil pass0 (by rfl)) (pe_op FoA.op_fdivZ (pv 1) (pe_prop (pv 2) T.cl_R T.p_bottom (ok_bottomQ T) (hr.mono (by decide)) T.b_Ratio_bottom .nil pass0 (by rfl)))))))), ?_⟩
    refine ⟨_, rfl, t, rfl, ⟨_, hS⟩, fun D nD => ?_⟩
    refine lc_tup (LInv (fun j H v => v = .int ((FoQ.co l j).num * ((M : Int).fdiv ((FoQ.co l j).den : Int)))) H D) (LInv.start nD) (fun i H2 hi h => sqT_sm hS h.1) (fun i x H2 ex h => ?_) (fun H2 h => ?_)
    · obtain ⟨b, rfl, hb⟩ := hL.2 i x ex
      have hb2 := hb.same h.1
      obtain ⟨dx, hb'⟩ := id hb2
      refine ⟨rfl, _, rfl, b, dx, _, rfl, hb', b, _, rfl, hb2, _, rfl, _, rfl, b, dx, _, rfl, hb', b, _, rfl, hb2, _, _, rfl, rfl, FoA.divZ_of (FoQ.den_ne _) (hz i).2 (by decide) (by decide), _, _, rfl, rfl, ?_, ?_⟩
      · refine FoM.Sz.mulok (n := 40) (m := 801) (hz i).1 (FoM.Sz.le zM ?_)
        rw [FoQ.fdiv_whole, Int.natAbs_natCast, Int.natAbs_natCast]
        exact Nat.div_le_self _ _
      · exact h.next (fun j => @fun _ _ _ _ q => q) nD (Same.refl _) rfl (by have := (List.getElem?_eq_some_iff.mp ex).1; rw [hL.1] at this; omega)
    · obtain ⟨s1, us, e, el, hu⟩ := h
      refine q D H2 nD s1 ?_
      rw [e]
      congr 2
      refine List.ext_getElem? fun j => ?_
      have wl : (whole M l).length = l.length := by simp [whole]
      by_cases c : j < l.length
      · obtain ⟨v, ev⟩ : ∃ v, us[j]? = some v := ⟨us[j]'(by rw [el, hL.1]; exact c), List.getElem?_eq_getElem _⟩
        rw [ev, hu j v ev, intV_at (by rw [wl]; exact c)]
        simp [whole, c]
      · rw [List.getElem?_eq_none (by rw [el, hL.1]; omega), List.getElem?_eq_none (by simp [intV, wl]; omega)]
end

end Fo

set_option maxHeartbeats 4100000
namespace Fo
open PySem PySem.Spec PyProof.Rows L2
/-! ### the product of whole polynomials -/
def spWProd (K : PySem.W.Frag) : Sp := fun vs H Q _ => ∃ (a b : Addr) (xs ys : List Int), vs = [.ref a, .ref b] ∧ H a = some (.lst (intV xs)) ∧ H b = some (.lst (intV ys)) ∧ xs.length ≤ 20 ∧ ys.length ≤ 20 ∧ (∀ i, FoM.Sz 850 (xs.getD i 0)) ∧ (∀ i, FoM.Sz 850 (ys.getD i 0)) ∧
  ∀ p H' zs, H p = none → Same H H' → H' p = some (.lst (intV zs)) → (∀ n, FoQ.ci zs n = FoQ.S (FoQ.ci xs) (FoQ.ci ys) xs.length n) → (∀ n, FoM.Sz 2200 (zs.getD n 0)) → zs.length ≤ 50 → Q (.ref p) H'
theorem intV_len (xs : List Int) : (intV xs).length = xs.length := by simp [intV]
theorem intV_set (xs : List Int) (i : Nat) (v : Int) : (intV xs).set i (.int v) = intV (xs.set i v) := by
  unfold intV
  rw [List.map_set]
theorem sz_0 {n : Nat} : FoM.Sz n 0 := by
  unfold FoM.Sz
  exact Nat.two_pow_pos n
section
variable {P : Program} {w : World} {K : PySem.W.Frag} {mg : Str → Option Value} {base : Heap}
theorem ok_wprod (T : Tx K mg) : FnOk P w K mg base CX0 1 (He.ga K "whole_product") T.fd_whole_product ["one", "other"] (spWProd K) := by
  refine T.F_whole_product.ok sc_whole_product (fun vs H Q E h => ?_) (fun cdv A outer s H vs Q E hr h => ?_)
  · obtain ⟨a, b, xs, ys, rfl, _⟩ := h
    rfl
  · obtain ⟨a, b, xs, ys, rfl, ha, hb, lx, ly, zx, zy, q⟩ := h
    refine ⟨_, (pss_cons (ps_if (PW.pt (pw_or (pt_cmpR op_eq (pe_callB call_len_seq (by rfl) T.z_len PySem.boot_len (pa_cons (pv 0) pa_nil)) pe_int (nomark _)) (pw_or1 (pt_cmpR op_eq (pe_callB call_len_seq (by rfl) T.z_len PySem.boot_len (pa_cons (pv 1) pa_nil)) pe_int (nomark _))))) (pss_one (ps_ret (pe_lst pa_nil))) pss_nil)
      (pss_cons (ps_setLc (i := 3) (own := [("_", 2)]) (g := gName 2) rfl sc_whole_product.nd rfl rfl (sw_true rfl rfl rfl (by decide +kernel)) (pi_range1 (by rfl) T.z_range (pa_cons (pe_op op_sub (pe_op op_add (pe_callB call_len_seq (by rfl) T.z_len PySem.boot_len (pa_cons (pv 0) pa_nil)) (pe_callB call_len_seq (by rfl) T.z_len PySem.boot_len (pa_cons (pv 1) pa_nil))) pe_int) pa_nil)) (blkOk_by (own := [("_", 2)]) (N := ["one", "other", "_", "found", "start", "factor", "at", "term"]) (sc := defScope s_whole_product) (by decide +kernel)) (fun _ _ _ _ _ => (pg_name (i := 2) sc_whole_product.nd rfl (.inl rfl))) (fun _ _ _ _ _ => pts_nil) (fun _ _ _ _ _ => pe_int))
      (pss_cons (ps_for PassesOwn.never rfl (pi_enum (by rfl) T.z_enumerate (pa_cons (pv 0) pa_nil)) (pg_tup (by rfl) (pgs_cons (pg_name (i := 4) sc_whole_product.nd rfl (.inl rfl)) (pgs_cons (pg_name (i := 5) sc_whole_product.nd rfl (.inl rfl)) pgs_nil))) (pss_one (ps_for PassesOwn.never rfl (pi_enum (by rfl) T.z_enumerate (pa_cons (pv 1) pa_nil)) (pg_tup (by rfl) (pgs_cons (pg_name (i := 6) sc_whole_product.nd rfl (.inl rfl)) (pgs_cons (pg_name (i := 7) sc_whole_product.nd rfl (.inl rfl)) pgs_nil))) (pss_one (ps_asg (pe_op op_add (pe_ix ix_list (pv 3) (pe_op op_add (pv 4) (pv 6)) (fun _ _ => rfl)) (pe_op op_mulW (pv 5) (pv 7))) (pg_sub (pv 3) (pe_op op_add (pv 4) (pv 6)) set_list))))))
      (pss_one (ps_ret (pv 3)))))), ?_⟩
    have empty : (xs.length = 0 ∨ ys.length = 0) → ∀ p, H p = none → Q (.ref p) (upd H p (.lst [])) := fun h p np => by
      refine q p _ [] np (Same.upd np) upd_same (fun n => ?_) (fun n => by rw [show ([] : List Int).getD n 0 = 0 by simp]; exact sz_0) (by simp)
      have e0 : FoQ.ci [] n = 0 := FoQ.ci_ge (by simp)
      rw [e0]
      rcases h with h | h
      · rw [h]
        rfl
      · exact (FoQ.S_zero (fun i => FoQ.ci_ge (by omega)) _ _).symm
    refine ⟨_, rfl, a, _, rfl, .inl (SqL.of ha), rfl, _, rfl, ite2 (fun e => ?_) (fun e => ?_)⟩
    · have h0 : xs.length = 0 := by
        have := V.int.inj (of_decide_eq_true e)
        rw [intV_len] at this
        omega
      exact ⟨(by show 0 ≤ sizeLine; rw [sizeLine_eq]; decide), fun p np => empty (.inl h0) p np⟩
    refine ⟨_, rfl, b, _, rfl, .inl (SqL.of hb), rfl, _, rfl, ite2 (fun e2 => ?_) (fun e2 => ?_)⟩
    · have h0 : ys.length = 0 := by
        have := V.int.inj (of_decide_eq_true e2)
        rw [intV_len] at this
        omega
      exact ⟨(by show 0 ≤ sizeLine; rw [sizeLine_eq]; decide), fun p np => empty (.inr h0) p np⟩
    have nx : 0 < xs.length := by
      rcases Nat.eq_zero_or_pos xs.length with z | z
      · exact absurd (decide_eq_true (show V.int ((intV xs).length : Int) = V.int 0 by rw [intV_len, z]; rfl)) e
      · exact z
    have ny : 0 < ys.length := by
      rcases Nat.eq_zero_or_pos ys.length with z | z
      · exact absurd (decide_eq_true (show V.int ((intV ys).length : Int) = V.int 0 by rw [intV_len, z]; rfl)) e2
      · exact z
    refine ⟨_, rfl, a, _, rfl, .inl (SqL.of ha), _, rfl, b, _, rfl, .inl (SqL.of hb), _, _, rfl, rfl, _, _, rfl, rfl, ?_⟩
    refine ⟨((xs.length + ys.length - 1 : Nat) : Int), ?_, by omega, by omega, fun D nD => ?_⟩
    · show [V.int (((intV xs).length : Int) + ((intV ys).length : Int) - 1)] = _
      rw [intV_len, intV_len, show (xs.length : Int) + (ys.length : Int) - 1 = ((xs.length + ys.length - 1 : Nat) : Int) by omega]
    refine lc_range (LInv (fun j H v => v = .int 0) H D) (LInv.start nD) (fun i H2 hi h => ⟨rfl, h.next (fun j => @fun _ _ _ _ q => q) nD (Same.refl _) rfl (by omega)⟩) (fun H2 h => ?_)
    obtain ⟨s2, us, eD, el, hu⟩ := h
    have el' : us.length = xs.length + ys.length - 1 := by rw [el]; omega
    have us0 : us = intV (List.replicate (xs.length + ys.length - 1) 0) := by
      refine List.ext_getElem? fun j => ?_
      by_cases c : j < us.length
      · rw [List.getElem?_eq_getElem c, hu j _ (List.getElem?_eq_getElem c), intV_at (by simp; omega), List.getD_eq_getElem?_getD, List.getElem?_replicate, if_pos (by omega)]
        rfl
      · rw [List.getElem?_eq_none (by omega), List.getElem?_eq_none (by rw [intV_len]; simp; omega)]
    subst us0
    have ne : ∀ {c : Addr} {o : HO}, H c = some o → c ≠ D := fun h z => by rw [z, nD] at h; cases h
    refine ⟨_, rfl, a, _, rfl, SqL.of (s2 _ _ ha), ?_⟩
    refine for_it walk_enum (fun j σ H' => Same H H' ∧ ∃ cs o1 o2 o3 o4 o5, σ = [some (.ref a), some (.ref b), o1, some (.ref D), o2, o3, o4, o5] ∧ H' D = some (.lst (intV cs)) ∧ cs.length = xs.length + ys.length - 1 ∧ (∀ n, n < cs.length → FoQ.ci cs n = FoQ.S (FoQ.ci xs) (FoQ.ci ys) j n) ∧ ∀ n, FoM.Sz (1701 + j * ys.length) (cs.getD n 0)) ?_ (fun i σ H' _ h => SqL.of (h.1 _ _ ha)) ?_ ?_
    · refine ⟨s2, List.replicate (xs.length + ys.length - 1) 0, none, none, none, none, none, rfl, eD, by simp, fun n _ => FoQ.ci_rep n _, fun n => ?_⟩
      rw [show (List.replicate (xs.length + ys.length - 1) (0 : Int)).getD n 0 = 0 by rw [List.getD_eq_getElem?_getD, List.getElem?_replicate]; split <;> rfl]
      exact sz_0
    · rintro j v σ H2' H3 hj ⟨s3, cs, o1, o2, o3, o4, o5, rfl, hD, cl, hc, zc⟩ ⟨t1, x1, y1, rfl, nt1, rfl, hx1, hy1⟩
      rw [intV_len] at hj
      cases hx1
      obtain ⟨_, rfl⟩ := intV_some hy1
      have hD3 : ∀ {o : HO}, upd H2' t1 o D = some (.lst (intV cs)) := fun {o} => by
        rw [upd_ne (ne_of_none hD nt1)]
        exact hD
      have s4 : Same H (upd H2' t1 (.tup [.int j, .int (xs.getD j 0)])) := s3.trans (Same.upd nt1)
      refine ⟨t1, _, rfl, SqT.of upd_same, rfl, _, _, rfl, _, _, rfl, rfl, ?_⟩
      refine ⟨_, rfl, b, _, rfl, SqL.of (s4 _ _ hb), ?_⟩
      refine for_it walk_enum (fun k σ H' => Same H H' ∧ ∃ cs o1 o6 o7, σ = [some (.ref a), some (.ref b), o1, some (.ref D), some (.int j), some (.int (xs.getD j 0)), o6, o7] ∧ H' D = some (.lst (intV cs)) ∧ cs.length = xs.length + ys.length - 1 ∧ (∀ n, n < cs.length → FoQ.ci cs n = FoQ.SP (FoQ.ci xs) (FoQ.ci ys) j k n) ∧ ∀ n, FoM.Sz (1701 + j * ys.length + k) (cs.getD n 0)) ?_ (fun i σ H' _ h => SqL.of (h.1 _ _ hb)) ?_ ?_
      · exact ⟨s4, cs, _, _, _, rfl, hD3, cl, fun n hn => by rw [FoQ.SP_zero]; exact hc n hn, zc⟩
      · rintro k v σ H5 H6 hk ⟨s5, cs, o1, o6, o7, rfl, hD, cl, hc, zc⟩ ⟨t2, x2, y2, rfl, nt2, rfl, hx2, hy2⟩
        rw [intV_len] at hk
        cases hx2
        obtain ⟨_, rfl⟩ := intV_some hy2
        have hD6 : ∀ {o : HO}, upd H5 t2 o D = some (.lst (intV cs)) := fun {o} => by
          rw [upd_ne (ne_of_none hD nt2)]
          exact hD
        have jk : j + k < cs.length := by omega
        have e1 : ((j : Int) + (k : Int)) = ((j + k : Nat) : Int) := by omega
        have zm := (zx j).mul (zy k)
        refine ⟨t2, _, rfl, SqT.of upd_same, rfl, _, _, rfl, _, _, rfl, rfl, ?_⟩
        refine ⟨_, rfl, _, rfl, _, rfl, _, _, rfl, rfl, D, _, _, _, rfl, rfl, SqL.of hD6, by rw [e1]; exact atI_nat (intV_at jk), ?_⟩
        refine ⟨_, rfl, _, rfl, _, _, rfl, rfl, FoM.Sz.mulok (zx j) (zy k), _, _, rfl, rfl, ?_⟩

        refine ⟨_, rfl, _, rfl, _, rfl, _, _, rfl, rfl, D, _, _, j + k, rfl, rfl, hD6, ?_, ?_⟩
        · rw [e1, intV_len]
          unfold ixN
          rw [if_pos (by omega), if_pos (by omega), Int.toNat_natCast]
        · refine ⟨same_set (s5.trans (Same.upd nt2)) nD, cs.set (j + k) (cs.getD (j + k) 0 + xs.getD j 0 * ys.getD k 0), _, _, _, rfl, ?_, by rw [List.length_set]; exact cl, fun n hn => ?_, fun n => ?_⟩
          · rw [upd_same, intV_set]
          · rw [List.length_set] at hn
            rw [FoQ.ci_set jk]
            split
            · rename_i e
              rw [e, FoQ.SP_here, ← hc (j + k) jk, Rat.intCast_add, Rat.intCast_mul]
              rfl
            · rename_i e
              rw [FoQ.SP_else e]
              exact hc n hn
          · rw [FoQ.getD_set jk]
            split
            · exact (zc (j + k)).add ((zm.mono (by omega)))
            · exact (zc n).mono (by omega)
      · rintro σ H5 ⟨s5, cs, o1, o6, o7, rfl, hD, cl, hc, zc⟩
        rw [intV_len] at hc zc
        refine ⟨s5, cs, _, _, _, _, _, rfl, hD, cl, fun n hn => ?_, fun n => ?_⟩
        · rw [hc n hn, FoQ.SP_done (fun m hm => FoQ.ci_ge hm)]
        · have := zc n
          rw [show 1701 + j * ys.length + ys.length = 1701 + (j + 1) * ys.length by rw [Nat.succ_mul]; omega] at this
          exact this
    · rintro σ H5 ⟨s5, cs, o1, o2, o3, o4, o5, rfl, hD, cl, hc, zc⟩
      rw [intV_len] at hc zc
      refine ⟨_, rfl, q D H5 cs nD s5 hD (fun n => ?_) (fun n => ?_) (by omega)⟩
      · by_cases hn : n < cs.length
        · exact hc n hn
        · rw [FoQ.ci_ge (by omega), FoQ.S_far (m := ys.length) (fun i hi => FoQ.ci_ge hi) _ _ (by omega)]
      · refine (zc n).mono ?_
        have : xs.length * ys.length ≤ 20 * 20 := Nat.mul_le_mul lx ly
        omega
end

end Fo

set_option maxHeartbeats 4100000
namespace Fo
open PySem PySem.Spec PyProof.Rows L2
/-! ### products, values, derivatives, equality -/
def pslope (l : List Rat) : List Rat := FoQ.trim (((List.range l.length).map fun i => FoQ.co l i * ((i : Int) : Rat)).drop 1)
def spPWorth (K : PySem.W.Frag) : Sp := fun vs H Q _ => ∃ (a : Addr) (y : V) (l : List Rat) (x : Rat), vs = [.ref a, y] ∧ PolAt K H a l ∧ NmV K H y x ∧ AllSz 40 l ∧ FoQ.SzR 40 x ∧ l.length ≤ 20 ∧ ∀ p H', Same H H' → RtAt K H' p (FoQ.hor x l) → Q (.ref p) H'
def spPSlope (K : PySem.W.Frag) : Sp := fun vs H Q _ => ∃ (a : Addr) (x : List Rat), vs = [.ref a] ∧ PolAt K H a x ∧ AllSz 900 x ∧ x.length ≤ 500 ∧ ∀ p H', H p = none → Same H H' → PolAt K H' p (pslope x) → Q (.ref p) H'
def spPEq (K : PySem.W.Frag) : Sp := fun vs H Q _ => ∃ (a : Addr) (y : V) (x : List Rat), vs = [.ref a, y] ∧ PolAt K H a x ∧
  ((∃ b z, y = .ref b ∧ PolAt K H b z ∧ Q (.bl (decide (x = z))) H) ∨ ((NoNum H y ∨ ∃ b r, y = .ref b ∧ RtAt K H b r) ∧ Q (.bl false) H))
theorem nl_same_upd {H : Hp} {p : Addr} {o : HO} (n : H p = none) : NLst H (upd H p o) := same_nl (Same.upd n)
theorem lcmD_all {l : List Rat} (h : AllSz 40 l) (hl : l.length ≤ 20) : FoM.Sz 801 ((FoQ.lcmD l : Nat) : Int) := by
  have := FoQ.lcmD_sz h l.length (Nat.le_refl _)
  rw [List.take_length] at this
  exact this.mono (by omega)
theorem whole_len (M : Nat) (l : List Rat) : (whole M l).length = l.length := by simp [whole]
theorem whole_getD (M : Nat) (l : List Rat) (i : Nat) : (whole M l).getD i 0 = if i < l.length then (FoQ.co l i).num * ((M : Int).fdiv ((FoQ.co l i).den : Int)) else 0 := by
  rw [List.getD_eq_getElem?_getD]
  by_cases h : i < l.length
  · rw [if_pos h]
    simp [whole, h]
  · rw [if_neg h]
    simp [whole, h]
theorem whole_szs {M : Nat} {l : List Rat} (h : AllSz 40 l) (g : FoM.Sz 801 (M : Int)) (i : Nat) : FoM.Sz 850 ((whole M l).getD i 0) := by
  rw [whole_getD]
  split
  · exact (FoQ.whole_sz (h i) g).mono (by decide)
  · exact sz_0
theorem ci_whole {M : Nat} {l : List Rat} (h : ∀ i, i < l.length → (FoQ.co l i).den ∣ M) (i : Nat) : FoQ.ci (whole M l) i = FoQ.co l i * ((M : Int) : Rat) := by
  unfold FoQ.ci
  rw [whole_getD]
  split
  · rename_i hi
    exact FoQ.whole_eq (h i hi)
  · rename_i hi
    rw [FoQ.co_ge (by omega)]
    show ((0 : Int) : Rat) = 0 * _
    rw [show ((0 : Int) : Rat) = 0 from rfl]
    grind
theorem eqWs_rr {X : Cx} {H : Hp} {n : Nat} {fd : FuncData} (F : FnOk X.prog X.w X.K X.mg X.base CX0 2 (He.ma X.K (RC X.K) "__eq__") fd ["self", "other"] (spEqQ X.K)) (hr : Room (2 + n) X.A) (hb : Binds X.K fd ["self", "other"] []) (B : FoA.CmpC X.K (RC X.K) (He.ma X.K (RC X.K) "__eq__") .Eq) :
    ∀ {ws us : List V} {l m : List Rat}, Ls (Rr X.K) H ws l → Ls (Rr X.K) H us m → FoG.EqWs X n H ws us (decide (l = m))
  | [], [], l, m, h, g => by
    have e1 : l = [] := List.length_eq_zero_iff.mp h.1.symm
    have e2 : m = [] := List.length_eq_zero_iff.mp g.1.symm
    subst e1 e2
    exact .nil
  | v :: ws, [], l, m, h, g => by
    have e2 : m = [] := List.length_eq_zero_iff.mp g.1.symm
    subst e2
    cases l with
    | nil => exact absurd h.1 (by simp)
    | cons x l => exact .left
  | [], u :: us, l, m, h, g => by
    have e2 : l = [] := List.length_eq_zero_iff.mp h.1.symm
    subst e2
    cases m with
    | nil => exact absurd g.1 (by simp)
    | cons x l => exact .right
  | v :: ws, u :: us, [], m, h, g => absurd h.1 (by simp)
  | v :: ws, u :: us, x :: l, [], h, g => absurd g.1 (by simp)
  | v :: ws, u :: us, x :: l, z :: m, h, g => by
    obtain ⟨a, rfl, ha⟩ := h.2 0 v rfl
    obtain ⟨b, rfl, hb'⟩ := g.2 0 u rfl
    rw [FoQ.co_zero] at ha hb'
    have t := eqWs_rr F hr hb B (ws := ws) (us := us) (l := l) (m := m) ⟨by have := h.1; simpa using this, fun i w e => by have := h.2 (i + 1) w e; rwa [FoQ.co_succ] at this⟩ ⟨by have := g.1; simpa using this, fun i w e => by have := g.2 (i + 1) w e; rwa [FoQ.co_succ] at this⟩
    obtain ⟨d1, h1⟩ := id ha
    obtain ⟨d2, h2⟩ := id hb'
    have hd : FoG.EqW X n H (.ref a) (.ref b) (decide (x = z)) := FoG.eqW_own (E := E0) F hr hb pass0 B h1 h2 (fun e => by
      subst e
      rw [h1] at h2
      injection h2 with h2
      injection h2 with _ _ w
      have e1 : x.num = z.num := by
        have := rf_top x.num x.den
        rw [w, rf_top] at this
        exact (V.int.inj (Option.some.inj this)).symm
      have e2 : (x.den : Int) = z.den := by
        have := rf_bot x.num x.den
        rw [w, rf_bot] at this
        exact (V.int.inj (Option.some.inj this)).symm
      exact decide_eq_true ((FoQ.q_eq_iff x z).mp ⟨e1, e2⟩)) ⟨a, .ref b, x, rfl, ha, .inl ⟨z, hb'.nm, rfl, rfl⟩⟩
    have e : decide (x :: l = z :: m) = (decide (x = z) && decide (l = m)) := by
      by_cases e1 : x = z <;> by_cases e2 : l = m <;> simp [e1, e2]
    rw [e]
    exact .cons hd t
section
variable {P : Program} {w : World} {K : PySem.W.Frag} {mg : Str → Option Value} {base : Heap}
theorem ok_Pmul (T : Tx K mg) : FnOk P w K mg base CX0 6 (He.ma K (He.ga K "Polynomial") "__mul__") T.fd_Polynomial_mul ["self", "other"] (spP2 K FoQ.prod 40 20) := by
  refine T.F_Polynomial_mul.ok sc_Polynomial_mul (fun vs H Q E h => ?_) (fun cdv A outer s H vs Q E hr h => ?_)
  · obtain ⟨a, b, x, z, rfl, _⟩ := h
    rfl
  · obtain ⟨a, b, x, z, rfl, ⟨dx, t, ws, e1, e2, e3⟩, ⟨dy, u, us, f1, f2, f3⟩, zx, zz, lx, lz, q⟩ := h
    refine ⟨_, (pss_cons (ps_asg (pe_tup (pa_cons (pe_call (ok_shared T) (hr.mono (by decide)) (by rfl) T.g_shared_bottom T.F_shared_bottom.kp T.b_shared_bottom .nil pass0 (pa_cons (pe_fld (pv 0) rfl) pa_nil)) (pa_cons (pe_call (ok_shared T) (hr.mono (by decide)) (by rfl) T.g_shared_bottom T.F_shared_bottom.kp T.b_shared_bottom .nil pass0 (pa_cons (pe_fld (pv 1) rfl) pa_nil)) pa_nil))) (pg_tup (by rfl) (pgs_cons (pg_name (i := 2) sc_Polynomial_mul.nd rfl (.inr rfl)) (pgs_cons (pg_name (i := 3) sc_Polynomial_mul.nd rfl (.inr rfl)) pgs_nil))))
      (pss_cons (ps_set (i := 4) sc_Polynomial_mul.nd rfl (.inl rfl) (pe_call (ok_wprod T) (hr.mono (by decide)) (by rfl) T.g_whole_product T.F_whole_product.kp T.b_whole_product .nil pass0 (pa_cons (pe_call (ok_mult T) (hr.mono (by decide)) (by rfl) T.g_multiplied T.F_multiplied.kp T.b_multiplied .nil pass0 (pa_cons (pe_fld (pv 0) rfl) (pa_cons (pv 2) pa_nil))) (pa_cons (pe_call (ok_mult T) (hr.mono (by decide)) (by rfl) T.g_multiplied T.F_multiplied.kp T.b_multiplied .nil pass0 (pa_cons (pe_fld (pv 1) rfl) (pa_cons (pv 3) pa_nil))) pa_nil))))
      (pss_one (ps_ret (pe_make T.mk_P (ok_Pinit T) (hr.mono (by decide)) (by rfl) T.c_Polynomial T.b_Polynomial_init .nil pass0 (pa_cons (pe_lc (own := [("term", 5)]) (g := gName 5) rfl sc_Polynomial_mul.nd (pi_list (pv 4)) (blkOk_by (own := [("term", 5)]) (N := ["self", "other", "mine", "theirs", "found", "term"]) (sc := defScope s_Polynomial_mul) (by decide +kernel)) (fun _ _ _ _ _ => (pg_name (i := 5) sc_Polynomial_mul.nd rfl (.inl rfl))) (fun _ _ _ _ _ => pts_nil) (fun _ _ _ _ _ => (pe_make T.mk_R (ok_initQ T) (hr.mono (by decide)) (by rfl) T.c_Ratio (bind_init2 T) .nil pass0 (pa_cons (pv 5) (pa_cons (pe_op op_mulW (pv 2) (pv 3)) pa_nil))))) pa_nil)))))), ?_⟩
    refine ⟨_, rfl, a, _, dx, _, _, rfl, e1, T.cl_P, T.nT_P, pf_look _, t, ws, x, rfl, SqT.of e2, e3, zx, lx, ?_⟩
    refine ⟨_, rfl, b, _, dy, _, _, rfl, f1, T.cl_P, T.nT_P, pf_look _, u, us, z, rfl, SqT.of f2, f3, zz, lz, ?_⟩
    have zM := lcmD_all zx lx
    have zT := lcmD_all zz lz
    have pM := FoQ.lcmD_pos x
    have pT := FoQ.lcmD_pos z
    refine ⟨(by show 2 ≤ sizeLine; rw [sizeLine_eq]; decide), fun t0 nt0 => ?_⟩
    refine ⟨t0, _, rfl, SqT.of upd_same, rfl, _, _, rfl, _, _, rfl, rfl, ?_⟩
    have s0 := Same.upd nt0 (o := .tup [.int (FoQ.lcmD x), .int (FoQ.lcmD z)])
    refine ⟨_, rfl, a, _, dx, _, _, rfl, s0 _ _ e1, T.cl_P, T.nT_P, pf_look _, _, rfl, t, ws, x, FoQ.lcmD x, rfl, SqT.of (s0 _ _ e2), e3.nl rr_solid (same_nl s0), zx, lx, pM, zM, fun p1 H1 n1 s1 h1 => ?_⟩
    have s01 := s0.trans s1
    refine ⟨_, rfl, b, _, dy, _, _, rfl, s01 _ _ f1, T.cl_P, T.nT_P, pf_look _, _, rfl, u, us, z, FoQ.lcmD z, rfl, SqT.of (s01 _ _ f2), f3.nl rr_solid (same_nl s01), zz, lz, pT, zT, fun p2 H2 n2 s2 h2 => ?_⟩
    refine ⟨p1, p2, whole (FoQ.lcmD x) x, whole (FoQ.lcmD z) z, rfl, s2 _ _ h1, h2, by rw [whole_len]; exact lx, by rw [whole_len]; exact lz, whole_szs zx zM, whole_szs zz zT, fun p3 H3 zs n3 s3 h3 hc hz hl => ?_⟩
    have s03 := s01.trans (s2.trans s3)
    have val : ∀ n, FoQ.ci zs n = FoQ.S (FoQ.co x) (FoQ.co z) x.length n * (((FoQ.lcmD x : Nat) : Int) * ((FoQ.lcmD z : Nat) : Int)) := fun n => by
      rw [hc n, whole_len, FoQ.S_congr (ci_whole fun i hi => FoQ.lcmD_dvd hi) (ci_whole fun i hi => FoQ.lcmD_dvd hi), FoQ.S_scale]
    refine ⟨_, rfl, p3, rfl, ⟨_, SqL.of h3⟩, fun D nD => ?_⟩
    refine lc_list (LInv (fun j => Rr K (FoQ.S (FoQ.co x) (FoQ.co z) x.length j)) H3 D) (LInv.start nD) (fun i H4 hi h => SqL.of (h.1 _ _ h3)) (fun i v H4 ex h => ?_) (fun H4 h => ?_)
    · obtain ⟨hi, rfl⟩ := intV_some ex
      refine ⟨rfl, _, rfl, _, rfl, _, rfl, _, _, rfl, rfl, FoM.Sz.mulok zM zT, rq_make (Int.mul_ne_zero (by omega) (by omega)) ((zM.mul zT).mono (by decide)) (FoQ.divInt_whole pM pT (val i)) fun b4 H5 n5 s5 hb5 => ⟨rfl, h.next (fun j => rr_solid _) nD s5 ⟨b4, rfl, hb5⟩ (by omega)⟩⟩
    · obtain ⟨s4, vs, ev, el, hv⟩ := h
      rw [intV_len] at el
      refine pq_make (l := (List.range zs.length).map (FoQ.S (FoQ.co x) (FoQ.co z) x.length)) (.inl (SqL.of ev)) ⟨by rw [el]; simp, fun j v e => ?_⟩ (by simp; omega) fun p H' np s5 hp => ⟨rfl, q p H' ((s03.trans s4).free np) ((s03.trans s4).trans s5) ?_⟩
      · have hj := (List.getElem?_eq_some_iff.mp e).1
        rw [FoQ.co_map, if_pos (by omega)]
        obtain ⟨b1, e2, h2⟩ := hv j v e
        exact .inl ⟨b1, e2, h2⟩
      · rw [FoQ.prod_of (l := (List.range zs.length).map (FoQ.S (FoQ.co x) (FoQ.co z) x.length)) (us := x) (vs := z) (fun n => rfl) (fun n => rfl) (fun n => ?_)] at hp
        · exact hp
        · rw [FoQ.co_map]
          split
          · rfl
          · have := val n
            rw [FoQ.ci_ge (by omega)] at this
            have m0 : (((FoQ.lcmD x : Nat) : Int) : Rat) ≠ 0 := fun c => by
              have : ((FoQ.lcmD x : Nat) : Int) = 0 := by exact_mod_cast c
              omega
            have t0 : (((FoQ.lcmD z : Nat) : Int) : Rat) ≠ 0 := fun c => by
              have : ((FoQ.lcmD z : Nat) : Int) = 0 := by exact_mod_cast c
              omega
            generalize (((FoQ.lcmD x : Nat) : Int) : Rat) = m at *
            generalize (((FoQ.lcmD z : Nat) : Int) : Rat) = t at *
            generalize FoQ.S (FoQ.co x) (FoQ.co z) x.length n = r at *
            grind
theorem ok_Pworth (T : Tx K mg) : FnOk P w K mg base CX0 6 (He.ma K (He.ga K "Polynomial") "worth") T.fd_Polynomial_worth ["self", "number"] (spPWorth K) := by
  refine T.F_Polynomial_worth.ok sc_Polynomial_worth (fun vs H Q E h => ?_) (fun cdv A outer s H vs Q E hr h => ?_)
  · obtain ⟨a, y, l, x, rfl, _⟩ := h
    rfl
  · obtain ⟨a, y, l, x, rfl, ⟨dx, t, ws, e1, e2, e3⟩, hy, zl, zx, ll, q⟩ := h
    obtain ⟨ds, vd, bd⟩ := bind_init1 T
    refine ⟨_, (pss_cons (ps_set (i := 2) sc_Polynomial_worth.nd rfl (.inl rfl) (pe_call (ok_asQ T) (hr.mono (by decide)) (by rfl) T.g_as_ratio T.F_as_ratio.kp T.b_as_ratio .nil pass0 (pa_cons (pv 1) pa_nil)))
      (pss_cons (ps_set (i := 3) sc_Polynomial_worth.nd rfl (.inl rfl) (pe_make T.mk_R (ok_initQ T) (hr.mono (by decide)) (by rfl) T.c_Ratio bd vd pass0 (pa_cons pe_int pa_nil)))
      (pss_cons (ps_for PassesOwn.never rfl (RT.pi_revA (by rfl) T.z_reversed (pe_fld (pv 0) rfl)) (pg_name (i := 4) sc_Polynomial_worth.nd rfl (.inl rfl)) (pss_one (ps_set (i := 3) sc_Polynomial_worth.nd rfl (.inl rfl) (pe_op (FoA.op_own (ok_addQ T) (hr.mono (by decide)) T.b_Ratio_add pass0 T.bi_add FoN.int_add FoN.int_addR) (pe_op (FoA.op_own (ok_mulQ T) (hr.mono (by decide)) T.b_Ratio_mul pass0 T.bi_mul FoN.int_mul FoN.int_mulR) (pv 3) (pv 2)) (pv 4)))))
      (pss_one (ps_ret (pv 3)))))), ?_⟩
    refine ⟨_, rfl, y, x, rfl, hy, fun b1 H1 s1 hb1 => ?_⟩
    refine rq_make (by decide) sz1q (FoQ.q_int 0) fun b2 H2 n2 s2 hb2 => ⟨rfl, ?_⟩
    have s02 := s1.trans s2
    refine ⟨_, rfl, a, _, dx, _, _, rfl, s02 _ _ e1, T.cl_P, T.nT_P, pf_look _, t, ws, rfl, .inr ⟨SqT.of (s02 _ _ e2), ?_⟩⟩
    refine for_it FoW.walk_revT (fun i σ H' => Same H2 H' ∧ ∃ b o, σ = [some (.ref a), some y, some (.ref b1), some (.ref b), o] ∧ RtAt K H' b (FoQ.hor x (l.drop (l.length - i)))) ⟨Same.refl _, b2, _, rfl, by rw [Nat.sub_zero, List.drop_length]; exact hb2⟩ (fun i σ H' _ h => SqT.of (h.1 _ _ (s02 _ _ e2))) ?_ ?_
    · rintro i v σ H' _ hi ⟨s3, b, o, rfl, hb⟩ ⟨rfl, hv⟩
      rw [e3.1] at hi hv
      obtain ⟨c, rfl, hc⟩ := (e3.nl rr_solid (same_nl (s02.trans s3))).2 _ _ hv
      obtain ⟨d0, g0⟩ := id hb
      obtain ⟨d1, g1⟩ := hb1.same (s2.trans s3)
      have zv := (FoQ.hor_sz zl zx i (by omega)).mono (show (40 + 40 + 1) * i + 1 ≤ 1640 by omega)
      refine ⟨_, rfl, _, rfl, b, d0, _, rfl, g0, .inr ⟨b1, d1, _, rfl, g1⟩, b, .ref b1, _, _, rfl, hb, (hb1.same (s2.trans s3)).nm, trivial, zv.mono (by decide), zx.mono (by decide), fun p3 H3 n3 s4 h3 => ?_⟩
      obtain ⟨d3, g3⟩ := id h3
      obtain ⟨d4, g4⟩ := hc.same s4
      refine ⟨_, rfl, p3, d3, _, rfl, g3, .inr ⟨c, d4, _, rfl, g4⟩, p3, .ref c, _, _, rfl, h3, (hc.same s4).nm, trivial, (zv.mul zx).mono (by decide), (zl _).mono (by decide), fun p4 H4 n4 s5 h4 => ?_⟩
      refine ⟨s3.trans (s4.trans s5), p4, _, rfl, ?_⟩
      rw [FoQ.hor_drop (by omega), show l.length - (i + 1) + 1 = l.length - i by omega, show l.length - (i + 1) = l.length - 1 - i by omega]
      exact h4
    · rintro σ H' ⟨s3, b, o, rfl, hb⟩
      rw [e3.1, Nat.sub_self, List.drop_zero] at hb
      exact ⟨_, rfl, q b H' (s02.trans s3) hb⟩
theorem ok_Pslope (T : Tx K mg) : FnOk P w K mg base CX0 6 (He.ma K (He.ga K "Polynomial") "slope") T.fd_Polynomial_slope ["self"] (spPSlope K) := by
  refine T.F_Polynomial_slope.ok sc_Polynomial_slope (fun vs H Q E h => ?_) (fun cdv A outer s H vs Q E hr h => ?_)
  · obtain ⟨a, x, rfl, _⟩ := h
    rfl
  · obtain ⟨a, x, rfl, ⟨dx, t, ws, e1, e2, e3⟩, zx, lx, q⟩ := h
    refine ⟨_, (pss_one (ps_ret (pe_make T.mk_P (ok_Pinit T) (hr.mono (by decide)) (by rfl) T.c_Polynomial T.b_Polynomial_init .nil pass0 (pa_cons (pe_slice sl_list (pe_lc (own := [("at", 1), ("term", 2)])  rfl sc_Polynomial_slope.nd (FoW.pi_enumT (by rfl) T.z_enumerate (pa_cons (pe_fld (pv 0) rfl) pa_nil)) (blkOk_by (own := [("at", 1), ("term", 2)]) (N := ["self", "at", "term"]) (sc := defScope s_Polynomial_slope) (by decide +kernel)) (fun _ _ _ _ _ => (FoK.pg_tupK (K' := K) (n := 2) rfl (by rfl) (pgs_cons (pg_name (i := 1) sc_Polynomial_slope.nd rfl (.inl rfl)) (pgs_cons (pg_name (i := 2) sc_Polynomial_slope.nd rfl (.inl rfl)) pgs_nil)))) (fun _ _ _ _ _ => pts_nil) (fun _ _ _ _ _ => (pe_op (FoA.op_own (ok_mulQ T) (hr.mono (by decide)) T.b_Ratio_mul pass0 T.bi_mul FoN.int_mul FoN.int_mulR) (pv 2) (pv 1)))) (po_some pe_int) po_none) pa_nil)))), ?_⟩
    refine ⟨_, rfl, a, _, dx, _, _, rfl, e1, T.cl_P, T.nT_P, pf_look _, t, ws, rfl, SqT.of e2, fun D nD => ?_⟩
    refine FoW.lc_enumT (LInv (fun j => Rr K (FoQ.co x j * ((j : Int) : Rat))) H D) (LInv.start nD) (fun i H2 hi h => SqT.of (h.1 _ _ e2)) (fun i v H2 p ex np h => ?_) (fun H2 h => ?_)
    · obtain ⟨b, rfl, hb⟩ := e3.2 i v ex
      have hi := (List.getElem?_eq_some_iff.mp ex).1
      rw [e3.1] at hi
      have s2 := h.1.trans (Same.upd np (o := .tup [.int i, .ref b]))
      obtain ⟨d1, h1⟩ := hb.same s2
      have zi : FoQ.SzR 1900 ((i : Int) : Rat) := FoQ.SzR.int ((sz_of (n := 20) 1000000 (by omega) (by omega) (by decide)).mono (by decide)) (by decide)
      refine ⟨p, _, rfl, SqT.of upd_same, rfl, _, _, rfl, _, _, rfl, rfl, rfl, _, rfl, _, rfl, b, d1, _, rfl, h1, .inl ⟨_, rfl⟩, b, .int i, _, _, rfl, hb.same s2, .inr ⟨_, rfl, rfl⟩, trivial, (zx i).mono (by decide), zi, fun p3 H3 n3 s3 h3 => h.next (fun j => rr_solid _) nD ((Same.upd np).trans s3) ⟨p3, rfl, h3⟩ (by omega)⟩
    · obtain ⟨s1, vs, ev, el, hv⟩ := h
      refine ⟨_, rfl, D, vs, rfl, SqL.of ev, fun p2 n2 => ?_⟩
      have cut : cutV vs (some 1) none = vs.drop 1 := by
        unfold cutV
        have e0 : HT.sIx vs.length 0 (some (1 : Int)) = min 1 vs.length := HT.sIx_nat _ _ 1
        have e9 : HT.sIx vs.length vs.length none = vs.length := rfl
        rw [e0, e9]
        by_cases c : vs.length = 0
        · have : vs = [] := List.length_eq_zero_iff.mp c
          subst this
          rfl
        · rw [Nat.min_eq_left (by omega), List.take_of_length_le (by rw [List.length_drop]; omega)]
      rw [cut]
      refine pq_make (l := ((List.range x.length).map fun i => FoQ.co x i * ((i : Int) : Rat)).drop 1) (.inl (SqL.of upd_same)) ⟨by rw [List.length_drop, el, e3.1]; simp, fun j v e => ?_⟩ (by simp; omega) fun p H' np s5 hp => ⟨rfl, q p H' ((s1.trans (Same.upd n2)).free np) ((s1.trans (Same.upd n2)).trans s5) hp⟩
      rw [List.getElem?_drop] at e
      have hj := (List.getElem?_eq_some_iff.mp e).1
      have ec : FoQ.co (((List.range x.length).map fun i => FoQ.co x i * ((i : Int) : Rat)).drop 1) j = FoQ.co ((List.range x.length).map fun i => FoQ.co x i * ((i : Int) : Rat)) (1 + j) := by
        unfold FoQ.co
        rw [List.getD_eq_getElem?_getD, List.getD_eq_getElem?_getD, List.getElem?_drop]
      rw [ec, FoQ.co_map, if_pos (by rw [← e3.1, ← el]; exact hj)]
      obtain ⟨b1, e2', h2⟩ := hv _ v e
      exact .inl ⟨b1, e2', h2.nl (nl_same_upd n2)⟩
theorem ok_Pneg (T : Tx K mg) : FnOk P w K mg base CX0 6 (He.ma K (He.ga K "Polynomial") "__neg__") T.fd_Polynomial_neg ["self"] (spPNeg K) := by
  refine T.F_Polynomial_neg.ok sc_Polynomial_neg (fun vs H Q E h => ?_) (fun cdv A outer s H vs Q E hr h => ?_)
  · obtain ⟨a, x, rfl, _⟩ := h
    rfl
  · obtain ⟨a, x, rfl, ⟨dx, t, ws, e1, e2, e3⟩, zx, lx, q⟩ := h
    refine ⟨_, (pss_one (ps_ret (pe_make T.mk_P (ok_Pinit T) (hr.mono (by decide)) (by rfl) T.c_Polynomial T.b_Polynomial_init .nil pass0 (pa_cons (pe_lc (own := [("term", 1)]) (g := gName 1) rfl sc_Polynomial_neg.nd (pi_tup (pe_fld (pv 0) rfl)) (blkOk_by (own := [("term", 1)]) (N := ["self", "term"]) (sc := defScope s_Polynomial_neg) (by decide +kernel)) (fun _ _ _ _ _ => (pg_name (i := 1) sc_Polynomial_neg.nd rfl (.inl rfl))) (fun _ _ _ _ _ => pts_nil) (fun _ _ _ _ _ => (pe_un (FoA.un_own (ok_negQ T) (hr.mono (by decide)) T.b_Ratio_neg pass0 T.m_neg.at_ T.m_neg.fn) (pv 1)))) pa_nil)))), ?_⟩
    refine ⟨_, rfl, a, _, dx, _, _, rfl, e1, T.cl_P, T.nT_P, pf_look _, t, rfl, ⟨_, SqT.of e2⟩, fun D nD => ?_⟩
    refine lc_tup (LInv (fun j => Rr K (-FoQ.co x j)) H D) (LInv.start nD) (fun i H2 hi h => SqT.of (h.1 _ _ e2)) (fun i v H2 ex h => ?_) (fun H2 h => ?_)
    · obtain ⟨b, rfl, hb⟩ := e3.2 i v ex
      have hb2 := hb.same h.1
      obtain ⟨d1, h1⟩ := id hb2
      have hi := (List.getElem?_eq_some_iff.mp ex).1
      rw [e3.1] at hi
      exact ⟨rfl, _, rfl, b, d1, _, rfl, h1, b, _, rfl, hb2, (zx i).mono (by decide), fun p3 H3 n3 s3 h3 => h.next (fun j => rr_solid _) nD s3 ⟨p3, rfl, h3⟩ (by omega)⟩
    · obtain ⟨s1, vs, ev, el, hv⟩ := h
      refine pq_make (l := (List.range x.length).map fun i => -FoQ.co x i) (.inl (SqL.of ev)) ⟨by rw [el, e3.1]; simp, fun j v e => ?_⟩ (by simp; omega) fun p H' np s5 hp => ⟨rfl, q p H' (s1.free np) (s1.trans s5) hp⟩
      have hj := (List.getElem?_eq_some_iff.mp e).1
      rw [FoQ.co_map, if_pos (by rw [← e3.1, ← el]; exact hj)]
      obtain ⟨b1, e2', h2⟩ := hv _ v e
      exact .inl ⟨b1, e2', h2⟩
theorem ok_Peq (T : Tx K mg) : FnOk P w K mg base CX0 5 (He.ma K (He.ga K "Polynomial") "__eq__") T.fd_Polynomial_eq ["self", "other"] (spPEq K) := by
  refine T.F_Polynomial_eq.ok sc_Polynomial_eq (fun vs H Q E h => ?_) (fun cdv A outer s H vs Q E hr h => ?_)
  · obtain ⟨a, y, x, rfl, _⟩ := h
    rfl
  · obtain ⟨a, y, x, rfl, ⟨dx, t, ws, e1, e2, e3⟩, h⟩ := h
    refine ⟨_, (pss_one (ps_ret (pe_and (pe_callB call_isi (by rfl) T.z_isinstance (by decide +kernel) (pa_cons (pv 1) (pa_cons (pe_glob (v := V.ref (He.ga K "Polynomial")) (by rfl) T.c_Polynomial rfl) pa_nil))) (pe_one (pe_cmpR (FoG.op_eqT (Nat.lt_of_succ_lt (hu_of hr))) (pe_fld (pv 0) rfl) (pe_fld (pv 1) rfl) (nomark _)))))), ?_⟩
    rcases h with ⟨b, z, rfl, ⟨dy, u, us, f1, f2, f3⟩, q⟩ | ⟨hN | ⟨b, r, rfl, dy, hb⟩, q⟩
    · refine ⟨_, rfl, _, _, _, _, _, rfl, .own _, FoB.TyI T.is_P T.cl_P f1, FoB.kit_self, _, rfl, iteT ?_⟩
      refine ⟨_, rfl, a, _, dx, _, _, rfl, e1, T.cl_P, T.nT_P, pf_look _, _, rfl, b, _, dy, _, _, rfl, f1, T.cl_P, T.nT_P, pf_look _, ?_⟩
      exact ⟨t, u, ws, us, _, rfl, rfl, SqT.of e2, SqT.of f2, eqWs_rr (n := 1) (ok_eqQ T) (hr.mono (by decide)) T.b_Ratio_eq T.cm_eq e3 f3, q⟩
    · obtain ⟨X, hX, ty, _⟩ := hN.ty (K := K)
      exact ⟨_, rfl, _, _, _, _, _, rfl, .own _, ty, T.is_P.kt X hX, _, rfl, iteF q⟩
    · exact ⟨_, rfl, _, _, _, _, _, rfl, .own _, FoB.TyI T.is_R T.cl_R hb, T.kRP, _, rfl, iteF q⟩
end

end Fo

set_option maxHeartbeats 4100000
namespace Fo
open PySem PySem.Spec PyProof.Rows L2
/-! ### a number that is none -/
theorem NoNum.same {H H' : Hp} {y : V} (h : NoNum H y) (e : Same H H') : NoNum H' y := by
  cases h with
  | non => exact .non
  | bl b => exact .bl b
  | str x => exact .str x
  | lst a => exact .lst (e _ _ a)
  | tup a => exact .tup (e _ _ a)
  | dK a => exact .dK (e _ _ a)
def spBN (K : PySem.W.Frag) : Sp := fun vs H Q _ => ∃ (a : Addr) (y : V), vs = [.ref a, y] ∧ H a = some (exo a (He.ga K "BadNumber") none) ∧ ∀ dx, H dx = none → dx ≠ a → Q .non (upd (upd H dx (exd dx [("given", y)])) a (exo a (He.ga K "BadNumber") (some dx)))
def spAsB (K : PySem.W.Frag) : Sp := fun vs H Q E => ∃ y : V, vs = [y] ∧ ((∃ r, NmV K H y r ∧ ∀ b H', Same H H' → RtAt K H' b r → Q (.ref b) H') ∨ (NoNum H y ∧ ∀ dx H', Same H H' → H' dx = some (.xd [("given", y)]) → E (.ref (He.ga K "BadNumber")) (some dx) H'))
def spPInX (K : PySem.W.Frag) : Sp := fun vs H _ E => ∃ (p dx a : Addr) (ws : List V) (k : Nat) (y : V), vs = [.ref p, .ref a] ∧ H p = some (.ins (PC K) dx []) ∧ SqL K H a ws ∧ (∀ i v, i < k → ws[i]? = some v → ∃ r, NmV K H v r) ∧ ws[k]? = some y ∧ NoNum H y ∧ ws.length ≤ 1000 ∧
  ∀ d H', Same H H' → H' d = some (.xd [("given", y)]) → E (.ref (He.ga K "BadNumber")) (some d) H'
section
variable {P : Program} {w : World} {K : PySem.W.Frag} {mg : Str → Option Value} {base : Heap}
theorem ok_BN (T : Tx K mg) : FnOk P w K mg base CX0 1 (He.ma K (He.ga K "BadNumber") "__init__") T.fd_BadNumber_init ["self", "given"] (spBN K) := by
  refine T.F_BadNumber_init.ok sc_BadNumber_init (fun vs H Q E h => ?_) (fun cdv A outer s H vs Q E hr h => ?_)
  · obtain ⟨a, y, rfl, _⟩ := h
    rfl
  · obtain ⟨a, y, rfl, ha, q⟩ := h
    refine ⟨_, (pss_one (ps_ost (pv 0) (pv 1))), ?_⟩
    exact ⟨_, rfl, _, rfl, a, _, rfl, T.e_BadNumber.ox, T.e_BadNumber.no, .inl ⟨ha, q⟩⟩
theorem ok_asB (T : Tx K mg) : FnOk P w K mg base (L2.CX P w) 3 (He.ga K "as_ratio") T.fd_as_ratio ["given"] (spAsB K) := by
  refine T.F_as_ratio.okX sc_as_ratio (fun vs H Q E h => ?_) (fun cdv A outer s H vs Q E hr h => ?_)
  · obtain ⟨y, rfl, _⟩ := h
    rfl
  · obtain ⟨y, rfl, h⟩ := h
    obtain ⟨ds, vd, bd⟩ := bind_init1 T
    refine ⟨_, (pss_cons (ps_if (pt_not (pt_val (pe_call (ok_is_number T) (hr.mono (by decide)) (by rfl) T.g_is_number T.F_is_number.kp T.b_is_number .nil pass0 (pa_cons (pv 0) pa_nil)))) (pss_one (ps_raise rfl (takes_of rfl rfl rfl rfl) (pmk_oex T.e_BadNumber.ox T.e_BadNumber.iC T.e_BadNumber.tI (ok_BN T) (hr.mono (by decide)) T.b_BadNumber_init .nil pass0 (by rfl) T.c_BadNumber (pa_cons (pv 0) pa_nil)))) pss_nil)
      (pss_one (ps_ret (pe_ifExp (pt_val (pe_callB call_isi (by rfl) T.z_isinstance (by decide +kernel) (pa_cons (pv 0) (pa_cons (pe_glob (v := V.ref (He.ga K "Ratio")) (by rfl) T.c_Ratio rfl) pa_nil)))) (pv 0) (pe_make T.mk_R (ok_initQ T) (hr.mono (by decide)) (by rfl) T.c_Ratio bd vd pass0 (pa_cons (pv 0) pa_nil)))))), ?_⟩
    rcases h with ⟨r, hy, q⟩ | ⟨hy, q⟩
    · refine ⟨_, rfl, y, rfl, .inl ⟨r.num, r.den, hy.num, _, rfl, iteF ?_⟩⟩
      rcases hy with ⟨b, rfl, hb⟩ | ⟨i, rfl, rfl⟩
      · obtain ⟨dx, hb'⟩ := id hb
        exact ⟨_, rfl, _, _, _, _, _, rfl, .own _, FoB.TyI T.is_R T.cl_R hb', FoB.kit_self, _, rfl, iteT ⟨_, rfl, q b H (Same.refl H) hb⟩⟩
      · refine ⟨_, rfl, _, _, _, _, _, rfl, .own _, .base (.int i), T.is_R.kt "int" (by decide), _, rfl, iteF ?_⟩
        exact ⟨_, rfl, rq_make (by decide) sz1q (FoQ.q_int i) fun p H' np sm hR => ⟨rfl, q p H' sm hR⟩⟩
    · refine ⟨_, rfl, _, rfl, .inr ⟨hy, _, rfl, iteT ?_⟩⟩
      refine ⟨_, rfl, (by show 1 ≤ 1000; decide), fun a na => ⟨a, y, rfl, upd_same, fun dx ndx ne => ⟨rfl, dx, [("given", y)], upd_same, ?_, ?_, ?_⟩⟩⟩
      · rw [upd_ne ne, upd_same]
      · rw [upd_ne ne] at ndx
        exact ndx
      · have hd : H dx = none := by
          rw [upd_ne ne] at ndx
          exact ndx
        refine q dx _ (fun b o z => ?_) upd_same
        rw [upd_ne (ne_of_none z hd), del_ne (ne_of_none z na), upd_ne (ne_of_none z na), upd_ne (ne_of_none z hd), upd_ne (ne_of_none z na)]
        exact z
theorem ok_PinitX (T : Tx K mg) : FnOk P w K mg base (L2.CX P w) 4 (He.ma K (He.ga K "Polynomial") "__init__") T.fd_Polynomial_init ["self", "numbers"] (spPInX K) := by
  refine T.F_Polynomial_init.okX sc_Polynomial_init (fun vs H Q E h => ?_) (fun cdv A outer s H vs Q E hr h => ?_)
  · obtain ⟨p, dx, a, ws, k, y, rfl, _⟩ := h
    rfl
  · obtain ⟨p, dx, a, ws, k, y, rfl, hp, hS, hN, hk, hy, hl, q⟩ := h
    refine ⟨_, (pss_one (ps_fld (pv 0) (pe_callTy call_tuple_of (by rfl) T.z_tuple (by decide +kernel) (pa_cons (pe_call (ok_trimmed T) (hr.mono (by decide)) (by rfl) T.g_trimmed T.F_trimmed.kp T.b_trimmed .nil pass0 (pa_cons (FoE.pe_lcX (own := [("number", 2)]) (g := gName 2) rfl rfl (takes_of rfl rfl rfl rfl) rfl sc_Polynomial_init.nd (pi_list (pv 1)) (blkOk_by (own := [("number", 2)]) (N := ["self", "numbers", "number"]) (sc := defScope s_Polynomial_init) (by decide +kernel)) (fun _ _ _ _ _ _ => (pg_name (i := 2) sc_Polynomial_init.nd rfl (.inl rfl))) (fun _ _ _ _ _ _ => pts_nil) (fun _ _ _ _ _ _ V hx => (pe_callS (ok_asB T) (hr.mono (by decide)) (by rfl) T.g_as_ratio T.F_as_ratio.kp T.b_as_ratio hx (pa_cons (pv 2) pa_nil)))) pa_nil)) pa_nil)) rfl)), ?_⟩
    refine ⟨_, rfl, a, rfl, ⟨_, hS⟩, fun D nD => ?_⟩
    have kl := (List.getElem?_eq_some_iff.mp hk).1
    refine lc_list (fun i H2 => LInv (fun j H v => True) H D i H2 ∧ i ≤ k) ⟨LInv.start nD, Nat.zero_le _⟩ (fun i H2 hi h => sqL_sm hS h.1.1) (fun i x H2 ex h => ?_) (fun H2 h => absurd h.2 (by omega))
    obtain ⟨h, hi⟩ := h
    refine ⟨rfl, _, rfl, x, rfl, ?_⟩
    by_cases c : i = k
    · subst c
      rw [ex] at hk
      cases hk
      exact .inr ⟨hy.same h.1, fun d H' s e => q d H' (h.1.trans s) e⟩
    · obtain ⟨r, hx⟩ := hN i x (by omega) ex
      refine .inl ⟨r, hx.same h.1, fun b H4 s4 hb => ?_⟩
      obtain ⟨acc, g1, g2, g3⟩ := h.next (v := .ref b) (fun j => @fun _ _ _ _ q => q) nD s4 trivial (by omega)
      exact ⟨acc, g1, g2, g3, by omega⟩
end

end Fo

set_option maxHeartbeats 4100000
namespace Fo
open PySem PySem.Spec PyProof.Rows L2
/-! ### the law's own helpers -/
theorem BoxAt.same {H H' : Hp} {p : Addr} {n : Nat} (h : BoxAt H p n) (e : Same H H') : BoxAt H' p n :=
  let ⟨x, c, sd, a, r⟩ := h
  ⟨x, c, sd, e _ _ a, r⟩
theorem BoxAt.mono {H : Hp} {p : Addr} {n m : Nat} (h : BoxAt H p n) (e : n ≤ m) : BoxAt H p m :=
  let ⟨x, c, sd, a, h1, h2, h3, h4, h5⟩ := h
  ⟨x, c, sd, a, h1, h2, by omega, h4, h5⟩
theorem BoxAt.ne {H : Hp} {p t : Addr} {n : Nat} (h : BoxAt H p n) (e : H t = none) : t ≠ p := fun z => by
  obtain ⟨x, c, sd, a, _⟩ := h
  rw [z, a] at e
  cases e
theorem BoxAt.nl {H H' : Hp} {p : Addr} {n : Nat} (h : BoxAt H p n) (b : But p H H') : NLst H H' :=
  let ⟨_, _, _, a, _⟩ := h
  NLst.but a b
theorem But.free {H H' : Hp} {b t : Addr} (h : But b H H') (nb : t ≠ b) (e : H' t = none) : H t = none := by
  cases q : H t with
  | none => rfl
  | some o =>
    rw [h t o q nb] at e
    cases e
theorem sz1000 {m : Int} (h0 : 0 ≤ m := by decide) (h : m < 1000000 := by decide) : FoM.Sz 4000 m := sz_of 1000000 (by omega) h (Nat.le_trans (by decide) (Nat.pow_le_pow_right (by decide) (show 20 ≤ 4000 by decide)))
/-- an if or an assignment whose ways go on alike -/
theorem gen_t {st u : TS} {D : Ends} {σ : L2.St} {H : Hp} (C : Hp → Prop) (h1 : ∀ D' : Ends, (∀ H', C H' → D'.nx σ H') → st D' σ H) (h2 : ∀ H', C H' → u D σ H') : tSeq st u D σ H := h1 { D with nx := u D } h2
theorem gen_s {te : TE} {g : TG} {u : TS} {D : Ends} {σ : L2.St} {H : Hp} (C : V → Hp → Prop) (h1 : ∀ Q' : VK, (∀ x H', C x H' → Q' x H') → te σ H Q') (h2 : ∀ x H', C x H' → g x σ H' (u D)) : tSeq (tAsg te g) u D σ H := h1 _ h2
def spNumber : Sp := fun vs H Q _ => ∃ (b : Addr) (m : Int) (n : Nat), vs = [.ref b, .int m] ∧ BoxAt H b n ∧ n ≤ 90000 ∧ 0 ≤ m ∧ m ≤ 1000 ∧ ∀ p H' r, H p = none → FrQ H' p r → FoQ.SzR 12 r → BoxAt H' b (n + 3) → But b H H' → Q (.ref p) H'
def spHanded (K : PySem.W.Frag) : Sp := fun vs H Q _ => ∃ (a b : Addr) (r : Rat) (n : Nat), vs = [.ref a, .ref b] ∧ FrQ H a r ∧ FoQ.SzR 40 r ∧ BoxAt H b n ∧ n ≤ 90000 ∧ ∀ v H', NmV K H' v r → BoxAt H' b (n + 1) → But b H H' → Q v H'
def spTold (K : PySem.W.Frag) : Sp := fun vs H Q _ => ∃ (a : Addr) (r : Rat), vs = [.ref a] ∧ RtAt K H a r ∧ ∀ p, H p = none → Q (.ref p) (upd H p (qt r))
def spTermsL (K : PySem.W.Frag) : Sp := fun vs H Q _ => ∃ (a : Addr) (l : List Rat), vs = [.ref a] ∧ PolAt K H a l ∧ l.length ≤ 1000 ∧ ∀ p H' us, H p = none → Same H H' → H' p = some (.lst us) → Ls Rq H' us l → Q (.ref p) H'
def spAtL (K : PySem.W.Frag) : Sp := fun vs H Q _ => ∃ (a b : Addr) (ws : List V) (l : List Rat) (x : Rat), vs = [.ref a, .ref b] ∧ SqL K H a ws ∧ Ls Rq H ws l ∧ FrQ H b x ∧ AllSz 40 l ∧ FoQ.SzR 40 x ∧ l.length ≤ 20 ∧ ∀ p H', Same H H' → FrQ H' p (FoQ.hor x l) → Q (.ref p) H'
theorem pick6 (g : Int) (k : Nat) (h : k < 6) (g0 : 0 ≤ g) (g1 : g ≤ 1000) : ∃ m : Int, [V.int 1, V.int 1, V.int 2, V.int 3, V.int 5, V.int (1 + g)][k]? = some (.int m) ∧ 0 < m ∧ m ≤ 1001 :=
  match k, h with
  | 0, _ => ⟨_, rfl, by decide, by decide⟩
  | 1, _ => ⟨_, rfl, by decide, by decide⟩
  | 2, _ => ⟨_, rfl, by decide, by decide⟩
  | 3, _ => ⟨_, rfl, by decide, by decide⟩
  | 4, _ => ⟨_, rfl, by decide, by decide⟩
  | 5, _ => ⟨_, rfl, by omega, by omega⟩
section
variable {P : Program} {w : World} {K : PySem.W.Frag} {mg : Str → Option Value} {base : Heap}
theorem ok_number (T : Tx K mg) : FnOk P w K mg base CX0 2 (He.ga K "_law_number") T.fd_number ["_law_box_here", "_law_most"] spNumber := by
  refine T.F_number.ok sc_number (fun vs H Q E h => ?_) (fun cdv A outer s H vs Q E hr h => ?_)
  · obtain ⟨b, m, n, rfl, _⟩ := h
    rfl
  · obtain ⟨b, m, n, rfl, hB, hn, m0, m1, q⟩ := h
    refine ⟨_, (pss_cons (ps_set (i := 2) sc_number.nd rfl (.inl rfl) (pe_op op_sub (pe_call (ok_take T) (hr.mono (by decide)) (by rfl) T.g_take T.F_take.kp T.b_take .nil pass0 (pa_cons (pv 0) (pa_cons (pe_op op_add (pe_op op_mulW pe_int (pv 1)) pe_int) pa_nil))) (pv 1)))
      (pss_one (ps_ret (pe_call (ok_fracQ T) (hr.mono (by decide)) (by rfl) T.g_frac T.F_frac.kp T.b_frac .nil pass0 (pa_cons (pv 2) (pa_cons (pe_ix ix_list (pe_lst (pa_cons pe_int (pa_cons pe_int (pa_cons pe_int (pa_cons pe_int (pa_cons pe_int (pa_cons (pe_op op_add pe_int (pe_call (ok_take T) (hr.mono (by decide)) (by rfl) T.g_take T.F_take.kp T.b_take .nil pass0 (pa_cons (pv 0) (pa_cons (pe_op op_add (pv 1) pe_int) pa_nil)))) pa_nil))))))) (pe_call (ok_take T) (hr.mono (by decide)) (by rfl) T.g_take T.F_take.kp T.b_take .nil pass0 (pa_cons (pv 0) (pa_cons pe_int pa_nil))) (fun _ _ => rfl)) pa_nil)))))), ?_⟩
    refine ⟨_, rfl, _, rfl, _, _, rfl, rfl, FoM.Sz.mulok (n := 20) (m := 20) (sz_of 1000000 (by decide) (by decide) (by decide)) (sz_of 1000000 (by omega) (by omega) (by decide)), _, _, rfl, rfl, ?_⟩
    refine ⟨b, _, n, rfl, hB, by omega, by omega, sz1000 (by omega) (by omega), fun g1 H1 g10 g11 hB1 b1 => ?_⟩
    refine ⟨_, rfl, _, _, rfl, rfl, ?_⟩
    have zu : FoM.Sz 12 (g1 - m) := sz_of 1001 (by omega) (by omega) (by decide)
    refine ⟨_, rfl, _, rfl, _, rfl, _, _, rfl, rfl, ?_⟩
    refine ⟨b, _, n + 1, rfl, hB1, by omega, by omega, sz1000 (by omega) (by omega), fun g2 H2 g20 g21 hB2 b2 => ?_⟩
    refine ⟨_, _, rfl, rfl, (by show 6 ≤ sizeLine; rw [sizeLine_eq]; decide), fun t1 nt1 => ?_⟩
    have n1 := hB2.ne nt1
    refine ⟨_, rfl, b, 6, n + 2, rfl, hB2.same (Same.upd nt1), by omega, by decide, sz1000, fun g3 H3 g30 g31 hB3 b3 => ?_⟩
    have hL := b3 _ _ upd_same n1
    obtain ⟨k3, rfl⟩ := Int.eq_ofNat_of_zero_le g30
    obtain ⟨d, ed, d0, d1⟩ := pick6 g2 k3 (by omega) g20 (by omega)
    refine ⟨t1, _, _, _, rfl, rfl, SqL.of hL, atI_nat ed, ?_⟩
    have zd : FoM.Sz 12 d := sz_of 1002 (by omega) (by omega) (by decide)
    have bb : But b H H3 := b1.trans (b2.trans ((But.of_same (Same.upd nt1)).trans b3))
    refine ⟨g1 - m, d, rfl, by omega, zd.mono (by decide), fun p np => ?_⟩
    have npb := hB3.ne np
    exact q p _ _ (bb.free npb np) upd_same (FoQ.SzR.divInt (by omega) zu zd) (hB3.same (Same.upd np)) (bb.trans (But.of_same (Same.upd np)))
theorem ok_handed (T : Tx K mg) : FnOk P w K mg base CX0 3 (He.ga K "_law_handed") T.fd_handed ["_law_x", "_law_box_here"] (spHanded K) := by
  refine T.F_handed.ok sc_handed (fun vs H Q E h => ?_) (fun cdv A outer s H vs Q E hr h => ?_)
  · obtain ⟨a, b, r, n, rfl, _⟩ := h
    rfl
  · obtain ⟨a, b, r, n, rfl, ha, zr, hB, hn, q⟩ := h
    obtain ⟨ds, vd, bd⟩ := bind_init1 T
    have hT := ha.at_ (K := K)
    refine ⟨_, (pss_one (ps_ret (pe_ifExp (PW.pt (pw_and (pt_cmpR op_eq (pe_ix ix_tup (pv 0) pe_int (fun _ _ => rfl)) pe_int (nomark _)) (pw_and1 (pt_cmpR op_gt (pe_call (ok_take T) (hr.mono (by decide)) (by rfl) T.g_take T.F_take.kp T.b_take .nil pass0 (pa_cons (pv 1) (pa_cons pe_int pa_nil))) pe_int (nomark _))))) (pe_ix ix_tup (pv 0) pe_int (fun _ _ => rfl)) (pe_make T.mk_R (ok_initQ T) (hr.mono (by decide)) (by rfl) T.c_Ratio (bind_init2 T) .nil pass0 (pa_cons (pe_ix ix_tup (pv 0) pe_int (fun _ _ => rfl)) (pa_cons (pe_ix ix_tup (pv 0) pe_int (fun _ _ => rfl)) pa_nil)))))), ?_⟩
    refine ⟨_, rfl, _, _, _, _, rfl, rfl, hT, rfl, rfl, ?_⟩
    have den1 : ∀ {b : Bool}, (decide (V.int (r.den : Int) = V.int 1)) = b → ((r.den : Int) = 1 ↔ b = true) := fun {b} e => by
      rw [← e]
      constructor
      · intro z
        exact decide_eq_true (by rw [z])
      · intro z
        exact V.int.inj (of_decide_eq_true z)
    have made : ∀ H2 n2, BoxAt H2 b n2 → n2 ≤ n + 1 → But b H H2 → FrQ H2 a r → ∀ p H3, Same H2 H3 → RtAt K H3 p r → Q (.ref p) H3 := fun H2 n2 hB2 hn2 b2 _ p H3 s3 hp => q _ _ hp.nm ((hB2.same s3).mono hn2) (b2.trans (But.of_same s3))
    refine ⟨_, rfl, ?_⟩
    cases e : decide (V.int (r.den : Int) = V.int 1) with
    | true =>
      have d1 := (den1 e).mpr rfl
      refine iteT ?_
      refine ⟨_, rfl, b, 3, n, rfl, hB, by omega, by decide, sz1000, fun g H1 g0 g1 hB1 b1 => ?_⟩
      have na : a ≠ b := fun z => by
        obtain ⟨_, _, _, h, _⟩ := hB
        have ha : H a = some (qt r) := ha
        rw [z, h] at ha
        cases ha
      have hT1 := (show FrQ H1 a r from b1 _ _ ha na).at_ (K := K)
      refine ⟨_, _, rfl, rfl, _, rfl, ite2 (fun c => ?_) (fun c => ?_)⟩
      · refine ⟨_, rfl, _, _, _, _, rfl, rfl, hT1, rfl, q _ _ (.inr ⟨r.num, rfl, ?_⟩) hB1 b1⟩
        exact (Rat.num_divInt_den r).symm.trans (by rw [d1]; exact FoQ.q_int _)
      · refine ⟨_, rfl, _, _, _, _, rfl, rfl, hT1, rfl, _, rfl, _, _, _, _, rfl, rfl, hT1, rfl, rq_make (FoQ.den_ne r) (zr.2.mono (by decide)) (Rat.num_divInt_den r) fun p H3 np s3 hp => ⟨rfl, made H1 (n + 1) hB1 (Nat.le_refl _) b1 (b1 _ _ ha na) p H3 s3 hp⟩⟩
    | false =>
      refine iteF ?_
      refine ⟨_, rfl, _, _, _, _, rfl, rfl, hT, rfl, _, rfl, _, _, _, _, rfl, rfl, hT, rfl, rq_make (FoQ.den_ne r) (zr.2.mono (by decide)) (Rat.num_divInt_den r) fun p H3 np s3 hp => ⟨rfl, made H n hB (Nat.le_succ _) (But.refl b H) ha p H3 s3 hp⟩⟩
theorem ok_told (T : Tx K mg) : FnOk P w K mg base CX0 3 (He.ga K "_law_told") T.fd_told ["_law_amount"] (spTold K) := by
  refine T.F_told.ok sc_told (fun vs H Q E h => ?_) (fun cdv A outer s H vs Q E hr h => ?_)
  · obtain ⟨a, r, rfl, _⟩ := h
    rfl
  · obtain ⟨a, r, rfl, ha, q⟩ := h
    obtain ⟨dx, ha'⟩ := id ha
    refine ⟨_, (pss_one (ps_ret (pe_tup (pa_cons (pe_prop (pv 0) T.cl_R T.p_top (ok_topQ T) (hr.mono (by decide)) T.b_Ratio_top .nil pass0 (by rfl)) (pa_cons (pe_prop (pv 0) T.cl_R T.p_bottom (ok_bottomQ T) (hr.mono (by decide)) T.b_Ratio_bottom .nil pass0 (by rfl)) pa_nil))))), ?_⟩
    exact ⟨_, rfl, a, dx, _, rfl, ha', a, r, rfl, ha, _, rfl, a, dx, _, rfl, ha', a, r, rfl, ha, (by show 2 ≤ sizeLine; rw [sizeLine_eq]; decide), q⟩
end

end Fo

set_option maxHeartbeats 4100000
namespace Fo
open PySem PySem.Spec PyProof.Rows L2
/-! ### lists of the law -/
def spLTrim (K : PySem.W.Frag) : Sp := fun vs H Q _ => ∃ (a : Addr) (ws : List V) (l : List Rat), vs = [.ref a] ∧ SqL K H a ws ∧ Ls Rq H ws l ∧ l.length ≤ 1000 ∧ ∀ p H', H p = none → Same H H' → H' p = some (.lst (ws.take (FoQ.trim l).length)) → Q (.ref p) H'
/-- a list of fractions as a value that is compared -/
def tq (r : Rat) : PyData := .tuple [.int r.num, .int r.den]
theorem dp_q {K : PySem.W.Frag} {H : Hp} {a : Addr} {r : Rat} (h : FrQ H a r) : Dp K H (.ref a) (tq r) := .tup (SqT.of h) (.cons (.int _) (.cons (.int _) .nil))
theorem dp_all {K : PySem.W.Frag} {H : Hp} : ∀ {ws : List V} {l : List Rat}, Ls Rq H ws l → DpAll K H ws (l.map tq)
  | [], l, h => by
    have e : l = [] := List.length_eq_zero_iff.mp h.1.symm
    subst e
    exact .nil
  | v :: ws, [], h => absurd h.1 (by simp)
  | v :: ws, x :: l, h => by
    obtain ⟨a, rfl, ha⟩ := h.2 0 v rfl
    rw [FoQ.co_zero] at ha
    exact .cons (dp_q ha) (dp_all ⟨by have := h.1; simpa using this, fun i w e => by have := h.2 (i + 1) w e; rwa [FoQ.co_succ] at this⟩)
theorem dp_ls {K : PySem.W.Frag} {H : Hp} {a : Addr} {ws : List V} {l : List Rat} (h : H a = some (.lst ws)) (g : Ls Rq H ws l) : Dp K H (.ref a) (.list (l.map tq)) := .lst (SqL.of h) (dp_all g)
theorem eqv2 (u d v e : Int) : PyData.eqv (.tuple [.int u, .int d]) (.tuple [.int v, .int e]) = (decide (u = v) && decide (d = e)) := by
  show ((u == v) && ((d == e) && true)) = _
  rw [Bool.and_true]
  by_cases h1 : u = v <;> by_cases h2 : d = e <;> simp [h1, h2]
theorem tq_eqv (x z : Rat) : PyData.eqv (tq x) (tq z) = decide (x = z) := by
  rw [← eq_bool]
  exact eqv2 _ _ _ _
theorem all_lay : ∀ l : List Rat, PyData.canLayAll0 (l.map tq) = true ∧ PyData.depthAll (l.map tq) ≤ 1
  | [] => ⟨rfl, by decide⟩
  | x :: l => by
    obtain ⟨h1, h2⟩ := all_lay l
    refine ⟨?_, ?_⟩
    · show (PyData.canLay0 (tq x) && PyData.canLayAll0 (l.map tq)) = true
      rw [h1]
      rfl
    · show max (PyData.depth (tq x)) (PyData.depthAll (l.map tq)) ≤ 1
      exact Nat.max_le.mpr ⟨Nat.le_refl 1, h2⟩
theorem ls_shaped (l : List Rat) : SeqAt.shaped (.list (l.map tq)) = true := by
  obtain ⟨h1, h2⟩ := all_lay l
  show (PyData.canLayAll0 (l.map tq) && decide (PyData.depthAll (l.map tq) + 1 ≤ 64)) = true
  rw [h1, decide_eq_true (by omega)]
  rfl
theorem ls_eqv : ∀ l m : List Rat, PyData.eqv (.list (l.map tq)) (.list (m.map tq)) = decide (l = m)
  | [], [] => rfl
  | [], _ :: _ => rfl
  | _ :: _, [] => rfl
  | x :: l, z :: m => by
    have h := ls_eqv l m
    show (PyData.eqv (tq x) (tq z) && PyData.eqv (.list (l.map tq)) (.list (m.map tq))) = _
    rw [h, tq_eqv]
    by_cases e1 : x = z <;> by_cases e2 : l = m <;> simp [e1, e2]
theorem atI_last {ws : List V} (h : ws ≠ []) {v : V} (e : ws[ws.length - 1]? = some v) : atI ws (-1) = some v := by
  have n : 0 < ws.length := List.length_pos_iff.mpr h
  unfold atI
  have z : ixN ws.length (-1) = some (ws.length - 1) := by
    unfold ixN
    rw [if_neg (by decide), if_pos (by omega)]
    congr 1
    omega
  rw [z]
  exact e
section
variable {P : Program} {w : World} {K : PySem.W.Frag} {mg : Str → Option Value} {base : Heap}
theorem ok_termsL (T : Tx K mg) : FnOk P w K mg base CX0 4 (He.ga K "_law_terms") T.fd_terms ["_law_poly"] (spTermsL K) := by
  refine T.F_terms.ok sc_terms (fun vs H Q E h => ?_) (fun cdv A outer s H vs Q E hr h => ?_)
  · obtain ⟨a, l, rfl, _⟩ := h
    rfl
  · obtain ⟨a, l, rfl, ha, hl, q⟩ := h
    obtain ⟨dx, t, ts, e1, e2, e3⟩ := id ha
    refine ⟨_, (pss_one (ps_ret (pe_lc (own := [("_law_term", 1)]) (g := gName 1) rfl sc_terms.nd (pi_list (pe_meth0 (pv 0) T.cl_P T.mP_terms (ok_Pterms T) (hr.mono (by decide)) T.b_Polynomial_terms .nil pass0)) (blkOk_by (own := [("_law_term", 1)]) (N := ["_law_poly", "_law_term"]) (sc := defScope s_terms) (by decide +kernel)) (fun _ _ _ _ _ => (pg_name (i := 1) sc_terms.nd rfl (.inl rfl))) (fun _ _ _ _ _ => pts_nil) (fun _ _ _ _ _ => (pe_tup (pa_cons (pe_prop (pv 1) T.cl_R T.p_top (ok_topQ T) (hr.mono (by decide)) T.b_Ratio_top .nil pass0 (by rfl)) (pa_cons (pe_prop (pv 1) T.cl_R T.p_bottom (ok_bottomQ T) (hr.mono (by decide)) T.b_Ratio_bottom .nil pass0 (by rfl)) pa_nil))))))), ?_⟩
    refine ⟨_, rfl, a, dx, _, rfl, e1, pf_no _ (by decide +kernel), a, l, rfl, ha, fun p1 H1 ws n1 s1 h1 g1 => ?_⟩
    refine ⟨p1, rfl, ⟨_, SqL.of h1⟩, fun D nD => ?_⟩
    refine lc_list (LInv (fun j => Rq (FoQ.co l j)) H1 D) (LInv.start nD) (fun i H2 hi h => SqL.of (h.1 _ _ h1)) (fun i v H2 ex h => ?_) (fun H2 h => ?_)
    · obtain ⟨b, rfl, hb⟩ := g1.2 i v ex
      have hi := (List.getElem?_eq_some_iff.mp ex).1
      rw [g1.1] at hi
      have hb2 := hb.same h.1
      obtain ⟨d1, h2⟩ := id hb2
      exact ⟨rfl, _, rfl, b, d1, _, rfl, h2, b, _, rfl, hb2, _, rfl, b, d1, _, rfl, h2, b, _, rfl, hb2, (by show 2 ≤ sizeLine; rw [sizeLine_eq]; decide), fun p np => h.next (fun j => rq_solid _) nD (Same.upd np) ⟨p, rfl, upd_same⟩ (by omega)⟩
    · obtain ⟨s2, us, e, el, hu⟩ := h
      exact q D H2 us (s1.free nD) (s1.trans s2) e ⟨by rw [el, g1.1], hu⟩
theorem ok_atL (T : Tx K mg) : FnOk P w K mg base CX0 3 (He.ga K "_law_at") T.fd_at ["_law_terms_here", "_law_x"] (spAtL K) := by
  refine T.F_at.ok sc_at (fun vs H Q E h => ?_) (fun cdv A outer s H vs Q E hr h => ?_)
  · obtain ⟨a, b, ws, l, x, rfl, _⟩ := h
    rfl
  · obtain ⟨a, b, ws, l, x, rfl, hS, hL, hx, zl, zx, ll, q⟩ := h
    refine ⟨_, (pss_cons (ps_set (i := 2) sc_at.nd rfl (.inl rfl) (pe_tup (pa_cons pe_int (pa_cons pe_int pa_nil))))
      (pss_cons (ps_for PassesOwn.never rfl (pi_list (FoV.pe_revL (pv 0) (pe_un un_neg pe_int))) (pg_name (i := 3) sc_at.nd rfl (.inl rfl)) (pss_one (ps_set (i := 2) sc_at.nd rfl (.inl rfl) (pe_call (ok_plusQ T) (hr.mono (by decide)) (by rfl) T.g_plus T.F_plus.kp T.b_plus .nil pass0 (pa_cons (pe_call (ok_timesQ T) (hr.mono (by decide)) (by rfl) T.g_times T.F_times.kp T.b_times .nil pass0 (pa_cons (pv 2) (pa_cons (pv 1) pa_nil))) (pa_cons (pv 3) pa_nil))))))
      (pss_one (ps_ret (pv 2))))), ?_⟩
    refine ⟨(by show 2 ≤ sizeLine; rw [sizeLine_eq]; decide), fun t0 nt0 => ?_⟩
    have s0 := Same.upd nt0 (o := .tup [.int 0, .int 1])
    refine ⟨_, rfl, _, rfl, rfl, a, ws, rfl, sqL_sm hS s0, fun p1 n1 => ?_⟩
    have s1 := s0.trans (Same.upd n1 (o := .lst ws.reverse))
    refine ⟨p1, rfl, ⟨_, SqL.of upd_same⟩, ?_⟩
    have q0 : (HO.tup [V.int 0, V.int 1]) = qt 0 := rfl
    refine for_list (xs := ws.reverse) (fun i σ H' => Same (upd (upd H t0 (.tup [.int 0, .int 1])) p1 (.lst ws.reverse)) H' ∧ ∃ f o, σ = [some (.ref a), some (.ref b), some (.ref f), o] ∧ FrQ H' f (FoQ.hor x (l.drop (l.length - i)))) ⟨Same.refl _, t0, _, rfl, ?_⟩ (fun i σ H' _ h => SqL.of (h.1 _ _ upd_same)) ?_ ?_
    · rw [Nat.sub_zero, List.drop_length]
      show upd _ p1 _ t0 = some (qt 0)
      rw [upd_ne (ne_of_none upd_same n1), upd_same, q0]
    · rintro i v σ H' ev ⟨s2, f, o, rfl, hf⟩
      have hi := (List.getElem?_eq_some_iff.mp ev).1
      rw [List.length_reverse, hL.1] at hi
      rw [List.getElem?_reverse (by rw [hL.1]; exact hi), hL.1] at ev
      obtain ⟨c, rfl, hc⟩ := (hL.nl rq_solid (same_nl (s1.trans s2))).2 _ _ ev
      have zv := (FoQ.hor_sz zl zx i (by omega)).mono (show (40 + 40 + 1) * i + 1 ≤ 1640 by omega)
      refine ⟨_, rfl, _, rfl, f, b, _, _, rfl, hf, hx.same (s1.trans s2), zv.mono (by decide), zx.mono (by decide), fun p3 n3 => ?_⟩
      have s3 := Same.upd n3 (o := qt (FoQ.hor x (l.drop (l.length - i)) * x))
      refine ⟨_, rfl, p3, c, _, _, rfl, upd_same, hc.same s3, (zv.mul zx).mono (by decide), (zl _).mono (by decide), fun p4 n4 => ?_⟩
      refine ⟨s2.trans (s3.trans (Same.upd n4)), p4, _, rfl, ?_⟩
      rw [FoQ.hor_drop (l := l) (i := l.length - (i + 1)) (by omega), show l.length - (i + 1) + 1 = l.length - i by omega, show l.length - (i + 1) = l.length - 1 - i by omega]
      exact upd_same
    · rintro σ H' ⟨s2, f, o, rfl, hf⟩
      rw [List.length_reverse, hL.1, Nat.sub_self, List.drop_zero] at hf
      exact ⟨_, rfl, q f H' (s1.trans s2) hf⟩
theorem ok_trimL (T : Tx K mg) : FnOk P w K mg base CX0 1 (He.ga K "_law_trimmed") T.fd_q_trimmed ["_law_terms_here"] (spLTrim K) := by
  refine T.F_q_trimmed.ok sc_q_trimmed (fun vs H Q E h => ?_) (fun cdv A outer s H vs Q E hr h => ?_)
  · obtain ⟨a, ws, l, rfl, _⟩ := h
    rfl
  · obtain ⟨a, ws, l, rfl, hS, hL, ll, q⟩ := h
    refine ⟨_, (pss_cons (ps_set (i := 1) sc_q_trimmed.nd rfl (.inl rfl) (pe_callTy call_list_of (by rfl) T.z_list (by decide +kernel) (pa_cons (pv 0) pa_nil)))
      (pss_cons (ps_while PassesOwn.never (PW.pt (pw_and (pt_cmpR (op_neD hr.units) (pv 1) (pe_lst pa_nil) (nomark _)) (pw_and1 (pt_cmpR (op_eqD hr.units) (pe_ix ix_list (pv 1) (pe_un un_neg pe_int) (fun _ _ => rfl)) (pe_tup (pa_cons pe_int (pa_cons pe_int pa_nil))) (nomark _))))) (pss_one (ps_expr (pe_bm0 PySem.F.plainAttrs_list PySem.F.slot_list_pop PySem.F.type_list_pop mt_pop (pv 1)))))
      (pss_one (ps_ret (pv 1))))), ?_⟩
    refine ⟨_, rfl, a, ws, rfl, .inl hS, fun D nD => ?_⟩
    refine ⟨fun k σ H' => Same H H' ∧ k ≤ l.length ∧ σ = [some (.ref a), some (.ref D)] ∧ H' D = some (.lst (ws.take k)) ∧ ∀ n, k ≤ n → FoQ.co l n = 0, ⟨l.length, Same.upd nD, Nat.le_refl _, rfl, by rw [← hL.1, List.take_length]; exact upd_same, fun n hn => FoQ.co_ge hn⟩, ?_⟩
    rintro k σ H2 ⟨s2, hk, rfl, hD, hz⟩
    have hL2 := hL.nl rq_solid (same_nl s2)
    have fin : ∀ H3, Same H2 H3 → (k = 0 ∨ FoQ.co l (k - 1) ≠ 0) → Q (.ref D) H3 := fun H3 s3 h => by
      refine q D H3 nD (s2.trans s3) ?_
      rw [FoQ.trim_take hk hz h, List.length_take, Nat.min_eq_left hk]
      exact s3 _ _ hD
    refine ⟨_, rfl, (by show 0 ≤ sizeLine; rw [sizeLine_eq]; decide), fun p1 n1 => ?_⟩
    have s3 := Same.upd n1 (o := .lst [])
    refine ⟨_, _, dp_ls (s3 _ _ hD) ((hL2.take k).nl rq_solid (same_nl s3)), .lst (SqL.of upd_same) .nil, ls_shaped _, rfl, _, rfl, ?_⟩
    have ev : PyData.eqv (.list ((l.take k).map tq)) (.list []) = decide (k = 0) := by
      have := ls_eqv (l.take k) []
      rw [List.map_nil] at this
      rw [this]
      by_cases c : k = 0
      · subst c
        simp
      · rw [decide_eq_false c, decide_eq_false]
        intro z
        have := congrArg List.length z
        rw [List.length_take, List.length_nil] at this
        omega
    rw [ev]
    by_cases c : k = 0
    · rw [decide_eq_true c]
      exact iteF ⟨_, rfl, fin _ s3 (.inl c)⟩
    · rw [decide_eq_false c]
      refine iteT ?_
      obtain ⟨v, evk, t, rfl, ht⟩ := hL2.at_ (i := k - 1) (by omega)
      have evk' : (ws.take k)[(ws.take k).length - 1]? = some (V.ref t) := by
        have e1 : (ws.take k).length = k := by rw [List.length_take, hL.1, Nat.min_eq_left hk]
        rw [e1, List.getElem?_take, if_pos (by omega)]
        exact evk
      have nn : ws.take k ≠ [] := fun z => by
        rw [z] at evk'
        cases evk'
      refine ⟨_, rfl, _, rfl, D, _, _, _, rfl, rfl, SqL.of (s3 _ _ hD), atI_last nn evk', ?_⟩
      refine ⟨(by show 2 ≤ sizeLine; rw [sizeLine_eq]; decide), fun p2 n2 => ?_⟩
      have s4 := s3.trans (Same.upd n2 (o := .tup [.int 0, .int 1]))
      refine ⟨_, _, dp_q (ht.same s4), .tup (SqT.of upd_same) (.cons (.int 0) (.cons (.int 1) .nil)), rfl, rfl, _, rfl, ?_⟩
      have ev2 : PyData.eqv (tq (FoQ.co l (k - 1))) (.tuple [.int 0, .int 1]) = decide (FoQ.co l (k - 1) = 0) := tq_eqv _ 0
      rw [ev2]
      by_cases c2 : FoQ.co l (k - 1) = 0
      · rw [decide_eq_true c2]
        refine iteT ⟨fun σ' H' => σ' = [some (.ref a), some (.ref D)] ∧ Same H H' ∧ H' D = some (.lst (ws.take (k - 1))), fun σ' H' h => ?_, ?_⟩
        · obtain ⟨rfl, h1, h2⟩ := h
          refine ⟨k - 1, by omega, h1, by omega, rfl, h2, fun n hn => ?_⟩
          by_cases c3 : n = k - 1
          · rw [c3]
            exact c2
          · exact hz n (by omega)
        · have hD4 := s4 _ _ hD
          refine ⟨_, rfl, .inl ⟨rfl, _, SqL.of hD4⟩, D, _, _, rfl, rfl, hD4, evk', rfl, same_set (s2.trans s4) nD, ?_⟩
          rw [upd_same]
          congr 2
          rw [List.dropLast_eq_take, List.length_take, List.take_take, hL.1]
          congr 1
          omega
      · rw [decide_eq_false c2]
        exact iteF ⟨_, rfl, fin _ s4 (.inr c2)⟩
end

end Fo

set_option maxHeartbeats 4100000
namespace Fo
open PySem PySem.Spec PyProof.Rows L2
/-! ### sums and products of the law -/
theorem S_sz {n m : Nat} {f g : Nat → Rat} (hf : ∀ i, FoQ.SzR n (f i)) (hg : ∀ i, FoQ.SzR m (g i)) : ∀ j k, FoQ.SzR ((n + m + 1) * j + 1) (FoQ.S f g j k)
  | 0, _ => FoQ.SzR.zero (by omega)
  | j + 1, k => by
    show FoQ.SzR _ (FoQ.S f g j k + (if j ≤ k then f j * g (k - j) else 0))
    have h1 := S_sz hf hg j k
    have h2 : FoQ.SzR (n + m) (if j ≤ k then f j * g (k - j) else 0) := by
      split
      · exact (hf j).mul (hg (k - j))
      · by_cases z : n + m = 0
        · exfalso
          have := (hf 0).2
          have e : n = 0 := by omega
          subst e
          unfold FoM.Sz at this
          have := FoQ.den_pos (f 0)
          omega
        · exact FoQ.SzR.zero (by omega)
    exact (h1.add h2).mono (by rw [Nat.mul_add]; omega)
theorem SP_sz {n m : Nat} {f g : Nat → Rat} (hf : ∀ i, FoQ.SzR n (f i)) (hg : ∀ i, FoQ.SzR m (g i)) (nm : 0 < n + m) (j k i : Nat) : FoQ.SzR ((n + m + 1) * (j + 1) + 1) (FoQ.SP f g j k i) := by
  unfold FoQ.SP
  have h2 : FoQ.SzR (n + m) (if j ≤ i ∧ i - j < k then f j * g (i - j) else 0) := by
    split
    · exact (hf j).mul (hg _)
    · exact FoQ.SzR.zero nm
  exact ((S_sz hf hg j i).add h2).mono (by rw [Nat.mul_add]; omega)
theorem rep_flat (k : Nat) (v : V) : (List.replicate k [v]).flatten = List.replicate k v := by
  induction k with
  | zero => rfl
  | succ k ih => rw [List.replicate_succ, List.flatten_cons, ih, List.replicate_succ]; rfl
theorem co_pad (l : List Rat) (k n : Nat) : FoQ.co (l ++ List.replicate k 0) n = FoQ.co l n := by
  unfold FoQ.co
  rw [List.getD_eq_getElem?_getD, List.getD_eq_getElem?_getD, List.getElem?_append]
  split
  · rfl
  · rename_i h
    rw [List.getElem?_eq_none (by omega : l.length ≤ n), List.getElem?_replicate]
    split <;> rfl
theorem ls_pad {H : Hp} {ws : List V} {l : List Rat} {t : Addr} (h : Ls Rq H ws l) (ht : FrQ H t 0) (k : Nat) : Ls Rq H (ws ++ List.replicate k (.ref t)) (l ++ List.replicate k 0) := by
  refine ⟨by simp [h.1], fun i v e => ?_⟩
  rw [co_pad]
  rw [List.getElem?_append] at e
  split at e
  · exact h.2 i v e
  · rename_i c
    rw [List.getElem?_replicate] at e
    split at e
    · cases e
      rw [FoQ.co_ge (by rw [← h.1]; omega)]
      exact ⟨t, rfl, ht⟩
    · cases e
def spSumL (K : PySem.W.Frag) : Sp := fun vs H Q _ => ∃ (a b : Addr) (ws us : List V) (l m : List Rat), vs = [.ref a, .ref b] ∧ SqL K H a ws ∧ SqL K H b us ∧ Ls Rq H ws l ∧ Ls Rq H us m ∧ AllSz 900 l ∧ AllSz 900 m ∧ l.length ≤ 500 ∧ m.length ≤ 500 ∧
  ∀ p H' ts, H p = none → Same H H' → H' p = some (.lst ts) → Ls Rq H' ts (padd l m) → Q (.ref p) H'
def spProdL (K : PySem.W.Frag) : Sp := fun vs H Q _ => ∃ (a b : Addr) (ws us : List V) (l m : List Rat), vs = [.ref a, .ref b] ∧ SqL K H a ws ∧ SqL K H b us ∧ Ls Rq H ws l ∧ Ls Rq H us m ∧ AllSz 40 l ∧ AllSz 40 m ∧ l.length ≤ 18 ∧ m.length ≤ 18 ∧
  ∀ p H' ts, H p = none → Same H H' → H' p = some (.lst ts) → Ls Rq H' ts (FoQ.prod l m) → Q (.ref p) H'
theorem nat_if (x y : Nat) : (if decide ((y : Int) < (x : Int)) = true then (x : Int) else (y : Int)) = ((max x y : Nat) : Int) := by
  by_cases h : (y : Int) < (x : Int)
  · rw [decide_eq_true h, if_pos rfl]
    omega
  · rw [decide_eq_false h, if_neg Bool.false_ne_true]
    omega
section
variable {P : Program} {w : World} {K : PySem.W.Frag} {mg : Str → Option Value} {base : Heap}
theorem ok_sumL (T : Tx K mg) : FnOk P w K mg base CX0 3 (He.ga K "_law_sum") T.fd_sum ["_law_one", "_law_other"] (spSumL K) := by
  refine T.F_sum.ok sc_sum (fun vs H Q E h => ?_) (fun cdv A outer s H vs Q E hr h => ?_)
  · obtain ⟨a, b, ws, us, l, m, rfl, _⟩ := h
    rfl
  · obtain ⟨a, b, ws, us, l, m, rfl, hS, hU, hL, hM, zl, zm, ll, lm, q⟩ := h
    refine ⟨_, (pss_cons (ps_set (i := 2) sc_sum.nd rfl (.inl rfl) (pe_ifExp (pt_cmpR op_gt (pe_callB call_len_seq (by rfl) T.z_len PySem.boot_len (pa_cons (pv 0) pa_nil)) (pe_callB call_len_seq (by rfl) T.z_len PySem.boot_len (pa_cons (pv 1) pa_nil)) (nomark _)) (pe_callB call_len_seq (by rfl) T.z_len PySem.boot_len (pa_cons (pv 0) pa_nil)) (pe_callB call_len_seq (by rfl) T.z_len PySem.boot_len (pa_cons (pv 1) pa_nil))))
      (pss_cons (ps_set (i := 3) sc_sum.nd rfl (.inr rfl) (pe_op op_cat (pe_callTy call_list_of (by rfl) T.z_list (by decide +kernel) (pa_cons (pv 0) pa_nil)) (pe_op op_rep (pe_lst (pa_cons (pe_tup (pa_cons pe_int (pa_cons pe_int pa_nil))) pa_nil)) (pe_op op_sub (pv 2) (pe_callB call_len_seq (by rfl) T.z_len PySem.boot_len (pa_cons (pv 0) pa_nil))))))
      (pss_cons (ps_set (i := 4) sc_sum.nd rfl (.inr rfl) (pe_op op_cat (pe_callTy call_list_of (by rfl) T.z_list (by decide +kernel) (pa_cons (pv 1) pa_nil)) (pe_op op_rep (pe_lst (pa_cons (pe_tup (pa_cons pe_int (pa_cons pe_int pa_nil))) pa_nil)) (pe_op op_sub (pv 2) (pe_callB call_len_seq (by rfl) T.z_len PySem.boot_len (pa_cons (pv 1) pa_nil))))))
      (pss_one (ps_ret (pe_call (ok_trimL T) (hr.mono (by decide)) (by rfl) T.g_q_trimmed T.F_q_trimmed.kp T.b_q_trimmed .nil pass0 (pa_cons (pe_lc (own := [("_law_k", 5)]) (g := gName 5) rfl sc_sum.nd (pi_range1 (by rfl) T.z_range (pa_cons (pv 2) pa_nil)) (blkOk_by (own := [("_law_k", 5)]) (N := ["_law_one", "_law_other", "_law_size", "_law_left", "_law_right", "_law_k"]) (sc := defScope s_sum) (by decide +kernel)) (fun _ _ _ _ _ => (pg_name (i := 5) sc_sum.nd rfl (.inl rfl))) (fun _ _ _ _ _ => pts_nil) (fun _ _ _ _ _ => (pe_call (ok_plusQ T) (hr.mono (by decide)) (by rfl) T.g_plus T.F_plus.kp T.b_plus .nil pass0 (pa_cons (pe_ix (FoK.ix_listK (K' := K) rfl) (pv 3) (pv 5) (fun _ _ => rfl)) (pa_cons (pe_ix (FoK.ix_listK (K' := K) rfl) (pv 4) (pv 5) (fun _ _ => rfl)) pa_nil))))) pa_nil))))))), ?_⟩
    dsimp only
    refine gen_s (C := fun v H' => v = .int ((max l.length m.length : Nat) : Int) ∧ H = H') (fun Q' rest => ?_) ?_
    · refine ⟨_, rfl, a, _, rfl, .inl hS, _, rfl, b, _, rfl, .inl hU, _, _, rfl, rfl, _, rfl, ite2 (fun e => ?_) (fun e => ?_)⟩
      · refine ⟨_, rfl, a, _, rfl, .inl hS, rest _ _ ⟨?_, rfl⟩⟩
        have := of_decide_eq_true e
        rw [hL.1, hM.1] at this
        rw [hL.1]
        congr 1
        omega
      · refine ⟨_, rfl, b, _, rfl, .inl hU, rest _ _ ⟨?_, rfl⟩⟩
        have := of_decide_eq_false (Bool.eq_false_iff.mpr e)
        rw [hL.1, hM.1] at this
        rw [hM.1]
        congr 1
        omega
    rintro _ _ ⟨rfl, rfl⟩
    have e0 := Same.refl H
    -- the one list, padded
    refine ⟨_, rfl, a, _, rfl, .inl (sqL_sm hS (Same.refl _)), fun xp nxp => ?_⟩
    have x1 := Same.upd nxp (o := .lst ws)
    refine ⟨(by show 2 ≤ sizeLine; rw [sizeLine_eq]; decide), fun xt nxt => ⟨(by show 1 ≤ sizeLine; rw [sizeLine_eq]; decide), fun xq nxq => ?_⟩⟩
    have x2 := Same.upd nxt (o := .tup [.int 0, .int 1])
    have x3 := Same.upd nxq (o := .lst [.ref xt])
    have x13 := (Same.refl _).trans (x1.trans (x2.trans x3))
    refine ⟨_, rfl, _, rfl, a, _, rfl, .inl (sqL_sm hS x13), _, _, rfl, rfl, ?_⟩
    refine ⟨xq, ((max l.length m.length - l.length : Nat) : Int), _, rfl, ?_, upd_same, by omega, by omega, ?_, fun xr nxr => ?_⟩
    · show V.int (((max l.length m.length : Nat) : Int) - (ws.length : Int)) = _
      rw [hL.1]
      congr 1
      omega
    · rw [sizeLine_eq, Int.toNat_natCast]
      show 1 * _ ≤ _
      omega
    rw [Int.toNat_natCast, rep_flat]
    have x4 := Same.upd nxr (o := .lst (List.replicate (max l.length m.length - l.length) (.ref xt)))
    refine ⟨xp, xr, _, _, rfl, rfl, ((x2.trans x3).trans x4) _ _ upd_same, upd_same, (by rw [sizeLine_eq, hL.1, List.length_replicate]; omega), fun xu nxu => ?_⟩
    have x5 := Same.upd nxu (o := .lst (ws ++ List.replicate (max l.length m.length - l.length) (.ref xt)))
    have x15 := x13.trans (x4.trans x5)
    have xL := ls_pad (hL.nl rq_solid (same_nl x15)) (show FrQ _ xt 0 from ((x3.trans x4).trans x5) _ _ upd_same) (max l.length m.length - l.length)
    -- the other list, padded
    refine ⟨_, rfl, b, _, rfl, .inl (sqL_sm hU x15), fun yp nyp => ?_⟩
    have y1 := Same.upd nyp (o := .lst us)
    refine ⟨(by show 2 ≤ sizeLine; rw [sizeLine_eq]; decide), fun yt nyt => ⟨(by show 1 ≤ sizeLine; rw [sizeLine_eq]; decide), fun yq nyq => ?_⟩⟩
    have y2 := Same.upd nyt (o := .tup [.int 0, .int 1])
    have y3 := Same.upd nyq (o := .lst [.ref yt])
    have y13 := x15.trans (y1.trans (y2.trans y3))
    refine ⟨_, rfl, _, rfl, b, _, rfl, .inl (sqL_sm hU y13), _, _, rfl, rfl, ?_⟩
    refine ⟨yq, ((max l.length m.length - m.length : Nat) : Int), _, rfl, ?_, upd_same, by omega, by omega, ?_, fun yr nyr => ?_⟩
    · show V.int (((max l.length m.length : Nat) : Int) - (us.length : Int)) = _
      rw [hM.1]
      congr 1
      omega
    · rw [sizeLine_eq, Int.toNat_natCast]
      show 1 * _ ≤ _
      omega
    rw [Int.toNat_natCast, rep_flat]
    have y4 := Same.upd nyr (o := .lst (List.replicate (max l.length m.length - m.length) (.ref yt)))
    refine ⟨yp, yr, _, _, rfl, rfl, ((y2.trans y3).trans y4) _ _ upd_same, upd_same, (by rw [sizeLine_eq, hM.1, List.length_replicate]; omega), fun yu nyu => ?_⟩
    have y5 := Same.upd nyu (o := .lst (us ++ List.replicate (max l.length m.length - m.length) (.ref yt)))
    have y15 := y13.trans (y4.trans y5)
    have yL := ls_pad (hM.nl rq_solid (same_nl y15)) (show FrQ _ yt 0 from ((y3.trans y4).trans y5) _ _ upd_same) (max l.length m.length - m.length)
    have cL : ∀ n, FoQ.co (l ++ List.replicate (max l.length m.length - l.length) 0) n = FoQ.co l n := co_pad l _
    have cM : ∀ n, FoQ.co (m ++ List.replicate (max l.length m.length - m.length) 0) n = FoQ.co m n := co_pad m _
    have lenL : (ws ++ List.replicate (max l.length m.length - l.length) (V.ref xt)).length = max l.length m.length := by
      rw [List.length_append, List.length_replicate, hL.1]
      omega
    have lenM : (us ++ List.replicate (max l.length m.length - m.length) (V.ref yt)).length = max l.length m.length := by
      rw [List.length_append, List.length_replicate, hM.1]
      omega
    have xu' := (y1.trans (y2.trans (y3.trans (y4.trans y5)))) _ _ (upd_same (H := upd (upd (upd (upd H xp (.lst ws)) xt (.tup [.int 0, .int 1])) xq (.lst [.ref xt])) xr (.lst (List.replicate (max l.length m.length - l.length) (.ref xt)))) (a := xu) (o := .lst (ws ++ List.replicate (max l.length m.length - l.length) (.ref xt))))
    have xL' := xL.nl rq_solid (same_nl (y1.trans (y2.trans (y3.trans (y4.trans y5)))))
    have s15 := y15
    have yu' : upd (upd (upd (upd (upd (upd (upd (upd (upd (upd H xp (.lst ws)) xt (.tup [.int 0, .int 1])) xq (.lst [.ref xt])) xr (.lst (List.replicate (max l.length m.length - l.length) (.ref xt)))) xu (.lst (ws ++ List.replicate (max l.length m.length - l.length) (.ref xt)))) yp (.lst us)) yt (.tup [.int 0, .int 1])) yq (.lst [.ref yt])) yr (.lst (List.replicate (max l.length m.length - m.length) (.ref yt)))) yu (.lst (us ++ List.replicate (max l.length m.length - m.length) (.ref yt))) yu = some (.lst (us ++ List.replicate (max l.length m.length - m.length) (.ref yt))) := upd_same
    clear y15 x15 x13 x1 x2 x3 x4 x5 y1 y2 y3 y4 y5 y13 xL
    revert s15 xu' xL' yL yu'
    generalize upd _ yu _ = H5
    intro yL xu' xL' s15 yu'
    refine ⟨_, rfl, _, rfl, by omega, by omega, fun D nD => ?_⟩
    refine lc_range (LInv (fun j => Rq (FoQ.co l j + FoQ.co m j)) H5 D) (LInv.start nD) (fun i H2 hi h => ?_) (fun H2 h => ?_)
    · have hi' : i < max l.length m.length := by omega
      obtain ⟨_, ex, c1, rfl, g1⟩ := xL'.at_ (i := i) (by rw [List.length_append, List.length_replicate]; omega)
      obtain ⟨_, ey, c2, rfl, g2⟩ := yL.at_ (i := i) (by rw [List.length_append, List.length_replicate]; omega)
      rw [cL] at g1
      rw [cM] at g2
      have s0 := h.1
      refine ⟨rfl, _, rfl, _, rfl, xu, _, _, _, rfl, rfl, SqL.of (s0 _ _ xu'), by show atI _ (0 + (i : Int)) = _; rw [Int.zero_add]; exact atI_nat ex, ?_⟩
      refine ⟨_, rfl, _, rfl, yu, _, _, _, rfl, rfl, SqL.of (s0 _ _ yu'), by show atI _ (0 + (i : Int)) = _; rw [Int.zero_add]; exact atI_nat ey, ?_⟩
      exact ⟨c1, c2, _, _, rfl, g1.same s0, g2.same s0, (zl i).mono (by decide), (zm i).mono (by decide), fun p np => h.next (fun j => rq_solid _) nD (Same.upd np) ⟨p, rfl, upd_same⟩ (by omega)⟩
    · obtain ⟨s2, vs, ev, el, hv⟩ := h
      have hV : Ls Rq H2 vs ((List.range (max l.length m.length)).map fun i => FoQ.co l i + FoQ.co m i) := ⟨by rw [el]; simp, fun j v e => by
        have hj := (List.getElem?_eq_some_iff.mp e).1
        rw [FoQ.co_map, if_pos (by omega)]
        exact hv j v e⟩
      refine ⟨D, vs, _, rfl, SqL.of ev, hV, by simp; omega, fun p H3 np s3 e => ?_⟩
      have lt := hV.nl rq_solid (same_nl s3)
      refine q p H3 _ ((s15.trans s2).free np) ((s15.trans s2).trans s3) e ?_
      have e2 := lt.take (FoQ.trim ((List.range (max l.length m.length)).map fun i => FoQ.co l i + FoQ.co m i)).length
      rw [← FoQ.trim_eq] at e2
      exact e2
theorem ok_prodL (T : Tx K mg) : FnOk P w K mg base CX0 3 (He.ga K "_law_product") T.fd_product ["_law_one", "_law_other"] (spProdL K) := by
  refine T.F_product.ok sc_product (fun vs H Q E h => ?_) (fun cdv A outer s H vs Q E hr h => ?_)
  · obtain ⟨a, b, ws, us, l, m, rfl, _⟩ := h
    rfl
  · obtain ⟨a, b, ws, us, l, m, rfl, hS, hU, hL, hM, zl, zm, ll, lm, q⟩ := h
    refine ⟨_, (pss_cons (ps_set (i := 2) sc_product.nd rfl (.inl rfl) (pe_op op_rep (pe_lst (pa_cons (pe_tup (pa_cons pe_int (pa_cons pe_int pa_nil))) pa_nil)) (pe_op op_add (pe_callB call_len_seq (by rfl) T.z_len PySem.boot_len (pa_cons (pv 0) pa_nil)) (pe_callB call_len_seq (by rfl) T.z_len PySem.boot_len (pa_cons (pv 1) pa_nil)))))
      (pss_cons (ps_for PassesOwn.never rfl (pi_range1 (by rfl) T.z_range (pa_cons (pe_callB call_len_seq (by rfl) T.z_len PySem.boot_len (pa_cons (pv 0) pa_nil)) pa_nil)) (pg_name (i := 3) sc_product.nd rfl (.inl rfl)) (pss_one (ps_for PassesOwn.never rfl (pi_range1 (by rfl) T.z_range (pa_cons (pe_callB call_len_seq (by rfl) T.z_len PySem.boot_len (pa_cons (pv 1) pa_nil)) pa_nil)) (pg_name (i := 4) sc_product.nd rfl (.inl rfl)) (pss_one (ps_asg (pe_call (ok_plusQ T) (hr.mono (by decide)) (by rfl) T.g_plus T.F_plus.kp T.b_plus .nil pass0 (pa_cons (pe_ix ix_list (pv 2) (pe_op op_add (pv 3) (pv 4)) (fun _ _ => rfl)) (pa_cons (pe_call (ok_timesQ T) (hr.mono (by decide)) (by rfl) T.g_times T.F_times.kp T.b_times .nil pass0 (pa_cons (pe_ix ix_list (pv 0) (pv 3) (fun _ _ => rfl)) (pa_cons (pe_ix ix_list (pv 1) (pv 4) (fun _ _ => rfl)) pa_nil))) pa_nil))) (pg_sub (pv 2) (pe_op op_add (pv 3) (pv 4)) set_list))))))
      (pss_one (ps_ret (pe_call (ok_trimL T) (hr.mono (by decide)) (by rfl) T.g_q_trimmed T.F_q_trimmed.kp T.b_q_trimmed .nil pass0 (pa_cons (pv 2) pa_nil)))))), ?_⟩
    refine ⟨(by show 2 ≤ sizeLine; rw [sizeLine_eq]; decide), fun t0 nt0 => ⟨(by show 1 ≤ sizeLine; rw [sizeLine_eq]; decide), fun q0 nq0 => ?_⟩⟩
    have s1 := (Same.upd nt0 (o := .tup [.int 0, .int 1])).trans (Same.upd nq0 (o := .lst [.ref t0]))
    refine ⟨_, rfl, a, _, rfl, .inl (sqL_sm hS s1), _, rfl, b, _, rfl, .inl (sqL_sm hU s1), _, _, rfl, rfl, ?_⟩
    refine ⟨q0, ((l.length + m.length : Nat) : Int), _, rfl, ?_, upd_same, by omega, by omega, ?_, fun D nD => ?_⟩
    · show V.int ((ws.length : Int) + (us.length : Int)) = _
      rw [hL.1, hM.1]
      congr 1
    · rw [sizeLine_eq, Int.toNat_natCast]
      show 1 * _ ≤ _
      omega
    rw [Int.toNat_natCast, rep_flat]
    have nDH : H D = none := s1.free nD
    have s2 := s1.trans (Same.upd nD (o := .lst (List.replicate (l.length + m.length) (.ref t0))))
    have ft : FrQ (upd (upd (upd H t0 (.tup [.int 0, .int 1])) q0 (.lst [.ref t0])) D (.lst (List.replicate (l.length + m.length) (.ref t0)))) t0 0 := ((Same.upd nq0 (o := .lst [.ref t0])).trans (Same.upd nD)) _ _ upd_same
    refine ⟨_, rfl, a, _, rfl, .inl (sqL_sm hS s2), _, rfl, by rw [hL.1]; omega, by rw [hL.1]; omega, ?_⟩
    refine for_range (fun j σ H' => Same H H' ∧ ∃ vs o1 o2, σ = [some (.ref a), some (.ref b), some (.ref D), o1, o2] ∧ H' D = some (.lst vs) ∧ vs.length = l.length + m.length ∧ ∀ n v, vs[n]? = some v → Rq (FoQ.S (FoQ.co l) (FoQ.co m) j n) H' v) ?_ ?_ ?_
    · refine ⟨s2, _, _, _, rfl, upd_same, by simp, fun n v e => ?_⟩
      rw [List.getElem?_replicate] at e
      split at e
      · cases e
        exact ⟨t0, rfl, ft⟩
      · cases e
    · rintro j σ H3 hj ⟨s3, vs, o1, o2, rfl, hD, lv, hv⟩
      rw [hL.1, Int.toNat_natCast] at hj
      refine ⟨_, rfl, b, _, rfl, .inl (sqL_sm hU s3), _, rfl, by rw [hM.1]; omega, by rw [hM.1]; omega, ?_⟩
      refine for_range (fun k σ H' => Same H H' ∧ ∃ vs o2, σ = [some (.ref a), some (.ref b), some (.ref D), some (.int (0 + j)), o2] ∧ H' D = some (.lst vs) ∧ vs.length = l.length + m.length ∧ ∀ n v, vs[n]? = some v → Rq (FoQ.SP (FoQ.co l) (FoQ.co m) j k n) H' v) ⟨s3, vs, _, rfl, hD, lv, fun n v e => by rw [FoQ.SP_zero]; exact hv n v e⟩ ?_ ?_
      · rintro k σ H4 hk ⟨s4, vs, o2, rfl, hD, lv, hv⟩
        rw [hM.1, Int.toNat_natCast] at hk
        have e1 : ((0 + (j : Int)) + (0 + (k : Int))) = ((j + k : Nat) : Int) := by omega
        obtain ⟨w0, ew⟩ : ∃ w0, vs[j + k]? = some w0 := ⟨vs[j + k]'(by omega), List.getElem?_eq_getElem _⟩
        obtain ⟨c0, rfl, g0⟩ := hv (j + k) w0 ew
        obtain ⟨_, ex, c1, rfl, g1⟩ := (hL.nl rq_solid (same_nl s4)).at_ (i := j) hj
        obtain ⟨_, ey, c2, rfl, g2⟩ := (hM.nl rq_solid (same_nl s4)).at_ (i := k) hk
        refine ⟨_, rfl, _, rfl, _, rfl, _, _, rfl, rfl, D, _, _, _, rfl, rfl, SqL.of hD, by rw [e1]; exact atI_nat ew, ?_⟩
        refine ⟨_, rfl, _, rfl, a, _, _, _, rfl, rfl, sqL_sm hS s4, by show atI _ (0 + (j : Int)) = _; rw [Int.zero_add]; exact atI_nat ex, ?_⟩
        refine ⟨_, rfl, _, rfl, b, _, _, _, rfl, rfl, sqL_sm hU s4, by show atI _ (0 + (k : Int)) = _; rw [Int.zero_add]; exact atI_nat ey, ?_⟩
        refine ⟨c1, c2, _, _, rfl, g1, g2, (zl j).mono (by decide), (zm k).mono (by decide), fun p1 n1 => ?_⟩
        have s5 := Same.upd n1 (o := qt (FoQ.co l j * FoQ.co m k))
        refine ⟨c0, p1, _, _, rfl, g0.same s5, upd_same, (SP_sz zl zm (by decide) j k (j + k)).mono (by omega), ((zl j).mul (zm k)).mono (by decide), fun p2 n2 => ?_⟩
        have s6 := s5.trans (Same.upd n2 (o := qt (FoQ.SP (FoQ.co l) (FoQ.co m) j k (j + k) + FoQ.co l j * FoQ.co m k)))
        have hD6 := s6 _ _ hD
        refine ⟨_, rfl, _, rfl, _, rfl, _, _, rfl, rfl, D, _, _, j + k, rfl, rfl, hD6, ?_, ?_⟩
        · rw [e1]
          unfold ixN
          rw [if_pos (by omega), if_pos (by omega), Int.toNat_natCast]
        · refine ⟨same_set (s4.trans s6) nDH, _, _, rfl, upd_same, by rw [List.length_set]; exact lv, fun n v e => ?_⟩
          have nl : NLst H4 (upd (upd (upd H4 p1 (qt (FoQ.co l j * FoQ.co m k))) p2 (qt (FoQ.SP (FoQ.co l) (FoQ.co m) j k (j + k) + FoQ.co l j * FoQ.co m k))) D (.lst (vs.set (j + k) (.ref p2)))) := (same_nl s6).trans (nl_upd hD6)
          rw [List.getElem?_set] at e
          split at e
          · rename_i c
            split at e
            · cases e
              refine ⟨p2, rfl, ?_⟩
              rw [← c, FoQ.SP_here]
              exact (show FrQ _ p2 _ from upd_same).nl (nl_upd hD6)
            · cases e
          · rename_i c
            rw [FoQ.SP_else (Ne.symm c)]
            exact rq_solid _ nl (hv n v e)
      · rintro σ H4 ⟨s4, vs, o2, rfl, hD, lv, hv⟩
        rw [hM.1, Int.toNat_natCast] at hv
        refine ⟨s4, vs, _, _, rfl, hD, lv, fun n v e => ?_⟩
        have := hv n v e
        rw [FoQ.SP_done (fun i hi => FoQ.co_ge hi)] at this
        exact this
    · rintro σ H4 ⟨s4, vs, o1, o2, rfl, hD, lv, hv⟩
      rw [hL.1, Int.toNat_natCast] at hv
      have hV : Ls Rq H4 vs ((List.range (l.length + m.length)).map (FoQ.S (FoQ.co l) (FoQ.co m) l.length)) := ⟨by rw [lv]; simp, fun j v e => by
        have hj := (List.getElem?_eq_some_iff.mp e).1
        rw [FoQ.co_map, if_pos (by omega)]
        exact hv j v e⟩
      refine ⟨_, rfl, D, vs, _, rfl, SqL.of hD, hV, by simp; omega, fun p H5 np s5 e => ?_⟩
      have e2 := (hV.nl rq_solid (same_nl s5)).take (FoQ.trim ((List.range (l.length + m.length)).map (FoQ.S (FoQ.co l) (FoQ.co m) l.length))).length
      rw [← FoQ.trim_eq] at e2
      exact q p H5 _ (s4.free np) (s4.trans s5) e e2
end

end Fo

set_option maxHeartbeats 4100000
namespace Fo
open PySem PySem.Spec PyProof.Rows L2
/-! ### what the law draws -/
def spListL : Sp := fun vs H Q _ => ∃ (b : Addr) (n : Nat), vs = [.ref b] ∧ BoxAt H b n ∧ n ≤ 80000 ∧
  ∀ p H' ws l, H p = none → H' p = some (.lst ws) → Ls Rq H' ws l → AllSz 12 l → l.length ≤ 7 → BoxAt H' b (n + 50) → But b H H' → Q (.ref p) H'
def spRefL (K : PySem.W.Frag) : Sp := fun vs H Q _ => ∃ (a : Addr) (ws : List V) (k : Nat) (y : V), vs = [.ref a] ∧ SqL K H a ws ∧ (∀ i v, i < k → ws[i]? = some v → ∃ r, NmV K H v r) ∧ ws[k]? = some y ∧ NoNum H y ∧ ws.length ≤ 1000 ∧ ∀ p H', H p = none → Same H H' → H' p = some (.lst [y]) → Q (.ref p) H'
theorem co_snoc (l : List Rat) (r : Rat) (i : Nat) : FoQ.co (l ++ [r]) i = if i < l.length then FoQ.co l i else if i = l.length then r else 0 := by
  unfold FoQ.co
  rw [List.getD_eq_getElem?_getD, List.getD_eq_getElem?_getD, List.getElem?_append]
  split
  · rfl
  · rename_i h
    split
    · rename_i e
      subst e
      simp
    · rename_i e
      rw [List.getElem?_eq_none (by simp; omega)]
      rfl
theorem allSz_snoc {n : Nat} {l : List Rat} {r : Rat} (h : AllSz n l) (g : FoQ.SzR n r) (n0 : 0 < n) : AllSz n (l ++ [r]) := fun i => by
  rw [co_snoc]
  split
  · exact h i
  · split
    · exact g
    · exact FoQ.SzR.zero n0
theorem allSz_nil {n : Nat} (n0 : 0 < n) : AllSz n [] := fun i => by
  rw [FoQ.co_nil]
  exact FoQ.SzR.zero n0
theorem three (k : Nat) (h : k < 3) : ∃ m : Int, [V.int 3, V.int 20, V.int 999][k]? = some (.int m) ∧ 0 ≤ m ∧ m ≤ 1000 :=
  match k, h with
  | 0, _ => ⟨_, rfl, by decide, by decide⟩
  | 1, _ => ⟨_, rfl, by decide, by decide⟩
  | 2, _ => ⟨_, rfl, by decide, by decide⟩
/-- what is made of the box: i items so far -/
def BInv (b : Addr) (c n : Nat) (H1 : Hp) (D : Addr) (i : Nat) (H : Hp) : Prop := But b H1 H ∧ BoxAt H b (n + c * i) ∧ ∃ ws l, H D = some (.lst ws) ∧ l.length = i ∧ Ls Rq H ws l ∧ AllSz 12 l
theorem BInv.next {b : Addr} {c n : Nat} {H1 H H4 : Hp} {D : Addr} {i : Nat} (h : BInv b c n H1 D i H) (nD : H1 D = none) (db : D ≠ b) (s : But b H H4) (hB : BoxAt H4 b (n + c * (i + 1))) {v : V} {r : Rat} (hv : Rq r H4 v) (zr : FoQ.SzR 12 r) (hi : i < 100) :
    ∃ acc, H4 D = some (.lst acc) ∧ acc.length < sizeLine ∧ BInv b c n H1 D (i + 1) (upd H4 D (.lst (acc ++ [v]))) := by
  obtain ⟨s1, hB0, ws, l, e, el, hw, hz⟩ := h
  have e4 := s _ _ e db
  have nl : NLst H4 (upd H4 D (.lst (ws ++ [v]))) := nl_upd e4
  have nl0 := (hB0.nl s).trans nl
  refine ⟨ws, e4, by rw [hw.1, el, sizeLine_eq]; omega, fun a o q z => ?_, ?_, ws ++ [v], l ++ [r], upd_same, by simp [el], (hw.nl rq_solid nl0).snoc (rq_solid _ nl hv), allSz_snoc hz zr (by decide)⟩
  · rw [upd_ne (ne_of_none q nD)]
    exact s a o (s1 a o q z) z
  · obtain ⟨x, k, sd, q, r⟩ := hB
    exact ⟨x, k, sd, by rw [upd_ne (Ne.symm db)]; exact q, r⟩
section
variable {P : Program} {w : World} {K : PySem.W.Frag} {mg : Str → Option Value} {base : Heap}
theorem ok_listL (T : Tx K mg) : FnOk P w K mg base CX0 3 (He.ga K "_law_list") T.fd_list ["_law_box_here"] spListL := by
  refine T.F_list.ok sc_list (fun vs H Q E h => ?_) (fun cdv A outer s H vs Q E hr h => ?_)
  · obtain ⟨b, n, rfl, _⟩ := h
    rfl
  · obtain ⟨b, n, rfl, hB, hn, q⟩ := h
    refine ⟨_, (pss_cons (ps_setLc (i := 2) (own := [("_law_k", 1)]) (g := gName 1) rfl sc_list.nd rfl rfl (sw_true rfl rfl rfl (by decide +kernel)) (pi_range1 (by rfl) T.z_range (pa_cons (pe_call (ok_take T) (hr.mono (by decide)) (by rfl) T.g_take T.F_take.kp T.b_take .nil pass0 (pa_cons (pv 0) (pa_cons pe_int pa_nil))) pa_nil)) (blkOk_by (own := [("_law_k", 1)]) (N := ["_law_box_here", "_law_k", "_law_found", "_law_term"]) (sc := defScope s_list) (by decide +kernel)) (fun _ _ _ _ _ => (pg_name (i := 1) sc_list.nd rfl (.inl rfl))) (fun _ _ _ _ _ => pts_nil) (fun _ _ _ _ _ => (pe_call (ok_number T) (hr.mono (by decide)) (by rfl) T.g_number T.F_number.kp T.b_number .nil pass0 (pa_cons (pv 0) (pa_cons (pe_ix (FoK.ix_listK (K' := K) rfl) (pe_lst (pa_cons pe_int (pa_cons pe_int (pa_cons pe_int pa_nil)))) (pe_call (ok_take T) (hr.mono (by decide)) (by rfl) T.g_take T.F_take.kp T.b_take .nil pass0 (pa_cons (pv 0) (pa_cons pe_int pa_nil))) (fun _ _ => rfl)) pa_nil)))))
      (pss_one (ps_ret (pe_lc (own := [("_law_term", 3)]) (g := gName 3) rfl sc_list.nd (pi_list (pv 2)) (blkOk_by (own := [("_law_term", 3)]) (N := ["_law_box_here", "_law_k", "_law_found", "_law_term"]) (sc := defScope s_list) (by decide +kernel)) (fun _ _ _ _ _ => (pg_name (i := 3) sc_list.nd rfl (.inl rfl))) (fun _ _ _ _ _ => pts_nil) (fun _ _ _ _ _ => (pe_ix (FoK.ix_listK (K' := K) rfl) (pe_lst (pa_cons (pv 3) (pa_cons (pe_tup (pa_cons pe_int (pa_cons pe_int pa_nil))) pa_nil))) (pe_callTy FoA.call_intB (by rfl) T.z_int (by decide +kernel) (pa_cons (pe_cmpR op_eq (pe_call (ok_take T) (hr.mono (by decide)) (by rfl) T.g_take T.F_take.kp T.b_take .nil pass0 (pa_cons (pv 0) (pa_cons pe_int pa_nil))) pe_int (nomark _)) pa_nil)) (fun _ _ => rfl))))))), ?_⟩
    refine ⟨_, rfl, b, 8, n, rfl, hB, by omega, by decide, sz1000, fun g H1 g0 g1 hB1 b1 => ?_⟩
    obtain ⟨N, rfl⟩ := Int.eq_ofNat_of_zero_le g0
    refine ⟨_, rfl, by omega, by omega, fun D nD => ?_⟩
    have db := hB1.ne nD
    refine lc_range (BInv b 4 (n + 1) H1 D) ⟨But.of_same (Same.upd nD), hB1.same (Same.upd nD), [], [], upd_same, rfl, Ls.nil, allSz_nil (by decide)⟩ (fun i H2 hi h => ?_) (fun H2 h => ?_)
    · have h' := h
      obtain ⟨s2, hB2, _⟩ := h'
      refine ⟨rfl, _, rfl, (by show 3 ≤ sizeLine; rw [sizeLine_eq]; decide), fun t1 nt1 => ?_⟩
      have n1 := hB2.ne nt1
      refine ⟨_, rfl, b, 3, _, rfl, hB2.same (Same.upd nt1), by omega, by decide, sz1000, fun g3 H3 g30 g31 hB3 b3 => ?_⟩
      have hL := b3 _ _ upd_same n1
      obtain ⟨k3, rfl⟩ := Int.eq_ofNat_of_zero_le g30
      obtain ⟨m, em, m0, m1⟩ := three k3 (by omega)
      refine ⟨t1, _, _, _, rfl, rfl, SqL.of hL, atI_nat em, ?_⟩
      refine ⟨b, m, _, rfl, hB3, by omega, m0, m1, fun p H4 r np hp zr hB4 b4 => ?_⟩
      exact h.next nD db ((But.of_same (Same.upd nt1)).trans (b3.trans b4)) (hB4.mono (by omega)) ⟨p, rfl, hp⟩ zr (by omega)
    · obtain ⟨s2, hB2, ws, l, e, el, hw, hz⟩ := h
      rw [Int.toNat_natCast] at el hB2
      have hN : N ≤ 7 := by omega
      have bH2 : But b H H2 := b1.trans s2
      refine ⟨_, rfl, D, rfl, ⟨_, SqL.of e⟩, fun D2 nD2 => ?_⟩
      have db2 := hB2.ne nD2
      refine lc_list (BInv b 1 (n + 1 + 4 * N) H2 D2) ⟨But.of_same (Same.upd nD2), hB2.same (Same.upd nD2), [], [], upd_same, rfl, Ls.nil, allSz_nil (by decide)⟩ (fun i H3 hi h => SqL.of (h.1 _ _ e db)) (fun i v H3 ev h => ?_) (fun H3 h => ?_)
      · have hi := (List.getElem?_eq_some_iff.mp ev).1
        rw [hw.1, el] at hi
        obtain ⟨c0, rfl, g0⟩ := hw.2 i v ev
        have h' := h
        obtain ⟨s3, hB3, _⟩ := h'
        have g3 : FrQ H3 c0 (FoQ.co l i) := g0.nl (hB2.nl s3)
        refine ⟨rfl, _, rfl, (by show 2 ≤ sizeLine; rw [sizeLine_eq]; decide), fun t1 nt1 => ⟨(by show 2 ≤ sizeLine; rw [sizeLine_eq]; decide), fun q1 nq1 => ?_⟩⟩
        have s4 := (Same.upd nt1 (o := .tup [.int 0, .int 1])).trans (Same.upd nq1 (o := .lst [.ref c0, .ref t1]))
        have hB4 := hB3.same s4
        have q1b := (hB3.same (Same.upd nt1 (o := .tup [.int 0, .int 1]))).ne nq1
        refine ⟨_, rfl, b, 4, _, rfl, hB4, by omega, by decide, sz1000, fun g5 H5 g50 g51 hB5 b5 => ?_⟩
        have hL5 := b5 _ _ upd_same q1b
        have b35 : But b H3 H5 := (But.of_same s4).trans b5
        have f0 : FrQ H5 c0 (FoQ.co l i) := g3.nl (hB3.nl b35)
        have f1 : FrQ H5 t1 0 := (show FrQ _ t1 0 from (Same.upd nq1 (o := .lst [.ref c0, .ref t1])) _ _ upd_same).nl (hB4.nl b5)
        refine ⟨rfl, _, rfl, ?_⟩
        by_cases z : V.int g5 = V.int 0
        · rw [decide_eq_true z]
          refine ⟨q1, _, 1, V.ref t1, rfl, rfl, SqL.of hL5, by rfl, ?_⟩
          exact h.next nD2 db2 b35 (hB5.mono (by omega)) ⟨t1, rfl, f1⟩ (FoQ.SzR.zero (by decide)) (by omega)
        · rw [decide_eq_false z]
          refine ⟨q1, _, 0, V.ref c0, rfl, rfl, SqL.of hL5, by rfl, ?_⟩
          exact h.next nD2 db2 b35 (hB5.mono (by omega)) ⟨c0, rfl, f0⟩ (hz i) (by omega)
      · obtain ⟨s3, hB3, us, m, e3, em, hu, hzm⟩ := h
        rw [hw.1, el] at em hB3
        exact q D2 H3 us m (bH2.free db2 nD2) e3 hu hzm (by omega) (hB3.mono (by omega)) (bH2.trans s3)
theorem ok_refL (T : Tx K mg) : FnOk P w K mg base CX0 6 (He.ga K "_law_refused") T.fd_refused ["_law_row"] (spRefL K) := by
  refine T.F_refused.ok sc_refused (fun vs H Q E h => ?_) (fun cdv A outer s H vs Q E hr h => ?_)
  · obtain ⟨a, ws, k, y, rfl, _⟩ := h
    rfl
  · obtain ⟨a, ws, k, y, rfl, hS, hN, hk, hy, hl, q⟩ := h
    refine ⟨_, (pss_cons (ps_try_as (i := 1) (Wout := fun _ _ _ _ => False) rfl rfl sc_refused.nd rfl rfl ⟨rfl, by decide, Or.inl T.c_BadNumber⟩ takes0 (fun W pn xe tk _ => pss_one (ps_expr (FoC.pe_makeS T.mk_P (ok_PinitX T) (hr.mono (by decide)) (by rfl) T.c_Polynomial T.b_Polynomial_init .nil (fun σ => passAt tk σ) (pa_cons (pv 0) pa_nil)))) (fun a oe cls d pn hz hf => pss_one (ps_ret (pe_lst (pa_cons (FoC.pe_exF T.e_BadNumber hz hf List.mem_cons_self (pv 1)) pa_nil)))))
      (pss_one (ps_ret (pe_lst pa_nil)))), ?_⟩
    refine ⟨_, rfl, fun x dx nx ndx ne => ?_⟩
    have s1 : Same H (upd (upd H dx (.own x)) x (.ins (PC K) dx [])) := (Same.upd ndx).trans (Same.upd (by rw [upd_ne (Ne.symm ne)]; exact nx))
    refine ⟨x, dx, a, ws, k, y, rfl, upd_same, sqL_sm hS s1, fun i v hi ev => ?_, hk, hy.same s1, hl, fun d H' s2 hd => ?_⟩
    · obtain ⟨r, hr'⟩ := hN i v hi ev
      exact ⟨r, hr'.same s1⟩
    · refine ⟨true, T.e_BadNumber.me, fun _ x3 nx3 => ?_, fun z => nomatch z⟩
      refine ⟨_, rfl, rfl, rfl, d, y, _, rfl, hd, rfl, (by show 1 ≤ sizeLine; rw [sizeLine_eq]; decide), fun p np => ?_⟩
      exact q p _ ((s1.trans s2).free np) ((s1.trans s2).trans (Same.upd np)) upd_same
end

end Fo

set_option maxHeartbeats 4100000
namespace Fo
open PySem PySem.Spec PyProof.Rows L2
/-! ### the law -/
def spLaw (K : PySem.W.Frag) : Sp := fun vs H Q _ => ∃ (a : Addr) (ns : List Int), vs = [.ref a] ∧ SqL K H a (ns.map V.int) ∧ ns.length ≤ 63 ∧ ∀ H', Q (.bl true) H'
theorem gen_u {st u : TS} {D : Ends} {σ : L2.St} {H : Hp} (C : L2.St → Hp → Prop) (h1 : ∀ D' : Ends, (∀ σ' H', C σ' H' → D'.nx σ' H') → st D' σ H) (h2 : ∀ σ' H', C σ' H' → u D σ' H') : tSeq st u D σ H := h1 { D with nx := u D } h2
/-- what is made of the box, each item as R says -/
def BL (R : Nat → Hp → V → Prop) (b : Addr) (c n : Nat) (H1 : Hp) (D : Addr) (i : Nat) (H : Hp) : Prop := But b H1 H ∧ BoxAt H b (n + c * i) ∧ ∃ ws, H D = some (.lst ws) ∧ ws.length = i ∧ ∀ (j : Nat) (v : V), ws[j]? = some v → R j H v
theorem BL.start {R : Nat → Hp → V → Prop} {b : Addr} {c n : Nat} {H1 : Hp} {D : Addr} (hB : BoxAt H1 b n) (nD : H1 D = none) : BL R b c n H1 D 0 (upd H1 D (.lst [])) :=
  ⟨But.of_same (Same.upd nD), hB.same (Same.upd nD), [], upd_same, rfl, fun j v e => by simp at e⟩
theorem BL.next {R : Nat → Hp → V → Prop} {b : Addr} {c n : Nat} {H1 H H4 : Hp} {D : Addr} {i : Nat} (h : BL R b c n H1 D i H) (hs : ∀ j, Solid (R j)) (nD : H1 D = none) (db : D ≠ b) (s : But b H H4) (hB : BoxAt H4 b (n + c * (i + 1))) {v : V} (hv : R i H4 v) (hi : i < 100) :
    ∃ acc, H4 D = some (.lst acc) ∧ acc.length < sizeLine ∧ BL R b c n H1 D (i + 1) (upd H4 D (.lst (acc ++ [v]))) := by
  obtain ⟨s1, hB0, ws, e, el, hw⟩ := h
  have e4 := s _ _ e db
  have nl : NLst H4 (upd H4 D (.lst (ws ++ [v]))) := nl_upd e4
  have nl0 := (hB0.nl s).trans nl
  refine ⟨ws, e4, by rw [el, sizeLine_eq]; omega, fun a o q z => ?_, ?_, ws ++ [v], upd_same, by simp [el], fun j u q => ?_⟩
  · rw [upd_ne (ne_of_none q nD)]
    exact s a o (s1 a o q z) z
  · obtain ⟨x, k, sd, q, r⟩ := hB
    exact ⟨x, k, sd, by rw [upd_ne (Ne.symm db)]; exact q, r⟩
  · rw [List.getElem?_append] at q
    split at q
    · exact hs j nl0 (hw j u q)
    · rename_i hj
      have ej : j = i := by
        cases q1 : j - ws.length with
        | zero => omega
        | succ n =>
          rw [q1] at q
          simp at q
      subst ej
      rw [← el, Nat.sub_self] at q
      cases q
      exact hs _ nl hv
/-- a list of fractions that stands apart from the box -/
structure Lst (b : Addr) (H : Hp) (D : Addr) (ws : List V) (l : List Rat) : Prop where
  at_ : H D = some (.lst ws)
  ls : Ls Rq H ws l
  ne : D ≠ b
theorem Lst.but {b : Addr} {H H' : Hp} {D : Addr} {ws : List V} {l : List Rat} {n : Nat} (h : Lst b H D ws l) (hB : BoxAt H b n) (s : But b H H') : Lst b H' D ws l := ⟨s _ _ h.at_ h.ne, h.ls.nl rq_solid (hB.nl s), h.ne⟩
theorem Lst.same {b : Addr} {H H' : Hp} {D : Addr} {ws : List V} {l : List Rat} (h : Lst b H D ws l) (s : Same H H') : Lst b H' D ws l := ⟨s _ _ h.at_, h.ls.nl rq_solid (same_nl s), h.ne⟩
theorem Ls.rnl {K : PySem.W.Frag} {H H' : Hp} {ws : List V} {l : List Rat} (h : Ls (Rn K) H ws l) (s : NLst H H') : Ls (Rn K) H' ws l := Ls.nl (R := Rn K) (fun r => rn_solid r) h s
theorem Lst.app {b : Addr} {H : Hp} {D E : Addr} {ws xs : List V} {l : List Rat} {o : HO} (h : Lst b H D ws l) (e : H E = some (.lst xs)) (n : D ≠ E) : Lst b (upd H E o) D ws l := ⟨by rw [upd_ne n]; exact h.at_, h.ls.nl rq_solid (nl_upd e), h.ne⟩
theorem BoxAt.app {b : Addr} {H : Hp} {E : Addr} {o : HO} {n : Nat} (h : BoxAt H b n) (e : E ≠ b) : BoxAt (upd H E o) b n :=
  let ⟨x, k, sd, q, r⟩ := h
  ⟨x, k, sd, by rw [upd_ne (Ne.symm e)]; exact q, r⟩
theorem rq_szN {n : Nat} {l : List Rat} (h : AllSz n l) {m : Nat} (e : n ≤ m) : AllSz m l := fun i => (h i).mono e
theorem allSz_map {n : Nat} {f : Nat → Rat} {k : Nat} (h : ∀ i, FoQ.SzR n (f i)) (n0 : 0 < n) : AllSz n ((List.range k).map f) := fun i => by
  rw [FoQ.co_map]
  split
  · exact h i
  · exact FoQ.SzR.zero n0
/-- what a turn has made -/
structure Made (K : PySem.W.Frag) (H0 H : Hp) (pb D1 D2 Dr p1 p2 px : Addr) (ws1 ws2 us : List V) (l m : List Rat) (x : Rat) : Prop where
  f : Lst pb H D1 ws1 l
  s : Lst pb H D2 ws2 m
  r : H Dr = some (.lst (us ++ [.int 1]))
  u : Ls (Rn K) H us l
  nr : Dr ≠ pb
  o : PolAt K H p1 (FoQ.trim l)
  t : PolAt K H p2 (FoQ.trim m)
  x : FrQ H px x
  base : But pb H0 H
theorem Made.same {K : PySem.W.Frag} {H0 H H' : Hp} {pb D1 D2 Dr p1 p2 px : Addr} {ws1 ws2 us : List V} {l m : List Rat} {x : Rat} (h : Made K H0 H pb D1 D2 Dr p1 p2 px ws1 ws2 us l m x) (s : Same H H') : Made K H0 H' pb D1 D2 Dr p1 p2 px ws1 ws2 us l m x :=
  ⟨h.f.same s, h.s.same s, s _ _ h.r, h.u.nl (fun r => rn_solid r) (same_nl s), h.nr, h.o.same s, h.t.same s, h.x.same s, h.base.trans (But.of_same s)⟩
theorem Made.but {K : PySem.W.Frag} {H0 H H' : Hp} {pb D1 D2 Dr p1 p2 px : Addr} {ws1 ws2 us : List V} {l m : List Rat} {x : Rat} {n : Nat} (h : Made K H0 H pb D1 D2 Dr p1 p2 px ws1 ws2 us l m x) (hB : BoxAt H pb n) (s : But pb H H') : Made K H0 H' pb D1 D2 Dr p1 p2 px ws1 ws2 us l m x :=
  ⟨h.f.but hB s, h.s.but hB s, s _ _ h.r h.nr, h.u.nl (fun r => rn_solid r) (hB.nl s), h.nr, h.o.nl (hB.nl s), h.t.nl (hB.nl s), h.x.nl (hB.nl s), h.base.trans s⟩
theorem Made.set {K : PySem.W.Frag} {H0 H H' : Hp} {pb D1 D2 Dr p1 p2 px : Addr} {ws1 ws2 us : List V} {l m : List Rat} {x : Rat} {d : Addr} {o : HO} (h : Made K H0 H pb D1 D2 Dr p1 p2 px ws1 ws2 us l m x) (s : Same H H') (n : H d = none) : Made K H0 (upd H' d o) pb D1 D2 Dr p1 p2 px ws1 ws2 us l m x := h.same (same_set s n)
theorem qt_int (n : Int) : qt (n : Rat) = .tup [.int n, .int 1] := by
  unfold qt
  rw [Rat.num_intCast, Rat.den_intCast]
  rfl
theorem odd5 {K : PySem.W.Frag} {H : Hp} {a1 a2 : Addr} (k : Nat) (h : k < 5) (h1 : H a1 = some (.lst [.int 1])) (h2 : H a2 = some (.tup [.int 1, .int 2])) :
    ∃ y d, [V.non, V.bl true, V.str "1", V.ref a1, V.ref a2][k]? = some y ∧ NoNum H y ∧ Dp K H y d ∧ SeqAt.shaped (.list [d]) = true ∧ PyData.eqv (.list [d]) (.list [d]) = true ∧ (d = .none ∨ d = .bool true ∨ d = .str "1" ∨ (d = .list [.int 1] ∧ y = .ref a1) ∨ (d = .tuple [.int 1, .int 2] ∧ y = .ref a2)) :=
  match k, h with
  | 0, _ => ⟨_, .none, rfl, .non, .non, rfl, rfl, .inl rfl⟩
  | 1, _ => ⟨_, .bool true, rfl, .bl true, .bl true, rfl, rfl, .inr (.inl rfl)⟩
  | 2, _ => ⟨_, .str "1", rfl, .str "1", .str "1", by decide +kernel, by decide +kernel, .inr (.inr (.inl rfl))⟩
  | 3, _ => ⟨_, .list [.int 1], rfl, .lst h1, .lst (SqL.of h1) (.cons (.int 1) .nil), rfl, rfl, .inr (.inr (.inr (.inl ⟨rfl, rfl⟩)))⟩
  | 4, _ => ⟨_, .tuple [.int 1, .int 2], rfl, .tup h2, .tup (SqT.of h2) (.cons (.int 1) (.cons (.int 2) .nil)), rfl, rfl, .inr (.inr (.inr (.inr ⟨rfl, rfl⟩)))⟩
theorem ls_ne {K : PySem.W.Frag} {H : Hp} {a b : Addr} {ws us : List V} {l m : List Rat} {Q : VK} (ha : H a = some (.lst ws)) (hw : Ls Rq H ws l) (hb : H b = some (.lst us)) (hu : Ls Rq H us m) (e : l = m) (q : Q (.bl false) H) : rNeD K (.ref a) (.ref b) H Q := by
  refine ⟨_, _, dp_ls ha hw, dp_ls hb hu, ls_shaped _, ls_shaped _, ?_⟩
  rw [ls_eqv, decide_eq_true e]
  exact q
theorem ls_eq {K : PySem.W.Frag} {H : Hp} {a b : Addr} {ws us : List V} {l m : List Rat} {Q : VK} (ha : H a = some (.lst ws)) (hw : Ls Rq H ws l) (hb : H b = some (.lst us)) (hu : Ls Rq H us m) (q : Q (.bl (decide (l = m))) H) : rEqD K (.ref a) (.ref b) H Q := by
  refine ⟨_, _, dp_ls ha hw, dp_ls hb hu, ls_shaped _, ls_shaped _, ?_⟩
  rw [ls_eqv]
  exact q
theorem fr_ne {K : PySem.W.Frag} {H : Hp} {a b : Addr} {x z : Rat} {Q : VK} (ha : FrQ H a x) (hb : FrQ H b z) (e : x = z) (q : Q (.bl false) H) : rNeD K (.ref a) (.ref b) H Q := by
  refine ⟨_, _, dp_q ha, dp_q hb, rfl, rfl, ?_⟩
  rw [tq_eqv, decide_eq_true e]
  exact q
theorem int_ne {H : Hp} {i j : Int} {Q : VK} (e : i = j) (q : Q (.bl false) H) : rNe (.int i) (.int j) H Q := by
  refine ⟨rfl, ?_⟩
  subst e
  rw [decide_eq_true rfl]
  exact q
theorem bl_ne {H : Hp} {i j : Bool} {Q : VK} (e : i = j) (q : Q (.bl false) H) : rNe (.bl i) (.bl j) H Q := by
  refine ⟨rfl, ?_⟩
  subst e
  rw [decide_eq_true rfl]
  exact q
theorem PolAt.ins {K : PySem.W.Frag} {H : Hp} {p : Addr} {l : List Rat} (h : PolAt K H p l) : ∃ dx t, H p = some (.ins (PC K) dx (putF "_terms" (.ref t) [])) := let ⟨dx, t, _, e, _⟩ := h; ⟨dx, t, e⟩
theorem Ls.trim {H : Hp} {ws : List V} {l : List Rat} (h : Ls Rq H ws l) : Ls Rq H (ws.take (FoQ.trim l).length) (FoQ.trim l) := by
  have e := h.take (FoQ.trim l).length
  rw [← FoQ.trim_eq] at e
  exact e
theorem allSz_trim {n : Nat} {l : List Rat} (h : AllSz n l) : AllSz n (FoQ.trim l) := fun i => by
  rw [FoQ.trim_co]
  exact h i
theorem co_padd (l m : List Rat) (n : Nat) : FoQ.co (padd l m) n = FoQ.co l n + FoQ.co m n := by
  unfold padd
  rw [FoQ.trim_co, FoQ.co_map]
  split
  · rfl
  · rw [FoQ.co_ge (by omega), FoQ.co_ge (by omega)]
    grind
theorem co_psub (l m : List Rat) (n : Nat) : FoQ.co (psub l m) n = FoQ.co l n - FoQ.co m n := by
  unfold psub
  rw [FoQ.trim_co, FoQ.co_map]
  split
  · rfl
  · rw [FoQ.co_ge (by omega), FoQ.co_ge (by omega)]
    grind
theorem padd_eq {l m : List Rat} {x : List Rat} (h : ∀ n, FoQ.co x n = FoQ.co l n + FoQ.co m n) : FoQ.trim x = padd l m := by
  unfold padd
  refine FoQ.trim_ext fun n => ?_
  rw [h n, ← co_padd]
  unfold padd
  rw [FoQ.trim_co]
theorem padd_trim (l m : List Rat) : padd (FoQ.trim l) (FoQ.trim m) = padd l m := by
  have := padd_eq (l := l) (m := m) (x := padd (FoQ.trim l) (FoQ.trim m)) fun n => by rw [co_padd, FoQ.trim_co, FoQ.trim_co]
  rw [← this]
  unfold padd
  exact (FoQ.trim_idem _).symm
theorem co_flip (m : List Rat) (n : Nat) : FoQ.co ((List.range m.length).map fun j => 0 - FoQ.co m j) n = 0 - FoQ.co m n := by
  rw [FoQ.co_map]
  split
  · rfl
  · rw [FoQ.co_ge (by omega)]
    grind
theorem psub_flip (l m : List Rat) : psub (FoQ.trim l) (FoQ.trim m) = padd l ((List.range m.length).map fun j => 0 - FoQ.co m j) := by
  have := padd_eq (l := l) (m := (List.range m.length).map fun j => 0 - FoQ.co m j) (x := psub (FoQ.trim l) (FoQ.trim m)) fun n => by
    rw [co_psub, FoQ.trim_co, FoQ.trim_co, co_flip]
    grind
  rw [← this]
  unfold psub
  exact (FoQ.trim_idem _).symm
theorem pneg_flip (m : List Rat) : pneg (FoQ.trim m) = FoQ.trim ((List.range m.length).map fun j => 0 - FoQ.co m j) := by
  unfold pneg
  refine FoQ.trim_ext fun n => ?_
  rw [co_flip, FoQ.co_map]
  split
  · rw [FoQ.trim_co]
    grind
  · rw [← FoQ.trim_co, FoQ.co_ge (by omega)]
    grind
theorem prod_trim (l m : List Rat) : FoQ.prod (FoQ.trim l) (FoQ.trim m) = FoQ.prod l m := by
  have := FoQ.prod_of (xs := l) (ys := m) (us := FoQ.trim l) (vs := FoQ.trim m) (l := FoQ.prod (FoQ.trim l) (FoQ.trim m)) (fun n => (FoQ.trim_co l n).symm) (fun n => (FoQ.trim_co m n).symm) (fun n => FoQ.prod_co _ _ n)
  rw [← this]
  unfold FoQ.prod
  exact (FoQ.trim_idem _).symm
theorem pslope_eq (l : List Rat) : pslope (FoQ.trim l) = FoQ.trim ((List.range (l.length - 1)).map fun j => FoQ.co l (j + 1) * (((j + 1 : Nat) : Int) : Rat)) := by
  unfold pslope
  refine FoQ.trim_ext fun n => ?_
  have e : FoQ.co (((List.range (FoQ.trim l).length).map fun i => FoQ.co (FoQ.trim l) i * ((i : Int) : Rat)).drop 1) n = FoQ.co ((List.range (FoQ.trim l).length).map fun i => FoQ.co (FoQ.trim l) i * ((i : Int) : Rat)) (n + 1) := by
    unfold FoQ.co
    rw [List.getD_eq_getElem?_getD, List.getD_eq_getElem?_getD, List.getElem?_drop, Nat.add_comm]
  rw [e, FoQ.co_map, FoQ.co_map, FoQ.trim_co]
  have z : ∀ k, FoQ.co l k = 0 → FoQ.co l k * ((k : Int) : Rat) = 0 := fun k h => by rw [h]; grind
  by_cases h1 : n + 1 < (FoQ.trim l).length
  · have := FoQ.trim_len l
    rw [if_pos h1, if_pos (by omega)]
  · rw [if_neg h1]
    have h0 : FoQ.co l (n + 1) = 0 := by rw [← FoQ.trim_co, FoQ.co_ge (by omega)]
    split
    · exact (z _ h0).symm
    · rfl
section
variable {P : Program} {w : World} {K : PySem.W.Frag} {mg : Str → Option Value} {base : Heap}
theorem kb_P (T : Tx K mg) : KBn K T.fd_Polynomial_init ["self", "numbers"] 1 ["numbers"] (fun us ws => us ++ ws) (fun vs zs => vs ++ zs) :=
  FoC.kbn (fun us ws => us ++ ws) T.F_Polynomial_init (fun r1 r2 => r1.append r2) (fun kV doc pm an cdv ct us ws l1 l2 => match us, ws, l1, l2 with | [_], [_], _, _ => rfl)
theorem ok_law (T : Tx K mg) : FnOk P w K mg base CX0 7 (He.ga K "law") T.fd_law ["_law_script"] (spLaw K) := by
  refine T.F_law.ok sc_law (fun vs H Q E h => ?_) (fun cdv A outer s H vs Q E hr h => ?_)
  · obtain ⟨a, ns, rfl, _⟩ := h
    rfl
  · obtain ⟨a, ns, rfl, hS, hl, q⟩ := h
    obtain ⟨ds, vd, bd⟩ := bind_init1 T
    refine ⟨_, (pss_cons (ps_for PassesOwn.never rfl (pi_range1 (by rfl) T.z_range (pa_cons (pe_callB (call_max2 rfl) (by rfl) T.z_max (by decide +kernel) (pa_cons pe_int (pa_cons (pe_callB (call_min2 rfl) (by rfl) T.z_min (by decide +kernel) (pa_cons pe_int (pa_cons (pe_callB call_len_seq (by rfl) T.z_len PySem.boot_len (pa_cons (pv 0) pa_nil)) pa_nil))) pa_nil))) pa_nil)) (pg_name (i := 1) sc_law.nd rfl (.inl rfl)) (pss_cons (ps_set (i := 2) sc_law.nd rfl (.inr rfl) (pe_call (ok_box T) (hr.mono (by decide)) (by rfl) T.g_box T.F_box.kp T.b_box .nil pass0 (pa_cons (pv 0) (pa_cons (pv 1) pa_nil))))
      (pss_cons (ps_set (i := 3) sc_law.nd rfl (.inr rfl) (pe_call (ok_listL T) (hr.mono (by decide)) (by rfl) T.g_list T.F_list.kp T.b_list .nil pass0 (pa_cons (pv 2) pa_nil)))
      (pss_cons (ps_set (i := 4) sc_law.nd rfl (.inl rfl) (pe_call (ok_listL T) (hr.mono (by decide)) (by rfl) T.g_list T.F_list.kp T.b_list .nil pass0 (pa_cons (pv 2) pa_nil)))
      (pss_cons (ps_set (i := 5) sc_law.nd rfl (.inl rfl) (pe_call (ok_take T) (hr.mono (by decide)) (by rfl) T.g_take T.F_take.kp T.b_take .nil pass0 (pa_cons (pv 2) (pa_cons pe_int pa_nil))))
      (pss_cons (ps_if (pt_cmpR op_eq (pv 5) pe_int (nomark _)) (pss_one (ps_setLc (i := 4) (own := [("_law_term", 6)]) (g := gName 6) rfl sc_law.nd rfl rfl (sw_true rfl rfl rfl (by decide +kernel)) (pi_list (pv 3)) (blkOk_by (own := [("_law_term", 6)]) (N := ["_law_script", "_law_k", "_law_box_here", "_law_first", "_law_second", "_law_way", "_law_term", "_law_row", "_law_one", "_law_other", "_law_x", "_law_flipped", "_law_j", "_law_slope", "_law_odd"]) (sc := defScope s_law) (by decide +kernel)) (fun _ _ _ _ _ => (pg_name (i := 6) sc_law.nd rfl (.inl rfl))) (fun _ _ _ _ _ => pts_nil) (fun _ _ _ _ _ => (pe_call (ok_minusQ T) (hr.mono (by decide)) (by rfl) T.g_minus T.F_minus.kp T.b_minus .nil pass0 (pa_cons (pe_tup (pa_cons pe_int (pa_cons pe_int pa_nil))) (pa_cons (pv 6) pa_nil)))))) pss_nil)
      (pss_cons (ps_if (pt_cmpR op_eq (pv 5) pe_int (nomark _)) (pss_one (ps_set (i := 4) sc_law.nd rfl (.inl rfl) (pe_op op_cat (pe_callTy call_list_of (by rfl) T.z_list (by decide +kernel) (pa_cons (pv 3) pa_nil)) (pe_op op_rep (pe_lst (pa_cons (pe_tup (pa_cons pe_int (pa_cons pe_int pa_nil))) pa_nil)) (pe_call (ok_take T) (hr.mono (by decide)) (by rfl) T.g_take T.F_take.kp T.b_take .nil pass0 (pa_cons (pv 2) (pa_cons pe_int pa_nil))))))) pss_nil)
      (pss_cons (ps_setLc (i := 7) (own := [("_law_term", 6)]) (g := gName 6) rfl sc_law.nd rfl rfl (sw_true rfl rfl rfl (by decide +kernel)) (pi_list (pv 3)) (blkOk_by (own := [("_law_term", 6)]) (N := ["_law_script", "_law_k", "_law_box_here", "_law_first", "_law_second", "_law_way", "_law_term", "_law_row", "_law_one", "_law_other", "_law_x", "_law_flipped", "_law_j", "_law_slope", "_law_odd"]) (sc := defScope s_law) (by decide +kernel)) (fun _ _ _ _ _ => (pg_name (i := 6) sc_law.nd rfl (.inl rfl))) (fun _ _ _ _ _ => pts_nil) (fun _ _ _ _ _ => (pe_call (ok_handed T) (hr.mono (by decide)) (by rfl) T.g_handed T.F_handed.kp T.b_handed .nil pass0 (pa_cons (pv 6) (pa_cons (pv 2) pa_nil)))))
      (pss_cons (ps_set (i := 8) sc_law.nd rfl (.inl rfl) (pe_make T.mk_P (ok_Pinit T) (hr.mono (by decide)) (by rfl) T.c_Polynomial T.b_Polynomial_init .nil pass0 (pa_cons (pv 7) pa_nil)))
      (pss_cons (ps_expr (pe_bm PySem.F.plainAttrs_list PySem.F.slot_list_append PySem.F.type_list_append mt_append (pv 7) (pa_cons pe_int pa_nil)))
      (pss_cons (ps_set (i := 9) sc_law.nd rfl (.inl rfl) (pe_makeK0 T.mk_P (ok_Pinit T) (hr.mono (by decide)) (by rfl) T.c_Polynomial (kb_P T) pass0 (pk_cons (pe_callTy call_tuple_of (by rfl) T.z_tuple (by decide +kernel) (pa_cons (pe_lc (own := [("_law_term", 6)]) (g := gName 6) rfl sc_law.nd (pi_list (pv 4)) (blkOk_by (own := [("_law_term", 6)]) (N := ["_law_script", "_law_k", "_law_box_here", "_law_first", "_law_second", "_law_way", "_law_term", "_law_row", "_law_one", "_law_other", "_law_x", "_law_flipped", "_law_j", "_law_slope", "_law_odd"]) (sc := defScope s_law) (by decide +kernel)) (fun _ _ _ _ _ => (pg_name (i := 6) sc_law.nd rfl (.inl rfl))) (fun _ _ _ _ _ => pts_nil) (fun _ _ _ _ _ => (pe_call (ok_handed T) (hr.mono (by decide)) (by rfl) T.g_handed T.F_handed.kp T.b_handed .nil pass0 (pa_cons (pv 6) (pa_cons (pv 2) pa_nil))))) pa_nil)) pk_nil)))
      (pss_cons (ps_set (i := 10) sc_law.nd rfl (.inl rfl) (pe_call (ok_number T) (hr.mono (by decide)) (by rfl) T.g_number T.F_number.kp T.b_number .nil pass0 (pa_cons (pv 2) (pa_cons pe_int pa_nil))))
      (pss_cons (ps_if (PW.pt (pw_or (pt_cmpR (op_neD hr.units) (pe_call (ok_termsL T) (hr.mono (by decide)) (by rfl) T.g_terms T.F_terms.kp T.b_terms .nil pass0 (pa_cons (pv 8) pa_nil)) (pe_call (ok_trimL T) (hr.mono (by decide)) (by rfl) T.g_q_trimmed T.F_q_trimmed.kp T.b_q_trimmed .nil pass0 (pa_cons (pv 3) pa_nil)) (nomark _)) (pw_or1 (pt_cmpR op_ne (pe_callB (FoL.call_lenO (ok_Plen T) (hr.mono (by decide)) T.b_Polynomial_len pass0 T.mP_len.at_ T.mP_len.fn) (by rfl) T.z_len PySem.boot_len (pa_cons (pv 8) pa_nil)) (pe_callB call_len_seq (by rfl) T.z_len PySem.boot_len (pa_cons (pe_call (ok_trimL T) (hr.mono (by decide)) (by rfl) T.g_q_trimmed T.F_q_trimmed.kp T.b_q_trimmed .nil pass0 (pa_cons (pv 3) pa_nil)) pa_nil)) (nomark _))))) (pss_one (ps_ret pe_bl)) pss_nil)
      (pss_cons (ps_expr (pe_bm0 PySem.F.plainAttrs_list PySem.F.slot_list_clear PySem.F.type_list_clear mt_clear (pe_meth0 (pv 8) T.cl_P T.mP_terms (ok_Pterms T) (hr.mono (by decide)) T.b_Polynomial_terms .nil pass0)))
      (pss_cons (ps_setLc (i := 11) (own := [("_law_term", 6)]) (g := gName 6) rfl sc_law.nd rfl rfl (sw_true rfl rfl rfl (by decide +kernel)) (pi_list (pv 4)) (blkOk_by (own := [("_law_term", 6)]) (N := ["_law_script", "_law_k", "_law_box_here", "_law_first", "_law_second", "_law_way", "_law_term", "_law_row", "_law_one", "_law_other", "_law_x", "_law_flipped", "_law_j", "_law_slope", "_law_odd"]) (sc := defScope s_law) (by decide +kernel)) (fun _ _ _ _ _ => (pg_name (i := 6) sc_law.nd rfl (.inl rfl))) (fun _ _ _ _ _ => pts_nil) (fun _ _ _ _ _ => (pe_call (ok_minusQ T) (hr.mono (by decide)) (by rfl) T.g_minus T.F_minus.kp T.b_minus .nil pass0 (pa_cons (pe_tup (pa_cons pe_int (pa_cons pe_int pa_nil))) (pa_cons (pv 6) pa_nil)))))
      (pss_cons (ps_if (PW.pt (pw_or (pt_cmpR (op_neD hr.units) (pe_call (ok_termsL T) (hr.mono (by decide)) (by rfl) T.g_terms T.F_terms.kp T.b_terms .nil pass0 (pa_cons (pe_op (FoA.op_own (ok_Padd T) (hr.mono (by decide)) T.b_Polynomial_add pass0 T.biP_add FoN.int_add FoN.int_addR) (pv 8) (pv 9)) pa_nil)) (pe_call (ok_sumL T) (hr.mono (by decide)) (by rfl) T.g_sum T.F_sum.kp T.b_sum .nil pass0 (pa_cons (pv 3) (pa_cons (pv 4) pa_nil))) (nomark _)) (pw_or1 (pt_cmpR (op_neD hr.units) (pe_call (ok_termsL T) (hr.mono (by decide)) (by rfl) T.g_terms T.F_terms.kp T.b_terms .nil pass0 (pa_cons (pe_op (FoA.op_own (ok_Psub T) (hr.mono (by decide)) T.b_Polynomial_sub pass0 T.biP_sub FoN.int_sub FoN.int_subR) (pv 8) (pv 9)) pa_nil)) (pe_call (ok_sumL T) (hr.mono (by decide)) (by rfl) T.g_sum T.F_sum.kp T.b_sum .nil pass0 (pa_cons (pv 3) (pa_cons (pv 11) pa_nil))) (nomark _))))) (pss_one (ps_ret pe_bl)) pss_nil)
      (pss_cons (ps_if (PW.pt (pw_or (pt_cmpR (op_neD hr.units) (pe_call (ok_termsL T) (hr.mono (by decide)) (by rfl) T.g_terms T.F_terms.kp T.b_terms .nil pass0 (pa_cons (pe_op (FoA.op_own (ok_Pmul T) (hr.mono (by decide)) T.b_Polynomial_mul pass0 T.biP_mul FoN.int_mul FoN.int_mulR) (pv 8) (pv 9)) pa_nil)) (pe_call (ok_prodL T) (hr.mono (by decide)) (by rfl) T.g_product T.F_product.kp T.b_product .nil pass0 (pa_cons (pv 3) (pa_cons (pv 4) pa_nil))) (nomark _)) (pw_or1 (pt_cmpR (op_neD hr.units) (pe_call (ok_termsL T) (hr.mono (by decide)) (by rfl) T.g_terms T.F_terms.kp T.b_terms .nil pass0 (pa_cons (pe_un (FoA.un_own (ok_Pneg T) (hr.mono (by decide)) T.b_Polynomial_neg pass0 T.mP_neg.at_ T.mP_neg.fn) (pv 9)) pa_nil)) (pe_call (ok_trimL T) (hr.mono (by decide)) (by rfl) T.g_q_trimmed T.F_q_trimmed.kp T.b_q_trimmed .nil pass0 (pa_cons (pv 11) pa_nil)) (nomark _))))) (pss_one (ps_ret pe_bl)) pss_nil)
      (pss_cons (ps_if (PW.pt (pw_or (pt_cmpR op_ne (pe_cmpR (FoA.op_ownC (ok_Peq T) (hr.mono (by decide)) T.b_Polynomial_eq pass0 T.cmP_eq (fun _ _ => rfl)) (pv 8) (pv 9) (nomark _)) (pe_cmpR (op_eqD hr.units) (pe_call (ok_trimL T) (hr.mono (by decide)) (by rfl) T.g_q_trimmed T.F_q_trimmed.kp T.b_q_trimmed .nil pass0 (pa_cons (pv 3) pa_nil)) (pe_call (ok_trimL T) (hr.mono (by decide)) (by rfl) T.g_q_trimmed T.F_q_trimmed.kp T.b_q_trimmed .nil pass0 (pa_cons (pv 4) pa_nil)) (nomark _)) (nomark _)) (pw_or (pt_cmpR (FoA.op_ownC (ok_Peq T) (hr.mono (by decide)) T.b_Polynomial_eq pass0 T.cmP_eq (fun _ _ => rfl)) (pv 8) (pv 7) (nomark _)) (pw_or1 (pt_cmpR (FoL.op_ownO (ok_Peq T) (hr.mono (by decide)) T.b_Polynomial_eq pass0 T.cmP_eq T.noRP (fun _ _ => rfl)) (pv 8) (pe_make T.mk_R (ok_initQ T) (hr.mono (by decide)) (by rfl) T.c_Ratio bd vd pass0 (pa_cons pe_int pa_nil)) (nomark _)))))) (pss_one (ps_ret pe_bl)) pss_nil)
      (pss_cons (ps_if (pt_cmpR (op_neD hr.units) (pe_call (ok_told T) (hr.mono (by decide)) (by rfl) T.g_told T.F_told.kp T.b_told .nil pass0 (pa_cons (pe_meth (pv 8) T.cl_P T.mP_worth (ok_Pworth T) (hr.mono (by decide)) T.b_Polynomial_worth .nil pass0 (pa_cons (pe_call (ok_handed T) (hr.mono (by decide)) (by rfl) T.g_handed T.F_handed.kp T.b_handed .nil pass0 (pa_cons (pv 10) (pa_cons (pv 2) pa_nil))) pa_nil)) pa_nil)) (pe_call (ok_atL T) (hr.mono (by decide)) (by rfl) T.g_at T.F_at.kp T.b_at .nil pass0 (pa_cons (pv 3) (pa_cons (pv 10) pa_nil))) (nomark _)) (pss_one (ps_ret pe_bl)) pss_nil)
      (pss_cons (ps_setLc (i := 13) (own := [("_law_j", 12)]) (g := gName 12) rfl sc_law.nd rfl rfl (sw_true rfl rfl rfl (by decide +kernel)) (pi_range2 (by rfl) T.z_range (pa_cons pe_int (pa_cons (pe_callB call_len_seq (by rfl) T.z_len PySem.boot_len (pa_cons (pv 3) pa_nil)) pa_nil))) (blkOk_by (own := [("_law_j", 12)]) (N := ["_law_script", "_law_k", "_law_box_here", "_law_first", "_law_second", "_law_way", "_law_term", "_law_row", "_law_one", "_law_other", "_law_x", "_law_flipped", "_law_j", "_law_slope", "_law_odd"]) (sc := defScope s_law) (by decide +kernel)) (fun _ _ _ _ _ => (pg_name (i := 12) sc_law.nd rfl (.inl rfl))) (fun _ _ _ _ _ => pts_nil) (fun _ _ _ _ _ => (pe_call (ok_timesQ T) (hr.mono (by decide)) (by rfl) T.g_times T.F_times.kp T.b_times .nil pass0 (pa_cons (pe_ix (FoK.ix_listK (K' := K) rfl) (pv 3) (pv 12) (fun _ _ => rfl)) (pa_cons (pe_tup (pa_cons (pv 12) (pa_cons pe_int pa_nil))) pa_nil)))))
      (pss_cons (ps_if (PW.pt (pw_or (pt_cmpR (op_neD hr.units) (pe_call (ok_termsL T) (hr.mono (by decide)) (by rfl) T.g_terms T.F_terms.kp T.b_terms .nil pass0 (pa_cons (pe_meth0 (pv 8) T.cl_P T.mP_slope (ok_Pslope T) (hr.mono (by decide)) T.b_Polynomial_slope .nil pass0) pa_nil)) (pe_call (ok_trimL T) (hr.mono (by decide)) (by rfl) T.g_q_trimmed T.F_q_trimmed.kp T.b_q_trimmed .nil pass0 (pa_cons (pv 13) pa_nil)) (nomark _)) (pw_or1 (pt_cmpR (op_neD hr.units) (pe_call (ok_termsL T) (hr.mono (by decide)) (by rfl) T.g_terms T.F_terms.kp T.b_terms .nil pass0 (pa_cons (pv 8) pa_nil)) (pe_call (ok_trimL T) (hr.mono (by decide)) (by rfl) T.g_q_trimmed T.F_q_trimmed.kp T.b_q_trimmed .nil pass0 (pa_cons (pv 3) pa_nil)) (nomark _))))) (pss_one (ps_ret pe_bl)) pss_nil)
      (pss_cons (ps_set (i := 14) sc_law.nd rfl (.inl rfl) (pe_ix ix_list (pe_lst (pa_cons pe_non (pa_cons pe_bl (pa_cons pe_str (pa_cons (pe_lst (pa_cons pe_int pa_nil)) (pa_cons (pe_tup (pa_cons pe_int (pa_cons pe_int pa_nil))) pa_nil)))))) (pe_call (ok_take T) (hr.mono (by decide)) (by rfl) T.g_take T.F_take.kp T.b_take .nil pass0 (pa_cons (pv 2) (pa_cons pe_int pa_nil))) (fun _ _ => rfl)))
      (pss_one (ps_if (pt_cmpR (op_neD hr.units) (pe_call (ok_refL T) (hr.mono (by decide)) (by rfl) T.g_refused T.F_refused.kp T.b_refused .nil pass0 (pa_cons (pe_op op_cat (pv 7) (pe_lst (pa_cons (pv 14) (pa_cons pe_non pa_nil)))) pa_nil)) (pe_lst (pa_cons (pv 14) pa_nil)) (nomark _)) (pss_one (ps_ret pe_bl)) pss_nil))))))))))))))))))))))))
      (pss_one (ps_ret (pe_and (pe_cmpR op_eq (pe_callB (FoL.call_lenO (ok_Plen T) (hr.mono (by decide)) T.b_Polynomial_len pass0 T.mP_len.at_ T.mP_len.fn) (by rfl) T.z_len PySem.boot_len (pa_cons (pe_make T.mk_P (ok_Pinit T) (hr.mono (by decide)) (by rfl) T.c_Polynomial T.b_Polynomial_init .nil pass0 (pa_cons (pe_lst pa_nil) pa_nil)) pa_nil)) pe_int (nomark _)) (pe_one (pe_cmpR (FoA.op_ownC (ok_Peq T) (hr.mono (by decide)) T.b_Polynomial_eq pass0 T.cmP_eq (fun _ _ => rfl)) (pe_make T.mk_P (ok_Pinit T) (hr.mono (by decide)) (by rfl) T.c_Polynomial T.b_Polynomial_init .nil pass0 (pa_cons (pe_lst (pa_cons pe_int (pa_cons pe_int pa_nil))) pa_nil)) (pe_make T.mk_P (ok_Pinit T) (hr.mono (by decide)) (by rfl) T.c_Polynomial T.b_Polynomial_init .nil pass0 (pa_cons (pe_lst pa_nil) pa_nil)) (nomark _))))))), ?_⟩
    refine ⟨_, rfl, a, _, rfl, .inl hS, _, _, rfl, _, _, rfl, _, rfl, by split <;> (try split) <;> omega, by split <;> (try split) <;> omega, ?_⟩
    refine for_range (fun i σ H' => Same H H' ∧ ∃ o1 o2 o3 o4 o5 o6 o7 o8 o9 o10 o11 o12 o13 o14, σ = [some (.ref a), o1, o2, o3, o4, o5, o6, o7, o8, o9, o10, o11, o12, o13, o14]) ⟨Same.refl H, _, _, _, _, _, _, _, _, _, _, _, _, _, _, rfl⟩ ?turn ?after
    case after =>
      rintro σ H' ⟨s0, o1, o2, o3, o4, o5, o6, o7, o8, o9, o10, o11, o12, o13, o14, rfl⟩
      refine ⟨(by show 0 ≤ sizeLine; rw [sizeLine_eq]; decide), fun t1 n1 => ?_⟩
      refine pq_make (l := []) (.inl (SqL.of upd_same)) Ls.nil (by decide) fun p1 H1 np1 s1 h1 => ⟨rfl, ?_⟩
      obtain ⟨d1, x1, e1⟩ := h1.ins
      refine ⟨p1, d1, _, rfl, e1, p1, _, rfl, h1, _, rfl, by decide, rfl, _, rfl, iteT ?_⟩
      refine ⟨(by show 2 ≤ sizeLine; rw [sizeLine_eq]; decide), fun t2 n2 => ?_⟩
      refine pq_make (l := [0, 0]) (.inl (SqL.of upd_same)) ⟨rfl, fun i v e => ?_⟩ (by decide) fun p2 H2 np2 s2 h2 => ⟨rfl, ?_⟩
      · match i, e with
        | 0, e => cases e; exact .inr ⟨0, rfl, rfl⟩
        | 1, e => cases e; exact .inr ⟨0, rfl, rfl⟩
      refine ⟨(by show 0 ≤ sizeLine; rw [sizeLine_eq]; decide), fun t3 n3 => ?_⟩
      have s3 := Same.upd n3 (o := .lst [])
      refine pq_make (l := []) (.inl (SqL.of upd_same)) Ls.nil (by decide) fun p3 H3 np3 s4 h3 => ⟨rfl, ?_⟩
      have h2' := (h2.same s3).same s4
      obtain ⟨d2, x2, e2⟩ := h2'.ins
      obtain ⟨d3, x3, e3⟩ := h3.ins
      refine ⟨p2, d2, _, rfl, e2, .ins e3, p2, .ref p3, _, rfl, h2', .inl ⟨p3, _, rfl, h3, ?_⟩⟩
      have e0 : FoQ.trim [0, 0] = FoQ.trim [] := FoQ.trim_ext fun n => by
        rw [FoQ.co_nil]
        match n with
        | 0 => rfl
        | 1 => rfl
        | n + 2 => rfl
      rw [decide_eq_true e0]
      exact q _
    case turn =>
      rintro i σ H0 hi ⟨s0, o1, o2, o3, o4, o5, o6, o7, o8, o9, o10, o11, o12, o13, o14, rfl⟩
      have hS0 := sqL_sm hS s0
      have hi2 : i ≤ 1 := by
        split at hi <;> (try split at hi) <;> omega
      refine ⟨_, rfl, _, rfl, a, ns, i, ?_, hS0, by omega, fun pb H1 npb s1 hB => ?_⟩
      · show [V.ref a, V.int (0 + (i : Int))] = _
        rw [Int.zero_add]
      refine ⟨_, rfl, pb, 0, rfl, hB, by omega, fun D1 H2 ws1 l nD1 e1 g1 zl ll hB2 b2 => ?_⟩
      have L1 : Lst pb H2 D1 ws1 l := ⟨e1, g1, hB.ne nD1⟩
      refine ⟨_, rfl, pb, 50, rfl, hB2, by omega, fun D2 H3 ws2 m nD2 e2 g2 zm lm hB3 b3 => ?_⟩
      have L2 : Lst pb H3 D2 ws2 m := ⟨e2, g2, hB2.ne nD2⟩
      refine ⟨_, rfl, pb, 4, 100, rfl, hB3, by omega, by decide, sz1000, fun wy H4 wy0 wy1 hB4 b4 => ?_⟩
      have L1 := (L1.but hB2 b3).but hB3 b4
      have L2 := L2.but hB3 b4
      have b04 : But pb H0 H4 := ((But.of_same s1).trans b2).trans (b3.trans b4)
      -- the second list, in four ways
      dsimp only [gName, tNext]
      refine gen_u (C := fun σ' H' => ∃ D2 ws2 m, σ' = [some (.ref a), some (.int (0 + i)), some (.ref pb), some (.ref D1), some (.ref D2), some (.int wy), o6, o7, o8, o9, o10, o11, o12, o13, o14] ∧ Lst pb H' D1 ws1 l ∧ Lst pb H' D2 ws2 m ∧ AllSz 40 m ∧ m.length ≤ 7 ∧ BoxAt H' pb 101 ∧ But pb H0 H') (fun D' rest => ?_) ?_
      · refine ⟨_, rfl, rfl, _, rfl, ite2 (fun e => ?_) (fun e => ?_)⟩
        · refine ⟨_, rfl, D1, rfl, ⟨_, SqL.of L1.at_⟩, fun D nD => ?_⟩
          refine lc_list (LInv (fun j => Rq (0 - FoQ.co l j)) H4 D) (LInv.start nD) (fun i H5 _ h => SqL.of (h.1 _ _ L1.at_)) (fun j v H5 ev h => ?_) (fun H5 h => ?_)
          · have hj := (List.getElem?_eq_some_iff.mp ev).1
            rw [L1.ls.1] at hj
            obtain ⟨c, rfl, hc⟩ := L1.ls.2 j v ev
            refine ⟨rfl, (by show 2 ≤ sizeLine; rw [sizeLine_eq]; decide), fun t nt => ⟨_, rfl, t, c, 0, _, rfl, upd_same, (hc.same h.1).same (Same.upd nt), FoQ.SzR.zero (by decide), (zl j).mono (by decide), fun p np => h.next (fun j => rq_solid _) nD ((Same.upd nt).trans (Same.upd np)) ⟨p, rfl, upd_same⟩ (by omega)⟩⟩
          · obtain ⟨s5, vs, ev, el, hv⟩ := h
            rw [L1.ls.1] at el
            refine rest _ _ ⟨D, vs, (List.range l.length).map fun j => 0 - FoQ.co l j, rfl, L1.same s5, ⟨ev, ⟨by rw [el]; simp, fun j v e => ?_⟩, hB4.ne nD⟩, allSz_map (fun j => ((FoQ.SzR.zero (n := 1) (by decide)).sub (zl j)).mono (by decide)) (by decide), by simp; omega, hB4.same s5, b04.trans (But.of_same s5)⟩
            have hj := (List.getElem?_eq_some_iff.mp e).1
            rw [FoQ.co_map, if_pos (by omega)]
            exact hv j v e
        · exact rest _ _ ⟨D2, ws2, m, rfl, L1, L2, rq_szN zm (by decide), lm, hB4, b04⟩
      rintro _ H5 ⟨D2, ws2, m, rfl, L1, L2, zm, lm, hB5, b05⟩
      try dsimp only [tNext]
      refine gen_u (C := fun σ' H' => ∃ D2 ws2 m, σ' = [some (.ref a), some (.int (0 + i)), some (.ref pb), some (.ref D1), some (.ref D2), some (.int wy), o6, o7, o8, o9, o10, o11, o12, o13, o14] ∧ Lst pb H' D1 ws1 l ∧ Lst pb H' D2 ws2 m ∧ AllSz 40 m ∧ m.length ≤ 9 ∧ BoxAt H' pb 102 ∧ But pb H0 H') (fun D' rest => ?_) ?_
      · refine ⟨_, rfl, rfl, _, rfl, ite2 (fun e => ?_) (fun e => ?_)⟩
        · refine ⟨_, rfl, D1, _, rfl, .inl (SqL.of L1.at_), fun xp nxp => ?_⟩
          have x1 := Same.upd nxp (o := .lst ws1)
          refine ⟨(by show 2 ≤ sizeLine; rw [sizeLine_eq]; decide), fun xt nxt => ⟨(by show 1 ≤ sizeLine; rw [sizeLine_eq]; decide), fun xq nxq => ?_⟩⟩
          have x2 := Same.upd nxt (o := .tup [.int 0, .int 1])
          have x3 := Same.upd nxq (o := .lst [.ref xt])
          have hB6 := ((hB5.same x1).same x2).same x3
          have xqb := ((hB5.same x1).same x2).ne nxq
          have xtb := (hB5.same x1).ne nxt
          have xpb := hB5.ne nxp
          refine ⟨_, rfl, pb, 3, 101, rfl, hB6, by omega, by decide, sz1000, fun g H7 g0 g1 hB7 b7 => ?_⟩
          obtain ⟨N, rfl⟩ := Int.eq_ofNat_of_zero_le g0
          refine ⟨xq, (N : Int), _, rfl, rfl, b7 _ _ upd_same xqb, by omega, by omega, ?_, fun xr nxr => ?_⟩
          · rw [sizeLine_eq, Int.toNat_natCast]
            show 1 * _ ≤ _
            omega
          rw [Int.toNat_natCast, rep_flat]
          have x4 := Same.upd nxr (o := .lst (List.replicate N (.ref xt)))
          refine ⟨xp, xr, _, _, rfl, rfl, x4 _ _ (b7 _ _ ((x2.trans x3) _ _ upd_same) xpb), upd_same, (by rw [sizeLine_eq, L1.ls.1, List.length_replicate]; omega), fun xu nxu => ?_⟩
          have x5 := Same.upd nxu (o := .lst (ws1 ++ List.replicate N (.ref xt)))
          have L1' := (((L1.same x1).same x2).same x3).but hB6 b7
          have L1'' := (L1'.same x4).same x5
          have ft : FrQ (upd (upd H7 xr (.lst (List.replicate N (.ref xt)))) xu (.lst (ws1 ++ List.replicate N (.ref xt)))) xt 0 := (x4.trans x5) _ _ (b7 _ _ (x3 _ _ upd_same) xtb)
          refine rest _ _ ⟨xu, _, l ++ List.replicate N 0, rfl, L1'', ⟨upd_same, ls_pad L1''.ls ft N, (hB7.same x4).ne nxu⟩, fun j => by rw [co_pad]; exact (zl j).mono (by decide), by simp; omega, ((hB7.same x4).same x5), ((b05.trans (But.of_same (x1.trans (x2.trans x3)))).trans b7).trans (But.of_same (x4.trans x5))⟩
        · exact rest _ _ ⟨D2, ws2, m, rfl, L1, L2, zm, by omega, hB5.mono (by decide), b05⟩
      rintro _ H6 ⟨D2, ws2, m, rfl, L1, L2, zm, lm, hB6, b06⟩
      -- the row of numbers
      refine ⟨_, rfl, D1, rfl, ⟨_, SqL.of L1.at_⟩, fun Dr nDr => ?_⟩
      have drb := hB6.ne nDr
      have ne1 := ne_of_none L1.at_ nDr
      have ne2 := ne_of_none L2.at_ nDr
      refine lc_list (BL (fun j => Rn K (FoQ.co l j)) pb 1 102 H6 Dr) (BL.start hB6 nDr) (fun i H7 _ h => SqL.of (h.1 _ _ L1.at_ L1.ne)) (fun j v H7 ev h => ?_) (fun H7 h => ?_)
      · have hj := (List.getElem?_eq_some_iff.mp ev).1
        rw [L1.ls.1] at hj
        obtain ⟨c, rfl, hc⟩ := L1.ls.2 j v ev
        have h' := h
        obtain ⟨b7, hB7, _⟩ := h'
        exact ⟨rfl, _, rfl, _, rfl, c, pb, _, _, rfl, hc.nl (hB6.nl b7), (zl j).mono (by decide), hB7, by omega, fun v H8 hv hB8 b8 => h.next (fun j => rn_solid _) nDr drb b8 (hB8.mono (by omega)) hv (by omega)⟩
      obtain ⟨b7, hB7, us, eu, elu, hu⟩ := h
      rw [L1.ls.1] at elu hB7
      have U : Ls (Rn K) H7 us l := ⟨elu, hu⟩
      have L1 := L1.but hB6 b7
      have L2 := L2.but hB6 b7
      have b07 := b06.trans b7
      have hB7 := hB7.mono (show 102 + 1 * l.length ≤ 110 by omega)
      -- the first polynomial
      refine ⟨_, rfl, pq_make (.inl (SqL.of eu)) U (by omega) fun p1 H8 np1 s8 hp1 => ⟨rfl, ?_⟩⟩
      have eu8 := s8 _ _ eu
      refine ⟨_, rfl, .inl ⟨rfl, _, SqL.of eu8⟩, Dr, _, _, rfl, rfl, eu8, (by rw [elu, sizeLine_eq]; omega), ?_⟩
      have nl9 : NLst H8 (upd H8 Dr (.lst (us ++ [.int 1]))) := nl_upd eu8
      have L1 := (L1.same s8).app eu8 ne1 (o := .lst (us ++ [.int 1]))
      have L2 := (L2.same s8).app eu8 ne2 (o := .lst (us ++ [.int 1]))
      have nDr0 : H0 Dr = none := b06.free drb nDr
      have b09 : But pb H0 (upd H8 Dr (.lst (us ++ [.int 1]))) := fun c o e n => by
        rw [upd_ne (ne_of_none e nDr0)]
        exact s8 _ _ (b07 c o e n)
      have hB9 := (hB7.same s8).app drb (o := .lst (us ++ [.int 1]))
      have U9 := (U.rnl (same_nl s8)).rnl nl9
      have hp1 := hp1.nl nl9
      have er9 : upd H8 Dr (.lst (us ++ [.int 1])) Dr = some (.lst (us ++ [.int 1])) := upd_same
      revert L1 L2 b09 hB9 U9 hp1 er9
      generalize upd H8 Dr (.lst (us ++ [.int 1])) = H9
      intro L1 L2 b09 hB9 U9 hp1 er9
      -- the second one
      refine ⟨_, rfl, D2, rfl, ⟨_, SqL.of L2.at_⟩, fun D3 nD3 => ?_⟩
      have d3b := hB9.ne nD3
      refine lc_list (BL (fun j => Rn K (FoQ.co m j)) pb 1 110 H9 D3) (BL.start hB9 nD3) (fun i H7 _ h => SqL.of (h.1 _ _ L2.at_ L2.ne)) (fun j v H7 ev h => ?_) (fun H10 h => ?_)
      · have hj := (List.getElem?_eq_some_iff.mp ev).1
        rw [L2.ls.1] at hj
        obtain ⟨c, rfl, hc⟩ := L2.ls.2 j v ev
        have h' := h
        obtain ⟨b7, hB7, _⟩ := h'
        exact ⟨rfl, _, rfl, _, rfl, c, pb, _, _, rfl, hc.nl (hB9.nl b7), zm j, hB7, by omega, fun v H8 hv hB8 b8 => h.next (fun j => rn_solid _) nD3 d3b b8 (hB8.mono (by omega)) hv (by omega)⟩
      obtain ⟨b10, hB10, vs, ev, elv, hv⟩ := h
      rw [L2.ls.1] at elv hB10
      have V3 : Ls (Rn K) H10 vs m := ⟨elv, hv⟩
      have hB10 := hB10.mono (show 110 + 1 * m.length ≤ 120 by omega)
      refine ⟨D3, _, rfl, .inl ⟨SqL.of ev, fun tt ntt => ?_⟩⟩
      have s11 := Same.upd ntt (o := .tup vs)
      refine ⟨rfl, rfl, pq_make (.inr (SqT.of upd_same)) (V3.rnl (same_nl s11)) (by omega) fun p2 H12 np2 s12 hp2 => ⟨rfl, ?_⟩⟩
      have nlb := (hB9.nl b10).trans ((same_nl s11).trans (same_nl s12))
      have bb := b10.trans ((But.of_same s11).trans (But.of_same s12))
      have hB12 := (hB10.same s11).same s12
      -- the number
      refine ⟨_, rfl, pb, 9, 120, rfl, hB12, by omega, by decide, by decide, fun px H13 x npx hx zx hB13 b13 => ?_⟩
      have M : Made K H0 H13 pb D1 D2 Dr p1 p2 px ws1 ws2 us l m x :=
        ⟨((L1.but hB9 b10).same (s11.trans s12)).but hB12 b13, ((L2.but hB9 b10).same (s11.trans s12)).but hB12 b13, b13 _ _ ((s11.trans s12) _ _ (b10 _ _ er9 drb)) drb, (U9.rnl nlb).rnl (hB12.nl b13), drb, (hp1.nl nlb).nl (hB12.nl b13), hp2.nl (hB12.nl b13), hx, (b09.trans bb).trans b13⟩
      clear L1 L2 U9 hp1 er9 b09 hB9 V3 s11 s12 nlb bb hB12 b13 hB10 b10 ev hv hp2 hx
      have zl := rq_szN zl (show 12 ≤ 40 by decide)
      have zlt := allSz_trim zl
      have zmt := allSz_trim zm
      have tl := FoQ.trim_len l
      have tm := FoQ.trim_len m
      -- the coefficients
      obtain ⟨dx, tx, ep⟩ := M.o.ins
      refine ⟨_, rfl, p1, _, rfl, M.o, by omega, fun q1 H1 u1 n1 s1 e1 g1 => ?_⟩
      have M := M.same s1
      have hB13 := hB13.same s1
      refine ⟨_, rfl, D1, ws1, l, rfl, SqL.of M.f.at_, M.f.ls, by omega, fun q2 H2 n2 s2 e2 => ls_ne (s2 _ _ e1) (g1.nl rq_solid (same_nl s2)) e2 (M.f.ls.trim.nl rq_solid (same_nl s2)) rfl ⟨_, rfl, iteF ?_⟩⟩
      have M := M.same s2
      have hB13 := hB13.same s2
      obtain ⟨dx, tx, ep⟩ := M.o.ins
      refine ⟨_, rfl, p1, dx, _, rfl, ep, p1, _, rfl, M.o, _, rfl, by omega, _, rfl, D1, ws1, l, rfl, SqL.of M.f.at_, M.f.ls, by omega, fun q3 H3 n3 s3 e3 => ⟨q3, _, rfl, .inl (SqL.of e3), int_ne ?_ ⟨_, rfl, iteF ?_⟩⟩⟩
      · rw [List.length_take, M.f.ls.1, Nat.min_eq_left tl]
      have M := M.same s3
      have hB13 := hB13.same s3
      -- what is told is a list of its own
      obtain ⟨dx, tx, ep⟩ := M.o.ins
      dsimp only [tNext]
      refine ⟨_, rfl, p1, dx, _, rfl, ep, pf_no _ (by decide +kernel), p1, _, rfl, M.o, fun q4 H4 w4 n4 s4 e4 g4 => ⟨.inl ⟨rfl, _, SqL.of e4⟩, q4, _, rfl, rfl, e4, ?_⟩⟩
      have M := M.set s4 n4 (o := .lst [])
      have hB13 := hB13.same (same_set s4 n4 (o := .lst []))
      revert M hB13
      generalize upd _ q4 _ = H5
      intro M hB13
      -- the flipped list
      refine ⟨_, rfl, D2, rfl, ⟨_, SqL.of M.s.at_⟩, fun D nD => ?_⟩
      refine lc_list (LInv (fun j => Rq (0 - FoQ.co m j)) H5 D) (LInv.start nD) (fun i H6 _ h => SqL.of (h.1 _ _ M.s.at_)) (fun j v H6 ev h => ?_) (fun H6 h => ?_)
      · have hj := (List.getElem?_eq_some_iff.mp ev).1
        rw [M.s.ls.1] at hj
        obtain ⟨c, rfl, hc⟩ := M.s.ls.2 j v ev
        exact ⟨rfl, (by show 2 ≤ sizeLine; rw [sizeLine_eq]; decide), fun t nt => ⟨_, rfl, t, c, 0, _, rfl, upd_same, (hc.same h.1).same (Same.upd nt), FoQ.SzR.zero (by decide), (zm j).mono (by decide), fun p np => h.next (fun j => rq_solid _) nD ((Same.upd nt).trans (Same.upd np)) ⟨p, rfl, upd_same⟩ (by omega)⟩⟩
      obtain ⟨s6, vf, ef, elf, hvf⟩ := h
      rw [M.s.ls.1] at elf
      have F : Lst pb H6 D vf ((List.range m.length).map fun j => 0 - FoQ.co m j) := ⟨ef, ⟨by rw [elf]; simp, fun j v e => by
        have hj := (List.getElem?_eq_some_iff.mp e).1
        rw [FoQ.co_map, if_pos (by omega)]
        exact hvf j v e⟩, hB13.ne nD⟩
      have zf : AllSz 44 ((List.range m.length).map fun j => 0 - FoQ.co m j) := allSz_map (fun j => ((FoQ.SzR.zero (n := 1) (by decide)).sub (zm j)).mono (by decide)) (by decide)
      have lf : ((List.range m.length).map fun j => 0 - FoQ.co m j).length = m.length := by simp
      have M := M.same s6
      have hB13 := hB13.same s6
      clear ef hvf s6
      -- sums
      obtain ⟨dx, tx, ep⟩ := M.o.ins
      obtain ⟨dy, ty, eq⟩ := M.t.ins
      refine ⟨_, rfl, _, rfl, p1, dx, _, rfl, ep, .inr ⟨p2, dy, _, rfl, eq⟩, p1, p2, _, _, rfl, M.o, M.t, rq_szN zlt (by decide), rq_szN zmt (by decide), by omega, by omega, fun q5 H7 n5 s5 h5 => ?_⟩
      refine ⟨q5, _, rfl, h5, Nat.le_trans (FoQ.trim_len _) (by simp; omega), fun q6 H8 u6 n6 s6 e6 g6 => ?_⟩
      have M := (M.same s5).same s6
      have F := (F.same s5).same s6
      have hB13 := (hB13.same s5).same s6
      refine ⟨_, rfl, _, rfl, D1, D2, ws1, ws2, l, m, rfl, SqL.of M.f.at_, SqL.of M.s.at_, M.f.ls, M.s.ls, rq_szN zl (by decide), rq_szN zm (by decide), by omega, by omega, fun q7 H9 t7 n7 s7 e7 g7 => ls_ne (s7 _ _ e6) (g6.nl rq_solid (same_nl s7)) e7 g7 (padd_trim l m) ⟨_, rfl, iteF ?_⟩⟩
      have M := M.same s7
      have F := F.same s7
      have hB13 := hB13.same s7
      obtain ⟨dx, tx, ep⟩ := M.o.ins
      obtain ⟨dy, ty, eq⟩ := M.t.ins
      refine ⟨_, rfl, _, rfl, p1, dx, _, rfl, ep, .inr ⟨p2, dy, _, rfl, eq⟩, p1, p2, _, _, rfl, M.o, M.t, rq_szN zlt (by decide), rq_szN zmt (by decide), by omega, by omega, fun q5 H7 n5 s5 h5 => ?_⟩
      refine ⟨q5, _, rfl, h5, Nat.le_trans (FoQ.trim_len _) (by simp; omega), fun q6 H8 u6 n6 s6 e6 g6 => ?_⟩
      have M := (M.same s5).same s6
      have F := (F.same s5).same s6
      have hB13 := (hB13.same s5).same s6
      refine ⟨_, rfl, _, rfl, D1, D, ws1, vf, l, _, rfl, SqL.of M.f.at_, SqL.of F.at_, M.f.ls, F.ls, rq_szN zl (by decide), rq_szN zf (by decide), by omega, by rw [lf]; omega, fun q7 H9 t7 n7 s7 e7 g7 => ls_ne (s7 _ _ e6) (g6.nl rq_solid (same_nl s7)) e7 g7 (psub_flip l m) ⟨_, rfl, iteF ?_⟩⟩
      have M := M.same s7
      have F := F.same s7
      have hB13 := hB13.same s7
      dsimp only [tNext]
      -- products and opposites
      obtain ⟨dx, tx, ep⟩ := M.o.ins
      obtain ⟨dy, ty, eq⟩ := M.t.ins
      refine ⟨_, rfl, _, rfl, p1, dx, _, rfl, ep, .inr ⟨p2, dy, _, rfl, eq⟩, p1, p2, _, _, rfl, M.o, M.t, zlt, zmt, by omega, by omega, fun q5 H7 n5 s5 h5 => ?_⟩
      refine ⟨q5, _, rfl, h5, Nat.le_trans (FoQ.trim_len _) (by simp; omega), fun q6 H8 u6 n6 s6 e6 g6 => ?_⟩
      have M := (M.same s5).same s6
      have F := (F.same s5).same s6
      have hB13 := (hB13.same s5).same s6
      refine ⟨_, rfl, _, rfl, D1, D2, ws1, ws2, l, m, rfl, SqL.of M.f.at_, SqL.of M.s.at_, M.f.ls, M.s.ls, zl, zm, by omega, by omega, fun q7 H9 t7 n7 s7 e7 g7 => ls_ne (s7 _ _ e6) (g6.nl rq_solid (same_nl s7)) e7 g7 (prod_trim l m) ⟨_, rfl, iteF ?_⟩⟩
      have M := M.same s7
      have F := F.same s7
      have hB13 := hB13.same s7
      obtain ⟨dy, ty, eq⟩ := M.t.ins
      refine ⟨_, rfl, p2, dy, _, rfl, eq, p2, _, rfl, M.t, rq_szN zmt (by decide), by omega, fun q5 H7 n5 s5 h5 => ?_⟩
      refine ⟨q5, _, rfl, h5, Nat.le_trans (FoQ.trim_len _) (by simp; omega), fun q6 H8 u6 n6 s6 e6 g6 => ?_⟩
      have M := (M.same s5).same s6
      have F := (F.same s5).same s6
      have hB13 := (hB13.same s5).same s6
      refine ⟨_, rfl, D, vf, _, rfl, SqL.of F.at_, F.ls, by rw [lf]; omega, fun q7 H9 n7 s7 e7 => ls_ne (s7 _ _ e6) (g6.nl rq_solid (same_nl s7)) e7 (F.ls.trim.nl rq_solid (same_nl s7)) (pneg_flip m) ⟨_, rfl, iteF ?_⟩⟩
      have M := M.same s7
      have hB13 := hB13.same s7
      dsimp only [tNext]
      -- equality
      obtain ⟨dx, tx, ep⟩ := M.o.ins
      obtain ⟨dy, ty, eq⟩ := M.t.ins
      refine ⟨_, rfl, _, rfl, p1, dx, _, rfl, ep, .ins eq, p1, .ref p2, _, rfl, M.o, .inl ⟨p2, _, rfl, M.t, ?_⟩⟩
      refine ⟨_, rfl, D1, ws1, l, rfl, SqL.of M.f.at_, M.f.ls, by omega, fun q1 H1 n1 s1 e1 => ?_⟩
      have M1 := M.same s1
      refine ⟨_, rfl, D2, ws2, m, rfl, SqL.of M1.s.at_, M1.s.ls, by omega, fun q2 H2 n2 s2 e2 => ls_eq (s2 _ _ e1) (M1.f.ls.trim.nl rq_solid (same_nl s2)) e2 (M1.s.ls.trim.nl rq_solid (same_nl s2)) (bl_ne rfl ⟨_, rfl, iteF ?_⟩)⟩
      have M := M1.same s2
      have hB13 := (hB13.same s1).same s2
      clear M1 e1 e2
      obtain ⟨dx, tx, ep⟩ := M.o.ins
      refine ⟨_, rfl, _, rfl, p1, dx, _, rfl, ep, .lst M.r, p1, .ref Dr, _, rfl, M.o, .inr ⟨.inl (.lst M.r), _, rfl, iteF ?_⟩⟩
      refine ⟨_, rfl, rq_make (by decide) sz1q (FoQ.q_int 1) fun r1 H1 n1 s1 hr1 => ⟨rfl, ?_⟩⟩
      have M := M.same s1
      have hB13 := hB13.same s1
      obtain ⟨dx, tx, ep⟩ := M.o.ins
      obtain ⟨d1, hr1'⟩ := id hr1
      refine ⟨p1, dx, _, r1, d1, _, rfl, ep, rfl, hr1', p1, .ref r1, _, rfl, M.o, .inr ⟨.inr ⟨r1, _, rfl, hr1⟩, _, rfl, iteF ?_⟩⟩
      dsimp only [tNext]
      -- a value
      refine ⟨_, rfl, p1, dx, _, rfl, ep, pf_no _ (by decide +kernel), ?_⟩
      refine ⟨_, rfl, _, rfl, px, pb, x, _, rfl, M.x, zx.mono (by decide), hB13, by omega, fun v H2 hv hB14 b2 => ?_⟩
      have M := M.but hB13 b2
      clear hB13
      refine ⟨p1, v, _, x, rfl, M.o, hv, zlt, zx.mono (by decide), by omega, fun q3 H3 s3 h3 => ⟨q3, _, rfl, h3, fun t4 n4 => ?_⟩⟩
      have M := (M.same s3).same (Same.upd n4 (o := qt (FoQ.hor x (FoQ.trim l))))
      have hB14 := (hB14.same s3).same (Same.upd n4 (o := qt (FoQ.hor x (FoQ.trim l))))
      refine ⟨_, rfl, _, rfl, D1, px, ws1, l, x, rfl, SqL.of M.f.at_, M.f.ls, M.x, zl, zx.mono (by decide), by omega, fun q5 H5 s5 h5 => fr_ne (s5 _ _ upd_same) h5 (FoQ.hor_trim x l) ⟨_, rfl, iteF ?_⟩⟩
      have M := M.same s5
      have hB14 := hB14.same s5
      dsimp only [tNext]
      -- the derivative
      refine ⟨_, rfl, D1, _, rfl, .inl (SqL.of M.f.at_), ?_⟩
      refine ⟨1, (ws1.length : Int), rfl, ⟨by decide, by decide, by omega, by have := M.f.ls.1; omega⟩, fun D5 nD5 => ?_⟩
      have wl := M.f.ls.1
      refine lc_range (LInv (fun j => Rq (FoQ.co l (j + 1) * (((j + 1 : Nat) : Int) : Rat))) _ D5) (LInv.start nD5) (fun j H6 hj h => ?_) (fun H6 h => ?_)
      · have hj' : j + 1 < l.length := by omega
        obtain ⟨_, ev, c, rfl, hc⟩ := M.f.ls.at_ hj'
        have hc6 := hc.same h.1
        have zj : FoQ.SzR 1900 (((j + 1 : Nat) : Int) : Rat) := FoQ.SzR.int ((sz_of (n := 20) 1000000 (by omega) (by omega) (by decide)).mono (by decide)) (by decide)
        refine ⟨rfl, _, rfl, _, rfl, D1, _, _, _, rfl, rfl, SqL.of (h.1 _ _ M.f.at_), by rw [show ((1 : Int) + (j : Int)) = ((j + 1 : Nat) : Int) by omega]; exact atI_nat ev, ?_⟩
        refine ⟨_, rfl, (by show 2 ≤ sizeLine; rw [sizeLine_eq]; decide), fun t nt => ?_⟩
        refine ⟨c, t, _, (((j + 1 : Nat) : Int) : Rat), rfl, hc6.same (Same.upd nt), ?_, (zl (j + 1)).mono (by decide), zj, fun p np => h.next (fun j => rq_solid _) nD5 ((Same.upd nt).trans (Same.upd np)) ⟨p, rfl, upd_same⟩ (by omega)⟩
        show upd _ t _ t = _
        rw [upd_same, qt_int, show ((1 : Int) + (j : Int)) = ((j + 1 : Nat) : Int) by omega]
      obtain ⟨s6, vd', ed, eld, hvd⟩ := h
      have M := M.same s6
      have hB14 := hB14.same s6
      have G : Ls Rq H6 vd' ((List.range (l.length - 1)).map fun j => FoQ.co l (j + 1) * (((j + 1 : Nat) : Int) : Rat)) := ⟨by rw [eld]; simp; omega, fun j v e => by
        have hj := (List.getElem?_eq_some_iff.mp e).1
        rw [FoQ.co_map, if_pos (by omega)]
        exact hvd j v e⟩
      obtain ⟨dx, tx, ep⟩ := M.o.ins
      refine ⟨_, rfl, p1, dx, _, rfl, ep, pf_no _ (by decide +kernel), p1, _, rfl, M.o, rq_szN zlt (by decide), by omega, fun q7 H7 n7 s7 h7 => ?_⟩
      refine ⟨q7, _, rfl, h7, Nat.le_trans (FoQ.trim_len _) (by simp; omega), fun q8 H8 u8 n8 s8 e8 g8 => ?_⟩
      have s78 := s7.trans s8
      refine ⟨_, rfl, D5, vd', _, rfl, SqL.of (s78 _ _ ed), G.nl rq_solid (same_nl s78), by simp; omega, fun q9 H9 n9 s9 e9 => ls_ne (s9 _ _ e8) (g8.nl rq_solid (same_nl s9)) e9 ((G.trim).nl rq_solid (same_nl (s78.trans s9))) (pslope_eq l) ⟨_, rfl, iteF ?_⟩⟩
      have M := M.same (s78.trans s9)
      have hB14 := hB14.same (s78.trans s9)
      refine ⟨_, rfl, p1, _, rfl, M.o, by omega, fun q1 H1 u1 n1 s1 e1 g1 => ?_⟩
      have M := M.same s1
      have hB14 := hB14.same s1
      refine ⟨_, rfl, D1, ws1, l, rfl, SqL.of M.f.at_, M.f.ls, by omega, fun q2 H2 n2 s2 e2 => ls_ne (s2 _ _ e1) (g1.nl rq_solid (same_nl s2)) e2 (M.f.ls.trim.nl rq_solid (same_nl s2)) rfl ⟨_, rfl, iteF ?_⟩⟩
      have M := M.same s2
      have hB14 := hB14.same s2
      dsimp only [tNext]
      -- what is no number
      refine ⟨(by show 1 ≤ sizeLine; rw [sizeLine_eq]; decide), fun a1 na1 => ⟨(by show 2 ≤ sizeLine; rw [sizeLine_eq]; decide), fun a2 na2 => ⟨(by show 5 ≤ sizeLine; rw [sizeLine_eq]; decide), fun a3 na3 => ?_⟩⟩⟩
      have y1 := Same.upd na1 (o := .lst [.int 1])
      have y2 := Same.upd na2 (o := .tup [.int 1, .int 2])
      have y3 := Same.upd na3 (o := .lst [.non, .bl true, .str "1", .ref a1, .ref a2])
      have hB15 := ((hB14.same y1).same y2).same y3
      have a3b := ((hB14.same y1).same y2).ne na3
      have a2b := (hB14.same y1).ne na2
      have a1b := hB14.ne na1
      have M := ((M.same y1).same y2).same y3
      refine ⟨_, rfl, pb, 5, _, rfl, hB15, by omega, by decide, sz1000, fun g H16 g0 g1' hB16 b16 => ?_⟩
      have M := M.but hB15 b16
      obtain ⟨k, rfl⟩ := Int.eq_ofNat_of_zero_le g0
      have h1 := b16 _ _ ((y2.trans y3) _ _ upd_same) a1b
      have h2 := b16 _ _ (y3 _ _ upd_same) a2b
      obtain ⟨y, d, ey, hy, hd, sd, ed2, hk⟩ := odd5 (K := K) k (by omega) h1 h2
      refine ⟨a3, _, _, _, rfl, rfl, SqL.of (b16 _ _ upd_same a3b), atI_nat ey, ?_⟩
      refine ⟨_, rfl, _, rfl, (by show 2 ≤ sizeLine; rw [sizeLine_eq]; decide), fun t4 n4 => ?_⟩
      have s4 := Same.upd n4 (o := .lst [y, .non])
      have ul := M.u.1
      refine ⟨Dr, t4, _, _, rfl, rfl, s4 _ _ M.r, upd_same, (by rw [sizeLine_eq, List.length_append]; simp; omega), fun t5 n5 => ?_⟩
      have s5 := s4.trans (Same.upd n5 (o := .lst (us ++ [.int 1] ++ [y, .non])))
      refine ⟨t5, us ++ [.int 1] ++ [y, .non], us.length + 1, y, rfl, SqL.of upd_same, fun j v hj e => ?_, ?_, hy.same s5, by simp; omega, fun p H6' np s6' e6' => ?_⟩
      · rw [List.getElem?_append_left (by simp; omega)] at e
        by_cases c : j < us.length
        · rw [List.getElem?_append_left c] at e
          exact ⟨_, (M.u.2 j v e).same s5⟩
        · have : j = us.length := by omega
          subst this
          simp at e
          subst e
          exact ⟨_, .inr ⟨1, rfl, rfl⟩⟩
      · rw [List.getElem?_append_right (by simp)]
        simp
      · have s6 := s5.trans s6'
        refine ⟨_, rfl, (by show 1 ≤ sizeLine; rw [sizeLine_eq]; decide), fun t7 n7 => ?_⟩
        have s7 := s6.trans (Same.upd n7 (o := .lst [y]))
        have hd7 : Dp K (upd H6' t7 (.lst [y])) y d := by
          rcases hk with rfl | rfl | rfl | ⟨rfl, rfl⟩ | ⟨rfl, rfl⟩
          · cases hd
            exact .non
          · cases hd
            exact .bl true
          · cases hd
            exact .str _
          · exact .lst (SqL.of (s7 _ _ h1)) (.cons (.int 1) .nil)
          · exact .tup (SqT.of (s7 _ _ h2)) (.cons (.int 1) (.cons (.int 2) .nil))
        refine ⟨.list [d], .list [d], .lst (SqL.of ((Same.upd n7) _ _ e6')) (.cons hd7 .nil), .lst (SqL.of upd_same) (.cons hd7 .nil), sd, sd, ?_⟩
        rw [ed2]
        refine ⟨_, rfl, iteF ?_⟩
        have M := M.same s7
        exact ⟨s0.trans (fun c o e => M.base c o e (ne_of_none e npb)), _, _, _, _, _, _, _, _, _, _, _, _, _, _, rfl⟩
end

end Fo

set_option maxHeartbeats 4100000
open PySem PySem.W PySem.Calls PyProof.Rows
set_option maxHeartbeats 0 in
theorem PySem.Challenge.cw_filterorders_k05_polynomials_holds : PySem.Challenge.rw_filterorders_k05_polynomials.Holds := by
  w_on; o_law
  refine FoI.head_imp (r := OpenLaw.row PySem.Challenge.rw_filterorders_k05_polynomials) (q := view (OpenLaw.row PySem.Challenge.rw_filterorders_k05_polynomials).prog [45]) (H := Fo.hk) (ob := Fo.ob) (M := 6000) (lse := Fo.loose) (d := HandSHeadRun.topDef (OpenLaw.row PySem.Challenge.rw_filterorders_k05_polynomials).prog 45) (kwq := []) Fo.ob_eq
    Fo.run (by kernel_rfl) (by kernel_rfl) (by kernel_rfl) (by rfl) (by first | assumption | decide +kernel) (by decide +kernel) ⟨rfl, rfl, rfl, rfl, rfl, by decide +kernel⟩ ?hw ?hc
  case hw => w_witness2
  case hc =>
    refine L2.walk_ofE (l := PySem.Challenge.rw_filterorders_k05_polynomials) (n := 63) (k := 7) (x := "_law_script") (CX := L2.CX0) rfl (by decide) (by kernel_rfl) ⟨rfl, by decide, by decide⟩ ?F (fun _ _ _ _ z => z)
    intro w mg fa h Y G hmg0
    obtain ⟨K, KX, c⟩ := Y
    have hmg : mg ("law" : PySem.Str) = some (.ref fa) := by
      have e : (HandSHeadRun.topDef (OpenLaw.row PySem.Challenge.rw_filterorders_k05_polynomials).prog 45).name = ("law" : PySem.Str) := by kernel_rfl
      rw [← e]
      exact hmg0
    obtain ⟨T⟩ := Fo.facts KX G c
    have efa := hmg.symm.trans T.g_law
    cases efa
    exact ⟨K, T.fd_law, Fo.spLaw K, KX, fun s v => FoZ.bind1 T.F_law s v, fun H a ns hl _ hS => ⟨a, ns, rfl, hS, hl, fun _ => rfl⟩, fun base _ _ => Fo.ok_law T⟩

