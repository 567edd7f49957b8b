import PyProof.Rows.All
import Wide.All
import OpenK.AllK
import Wide.FinOn
import PySem.Challenge.RW_filterorders_k03_texts_of_ratios
import KE.KStateDown
import HandS.ForMost
import HandS.Exc
import HandS.Defaults
import HandS.HeadHook1
import HandS.HeadHook2
import HandS.HeadNt
import HandS.HeadEnd
import HandS.Head2
import HandS.Property
import KE.KOpsOwn
import HandS.ExcOwn
import HandS.ExcInit
import HandS.TryOnly
import HandS.WordsExc
import HandS.MakeKw
import HandS.MakeKwOnly
import HandS.IsInst
import HandS.OwnEq
import HandS.Gcd
import HandS.Wide
import HandS.RaiseMore
import HandS.CallSlots
import PyProof.ReprRoads
import PyProof.ReprHeadsEmpty
import PyProof.InstNe
import HandS.ClsMeth
import HandS.Text
import HandS.StrMore
import HandS.Comp
import HandS.Iter
import HandS.Steps
set_option Elab.async false
set_option linter.all false
set_option maxRecDepth 100000
set_option maxHeartbeats 4100000
/-! A hook whose facts are free Bools of the written part; defs at any address. -/
namespace FoZ
open PySem PySem.Spec PyProof.Rows L2
abbrev Fr1 := PySem.W.Frag
/-- what is looked at: all of the Bools, and the defs -/
def look (bs : List (Fr1 → Bool)) (ds : List He5.DefA) (K : Fr1) : Bool × List He.FnW :=
  ((bs.all fun b => b K) && ds.all fun d => d.ok K, ds.map fun d => He5.fnA K (d.at_ K))
def want (ds : List He5.DefA) : Bool × List He.FnW := (true, ds.map He5.DefA.val)
def Told (bs : List (Fr1 → Bool)) (ds : List He5.DefA) (K : Fr1) : Prop := look bs ds K = want ds
def lookG (n : Nat) (bs : List (Fr1 → Bool)) (ds : List He5.DefA) (g : Addr → Option Obj) : Bool × List He.FnW :=
  look bs ds (He.frG g (He5.asA g n))
def hook (n : Nat) (bs : List (Fr1 → Bool)) (ds : List He5.DefA) : PySem.W.Hook where
  α := Bool × List He.FnW
  obs := fun s => lookG n bs ds s.heap.get?
  val := fun _ => want ds
  says := fun _ h => ∃ K : Fr1, K.In h ∧ Told bs ds K
  of := fun _ _ e => ⟨_, He.frG_in, e⟩
  keeps := fun _ _ _ ⟨K, hKK, c⟩ k => ⟨K, PySem.W.Frag.In.keeps hKK k, c⟩
theorem lookG_eq {n : Nat} {bs : List (Fr1 → Bool)} {ds : List He5.DefA} {g : Addr → Option Obj} {s : Shared}
    (h : ∀ a, g a = s.heap.get? a) : lookG n bs ds g = (hook n bs ds).obs s := by
  have e : g = s.heap.get? := funext h; rw [e]
  rfl
section
variable {bs : List (Fr1 → Bool)} {ds : List He5.DefA} {K : Fr1}
theorem Told.bool (c : Told bs ds K) (i : Nat) {b : Fr1 → Bool} (h : bs[i]? = some b := by rfl) : b K = true := by
  have c0 : ((bs.all fun b => b K) && ds.all fun d => d.ok K) = true := congrArg Prod.fst c
  have c1 := (Bool.and_eq_true_iff.mp c0).1
  exact List.all_eq_true.mp c1 b (List.mem_of_getElem? h)
theorem Told.defn (c : Told bs ds K) (i : Nat) {d : He5.DefA} (h : ds[i]? = some d := by rfl) :
    ∃ fd, FunD K d.name d.qual d.params d.body d.scope (d.dvs K) (d.kws K) (d.at_ K) fd := by
  have c0 : ((bs.all fun b => b K) && ds.all fun d => d.ok K) = true := congrArg Prod.fst c
  have c1 := (Bool.and_eq_true_iff.mp c0).2
  have e : ds.map (fun d => He5.fnA K (d.at_ K)) = ds.map He5.DefA.val := congrArg Prod.snd c
  have e1 : (ds.map fun d => He5.fnA K (d.at_ K))[i]? = (ds.map He5.DefA.val)[i]? := by rw [e]
  rw [List.getElem?_map, List.getElem?_map, h] at e1
  exact He5.DefA.funD (Option.some.inj e1) (List.all_eq_true.mp c1 d (List.mem_of_getElem? h))
end
/-! ### further Bools -/
/-- the getter of a property m of the class that the name x stands for -/
def pg (K : Fr1) (x m : Str) : Addr := match PySem.W.recIn K (He.ma K (He.ga K x) m) "property" with
  | some (.ref g :: _) => g
  | _ => 0
def propB (x m : Str) (K : Fr1) : Bool :=
  He.eqO (PySem.W.findIn K (.ref (He.ga K x)) m) (some (some (.ref (He.ma K (He.ga K x) m)))) &&
  (He.eqO (PySem.W.specialIn K (.ref (He.ma K (He.ga K x) m)) "__get__") (some (some (.builtin "property.__get__"))) &&
  (decide (PySem.W.takesIn K (.ref (He.ma K (He.ga K x) m)) = some true) && (match PySem.W.recIn K (He.ma K (He.ga K x) m) "property" with
    | some (.ref _ :: _) => true
    | _ => false)))
theorem prop_ok {K : Fr1} {x m : Str} (h : propB x m K = true) : PropOf K (He.ga K x) m (He.ma K (He.ga K x) m) (pg K x m) := by
  obtain ⟨h1, h⟩ := He.ba h
  obtain ⟨h2, h⟩ := He.ba h
  obtain ⟨h3, h4⟩ := He.ba h
  refine ⟨He.eqO_ok h1, He.eqO_ok h2, of_decide_eq_true h3, ?_⟩
  unfold pg
  split at h4
  · rename_i g r e
    exact ⟨r, by rw [e]⟩
  · cases h4
def impB (x : Str) (id : String) (K : Fr1) : Bool := He.eqO (PySem.W.nsIn K mainGlobals x) (some (some (.builtin id)))
theorem imp_ok {K : Fr1} {h : Heap} {mg : Str → Option Value} (X : K.In h) (G : h.Ns mainGlobals mg) {x : Str} {id : String} (c : impB x id K = true) : mg x = some (.builtin id) :=
  PySem.W.mg_of X G (He.eqO_ok c)
def binB (x m r : Str) (K : Fr1) : Bool := PySem.W.selfFirst K (He.ga K x) && (He.eqO (PySem.W.findIn K (.ref (He.ga K x)) m) (some (some (.ref (He.ma K (He.ga K x) m)))) &&
  (PySem.W.isFn K (.ref (He.ma K (He.ga K x) m)) && (He.eqO (PySem.W.findIn K (.ref (He.ga K x)) r) (some none) && decide (PySem.W.subIn K (.type "int") (.ref (He.ga K x)) = some false))))
def tyNames : List String := ["NoneType", "bool", "int", "str", "list", "tuple", "dict"]
def cmpB (x m : Str) (K : Fr1) : Bool := He.eqO (PySem.W.findIn K (.ref (He.ga K x)) m) (some (some (.ref (He.ma K (He.ga K x) m)))) &&
  (PySem.W.isFn K (.ref (He.ma K (He.ga K x) m)) && tyNames.all fun T => decide (PySem.W.subIn K (.type T) (.ref (He.ga K x)) = some false))
/-- the binding of the law's one argument -/
theorem bind1 {K : Fr1} {x qual y : Str} {st : Stmt} {f : Addr} {fd : FuncData} (F : Fun K x qual st f fd) (s : Shared) (v : Value)
    (h : ∀ (kV doc pm : Value) (an : Option Addr) (cv ct : Value), bindArgs (PySem.W.fnOf x qual (defArgs st) (defBody st) (defScope st) .none kV doc pm an cv ct) ⟨[v], []⟩ = pure [(y, v)] := by intros; rfl) : BindsTo s fd ⟨[v], []⟩ [(y, v)] := by
  obtain ⟨oc, od, kV, doc, pm, an, cv, ct, osl, rfl, lk, hcd⟩ := F.ex
  exact .of_eq (h kV doc pm an cv ct)
end FoZ

set_option maxHeartbeats 4100000
/-! Rules that the layer lacks: operators of own classes, powers and quotients of greater ints, calls by keywords alone. -/
namespace FoA
open PySem PySem.Spec PyProof.Rows L2
section
variable {X : Cx}
/-! ### numbers -/
def CPowW (i j : Int) : Prop := 0 ≤ j ∧ j ≤ 1000 ∧ i.natAbs < 2 ^ 1000
theorem bits_of {i : Int} {n : Nat} (h0 : 0 < n) (h : i.natAbs < 2 ^ n) : Builtin.Int.intBits i ≤ n := by
  have z := PySem.Flt.log2_lt_of h0 h
  unfold Builtin.Int.intBits
  split <;> omega
theorem op_powW : OpR X (binaryOp .Pow) (rI CPowW fun i j => .int (i ^ j.toNat)) := opI fun i j _ _ _ _ _ hc q => by
  obtain ⟨h1, h2, h3⟩ := hc
  refine pow_int h1 ?_ q
  have b := bits_of (by decide) h3
  have b2 : (Builtin.Int.intBits i : Int) ≤ 1000 := by omega
  have b3 : (Builtin.Int.intBits i : Int) * j ≤ 1000 * 1000 := Int.mul_le_mul b2 h2 h1 (by decide)
  exact Int.le_trans b3 (by decide)
/-- // by any divisor but 0 below 2 ^ 9000 -/
def CDivZ (_ j : Int) : Prop := j ≠ 0 ∧ j.natAbs.log2 < 9000
theorem op_fdivZ : OpR X (binaryOp .FloorDiv) (rI CDivZ fun i j => .int (i.fdiv j)) :=
  opI fun _ _ _ _ _ _ _ hc q => floordiv_int hc.1 q (.inl (PyProof.noPylong_of_log2 hc.2))
theorem divZ_of {i j : Int} {b : Nat} (h : j ≠ 0) (hb : j.natAbs < 2 ^ b) (h0 : 0 < b) (h9 : b ≤ 9000) : CDivZ i j :=
  ⟨h, Nat.lt_of_lt_of_le (PySem.Flt.log2_lt_of h0 hb) h9⟩

/-! ### what a method hands back is never NotImplemented -/
theorem back_ok {pz : List (Addr × Obj)} {τ : L2.St} {Q : VK} {u : Value} {s : Shared} (h : EP X pz τ Q u s) :
    PySem.W.CmpBack (EP X pz τ Q) u s := by
  obtain ⟨v, H, I, r, q⟩ := h
  have z : EP X pz τ Q u s := ⟨v, H, I, r, q⟩
  cases v with
  | non => cases (show u = Value.none from r); exact z
  | bl b => cases (show u = Value.bool b from r); exact z
  | int i => obtain ⟨t, e⟩ := (show ∃ t, u = Value.int i t from r); cases e; exact z
  | str x => obtain ⟨t, e⟩ := (show ∃ t, u = Value.str x t from r); cases e; exact z
  | byt b => obtain ⟨t, e⟩ := (show ∃ t, u = Value.bytes b t from r); cases e; exact z
  | flt b => obtain ⟨t, e⟩ := (show ∃ t, u = Value.float b t from r); cases e; exact z
  | ref a => cases (show u = Value.ref a from r); exact z
  | ty n => cases (show u = Value.type n from r); exact z

/-! ### a op b, a of an own class, b of the class or an int -/
/-- what the written part says of the class's method for op -/
structure BinC (K : PySem.W.Frag) (C f : Addr) (op : Operator) : Prop where
  sf : PySem.W.selfFirst K C = true
  at_ : PySem.W.findIn K (.ref C) (PySem.dunder op.info.2) = some (some (.ref f))
  (fn : PySem.W.isFn K (.ref f) = true)
  nr : PySem.W.findIn K (.ref C) (dunderR op.info.2) = some none
  ni : PySem.W.subIn K (.type "int") (.ref C) = some false
def rBin (C : Addr) (sp : Sp) (E : XK) : R2 := fun x y H Q => ∃ a dx fs, x = .ref a ∧ H a = some (.ins C dx fs) ∧
  ((∃ i, y = .int i) ∨ ∃ b dy gs, y = .ref b ∧ H b = some (.ins C dy gs)) ∧ sp [x, y] H Q E
section
variable {CX : CXT} {k : Nat} {C f : Addr} {fd : FuncData} {ps : List Str} {sp : Sp} {E : XK} {op : Operator}
theorem op_own {fo ro : Option Value} (F : FnOk X.prog X.w X.K X.mg X.base CX k f fd ps sp) (hr : Room k X.A) (hb : Binds X.K fd ps []) (hx : Passes CX X E) (B : BinC X.K C f op)
    (h1 : PySem.W.findIn X.K (.type "int") (PySem.dunder op.info.2) = some fo) (h2 : PySem.W.findIn X.K (.type "int") (dunderR op.info.2) = some ro) : OpR X (binaryOp op) (rBin C sp E) := by
  intro pz s τ H x y v u Q I rx ry h
  obtain ⟨a, dx, fs, rfl, ea, hy, q⟩ := h
  cases rx
  obtain ⟨mA, J, _⟩ := ins_get I.hok ea
  obtain ⟨od, J, _⟩ := J.look
  obtain ⟨m, hF⟩ := I.fr
  have call := run_fn (us := [.ref a, u]) (vs := [.ref a, y]) (dvs := []) F hr hb .nil hx I (.cons rfl (.cons ry .nil)) (by simpa using q)
  have back := wpAny_mono call (fun r s' z => back_ok z) fun _ _ e => e
  rcases hy with ⟨i, rfl⟩ | ⟨b, dy, gs, rfl, eb⟩
  · obtain ⟨t, rfl⟩ := ry
    exact PySem.W.ksp_binT hF I.ok.mod.kin J rfl B.sf B.at_ B.fn B.nr (.inl rfl) h1 h2 B.ni back
  · cases ry
    obtain ⟨mB, J', _⟩ := ins_get I.hok eb
    obtain ⟨od', J', _⟩ := J'.look; exact PySem.W.binop_K hF I.ok.mod.kin J J'.type B.sf B.at_ B.fn back
/-- -a, a of an own class -/
theorem un_own (F : FnOk X.prog X.w X.K X.mg X.base CX k f fd ps sp) (hr : Room k X.A) (hb : Binds X.K fd ps []) (hx : Passes CX X E)
    (h1 : PySem.W.findIn X.K (.ref C) "__neg__" = some (some (.ref f))) (h2 : PySem.W.isFn X.K (.ref f) = true) :
    UnR X (unaryOp .USub) (fun x H Q => ∃ a dx fs, x = .ref a ∧ H a = some (.ins C dx fs) ∧ sp [x] H Q E) := by
  intro pz s τ H x v Q I rx h
  obtain ⟨a, dx, fs, rfl, ea, q⟩ := h
  cases rx
  obtain ⟨mA, J, _⟩ := ins_get I.hok ea
  obtain ⟨od, J, _⟩ := J.look
  obtain ⟨m, hF⟩ := I.fr
  exact PySem.W.ksp_neg hF I.ok.mod.kin J h1 h2 (run_fn (us := [.ref a]) (vs := [.ref a]) (dvs := []) F hr hb .nil hx I (.cons rfl .nil) (by simpa using q))
/-! ### a == b, a < b, a <= b by an own method: b a plain value, a list, a tuple, a dict, an object of the class -/
inductive OthV (H : Hp) (C : Addr) : V → Prop where
  | non : OthV H C .non
  | bl (b : Bool) : OthV H C (.bl b)
  | int (i : Int) : OthV H C (.int i)
  | str (x : Str) : OthV H C (.str x)
  | lst {a : Addr} {xs : List V} (e : H a = some (.lst xs)) : OthV H C (.ref a)
  | tup {a : Addr} {xs : List V} (e : H a = some (.tup xs)) : OthV H C (.ref a)
  | dK {a : Addr} {xs : List (Key × V)} (e : H a = some (.dK xs)) : OthV H C (.ref a)
  | ins {a dx : Addr} {fs : List (Str × V)} (e : H a = some (.ins C dx fs)) : OthV H C (.ref a)
structure CmpC (K : PySem.W.Frag) (C f : Addr) (op : CmpOp) : Prop where
  at_ : PySem.W.findIn K (.ref C) (cmpInfo op).2.1 = some (some (.ref f))
  (fn : PySem.W.isFn K (.ref f) = true)
  nt : ∀ T ∈ ["NoneType", "bool", "int", "str", "list", "tuple", "dict"], PySem.W.subIn K (.type T) (.ref C) = some false
theorem CmpC.ty {K : PySem.W.Frag} {C f : Addr} {op : CmpOp} (c : CmpC K C f op) {T : String} (h : T ∈ ["NoneType", "bool", "int", "str", "list", "tuple", "dict"]) : PySem.W.notFirst K C (.type T) = true := by
  unfold PySem.W.notFirst
  rw [c.nt T h]
  exact Bool.or_eq_true_iff.mpr (.inr (beq_self_eq_true _))
def rCmp (C : Addr) (sp : Sp) (E : XK) : R2 := fun x y H Q => ∃ a dx fs, x = .ref a ∧ H a = some (.ins C dx fs) ∧ OthV H C y ∧ sp [x, y] H Q E
theorem look_type {pz : List (Addr × Obj)} {s : Shared} {τ : L2.St} {H : Hp} {a : Addr} {T : String} (o : Obj) (h : s.heap.get? a = some o) (c : o.cls = .type T) {M : Model} :
    PySem.W.Looks M s.heap (typeOf (.ref a)) (.type T) := fun A Q E s k q => wpAny_typeOf_ref (k _ _ h) (by rw [c]; exact q)
theorem op_ownC {op : CmpOp} (F : FnOk X.prog X.w X.K X.mg X.base CX k f fd ps sp) (hr : Room k X.A) (hb : Binds X.K fd ps []) (hx : Passes CX X E) (B : CmpC X.K C f op)
    (ho : ∀ v u : Value, compareOp op v u = richCompare op v u) : OpR X (compareOp op) (rCmp C sp E) := by
  intro pz s τ H x y v u Q I rx ry h
  obtain ⟨a, dx, fs, rfl, ea, hy, q⟩ := h
  cases rx
  rw [ho]
  obtain ⟨mA, J, _⟩ := ins_get I.hok ea
  obtain ⟨od, J, _⟩ := J.look
  obtain ⟨m, hF⟩ := I.fr
  have call := run_fn (us := [.ref a, u]) (vs := [.ref a, y]) (dvs := []) F hr hb .nil hx I (.cons rfl (.cons ry .nil)) (by simpa using q)
  have back := wpAny_mono call (fun r s' z => back_ok z) fun _ _ e => e
  have hu := hr.units0
  cases hy with
  | non => cases ry; exact PySem.W.cmp_K hu hF I.ok.mod.kin J (PySem.W.Looks.of_pure rfl) (B.ty (T := "NoneType") (by simp)) B.at_ B.fn back
  | bl b => cases ry; exact PySem.W.cmp_K hu hF I.ok.mod.kin J (PySem.W.Looks.of_pure rfl) (B.ty (T := "bool") (by simp)) B.at_ B.fn back
  | int i => obtain ⟨t, rfl⟩ := ry; exact PySem.W.cmp_K hu hF I.ok.mod.kin J (PySem.W.Looks.of_pure rfl) (B.ty (T := "int") (by simp)) B.at_ B.fn back
  | str z => obtain ⟨t, rfl⟩ := ry; exact PySem.W.cmp_K hu hF I.ok.mod.kin J (PySem.W.Looks.of_pure rfl) (B.ty (T := "str") (by simp)) B.at_ B.fn back
  | @lst b xs e =>
    cases ry
    obtain ⟨_, _, n, _, h1⟩ := (show ObjOk X.prog X.w H s.heap b (.lst xs) from I.hok b _ e)
    exact PySem.W.cmp_K hu hF I.ok.mod.kin J (look_type (pz := pz) (τ := τ) (H := H) _ h1 rfl) (B.ty (T := "list") (by simp)) B.at_ B.fn back
  | @tup b xs e =>
    cases ry
    obtain ⟨_, _, _, o, h1, h2, _⟩ := (show ObjOk X.prog X.w H s.heap b (.tup xs) from I.hok b _ e)
    exact PySem.W.cmp_K hu hF I.ok.mod.kin J (look_type (pz := pz) (τ := τ) (H := H) _ h1 h2) (B.ty (T := "tuple") (by simp)) B.at_ B.fn back
  | @dK b xs e =>
    cases ry
    obtain ⟨_, _, vs, _, o, es, ep, h1, h2, _⟩ := (show ObjOk X.prog X.w H s.heap b (.dK xs) from I.hok b _ e)
    exact PySem.W.cmp_K hu hF I.ok.mod.kin J (look_type (pz := pz) (τ := τ) (H := H) _ h1 h2.1) (B.ty (T := "dict") (by simp)) B.at_ B.fn back
  | @ins b dy gs e =>
    cases ry
    obtain ⟨mB, J', _⟩ := ins_get I.hok e
    obtain ⟨od', J', _⟩ := J'.look; exact PySem.W.cmp_K hu hF I.ok.mod.kin J J'.type (by simp [PySem.W.notFirst]) B.at_ B.fn back
end
end
section
variable {X : Cx}
theorem call_intI : CallR X (.type "int") (fun xs H Q => ∃ i, xs = [.int i] ∧ Q (.int i) H) := fun pz s τ H xs us Q I r h =>
  call_int1 pz s τ H xs us Q I r (.inl h)
theorem call_intB : CallR X (.type "int") (fun xs H Q => ∃ k, xs = [.bl k] ∧ Q (.int (if k then 1 else 0)) H) := fun pz s τ H xs us Q I r h =>
  call_int1 pz s τ H xs us Q I r (.inr h)
end
end FoA

set_option maxHeartbeats 4100000
namespace FoB
open PySem PySem.Spec PyProof.Rows L2 FoZ
section
variable {K : PySem.W.Frag} {x m r : Str}
theorem bin_raw {op : Operator} (h : binB x m r K = true) (hm : PySem.dunder op.info.2 = m) (hr : dunderR op.info.2 = r) : FoA.BinC K (He.ga K x) (He.ma K (He.ga K x) m) op := by
  obtain ⟨h1, h⟩ := He.ba h
  obtain ⟨h2, h⟩ := He.ba h
  obtain ⟨h3, h⟩ := He.ba h
  obtain ⟨h4, h5⟩ := He.ba h
  exact ⟨h1, by rw [hm]; exact He.eqO_ok h2, h3, by rw [hr]; exact He.eqO_ok h4, of_decide_eq_true h5⟩
theorem bin_add (h : binB x "__add__" "__radd__" K = true) : FoA.BinC K (He.ga K x) (He.ma K (He.ga K x) "__add__") .Add := bin_raw h (by kernel_rfl) (by kernel_rfl)
theorem bin_sub (h : binB x "__sub__" "__rsub__" K = true) : FoA.BinC K (He.ga K x) (He.ma K (He.ga K x) "__sub__") .Sub := bin_raw h (by kernel_rfl) (by kernel_rfl)
theorem bin_mul (h : binB x "__mul__" "__rmul__" K = true) : FoA.BinC K (He.ga K x) (He.ma K (He.ga K x) "__mul__") .Mult := bin_raw h (by kernel_rfl) (by kernel_rfl)
theorem cmp_raw {op : CmpOp} (h : cmpB x m K = true) (hm : (cmpInfo op).2.1 = m) : FoA.CmpC K (He.ga K x) (He.ma K (He.ga K x) m) op := by
  obtain ⟨h1, h⟩ := He.ba h
  obtain ⟨h2, h3⟩ := He.ba h
  exact ⟨by rw [hm]; exact He.eqO_ok h1, h2, fun T hT => of_decide_eq_true (List.all_eq_true.mp h3 T hT)⟩
theorem cmp_eq (h : cmpB x "__eq__" K = true) : FoA.CmpC K (He.ga K x) (He.ma K (He.ga K x) "__eq__") .Eq := cmp_raw h rfl
theorem cmp_lt (h : cmpB x "__lt__" K = true) : FoA.CmpC K (He.ga K x) (He.ma K (He.ga K x) "__lt__") .Lt := cmp_raw h rfl
theorem cmp_le (h : cmpB x "__le__" K = true) : FoA.CmpC K (He.ga K x) (He.ma K (He.ga K x) "__le__") .LtE := cmp_raw h rfl
end
section
variable {K : PySem.W.Frag} {x : Str}
/-! ### isinstance -/
/-- an object of x's class: what isinstance looks at; its class against int, bool, the class itself; the plain types against the class -/
def isiB (x : Str) (K : PySem.W.Frag) : Bool := He.eqO (PySem.W.findIn K (.ref (He.ga K x)) "__class__") (some (some (.builtin "object.__class__"))) &&
  (He.eqO (PySem.W.specialIn K (.builtin "object.__class__") "__get__") (some (some (.builtin "getset_descriptor.__get__"))) &&
  (decide (PySem.W.takesIn K (.builtin "object.__class__") = some true) && (decide (PySem.W.mroIn K (He.ga K x) (.type "object") = some true) &&
  (decide (PySem.W.kitOne K (.ref (He.ga K x)) (.type "int") = some false) && (decide (PySem.W.kitOne K (.ref (He.ga K x)) (.type "bool") = some false) &&
  tyNames.all fun T => decide (PySem.W.kitOne K (.type T) (.ref (He.ga K x)) = some false))))))
structure Isi (K : PySem.W.Frag) (D : Addr) : Prop where
  (ha : PySem.W.findIn K (.ref D) "__class__" = some (some (.builtin "object.__class__")))
  (hn : PySem.W.specialIn K (.builtin "object.__class__") "__get__" = some (some (.builtin "getset_descriptor.__get__")))
  (ht : PySem.W.takesIn K (.builtin "object.__class__") = some true)
  (hm : PySem.W.mroIn K D (.type "object") = some true)
  ki : PySem.W.kitOne K (.ref D) (.type "int") = some false
  kb : PySem.W.kitOne K (.ref D) (.type "bool") = some false
  kt : ∀ T ∈ tyNames, PySem.W.kitOne K (.type T) (.ref D) = some false
theorem isi_ok (h : isiB x K = true) : Isi K (He.ga K x) := by
  obtain ⟨h1, h⟩ := He.ba h
  obtain ⟨h2, h⟩ := He.ba h
  obtain ⟨h3, h⟩ := He.ba h
  obtain ⟨h4, h⟩ := He.ba h
  obtain ⟨h5, h⟩ := He.ba h
  obtain ⟨h6, h7⟩ := He.ba h
  exact ⟨He.eqO_ok h1, He.eqO_ok h2, of_decide_eq_true h3, of_decide_eq_true h4, of_decide_eq_true h5, of_decide_eq_true h6, fun T hT => of_decide_eq_true (List.all_eq_true.mp h7 T hT)⟩
theorem kit_self {K : PySem.W.Frag} {D : Addr} : PySem.W.kitOne K (.ref D) (.ref D) = some true := by
  unfold PySem.W.kitOne
  rw [if_pos (beq_self_eq_true (Value.ref D))]
/-- isinstance(e, D), e an object of D -/
theorem TyI {D a dx : Addr} {H : Hp} {fs : List (Str × V)} (i : Isi K D) (c : Cls K D) (e : H a = some (.ins D dx fs)) : TyX K H (.ref a) (.ref D) := .base (.ins e c i.ha i.hn i.ht i.hm)
/-! ### own errors -/
structure ErrC (K : PySem.W.Frag) (D : Addr) : Prop where
  ex : PySem.W.excIn K D He.veBase "ValueError.__new__" = true
  kp : PySem.W.keepIn K (.ref D) = true
  sb : PySem.W.subIn K (.ref D) (.type "BaseException") = some true
  ty : PySem.W.typeIn K (.ref D) = some (.type "type")
  me : PySem.W.exmOne K (.ref D) (.ref D) = some true
def errB (x : Str) (K : PySem.W.Frag) : Bool := (He.Fa.exc x).ok K && (He.Fa.exm x x true).ok K
theorem err_ok (h : errB x K = true) : ErrC K (He.ga K x) := by
  obtain ⟨h1, h2⟩ := He.ba h
  obtain ⟨a, b, c, d⟩ := He.exc_ok h1
  exact ⟨a, b, c, d, He.exm_ok h2⟩
/-- an error with an __init__ of its own -/
def oexB (x : Str) (f : Str) (K : PySem.W.Frag) : Bool := (match K.lookup (He.ga K x) with
    | some ⟨.type t, _, .cls cdt, slt⟩ => decide (t = "type") && ((match cdt.mro with
      | .ref D :: bm => decide (D = He.ga K x) && PySem.HandSPX.refsVE bm
      | _ => false) && (cdt.hasDict && (!cdt.hasDel && (match slt.toList with
      | [_, _, _, _, some (.builtin n), _] => decide (n = "ValueError.__new__")
      | _ => false))))
    | _ => false) &&
  (He.eqO (PySem.W.findIn K (.ref (He.ga K x)) "__setattr__") (some (some (.builtin "object.__setattr__"))) &&
  (decide (PySem.W.subIn K (.ref (He.ga K x)) (.type "BaseException") = some true) && (decide (PySem.W.typeIn K (.ref (He.ga K x)) = some (.type "type")) && (PySem.W.keepIn K (.ref (He.ga K x)) &&
  (He.eqO (PySem.W.findIn K (.ref (He.ga K x)) f) (some none) && ((He.Fa.exm x x true).ok K &&
  (He.eqO (PySem.W.findIn K (.ref (He.ga K x)) "__init__") (some (some (.ref (He.ma K (He.ga K x) "__init__")))) && (decide (PySem.W.typeIn K (.ref (He.ma K (He.ga K x) "__init__")) = some (.type "function")) &&
  (He.eqO (PySem.W.findIn K (.ref (He.ga K x)) "__getattribute__") (some (some (.builtin "BaseException.__getattribute__"))) && (He.eqO (PySem.W.findIn K (.ref (He.ga K x)) "__getattr__") (some none) && PySem.W.hasDictIn K (He.ga K x)))))))))))
structure OErr (K : PySem.W.Frag) (D fI : Addr) (f : Str) : Prop where
  ox : OexC K D
  no : PySem.W.findIn K (.ref D) f = some none
  me : PySem.W.exmOne K (.ref D) (.ref D) = some true
  iC : PySem.W.findIn K (.ref D) "__init__" = some (some (.ref fI))
  tI : PySem.W.typeIn K (.ref fI) = some (.type "function")
  ga : PySem.W.findIn K (.ref D) "__getattribute__" = some (some (.builtin "BaseException.__getattribute__"))
  gg : PySem.W.findIn K (.ref D) "__getattr__" = some none
  (hd : PySem.W.hasDictIn K D = true)
theorem oerr_ok {f : Str} (h : oexB x f K = true) : OErr K (He.ga K x) (He.ma K (He.ga K x) "__init__") f := by
  obtain ⟨h1, h⟩ := He.ba h
  obtain ⟨h2, h⟩ := He.ba h
  obtain ⟨h3, h⟩ := He.ba h
  obtain ⟨h4, h⟩ := He.ba h
  obtain ⟨h5, h⟩ := He.ba h
  obtain ⟨h6, h⟩ := He.ba h
  obtain ⟨h7, h⟩ := He.ba h
  obtain ⟨h8, h⟩ := He.ba h
  obtain ⟨h9, h⟩ := He.ba h
  obtain ⟨h10, h⟩ := He.ba h
  obtain ⟨h11, h12⟩ := He.ba h
  refine ⟨⟨?_, He.eqO_ok h2, of_decide_eq_true h3, of_decide_eq_true h4, h5⟩, He.eqO_ok h6, He.exm_ok h7, He.eqO_ok h8, of_decide_eq_true h9, He.eqO_ok h10, He.eqO_ok h11, h12⟩
  generalize He.ga K x = D at h1
  split at h1
  · rename_i t dd cdt slt lk
    obtain ⟨g1, g⟩ := He.ba h1
    obtain ⟨g2, g⟩ := He.ba g
    obtain ⟨g3, g⟩ := He.ba g
    obtain ⟨g4, g5⟩ := He.ba g
    have e1 : t = "type" := of_decide_eq_true g1
    subst e1
    split at g2
    · rename_i C' bm hm
      obtain ⟨q1, q2⟩ := He.ba g2
      have e2 : C' = D := of_decide_eq_true q1
      subst e2
      split at g5
      · rename_i k0 k1 k2 k3 n k5 hs
        have e3 : n = "ValueError.__new__" := of_decide_eq_true g5
        subst e3
        obtain ⟨nm, bs, mro, ns, qn, hd, sn, sub, ab, col, del⟩ := cdt
        dsimp only at hm g3 g4
        subst hm g3
        have e4 : del = false := by
          cases del
          · rfl
          · cases g4
        subst e4
        have hsl : slt = #[k0, k1, k2, k3, some (.builtin "ValueError.__new__"), k5] := by
          obtain ⟨l⟩ := slt
          simp only at hs
          rw [hs]
        subst hsl
        exact ⟨nm, qn, ns, bs, bm, sn, sub, ab, col, dd, k0, k1, k2, k3, k5, lk, q2⟩
      · cases g5
    · cases g2
  · cases h1
end
section
variable {X : Cx} {D : Addr}
/-- X() -/
theorem pmk_own0 {x : Str} {p pos : Pos} (e : ErrC X.K D) (gC : X.mg x = some (.ref D)) (hg : Gl X x) (hdq : (x == ("__debug__" : Str)) = false := by decide) :
    L2.PMk X (.Call (.Name x p) [] [] pos) (fun _ H Q => Q (.ref D) none H) := by
  intro pz s τ H Q I h
  refine wpAny_Call_Name_kw (ld_glob I hg gC ?_ hdq)
  refine PySem.W.callWith_K0 I.kIn e.kp ?_
  show wpAny _ _ (call (.ref D) []) _ _ _
  obtain ⟨bm, N, nm, qn, bs, hdct, sn, sub, ab, col, dd, k0, k1, k2, k3, k5, mN, hC, hN, hni, T⟩ := exc_obj I.kIn e.ex
  refine wpAny_call_exc_subT PySem.F.excBase_ValueError T hC hN hni (fun h' e' hm => ?_) (Nat.zero_le _)
  exact mk_of I hm (raises_own e.sb e.ty) h (I.hok.gone hm.new)
end
end FoB

/-! Fractions in lowest terms, sizes of whole numbers. Plain mathematics. -/
namespace FoM
/-! ### sizes -/
def Sz (n : Nat) (i : Int) : Prop := i.natAbs < 2 ^ n
theorem Sz.mono {n m : Nat} {i : Int} (h : Sz n i) (l : n ≤ m) : Sz m i := Nat.lt_of_lt_of_le h (Nat.pow_le_pow_right (by decide) l)
theorem Sz.mul {n m : Nat} {i j : Int} (h : Sz n i) (g : Sz m j) : Sz (n + m) (i * j) := by
  unfold Sz
  rw [Nat.pow_add 2, Int.natAbs_mul]
  exact Nat.mul_lt_mul'' h g
theorem Sz.add {n : Nat} {i j : Int} (h : Sz n i) (g : Sz n j) : Sz (n + 1) (i + j) := by
  unfold Sz at *
  have e : 2 ^ (n + 1) = 2 ^ n + 2 ^ n := by rw [Nat.pow_succ]; omega
  omega
theorem Sz.sub {n : Nat} {i j : Int} (h : Sz n i) (g : Sz n j) : Sz (n + 1) (i - j) := by
  unfold Sz at *
  have e : 2 ^ (n + 1) = 2 ^ n + 2 ^ n := by rw [Nat.pow_succ]; omega
  omega
theorem Sz.neg {n : Nat} {i : Int} (h : Sz n i) : Sz n (-i) := by
  unfold Sz at *
  omega
theorem Sz.le {n : Nat} {i j : Int} (h : Sz n j) (l : i.natAbs ≤ j.natAbs) : Sz n i := Nat.lt_of_le_of_lt l h
theorem Sz.mulok {n m : Nat} {i j : Int} (h : Sz n i) (g : Sz m j) (h0 : 0 < n := by decide) (g0 : 0 < m := by decide) (l : n + m ≤ 1000000 := by decide) : L2.CMulW i j :=
  L2.wide_mul h g h0 g0 l
/-! ### the greatest common divisor, with the sign of the lower number -/
def gc (u d : Int) : Int := if d < 0 then -((Nat.gcd u.natAbs d.natAbs : Nat) : Int) else ((Nat.gcd u.natAbs d.natAbs : Nat) : Int)
def frN (u d : Int) : Int := u.fdiv (gc u d)
def frD (u d : Int) : Int := d.fdiv (gc u d)
theorem gc_abs (u d : Int) : (gc u d).natAbs = Nat.gcd u.natAbs d.natAbs := by
  unfold gc
  split <;> omega
theorem gc_ne {u d : Int} (h : d ≠ 0) : gc u d ≠ 0 := by
  intro e
  have z := gc_abs u d
  rw [e] at z
  have p : 0 < Nat.gcd u.natAbs d.natAbs := Nat.gcd_pos_of_pos_right _ (by omega)
  omega
theorem gc_le {u d : Int} (h : d ≠ 0) : (gc u d).natAbs ≤ d.natAbs := by
  rw [gc_abs]
  exact Nat.le_of_dvd (by omega) (Nat.gcd_dvd_right _ _)
theorem gc_dvd_l (u d : Int) : gc u d ∣ u := by
  rw [← Int.natAbs_dvd_natAbs, gc_abs]
  exact Nat.gcd_dvd_left _ _
theorem gc_dvd_r (u d : Int) : gc u d ∣ d := by
  rw [← Int.natAbs_dvd_natAbs, gc_abs]
  exact Nat.gcd_dvd_right _ _
theorem frN_mul {u d : Int} : frN u d * gc u d = u := Int.fdiv_mul_cancel (gc_dvd_l u d)
theorem frD_mul {u d : Int} : frD u d * gc u d = d := Int.fdiv_mul_cancel (gc_dvd_r u d)
theorem frD_ne {u d : Int} (h : d ≠ 0) : frD u d ≠ 0 := fun e => h (by rw [← frD_mul (u := u) (d := d), e, Int.zero_mul])
theorem gc_sign {u d : Int} (h : d ≠ 0) : (d < 0 ∧ gc u d < 0) ∨ (0 < d ∧ 0 < gc u d) := by
  have p : 0 < Nat.gcd u.natAbs d.natAbs := Nat.gcd_pos_of_pos_right _ (by omega)
  by_cases hd : d < 0
  · refine .inl ⟨hd, ?_⟩
    unfold gc
    rw [if_pos hd]
    omega
  · refine .inr ⟨by omega, ?_⟩
    unfold gc
    rw [if_neg hd]
    omega
theorem frD_pos {u d : Int} (h : d ≠ 0) : 0 < frD u d := by
  have e := frD_mul (u := u) (d := d)
  rcases gc_sign (u := u) h with ⟨a, b⟩ | ⟨a, b⟩
  · by_cases z : 0 < frD u d
    · exact z
    · have : 0 ≤ frD u d * gc u d := Int.mul_nonneg_of_nonpos_of_nonpos (by omega) (by omega)
      omega
  · by_cases z : 0 < frD u d
    · exact z
    · have : frD u d * gc u d ≤ 0 := Int.mul_nonpos_of_nonpos_of_nonneg (by omega) (by omega)
      omega
theorem fr_cop {u d : Int} (h : d ≠ 0) : Nat.gcd (frN u d).natAbs (frD u d).natAbs = 1 := by
  have e1 := congrArg Int.natAbs (frN_mul (u := u) (d := d))
  have e2 := congrArg Int.natAbs (frD_mul (u := u) (d := d))
  rw [Int.natAbs_mul, gc_abs] at e1 e2
  have p : 0 < Nat.gcd u.natAbs d.natAbs := Nat.gcd_pos_of_pos_right _ (by omega)
  have q : Nat.gcd ((frN u d).natAbs * Nat.gcd u.natAbs d.natAbs) ((frD u d).natAbs * Nat.gcd u.natAbs d.natAbs) = Nat.gcd u.natAbs d.natAbs := by rw [e1, e2]
  rw [Nat.gcd_mul_right] at q
  exact Nat.eq_of_mul_eq_mul_right p (by rw [Nat.one_mul]; exact q)
theorem frN_le {u d : Int} (h : d ≠ 0) : (frN u d).natAbs ≤ u.natAbs := by
  have e1 := congrArg Int.natAbs (frN_mul (u := u) (d := d))
  rw [Int.natAbs_mul, gc_abs] at e1
  have p : 0 < Nat.gcd u.natAbs d.natAbs := Nat.gcd_pos_of_pos_right _ (by omega)
  calc (frN u d).natAbs = (frN u d).natAbs * 1 := (Nat.mul_one _).symm
    _ ≤ (frN u d).natAbs * Nat.gcd u.natAbs d.natAbs := Nat.mul_le_mul_left _ p
    _ = u.natAbs := e1
theorem frD_le {u d : Int} (h : d ≠ 0) : (frD u d).natAbs ≤ d.natAbs := by
  have e1 := congrArg Int.natAbs (frD_mul (u := u) (d := d))
  rw [Int.natAbs_mul, gc_abs] at e1
  have p : 0 < Nat.gcd u.natAbs d.natAbs := Nat.gcd_pos_of_pos_right _ (by omega)
  calc (frD u d).natAbs = (frD u d).natAbs * 1 := (Nat.mul_one _).symm
    _ ≤ (frD u d).natAbs * Nat.gcd u.natAbs d.natAbs := Nat.mul_le_mul_left _ p
    _ = d.natAbs := e1
/-- the same fraction -/
theorem fr_cross {u d : Int} : frN u d * d = u * frD u d := by
  have e1 := frN_mul (u := u) (d := d)
  have e2 := frD_mul (u := u) (d := d)
  calc frN u d * d = frN u d * (frD u d * gc u d) := by rw [e2]
    _ = (frN u d * gc u d) * frD u d := by rw [Int.mul_comm (frD u d), Int.mul_assoc]
    _ = u * frD u d := by rw [e1]
/-- lowest terms are unique -/
theorem low_uniq {a b c e : Int} (hb : 0 < b) (he : 0 < e) (g1 : Nat.gcd a.natAbs b.natAbs = 1) (g2 : Nat.gcd c.natAbs e.natAbs = 1) (h : a * e = c * b) : a = c ∧ b = e := by
  have hn : a.natAbs * e.natAbs = c.natAbs * b.natAbs := by rw [← Int.natAbs_mul, ← Int.natAbs_mul, h]
  have d1 : b.natAbs ∣ e.natAbs := by
    have : b.natAbs ∣ a.natAbs * e.natAbs := ⟨c.natAbs, by rw [hn, Nat.mul_comm]⟩
    exact Nat.Coprime.dvd_of_dvd_mul_left (by rw [Nat.coprime_comm]; exact g1) this
  have d2 : e.natAbs ∣ b.natAbs := by
    have : e.natAbs ∣ c.natAbs * b.natAbs := ⟨a.natAbs, by rw [← hn, Nat.mul_comm]⟩
    exact Nat.Coprime.dvd_of_dvd_mul_left (by rw [Nat.coprime_comm]; exact g2) this
  have eb : b.natAbs = e.natAbs := Nat.dvd_antisymm d1 d2
  have eb' : b = e := by omega
  subst eb'
  refine ⟨?_, rfl⟩
  exact Int.eq_of_mul_eq_mul_right (by omega) h
theorem fr_eq {u d u' d' : Int} (h : d ≠ 0) (h' : d' ≠ 0) (e : u * d' = u' * d) : frN u d = frN u' d' ∧ frD u d = frD u' d' := by
  refine low_uniq (frD_pos h) (frD_pos h') (fr_cop h) (fr_cop h') ?_
  have c1 := fr_cross (u := u) (d := d)
  have c2 := fr_cross (u := u') (d := d')
  have hz : d * d' ≠ 0 := Int.mul_ne_zero h h'
  refine Int.eq_of_mul_eq_mul_right hz ?_
  calc frN u d * frD u' d' * (d * d') = (frN u d * d) * (frD u' d' * d') := by
        rw [Int.mul_assoc, Int.mul_assoc, ← Int.mul_assoc (frD u' d') d d', Int.mul_comm (frD u' d') d, Int.mul_assoc]
    _ = (u * frD u d) * (frD u' d' * d') := by rw [c1]
    _ = (u * d') * (frD u d * frD u' d') := by
        rw [Int.mul_assoc, Int.mul_assoc, Int.mul_comm (frD u' d') d', ← Int.mul_assoc (frD u d), Int.mul_comm (frD u d) d', Int.mul_assoc]
    _ = (u' * d) * (frD u d * frD u' d') := by rw [e]
    _ = (u' * frD u' d') * (frD u d * d) := by
        rw [Int.mul_assoc, Int.mul_assoc, Int.mul_comm (frD u d) (frD u' d'), ← Int.mul_assoc d, Int.mul_comm d, Int.mul_assoc (frD u' d'), Int.mul_comm d]
    _ = (frN u' d' * d') * (frD u d * d) := by rw [c2]
    _ = frN u' d' * frD u d * (d * d') := by
        rw [Int.mul_assoc, Int.mul_assoc, ← Int.mul_assoc d', Int.mul_comm d' (frD u d), Int.mul_assoc, Int.mul_comm d' d]
theorem fr_low {a b : Int} (hb : 0 < b) (g : Nat.gcd a.natAbs b.natAbs = 1) : frN a b = a ∧ frD a b = b := by
  have e : gc a b = 1 := by
    unfold gc
    rw [if_neg (by omega), g]
    rfl
  unfold frN frD
  rw [e]
  exact ⟨Int.fdiv_one a, Int.fdiv_one b⟩
theorem fr_one (a : Int) : frN a 1 = a ∧ frD a 1 = 1 := fr_low (by decide) (by simp)
/-- the sign of the upper number of a fraction with a lower number above 0 -/
theorem frN_sign {u d : Int} (h : 0 < d) : (0 < frN u d ↔ 0 < u) ∧ (frN u d < 0 ↔ u < 0) := by
  have c := fr_cross (u := u) (d := d)
  have p := frD_pos (u := u) (d := d) (by omega)
  refine ⟨⟨fun z => ?_, fun z => ?_⟩, ⟨fun z => ?_, fun z => ?_⟩⟩
  · have q : 0 < u * frD u d := by rw [← c]; exact Int.mul_pos z h
    exact Int.pos_of_mul_pos_left q p
  · have q : 0 < frN u d * d := by rw [c]; exact Int.mul_pos z p
    exact Int.pos_of_mul_pos_left q h
  · have q : u * frD u d < 0 := by rw [← c]; exact Int.mul_neg_of_neg_of_pos z h
    exact Int.neg_of_mul_neg_left q p
  · have q : frN u d * d < 0 := by rw [c]; exact Int.mul_neg_of_neg_of_pos z p
    exact Int.neg_of_mul_neg_left q h
end FoM

set_option maxHeartbeats 4100000
/-! The head of a program that begins with imports: the opening and the top by one kernel run each. -/
noncomputable section
namespace FoI
open PySem PySem.W PySem.Calls PyProof.Rows HandSHeadRun
/-- the state behind the opening, its heap as a tree -/
def treeOf (s : Shared) (r : PySem.W.BT × Nat) : SharedT := ⟨r.1, r.2, s.heap.life, s.gens, s.drawn, s.toks, s.os⟩
theorem treeOf_abs {s : Shared} {t : PySem.W.BT} {n : Nat} (e : putAll s.heap.objs.toList .nil 0 = some (t, n)) : (treeOf s (t, n)).abs = s := by
  have h := putAll_heap e
  show (⟨absHeap t n s.heap.life, s.gens, s.drawn, s.toks, s.os⟩ : Shared) = s
  rw [h]
def endS (st : SharedT → Thread → Option (SharedT × Thread)) (M : Nat) (p : Program) (s0 : Shared) : Option SharedT := match putAll s0.heap.objs.toList .nil 0 with
  | some (t, n) => frNat n fun n0 => goF st n0 (s0.heap.nsMap mainGlobals "__annotations__") M (treeOf s0 (t, n0)) (topStub p)
  | none => none
theorem endS_ok {M : Nat} {p : Program} {w : World} {s0 : Shared} {s : SharedT} (h : endS (stepT (denote treeTable) p w) M p s0 = some s) :
    topRun treeTable p w s0.heap.objs.size (s0.heap.nsMap mainGlobals "__annotations__") M s0 (topStub p) = some s.abs := by
  unfold endS at h
  cases e : putAll s0.heap.objs.toList .nil 0 with
  | none =>
    rw [e] at h
    cases h
  | some r =>
    obtain ⟨t, n⟩ := r
    rw [e] at h
    have h1 : (frNat n fun n0 => goF (stepT (denote treeTable) p w) n0 (s0.heap.nsMap mainGlobals "__annotations__") M (treeOf s0 (t, n0)) (topStub p)) = some s := h
    rw [frNat_eq] at h1
    have q := goF_ok h1
    have en : s0.heap.objs.size = n := by
      have eh := putAll_heap e
      have z : (absHeap t n s0.heap.life).objs.size = s0.heap.objs.size := by rw [eh]
      rw [← z]
      exact absHeap_size t n _
    rw [treeOf_abs e] at q
    rw [en]
    exact q
/-- the whole run, from nothing -/
def endI (tb : String → Option Builtin) (st : SharedT → Thread → Option (SharedT × Thread)) (M : Nat) (p : Program) (w : World) : Option (Shared × SharedT) :=
  match fencedOpening tb p w M with
  | some s0 => match endS st M p s0 with
    | some s => some (s0, s)
    | none => none
  | none => none
def looksI (p : Program) (s0 : Shared) (s : Shared) : Bool := (s0.heap.isNs mainGlobals && s0.gens.size == 0) && (staticsOk (importedModules p.main.body) s0.heap s.heap && namesBound p s.heap && gensDone s && laidKept s0.heap s.heap)
theorem left_imp {p q : Program} {lse : List PySem.Str} {Xt : Shared → Bool} {α : Type} {Yf : Shared → α} {Ya : World → α} {M : Nat}
    (run : ∀ w : World, (endI treeTable (stepT (denote treeTable) p w) M p w).map (fun s => (looksI p s.1 s.2.abs, openSeen q lse (importedModules p.main.body) Xt true s.2.abs, Yf s.2.abs)) = some (true, openGood q lse, Ya w)) :
    LeftO p q lse Xt Yf Ya M true := fun w => by
  obtain ⟨⟨s0, s⟩, hs, hv⟩ := Option.map_eq_some_iff.mp (run w)
  obtain ⟨m1, m2, m3⟩ : _ ∧ _ ∧ _ := by simpa only [Prod.mk.injEq] using hv
  unfold endI at hs
  cases e0 : fencedOpening treeTable p w M with
  | none =>
    rw [e0] at hs
    cases hs
  | some z =>
    rw [e0] at hs
    dsimp only at hs
    cases e1 : endS (stepT (denote treeTable) p w) M p z with
    | none =>
      rw [e1] at hs
      cases hs
    | some y =>
      rw [e1] at hs
      dsimp only at hs
      obtain ⟨rfl, rfl⟩ : z = s0 ∧ y = s := by
        have := Option.some.inj hs
        exact Prod.mk.inj this
      obtain ⟨a, b⟩ := Bool.and_eq_true_iff.mp m1
      have r := endS_ok e1
      have t : topFrom treeTable p w M z = some y.abs := by
        unfold topFrom
        rw [a]
        show (topRun treeTable p w z.heap.objs.size (z.heap.nsMap mainGlobals "__annotations__") M z (topStub p)).bind _ = _
        rw [r]
        show (match staticsOk (importedModules p.main.body) z.heap y.abs.heap && namesBound p y.abs.heap && gensDone y.abs && laidKept z.heap y.abs.heap with | true => some y.abs | false => none) = _
        rw [b]
      unfold openEnds
      rw [e0]
      show (topFrom treeTable p w M z).map _ = _
      rw [t]
      exact congrArg some (Prod.ext m2 m3)
/-- the run's equation at a world, by the library's twins -/
def RunI (r : OpenRow) (q : Program) (H : Hook) (ob : SharedT → H.α) (M : Nat) (lse : List PySem.Str) (w : World) : Prop :=
  (endI tabQ (stepQ (denQ tabQ) r.prog w) M r.prog w).map (fun s => (looksI r.prog s.1 s.2.abs, seenQ q lse (importedModules r.prog.main.body) (fun s => xlAt q [] s && recOk r.toRowW.records s) s.2.abs, ob s.2)) = some (true, openGood q lse, H.val w)
theorem head_imp {r : OpenRow} {q : Program} {H : Hook} {ob : SharedT → H.α} {M : Nat} {lse : List PySem.Str} {d : DefRec} {kwq : List (PySem.Str × PySem.Expr)} (ho : ∀ s : SharedT, ob s = H.obs s.abs)
    (run : ∀ w, RunI r q H ob M lse w)
    (hdef : defOf q r.name = some (d, kwq)) (hp : r.prog.theDef r.name = some (d.params, d.body, d.scope)) (hk : kwWritten? d.params.kwonlyargs d.params.kw_defaults = some kwq) (hwr : (!r.writes || r.records.isEmpty) = true)
    (k1 : r.wellSaid = true)
      (ok : (chainsOk q && opensWell r.prog && (frees r.toRowW && r.within.isEmpty)) = true) (hb : r.prog.bare) (hw : r.toRowW.promised)
    (call : WalkO q lse (XL q []) H.says r.toRowW d kwq fun f vs => PySem.call f vs) : r.Holds := by
  have lft : LeftO r.prog q lse (fun s => xlAt q [] s && recOk r.toRowW.records s) H.obs H.val M true :=
    left_imp fun w => by
      have z := run w
      have eob : ob = fun s => H.obs s.abs := funext ho
      unfold RunI at z
      rw [eob] at z
      have e2 : endI treeTable (stepT (denote treeTable) r.prog w) M r.prog w = endI tabQ (stepQ (denQ tabQ) r.prog w) M r.prog w := by
        rw [tabQ_eq, stepQ_eq, denQ_eq]
      rw [e2]
      simp only [seenQ_eq]
      exact z
  exact holds_open (r := r) (q := q) (loose := lse) (XP := XL q []) (YP := H.says) (d := d) (kwd := kwq) lft H.of H.keeps (fun s z => xl_of s (Bool.and_eq_true_iff.mp z).1) XL.keeps hdef hp hk (fun s z => recFacts_of (Bool.and_eq_true_iff.mp z).2) hwr k1 ok hb hw call
end FoI

set_option maxHeartbeats 4100000
/-! Calls by keywords alone; calls whose exceptions are wished for at the caller's slots. -/
namespace FoC
open PySem PySem.Spec PyProof.Rows L2
section
variable {X : Cx} {CX : CXT} {k n : Nat} {f C : Addr} {fd : FuncData} {ps ks : List Str} {sp : Sp} {E : XK} {x m : Str} {p pos apos : Pos} {e o : Expr} {es : List Expr} {kws : List Keyword} {t tk : TA} {ta te : TE} {g : List Value → List Value → List Value} {gV : List V → List V → List V}
/-- f(k = v, ..) -/
theorem pe_callN0 (F : FnOk X.prog X.w X.K X.mg X.base CX k f fd ps sp) (hr : Room k X.A) (hg : Gl X x) (hg2 : X.mg x = some (.ref f)) (hk : PySem.W.keepIn X.K (.ref f) = true) (hb : KBn X.K fd ps 0 ks g gV) (hx : Passes CX X E)
    (hkw : PK X kws tk) (hall : (backToKw pos (keywordEach kws X.env)).all (·.1.isSome) = true := by rfl) (hks : (backToKw pos (keywordEach kws X.env)).filterMap (·.1) = ks := by rfl)
    (hdq : (x == ("__debug__" : Str)) = false := by decide) (hpq : ((backTo pos (starEach [] X.env)).any (·.1) || (backToKw pos (keywordEach kws X.env)).any (·.1.isNone)) = false := by rfl) :
    PE X (.Call (.Name x p) [] kws pos) (tCallN 0 ks.length sp gV E tNil tk) := by
  refine ⟨fun pz s τ H Q I h => ?_⟩
  refine wpAny_Call_Name_kw (ld_glob I hg hg2 ?_ hdq)
  refine PySem.W.callWith_KW0 (h₀ := X.base) I.ok.mod.kin hk hall ?_ hpq
  refine thn (hkw.run pos pz s τ H _ I h) fun ws s2 ⟨zz, H2, J2, rk, l1, l2, q2⟩ => ⟨J2.kIn, ?_⟩
  rw [hks]
  exact run_fnN (us := []) (vs := []) F hr hb hx J2 .nil rk l1 l2 q2
/-- o.m(k = v, ..) -/
def tMethN (C : Addr) (m : Str) (nk : Nat) (sp : Sp) (gV : List V → List V → List V) (E : XK) (ta : TE) (tk : TA) : TE := fun τ H Q => ta τ H fun x H1 => ∃ a dx fs, x = .ref a ∧ H1 a = some (.ins C dx fs) ∧ fs.lookup m = none ∧
  tk τ H1 fun zz H2 => zz.length = nk ∧ sp (gV [x] zz) H2 Q E
theorem pe_methN0 {pl : Sem Bool} (he : PE X o ta) (c : Cls X.K C) (hg2 : Meth X.K C m f) (F : FnOk X.prog X.w X.K X.mg X.base CX k f fd ps sp) (hr : Room k X.A) (hb : KBn X.K fd ps 1 ks g gV) (hx : Passes CX X E) (hkw : PK X kws tk)
    (hall : (backToKw pos (keywordEach kws X.env)).all (·.1.isSome) = true := by rfl) (hks : (backToKw pos (keywordEach kws X.env)).filterMap (·.1) = ks := by rfl)
    (hpq : ((backTo pos (starEach [] X.env)).any (·.1) || (backToKw pos (keywordEach kws X.env)).any (·.1.isNone)) = false := by rfl)
    (ht : eval (.Call (.Attribute o m apos) [] kws pos) X.env = (do
      let ov ← eval o X.env
      standAt apos.atName
      let (f, first) ← holding [ov] (getMethod ov m pl)
      callWith pos f first (backTo pos (starEach [] X.env)) (backToKw pos (keywordEach kws X.env))) := by rfl) :
    PE X (.Call (.Attribute o m apos) [] kws pos) (tMethN C m ks.length sp gV E ta tk) := by
  refine ⟨fun pz s τ H Q I h => ?_⟩
  refine PySem.W.methodCall_KW (pl := pl) (thn (he.run pz s τ H _ I h) fun u s1 ⟨x, H1, J1, rx, a, dx, fs, ex, ea, l, q⟩ => ?_) ht
  subst ex
  obtain rfl : u = Value.ref a := rx
  refine getmeth_ok J1 ea c hg2 l ?_
  refine PySem.W.callWith_KW0 (first := [.ref a]) (h₀ := X.base) I.ok.mod.kin hg2.kp hall ?_ hpq
  refine thn (hkw.run pos pz s1 τ H1 _ J1 q) fun ws s2 ⟨zz, H2, J2, rk, l2, q2⟩ => ⟨J2.kIn, ?_⟩
  rw [hks]
  exact run_fnN (us := [.ref a]) (vs := [.ref a]) F hr hb hx J2 (.cons rfl .nil) rk rfl l2 q2
/-- how a def without defaults binds: n values and the keywords ks -/
theorem kbn {K : PySem.W.Frag} {x qual : Str} {st : Stmt} {f : Addr} {fd : FuncData} {ps ks : List Str} {n : Nat} (g : {α : Type} → List α → List α → List α) (F : Fun K x qual st f fd)
    (hrel : ∀ {vs zz : List V} {us ws : List Value}, Vals vs us → Vals zz ws → Vals (g vs zz) (g us ws))
    (h : ∀ (kV doc pm : Value) (an : Option Addr) (cv ct : Value) (us ws : List Value), us.length = n → ws.length = ks.length →
      bindArgs (PySem.W.fnOf x qual (defArgs st) (defBody st) (defScope st) .none kV doc pm an cv ct) ⟨us, ks.zip ws⟩ = pure (ps.zip (g us ws))) : KBn K fd ps n ks (fun us ws => g us ws) (fun vs zz => g vs zz) := by
  obtain ⟨oc, od, kV, doc, pm, an, cv, ct, ol, rfl, lk, hcd⟩ := F.ex
  exact ⟨fun s us ws _ l1 l2 => .of_eq (h kV doc pm an cv ct us ws l1 l2), fun r1 rr => hrel r1 rr⟩
end
section
variable {X : Cx} {CX : CXT} {k : Nat} {f C : Addr} {fd : FuncData} {ps : List Str} {sp : Sp} {dvs : List V} {ds : List Value} {E : L2.St → XK} {x m : Str} {p pos apos : Pos} {e o : Expr} {es : List Expr} {t : TA} {ta : TE}
/-- o.m(e, ..), what is raised wished for at the slots -/
def tMethS (C : Addr) (m : Str) (sp : Sp) (dvs : List V) (E : L2.St → XK) (ta : TE) (t : TA) : TE := fun τ H Q => ta τ H fun x H1 => ∃ a dx fs, x = .ref a ∧ H1 a = some (.ins C dx fs) ∧ fs.lookup m = none ∧
  t τ H1 fun vs H2 => sp (x :: (vs ++ dvs)) H2 Q (E τ)
theorem pe_methS {pl : Sem Bool} (he : PE X o ta) (c : Cls X.K C) (hg2 : Meth X.K C m f) (F : FnOk X.prog X.w X.K X.mg X.base CX k f fd ps sp) (hr : Room k X.A) (hb : Binds X.K fd ps ds) (hd : Vals dvs ds) (hx : ∀ τ, PassesAt CX X τ (E τ)) (ha : PA X (e :: es) t)
    (hst : starEach (e :: es) X.env = (false, eval e X.env) :: starEach es X.env := by rfl) (hpq : (backTo pos (starEach es X.env)).any (·.1) = false := by rfl)
    (ht : eval (.Call (.Attribute o m apos) (e :: es) [] pos) X.env = (do
      let ov ← eval o X.env
      standAt apos.atName
      let (f, first) ← holding [ov] (getMethod ov m pl)
      callWith pos f first (backTo pos (starEach (e :: es) X.env)) (backToKw pos (keywordEach [] X.env))) := by rfl) :
    PE X (.Call (.Attribute o m apos) (e :: es) [] pos) (tMethS C m sp dvs E ta t) := by
  refine ⟨fun pz s τ H Q I h => ?_⟩
  refine PySem.W.methodCall_KW (pl := pl) (thn (he.run pz s τ H _ I h) fun u s1 ⟨x, H1, J1, rx, a, dx, fs, ex, ea, l, q⟩ => ?_) ht
  subst ex
  obtain rfl : u = Value.ref a := rx
  refine getmeth_ok J1 ea c hg2 l ?_
  refine PySem.W.callWith_K (first := [.ref a]) (h₀ := X.base) I.ok.mod.kin hg2.kp (thn (ha.run pos pz s1 τ H1 _ J1 q) fun us s2 ⟨vs, H2, J2, r, q2⟩ => ⟨J2.kIn, ?_⟩) hst hpq
  exact run_fnSD (us := .ref a :: us) (vs := .ref a :: vs) F hr hb hd (hx τ) J2 (.cons rfl r) q2
/-- C(e, ..), what is raised wished for at the slots -/
def tMakeS (C : Addr) (sp : Sp) (dvs : List V) (E : L2.St → XK) (t : TA) : TE := fun τ H Q => t τ H fun vs H1 => ∀ x dx, H1 x = none → H1 dx = none → dx ≠ x →
  sp (.ref x :: (vs ++ dvs)) (upd (upd H1 dx (.own x)) x (.ins C dx [])) (fun v H2 => v = .non ∧ Q (.ref x) H2) (E τ)
theorem run_makeS {pz : List (Addr × Obj)} {τ : L2.St} {H : Hp} {s : Shared} {Q : VK} {us : List Value} {vs : List V} (M : Mk X.K C f) (F : FnOk X.prog X.w X.K X.mg X.base CX k f fd ps sp) (hr : Room (k + 1) X.A) (hb : Binds X.K fd ps ds) (hd : Vals dvs ds)
    (hx : PassesAt CX X τ (E τ)) (I : Inv X pz τ H s) (r : Vals vs us)
    (h : ∀ x dx, H x = none → H dx = none → dx ≠ x → sp (.ref x :: (vs ++ dvs)) (upd (upd H dx (.own x)) x (.ins C dx [])) (fun v H2 => v = .non ∧ Q (.ref x) H2) (E τ)) :
    wpAny (model X.prog X.w) X.A (call (.ref C) us) (EP X pz τ Q) X.xe s := by
  have hj := h (s.heap.objs.size + 1) s.heap.objs.size (I.hok.fresh (Nat.le_succ _)) (I.hok.fresh (Nat.le_refl _)) (Nat.ne_of_lt (Nat.lt_succ_self _)); have J2 := Inv.made (C := C) I
  have rr : Vals (V.ref (s.heap.objs.size + 1) :: (vs ++ dvs)) (Value.ref (s.heap.objs.size + 1) :: (us ++ ds)) := .cons rfl (r.append hd)
  have hn : (Value.ref (s.heap.objs.size + 1) :: us ++ ds).length = ps.length := by
    have e := rr.length
    rw [F.len _ _ _ _ hj] at e
    exact e.symm
  refine wpAny_call (make_map (f := f) I.kIn M.makes M.init (beq_iff_eq.mp M.fn) (codeAny_mono (F.run _ X.stack _ _ ⟨Value.ref (s.heap.objs.size + 1) :: us, []⟩ (Value.ref (s.heap.objs.size + 1) :: (us ++ ds)) _ _ (E τ) (hr.make C us [])
    (J2.env0.make C us []) (hb _ (Value.ref (s.heap.objs.size + 1) :: us) J2.kIn hn) rr hj) fun r s' hq' => ?_))
  cases r with
  | error e => exact hx pz _ _ e s' J2 hq'
  | ok fl =>
    cases fl with
    | ret u =>
      obtain ⟨v, H', I3, rv, ev, q9⟩ := J2.after hq'
      subst ev
      exact ⟨rv, ⟨V.ref (s.heap.objs.size + 1), H', I3, rfl, q9⟩⟩
    | next | brk | cont => exact False.elim hq'
theorem pe_makeS (M : Mk X.K C f) (F : FnOk X.prog X.w X.K X.mg X.base CX k f fd ps sp) (hr : Room (k + 1) X.A) (hg : Gl X x) (hg2 : X.mg x = some (.ref C)) (hb : Binds X.K fd ps ds) (hd : Vals dvs ds) (hx : ∀ τ, PassesAt CX X τ (E τ))
    (ha : PA X (e :: es) t) (hdq : (x == ("__debug__" : Str)) = false := by decide) (he : starEach (e :: es) X.env = (false, eval e X.env) :: starEach es X.env := by rfl) (hpq : (backTo pos (starEach es X.env)).any (·.1) = false := by rfl) :
    PE X (.Call (.Name x p) (e :: es) [] pos) (tMakeS C sp dvs E t) := by
  refine ⟨fun pz s τ H Q I h => ?_⟩
  refine wpAny_Call_Name_kw (ld_glob I hg hg2 ?_ hdq)
  refine PySem.W.callWith_K (h₀ := X.base) I.ok.mod.kin M.kp (thn (ha.run pos pz s τ H _ I h) fun us s1 ⟨vs, H1, J1, r, q⟩ => ⟨J1.kIn, ?_⟩) he hpq
  exact run_makeS M F hr hb hd (hx τ) J1 r q
end
/-! ### an own error's field, read where it is held -/
section
variable {X : Cx} {C fI : Addr} {f : Str}
/-- e.f, e the exception that the suite holds (at a; its class cls, its dict d) -/
def tExF (f : Str) (C : Addr) (a : Addr) (cls : Value) (d : Option Addr) (te : TE) : TE := fun τ H Q => te τ H fun x H1 => x = .ref a ∧ cls = .ref C ∧ ∃ (dd : Addr) (v : V) (fs : List (Str × V)), d = some dd ∧ H1 dd = some (.xd fs) ∧ fs.lookup f = some v ∧ Q v H1
theorem pe_exF {a : Addr} {oe : Obj} {cls : Value} {d : Option Addr} {e : Expr} {te : TE} {pos : Pos} (T : FoB.OErr X.K C fI f) (hz : Zc cls d oe) (hf : ∃ vs, oe.data = .fields vs) (hg2 : (a, oe) ∈ X.pn) (he : PE X e te)
    (hb : attributeBase e f X.env (eval e X.env) = eval e X.env := by rfl) :
    PE X (.Attribute e f pos) (tExF f C a cls d te) := by
  refine ⟨fun pz s τ H Q I h => ?_⟩
  refine attr_of hb (thn (he.run pz s τ H _ I h) fun u s1 hh => ?_)
  obtain ⟨x, H1, J1, rx, ex, ec, dd, v, fs, ed, ea, hl1, q⟩ := hh
  subst ex
  obtain rfl : u = Value.ref a := rx
  subst ec
  subst ed
  obtain ⟨ha, _⟩ := J1.pin (a, oe) (List.mem_append_left _ hg2)
  obtain ⟨vs, hd⟩ := hf
  have hx : ObjOk X.prog X.w H1 s1.heap dd (.xd fs) := J1.hok dd _ ea
  obtain ⟨mA, hns, hr⟩ := hx
  obtain ⟨od, ho, hn⟩ := lookIn_ns hns
  obtain ⟨u, hu, ru⟩ := RelO.some_of (v := v) (o := mA f) (by rw [← hl1]; exact hr f)
  have J : PySem.W.InstAt s1.heap a oe C (some od) := ⟨ha, hz.1, by unfold PySem.W.notCls; rw [hd] <;> rfl, by rw [hz.2]; exact ho⟩
  exact HandSPX.exc_get J1.kIn J T.ga T.gg T.ox.exC (PySem.W.findObj_own T.hd T.no rfl (by rw [hn, hu])) (handed_of ru) ⟨v, H1, J1.tok _, ru, q⟩
end
end FoC

set_option maxHeartbeats 4100000
/-! repr of scalars, and of lists and tuples of scalars, whatever is under way below. -/
namespace FoR
open PySem PySem.Spec PyProof.Rows L2
/-- what stands below may be taken as known -/
theorem wpAny_guards {α : Type} {M : Model} {A : Around} {t : Sem α} {Q : α → Shared → Prop} {E : Value → Shared → Prop} {s : Shared} (h : ∀ g, wpAny M { A with guards := some g } t Q E s) : wpAny M A t Q E s :=
  fun Γ p hΓ => h (Γ.code.guards ++ guardsOf Γ.below) Γ p ⟨hΓ.1, hΓ.2.1, hΓ.2.2.1, fun g hgd => Option.some.inj hgd, hΓ.2.2.2.2⟩
abbrev gd (X : Cx) (g : List Code) : Cx := { X with A := { X.A with guards := some g } }
section
variable {X : Cx} {pz : List (Addr × Obj)} {τ : L2.St} {H : Hp} {s : Shared} {g : List Code}
theorem ok_gd (okx : X.Ok) : (gd X g).Ok :=
  ⟨okx.mod, okx.kind, okx.glob, okx.blt, okx.above, okx.inj, okx.has, okx.cab, okx.hd, okx.frames, okx.stk, okx.exf, okx.bs, okx.bsz, okx.noex, okx.exfs, okx.funs, okx.frf⟩
theorem inv_gd (I : Inv X pz τ H s) : Inv (gd X g) pz τ H s :=
  ⟨ok_gd I.ok, I.os, I.bare, I.base, I.loc, I.cell, I.free, I.freeC, I.pin, I.hok, I.len⟩
theorem inv_of {okx : X.Ok} (I : Inv (gd X g) pz τ H s) : Inv X pz τ H s :=
  ⟨okx, I.os, I.bare, I.base, I.loc, I.cell, I.free, I.freeC, I.pin, I.hok, I.len⟩
theorem pe_gd {e : Expr} {t : List Code → TE} (h : ∀ g, PE (gd X g) e (t g)) : PE X e (fun τ H Q => ∀ g, t g τ H Q) := by
  refine ⟨fun pz s τ H Q I q => wpAny_guards fun g => ?_⟩
  refine wpAny_mono ((h g).run pz s τ H Q (inv_gd I) (q g)) (fun u s' z => ?_) fun _ _ z => z
  obtain ⟨v, H', I', r, q'⟩ := z
  exact ⟨v, H', inv_of (okx := I.ok) I', r, q'⟩
end
/-! ### texts -/
def scText : V → Str
  | .non => "None"
  | .bl b => if b then "True" else "False"
  | .int i => toString i
  | .str x => reprText x
  | _ => "?"
inductive Sc : V → Prop where
  | non : Sc .non
  | bl (b : Bool) : Sc (.bl b)
  | int (i : Int) (h : i.natAbs.log2 < 1920) : Sc (.int i)
  | str (x : Str) (h : (reprText x).length ≤ sizeLine) : Sc (.str x)
def lstF (self : Value) : Code × Pos → Bool := fun
  | (.builtin "list.__repr__.loop" ⟨v :: _, _⟩, _) => Builtin.List.listSameRef v self
  | _ => false
theorem lstF_cons (self : Value) (id : String) (v : Value) (rest : List Value) (kw : List (Str × Value)) (p : Pos) : lstF self (.builtin id ⟨v :: rest, kw⟩, p) = (decide (id = "list.__repr__.loop") && Builtin.List.listSameRef v self) := by
  by_cases h : id = "list.__repr__.loop"
  · subst h
    simp [lstF]
  · simp only [h, decide_false, Bool.false_and]
    unfold lstF
    split <;> simp_all
theorem lstF_nil (self : Value) (id : String) (kw : List (Str × Value)) (p : Pos) : lstF self (.builtin id ⟨[], kw⟩, p) = false := by
  unfold lstF
  split <;> simp_all
theorem lstF_pos (self : Value) (c : Code) (p : Pos) : lstF self (c, p) = lstF self (c, default) := by
  cases c with
  | builtin id args =>
    obtain ⟨pos, kw⟩ := args
    cases pos with
    | nil => rw [lstF_nil, lstF_nil]
    | cons v rest => rw [lstF_cons, lstF_cons]
  | _ => rfl
theorem lstF_off (self : Value) (c : Code) (p : Pos) (hcc : c.isGuard = false) : lstF self (c, p) = false := by
  cases c with
  | builtin id args =>
    obtain ⟨pos, kw⟩ := args
    cases pos with
    | nil => exact lstF_nil _ _ _ _
    | cons v rest =>
      simp [Code.isGuard, guardIds] at hcc
      rw [lstF_cons]
      simp [hcc]
  | _ => rfl
def way (f : Code × Pos → Bool) (g : List Code) : Bool := g.any fun c => f (c, default)
/-- what repr tells, g what is under way below -/
def seqText (g : List Code) (a : Addr) : HO → Str
  | .lst xs => if xs = [] then "[]" else if way (lstF (.ref a)) g then "[...]" else listText (xs.map scText)
  | .tup xs => if way (tupGuardF (.ref a)) g then "(...)" else tupleText (xs.map scText)
  | .dK _ => if way (dictGuardF (.ref a)) g then "{...}" else "{}"
  | _ => "?"
def repText (g : List Code) (H : Hp) : V → Str
  | .ref a => match H a with
    | some o => seqText g a o
    | none => "?"
  | v => scText v
inductive Sho (H : Hp) : V → Prop where
  | sc {v : V} (h : Sc v) : Sho H v
  | lst {a : Addr} {xs : List V} (e : H a = some (.lst xs)) (h : ∀ y ∈ xs, Sc y) (z : (listText (xs.map scText)).length ≤ sizeLine) : Sho H (.ref a)
  | tup {a : Addr} {xs : List V} (e : H a = some (.tup xs)) (h : ∀ y ∈ xs, Sc y) (z : (tupleText (xs.map scText)).length ≤ sizeLine) : Sho H (.ref a)
  | dic {a : Addr} (e : H a = some (.dK [])) : Sho H (.ref a)
theorem sc_is {prog : Program} {w : World} {v : V} {u : Value} (h : Sc v) (r : RelV v u) : ReprIs prog w u (scText v) := by
  cases h with
  | non => cases r; exact ReprIs.none
  | bl b => cases r; exact ReprIs.bool b
  | int i z => obtain ⟨t, rfl⟩ := r; exact ReprIs.int t z
  | str x z => obtain ⟨t, rfl⟩ := r; exact ReprIs.str x t z
theorem sc_all {prog : Program} {w : World} : ∀ {l : List V} {its : List Value}, Vals l its → (∀ y ∈ l, Sc y) → ReprAll prog w its (l.map scText)
  | [], _, r, _ => by
    cases r
    exact .nil
  | y :: l, _, r, h => by
    cases r with
    | cons r1 r2 => exact .cons (sc_is (h y List.mem_cons_self) r1) (sc_all r2 fun z hz => h z (List.mem_cons_of_mem _ hz))
theorem all_item {prog : Program} {w : World} : ∀ {l : List V} {its : List Value}, Vals l its → (∀ y ∈ l, Sc y) → ∀ (i : Nat) (y : Value), its.toArray[i]? = some y → ∃ t, (l.map scText)[i]? = some t ∧ ReprIs prog w y t
  | _, _, .nil, _, i, y, e => by simp at e
  | x :: l, _, .cons r1 r2, h, 0, y, e => by
    simp at e
    subst e
    exact ⟨_, rfl, sc_is (h x List.mem_cons_self) r1⟩
  | x :: l, _, .cons r1 r2, h, i + 1, y, e => by
    obtain ⟨t, e1, e2⟩ := all_item r2 (fun z hz => h z (List.mem_cons_of_mem _ hz)) i y (by simpa using e)
    exact ⟨t, by simpa using e1, e2⟩
section
variable {prog : Program} {w : World} {A : Around} {E : Value → Shared → Prop} {s : Shared} {a : Addr} {o : Obj} {g : List Code}
theorem list_in {x : Value} {l : List Value} {n : Nat} {Q : Value → Shared → Prop} (hTy : s.TypeIs (.ref a) "list") (hgd : A.guards = some g) (hrun : way (lstF (.ref a)) g = true) (hat : s.heap.get? a = some o) (hd : o.data = .seq (x :: l).toArray n)
    (hQ : ∀ u tk, Q (.str "[...]" u) { s with toks := tk }) : wpAny (model prog w) A (call (.builtin "list.__repr__") [.ref a]) Q E s := by
  refine wpAny_call (codeAny_call_builtin_own (Code.quiet_builtin _ (by decide +kernel)) F.entry_list_repr (F.slot_list_repr.check _ _ _ _ _ _ _ _ hTy (F.args_list_repr_1 _) ?_))
  intro Γ p hcc hΓ
  show Sem.wp (model prog w) Γ (Builtin.listReprAt 0 ⟨[.ref a], []⟩) _ _ p s
  unfold Builtin.listReprAt
  have e : Γ.below.any (lstF (.ref a)) = true := by
    rw [PySem.any_eq_guards (lstF_off _) (lstF_pos _), hΓ.2.2.2.1 g hgd]
    exact hrun
  simp [slotArgs, Builtin.List.listItems, seqItems?, Sem.wp_load_of (h := hat), hd, stack]
  show Sem.wp (model prog w) Γ (if (Γ.below.any (lstF (.ref a))) = true then _ else _) _ _ p s
  rw [if_pos e]
  simp [rule, retStr, ret]
  exact (PySem.wpAny_mkStr (A := A.under Γ.code) (hQ _ _) (by decide +kernel)) Γ p hΓ.in
theorem dict_in {n : Nat} {Q : Value → Shared → Prop} (hs : (a == sysModules) = false) (hgd : A.guards = some g) (hat : s.heap.get? a = some o) (hcc : o.cls = .type "dict") (hd : o.data = .dict #[] n)
    (hQ : ∀ u tk, Q (.str (if way (dictGuardF (.ref a)) g then "{...}" else "{}") u) { s with toks := tk }) : wpAny (model prog w) A (call (.builtin "dict.__repr__") [.ref a]) Q E s := by
  have hTy : s.TypeIs (.ref a) "dict" := ⟨o, hat, hcc⟩
  refine wpAny_call (codeAny_call_builtin_own (Code.quiet_builtin _ (by decide +kernel)) F.entry_dict_repr (F.slot_dict_repr.check _ _ _ _ _ _ _ _ hTy (F.args_dict_repr_1 _) ?_))
  show wpOwn (model prog w) A _ (Builtin.dictReprAt 0 ⟨[.ref a], []⟩) _ _ s
  unfold Builtin.dictReprAt
  refine wpOwn_bind (wpOwn_of_wpAny ?_); unfold Builtin.Dict.dictSlotNone
  refine wpAny_bind (wpAny_notOrdered_dict hTy ?_); show wpAny _ _ (pure (Value.ref a)) _ _ s
  refine wpAny_pure ?_
  rw [dictReprRunning_eq]
  refine wpOwn_bind (wpOwn_stackTailAny hgd (dictGuardF_off _) (dictGuardF_pos _) ?_)
  show wpOwn _ _ _ (if way (dictGuardF (.ref a)) g = true then _ else _) _ _ s
  cases hw : way (dictGuardF (.ref a)) g with
  | true =>
    rw [hw] at hQ
    rw [if_pos rfl]
    refine wpOwn_of_wpAny (wpAny_bind (wpAny_rule (wpAny_bind (wpAny_mkStr (wpAny_pure ?_) (by decide +kernel)))))
    exact hQ _ _
  | false =>
    rw [hw] at hQ
    rw [if_neg Bool.false_ne_true]; refine wpOwn_of_wpAny ?_
    show wpAny _ _ (Builtin.Dict.addrOf (.ref a) >>= _) _ _ s; refine wpAny_bind (wpAny_pure ?_)
    show wpAny _ _ (Builtin.Dict.showsAll a >>= _) _ _ s; unfold Builtin.Dict.showsAll
    rw [if_neg (by rw [hs]; exact Bool.false_ne_true)]
    refine wpAny_bind (wpAny_pure ?_); refine wpAny_bind (wpAny_dictEpoch hat hd ?_)
    refine wpAny_bind (wpAny_dictEntries hat hd ?_)
    refine wpAny_bind ?_
    show wpAny _ _ (forIn [0:0] _ _) _ _ s
    rw [Std.Legacy.Range.forIn_eq_forIn_range']; simp only [Std.Legacy.Range.size, Nat.sub_zero, Nat.add_sub_cancel, Nat.div_one, List.range'_zero]
    refine wpAny_pure ?_
    refine wpAny_bind (wpAny_mkStr (wpAny_pure ?_) (by decide +kernel)); exact hQ _ _
theorem tup_in {items : Array Value} {n : Nat} {ts : List Str} {Q : Value → Shared → Prop} (hTy : s.TypeIs (.ref a) "tuple") (hgd : A.guards = some g) (hat : s.heap.get? a = some o) (hd : o.data = .seq items n) (hTp : ReprAll prog w items.toList ts)
    (hsz : (tupleText ts).length ≤ sizeLine) (hQ : ∀ u tk, Q (.str (if way (tupGuardF (.ref a)) g then "(...)" else tupleText ts) u) { s with toks := tk }) : wpAny (model prog w) A (call (.builtin "tuple.__repr__") [.ref a]) Q E s := by
  refine wpAny_call (codeAny_call_builtin_own (Code.quiet_builtin _ (by decide +kernel)) F.entry_tuple_repr (F.slot_tuple_repr.check _ _ _ _ _ _ _ _ hTy (F.args_tuple_repr_1 _) ?_))
  show wpOwn (model prog w) A _ (Builtin.tupleReprAt 0 ⟨[.ref a], []⟩) _ _ s
  rw [tuple_repr_tree, tupleReprUnderWay_eq]; refine wpOwn_bind (wpOwn_stackTailAny hgd (tupGuardF_off _) (tupGuardF_pos _) ?_)
  show wpOwn _ _ _ (if way (tupGuardF (.ref a)) g = true then _ else _) _ _ s
  cases hw : way (tupGuardF (.ref a)) g with
  | true =>
    rw [hw] at hQ
    rw [if_pos rfl]
    refine wpOwn_of_wpAny (wpAny_bind (wpAny_rule (wpAny_bind (wpAny_mkStr (wpAny_pure ?_) (by decide +kernel)))))
    exact hQ _ _
  | false =>
    rw [hw] at hQ
    rw [if_neg Bool.false_ne_true]; exact wpOwn_of_wpAny (wpAny_tupleReprRest hat hd hTp (fun u tk => hQ u tk) (by omega))
end
theorem seq_lst {g : List Code} {a : Addr} {y : V} {ys : List V} : seqText g a (.lst (y :: ys)) = if way (lstF (.ref a)) g then ("[...]" : Str) else listText ((y :: ys).map scText) := by
  show (if (y :: ys) = [] then ("[]" : Str) else if way (lstF (.ref a)) g then ("[...]" : Str) else listText ((y :: ys).map scText)) = _
  rw [if_neg (by simp)]
section
variable {X : Cx} {g : List Code}
theorem call_rep (hgd : X.A.guards = some g) (hu : X.A.units + 1 < cLine) : CallR X (.builtin "repr") (fun xs H Q => ∃ v, xs = [v] ∧ Sho H v ∧ Q (.str (repText g H v)) H) := by
  intro pz s τ H xs us Q I r h
  obtain ⟨v, rfl, hs, q⟩ := h
  obtain ⟨u, rfl, rv0⟩ := vals1 r
  cases hs with
  | sc hv =>
    cases hv with
    | non =>
      cases rv0
      exact PySem.P.repr_of_none ⟨.str _, H, I.tok _, ⟨_, rfl⟩, q⟩
    | bl b =>
      cases rv0
      exact PySem.P.repr_of_bool ⟨.str _, H, I.tok _, ⟨_, rfl⟩, q⟩
    | int i z =>
      obtain ⟨t, rfl⟩ := rv0
      exact PySem.P.repr_of_int z ⟨.str _, H, I.tok _, ⟨_, rfl⟩, q⟩
    | str x z =>
      obtain ⟨t, rfl⟩ := rv0
      exact PySem.P.repr_of_str ⟨.str _, H, I.tok _, ⟨_, rfl⟩, q⟩ z
  | @lst a ys e hy z =>
    cases rv0
    obtain ⟨_, its, n, rv, ho⟩ := (show ObjOk X.prog X.w H s.heap a (.lst ys) from I.hok a _ e)
    have hTp : s.TypeIs (.ref a) "list" := ⟨_, ho, rfl⟩
    have qt : repText g H (.ref a) = seqText g a (.lst ys) := by
      show (match H a with | some o => seqText g a o | none => "?") = _
      rw [e]
    rw [qt] at q
    refine call_repr_slot hu hTp F.slot_list_repr.toG ?_
    cases rv with
    | nil => exact call_list_repr_empty hTp ho rfl ⟨_, _, rfl, .str _, H, I.tok _, ⟨_, rfl⟩, q⟩
    | @cons y u0 ys us r1 r2 =>
      rw [seq_lst] at q
      cases hw : way (lstF (.ref a)) g with
      | true =>
        rw [hw, if_pos rfl] at q
        exact list_in (A := X.A.in1) hTp hgd hw ho rfl fun u tk => ⟨_, _, rfl, .str _, H, I.tok _, ⟨_, rfl⟩, q⟩
      | false =>
        rw [hw, if_neg Bool.false_ne_true] at q
        refine call_list_repr (A := X.A.in1) (ts := (y :: ys).map scText) hTp hgd (fun v rest kw hm => ?_) ho rfl (by simpa using (Vals.length r2)) (fun i x hx => all_item (.cons r1 r2) hy i x hx)
          (fun h' u tk hk => ⟨_, _, rfl, .str _, H, I.kept hk, ⟨_, rfl⟩, q⟩) z
        have z1 := List.any_eq_false.mp (show (g.any fun c => lstF (.ref a) (c, default)) = false from hw) _ hm
        rw [lstF_cons] at z1
        simpa using z1
  | @tup a ys e hy z =>
    cases rv0
    obtain ⟨_, its, rv, o, ho, hcc, n, hd⟩ := (show ObjOk X.prog X.w H s.heap a (.tup ys) from I.hok a _ e)
    have hTp : s.TypeIs (.ref a) "tuple" := ⟨_, ho, hcc⟩
    have qt : repText g H (.ref a) = seqText g a (.tup ys) := by
      show (match H a with | some o => seqText g a o | none => "?") = _
      rw [e]
    rw [qt] at q
    refine call_repr_slot hu hTp F.slot_tuple_repr ?_
    exact tup_in (A := X.A.in1) hTp hgd ho hd (sc_all rv hy) z fun u tk => ⟨_, _, rfl, .str _, H, I.tok _, ⟨_, rfl⟩, q⟩
  | @dic a e =>
    cases rv0
    obtain ⟨_, hs, vs, kv, o, es, ep, ho, hx, hd, hk, hp, hn⟩ := (show ObjOk X.prog X.w H s.heap a (.dK []) from I.hok a _ e)
    cases kv
    have e0 : es = #[] := by
      cases es with
      | mk l =>
        cases hp
        rfl
    subst e0
    have hTp : s.TypeIs (.ref a) "dict" := ⟨_, ho, hx.1⟩
    have qt : repText g H (.ref a) = seqText g a (.dK []) := by
      show (match H a with | some o => seqText g a o | none => "?") = _
      rw [e]
    rw [qt] at q
    refine call_repr_slot hu hTp F.slot_dict_repr ?_
    exact dict_in (A := X.A.in1) hs hgd ho hx.1 hd fun u tk => ⟨_, _, rfl, .str _, H, I.tok _, ⟨_, rfl⟩, q⟩
end
end FoR

set_option maxHeartbeats 4100000
/-! a != b where the class has an own __eq__ alone. -/
namespace FoN
open PySem PySem.Spec PyProof.Rows L2
section
variable {prog : Program} {w : World} {A : Around} {E : Value → Shared → Prop} {s : Shared} {K : PySem.W.Frag} {x C f : Addr} {ox : Obj} {od : Option Obj} {b : Value}
/-- object.__ne__ asks __eq__ -/
theorem ne_entry {Q : Fin → Shared → Prop} (hcl : A.units < cLine) (kin : K.In s.heap) (I : PySem.W.InstAt s.heap x ox C od) (he : PySem.W.findIn K (.ref C) "__eq__" = some (some (.ref f))) (hf : PySem.W.isFn K (.ref f) = true)
    (h : wpAny (model prog w) A (call (.ref f) [.ref x, b]) (fun v s' => ∃ c, v = .bool c ∧ Q (.done (.ret (.bool (!c)))) s') E s) : wpAny (model prog w) A (Builtin.«object.__ne__» ⟨[.ref x, b], []⟩) Q E s := by
  have ask : wpAny (model prog w) A (callSpecialIfBound? (.ref x) (Str.ofString "__eq__") [b]) (fun r s' => ∃ c, r = some (.bool c) ∧ Q (.done (.ret (.bool (!c)))) s') E s := by
    refine PySem.W.ifBound_K kin I he hf (wpAny_mono h (fun v s' z => ?_) fun _ _ z => z)
    obtain ⟨c, rfl, q⟩ := z
    exact ⟨c, rfl, q⟩
  unfold Builtin.«object.__ne__»; repeat (first
    | with_reducible refine wpAny_cRoomFor hcl ?_
    | (refine wpAny_bind (m := callSpecialIfBound? (.ref x) (Str.ofString "__eq__") [b]) (wpAny_mono ask (fun r s' z => ?_) fun _ _ z => z); obtain ⟨c, rfl, q⟩ := z)
    | exact q
    | exact wpAny_pure q
    | (refine wpAny_bind (m := truthy (.bool _)) (wpAny_truthy_bool ?_))
    | wp_step)
theorem try_ne {Q : Value → Shared → Prop} (hcl : A.units + 1 < cLine) (kin : K.In s.heap) (I : PySem.W.InstAt s.heap x ox C od) (hm : PySem.W.mroIn K C (.type "object") = some true) (hn : PySem.W.findIn K (.ref C) "__ne__" = some (some (.builtin "object.__ne__")))
    (he : PySem.W.findIn K (.ref C) "__eq__" = some (some (.ref f))) (hf : PySem.W.isFn K (.ref f) = true)
    (h : wpAny (model prog w) A.in1 (call (.ref f) [.ref x, b]) (fun v s' => ∃ c, v = .bool c ∧ Q (.bool (!c)) s') E s) : wpAny (model prog w) A (tryCompare (.ref x) "__ne__" b) (fun r s' => ∃ v, r = some v ∧ Q v s') E s := by
  have go : wpAny (model prog w) A (call (.builtin "object.__ne__") [.ref x, b]) (fun v s' => ∃ c, v = .bool c ∧ Q v s') E s := by
    refine wpAny_call (codeAny_call_builtin F.cmp_object.ne.plain F.cmpEntry_ne (PySem.W.check_slot F.cmpKind_ne F.cmpSplit_ne (I.type.andThen (PySem.W.looks_mroIn kin hm)) (F.cmpArgs_ne _ _) ?_))
    refine ne_entry (A := A.in1) hcl kin I he hf (wpAny_mono h (fun v s' z => ?_) fun _ _ z => z)
    obtain ⟨c, rfl, q⟩ := z
    exact ⟨c, rfl, _, rfl, q⟩
  have back : wpAny (model prog w) A (call (.builtin "object.__ne__") ([.ref x] ++ [b]) >>= fun v => pure (some v)) (fun r s' => ∃ c, r = some (.bool c) ∧ Q (.bool c) s') E s := by
    refine wpAny_bind (wpAny_mono go (fun v s' z => ?_) fun _ _ z => z)
    obtain ⟨c, rfl, q⟩ := z
    exact wpAny_pure ⟨c, rfl, q⟩
  unfold tryCompare
  have ask : wpAny (model prog w) A (callSpecialIfBound? (.ref x) "__ne__" [b]) (fun r s' => ∃ c, r = some (.bool c) ∧ Q (.bool c) s') E s := by
    unfold callSpecialIfBound? bindSpecialIfBound?
    refine wpAny_holding (wpAny_bind (wpAny_bind (wpAny_bind (I.type.here ((PySem.W.looks_findIn kin hn).here ?_)))))
    refine wpAny_bind (wpAny_askSetting (wpAny_ite ?_)); split
    · exact wpAny_bind (wpAny_of_eq (F.cmp_object.ne.bind _) (wpAny_pure (by exact back)))
    · exact wpAny_tryCatch (wpAny_bind (wpAny_of_eq (F.cmp_object.ne.bind _) (wpAny_pure (by exact back))))
  refine wpAny_bind (wpAny_mono ask (fun r s' z => ?_) fun _ _ z => z)
  obtain ⟨c, rfl, q⟩ := z
  exact wpAny_pure ⟨_, rfl, q⟩
end
section
variable {X : Cx} {CX : CXT} {k : Nat} {f C : Addr} {fd : FuncData} {ps : List Str} {sp : Sp} {E : XK}
structure NeC (K : PySem.W.Frag) (C : Addr) : Prop where
  ne : PySem.W.findIn K (.ref C) "__ne__" = some (some (.builtin "object.__ne__"))
  ob : PySem.W.mroIn K C (.type "object") = some true
def neB (x : Str) (K : PySem.W.Frag) : Bool := He.eqO (PySem.W.findIn K (.ref (He.ga K x)) "__ne__") (some (some (.builtin "object.__ne__"))) && decide (PySem.W.mroIn K (He.ga K x) (.type "object") = some true)
theorem ne_ok {K : PySem.W.Frag} {x : Str} (h : neB x K = true) : NeC K (He.ga K x) := by
  obtain ⟨h1, h2⟩ := He.ba h
  exact ⟨He.eqO_ok h1, of_decide_eq_true h2⟩
/-- the callee runs a unit deeper -/
theorem run_in1 {pz : List (Addr × Obj)} {τ : L2.St} {H : Hp} {s : Shared} {Q : VK} {us : List Value} {vs : List V} (F : FnOk X.prog X.w X.K X.mg X.base CX k f fd ps sp) (hr : Room (k + 1) X.A) (hb : Binds X.K fd ps []) (hx : Passes CX X E)
    (I : Inv X pz τ H s) (r : Vals vs us) (h : sp vs H Q E) : wpAny (model X.prog X.w) X.A.in1 (call (.ref f) us) (EP X pz τ Q) X.xe s := by
  have hn : us.length = ps.length := by rw [← r.length]; exact F.len _ _ _ _ h
  have b := hb s us I.kIn (by rw [List.append_nil]; exact hn)
  rw [List.append_nil] at b
  have hr1 : Room k X.A.in1 := ⟨hr.hd, by have := hr.dp; show X.A.depth + 3 * k + 5 < _; omega, by have := hr.un; show X.A.units + 1 + 16 * k + 200 < _; omega⟩
  refine wpAny_call (codeAny_mono (F.run X.A.in1 X.stack s H ⟨us, []⟩ us vs Q E hr1 I.env0.in1 b r h) fun r s' hj => ?_)
  cases r with
  | error e => exact hx pz τ H s e s' I hj
  | ok fl =>
    cases fl with
    | ret u => exact I.after hj
    | next => exact False.elim hj
    | brk => exact False.elim hj
    | cont => exact False.elim hj
def rNe (C : Addr) (sp : Sp) (E : XK) : R2 := fun x y H Q => ∃ a dx fs i, x = .ref a ∧ H a = some (.ins C dx fs) ∧ y = .int i ∧ sp [x, y] H (fun v H' => ∃ b, v = .bl b ∧ Q (.bl (!b)) H') E
theorem op_neC (F : FnOk X.prog X.w X.K X.mg X.base CX k f fd ps sp) (hr : Room (k + 1) X.A) (hb : Binds X.K fd ps []) (hx : Passes CX X E) (B : FoA.CmpC X.K C f .Eq) (N : NeC X.K C) : OpR X (compareOp .NotEq) (rNe C sp E) := by
  intro pz s τ H x y v u Q I ra ry h
  obtain ⟨a, dx, fs, i, rfl, ea, rfl, q⟩ := h
  cases ra
  obtain ⟨t, rfl⟩ := ry
  obtain ⟨mA, Jx, _⟩ := ins_get I.hok ea
  obtain ⟨od, Jx, _⟩ := Jx.look
  have hcl : X.A.units + 1 < cLine := hu_of hr
  have kin := I.kIn
  have one : wpAny (model X.prog X.w) X.A (tryCompare (.ref a) "__ne__" (.int i t)) (fun r s' => ∃ z, r = some z ∧ EP X pz τ Q z s') X.xe s := by
    refine FoN.try_ne hcl kin Jx N.ob N.ne B.at_ B.fn ?_
    refine wpAny_mono (run_in1 (us := [.ref a, .int i t]) (vs := [.ref a, .int i]) F hr hb hx I (.cons rfl (.cons ⟨t, rfl⟩ .nil)) q) (fun r s' z => ?_) fun _ _ z => z
    obtain ⟨v, H', I', rv, b, rfl, q'⟩ := z
    cases rv
    exact ⟨b, rfl, .bl (!b), H', I', rfl, q'⟩
  show wpAny _ _ (richCompare .NotEq (.ref a) (.int i t)) _ _ _
  have sub := B.nt "int" (by simp)
  unfold richCompare
  simp only [oneThing_ref]
  refine wpAny_holding ?_
  refine wpAny_bind (wpAny_cRoomFor (Nat.lt_of_succ_lt hcl) ?_)
  refine wpAny_bind (Jx.type.here ?_)
  refine wpAny_bind ((PySem.W.Looks.of_pure (rfl : typeOf (.int i t) = pure (.type "int"))).here ?_)
  rw [if_pos (by simp)]
  refine wpAny_bind ((PySem.W.looks_subIn kin sub).here ?_)
  rw [if_neg Bool.false_ne_true]; refine wpAny_bind (wpAny_mono one (fun r s' z => ?_) fun _ _ z => z)
  obtain ⟨v, rfl, q'⟩ := z
  exact wpAny_pure q'
end
section
variable {K : PySem.W.Frag}
theorem int_add : PySem.W.findIn K (.type "int") (PySem.dunder (Operator.info .Add).2) = some (some (.builtin "int.__add__")) := by kernel_rfl
theorem int_addR : PySem.W.findIn K (.type "int") (dunderR (Operator.info .Add).2) = some (some (.builtin "int.__radd__")) := by kernel_rfl
theorem int_sub : PySem.W.findIn K (.type "int") (PySem.dunder (Operator.info .Sub).2) = some (some (.builtin "int.__sub__")) := by kernel_rfl
theorem int_subR : PySem.W.findIn K (.type "int") (dunderR (Operator.info .Sub).2) = some (some (.builtin "int.__rsub__")) := by kernel_rfl
theorem int_mul : PySem.W.findIn K (.type "int") (PySem.dunder (Operator.info .Mult).2) = some (some (.builtin "int.__mul__")) := by kernel_rfl
theorem int_mulR : PySem.W.findIn K (.type "int") (dunderR (Operator.info .Mult).2) = some (some (.builtin "int.__rmul__")) := by kernel_rfl
end
end FoN

set_option maxHeartbeats 4100000
/-! Classmethods that raise into a try, classmethods called by keywords alone, a class called by a local name. -/
namespace FoD
open PySem PySem.Spec PyProof.Rows L2 ClX
section
variable {X : Cx} {pz : List (Addr × Obj)} {τ : L2.St} {H : Hp} {s : Shared}
theorem run_cmS {CX : CXT} {k : Nat} {q g C : Addr} {sp : Sp} {fd : FuncData} {ps : List Str} {E : L2.St → XK} {Q : VK} {us : List Value} {vs : List V} (F : FnOk X.prog X.w X.K X.mg X.base CX k g fd ps sp) (hr : Room k X.A) (hb : Binds X.K fd ps []) (hx : PassesAt CX X τ (E τ))
    (I : Inv X ((q, PySem.W.methodObj (.ref g) (.ref C)) :: pz) τ H s) (r : Vals vs us) (h : sp (.ref C :: vs) H Q (E τ)) : wpAny (model X.prog X.w) X.A (call (.ref q) us) (EP X pz τ Q) X.xe s := by
  have rr : Vals (V.ref C :: vs) (Value.ref C :: us) := .cons rfl r
  have hn : (Value.ref C :: us).length = ps.length := by rw [← rr.length]; exact F.len _ _ _ _ h
  have b := hb s (Value.ref C :: us) I.kIn (by rw [List.append_nil]; exact hn)
  rw [List.append_nil] at b
  have z : wpAny (model X.prog X.w) X.A (call (.ref q) us) (EP X ((q, PySem.W.methodObj (.ref g) (.ref C)) :: pz) τ Q) X.xe s := by
    refine wpAny_call (PySem.W.method_call (pin_at I) (codeAny_mono (F.run X.A X.stack s H ⟨Value.ref C :: us, []⟩ (Value.ref C :: us) (V.ref C :: vs) Q (E τ) hr I.env0 b rr h) fun r s' hj => ?_))
    cases r with
    | error e => exact hx _ H s e s' I hj
    | ok fl =>
      cases fl with
      | ret u => exact I.after hj
      | next | brk | cont => exact False.elim hj
  exact thn z fun _ _ yy => unpinE yy
theorem run_cmN {CX : CXT} {k : Nat} {q g C : Addr} {sp : Sp} {fd : FuncData} {ps ks : List Str} {gf : List Value → List Value → List Value} {gV : List V → List V → List V} {E : XK} {Q : VK} {ws : List Value} {zs : List V} (F : FnOk X.prog X.w X.K X.mg X.base CX k g fd ps sp) (hr : Room k X.A) (hb : KBn X.K fd ps 1 ks gf gV) (hx : Passes CX X E)
    (I : Inv X ((q, PySem.W.methodObj (.ref g) (.ref C)) :: pz) τ H s) (rz : Vals zs ws) (l2 : zs.length = ks.length) (h : sp (gV [.ref C] zs) H Q E) : wpAny (model X.prog X.w) X.A (call (.ref q) [] (ks.zip ws)) (EP X pz τ Q) X.xe s := by
  have r1 : Vals [V.ref C] [Value.ref C] := .cons rfl .nil
  have rr := hb.rel r1 rz
  have z : wpAny (model X.prog X.w) X.A (call (.ref q) [] (ks.zip ws)) (EP X ((q, PySem.W.methodObj (.ref g) (.ref C)) :: pz) τ Q) X.xe s := by
    refine wpAny_call (PySem.W.method_call (pin_at I) (codeAny_mono (F.run X.A X.stack s H ⟨[Value.ref C], ks.zip ws⟩ (gf [Value.ref C] ws) _ Q E hr I.env0 (hb.to s [Value.ref C] ws I.kIn rfl (rz.length.symm.trans l2)) rr h) fun r s' hj => ?_))
    cases r with
    | error e => exact hx _ _ _ _ e s' I hj
    | ok fl =>
      cases fl with
      | ret u => exact I.after hj
      | next | brk | cont => exact False.elim hj
  exact thn z fun _ _ yy => unpinE yy
end
section
variable {X : Cx} {CX : CXT} {k : Nat} {C p g : Addr} {mc : Value} {sp : Sp} {fd : FuncData} {ps ks : List Str} {o e : Expr} {es : List Expr} {kws : List Keyword} {m : Str} {pos apos : Pos} {ta : TE} {t tk : TA} {pl : Sem Bool}
def tCMethS (C : Addr) (sp : Sp) (E : L2.St → XK) (ta : TE) (t : TA) : TE := fun τ H Q => ta τ H fun x H1 => x = .ref C ∧ t τ H1 fun vs H2 => sp (.ref C :: vs) H2 Q (E τ)
theorem pe_cmethS {E : L2.St → XK} (he : PE X o ta) (r : CRead X.K C mc) (c : CMet X.K C mc m p g) (F : FnOk X.prog X.w X.K X.mg X.base CX k g fd ps sp) (hr : Room k X.A) (hb : Binds X.K fd ps []) (hx : ∀ τ, PassesAt CX X τ (E τ)) (ha : PA X (e :: es) t)
    (hs2 : starEach (e :: es) X.env = (false, eval e X.env) :: starEach es X.env := by rfl) (hpq : (backTo pos (starEach es X.env)).any (·.1) = false := by rfl)
    (hev : eval (.Call (.Attribute o m apos) (e :: es) [] pos) X.env = (do
      let ov ← eval o X.env
      standAt apos.atName
      let (fn, fst) ← holding [ov] (getMethod ov m pl)
      callWith pos fn fst (backTo pos (starEach (e :: es) X.env)) (backToKw pos (keywordEach [] X.env))) := by rfl) :
    PE X (.Call (.Attribute o m apos) (e :: es) [] pos) (tCMethS C sp E ta t) := by
  refine ⟨fun pz s τ H Q I h => ?_⟩
  refine PySem.W.methodCall_KW (pl := pl) (thn (he.run pz s τ H _ I h) fun u s1 ⟨x, H1, I1, rx, ex, q⟩ => ?_) hev
  subst ex
  obtain rfl : u = Value.ref C := rx; refine getmethcm_ok I1 r c fun s2 I2 => ?_
  refine callwith_cm I2 (base_none I1 (Nat.le_refl _)) c.fi (thn (ha.run pos _ s2 τ H1 _ I2 q) fun us s3 ⟨vs, H2, I3, rv, q2⟩ => ⟨⟨pin_at I3, I3.kIn⟩, ?_⟩) hs2 hpq
  exact run_cmS F hr hb (hx τ) I3 rv q2
def tCMethN (C : Addr) (nk : Nat) (sp : Sp) (gV : List V → List V → List V) (E : XK) (ta : TE) (tk : TA) : TE := fun τ H Q => ta τ H fun x H1 => x = .ref C ∧ tk τ H1 fun zs H2 => zs.length = nk ∧ sp (gV [.ref C] zs) H2 Q E
theorem pe_cmethN0 {E : XK} {gf : List Value → List Value → List Value} {gV : List V → List V → List V} (he : PE X o ta) (r : CRead X.K C mc) (c : CMet X.K C mc m p g) (F : FnOk X.prog X.w X.K X.mg X.base CX k g fd ps sp) (hr : Room k X.A) (hb : KBn X.K fd ps 1 ks gf gV) (hx : Passes CX X E) (hkw : PK X kws tk)
    (hall : (backToKw pos (keywordEach kws X.env)).all (·.1.isSome) = true := by rfl) (hks : (backToKw pos (keywordEach kws X.env)).filterMap (·.1) = ks := by rfl)
    (hpq : ((backTo pos (starEach [] X.env)).any (·.1) || (backToKw pos (keywordEach kws X.env)).any (·.1.isNone)) = false := by rfl)
    (hev : eval (.Call (.Attribute o m apos) [] kws pos) X.env = (do
      let ov ← eval o X.env
      standAt apos.atName
      let (fn, fst) ← holding [ov] (getMethod ov m pl)
      callWith pos fn fst (backTo pos (starEach [] X.env)) (backToKw pos (keywordEach kws X.env))) := by rfl) :
    PE X (.Call (.Attribute o m apos) [] kws pos) (tCMethN C ks.length sp gV E ta tk) := by
  refine ⟨fun pz s τ H Q I h => ?_⟩
  refine PySem.W.methodCall_KW (pl := pl) (thn (he.run pz s τ H _ I h) fun u s1 ⟨x, H1, I1, rx, ex, q⟩ => ?_) hev
  subst ex
  obtain rfl : u = Value.ref C := rx; refine getmethcm_ok I1 r c fun s2 I2 => ?_
  refine PySem.W.callWith_of (P := PySem.W.MethP X.K s1.heap.objs.size g (.ref C)) hpq (PySem.W.keeps_M c.fi) (evalArgs_kw2_nil hall ?_)
  refine thn (hkw.run pos _ s2 τ H1 _ I2 q) fun ws s3 ⟨zs, H2, I3, rz, l2, q2⟩ => ⟨⟨pin_at I3, I3.kIn⟩, ?_⟩
  rw [hks]
  exact run_cmN F hr hb hx I3 rz l2 q2
end
/-! ### x(e, ..), x a local name that holds a class -/
section
variable {X : Cx} {CX : CXT} {k i : Nat} {f C : Addr} {fd : FuncData} {ps : List Str} {sp : Sp} {dvs : List V} {ds : List Value} {E : XK} {x : Str} {p pos : Pos} {e : Expr} {es : List Expr} {t : TA}
def tMakeL (i : Nat) (C : Addr) (sp : Sp) (dvs : List V) (E : XK) (t : TA) : TE := fun τ H Q => τ[i]? = some (some (.ref C)) ∧ tMake C sp dvs E t τ H Q
theorem pe_makeL (M : Mk X.K C f) (F : FnOk X.prog X.w X.K X.mg X.base CX k f fd ps sp) (hr : Room (k + 1) X.A) (hN : X.N[i]? = some x) (hv : Vis X.env.scope x) (hb : Binds X.K fd ps ds) (hd : Vals dvs ds) (hx : Passes CX X E) (ha : PA X (e :: es) t)
    (hdq : (x == ("__debug__" : Str)) = false := by decide) (hcq : (x == ("__classdict__" : Str)) = false := by decide)
    (hs2 : starEach (e :: es) X.env = (false, eval e X.env) :: starEach es X.env := by rfl) (hpq : (backTo pos (starEach es X.env)).any (·.1) = false := by rfl) : PE X (.Call (.Name x p) (e :: es) [] pos) (tMakeL i C sp dvs E t) := by
  refine ⟨fun pz s τ H Q I h => ?_⟩
  obtain ⟨hs, ht⟩ := h
  have look := (pe_var (pos := p) hN hv hdq hcq).run pz s τ H (fun v H1 => v = .ref C ∧ H1 = H) I ⟨.ref C, hs, rfl, rfl⟩
  refine wpAny_Call_Name_kw (thn look fun u s1 ⟨v, H1, I1, r1, q1⟩ => ?_)
  obtain ⟨rfl, rfl⟩ := q1
  cases r1
  refine PySem.W.callWith_K (h₀ := X.base) I.ok.mod.kin M.kp (thn (ha.run pos pz s1 τ _ _ I1 ht) fun us s2 ⟨vs, H2, I2, r, q⟩ => ⟨I2.kIn, ?_⟩) hs2 hpq
  exact run_make M F hr hb hd hx I2 r q
end
def creadB (x : Str) (K : PySem.W.Frag) : Bool := PySem.W.readsIn K (He.ga K x) (.type "type") && He.eqO (PySem.W.specialIn K (.ref (He.ga K x)) "__getattribute__") (some (some (.builtin "type.__getattribute__")))
theorem cread_ok {K : PySem.W.Frag} {x : Str} (h : creadB x K = true) : CRead K (He.ga K x) (.type "type") := by
  obtain ⟨h1, h2⟩ := He.ba h
  exact ⟨h1, He.eqO_ok h2⟩
def cmetB (x m : Str) (K : PySem.W.Frag) : Bool := He5.wrapB K (He.ga K x) "classmethod" "classmethod.__get__" m && PySem.W.fnIn K (He5.wf K (He.ga K x) "classmethod" m)
theorem cmet_ok {K : PySem.W.Frag} {x m : Str} (h : cmetB x m K = true) : CMet K (He.ga K x) (.type "type") m (He.ma K (He.ga K x) m) (He5.wf K (He.ga K x) "classmethod" m) := by
  obtain ⟨h1, h2⟩ := He.ba h
  exact He5.cmet_of h1 h2
end FoD

set_option maxHeartbeats 4100000
/-! Texts of whole numbers and of fractions, as lists of signs. -/
namespace FoT
open PySem PySem.NumText TL
/-- the signs of a whole number -/
def numI (n : Int) : List Nat := if n < 0 then 45 :: numL n.natAbs else numL n.natAbs
/-- one or more figures -/
def Dig (l : List Nat) : Prop := AllDigits l ∧ l ≠ []
theorem numL_dig (n : Nat) : Dig (numL n) := ⟨numL_digits n, numL_ne n⟩
/-- what stands behind a minus sign at the head -/
def body (l : List Nat) : List Nat := if l.head? = some 45 then l.tail else l
def worth (l : List Nat) : Int := if l.head? = some 45 then -((digitsVal (body l) : Nat) : Int) else ((digitsVal (body l) : Nat) : Int)
theorem dig_head {l : List Nat} (h : Dig l) : l.head? ≠ some 45 := fun e => by
  cases l with
  | nil => cases e
  | cons c r =>
    have z := (h.1.head : 48 ≤ c ∧ c ≤ 57)
    have e2 : c = 45 := Option.some.inj e
    omega
theorem body_numI (n : Int) : body (numI n) = numL n.natAbs := by
  unfold body numI
  by_cases h : n < 0
  · rw [if_pos h, if_pos (show (45 :: numL n.natAbs).head? = some 45 from rfl)]
    rfl
  · rw [if_neg h, if_neg (dig_head (numL_dig _))]
theorem worth_numI (n : Int) : worth (numI n) = n := by
  unfold worth
  rw [body_numI, numL_val]
  unfold numI
  by_cases h : n < 0
  · rw [if_pos h, if_pos (show (45 :: numL n.natAbs).head? = some 45 from rfl)]
    omega
  · rw [if_neg h, if_neg (dig_head (numL_dig _))]
    omega
theorem numI_inj {m n : Int} (h : numI m = numI n) : m = n := by
  rw [← worth_numI m, h, worth_numI]
theorem numI_nat {n : Int} (h : 0 ≤ n) : numI n = numL n.natAbs := if_neg (by omega)
theorem numI_free (n : Int) : 47 ∉ numI n := by
  unfold numI
  split
  · intro h
    rcases List.mem_cons.mp h with e0 | e0
    · cases e0
    · exact numL_free (.inl (by decide)) e0
  · exact numL_free (.inl (by decide))
/-! ### the text of a fraction in lowest terms -/
def txt (u d : Int) : List Nat := if d = 1 then numI u else numI u ++ 47 :: numI d
/-- t is the text of the fraction u / d -/
def IsTxt (t : List Nat) (u d : Int) : Prop := 0 < d ∧ Nat.gcd u.natAbs d.natAbs = 1 ∧ t = txt u d
/-- where the list is cut -/
theorem cut_inj {a b a' b' : List Nat} (h : 47 ∉ a) (h' : 47 ∉ a') (e : a ++ 47 :: b = a' ++ 47 :: b') : a = a' ∧ b = b' := by
  induction a generalizing a' with
  | nil =>
    cases a' with
    | nil => exact ⟨rfl, (List.cons.inj e).2⟩
    | cons c r =>
      have z := (List.cons.inj e).1
      exact absurd (by rw [← z]; exact List.mem_cons_self) h'
  | cons c r ih =>
    cases a' with
    | nil =>
      have z := (List.cons.inj e).1
      exact absurd (by rw [z]; exact List.mem_cons_self) h
    | cons c' r' =>
      obtain ⟨z1, z2⟩ := List.cons.inj e
      obtain ⟨q1, q2⟩ := ih (fun m => h (List.mem_cons_of_mem _ m)) (fun m => h' (List.mem_cons_of_mem _ m)) z2
      exact ⟨by rw [z1, q1], q2⟩
theorem IsTxt.uniq {t : List Nat} {u d u' d' : Int} (h : IsTxt t u d) (h' : IsTxt t u' d') : u = u' ∧ d = d' := by
  obtain ⟨d0, g, e⟩ := h
  obtain ⟨d0', g', e'⟩ := h'
  rw [e] at e'
  unfold txt at e'
  by_cases z : d = 1
  · rw [if_pos z] at e'
    by_cases z' : d' = 1
    · rw [if_pos z'] at e'
      exact ⟨numI_inj e', by rw [z, z']⟩
    · rw [if_neg z'] at e'
      exact absurd (show 47 ∈ numI u by rw [e']; simp) (numI_free u)
  · rw [if_neg z] at e'
    by_cases z' : d' = 1
    · rw [if_pos z'] at e'
      exact absurd (show 47 ∈ numI u' by rw [← e']; simp) (numI_free u')
    · rw [if_neg z'] at e'
      obtain ⟨q1, q2⟩ := cut_inj (numI_free u) (numI_free u') e'
      exact ⟨numI_inj q1, numI_inj q2⟩
/-- no slash: the text of a whole number -/
theorem isTxt_one {t : List Nat} (h : 47 ∉ t) {u d : Int} : IsTxt t u d ↔ d = 1 ∧ t = numI u := by
  constructor
  · rintro ⟨d0, g, e⟩
    unfold txt at e
    by_cases z : d = 1
    · rw [if_pos z] at e
      exact ⟨z, e⟩
    · rw [if_neg z] at e
      exact absurd (show 47 ∈ t by rw [e]; simp) h
  · rintro ⟨rfl, e⟩
    exact ⟨by decide, by simp, by unfold txt; rw [if_pos rfl]; exact e⟩
/-- one slash, at the first place -/
theorem isTxt_two {a b : List Nat} (h : 47 ∉ a) {u d : Int} : IsTxt (a ++ 47 :: b) u d ↔ 1 < d ∧ Nat.gcd u.natAbs d.natAbs = 1 ∧ a = numI u ∧ b = numI d := by
  constructor
  · rintro ⟨d0, g, e⟩
    unfold txt at e
    by_cases z : d = 1
    · rw [if_pos z] at e
      exact absurd (show 47 ∈ numI u by rw [← e]; simp) (numI_free u)
    · rw [if_neg z] at e
      obtain ⟨q1, q2⟩ := cut_inj h (numI_free u) e
      exact ⟨by omega, g, q1, q2⟩
  · rintro ⟨d1, g, rfl, rfl⟩
    exact ⟨by omega, g, by unfold txt; rw [if_neg (by omega)]⟩
theorem dig_of_numI {n : Int} : Dig (body (numI n)) := by rw [body_numI]; exact numL_dig _
/-! ### from the library's texts -/
theorem digit_ascii : ∀ c : Nat, c < 128 → Unicode.isDigit c = decide (48 ≤ c ∧ c ≤ 57) := by decide +kernel
theorem only_digits (x : Str) : (Txt.isascii x && Txt.isdigit x) = true ↔ Dig (tl x) := by
  unfold Txt.isascii Txt.isdigit
  simp only [Bool.and_eq_true, decide_eq_true_eq, Array.all_eq_true_iff_forall_mem, ← Array.mem_toList_iff]
  unfold Dig AllDigits
  constructor
  · rintro ⟨h1, h2, h3⟩
    refine ⟨fun c hc => ?_, fun e => ?_⟩
    · have z := h3 c hc
      rw [digit_ascii c (h1 c hc)] at z
      exact of_decide_eq_true z
    · rw [len_tl, e] at h2
      simp at h2
  · rintro ⟨h1, h2⟩
    refine ⟨fun c hc => ?_, ?_, fun c hc => ?_⟩
    · have := h1 c hc
      omega
    · rw [len_tl]
      cases q : tl x with
      | nil => exact absurd q h2
      | cons _ _ => simp
    · have z := h1 c hc
      rw [digit_ascii c (by omega)]
      exact decide_eq_true z
theorem tl_str (n : Int) : tl (Str.ofString (toString n)) = numI n := by
  unfold numI
  by_cases h : n < 0
  · rw [if_pos h]
    rw [PyProof.Rows.toString_neg h, tl_ofString, String.toList_append, List.map_append, ← tl_ofString (toString (0 - n)), show 0 - n = ((n.natAbs : Nat) : Int) by omega, tl_num]
    rfl
  · rw [if_neg h]
    have e : n = ((n.natAbs : Nat) : Int) := by omega
    rw [e, tl_num]
    rfl
end FoT

set_option maxHeartbeats 4100000
namespace FoT
open PySem PySem.NumText TL
theorem tl_slash : tl ("/" : Str) = [47] := by decide +kernel
theorem tl_minus : tl ("-" : Str) = [45] := by decide +kernel
theorem tl_empty : tl (Str.empty) = [] := rfl
theorem eq_str {x y : Str} : x = y ↔ tl x = tl y := ⟨fun e => by rw [e], ext_tl⟩
theorem cut_at {l : List Nat} (h : 47 ∈ l) : ∃ a b, l = a ++ 47 :: b ∧ 47 ∉ a := by
  induction l with
  | nil => cases h
  | cons c r ih =>
    by_cases e : c = 47
    · exact ⟨[], r, by rw [e]; rfl, by simp⟩
    · rcases List.mem_cons.mp h with z | z
      · exact absurd z.symm e
      · obtain ⟨a, b, e1, e2⟩ := ih z
        exact ⟨c :: a, b, by rw [e1]; rfl, fun m => by
          rcases List.mem_cons.mp m with q | q
          · exact e q.symm
          · exact e2 q⟩
theorem part_cut {x : Str} (h : 47 ∈ tl x) : ∃ a b : Str, tl x = tl a ++ 47 :: tl b ∧ 47 ∉ tl a ∧ Txt.partition x "/" = (a, ("/" : Str), b) := by
  obtain ⟨a, b, e1, e2⟩ := cut_at h
  refine ⟨⟨a.toArray⟩, ⟨b.toArray⟩, e1, e2, ?_⟩
  have e : x = (⟨a.toArray⟩ : Str) ++ "/" ++ (⟨b.toArray⟩ : Str) := ext_tl (by
    rw [tl_append, tl_append, tl_slash, e1]
    simp [tl])
  rw [e]
  exact partition_app tl_slash e2
theorem part_none {x : Str} (h : 47 ∉ tl x) : Txt.partition x "/" = (x, Str.empty, Str.empty) := partition_none tl_slash h
theorem split_one {x : Str} (h : 47 ∉ tl x) : Txt.split x "/" = [x] := by
  refine map_tl_inj ?_
  rw [split_spl x "/" (by rw [tl_slash]; simp) (kind_ok (by decide +kernel)), tl_slash, spl_last1 h]
  rfl
theorem split_cons {x a b : Str} (e : tl x = tl a ++ 47 :: tl b) (h : 47 ∉ tl a) : Txt.split x "/" = a :: Txt.split b "/" := by
  refine map_tl_inj ?_
  rw [List.map_cons, split_spl x "/" (by rw [tl_slash]; simp) (kind_ok (by decide +kernel)), split_spl b "/" (by rw [tl_slash]; simp) (kind_ok (by decide +kernel)), tl_slash, e]
  exact spl_part1 (S := []) (rest := tl b) (acc := []) h
theorem digitsVal_zero (l : List Nat) : digitsVal (48 :: l) = digitsVal l := rfl
theorem pre_minus (l : List Nat) : pre [45] l = decide (l.head? = some 45) := by
  cases l with
  | nil => rfl
  | cons c r =>
    show ([c] == [45]) = _
    rw [Bool.eq_iff_iff]
    simp
theorem rm_minus (x : Str) : tl (Txt.removeprefix x "-") = body (tl x) := by
  have e : Builtin.Str.subAt x ("-" : Str) 0 = decide ((tl x).head? = some 45) := by
    have z : Builtin.Str.subAt x ("-" : Str) 0 = pre (tl ("-" : Str)) ((tl x).drop 0) := by
      rw [StrLaws.subAt_eq, show ("-" : Str).length = (tl ("-" : Str)).length from len_tl _]
      rfl
    rw [z, tl_minus, List.drop_zero, pre_minus]
  unfold Txt.removeprefix Txt.affix body
  rw [e]
  by_cases h : (tl x).head? = some 45
  · rw [if_pos (decide_eq_true h), if_pos h]
    show tl (if (x.length - ("-" : Str).length == x.length) = true then x else Builtin.Str.strSub x ("-" : Str).length x.length) = _
    have n0 : tl x ≠ [] := fun z => by rw [z] at h; cases h
    have l0 : 0 < (tl x).length := List.length_pos_iff.mpr n0
    have l1 : ("-" : Str).length = 1 := by decide +kernel
    rw [l1, len_tl, if_neg (fun z => by have z2 : (tl x).length - 1 = (tl x).length := eq_of_beq z; omega), ← len_tl, tl_strSub_end, List.drop_one]
  · rw [if_neg (by simp [h]), if_neg h]
theorem tl_zero : tl ("0" : Str) = [48] := by decide +kernel
theorem zero_text {x y : Str} (c : tl y = tl x) (h : Dig (tl x)) (l : (tl x).length < 64) : intText? (("0" : Str) ++ y) = some ((digitsVal (tl x) : Nat) : Int) := by
  have e : (("0" : Str) ++ y).cps.toList = 48 :: tl x := by
    show tl (("0" : Str) ++ y) = _
    rw [tl_append, tl_zero, c]
    rfl
  have z := intText_digits (x := ("0" : Str) ++ y) (by
    rw [e]
    intro k hk
    rcases List.mem_cons.mp hk with q | q
    · rw [q]
      decide
    · exact h.1 k q) (by rw [e]; simp) (by rw [len_tl, show tl (("0" : Str) ++ y) = 48 :: tl x from e, List.length_cons]; omega)
  rw [e, digitsVal_zero] at z
  exact z
theorem num_len {n : Int} (h0 : -(10 ^ 60) < n) (h1 : n < 10 ^ 60) : (numI n).length ≤ 61 := by
  have z := numL_len (n := n.natAbs) (k := 60) (by decide) (by omega)
  unfold numI
  split
  · rw [List.length_cons]
    omega
  · omega
theorem str_len {n : Int} (h0 : -(10 ^ 60) < n) (h1 : n < 10 ^ 60) : (Str.ofString (toString n)).length ≤ 61 := by
  rw [len_tl, tl_str]
  exact num_len h0 h1
theorem log_ok {n : Int} (h0 : -(10 ^ 60) < n) (h1 : n < 10 ^ 60) : n.natAbs.log2 < 1920 := by
  by_cases z : n.natAbs = 0
  · rw [z]
    decide +kernel
  · refine (Nat.log2_lt z).mpr (Nat.lt_of_lt_of_le (show n.natAbs < 10 ^ 60 by omega) (Nat.le_trans (show 10 ^ 60 ≤ 2 ^ 200 by decide) (Nat.pow_le_pow_right (by decide) (by decide))))
/-! ### reading -/
theorem val_lt : ∀ (l : List Nat) (a : Nat), AllDigits l → l.foldl (fun acc c => acc * 10 + (c - 48)) a < (a + 1) * 10 ^ l.length
  | [], a, _ => by simp
  | c :: l, a, h => by
    have z := val_lt l (a * 10 + (c - 48)) h.tail
    have hc := h.head
    have e : (a * 10 + (c - 48) + 1) * 10 ^ l.length ≤ (a + 1) * 10 ^ (c :: l).length := by
      rw [List.length_cons, Nat.pow_succ, Nat.mul_comm (10 ^ l.length) 10, ← Nat.mul_assoc]
      exact Nat.mul_le_mul_right (10 ^ l.length) (by omega)
    exact Nat.lt_of_lt_of_le z e
theorem val_small {l : List Nat} (h : AllDigits l) (k : l.length ≤ 60) : digitsVal l < 10 ^ 60 := by
  have z := val_lt l 0 h
  rw [Nat.zero_add, Nat.one_mul] at z
  exact Nat.lt_of_lt_of_le z (Nat.pow_le_pow_right (by decide) k)
/-- how a text falls apart: b is what stands behind the slash, or 1 -/
def Parts (t a b : List Nat) : Prop := (47 ∉ t ∧ a = t ∧ b = [49]) ∨ (t = a ++ 47 :: b ∧ 47 ∉ a)
theorem Parts.of {t a b : List Nat} (h : Parts t a b) {u d : Int} (i : IsTxt t u d) : Dig (body a) ∧ Dig b ∧ ((digitsVal b : Nat) : Int) = d ∧ worth a = u := by
  rcases h with ⟨n, rfl, rfl⟩ | ⟨rfl, n⟩
  · obtain ⟨rfl, rfl⟩ := (isTxt_one n).mp i
    exact ⟨dig_of_numI, ⟨by intro c hc; rw [List.mem_singleton.mp hc]; decide, by simp⟩, rfl, worth_numI u⟩
  · obtain ⟨d1, g, rfl, rfl⟩ := (isTxt_two n).mp i
    refine ⟨dig_of_numI, ?_, ?_, worth_numI u⟩
    · rw [numI_nat (by omega)]
      exact numL_dig _
    · rw [numI_nat (by omega), numL_val]
      omega
theorem Parts.body_len {t a b : List Nat} (h : Parts t a b) : (body a).length ≤ t.length := by
  have z : (body a).length ≤ a.length := by
    unfold body
    split
    · rw [List.length_tail]
      omega
    · exact Nat.le_refl _
  rcases h with ⟨_, rfl, _⟩ | ⟨rfl, _⟩
  · exact z
  · rw [List.length_append]
    omega
theorem Parts.b_len {t a b : List Nat} (h : Parts t a b) : b.length ≤ t.length + 1 := by
  rcases h with ⟨_, rfl, rfl⟩ | ⟨rfl, _⟩
  · simp
  · rw [List.length_append, List.length_cons]
    omega
theorem body_same {a : List Nat} : body a = a ↔ a.head? ≠ some 45 := by
  unfold body
  constructor
  · intro e z
    rw [if_pos z] at e
    have l := congrArg List.length e
    rw [List.length_tail] at l
    cases a with
    | nil => cases z
    | cons c r =>
      rw [List.length_cons] at l
      omega
  · intro z
    rw [if_neg z]
theorem worth_plain {a : List Nat} (h : body a = a) : worth a = ((digitsVal (body a) : Nat) : Int) := by
  unfold worth
  rw [if_neg (body_same.mp h)]
theorem worth_minus {a : List Nat} (h : ¬ body a = a) : worth a = -((digitsVal (body a) : Nat) : Int) := by
  unfold worth
  rw [if_pos (Classical.byContradiction fun z => h (body_same.mpr z))]
theorem Parts.exists (x : Str) : ∃ a sl b : Str, Txt.partition x "/" = (a, sl, b) ∧ ((sl = Str.empty ∧ 47 ∉ tl x ∧ a = x) ∨ (¬ sl = Str.empty ∧ Parts (tl x) (tl a) (tl b))) := by
  by_cases h : 47 ∈ tl x
  · obtain ⟨a, b, e1, e2, e3⟩ := part_cut h
    exact ⟨a, "/", b, e3, .inr ⟨by decide +kernel, .inr ⟨e1, e2⟩⟩⟩
  · exact ⟨x, Str.empty, Str.empty, part_none h, .inl ⟨rfl, h, rfl⟩⟩
theorem int_text {x : Str} (h : Dig (body (tl x))) (l : (tl x).length ≤ 600) : intText? x = some (worth (tl x)) := by
  by_cases e : (tl x).head? = some 45
  · cases q : tl x with
    | nil =>
      rw [q] at e
      cases e
    | cons c r =>
      rw [q] at e
      have e2 : c = 45 := Option.some.inj e
      subst e2
      have hb : body (45 :: r) = r := if_pos rfl
      rw [q, hb] at h
      have z := intText_neg (x := x) (cs := r) q h.1 h.2 (by rw [len_tl]; omega)
      rw [z]
      unfold worth
      rw [hb]
      rfl
  · have hb : body (tl x) = tl x := if_neg e
    rw [hb] at h
    have z := intText_digits (x := x) h.1 h.2 (by rw [len_tl]; omega)
    rw [z, worth_plain hb, hb]
theorem take1 (l : List Nat) : l.take 1 = [45] ↔ l.head? = some 45 := by
  cases l with
  | nil => simp
  | cons c r => simp
theorem drop1 {l : List Nat} (h : l.head? = some 45) : l.drop 1 = body l := by
  unfold body
  rw [if_pos h, List.drop_one]
theorem split_mem : ∀ (n : Nat) (x : Str), (tl x).length ≤ n → ∀ w ∈ Txt.split x "/", (tl w).length ≤ (tl x).length ∧ ∀ c ∈ tl w, c ∈ tl x
  | 0, x, h, w, hw => by
    have e : tl x = [] := List.length_eq_zero_iff.mp (by omega)
    rw [split_one (by rw [e]; simp)] at hw
    rw [List.mem_singleton.mp hw]
    exact ⟨Nat.le_refl _, fun c hc => hc⟩
  | n + 1, x, h, w, hw => by
    by_cases q : 47 ∈ tl x
    · obtain ⟨a, b, e1, e2, _⟩ := part_cut q
      have l := congrArg List.length e1
      rw [List.length_append, List.length_cons] at l
      rw [split_cons e1 e2] at hw
      rcases List.mem_cons.mp hw with z | z
      · rw [z, e1]
        exact ⟨by rw [List.length_append]; omega, fun c hc => List.mem_append_left _ hc⟩
      · obtain ⟨h1, h2⟩ := split_mem n b (by omega) w z
        rw [e1]
        exact ⟨by rw [List.length_append, List.length_cons]; omega, fun c hc => List.mem_append_right _ (List.mem_cons_of_mem _ (h2 c hc))⟩
    · rw [split_one q] at hw
      rw [List.mem_singleton.mp hw]
      exact ⟨Nat.le_refl _, fun c hc => hc⟩
/-- how a text is split at its slashes -/
theorem split_cases (x : Str) : (47 ∉ tl x ∧ Txt.split x "/" = [x]) ∨ (∃ a b : Str, tl x = tl a ++ 47 :: tl b ∧ 47 ∉ tl a ∧ 47 ∉ tl b ∧ Txt.split x "/" = [a, b]) ∨
    (∃ a b c : Str, ∃ r, tl x = tl a ++ 47 :: tl b ∧ 47 ∉ tl a ∧ 47 ∈ tl b ∧ (Txt.split x "/").length = r + 3) := by
  by_cases q : 47 ∈ tl x
  · obtain ⟨a, b, e1, e2, _⟩ := part_cut q
    by_cases p : 47 ∈ tl b
    · obtain ⟨c, d, f1, f2, _⟩ := part_cut p
      refine .inr (.inr ⟨a, b, c, (Txt.split d "/").length - 1, e1, e2, p, ?_⟩)
      have pos : 0 < (Txt.split d "/").length := by
        by_cases z : 47 ∈ tl d
        · obtain ⟨y, u, g1, g2, _⟩ := part_cut z
          rw [split_cons g1 g2]
          simp
        · rw [split_one z]
          simp
      rw [split_cons e1 e2, split_cons f1 f2, List.length_cons, List.length_cons]
      omega
    · exact .inr (.inl ⟨a, b, e1, e2, p, by rw [split_cons e1 e2, split_one p]⟩)
  · exact .inl ⟨q, split_one q⟩
theorem no_txt3 {a b : List Nat} (h : 47 ∉ a) (q : 47 ∈ b) (u d : Int) : ¬ IsTxt (a ++ 47 :: b) u d := fun i => by
  obtain ⟨_, _, _, e⟩ := (isTxt_two h).mp i
  rw [e] at q
  exact numI_free d q
theorem split_len : ∀ (n : Nat) (x : Str), (tl x).length ≤ n → (Txt.split x "/").length ≤ (tl x).length + 1
  | 0, x, h => by
    have e : tl x = [] := List.length_eq_zero_iff.mp (by omega)
    rw [split_one (by rw [e]; simp)]
    simp
  | n + 1, x, h => by
    by_cases q : 47 ∈ tl x
    · obtain ⟨a, b, e1, e2, _⟩ := part_cut q
      have l := congrArg List.length e1
      rw [List.length_append, List.length_cons] at l
      have z := split_len n b (by omega)
      rw [split_cons e1 e2, List.length_cons]
      omega
    · rw [split_one q]
      simp
theorem worth_lt {l : List Nat} (h : Dig (body l)) (k : l.length ≤ 60) : -(10 ^ 60) < worth l ∧ worth l < 10 ^ 60 := by
  have b : (body l).length ≤ 60 := by
    unfold body
    split
    · rw [List.length_tail]
      omega
    · exact k
  have v := val_small h.1 b
  unfold worth
  split <;> constructor <;> omega
end FoT

set_option maxHeartbeats 4100000
/-! xs[::-1] of a list. -/
namespace FoV
open PySem PySem.Spec PyProof.Rows L2
theorem fm_congr {α β : Type} {f k : α → Option β} : ∀ {l : List α}, (∀ x ∈ l, f x = k x) → l.filterMap f = l.filterMap k
  | [], _ => rfl
  | x :: l, h => by
    rw [List.filterMap_cons, List.filterMap_cons, h x List.mem_cons_self, fm_congr fun y hy => h y (List.mem_cons_of_mem _ hy)]
theorem all_items {α : Type} : ∀ ys : List α, (List.range ys.length).filterMap (fun i => ys[i]?) = ys
  | [] => rfl
  | y :: ys => by
    rw [List.length_cons, List.range_succ_eq_map, List.filterMap_cons, List.filterMap_map]
    exact congrArg (y :: ·) (all_items ys)
theorem back_items {α : Type} (its : List α) : (List.range its.length).filterMap (fun i => its[its.length - 1 - i]?) = its.reverse := by
  have e : (List.range its.length).filterMap (fun i => its[its.length - 1 - i]?) = (List.range its.length).filterMap (fun i => its.reverse[i]?) := by
    refine fm_congr fun i hi => ?_
    exact (List.getElem?_reverse (List.mem_range.mp hi)).symm
  rw [e]
  have z := all_items its.reverse
  rw [List.length_reverse] at z
  exact z
theorem pick_back (its : List Value) : slicePick its.toArray none none (some (-1)) = its.reverse.toArray := by
  unfold slicePick
  have e : sliceBounds none none (some (-1)) its.toArray.size = (((its.length : Nat) : Int) - 1, -1, -1) := by
    simp [sliceBounds]
  rw [e]
  show (List.filterMap _ (sliceRange (((its.length : Nat) : Int) - 1) (-1) (-1))).toArray = _
  congr 1
  have e2 : sliceRange (((its.length : Nat) : Int) - 1) (-1) (-1) = (List.range its.length).map fun i => its.length - 1 - i := by
    unfold sliceRange
    have c : (if (-1 : Int) > 0 then (if ((its.length : Nat) : Int) - 1 < -1 then (-1 - (((its.length : Nat) : Int) - 1) + -1 - 1) / -1 else 0) else (if ((its.length : Nat) : Int) - 1 > -1 then (((its.length : Nat) : Int) - 1 - -1 - -1 - 1) / (- -1) else 0)).toNat = its.length := by
      rw [if_neg (by decide)]
      split
      · rw [show (- -1 : Int) = 1 by decide, Int.ediv_one]
        omega
      · omega
    show (List.range (if (-1 : Int) > 0 then (if ((its.length : Nat) : Int) - 1 < -1 then (-1 - (((its.length : Nat) : Int) - 1) + -1 - 1) / -1 else 0) else (if ((its.length : Nat) : Int) - 1 > -1 then (((its.length : Nat) : Int) - 1 - -1 - -1 - 1) / (- -1) else 0)).toNat).map _ = _
    rw [c]
    refine List.map_congr_left fun i hi => ?_
    have := List.mem_range.mp hi
    omega
  rw [e2, List.filterMap_map]
  have z := back_items its
  refine Eq.trans (fm_congr fun i hi => ?_) z
  simp
def tRevL (K : PySem.W.Frag) (te ts : TE) : TE := fun τ H Q => te τ H fun x H1 => ts τ H1 fun y H2 => y = .int (-1) ∧ ∃ a xs, x = .ref a ∧ SqL K H2 a xs ∧ ∀ p, H2 p = none → Q (.ref p) (upd H2 p (.lst xs.reverse))
section
variable {X : Cx} {e st : Expr} {te ts : TE} {p2 pos : Pos}
theorem pe_revL (he : PE X e te) (hs : PE X st ts) : PE X (.Subscript e (.Slice none none (some st) p2) pos) (tRevL X.K te ts) := by
  refine ⟨fun pz s τ H Q I h => ?_⟩
  refine Subscript_ (thn (he.run pz s τ H _ I h) fun v s1 ⟨x, H1, I1, r1, q1⟩ => ?_)
  refine wpAny_Slice ?_
  rw [evalPart_none, evalPart_some]
  refine wpAny_pure (wpAny_pure (thn (hs.run pz s1 τ H1 _ I1 q1) fun w s3 ⟨y, H3, I3, ry, ey, a, xs, ex, hx, q⟩ => ?_))
  subst ey ex
  cases r1
  obtain ⟨t, rfl⟩ := ry
  have I4 : Inv X pz τ H3 { s3 with heap := s3.heap.push { cls := .type "slice", data := .fields #[Value.none, Value.none, .int (-1) t] } } := I3.kept (t' := s3.toks) fun b ob z => Heap.get?_push_of_some _ z
  obtain ⟨its, r, ht, hz⟩ := I4.list hx
  have hn := r.length
  have got : wpAny (model X.prog X.w) X.A (getItem (.ref a) (.ref s3.heap.objs.size)) (EP X pz τ Q) X.xe { s3 with heap := s3.heap.push { cls := .type "slice", data := .fields #[Value.none, Value.none, .int (-1) t] } } := by
    refine wpAny_getItem_list_slice ht.isList (Heap.IsSliceOf.new ..) .none .none (.int (-1) t) (by simp) ?_ (by rw [List.size_toArray] <;> omega)
    rw [pick_back]
    refine ⟨.ref _, _, I4.laid (t' := s3.toks) (o := .lst xs.reverse) (fun b ob z => Heap.get?_push_of_some _ z) (Nat.le_refl _) ?_, rfl, q _ (I4.hok.fresh (Nat.le_refl _))⟩
    exact ⟨by rw [List.length_reverse]; exact hz, its.reverse, 0, r.reverse, Heap.get?_push_size _ rfl⟩
  exact tail_any (ops := [.ref a, .ref s3.heap.objs.size]) ht.isList.typeIs slot_list_getitem.lookup got (by with_unfolding_all rfl)
end
/-- a comprehension over a text's signs -/
theorem lc_str {z : Str} {g : TG} {tt : TT} {te : TE} {vs : List Nat} {τ : L2.St} {H1 : Hp} {D : Addr} {Qd : Hp → Prop} (Pv : Nat → Hp → Prop) (h0 : Pv 0 (upd H1 D (.lst [])))
    (hs : ∀ i c H, z.cps[i]? = some c → Pv i H → g (.str ⟨#[c]⟩) (wipe τ vs) H fun σ2 H2 => wipe σ2 vs = wipe τ vs ∧ tt σ2 H2 fun b H3 =>
      if b = true then te σ2 H3 fun y H4 => ∃ acc, H4 D = some (.lst acc) ∧ acc.length < sizeLine ∧ Pv (i + 1) (upd H4 D (.lst (acc ++ [y]))) else Pv (i + 1) H3) (hd : ∀ H, Pv z.cps.size H → Qd H)  : ∃ W : Nat → Nat → Hp → Prop, (∃ m, W 0 m (upd H1 D (.lst []))) ∧ ∀ i m H, W i m H →
      ((Its z).stop i H ∧ Qd H) ∨ ((Its z).go i H ∧ ∃ Nx : Hp → Prop, (∀ H', Nx H' → ∃ m', m' < m ∧ W (i + 1) m' H') ∧ ∀ x H', (Its z).yld i H x H' → g x (wipe τ vs) H' fun σ2 H2 => wipe σ2 vs = wipe τ vs ∧ tt σ2 H2 fun b H3 => if b = true then te σ2 H3 fun y H4 => ∃ acc, H4 D = some (.lst acc) ∧ acc.length < sizeLine ∧ Nx (upd H4 D (.lst (acc ++ [y]))) else Nx H3) := by
  refine ⟨fun i m H => m = z.cps.size - i ∧ i ≤ z.cps.size ∧ Pv i H, ⟨z.cps.size, by simp, Nat.zero_le _, h0⟩, ?_⟩
  rintro i m H ⟨rfl, hi, p⟩
  by_cases lt : i < z.cps.size
  · refine .inr ⟨lt, Pv (i + 1), fun H' p' => ⟨z.cps.size - (i + 1), by omega, rfl, lt, p'⟩, fun x H' y => ?_⟩
    obtain ⟨e, c, ec, ex⟩ := y
    subst e ex
    exact hs i c _ ec p
  · have e : i = z.cps.size := by omega
    subst e
    exact .inl ⟨Nat.le_refl z.cps.size, hd H p⟩
/-- a list of one-sign texts -/
def chs (l : List Nat) : List PyData := l.map fun c => .str ⟨#[c]⟩
theorem sign_ok : ∀ c : Nat, c < 128 → PyData.canLay0 (.str ⟨#[c]⟩) = true := by decide +kernel
theorem chs_lay : ∀ l : List Nat, (∀ c ∈ l, c < 128) → PyData.canLayAll0 (chs l) = true ∧ PyData.depthAll (chs l) = 0
  | [], _ => ⟨rfl, rfl⟩
  | c :: l, h => by
    obtain ⟨h1, h2⟩ := chs_lay l fun d hd => h d (List.mem_cons_of_mem _ hd)
    constructor
    · show (PyData.canLay0 (.str ⟨#[c]⟩) && PyData.canLayAll0 (chs l)) = true
      rw [sign_ok c (h c List.mem_cons_self), h1]
      rfl
    · show max 0 (PyData.depthAll (chs l)) = 0
      rw [h2]
      rfl
theorem chs_shaped (l : List Nat) (h : ∀ c ∈ l, c < 128) : SeqAt.shaped (.list (chs l)) = true := by
  obtain ⟨h1, h2⟩ := chs_lay l h
  show (PyData.canLayAll0 (chs l) && decide (PyData.depthAll (chs l) + 1 ≤ 64)) = true
  rw [h1, h2]
  rfl
theorem chs_nil (l : List Nat) : PyData.eqv (.list (chs l)) (.list []) = decide (l = []) := by
  cases l with
  | nil => rfl
  | cons c r => rfl
theorem chs_dp {K : PySem.W.Frag} {H : Hp} : ∀ l : List Nat, DpAll K H (l.map fun c => V.str ⟨#[c]⟩) (chs l)
  | [] => .nil
  | c :: l => .cons (.str _) (chs_dp l)
end FoV

set_option maxHeartbeats 4100000
namespace Fo
open PySem PySem.Spec PyProof.Rows L2
def top (i : Nat) : Stmt := PySem.Challenge.pw_filterorders_k03_texts_of_ratios.main.body.getD i (.Pass ⟨0, 0, 0, 0⟩)
abbrev s_Ratio_init : Stmt := inClass (top 10) 0
theorem sc_Ratio_init : FnScope ["self", "top", "bottom", "shared"] ["self", "top", "bottom"] (defScope s_Ratio_init) := ⟨rfl, rfl, rfl, by decide +kernel, rfl, by decide +kernel, by decide +kernel⟩
abbrev s_Ratio_read : Stmt := inClass (top 10) 1
theorem sc_Ratio_read : FnScope ["cls", "text", "top", "slash", "bottom", "digits", "size", "ratio"] ["cls", "text"] (defScope s_Ratio_read) := ⟨rfl, rfl, rfl, by decide +kernel, rfl, by decide +kernel, by decide +kernel⟩
abbrev s_Ratio_top : Stmt := inClass (top 10) 2
theorem sc_Ratio_top : FnScope ["self"] ["self"] (defScope s_Ratio_top) := ⟨rfl, rfl, rfl, by decide +kernel, rfl, by decide +kernel, by decide +kernel⟩
abbrev s_Ratio_bottom : Stmt := inClass (top 10) 3
theorem sc_Ratio_bottom : FnScope ["self"] ["self"] (defScope s_Ratio_bottom) := ⟨rfl, rfl, rfl, by decide +kernel, rfl, by decide +kernel, by decide +kernel⟩
abbrev s_Ratio_eq : Stmt := inClass (top 10) 4
theorem sc_Ratio_eq : FnScope ["self", "other"] ["self", "other"] (defScope s_Ratio_eq) := ⟨rfl, rfl, rfl, by decide +kernel, rfl, by decide +kernel, by decide +kernel⟩
abbrev s_Ratio_text : Stmt := inClass (top 10) 12
theorem sc_Ratio_text : FnScope ["self"] ["self"] (defScope s_Ratio_text) := ⟨rfl, rfl, rfl, by decide +kernel, rfl, by decide +kernel, by decide +kernel⟩
abbrev s_is_whole : Stmt := top 11
theorem sc_is_whole : FnScope ["given"] ["given"] (defScope s_is_whole) := ⟨rfl, rfl, rfl, by decide +kernel, rfl, by decide +kernel, by decide +kernel⟩
abbrev s_is_number : Stmt := top 12
theorem sc_is_number : FnScope ["given"] ["given"] (defScope s_is_number) := ⟨rfl, rfl, rfl, by decide +kernel, rfl, by decide +kernel, by decide +kernel⟩
abbrev s_has_only_digits : Stmt := top 14
theorem sc_has_only_digits : FnScope ["text"] ["text"] (defScope s_has_only_digits) := ⟨rfl, rfl, rfl, by decide +kernel, rfl, by decide +kernel, by decide +kernel⟩
abbrev s_decimal : Stmt := top 15
theorem sc_decimal : FnScope ["integer", "pieces", "piece"] ["integer"] (defScope s_decimal) := ⟨rfl, rfl, rfl, by decide +kernel, rfl, by decide +kernel, by decide +kernel⟩
abbrev s_integer_of : Stmt := top 16
theorem sc_integer_of : FnScope ["digits", "first", "integer", "at"] ["digits"] (defScope s_integer_of) := ⟨rfl, rfl, rfl, by decide +kernel, rfl, by decide +kernel, by decide +kernel⟩
abbrev s_cell : Stmt := top 18
theorem sc_cell : FnScope ["_law_script", "_law_k"] ["_law_script", "_law_k"] (defScope s_cell) := ⟨rfl, rfl, rfl, by decide +kernel, rfl, by decide +kernel, by decide +kernel⟩
abbrev s_box : Stmt := top 19
theorem sc_box : FnScope ["_law_script", "_law_k"] ["_law_script", "_law_k"] (defScope s_box) := ⟨rfl, rfl, rfl, by decide +kernel, rfl, by decide +kernel, by decide +kernel⟩
abbrev s_take : Stmt := top 20
theorem sc_take : FnScope ["_law_box_here", "_law_many", "_law_digit", "_law_mixed"] ["_law_box_here", "_law_many"] (defScope s_take) := ⟨rfl, rfl, rfl, by decide +kernel, rfl, by decide +kernel, by decide +kernel⟩
abbrev s_frac : Stmt := top 21
theorem sc_frac : FnScope ["_law_up", "_law_down", "_law_one", "_law_other"] ["_law_up", "_law_down"] (defScope s_frac) := ⟨rfl, rfl, rfl, by decide +kernel, rfl, by decide +kernel, by decide +kernel⟩
abbrev s_whole : Stmt := top 26
theorem sc_whole : FnScope ["_law_word", "_law_digits", "_law_char"] ["_law_word"] (defScope s_whole) := ⟨rfl, rfl, rfl, by decide +kernel, rfl, by decide +kernel, by decide +kernel⟩
abbrev s_due : Stmt := top 27
theorem sc_due : FnScope ["_law_phrase", "_law_word", "_law_words"] ["_law_phrase"] (defScope s_due) := ⟨rfl, rfl, rfl, by decide +kernel, rfl, by decide +kernel, by decide +kernel⟩
abbrev s_read : Stmt := top 28
theorem sc_read : FnScope ["_law_phrase", "_law_amount"] ["_law_phrase"] (defScope s_read) := ⟨rfl, rfl, rfl, by decide +kernel, rfl, by decide +kernel, by decide +kernel⟩
abbrev s_law : Stmt := top 29
theorem sc_law : FnScope ["_law_script", "_law_k", "_law_box_here", "_law_most", "_law_x", "_law_phrase", "_law_turn", "_law_at", "_law_part", "_law_near", "_law_factor", "_law_other"] ["_law_script"] (defScope s_law) := ⟨rfl, rfl, rfl, by decide +kernel, rfl, by decide +kernel, by decide +kernel⟩
structure Tx (K : PySem.W.Frag) (mg : Str → Option Value) : Type where
  fd_Ratio_init : FuncData
  F_Ratio_init : FunD K "__init__" "Ratio.__init__" (defArgs s_Ratio_init) (defBody s_Ratio_init) (defScope s_Ratio_init) [V.int 1] [] (He.ma K (He.ga K "Ratio") "__init__") fd_Ratio_init
  fd_Ratio_read : FuncData
  F_Ratio_read : Fun K "read" "Ratio.read" s_Ratio_read (He5.wf K (He.ga K "Ratio") "classmethod" "read") fd_Ratio_read
  b_Ratio_read : Binds K fd_Ratio_read ["cls", "text"] []
  fd_Ratio_top : FuncData
  F_Ratio_top : Fun K "top" "Ratio.top" s_Ratio_top (FoZ.pg K "Ratio" "top") fd_Ratio_top
  b_Ratio_top : Binds K fd_Ratio_top ["self"] []
  fd_Ratio_bottom : FuncData
  F_Ratio_bottom : Fun K "bottom" "Ratio.bottom" s_Ratio_bottom (FoZ.pg K "Ratio" "bottom") fd_Ratio_bottom
  b_Ratio_bottom : Binds K fd_Ratio_bottom ["self"] []
  fd_Ratio_eq : FuncData
  F_Ratio_eq : Fun K "__eq__" "Ratio.__eq__" s_Ratio_eq (He.ma K (He.ga K "Ratio") "__eq__") fd_Ratio_eq
  b_Ratio_eq : Binds K fd_Ratio_eq ["self", "other"] []
  fd_Ratio_text : FuncData
  F_Ratio_text : Fun K "text" "Ratio.text" s_Ratio_text (He.ma K (He.ga K "Ratio") "text") fd_Ratio_text
  b_Ratio_text : Binds K fd_Ratio_text ["self"] []
  fd_is_whole : FuncData
  F_is_whole : Fun K "is_whole" "is_whole" s_is_whole (He.ga K "is_whole") fd_is_whole
  b_is_whole : Binds K fd_is_whole ["given"] []
  g_is_whole : mg "is_whole" = some (.ref (He.ga K "is_whole"))
  fd_is_number : FuncData
  F_is_number : Fun K "is_number" "is_number" s_is_number (He.ga K "is_number") fd_is_number
  b_is_number : Binds K fd_is_number ["given"] []
  g_is_number : mg "is_number" = some (.ref (He.ga K "is_number"))
  fd_has_only_digits : FuncData
  F_has_only_digits : Fun K "_has_only_digits" "_has_only_digits" s_has_only_digits (He.ga K "_has_only_digits") fd_has_only_digits
  b_has_only_digits : Binds K fd_has_only_digits ["text"] []
  g_has_only_digits : mg "_has_only_digits" = some (.ref (He.ga K "_has_only_digits"))
  fd_decimal : FuncData
  F_decimal : Fun K "_decimal" "_decimal" s_decimal (He.ga K "_decimal") fd_decimal
  b_decimal : Binds K fd_decimal ["integer"] []
  g_decimal : mg "_decimal" = some (.ref (He.ga K "_decimal"))
  fd_integer_of : FuncData
  F_integer_of : Fun K "_integer_of" "_integer_of" s_integer_of (He.ga K "_integer_of") fd_integer_of
  b_integer_of : Binds K fd_integer_of ["digits"] []
  g_integer_of : mg "_integer_of" = some (.ref (He.ga K "_integer_of"))
  fd_cell : FuncData
  F_cell : Fun K "_law_cell" "_law_cell" s_cell (He.ga K "_law_cell") fd_cell
  b_cell : Binds K fd_cell ["_law_script", "_law_k"] []
  g_cell : mg "_law_cell" = some (.ref (He.ga K "_law_cell"))
  fd_box : FuncData
  F_box : Fun K "_law_box" "_law_box" s_box (He.ga K "_law_box") fd_box
  b_box : Binds K fd_box ["_law_script", "_law_k"] []
  g_box : mg "_law_box" = some (.ref (He.ga K "_law_box"))
  fd_take : FuncData
  F_take : Fun K "_law_take" "_law_take" s_take (He.ga K "_law_take") fd_take
  b_take : Binds K fd_take ["_law_box_here", "_law_many"] []
  g_take : mg "_law_take" = some (.ref (He.ga K "_law_take"))
  fd_frac : FuncData
  F_frac : Fun K "_law_frac" "_law_frac" s_frac (He.ga K "_law_frac") fd_frac
  b_frac : Binds K fd_frac ["_law_up", "_law_down"] []
  g_frac : mg "_law_frac" = some (.ref (He.ga K "_law_frac"))
  fd_whole : FuncData
  F_whole : Fun K "_law_whole" "_law_whole" s_whole (He.ga K "_law_whole") fd_whole
  b_whole : Binds K fd_whole ["_law_word"] []
  g_whole : mg "_law_whole" = some (.ref (He.ga K "_law_whole"))
  fd_due : FuncData
  F_due : Fun K "_law_due" "_law_due" s_due (He.ga K "_law_due") fd_due
  b_due : Binds K fd_due ["_law_phrase"] []
  g_due : mg "_law_due" = some (.ref (He.ga K "_law_due"))
  fd_read : FuncData
  F_read : Fun K "_law_read" "_law_read" s_read (He.ga K "_law_read") fd_read
  b_read : Binds K fd_read ["_law_phrase"] []
  g_read : mg "_law_read" = some (.ref (He.ga K "_law_read"))
  fd_law : FuncData
  F_law : Fun K "law" "law" s_law (He.ga K "law") fd_law
  b_law : Binds K fd_law ["_law_script"] []
  g_law : mg "law" = some (.ref (He.ga K "law"))
  z_abs : mg "abs" = none
  z_bool : mg "bool" = none
  z_classmethod : mg "classmethod" = none
  z_divmod : mg "divmod" = none
  z_int : mg "int" = none
  z_isinstance : mg "isinstance" = none
  z_len : mg "len" = none
  z_max : mg "max" = none
  z_min : mg "min" = none
  z_property : mg "property" = none
  z_range : mg "range" = none
  z_str : mg "str" = none
  i_gcd : mg "gcd" = some (.builtin "math.gcd")
  c_Ratio : mg "Ratio" = some (.ref (He.ga K "Ratio"))
  cl_R : Cls K (He.ga K "Ratio")
  nT_R : NoAttr K (He.ga K "Ratio") "_top"
  nB_R : NoAttr K (He.ga K "Ratio") "_bottom"
  mk_R : Mk K (He.ga K "Ratio") (He.ma K (He.ga K "Ratio") "__init__")
  p_top : PropOf K (He.ga K "Ratio") "top" (He.ma K (He.ga K "Ratio") "top") (FoZ.pg K "Ratio" "top")
  p_bottom : PropOf K (He.ga K "Ratio") "bottom" (He.ma K (He.ga K "Ratio") "bottom") (FoZ.pg K "Ratio" "bottom")
  cm_eq : FoA.CmpC K (He.ga K "Ratio") (He.ma K (He.ga K "Ratio") "__eq__") .Eq
  is_R : FoB.Isi K (He.ga K "Ratio")
  c_ByZero : mg "ByZero" = some (.ref (He.ga K "ByZero"))
  e_ByZero : FoB.ErrC K (He.ga K "ByZero")
  c_BadText : mg "BadText" = some (.ref (He.ga K "BadText"))
  e_BadText : FoB.ErrC K (He.ga K "BadText")
  me_text : Meth K (He.ga K "Ratio") "text" (He.ma K (He.ga K "Ratio") "text")
  k_PIECE : ∃ t, mg "PIECE" = some (.int (10 ^ 64) t)
  k_PIECE_DIGITS : ∃ t, mg "PIECE_DIGITS" = some (.int 64 t)
  cr_R : ClX.CRead K (He.ga K "Ratio") (.type "type")
  cm_read : ClX.CMet K (He.ga K "Ratio") (.type "type") "read" (He.ma K (He.ga K "Ratio") "read") (He5.wf K (He.ga K "Ratio") "classmethod" "read")
end Fo

set_option maxHeartbeats 4100000
namespace Fo
open PySem PySem.Spec PyProof.Rows L2
def hb : List (PySem.W.Frag → Bool) := [(He.Fa.glo "is_whole").ok,
  (He.Fa.glo "is_number").ok,
  (He.Fa.glo "_has_only_digits").ok,
  (He.Fa.glo "_decimal").ok,
  (He.Fa.glo "_integer_of").ok,
  (He.Fa.glo "_law_cell").ok,
  (He.Fa.glo "_law_box").ok,
  (He.Fa.glo "_law_take").ok,
  (He.Fa.glo "_law_frac").ok,
  (He.Fa.glo "_law_whole").ok,
  (He.Fa.glo "_law_due").ok,
  (He.Fa.glo "_law_read").ok,
  (He.Fa.glo "law").ok,
  (He.Fa.free "abs").ok,
  (He.Fa.free "bool").ok,
  (He.Fa.free "classmethod").ok,
  (He.Fa.free "divmod").ok,
  (He.Fa.free "int").ok,
  (He.Fa.free "isinstance").ok,
  (He.Fa.free "len").ok,
  (He.Fa.free "max").ok,
  (He.Fa.free "min").ok,
  (He.Fa.free "property").ok,
  (He.Fa.free "range").ok,
  (He.Fa.free "str").ok,
  FoZ.impB "gcd" "math.gcd",
  (He.Fa.glo "Ratio").ok,
  (He.Fa.cls "Ratio").ok,
  (He.Fa.noat "Ratio" "_top").ok,
  (He.Fa.noat "Ratio" "_bottom").ok,
  (He.Fa.mkr "Ratio").ok,
  FoZ.propB "Ratio" "top",
  FoZ.propB "Ratio" "bottom",
  FoZ.cmpB "Ratio" "__eq__",
  FoB.isiB "Ratio",
  (He.Fa.glo "ByZero").ok,
  FoB.errB "ByZero",
  (He.Fa.glo "BadText").ok,
  FoB.errB "BadText",
  (He.Fa.meth "Ratio" "text").ok,
  (He.Fa.int "PIECE" (10 ^ 64)).ok,
  (He.Fa.int "PIECE_DIGITS" 64).ok,
  FoD.creadB "Ratio",
  FoD.cmetB "Ratio" "read"]
def hd : List He5.DefA := [⟨fun K => (He.ma K (He.ga K "Ratio") "__init__"), "__init__", "Ratio.__init__", defArgs s_Ratio_init, defBody s_Ratio_init, defScope s_Ratio_init, [.int 1], []⟩,
  ⟨fun K => (He5.wf K (He.ga K "Ratio") "classmethod" "read"), "read", "Ratio.read", defArgs s_Ratio_read, defBody s_Ratio_read, defScope s_Ratio_read, [], []⟩,
  ⟨fun K => (FoZ.pg K "Ratio" "top"), "top", "Ratio.top", defArgs s_Ratio_top, defBody s_Ratio_top, defScope s_Ratio_top, [], []⟩,
  ⟨fun K => (FoZ.pg K "Ratio" "bottom"), "bottom", "Ratio.bottom", defArgs s_Ratio_bottom, defBody s_Ratio_bottom, defScope s_Ratio_bottom, [], []⟩,
  ⟨fun K => (He.ma K (He.ga K "Ratio") "__eq__"), "__eq__", "Ratio.__eq__", defArgs s_Ratio_eq, defBody s_Ratio_eq, defScope s_Ratio_eq, [], []⟩,
  ⟨fun K => (He.ma K (He.ga K "Ratio") "text"), "text", "Ratio.text", defArgs s_Ratio_text, defBody s_Ratio_text, defScope s_Ratio_text, [], []⟩,
  ⟨fun K => (He.ga K "is_whole"), "is_whole", "is_whole", defArgs s_is_whole, defBody s_is_whole, defScope s_is_whole, [], []⟩,
  ⟨fun K => (He.ga K "is_number"), "is_number", "is_number", defArgs s_is_number, defBody s_is_number, defScope s_is_number, [], []⟩,
  ⟨fun K => (He.ga K "_has_only_digits"), "_has_only_digits", "_has_only_digits", defArgs s_has_only_digits, defBody s_has_only_digits, defScope s_has_only_digits, [], []⟩,
  ⟨fun K => (He.ga K "_decimal"), "_decimal", "_decimal", defArgs s_decimal, defBody s_decimal, defScope s_decimal, [], []⟩,
  ⟨fun K => (He.ga K "_integer_of"), "_integer_of", "_integer_of", defArgs s_integer_of, defBody s_integer_of, defScope s_integer_of, [], []⟩,
  ⟨fun K => (He.ga K "_law_cell"), "_law_cell", "_law_cell", defArgs s_cell, defBody s_cell, defScope s_cell, [], []⟩,
  ⟨fun K => (He.ga K "_law_box"), "_law_box", "_law_box", defArgs s_box, defBody s_box, defScope s_box, [], []⟩,
  ⟨fun K => (He.ga K "_law_take"), "_law_take", "_law_take", defArgs s_take, defBody s_take, defScope s_take, [], []⟩,
  ⟨fun K => (He.ga K "_law_frac"), "_law_frac", "_law_frac", defArgs s_frac, defBody s_frac, defScope s_frac, [], []⟩,
  ⟨fun K => (He.ga K "_law_whole"), "_law_whole", "_law_whole", defArgs s_whole, defBody s_whole, defScope s_whole, [], []⟩,
  ⟨fun K => (He.ga K "_law_due"), "_law_due", "_law_due", defArgs s_due, defBody s_due, defScope s_due, [], []⟩,
  ⟨fun K => (He.ga K "_law_read"), "_law_read", "_law_read", defArgs s_read, defBody s_read, defScope s_read, [], []⟩,
  ⟨fun K => (He.ga K "law"), "law", "law", defArgs s_law, defBody s_law, defScope s_law, [], []⟩]
abbrev R : PySem.W.OpenRow := PySem.W.OpenLaw.row PySem.Challenge.rw_filterorders_k03_texts_of_ratios
abbrev hk : PySem.W.Hook := FoZ.hook 6 hb hd
def ob (s : PySem.W.SharedT) : Bool × List He.FnW := FoZ.lookG 6 hb hd (HandSHeadRun.getT s)
theorem ob_eq (s : PySem.W.SharedT) : ob s = hk.obs s.abs := FoZ.lookG_eq (HandSHeadRun.getT_eq s)
def loose : List PySem.Str := (["gcd", "_wall", "FilterError", "ByZero", "BadNumber", "BadText", "PIECE_DIGITS", "PIECE", "Ratio", "is_whole", "is_number", "as_ratio", "_has_only_digits", "_decimal", "_integer_of", "_law_cell", "_law_box", "_law_take", "_law_frac", "_law_plus", "_law_times", "_law_minus", "_law_less", "_law_whole", "_law_due", "_law_read"] : List PySem.Str)
theorem run (w : World) : FoI.RunI R (PySem.W.view R.prog [29]) hk ob 6000 loose w := by
  unfold FoI.RunI
  kernel_rfl
theorem facts {K : PySem.W.Frag} {h : Heap} {mg : Str → Option Value} (X : K.In h) (G : h.Ns mainGlobals mg) (c : FoZ.Told hb hd K) : Nonempty (Tx K mg) := by
  obtain ⟨fd0, F0⟩ := c.defn 0
  obtain ⟨fd1, F1⟩ := c.defn 1
  obtain ⟨fd2, F2⟩ := c.defn 2
  obtain ⟨fd3, F3⟩ := c.defn 3
  obtain ⟨fd4, F4⟩ := c.defn 4
  obtain ⟨fd5, F5⟩ := c.defn 5
  obtain ⟨fd6, F6⟩ := c.defn 6
  obtain ⟨fd7, F7⟩ := c.defn 7
  obtain ⟨fd8, F8⟩ := c.defn 8
  obtain ⟨fd9, F9⟩ := c.defn 9
  obtain ⟨fd10, F10⟩ := c.defn 10
  obtain ⟨fd11, F11⟩ := c.defn 11
  obtain ⟨fd12, F12⟩ := c.defn 12
  obtain ⟨fd13, F13⟩ := c.defn 13
  obtain ⟨fd14, F14⟩ := c.defn 14
  obtain ⟨fd15, F15⟩ := c.defn 15
  obtain ⟨fd16, F16⟩ := c.defn 16
  obtain ⟨fd17, F17⟩ := c.defn 17
  obtain ⟨fd18, F18⟩ := c.defn 18
  exact ⟨⟨fd0,
    F0,
    fd1,
    He5.fun_of (st := s_Ratio_read) F1,
    ((He5.fun_of (st := s_Ratio_read) F1).binds (ps := ["cls", "text"]) fun _ _ _ _ _ _ us hl => match us, hl with | [_, _], _ => rfl),
    fd2,
    He5.fun_of (st := s_Ratio_top) F2,
    ((He5.fun_of (st := s_Ratio_top) F2).binds (ps := ["self"]) fun _ _ _ _ _ _ us hl => match us, hl with | [_], _ => rfl),
    fd3,
    He5.fun_of (st := s_Ratio_bottom) F3,
    ((He5.fun_of (st := s_Ratio_bottom) F3).binds (ps := ["self"]) fun _ _ _ _ _ _ us hl => match us, hl with | [_], _ => rfl),
    fd4,
    He5.fun_of (st := s_Ratio_eq) F4,
    ((He5.fun_of (st := s_Ratio_eq) F4).binds (ps := ["self", "other"]) fun _ _ _ _ _ _ us hl => match us, hl with | [_, _], _ => rfl),
    fd5,
    He5.fun_of (st := s_Ratio_text) F5,
    ((He5.fun_of (st := s_Ratio_text) F5).binds (ps := ["self"]) fun _ _ _ _ _ _ us hl => match us, hl with | [_], _ => rfl),
    fd6,
    He5.fun_of (st := s_is_whole) F6,
    ((He5.fun_of (st := s_is_whole) F6).binds (ps := ["given"]) fun _ _ _ _ _ _ us hl => match us, hl with | [_], _ => rfl),
    He.glo_ok X G (c.bool 0),
    fd7,
    He5.fun_of (st := s_is_number) F7,
    ((He5.fun_of (st := s_is_number) F7).binds (ps := ["given"]) fun _ _ _ _ _ _ us hl => match us, hl with | [_], _ => rfl),
    He.glo_ok X G (c.bool 1),
    fd8,
    He5.fun_of (st := s_has_only_digits) F8,
    ((He5.fun_of (st := s_has_only_digits) F8).binds (ps := ["text"]) fun _ _ _ _ _ _ us hl => match us, hl with | [_], _ => rfl),
    He.glo_ok X G (c.bool 2),
    fd9,
    He5.fun_of (st := s_decimal) F9,
    ((He5.fun_of (st := s_decimal) F9).binds (ps := ["integer"]) fun _ _ _ _ _ _ us hl => match us, hl with | [_], _ => rfl),
    He.glo_ok X G (c.bool 3),
    fd10,
    He5.fun_of (st := s_integer_of) F10,
    ((He5.fun_of (st := s_integer_of) F10).binds (ps := ["digits"]) fun _ _ _ _ _ _ us hl => match us, hl with | [_], _ => rfl),
    He.glo_ok X G (c.bool 4),
    fd11,
    He5.fun_of (st := s_cell) F11,
    ((He5.fun_of (st := s_cell) F11).binds (ps := ["_law_script", "_law_k"]) fun _ _ _ _ _ _ us hl => match us, hl with | [_, _], _ => rfl),
    He.glo_ok X G (c.bool 5),
    fd12,
    He5.fun_of (st := s_box) F12,
    ((He5.fun_of (st := s_box) F12).binds (ps := ["_law_script", "_law_k"]) fun _ _ _ _ _ _ us hl => match us, hl with | [_, _], _ => rfl),
    He.glo_ok X G (c.bool 6),
    fd13,
    He5.fun_of (st := s_take) F13,
    ((He5.fun_of (st := s_take) F13).binds (ps := ["_law_box_here", "_law_many"]) fun _ _ _ _ _ _ us hl => match us, hl with | [_, _], _ => rfl),
    He.glo_ok X G (c.bool 7),
    fd14,
    He5.fun_of (st := s_frac) F14,
    ((He5.fun_of (st := s_frac) F14).binds (ps := ["_law_up", "_law_down"]) fun _ _ _ _ _ _ us hl => match us, hl with | [_, _], _ => rfl),
    He.glo_ok X G (c.bool 8),
    fd15,
    He5.fun_of (st := s_whole) F15,
    ((He5.fun_of (st := s_whole) F15).binds (ps := ["_law_word"]) fun _ _ _ _ _ _ us hl => match us, hl with | [_], _ => rfl),
    He.glo_ok X G (c.bool 9),
    fd16,
    He5.fun_of (st := s_due) F16,
    ((He5.fun_of (st := s_due) F16).binds (ps := ["_law_phrase"]) fun _ _ _ _ _ _ us hl => match us, hl with | [_], _ => rfl),
    He.glo_ok X G (c.bool 10),
    fd17,
    He5.fun_of (st := s_read) F17,
    ((He5.fun_of (st := s_read) F17).binds (ps := ["_law_phrase"]) fun _ _ _ _ _ _ us hl => match us, hl with | [_], _ => rfl),
    He.glo_ok X G (c.bool 11),
    fd18,
    He5.fun_of (st := s_law) F18,
    ((He5.fun_of (st := s_law) F18).binds (ps := ["_law_script"]) fun _ _ _ _ _ _ us hl => match us, hl with | [_], _ => rfl),
    He.glo_ok X G (c.bool 12),
    He.free_ok X G (c.bool 13),
    He.free_ok X G (c.bool 14),
    He.free_ok X G (c.bool 15),
    He.free_ok X G (c.bool 16),
    He.free_ok X G (c.bool 17),
    He.free_ok X G (c.bool 18),
    He.free_ok X G (c.bool 19),
    He.free_ok X G (c.bool 20),
    He.free_ok X G (c.bool 21),
    He.free_ok X G (c.bool 22),
    He.free_ok X G (c.bool 23),
    He.free_ok X G (c.bool 24),
    FoZ.imp_ok X G (c.bool 25),
    He.glo_ok X G (c.bool 26),
    He.cls_ok (c.bool 27),
    He.noat_ok (c.bool 28),
    He.noat_ok (c.bool 29),
    He.mkr_ok (c.bool 30),
    FoZ.prop_ok (c.bool 31),
    FoZ.prop_ok (c.bool 32),
    FoB.cmp_eq (c.bool 33),
    FoB.isi_ok (c.bool 34),
    He.glo_ok X G (c.bool 35),
    FoB.err_ok (c.bool 36),
    He.glo_ok X G (c.bool 37),
    FoB.err_ok (c.bool 38),
    He.meth_ok (c.bool 39),
    He.int_ok X G (c.bool 40),
    He.int_ok X G (c.bool 41),
    FoD.cread_ok (c.bool 42),
    FoD.cmet_ok (c.bool 43)⟩⟩
end Fo

set_option maxHeartbeats 4100000
namespace Fo
open PySem PySem.Spec PyProof.Rows L2
/-! ### what the law's own helpers promise -/
/-- the drawing box at p, drawn from at most n times -/
def BoxAt (H : Hp) (p : Addr) (n : Nat) : Prop := ∃ x c sd : Int, H p = some (.lst [.int x, .int c, .int sd]) ∧ 0 ≤ x ∧ 0 ≤ c ∧ c ≤ n ∧ 0 ≤ sd ∧ sd ≤ 2 ^ 40
/-- all but the object at p stands as it stood -/
def But (p : Addr) (H H' : Hp) : Prop := ∀ b o, H b = some o → b ≠ p → H' b = some o
theorem But.refl (p : Addr) (H : Hp) : But p H H := fun _ _ h _ => h
theorem But.trans {p : Addr} {H H1 H2 : Hp} (a : But p H H1) (b : But p H1 H2) : But p H H2 := fun c o h n => b c o (a c o h n) n
theorem But.of_same {p : Addr} {H H' : Hp} (a : Same H H') : But p H H' := fun c o h _ => a c o h
theorem Same.upd {H : Hp} {p : Addr} {o : HO} (h : H p = none) : Same H (upd H p o) := fun b u e => by
  rw [upd_ne (ne_of_none e h)]
  exact e
theorem But.upd {H : Hp} {p : Addr} {o : HO} : But p H (upd H p o) := fun b u e n => by
  rw [upd_ne n]
  exact e
theorem SqT.same {K : PySem.W.Frag} {H H' : Hp} {a : Addr} {xs : List V} (e : Same H H') (h : H a = some (.tup xs)) : SqT K H' a xs := SqT.of (e _ _ h)
def spCell (K : PySem.W.Frag) : Sp := fun vs H Q _ => ∃ (a : Addr) (ns : List Int) (i : Nat), vs = [.ref a, .int i] ∧ SqL K H a (ns.map V.int) ∧ Q (.int (ns.getD i 0)) H
def spBox (K : PySem.W.Frag) : Sp := fun vs H Q _ => ∃ (a : Addr) (ns : List Int) (i : Nat), vs = [.ref a, .int i] ∧ SqL K H a (ns.map V.int) ∧ i ≤ 1000 ∧ ∀ p H', H p = none → Same H H' → BoxAt H' p 0 → Q (.ref p) H'
def spTake : Sp := fun vs H Q _ => ∃ (p : Addr) (m : Int) (n : Nat), vs = [.ref p, .int m] ∧ BoxAt H p n ∧ n ≤ 100000 ∧ 0 < m ∧ FoM.Sz 4000 m ∧
  ∀ d H', 0 ≤ d → d < m → BoxAt H' p (n + 1) → But p H H' → Q (.int d) H'
/-- a fraction's tuple -/
def FrAt (K : PySem.W.Frag) (H : Hp) (a : Addr) (u d : Int) : Prop := SqT K H a [.int u, .int d]
def spFrac : Sp := fun vs H Q _ => ∃ u d : Int, vs = [.int u, .int d] ∧ d ≠ 0 ∧ FoM.Sz 4000 d ∧ ∀ p, H p = none → Q (.ref p) (upd H p (.tup [.int (FoM.frN u d), .int (FoM.frD u d)]))
/-- two fractions, and what is reckoned of them -/
def sp2 (K : PySem.W.Frag) (N D : Int → Int → Int → Int → Int) : Sp := fun vs H Q _ => ∃ (a b : Addr) (u d v e : Int), vs = [.ref a, .ref b] ∧ FrAt K H a u d ∧ FrAt K H b v e ∧ d ≠ 0 ∧ e ≠ 0 ∧
  FoM.Sz 1900 u ∧ FoM.Sz 1900 d ∧ FoM.Sz 1900 v ∧ FoM.Sz 1900 e ∧ ∀ p, H p = none → Q (.ref p) (upd H p (.tup [.int (FoM.frN (N u d v e) (D u d v e)), .int (FoM.frD (N u d v e) (D u d v e))]))
abbrev spPlus (K : PySem.W.Frag) : Sp := sp2 K (fun u d v e => u * e + v * d) (fun _ d _ e => d * e)
abbrev spMinus (K : PySem.W.Frag) : Sp := sp2 K (fun u d v e => u * e - v * d) (fun _ d _ e => d * e)
abbrev spTimes (K : PySem.W.Frag) : Sp := sp2 K (fun u _ v _ => u * v) (fun _ d _ e => d * e)
def spLess (K : PySem.W.Frag) : Sp := fun vs H Q _ => ∃ (a b : Addr) (u d v e : Int), vs = [.ref a, .ref b] ∧ FrAt K H a u d ∧ FrAt K H b v e ∧
  FoM.Sz 1900 u ∧ FoM.Sz 1900 d ∧ FoM.Sz 1900 v ∧ FoM.Sz 1900 e ∧ Q (.bl (decide (u * e < v * d))) H
theorem pow18 : ((10 : Int) ^ (18 : Int).toNat) = 1000000000000000000 := by decide
theorem sz_of {n : Nat} {i : Int} (m : Int) (h : -m < i) (g : i < m) (e : m.natAbs ≤ 2 ^ n) : FoM.Sz n i := Nat.lt_of_lt_of_le (by omega) e
theorem pow3 (i : Int) : i ^ (3 : Int).toNat = i * i * i := by
  show i ^ 3 = _
  rw [Int.pow_succ, Int.pow_succ, Int.pow_succ, Int.pow_zero, Int.one_mul]
section
variable {P : Program} {w : World} {K : PySem.W.Frag} {mg : Str → Option Value} {base : Heap}
theorem ok_cell (T : Tx K mg) : FnOk P w K mg base CX0 1 (He.ga K "_law_cell") T.fd_cell ["_law_script", "_law_k"] (spCell K) := by
  refine T.F_cell.ok sc_cell (fun vs H Q E h => ?_) (fun cdv A outer s H vs Q E hr h => ?_)
  · obtain ⟨a, ns, i, rfl, _⟩ := h
    rfl
  · obtain ⟨a, ns, i, rfl, hS, q⟩ := h
    refine ⟨_, (pss_one (ps_ret (pe_ifExp (pt_cmpR op_lt (pv 1) (pe_callB call_len_seq (by rfl) T.z_len PySem.boot_len (pa_cons (pv 0) pa_nil)) (nomark _)) (pe_ix ix_list (pv 0) (pv 1) (fun _ _ => rfl)) pe_int))), ?_⟩
    refine ⟨_, rfl, _, rfl, a, _, rfl, .inl hS, _, _, rfl, rfl, _, rfl, ite2 (fun e => ?_) (fun e => ?_)⟩
    · have e1 : i < ns.length := by
        have e0 := of_decide_eq_true e
        rw [List.length_map] at e0
        omega
      refine ⟨_, rfl, _, rfl, a, _, _, _, rfl, rfl, hS, atI_nat (by rw [List.getElem?_map, List.getElem?_eq_getElem e1]; rfl), ?_⟩
      have e2 : ns.getD i 0 = ns[i] := by simp [List.getD, List.getElem?_eq_getElem e1]
      rw [← e2]
      exact q
    · have e1 : ¬ i < ns.length := fun z => e (decide_eq_true (by rw [List.length_map]; omega))
      have e2 : ns.getD i 0 = 0 := by simp [List.getD, List.getElem?_eq_none (Nat.le_of_not_lt e1)]
      rw [e2] at q
      exact q
theorem ok_box (T : Tx K mg) : FnOk P w K mg base CX0 2 (He.ga K "_law_box") T.fd_box ["_law_script", "_law_k"] (spBox K) := by
  refine T.F_box.ok sc_box (fun vs H Q E h => ?_) (fun cdv A outer s H vs Q E hr h => ?_)
  · obtain ⟨a, ns, i, rfl, _⟩ := h
    rfl
  · obtain ⟨a, ns, i, rfl, hS, hi, q⟩ := h
    refine ⟨_, (pss_one (ps_ret (pe_lst (pa_cons (pe_callB call_abs (by rfl) T.z_abs (by decide +kernel) (pa_cons (pe_callTy FoA.call_intI (by rfl) T.z_int (by decide +kernel) (pa_cons (pe_call (ok_cell T) (hr.mono (by decide)) (by rfl) T.g_cell T.F_cell.kp T.b_cell .nil pass0 (pa_cons (pv 0) (pa_cons (pv 1) pa_nil))) pa_nil)) pa_nil)) (pa_cons pe_int (pa_cons (pe_op op_add (pe_op op_mulW pe_int (pv 1)) pe_int) pa_nil)))))), ?_⟩
    refine ⟨_, rfl, _, rfl, a, ns, i, rfl, hS, _, rfl, _, rfl, _, rfl, _, _, rfl, rfl, FoM.Sz.mulok (n := 20) (m := 20) (sz_of 1000000 (by decide) (by decide) (by decide)) (sz_of 1000000 (by omega) (by omega) (by decide)), _, _, rfl, rfl, ?_⟩
    refine ⟨(by show 3 ≤ sizeLine; rw [sizeLine_eq]; decide), fun p hp => ?_⟩
    refine q p _ hp (Same.upd hp) ⟨_, _, _, upd_same, ?_, ?_, ?_, ?_, ?_⟩
    · split <;> omega
    · omega
    · omega
    · omega
    · omega
theorem ok_take (T : Tx K mg) : FnOk P w K mg base CX0 1 (He.ga K "_law_take") T.fd_take ["_law_box_here", "_law_many"] spTake := by
  refine T.F_take.ok sc_take (fun vs H Q E h => ?_) (fun cdv A outer s H vs Q E hr h => ?_)
  · obtain ⟨p, m, n, rfl, _⟩ := h
    rfl
  · obtain ⟨p, m, n, rfl, ⟨x, c, sd, hB, hx, hc, hcn, hs, hs2⟩, hn, hm, hz, q⟩ := h
    have hL : SqL K H p [.int x, .int c, .int sd] := SqL.of hB
    refine ⟨_, (pss_cons (ps_if (pt_cmpR op_ge (pe_ix ix_list (pv 0) pe_int (fun _ _ => rfl)) (pe_op FoA.op_powW pe_int pe_int) (nomark _)) (pss_cons (ps_set (i := 2) sc_take.nd rfl (.inl rfl) (pe_op op_mod (pe_callTy FoA.call_intI (by rfl) T.z_int (by decide +kernel) (pa_cons (pe_ix ix_list (pv 0) pe_int (fun _ _ => rfl)) pa_nil)) (pv 1)))
      (pss_cons (ps_asg (pe_op op_fdivW (pe_ix ix_list (pv 0) pe_int (fun _ _ => rfl)) (pv 1)) (pg_sub (pv 0) pe_int set_list))
      (pss_one (ps_ret (pv 2))))) pss_nil)
      (pss_cons (ps_asg (pe_op op_add (pe_ix ix_list (pv 0) pe_int (fun _ _ => rfl)) pe_int) (pg_sub (pv 0) pe_int set_list))
      (pss_cons (ps_set (i := 3) sc_take.nd rfl (.inl rfl) (pe_op op_mod (pe_op FoA.op_powW (pe_callTy FoA.call_intI (by rfl) T.z_int (by decide +kernel) (pa_cons (pe_op op_add (pe_op op_add (pe_op op_mulW (pe_op op_add (pe_ix ix_list (pv 0) pe_int (fun _ _ => rfl)) pe_int) pe_int) (pe_op op_mulW (pe_ix ix_list (pv 0) pe_int (fun _ _ => rfl)) pe_int)) (pe_ix ix_list (pv 0) pe_int (fun _ _ => rfl))) pa_nil)) pe_int) pe_int))
      (pss_cons (ps_set (i := 3) sc_take.nd rfl (.inl rfl) (pe_op op_mod (pe_op FoA.op_powW (pe_callTy FoA.call_intI (by rfl) T.z_int (by decide +kernel) (pa_cons (pe_op op_add (pv 3) (pe_op op_mulW (pe_ix ix_list (pv 0) pe_int (fun _ _ => rfl)) pe_int)) pa_nil)) pe_int) pe_int))
      (pss_one (ps_ret (pe_op op_mod (pe_callTy FoA.call_intI (by rfl) T.z_int (by decide +kernel) (pa_cons (pe_op op_fdivW (pv 3) pe_int) pa_nil)) (pv 1)))))))), ?_⟩
    refine ⟨_, rfl, _, _, _, _, rfl, rfl, hL, rfl, _, _, rfl, rfl, ⟨by decide, by decide, by decide⟩, _, _, rfl, rfl, _, rfl, ite2 (fun e => ?_) (fun e => ?_)⟩
    · -- a digit of the number itself
      have hdv : CDivW x m := wide_div hm hz (by decide) (by decide)
      refine ⟨_, rfl, _, _, _, _, rfl, rfl, hL, rfl, _, rfl, _, rfl, _, _, rfl, rfl, hm, ?_⟩
      refine ⟨_, rfl, _, _, _, _, rfl, rfl, hL, rfl, _, rfl, _, _, rfl, rfl, hdv, _, rfl, p, _, 0, 0, rfl, rfl, hB, rfl, ?_⟩
      refine ⟨_, rfl, q _ _ (Int.emod_nonneg _ (by omega)) (Int.emod_lt_of_pos _ hm) ⟨x / m, c, sd, upd_same, Int.ediv_nonneg hx (by omega), hc, by omega, hs, hs2⟩ But.upd⟩
    · have hx2 : x < 1000000000000000000 := by
        rw [pow18] at e
        have e2 := of_decide_eq_false (Bool.eq_false_iff.mpr e)
        omega
      -- counted up
      refine ⟨_, rfl, _, _, _, _, rfl, rfl, hL, rfl, _, _, rfl, rfl, _, rfl, p, _, 1, 1, rfl, rfl, hB, rfl, ?_⟩
      have hL1 : SqL K (upd H p (.lst [.int x, .int (c + 1), .int sd])) p [.int x, .int (c + 1), .int sd] := SqL.of upd_same
      refine ⟨_, rfl, _, _, _, _, rfl, rfl, hL1, rfl, _, _, rfl, rfl, _, _, rfl, rfl, FoM.Sz.mulok (n := 64) (m := 20) (sz_of 2000000000000000000 (by omega) (by omega) (by decide)) (sz_of 1000000 (by decide) (by decide) (by decide)),
        _, rfl, _, _, _, _, rfl, rfl, hL1, rfl, _, _, rfl, rfl, FoM.Sz.mulok (n := 20) (m := 20) (sz_of 1000000 (by omega) (by omega) (by decide)) (sz_of 1000000 (by decide) (by decide) (by decide)), _, _, rfl, rfl,
        _, rfl, _, _, _, _, rfl, rfl, hL1, rfl, _, _, rfl, rfl, _, rfl, _, _, rfl, rfl, ⟨by decide, by decide, ?_⟩, _, _, rfl, rfl, (by show (0 : Int) < 2147483647; decide), ?_⟩
      · exact sz_of (n := 1000) 1000000000000000000000000000000 (by omega) (by omega) (by decide)
      generalize hg : ((x + 7) * 69069 + (c + 1) * 40692 + sd) ^ (3 : Int).toNat % 2147483647 = g
      have g0 : 0 ≤ g := by
        rw [← hg]
        exact Int.emod_nonneg _ (by decide)
      have g1 : g < 2147483647 := by
        rw [← hg]
        exact Int.emod_lt_of_pos _ (by decide)
      refine ⟨_, rfl, _, rfl, _, _, _, _, rfl, rfl, hL1, rfl, _, _, rfl, rfl, FoM.Sz.mulok (n := 20) (m := 20) (sz_of 1000000 (by omega) (by omega) (by decide)) (sz_of 1000000 (by decide) (by decide) (by decide)), _, _, rfl, rfl, _, rfl, _, _, rfl, rfl, ⟨by decide, by decide, ?_⟩, _, _, rfl, rfl, (by show (0 : Int) < 2147483399; decide), ?_⟩
      · exact sz_of (n := 1000) 1000000000000000000000000000000 (by omega) (by omega) (by decide)
      generalize hk : (g + (c + 1) * 17389) ^ (3 : Int).toNat % 2147483399 = k
      have k0 : 0 ≤ k := by
        rw [← hk]
        exact Int.emod_nonneg _ (by decide)
      refine ⟨_, rfl, _, _, rfl, rfl, wide_div (b := 20) (by decide) (by decide) (by decide) (by decide), _, rfl, _, rfl, _, _, rfl, rfl, hm, ?_⟩
      exact q _ _ (Int.emod_nonneg _ (by omega)) (Int.emod_lt_of_pos _ hm) ⟨x, c + 1, sd, upd_same, hx, by omega, by omega, hs, hs2⟩ But.upd
theorem ok_frac (T : Tx K mg) : FnOk P w K mg base CX0 1 (He.ga K "_law_frac") T.fd_frac ["_law_up", "_law_down"] spFrac := by
  refine T.F_frac.ok sc_frac (fun vs H Q E h => ?_) (fun cdv A outer s H vs Q E hr h => ?_)
  · obtain ⟨u, d, rfl, _⟩ := h
    rfl
  · obtain ⟨u, d, rfl, hd, hz, q⟩ := h
    refine ⟨_, (pss_cons (ps_par (i := 2) (j := 3) (by rfl) sc_frac.nd rfl rfl (by decide) rfl rfl (pa_cons (pe_callB call_abs (by rfl) T.z_abs (by decide +kernel) (pa_cons (pv 0) pa_nil)) (pa_cons (pe_callB call_abs (by rfl) T.z_abs (by decide +kernel) (pa_cons (pv 1) pa_nil)) pa_nil)) (by rfl))
      (pss_cons (ps_while PassesOwn.never (pt_cmpR op_gt (pv 3) pe_int (nomark _)) (pss_one (ps_par (i := 2) (j := 3) (by rfl) sc_frac.nd rfl rfl (by decide) rfl rfl (pa_cons (pv 3) (pa_cons (pe_op op_mod (pv 2) (pv 3)) pa_nil)) (by rfl))))
      (pss_cons (ps_if (pt_cmpR op_lt (pv 1) pe_int (nomark _)) (pss_one (ps_set (i := 2) sc_frac.nd rfl (.inl rfl) (pe_op op_sub pe_int (pv 2)))) pss_nil)
      (pss_one (ps_ret (pe_tup (pa_cons (pe_op FoA.op_fdivZ (pv 0) (pv 2)) (pa_cons (pe_op FoA.op_fdivZ (pv 1) (pv 2)) pa_nil)))))))), ?_⟩
    refine ⟨_, rfl, _, rfl, _, rfl, _, rfl, _, _, rfl, ?_⟩
    -- the greatest common divisor
    refine ⟨fun k σ H2 => H2 = H ∧ ∃ a b : Int, σ = [some (.int u), some (.int d), some (.int a), some (.int b)] ∧ 0 ≤ a ∧ 0 ≤ b ∧ k = b.toNat ∧ Nat.gcd a.natAbs b.natAbs = Nat.gcd u.natAbs d.natAbs, ⟨_, rfl, _, _, rfl, ?_, ?_, rfl, ?_⟩, ?_⟩
    · split <;> omega
    · split <;> omega
    · congr 1 <;> (split <;> omega)
    rintro k σ H2 ⟨rfl, a, b, rfl, ha, hb, rfl, hg⟩
    refine ⟨_, rfl, _, _, rfl, rfl, _, rfl, ite2 (fun e => ?_) (fun e => ?_)⟩
    · have hb0 : 0 < b := of_decide_eq_true e
      refine ⟨fun σ' H' => H' = H2 ∧ σ' = [some (.int u), some (.int d), some (.int b), some (.int (a % b))], fun σ' H' h => ?_, ?_⟩
      · obtain ⟨rfl, rfl⟩ := h
        have l1 := Int.emod_lt_of_pos a hb0
        have l0 := Int.emod_nonneg a (show b ≠ 0 by omega)
        refine ⟨(a % b).toNat, by omega, rfl, b, a % b, rfl, hb, l0, rfl, ?_⟩
        rw [← hg]
        have e1 : (a % b).natAbs = a.natAbs % b.natAbs := by
          have e2 : ((a.natAbs : Int) % (b.natAbs : Int)) = a % b := by
            rw [Int.natAbs_of_nonneg ha, Int.natAbs_of_nonneg hb]
          rw [← e2]
          omega
        rw [e1, Nat.gcd_comm a.natAbs, Nat.gcd_rec b.natAbs a.natAbs, Nat.gcd_comm]
      · exact ⟨_, rfl, _, rfl, _, rfl, _, _, rfl, rfl, hb0, _, _, rfl, rfl, rfl⟩
    · have hb0 : b = 0 := by
        have := of_decide_eq_false (Bool.eq_false_iff.mpr e)
        omega
      subst hb0
      have hga : a = ((Nat.gcd u.natAbs d.natAbs : Nat) : Int) := by
        rw [← hg]
        simp
        omega
      have hne := FoM.gc_ne (u := u) hd
      have hle := FoM.gc_le (u := u) hd
      have hdz : FoA.CDivZ u (FoM.gc u d) := FoA.divZ_of hne (FoM.Sz.le hz hle) (by decide) (by decide)
      have hdz2 : FoA.CDivZ d (FoM.gc u d) := FoA.divZ_of hne (FoM.Sz.le hz hle) (by decide) (by decide)
      refine ⟨_, rfl, _, _, rfl, rfl, _, rfl, ite2 (fun e2 => ?_) (fun e2 => ?_)⟩
      · have hd0 : d < 0 := of_decide_eq_true e2
        have eg : (0 : Int) - a = FoM.gc u d := by
          unfold FoM.gc
          rw [if_pos hd0, hga]
          omega
        rw [← eg] at hdz hdz2
        refine ⟨_, rfl, _, _, rfl, rfl, _, rfl, _, rfl, _, _, rfl, rfl, hdz, _, rfl, _, rfl, _, _, rfl, rfl, hdz2, (by show 2 ≤ sizeLine; rw [sizeLine_eq]; decide), fun p hp => ?_⟩
        have z := q p hp
        unfold FoM.frN FoM.frD at z
        rw [← eg] at z
        exact z
      · have hd0 : ¬ d < 0 := of_decide_eq_false (Bool.eq_false_iff.mpr e2)
        have eg : a = FoM.gc u d := by
          unfold FoM.gc
          rw [if_neg hd0, hga]
        rw [← eg] at hdz hdz2
        refine ⟨_, rfl, _, rfl, _, _, rfl, rfl, hdz, _, rfl, _, rfl, _, _, rfl, rfl, hdz2, (by show 2 ≤ sizeLine; rw [sizeLine_eq]; decide), fun p hp => ?_⟩
        have z := q p hp
        unfold FoM.frN FoM.frD at z
        rw [← eg] at z
        exact z
end

end Fo

set_option maxHeartbeats 4100000
namespace Fo
open PySem PySem.Spec PyProof.Rows L2
/-! ### the class Ratio -/
abbrev RC (K : PySem.W.Frag) : Addr := He.ga K "Ratio"
def rf (a b : Int) : List (Str × V) := putF "_bottom" (.int b) (putF "_top" (.int a) [])
theorem tb_ne : ¬ (("_top" : Str) = "_bottom") := by decide +kernel
theorem rf_top (a b : Int) : (rf a b).lookup ("_top" : Str) = some (.int a) := by
  unfold rf
  rw [lookup_putF, if_neg tb_ne, lookup_putF, if_pos rfl]
theorem rf_bot (a b : Int) : (rf a b).lookup ("_bottom" : Str) = some (.int b) := by
  unfold rf
  rw [lookup_putF, if_pos rfl]
theorem rf_no (a b : Int) {m : Str} (h1 : ¬ m = "_bottom") (h2 : ¬ m = "_top") : (rf a b).lookup m = none := by
  unfold rf
  rw [lookup_putF, if_neg h1, lookup_putF, if_neg h2]
  rfl
/-- at p: the Ratio a / b as its object keeps it -/
def RatAt (K : PySem.W.Frag) (H : Hp) (p : Addr) (a b : Int) : Prop := ∃ dx, H p = some (.ins (RC K) dx (rf a b))
theorem RatAt.same {K : PySem.W.Frag} {H H' : Hp} {p : Addr} {a b : Int} (h : RatAt K H p a b) (e : Same H H') : RatAt K H' p a b :=
  let ⟨dx, q⟩ := h
  ⟨dx, e _ _ q⟩
/-- a number: a Ratio, or an int -/
def NumV (K : PySem.W.Frag) (H : Hp) (y : V) (v e : Int) : Prop := (∃ b, y = .ref b ∧ RatAt K H b v e) ∨ (y = .int v ∧ e = 1)
theorem NumV.same {K : PySem.W.Frag} {H H' : Hp} {y : V} {v e : Int} (h : NumV K H y v e) (s : Same H H') : NumV K H' y v e := by
  rcases h with ⟨b, h1, h2⟩ | h
  · exact .inl ⟨b, h1, h2.same s⟩
  · exact .inr h
/-- a value that is no number -/
inductive NoNum (H : Hp) : V → Prop where
  | non : NoNum H .non
  | bl (b : Bool) : NoNum H (.bl b)
  | str (x : Str) : NoNum H (.str x)
  | lst {a : Addr} {xs : List V} (e : H a = some (.lst xs)) : NoNum H (.ref a)
  | tup {a : Addr} {xs : List V} (e : H a = some (.tup xs)) : NoNum H (.ref a)
  | dK {a : Addr} {xs : List (Key × V)} (e : H a = some (.dK xs)) : NoNum H (.ref a)
theorem NoNum.oth {H : Hp} {C : Addr} {y : V} (h : NoNum H y) : FoA.OthV H C y := by
  cases h with
  | non => exact .non
  | bl b => exact .bl b
  | str x => exact .str x
  | lst e => exact .lst e
  | tup e => exact .tup e
  | dK e => exact .dK e
theorem NumV.oth {K : PySem.W.Frag} {H : Hp} {y : V} {v e : Int} (h : NumV K H y v e) : FoA.OthV H (RC K) y := by
  rcases h with ⟨b, rfl, dx, q⟩ | ⟨rfl, _⟩
  · exact .ins q
  · exact .int _
/-- a plain value's type, and what isinstance tells of it -/
theorem NoNum.ty {K : PySem.W.Frag} {H : Hp} {y : V} (h : NoNum H y) : ∃ T, T ∈ FoZ.tyNames ∧ TyX K H y (.type T) ∧ ∃ b1 b2, PySem.W.kitOne K (.type T) (.type "int") = some b1 ∧ PySem.W.kitOne K (.type T) (.type "bool") = some b2 ∧ (b1 && !b2) = false := by
  cases h with
  | non => exact ⟨"NoneType", by decide, .base .non, false, false, kit_ty (by decide +kernel), kit_ty (by decide +kernel), rfl⟩
  | bl b => exact ⟨"bool", by decide, .base (.bl b), true, true, kit_ty (by decide +kernel), kit_ty (by decide +kernel), rfl⟩
  | str x => exact ⟨"str", by decide, .base (.str x), false, false, kit_ty (by decide +kernel), kit_ty (by decide +kernel), rfl⟩
  | lst e => exact ⟨"list", by decide, .base (.lst e), false, false, kit_ty (by decide +kernel), kit_ty (by decide +kernel), rfl⟩
  | tup e => exact ⟨"tuple", by decide, .base (.tup e), false, false, kit_ty (by decide +kernel), kit_ty (by decide +kernel), rfl⟩
  | dK e => exact ⟨"dict", by decide, .base (.dK e), false, false, kit_ty (by decide +kernel), kit_ty (by decide +kernel), rfl⟩
theorem kit_int {K : PySem.W.Frag} : PySem.W.kitOne K (.type "int") (.type "int") = some true ∧ PySem.W.kitOne K (.type "int") (.type "bool") = some false := ⟨kit_ty (by decide +kernel), kit_ty (by decide +kernel)⟩
def sgn (v : Int) : Int := if v = 0 then 0 else if 0 < v then 1 else -1
/-! ### promises -/
def spInit (K : PySem.W.Frag) : Sp := fun vs H Q _ => ∃ (p dx : Addr) (t b : Int), vs = [.ref p, .int t, .int b] ∧ H p = some (.ins (RC K) dx []) ∧ b ≠ 0 ∧ FoM.Sz 4000 b ∧ ∀ H', RatAt K H' p (FoM.frN t b) (FoM.frD t b) → But p H H' → Q .non H'
def spTop (K : PySem.W.Frag) : Sp := fun vs H Q _ => ∃ (a : Addr) (u d : Int), vs = [.ref a] ∧ RatAt K H a u d ∧ Q (.int u) H
def spBot (K : PySem.W.Frag) : Sp := fun vs H Q _ => ∃ (a : Addr) (u d : Int), vs = [.ref a] ∧ RatAt K H a u d ∧ Q (.int d) H
def spIsInt (K : PySem.W.Frag) : Sp := fun vs H Q _ => ∃ y : V, vs = [y] ∧ (((∃ i, y = .int i) ∧ Q (.bl true) H) ∨ (NoNum H y ∧ Q (.bl false) H))
def spIsNumber (K : PySem.W.Frag) : Sp := fun vs H Q _ => ∃ y : V, vs = [y] ∧ ((∃ v e, NumV K H y v e ∧ Q (.bl true) H) ∨ (NoNum H y ∧ Q (.bl false) H))
def spAs (K : PySem.W.Frag) : Sp := fun vs H Q _ => ∃ (y : V) (v e : Int), vs = [y] ∧ NumV K H y v e ∧ ∀ b H', Same H H' → RatAt K H' b v e → Q (.ref b) H'
def spSign (K : PySem.W.Frag) : Sp := fun vs H Q _ => ∃ (y : V) (v e : Int), vs = [y] ∧ NumV K H y v e ∧ ∀ H', Same H H' → Q (.int (sgn v)) H'
def spEq (K : PySem.W.Frag) : Sp := fun vs H Q _ => ∃ (a : Addr) (y : V) (u d : Int), vs = [.ref a, y] ∧ RatAt K H a u d ∧
  ((∃ (b : Addr) (v e : Int), y = .ref b ∧ RatAt K H b v e ∧ Q (.bl (decide (u = v) && decide (d = e))) H) ∨ (∃ i, y = .int i ∧ Q (.bl (decide (d = 1) && decide (u = i))) H) ∨ (NoNum H y ∧ Q (.bl false) H))
/-- an operation of a Ratio and a number: what is told -/
def spCmp (K : PySem.W.Frag) (f : Int → Int → Bool) : Sp := fun vs H Q _ => ∃ (a : Addr) (y : V) (u d v e : Int), vs = [.ref a, y] ∧ RatAt K H a u d ∧ NumV K H y v e ∧
  FoM.Sz 1900 u ∧ FoM.Sz 1900 d ∧ FoM.Sz 1900 v ∧ FoM.Sz 1900 e ∧ ∀ H', Same H H' → Q (.bl (f (u * e) (v * d))) H'
def spOp (K : PySem.W.Frag) (N D : Int → Int → Int → Int → Int) (C : Int → Int → Prop) : Sp := fun vs H Q _ => ∃ (a : Addr) (y : V) (u d v e : Int), vs = [.ref a, y] ∧ RatAt K H a u d ∧ NumV K H y v e ∧ d ≠ 0 ∧ C v e ∧
  FoM.Sz 1900 u ∧ FoM.Sz 1900 d ∧ FoM.Sz 1900 v ∧ FoM.Sz 1900 e ∧ ∀ p H', H p = none → Same H H' → RatAt K H' p (FoM.frN (N u d v e) (D u d v e)) (FoM.frD (N u d v e) (D u d v e)) → Q (.ref p) H'
abbrev spAdd (K : PySem.W.Frag) : Sp := spOp K (fun u d v e => u * e + v * d) (fun _ d _ e => d * e) (fun _ e => e ≠ 0)
abbrev spSub (K : PySem.W.Frag) : Sp := spOp K (fun u d v e => u * e - v * d) (fun _ d _ e => d * e) (fun _ e => e ≠ 0)
abbrev spMul (K : PySem.W.Frag) : Sp := spOp K (fun u _ v _ => u * v) (fun _ d _ e => d * e) (fun _ e => e ≠ 0)
abbrev spOver (K : PySem.W.Frag) : Sp := spOp K (fun u _ _ e => u * e) (fun _ d v _ => d * v) (fun v _ => v ≠ 0)
def spNeg (K : PySem.W.Frag) : Sp := fun vs H Q _ => ∃ (a : Addr) (u d : Int), vs = [.ref a] ∧ RatAt K H a u d ∧ d ≠ 0 ∧ FoM.Sz 4000 d ∧ ∀ p H', H p = none → Same H H' → RatAt K H' p (FoM.frN (-u) d) (FoM.frD (-u) d) → Q (.ref p) H'
section
variable {P : Program} {w : World} {K : PySem.W.Frag} {mg : Str → Option Value} {base : Heap}
theorem bind_init2 (T : Tx K mg) : Binds K T.fd_Ratio_init ["self", "top", "bottom"] [] := by
  obtain ⟨ds, v, b⟩ := T.F_Ratio_init.binds1 (ps := ["self", "top", "bottom"]) 3 1 (by simp) rfl (fun X kV doc pm an cdv ct us its l1 l2 => match us, its, l1, l2 with | [_, _, _], [_], _, _ => ⟨_, rfl, rfl⟩)
  cases v
  exact b
theorem bind_init1 (T : Tx K mg) : ∃ ds, Vals [.int 1] ds ∧ Binds K T.fd_Ratio_init ["self", "top", "bottom"] ds :=
  T.F_Ratio_init.binds1 (ps := ["self", "top", "bottom"]) 2 0 (by simp) rfl (fun X kV doc pm an cdv ct us its l1 l2 => match us, its, l1, l2 with | [_, _], [_], _, _ => ⟨_, rfl, rfl⟩)
theorem ok_Ratio_init (T : Tx K mg) : FnOk P w K mg base CX0 1 (He.ma K (He.ga K "Ratio") "__init__") T.fd_Ratio_init ["self", "top", "bottom"] (spInit K) := by
  refine T.F_Ratio_init.ok sc_Ratio_init (fun vs H Q E h => ?_) (fun cdv A outer s H vs Q E hr h => ?_)
  · obtain ⟨p, dx, t, b, rfl, _⟩ := h
    rfl
  · obtain ⟨p, dx, t, b, rfl, hp, hb, hz, q⟩ := h
    refine ⟨_, (pss_cons (ps_if (pt_cmpR op_eq (pv 2) pe_int (nomark _)) (pss_one ps_never) pss_nil)
      (pss_cons (ps_set (i := 3) sc_Ratio_init.nd rfl (.inl rfl) (pe_callBfun cr_gcd (by rfl) T.i_gcd (pa_cons (pv 1) (pa_cons (pv 2) pa_nil))))
      (pss_cons (ps_if (pt_cmpR op_lt (pv 2) pe_int (nomark _)) (pss_one (ps_set (i := 3) sc_Ratio_init.nd rfl (.inl rfl) (pe_un un_neg (pv 3)))) pss_nil)
      (pss_cons (ps_fld (pv 0) (pe_op FoA.op_fdivZ (pv 1) (pv 3)) rfl)
      (pss_one (ps_fld (pv 0) (pe_op FoA.op_fdivZ (pv 2) (pv 3)) rfl)))))), ?_⟩
    refine ⟨_, rfl, rfl, _, rfl, ite2 (fun e => absurd (V.int.inj (of_decide_eq_true e)) hb) (fun e => ?_)⟩
    refine ⟨_, rfl, _, rfl, _, _, rfl, ?_⟩
    have hne := FoM.gc_ne (u := t) hb
    have hle := FoM.gc_le (u := t) hb
    have hdz : FoA.CDivZ t (FoM.gc t b) := FoA.divZ_of hne (FoM.Sz.le hz hle) (by decide) (by decide)
    have hdz2 : FoA.CDivZ b (FoM.gc t b) := FoA.divZ_of hne (FoM.Sz.le hz hle) (by decide) (by decide)
    have fin : RatAt K (upd (upd H p (.ins (RC K) dx (putF "_top" (.int (FoM.frN t b)) []))) p (.ins (RC K) dx (putF "_bottom" (.int (FoM.frD t b)) (putF "_top" (.int (FoM.frN t b)) [])))) p (FoM.frN t b) (FoM.frD t b) := ⟨dx, upd_same⟩
    have fb : But p H (upd (upd H p (.ins (RC K) dx (putF "_top" (.int (FoM.frN t b)) []))) p (.ins (RC K) dx (putF "_bottom" (.int (FoM.frD t b)) (putF "_top" (.int (FoM.frN t b)) [])))) := But.upd.trans But.upd
    have last := q _ fin fb
    unfold FoM.frN FoM.frD at last
    refine ⟨_, rfl, _, _, rfl, rfl, _, rfl, ite2 (fun e2 => ?_) (fun e2 => ?_)⟩
    · have hd0 : b < 0 := of_decide_eq_true e2
      have eg : -((Nat.gcd t.natAbs b.natAbs : Nat) : Int) = FoM.gc t b := by
        unfold FoM.gc
        rw [if_pos hd0]
      rw [← eg] at hdz hdz2 last
      exact ⟨_, rfl, _, rfl, _, rfl, _, rfl, _, _, rfl, rfl, hdz, _, rfl, p, _, dx, _, rfl, hp, T.cl_R, T.nT_R, (by show 0 < 1000; decide), _, rfl, _, rfl, _, _, rfl, rfl, hdz2, _, rfl, p, _, dx, _, rfl, upd_same, T.cl_R, T.nB_R, (by show 1 < 1000; decide), last⟩
    · have hd0 : ¬ b < 0 := of_decide_eq_false (Bool.eq_false_iff.mpr e2)
      have eg : ((Nat.gcd t.natAbs b.natAbs : Nat) : Int) = FoM.gc t b := by
        unfold FoM.gc
        rw [if_neg hd0]
      rw [← eg] at hdz hdz2 last
      exact ⟨_, rfl, _, rfl, _, _, rfl, rfl, hdz, _, rfl, p, _, dx, _, rfl, hp, T.cl_R, T.nT_R, (by show 0 < 1000; decide), _, rfl, _, rfl, _, _, rfl, rfl, hdz2, _, rfl, p, _, dx, _, rfl, upd_same, T.cl_R, T.nB_R, (by show 1 < 1000; decide), last⟩
/-- what a call of Ratio asks, of a number and another one that is not 0 -/
theorem rd_make {H : Hp} {t b : Int} {Q : VK} {E : XK} (hb : b ≠ 0) (hz : FoM.Sz 4000 b) (q : ∀ p H', H p = none → Same H H' → RatAt K H' p (FoM.frN t b) (FoM.frD t b) → Q (.ref p) H') :
    ∀ x dx, H x = none → H dx = none → dx ≠ x → spInit K [.ref x, .int t, .int b] (upd (upd H dx (.own x)) x (.ins (RC K) dx [])) (fun v H2 => v = .non ∧ Q (.ref x) H2) E := fun x dx nx ndx ne =>
  ⟨x, dx, t, b, rfl, upd_same, hb, hz, fun H' hR hB => ⟨rfl, q x H' nx (Same.made nx ndx hB) hR⟩⟩
theorem ok_Ratio_top (T : Tx K mg) : FnOk P w K mg base CX0 1 (FoZ.pg K "Ratio" "top") T.fd_Ratio_top ["self"] (spTop K) := by
  refine T.F_Ratio_top.ok sc_Ratio_top (fun vs H Q E h => ?_) (fun cdv A outer s H vs Q E hr h => ?_)
  · obtain ⟨a, u, d, rfl, _⟩ := h
    rfl
  · obtain ⟨a, u, d, rfl, ⟨dx, ha⟩, q⟩ := h
    exact ⟨_, (pss_one (ps_ret (pe_fld (pv 0) rfl))), ⟨_, rfl, a, _, dx, _, _, rfl, ha, T.cl_R, T.nT_R, rf_top _ _, q⟩⟩
theorem ok_Ratio_bottom (T : Tx K mg) : FnOk P w K mg base CX0 1 (FoZ.pg K "Ratio" "bottom") T.fd_Ratio_bottom ["self"] (spBot K) := by
  refine T.F_Ratio_bottom.ok sc_Ratio_bottom (fun vs H Q E h => ?_) (fun cdv A outer s H vs Q E hr h => ?_)
  · obtain ⟨a, u, d, rfl, _⟩ := h
    rfl
  · obtain ⟨a, u, d, rfl, ⟨dx, ha⟩, q⟩ := h
    exact ⟨_, (pss_one (ps_ret (pe_fld (pv 0) rfl))), ⟨_, rfl, a, _, dx, _, _, rfl, ha, T.cl_R, T.nB_R, rf_bot _ _, q⟩⟩
theorem ok_is_whole (T : Tx K mg) : FnOk P w K mg base CX0 1 (He.ga K "is_whole") T.fd_is_whole ["given"] (spIsInt K) := by
  refine T.F_is_whole.ok sc_is_whole (fun vs H Q E h => ?_) (fun cdv A outer s H vs Q E hr h => ?_)
  · obtain ⟨y, rfl, _⟩ := h
    rfl
  · obtain ⟨y, rfl, h⟩ := h
    refine ⟨_, (pss_one (ps_ret (pe_and (pe_callB call_isi (by rfl) T.z_isinstance (by decide +kernel) (pa_cons (pv 0) (pa_cons (pe_bltn (v := V.ty "int") (u := Value.type "int") (by rfl) T.z_int (by decide +kernel) rfl) pa_nil))) (pe_one (pe_not (pe_callB call_isi (by rfl) T.z_isinstance (by decide +kernel) (pa_cons (pv 0) (pa_cons (pe_bltn (v := V.ty "bool") (u := Value.type "bool") (by rfl) T.z_bool (by decide +kernel) rfl) pa_nil)))))))), ?_⟩
    rcases h with ⟨⟨i, rfl⟩, q⟩ | ⟨hN, q⟩
    · refine ⟨_, rfl, _, _, _, _, _, rfl, .ty _, .base (.int i), kit_int.1, _, rfl, iteT ?_⟩
      exact ⟨_, rfl, _, _, _, _, _, rfl, .ty _, .base (.int i), kit_int.2, _, rfl, q⟩
    · obtain ⟨X, hX, ty, b1, b2, k1, k2, hb⟩ := hN.ty (K := K)
      refine ⟨_, rfl, _, _, _, _, _, rfl, .ty _, ty, k1, _, rfl, ?_⟩
      cases b1 with
      | false => exact iteF q
      | true =>
        cases b2 with
        | false => cases hb
        | true => exact iteT ⟨_, rfl, _, _, _, _, _, rfl, .ty _, ty, k2, _, rfl, q⟩
theorem ok_is_number (T : Tx K mg) : FnOk P w K mg base CX0 2 (He.ga K "is_number") T.fd_is_number ["given"] (spIsNumber K) := by
  refine T.F_is_number.ok sc_is_number (fun vs H Q E h => ?_) (fun cdv A outer s H vs Q E hr h => ?_)
  · obtain ⟨y, rfl, _⟩ := h
    rfl
  · obtain ⟨y, rfl, h⟩ := h
    refine ⟨_, (pss_one (ps_ret (pe_or (pe_callB call_isi (by rfl) T.z_isinstance (by decide +kernel) (pa_cons (pv 0) (pa_cons (pe_glob (v := V.ref (He.ga K "Ratio")) (by rfl) T.c_Ratio rfl) pa_nil))) (pe_one (pe_call (ok_is_whole T) (hr.mono (by decide)) (by rfl) T.g_is_whole T.F_is_whole.kp T.b_is_whole .nil pass0 (pa_cons (pv 0) pa_nil)))))), ?_⟩
    rcases h with ⟨v, e, ⟨b, rfl, dx, hb⟩ | ⟨rfl, rfl⟩, q⟩ | ⟨hN, q⟩
    · exact ⟨_, rfl, _, _, _, _, _, rfl, .own _, FoB.TyI T.is_R T.cl_R hb, FoB.kit_self, _, rfl, iteT q⟩
    · refine ⟨_, rfl, _, _, _, _, _, rfl, .own _, .base (.int v), T.is_R.kt "int" (by decide), _, rfl, iteF ?_⟩
      exact ⟨_, rfl, _, rfl, .inl ⟨⟨v, rfl⟩, q⟩⟩
    · obtain ⟨X, hX, ty, _⟩ := hN.ty (K := K)
      refine ⟨_, rfl, _, _, _, _, _, rfl, .own _, ty, T.is_R.kt X hX, _, rfl, iteF ?_⟩
      exact ⟨_, rfl, _, rfl, .inr ⟨hN, q⟩⟩
theorem ok_Ratio_eq (T : Tx K mg) : FnOk P w K mg base CX0 2 (He.ma K (He.ga K "Ratio") "__eq__") T.fd_Ratio_eq ["self", "other"] (spEq K) := by
  refine T.F_Ratio_eq.ok sc_Ratio_eq (fun vs H Q E h => ?_) (fun cdv A outer s H vs Q E hr h => ?_)
  · obtain ⟨a, y, u, d, rfl, _⟩ := h
    rfl
  · obtain ⟨a, y, u, d, rfl, ⟨dx, ha⟩, h⟩ := h
    refine ⟨_, (pss_cons (ps_if (pt_val (pe_callB call_isi (by rfl) T.z_isinstance (by decide +kernel) (pa_cons (pv 1) (pa_cons (pe_glob (v := V.ref (He.ga K "Ratio")) (by rfl) T.c_Ratio rfl) pa_nil)))) (pss_one (ps_ret (pe_and (pe_cmpR op_eq (pe_fld (pv 0) rfl) (pe_fld (pv 1) rfl) (nomark _)) (pe_one (pe_cmpR op_eq (pe_fld (pv 0) rfl) (pe_fld (pv 1) rfl) (nomark _)))))) pss_nil)
      (pss_one (ps_ret (pe_and (pe_call (ok_is_whole T) (hr.mono (by decide)) (by rfl) T.g_is_whole T.F_is_whole.kp T.b_is_whole .nil pass0 (pa_cons (pv 1) pa_nil)) (pe_and (pe_cmpR op_eq (pe_fld (pv 0) rfl) pe_int (nomark _)) (pe_one (pe_cmpR op_eq (pe_fld (pv 0) rfl) (pv 1) (nomark _)))))))), ?_⟩
    rcases h with ⟨b, v, e, rfl, ⟨dy, hb⟩, q⟩ | ⟨i, rfl, q⟩ | ⟨hN, q⟩
    · refine ⟨_, rfl, _, _, _, _, _, rfl, .own _, FoB.TyI T.is_R T.cl_R hb, FoB.kit_self, _, rfl, iteT ?_⟩
      refine ⟨_, rfl, a, _, dx, _, _, rfl, ha, T.cl_R, T.nT_R, rf_top _ _, _, rfl, b, _, dy, _, _, rfl, hb, T.cl_R, T.nT_R, rf_top _ _, rfl, _, rfl, ?_⟩
      by_cases e1 : u = v
      · rw [decide_eq_true e1, Bool.true_and] at q
        rw [decide_eq_true (show V.int u = V.int v by rw [e1])]
        refine iteT ⟨_, rfl, a, _, dx, _, _, rfl, ha, T.cl_R, T.nB_R, rf_bot _ _, _, rfl, b, _, dy, _, _, rfl, hb, T.cl_R, T.nB_R, rf_bot _ _, rfl, ?_⟩
        have e2 : decide (V.int d = V.int e) = decide (d = e) := by
          by_cases z : d = e
          · rw [z]; simp
          · rw [decide_eq_false z, decide_eq_false (fun h => z (V.int.inj h))]
        show Q (.bl (decide (V.int d = V.int e))) H
        rw [e2]
        exact q
      · rw [decide_eq_false e1, Bool.false_and] at q
        rw [decide_eq_false (fun h : V.int u = V.int v => e1 (V.int.inj h))]
        exact iteF q
    · refine ⟨_, rfl, _, _, _, _, _, rfl, .own _, .base (.int i), T.is_R.kt "int" (by decide), _, rfl, iteF ?_⟩
      refine ⟨_, rfl, _, rfl, .inl ⟨⟨i, rfl⟩, _, rfl, iteT ?_⟩⟩
      refine ⟨_, rfl, a, _, dx, _, _, rfl, ha, T.cl_R, T.nB_R, rf_bot _ _, rfl, _, rfl, ?_⟩
      by_cases e1 : d = 1
      · rw [decide_eq_true e1, Bool.true_and] at q
        rw [decide_eq_true (show V.int d = V.int 1 by rw [e1])]
        refine iteT ⟨_, rfl, a, _, dx, _, _, rfl, ha, T.cl_R, T.nT_R, rf_top _ _, _, rfl, rfl, ?_⟩
        have e2 : decide (V.int u = V.int i) = decide (u = i) := by
          by_cases z : u = i
          · rw [z]; simp
          · rw [decide_eq_false z, decide_eq_false (fun h => z (V.int.inj h))]
        show Q (.bl (decide (V.int u = V.int i))) H
        rw [e2]
        exact q
      · rw [decide_eq_false e1, Bool.false_and] at q
        rw [decide_eq_false (fun h : V.int d = V.int 1 => e1 (V.int.inj h))]
        exact iteF q
    · obtain ⟨X, hX, ty, _⟩ := hN.ty (K := K)
      refine ⟨_, rfl, _, _, _, _, _, rfl, .own _, ty, T.is_R.kt X hX, _, rfl, iteF ?_⟩
      exact ⟨_, rfl, _, rfl, .inr ⟨hN, _, rfl, iteF q⟩⟩
end

end Fo

set_option maxHeartbeats 4100000
namespace Fo
open PySem PySem.Spec PyProof.Rows L2
/-! ### texts and whole numbers -/
open TL FoT in
def spDigits : Sp := fun vs H Q _ => ∃ x : Str, vs = [.str x] ∧ ((Dig (tl x) ∧ Q (.bl true) H) ∨ (¬ Dig (tl x) ∧ Q (.bl false) H))
open TL FoT NumText in
def spIntOf : Sp := fun vs H Q _ => ∃ x : Str, vs = [.str x] ∧ Dig (tl x) ∧ (tl x).length < 64 ∧ Q (.int ((digitsVal (tl x) : Nat) : Int)) H
open TL FoT in
def spDec0 : Sp := fun vs H Q _ => ∃ n : Int, vs = [.int n] ∧ 0 ≤ n ∧ n < 10 ^ 60 ∧ ∀ x H', Same H H' → tl x = numI n → Q (.str x) H'
open TL FoT in
def spDec : Sp := fun vs H Q _ => ∃ n : Int, vs = [.int n] ∧ -(10 ^ 60) < n ∧ n < 10 ^ 60 ∧ ∀ x H', Same H H' → tl x = numI n → Q (.str x) H'
open TL FoT in
def spText (K : PySem.W.Frag) : Sp := fun vs H Q _ => ∃ (a : Addr) (u d : Int), vs = [.ref a] ∧ RatAt K H a u d ∧ -(10 ^ 60) < u ∧ u < 10 ^ 60 ∧ 0 < d ∧ d < 10 ^ 60 ∧ ∀ x H', Same H H' → tl x = txt u d → Q (.str x) H'
theorem cut_whole (x : Str) : TL.tl (cutS x none (some ((x.length : Nat) : Int))) = TL.tl x := by
  unfold cutS HT.sIx
  show List.take _ (List.drop _ (TL.tl x)) = TL.tl x
  simp only [Nat.sub_zero, List.drop_zero]
  rw [if_neg (by omega)]
  refine List.take_of_length_le (Nat.le_trans (Nat.le_of_eq (TL.len_tl x).symm) ?_)
  omega
theorem small64 : ∀ n : Nat, n < 64 → Builtin.Range.small (n : Int) (n : Int) 64 = true ∧ Builtin.Range.rangeSize (n : Int) (n : Int) 64 = 0 := by decide +kernel
section
variable {P : Program} {w : World} {K : PySem.W.Frag} {mg : Str → Option Value} {base : Heap}
theorem ok_has_only_digits (T : Tx K mg) : FnOk P w K mg base CX0 1 (He.ga K "_has_only_digits") T.fd_has_only_digits ["text"] spDigits := by
  refine T.F_has_only_digits.ok sc_has_only_digits (fun vs H Q E h => ?_) (fun cdv A outer s H vs Q E hr h => ?_)
  · obtain ⟨x, rfl, _⟩ := h
    rfl
  · obtain ⟨x, rfl, h⟩ := h
    refine ⟨_, (pss_one (ps_ret (pe_and (pe_m0 PySem.F.slot_str_isascii PySem.F.type_str_isascii mt_isascii (pv 0)) (pe_one (pe_m0 PySem.F.slot_str_isdigit PySem.F.type_str_isdigit mt_isdigit (pv 0)))))), ?_⟩
    refine ⟨_, rfl, ⟨_, rfl⟩, x, rfl, rfl, trivial, _, rfl, ?_⟩
    have key := FoT.only_digits x
    cases hA : Txt.isascii x with
    | false =>
      refine iteF ?_
      rcases h with ⟨hd, q⟩ | ⟨_, q⟩
      · have z := key.mpr hd
        rw [hA] at z
        cases z
      · exact q
    | true =>
      refine iteT ⟨_, rfl, ⟨_, rfl⟩, x, rfl, rfl, trivial, ?_⟩
      rw [hA, Bool.true_and] at key
      rcases h with ⟨hd, q⟩ | ⟨hd, q⟩
      · rw [key.mpr hd]
        exact q
      · rw [Bool.eq_false_iff.mpr fun z => hd (key.mp z)]
        exact q
theorem ok_integer_of (T : Tx K mg) : FnOk P w K mg base CX0 1 (He.ga K "_integer_of") T.fd_integer_of ["digits"] spIntOf := by
  refine T.F_integer_of.ok sc_integer_of (fun vs H Q E h => ?_) (fun cdv A outer s H vs Q E hr h => ?_)
  · obtain ⟨x, rfl, _⟩ := h
    rfl
  · obtain ⟨x, rfl, hd, hl, q⟩ := h
    refine ⟨_, (pss_cons (ps_set (i := 1) sc_integer_of.nd rfl (.inl rfl) (pe_op op_mod (pe_callB call_len_str (by rfl) T.z_len PySem.boot_len (pa_cons (pv 0) pa_nil)) (pe_glob (v := V.int 64) (by rfl) T.k_PIECE_DIGITS.choose_spec ⟨_, rfl⟩)))
      (pss_cons (ps_set (i := 2) sc_integer_of.nd rfl (.inl rfl) (pe_callTy call_int_str (by rfl) T.z_int (by decide +kernel) (pa_cons (pe_op op_add_str pe_str (pe_slice sl_str (pv 0) po_none (po_some (pv 1)))) pa_nil)))
      (pss_cons (ps_for PassesOwn.never rfl (pi_range3 (by rfl) T.z_range (pa_cons (pv 1) (pa_cons (pe_callB call_len_str (by rfl) T.z_len PySem.boot_len (pa_cons (pv 0) pa_nil)) (pa_cons (pe_glob (v := V.int 64) (by rfl) T.k_PIECE_DIGITS.choose_spec ⟨_, rfl⟩) pa_nil)))) (pg_name (i := 3) sc_integer_of.nd rfl (.inl rfl)) (pss_one (ps_set (i := 2) sc_integer_of.nd rfl (.inl rfl) (pe_op op_add (pe_op op_mulW (pv 2) (pe_glob (v := V.int (10 ^ 64)) (by rfl) T.k_PIECE.choose_spec ⟨_, rfl⟩)) (pe_callTy call_int_str (by rfl) T.z_int (by decide +kernel) (pa_cons (pe_slice sl_str (pv 0) (po_some (pv 3)) (po_some (pe_op op_add (pv 3) (pe_glob (v := V.int 64) (by rfl) T.k_PIECE_DIGITS.choose_spec ⟨_, rfl⟩)))) pa_nil))))))
      (pss_one (ps_ret (pv 2)))))), ?_⟩
    have hl' : x.length < 64 := by rw [TL.len_tl]; exact hl
    have hz : x.length ≤ sizeLine := by rw [sizeLine_eq]; omega
    refine ⟨_, rfl, x, rfl, hz, _, _, rfl, rfl, (by show (0 : Int) < 64; decide), ?_⟩
    have em : ((x.length : Nat) : Int) % 64 = ((x.length : Nat) : Int) := by omega
    have cut : TL.tl (cutS x none (some (((x.length : Nat) : Int) % 64))) = TL.tl x := by
      rw [em]
      exact cut_whole x
    refine ⟨_, rfl, _, rfl, _, rfl, x, rfl, hz, _, _, rfl, rfl, ?_, ?_⟩
    · rw [TL.len_tl (cutS _ _ _), cut, sizeLine_eq]
      show 1 + _ ≤ _
      omega
    refine ⟨_, _, rfl, FoT.zero_text cut hd hl, ?_, ?_⟩
    · rw [TL.len_tl, TL.tl_append, FoT.tl_zero, cut]
      show (48 :: TL.tl x).length ≤ 640
      rw [List.length_cons]
      omega
    refine ⟨_, rfl, _, rfl, x, rfl, hz, _, _, _, 0, rfl, ?_, ?_⟩
    · rw [em]
      exact ⟨by decide, by decide, (small64 _ hl').1, (small64 _ hl').2⟩
    refine for_rangeC (fun i σ' H' => σ' = [some (.str x), some (.int (((x.length : Nat) : Int) % 64)), some (.int ((NumText.digitsVal (TL.tl x) : Nat) : Int)), none] ∧ H' = H) ⟨rfl, rfl⟩ (fun i σ' H' hi => absurd hi (Nat.not_lt_zero _)) ?_
    rintro σ' H' ⟨rfl, rfl⟩
    exact ⟨_, rfl, q⟩
theorem ok_decimal0 (T : Tx K mg) : FnOk P w K mg base CX0 1 (He.ga K "_decimal") T.fd_decimal ["integer"] spDec0 := by
  refine T.F_decimal.ok sc_decimal (fun vs H Q E h => ?_) (fun cdv A outer s H vs Q E hr h => ?_)
  · obtain ⟨n, rfl, _⟩ := h
    rfl
  · obtain ⟨n, rfl, n0, n1, q⟩ := h
    refine ⟨_, (pss_cons (ps_if (pt_cmpR op_lt (pv 0) pe_int (nomark _)) (pss_one ps_never) pss_nil)
      (pss_cons (ps_set (i := 1) sc_decimal.nd rfl (.inl rfl) (pe_lst pa_nil))
      (pss_cons (ps_while PassesOwn.never (pt_cmpR op_ge (pv 0) (pe_glob (v := V.int (10 ^ 64)) (by rfl) T.k_PIECE.choose_spec ⟨_, rfl⟩) (nomark _)) (pss_cons (ps_asg (pe_callB call_divmod (by rfl) T.z_divmod (by decide +kernel) (pa_cons (pv 0) (pa_cons (pe_glob (v := V.int (10 ^ 64)) (by rfl) T.k_PIECE.choose_spec ⟨_, rfl⟩) pa_nil))) (pg_tup (by rfl) (pgs_cons (pg_name (i := 0) sc_decimal.nd rfl (.inl rfl)) (pgs_cons (pg_name (i := 2) sc_decimal.nd rfl (.inl rfl)) pgs_nil))))
      (pss_one (ps_expr (pe_bm PySem.F.plainAttrs_list PySem.F.slot_list_append PySem.F.type_list_append mt_append (pv 1) (pa_cons (pe_m1 PySem.F.slot_str_zfill PySem.F.type_str_zfill mt_zfill (pe_callTy call_str_int (by rfl) T.z_str (by decide +kernel) (pa_cons (pv 2) pa_nil)) (pe_glob (v := V.int 64) (by rfl) T.k_PIECE_DIGITS.choose_spec ⟨_, rfl⟩)) pa_nil))))))
      (pss_cons (ps_expr (pe_bm PySem.F.plainAttrs_list PySem.F.slot_list_append PySem.F.type_list_append mt_append (pv 1) (pa_cons (pe_callTy call_str_int (by rfl) T.z_str (by decide +kernel) (pa_cons (pv 0) pa_nil)) pa_nil)))
      (pss_one (ps_ret (pe_join pe_str (FoV.pe_revL (pv 1) (pe_un un_neg pe_int))))))))), ?_⟩
    refine ⟨_, rfl, _, _, rfl, rfl, _, rfl, ite2 (fun e => absurd (of_decide_eq_true e) (by omega)) (fun _ => ?_)⟩
    refine ⟨(by show 0 ≤ sizeLine; omega), fun p hp => ?_⟩
    refine ⟨fun k σ' H' => σ' = [some (.int n), some (.ref p), none] ∧ H' = upd H p (.lst []), ⟨0, rfl, rfl⟩, ?_⟩
    rintro k σ' H' ⟨rfl, rfl⟩
    refine ⟨_, rfl, _, _, rfl, rfl, _, rfl, ite2 (fun e => absurd (of_decide_eq_true e) ?_) (fun _ => ?_)⟩
    · have z : (10 : Int) ^ 60 < 10 ^ 64 := by decide
      omega
    refine ⟨_, rfl, .inl ⟨rfl, _, SqL.of upd_same⟩, _, rfl, _, rfl, FoT.log_ok (by omega) n1, p, [], _, rfl, rfl, upd_same, ?_, ?_⟩
    · show 0 + 1 ≤ sizeLine
      rw [sizeLine_eq]
      decide
    refine ⟨⟨_, rfl⟩, _, rfl, _, rfl, rfl, p, _, rfl, SqL.of upd_same, fun r hr' => ?_⟩
    refine ⟨_, r, [Str.ofString (toString n)], rfl, rfl, .inl (SqL.of upd_same), ?_, ?_⟩
    · have z := FoT.str_len (n := n) (by omega) n1
      simp only [List.map_cons, List.map_nil, List.sum_cons, List.sum_nil, List.length_cons, List.length_nil]
      have z0 : ("" : Str).length = 0 := rfl
      omega
    · have s1 : Same H (upd (upd H p (.lst [])) p (.lst [.str (Str.ofString (toString n))])) := fun b o e => by
        have nb := ne_of_none e hp
        rw [upd_ne nb, upd_ne nb]
        exact e
      refine q _ _ (s1.trans (Same.upd hr')) ?_
      rw [TL.join_eq]
      exact FoT.tl_str n
theorem FnOk.both {f : Addr} {fd : FuncData} {ps : List Str} {k : Nat} {CX : CXT} {s1 s2 : Sp} (h1 : FnOk P w K mg base CX k f fd ps s1) (h2 : FnOk P w K mg base CX k f fd ps s2) : FnOk P w K mg base CX k f fd ps (fun vs H Q E => s1 vs H Q E ∨ s2 vs H Q E) :=
  ⟨fun vs H Q E h => h.elim (h1.len vs H Q E) (h2.len vs H Q E), fun A outer s H args us vs Q E hr he hb hv h => h.elim (h1.run A outer s H args us vs Q E hr he hb hv) (h2.run A outer s H args us vs Q E hr he hb hv)⟩
def spDecN : Sp := fun vs H Q _ => ∃ n : Int, vs = [.int n] ∧ -(10 ^ 60) < n ∧ n < 0 ∧ ∀ x H', Same H H' → TL.tl x = FoT.numI n → Q (.str x) H'
theorem ok_decimalN (T : Tx K mg) : FnOk P w K mg base CX0 2 (He.ga K "_decimal") T.fd_decimal ["integer"] spDecN := by
  refine T.F_decimal.ok sc_decimal (fun vs H Q E h => ?_) (fun cdv A outer s H vs Q E hr h => ?_)
  · obtain ⟨n, rfl, _⟩ := h
    rfl
  · obtain ⟨n, rfl, n0, n1, q⟩ := h
    refine ⟨_, (pss_cons (ps_if (pt_cmpR op_lt (pv 0) pe_int (nomark _)) (pss_one (ps_ret (pe_op op_add_str pe_str (pe_call (ok_decimal0 T) (hr.mono (by decide)) (by rfl) T.g_decimal T.F_decimal.kp T.b_decimal .nil pass0 (pa_cons (pe_un un_neg (pv 0)) pa_nil))))) pss_nil)
      (pss_cons (ps_set (i := 1) sc_decimal.nd rfl (.inl rfl) (pe_lst pa_nil))
      (pss_cons (ps_while PassesOwn.never (pt_cmpR op_ge (pv 0) (pe_glob (v := V.int (10 ^ 64)) (by rfl) T.k_PIECE.choose_spec ⟨_, rfl⟩) (nomark _)) (pss_cons (ps_asg (pe_callB call_divmod (by rfl) T.z_divmod (by decide +kernel) (pa_cons (pv 0) (pa_cons (pe_glob (v := V.int (10 ^ 64)) (by rfl) T.k_PIECE.choose_spec ⟨_, rfl⟩) pa_nil))) (pg_tup (by rfl) (pgs_cons (pg_name (i := 0) sc_decimal.nd rfl (.inl rfl)) (pgs_cons (pg_name (i := 2) sc_decimal.nd rfl (.inl rfl)) pgs_nil))))
      (pss_one (ps_expr (pe_bm PySem.F.plainAttrs_list PySem.F.slot_list_append PySem.F.type_list_append mt_append (pv 1) (pa_cons (pe_m1 PySem.F.slot_str_zfill PySem.F.type_str_zfill mt_zfill (pe_callTy call_str_int (by rfl) T.z_str (by decide +kernel) (pa_cons (pv 2) pa_nil)) (pe_glob (v := V.int 64) (by rfl) T.k_PIECE_DIGITS.choose_spec ⟨_, rfl⟩)) pa_nil))))))
      (pss_cons (ps_expr (pe_bm PySem.F.plainAttrs_list PySem.F.slot_list_append PySem.F.type_list_append mt_append (pv 1) (pa_cons (pe_callTy call_str_int (by rfl) T.z_str (by decide +kernel) (pa_cons (pv 0) pa_nil)) pa_nil)))
      (pss_one (ps_ret (pe_join pe_str (FoV.pe_revL (pv 1) (pe_un un_neg pe_int))))))))), ?_⟩
    refine ⟨_, rfl, _, _, rfl, rfl, _, rfl, ite2 (fun _ => ?_) (fun e => absurd (decide_eq_true n1) e)⟩
    refine ⟨_, rfl, _, rfl, -n, rfl, by omega, by omega, fun x H1 s1 e1 => ?_⟩
    refine ⟨_, _, rfl, rfl, ?_, ?_⟩
    · have z := FoT.num_len (n := -n) (by omega) (by omega)
      rw [← e1, ← TL.len_tl] at z
      rw [sizeLine_eq]
      show 1 + _ ≤ _
      omega
    · refine q _ _ s1 ?_
      rw [TL.tl_append, FoT.tl_minus, e1, FoT.numI_nat (by omega)]
      unfold FoT.numI
      rw [if_pos n1, Int.natAbs_neg]
      rfl
theorem ok_decimal (T : Tx K mg) : FnOk P w K mg base CX0 2 (He.ga K "_decimal") T.fd_decimal ["integer"] spDec := by
  refine FnOk.imp (FnOk.both ((ok_decimal0 T).mono (by decide)) (ok_decimalN T)) fun vs H Q E h => ?_
  obtain ⟨n, rfl, n0, n1, q⟩ := h
  by_cases z : 0 ≤ n
  · exact .inl ⟨n, rfl, z, n1, q⟩
  · exact .inr ⟨n, rfl, n0, by omega, q⟩
theorem ok_Ratio_text (T : Tx K mg) : FnOk P w K mg base CX0 3 (He.ma K (He.ga K "Ratio") "text") T.fd_Ratio_text ["self"] (spText K) := by
  refine T.F_Ratio_text.ok sc_Ratio_text (fun vs H Q E h => ?_) (fun cdv A outer s H vs Q E hr h => ?_)
  · obtain ⟨a, u, d, rfl, _⟩ := h
    rfl
  · obtain ⟨a, u, d, rfl, ha, u0, u1, d0, d1, q⟩ := h
    obtain ⟨dx, ha'⟩ := id ha
    refine ⟨_, (pss_cons (ps_if (pt_cmpR op_eq (pe_fld (pv 0) rfl) pe_int (nomark _)) (pss_one (ps_ret (pe_call (ok_decimal T) (hr.mono (by decide)) (by rfl) T.g_decimal T.F_decimal.kp T.b_decimal .nil pass0 (pa_cons (pe_fld (pv 0) rfl) pa_nil)))) pss_nil)
      (pss_one (ps_ret (pe_op op_add_str (pe_op op_add_str (pe_call (ok_decimal T) (hr.mono (by decide)) (by rfl) T.g_decimal T.F_decimal.kp T.b_decimal .nil pass0 (pa_cons (pe_fld (pv 0) rfl) pa_nil)) pe_str) (pe_call (ok_decimal T) (hr.mono (by decide)) (by rfl) T.g_decimal T.F_decimal.kp T.b_decimal .nil pass0 (pa_cons (pe_fld (pv 0) rfl) pa_nil)))))), ?_⟩
    refine ⟨_, rfl, a, _, dx, _, _, rfl, ha', T.cl_R, T.nB_R, rf_bot _ _, rfl, _, rfl, ite2 (fun e => ?_) (fun e => ?_)⟩
    · have e1 : d = 1 := V.int.inj (of_decide_eq_true e)
      refine ⟨_, rfl, a, _, dx, _, _, rfl, ha', T.cl_R, T.nT_R, rf_top _ _, u, rfl, u0, u1, fun x H1 s1 et => ?_⟩
      refine q x H1 s1 ?_
      unfold FoT.txt
      rw [if_pos e1]
      exact et
    · have e1 : ¬ d = 1 := fun z => e (decide_eq_true (by rw [z]))
      refine ⟨_, rfl, a, _, dx, _, _, rfl, ha', T.cl_R, T.nT_R, rf_top _ _, u, rfl, u0, u1, fun x H1 s1 et => ?_⟩
      have lx := FoT.num_len (n := u) u0 u1
      rw [← et, ← TL.len_tl] at lx
      refine ⟨_, _, rfl, rfl, ?_, ?_⟩
      · rw [sizeLine_eq]
        show _ + 1 ≤ _
        omega
      refine ⟨_, rfl, a, _, dx, _, _, rfl, s1 _ _ ha', T.cl_R, T.nB_R, rf_bot _ _, d, rfl, by omega, d1, fun y H2 s2 ed => ?_⟩
      have ly := FoT.num_len (n := d) (by omega) d1
      rw [← ed, ← TL.len_tl] at ly
      refine ⟨_, _, rfl, rfl, ?_, ?_⟩
      · rw [sizeLine_eq, TL.len_tl (x ++ _), TL.tl_append, List.length_append, ← TL.len_tl, ← TL.len_tl]
        show _ + 1 + _ ≤ _
        omega
      · refine q _ H2 (s1.trans s2) ?_
        unfold FoT.txt
        rw [if_neg e1, TL.tl_append, TL.tl_append, FoT.tl_slash, et, ed, List.append_assoc]
        rfl
end

end Fo

set_option maxHeartbeats 4100000
namespace Fo
open PySem PySem.Spec PyProof.Rows L2
/-! ### reading a text -/
def spRead (K : PySem.W.Frag) : Sp := fun vs H Q E => ∃ t : Str, vs = [.ref (RC K), .str t] ∧ (TL.tl t).length < 58 ∧
  ((∃ u d, FoT.IsTxt (TL.tl t) u d ∧ ∀ p H', Same H H' → RatAt K H' p u d → Q (.ref p) H') ∨ ((∀ u d, ¬ FoT.IsTxt (TL.tl t) u d) ∧ ∀ H', Same H H' → E (.ref (He.ga K "BadText")) none H'))
theorem gen_t2 {st u : TS} {D : Ends} {σ : L2.St} {H : Hp} (C : L2.St → Hp → Prop) (h1 : ∀ D' : Ends, (∀ σ' H', C σ' H' → D'.nx σ' H') → st D' σ H) (h2 : ∀ σ' H', C σ' H' → u D σ' H') : tSeq st u D σ H := h1 { D with nx := u D } h2
theorem rd_mk {K : PySem.W.Frag} {H : Hp} {t b : Int} {R : Addr → VK} {E : XK} (hb : b ≠ 0) (hz : FoM.Sz 4000 b) (q : ∀ p H', H p = none → Same H H' → RatAt K H' p (FoM.frN t b) (FoM.frD t b) → R p .non H') :
    ∀ x dx, H x = none → H dx = none → dx ≠ x → spInit K [.ref x, .int t, .int b] (upd (upd H dx (.own x)) x (.ins (RC K) dx [])) (R x) E := fun x dx nx ndx ne =>
  ⟨x, dx, t, b, rfl, upd_same, hb, hz, fun H' hR hB => q x H' nx (Same.made nx ndx hB) hR⟩
section
variable {P : Program} {w : World} {K : PySem.W.Frag} {mg : Str → Option Value} {base : Heap}
theorem ok_Ratio_read (T : Tx K mg) : FnOk P w K mg base (L2.CX P w) 5 (He5.wf K (He.ga K "Ratio") "classmethod" "read") T.fd_Ratio_read ["cls", "text"] (spRead K) := by
  refine T.F_Ratio_read.okX sc_Ratio_read (fun vs H Q E h => ?_) (fun cdv A outer s H vs Q E hr h => ?_)
  · obtain ⟨t, rfl, _⟩ := h
    rfl
  · obtain ⟨t, rfl, hl, h⟩ := h
    have bad : (∀ u d, ¬ FoT.IsTxt (TL.tl t) u d) → ∀ H', Same H H' → E (.ref (He.ga K "BadText")) none H' := fun no => by
      rcases h with ⟨u, d, i, _⟩ | ⟨_, q⟩
      · exact absurd i (no u d)
      · exact q
    have good : ∀ u d, FoT.IsTxt (TL.tl t) u d → ∀ p H', Same H H' → RatAt K H' p u d → Q (.ref p) H' := fun u d i => by
      rcases h with ⟨u', d', i', q⟩ | ⟨no, _⟩
      · obtain ⟨rfl, rfl⟩ := i.uniq i'
        exact q
      · exact absurd i (no u d)
    refine ⟨_, (pss_cons (ps_asg (pe_partition (pv 1) pe_str) (pg_tup (by rfl) (pgs_cons (pg_name (i := 2) sc_Ratio_read.nd rfl (.inl rfl)) (pgs_cons (pg_name (i := 3) sc_Ratio_read.nd rfl (.inl rfl)) (pgs_cons (pg_name (i := 4) sc_Ratio_read.nd rfl (.inl rfl)) pgs_nil)))))
      (pss_cons (ps_set (i := 5) sc_Ratio_read.nd rfl (.inl rfl) (pe_m1 PySem.F.slot_str_removeprefix PySem.F.type_str_removeprefix mt_removeprefix (pv 2) pe_str))
      (pss_cons (ps_if (pt_not (pt_val (pe_call (ok_has_only_digits T) (hr.mono (by decide)) (by rfl) T.g_has_only_digits T.F_has_only_digits.kp T.b_has_only_digits .nil pass0 (pa_cons (pv 5) pa_nil)))) (pss_one (ps_raise rfl (takes_of rfl rfl rfl rfl) (FoB.pmk_own0 T.e_BadText T.c_BadText rfl))) pss_nil)
      (pss_cons (ps_if (pt_cmpR op_eq (pv 3) pe_str (nomark _)) (pss_one (ps_set (i := 4) sc_Ratio_read.nd rfl (.inl rfl) pe_str)) pss_nil)
      (pss_cons (ps_if (PW.pt (pw_or (pt_not (pt_val (pe_call (ok_has_only_digits T) (hr.mono (by decide)) (by rfl) T.g_has_only_digits T.F_has_only_digits.kp T.b_has_only_digits .nil pass0 (pa_cons (pv 4) pa_nil)))) (pw_or1 (pt_cmpR op_eq (pe_call (ok_integer_of T) (hr.mono (by decide)) (by rfl) T.g_integer_of T.F_integer_of.kp T.b_integer_of .nil pass0 (pa_cons (pv 4) pa_nil)) pe_int (nomark _))))) (pss_one (ps_raise rfl (takes_of rfl rfl rfl rfl) (FoB.pmk_own0 T.e_BadText T.c_BadText rfl))) pss_nil)
      (pss_cons (ps_set (i := 6) sc_Ratio_read.nd rfl (.inl rfl) (pe_call (ok_integer_of T) (hr.mono (by decide)) (by rfl) T.g_integer_of T.F_integer_of.kp T.b_integer_of .nil pass0 (pa_cons (pv 5) pa_nil)))
      (pss_cons (ps_set (i := 7) sc_Ratio_read.nd rfl (.inl rfl) (FoD.pe_makeL (i := 0) T.mk_R (ok_Ratio_init T) (hr.mono (by decide)) rfl (.inl rfl) (bind_init2 T) .nil pass0 (pa_cons (pe_ifExp (pt_cmpR op_eq (pv 5) (pv 2) (nomark _)) (pv 6) (pe_un un_neg (pv 6))) (pa_cons (pe_call (ok_integer_of T) (hr.mono (by decide)) (by rfl) T.g_integer_of T.F_integer_of.kp T.b_integer_of .nil pass0 (pa_cons (pv 4) pa_nil)) pa_nil))))
      (pss_cons (ps_if (pt_cmpR op_ne (pe_meth0 (pv 7) T.cl_R T.me_text (ok_Ratio_text T) (hr.mono (by decide)) T.b_Ratio_text .nil pass0) (pv 1) (nomark _)) (pss_one (ps_raise rfl (takes_of rfl rfl rfl rfl) (FoB.pmk_own0 T.e_BadText T.c_BadText rfl))) pss_nil)
      (pss_one (ps_ret (pv 7))))))))))), ?_⟩
    obtain ⟨a, sl, b, e, hc⟩ := FoT.Parts.exists t
    have hz : t.length ≤ sizeLine := by rw [sizeLine_eq, TL.len_tl]; omega
    refine ⟨_, rfl, ⟨_, rfl⟩, _, _, rfl, rfl, rfl, hz, fun p hp => ?_⟩
    rw [e]
    refine ⟨p, _, rfl, SqT.of upd_same, rfl, _, _, rfl, _, _, rfl, _, _, rfl, rfl, ?_⟩
    have s1 := Same.upd hp (o := .tup [.str a, .str sl, .str b])
    have la : a.length ≤ sizeLine := by
      rcases hc with ⟨_, _, rfl⟩ | ⟨_, z⟩
      · exact hz
      · rcases z with ⟨_, q, _⟩ | ⟨q, _⟩
        · rw [TL.len_tl, q, ← TL.len_tl]
          exact hz
        · have l := congrArg List.length q
          rw [List.length_append, List.length_cons] at l
          rw [sizeLine_eq, TL.len_tl]
          omega
    refine ⟨_, rfl, ⟨_, rfl⟩, _, _, rfl, rfl, la, ?_⟩
    obtain ⟨b', hb', hP⟩ : ∃ b' : Str, ((sl = Str.empty ∧ b' = "1") ∨ (¬ sl = Str.empty ∧ b' = b)) ∧ FoT.Parts (TL.tl t) (TL.tl a) (TL.tl b') := by
      rcases hc with ⟨e1, n, rfl⟩ | ⟨e1, z⟩
      · exact ⟨"1", .inl ⟨e1, rfl⟩, .inl ⟨n, rfl, by decide +kernel⟩⟩
      · exact ⟨b, .inr ⟨e1, rfl⟩, z⟩
    have ed : TL.tl (Txt.removeprefix a "-") = FoT.body (TL.tl a) := FoT.rm_minus a
    have lb := hP.b_len
    have ld := hP.body_len
    by_cases hD : FoT.Dig (FoT.body (TL.tl a))
    case neg =>
      refine ⟨_, rfl, _, rfl, .inr ⟨by rw [ed]; exact hD, _, rfl, iteT ?_⟩⟩
      exact bad (fun u d i => hD (hP.of i).1) _ s1
    refine ⟨_, rfl, _, rfl, .inl ⟨by rw [ed]; exact hD, _, rfl, iteF ?_⟩⟩
    dsimp only [tNext]
    refine gen_t2 (C := fun σ' H' => σ' = [some (.ref (RC K)), some (.str t), some (.str a), some (.str sl), some (.str b'), some (.str (Txt.removeprefix a "-")), none, none] ∧ H' = upd H p (.tup [.str a, .str sl, .str b])) (fun D' rest => ?_) ?_
    · refine ⟨_, rfl, rfl, _, rfl, ite2 (fun c => ?_) (fun c => ?_)⟩
      · have z : sl = Str.empty := V.str.inj (of_decide_eq_true c)
        rcases hb' with ⟨_, rfl⟩ | ⟨q, _⟩
        · exact rest _ _ ⟨rfl, rfl⟩
        · exact absurd z q
      · rcases hb' with ⟨q, _⟩ | ⟨_, rfl⟩
        · exact absurd (decide_eq_true (by rw [q]; rfl)) c
        · exact rest _ _ ⟨rfl, rfl⟩
    rintro σ' H' ⟨rfl, rfl⟩
    by_cases hB : FoT.Dig (TL.tl b')
    case neg =>
      refine ⟨_, rfl, b', rfl, .inr ⟨hB, _, rfl, iteT ?_⟩⟩
      exact bad (fun u d i => hB (hP.of i).2.1) _ s1
    refine ⟨_, rfl, b', rfl, .inl ⟨hB, _, rfl, iteF ?_⟩⟩
    refine ⟨_, rfl, b', rfl, hB, by omega, rfl, _, rfl, ite2 (fun c => ?_) (fun c => ?_)⟩
    · refine bad (fun u d i => ?_) _ s1
      have z := V.int.inj (of_decide_eq_true c)
      have z2 := (hP.of i).2.2.1
      have z3 := i.1
      omega
    have hm : ((NumText.digitsVal (TL.tl b') : Nat) : Int) ≠ 0 := fun z => c (decide_eq_true (by rw [z]))
    have vb := FoT.val_small hB.1 (show (TL.tl b').length ≤ 60 by omega)
    have vd := FoT.val_small hD.1 (show (FoT.body (TL.tl a)).length ≤ 60 by omega)
    have zm : FoM.Sz 4000 ((NumText.digitsVal (TL.tl b') : Nat) : Int) := (sz_of (n := 200) (10 ^ 60) (by omega) (by omega) (by decide)).mono (by decide)
    have wabs : (FoT.worth (TL.tl a)).natAbs < 10 ^ 60 := by
      unfold FoT.worth
      split <;> omega
    have bu : -(10 ^ 60) < FoM.frN (FoT.worth (TL.tl a)) ((NumText.digitsVal (TL.tl b') : Nat) : Int) ∧ FoM.frN (FoT.worth (TL.tl a)) ((NumText.digitsVal (TL.tl b') : Nat) : Int) < 10 ^ 60 := by
      have z := FoM.frN_le (u := FoT.worth (TL.tl a)) hm
      constructor <;> omega
    have bd : FoM.frD (FoT.worth (TL.tl a)) ((NumText.digitsVal (TL.tl b') : Nat) : Int) < 10 ^ 60 := by
      have z := FoM.frD_le (u := FoT.worth (TL.tl a)) hm
      have z2 := FoM.frD_pos (u := FoT.worth (TL.tl a)) hm
      omega
    refine ⟨_, rfl, _, rfl, by rw [ed]; exact hD, by rw [ed]; omega, ?_⟩
    rw [ed]
    by_cases hs : FoT.body (TL.tl a) = TL.tl a
    · have e5 : Txt.removeprefix a "-" = a := TL.ext_tl (by rw [ed, hs])
      refine ⟨rfl, _, rfl, _, rfl, rfl, _, rfl, ite2 (fun _ => ?_) (fun z => absurd (decide_eq_true (by rw [e5])) z)⟩
      rw [← FoT.worth_plain hs]
      refine ⟨_, rfl, ?_⟩
      refine ⟨_, rfl, b', rfl, hB, by omega, ?_⟩
      refine rd_mk (K := K) (t := FoT.worth (TL.tl a)) (b := ((NumText.digitsVal (TL.tl b') : Nat) : Int)) hm zm fun r H2 nr s2 hR => ⟨rfl, ?_⟩
      obtain ⟨dx, hR'⟩ := id hR
      refine ⟨_, rfl, r, dx, _, rfl, hR', rf_no _ _ (by decide +kernel) (by decide +kernel), r, _, _, rfl, hR, bu.1, bu.2, FoM.frD_pos hm, bd, fun x H3 s3 ex => ?_⟩
      refine ⟨_, rfl, rfl, _, rfl, ite2 (fun c => ?_) (fun c => ?_)⟩
      · refine bad (fun u d i => ?_) _ (s1.trans (s2.trans s3))
        obtain ⟨_, _, i3, i4⟩ := hP.of i
        obtain ⟨f1, f2⟩ := FoM.fr_low i.1 i.2.1
        rw [i3, i4, f1, f2, ← i.2.2] at ex
        have e4 : x = t := TL.ext_tl ex
        rw [e4] at c
        simp at c
      · have e4 : x = t := by
          refine Classical.byContradiction fun z => c ?_
          show (!decide (V.str x = V.str t)) = true
          rw [decide_eq_false (fun q => z (V.str.inj q))]
          rfl
        rw [e4] at ex
        exact ⟨_, rfl, good _ _ ⟨FoM.frD_pos hm, FoM.fr_cop hm, ex⟩ r H3 (s1.trans (s2.trans s3)) (hR.same s3)⟩
    · have e5 : ¬ Txt.removeprefix a "-" = a := fun z => hs (by rw [← ed, z])
      refine ⟨rfl, _, rfl, _, rfl, rfl, _, rfl, ite2 (fun z => absurd (V.str.inj (of_decide_eq_true z)) e5) (fun _ => ?_)⟩
      refine ⟨_, rfl, _, rfl, ?_⟩
      dsimp only
      rw [← FoT.worth_minus hs]
      refine ⟨_, rfl, b', rfl, hB, by omega, ?_⟩
      refine rd_mk (K := K) (t := FoT.worth (TL.tl a)) (b := ((NumText.digitsVal (TL.tl b') : Nat) : Int)) hm zm fun r H2 nr s2 hR => ⟨rfl, ?_⟩
      obtain ⟨dx, hR'⟩ := id hR
      refine ⟨_, rfl, r, dx, _, rfl, hR', rf_no _ _ (by decide +kernel) (by decide +kernel), r, _, _, rfl, hR, bu.1, bu.2, FoM.frD_pos hm, bd, fun x H3 s3 ex => ?_⟩
      refine ⟨_, rfl, rfl, _, rfl, ite2 (fun c => ?_) (fun c => ?_)⟩
      · refine bad (fun u d i => ?_) _ (s1.trans (s2.trans s3))
        obtain ⟨_, _, i3, i4⟩ := hP.of i
        obtain ⟨f1, f2⟩ := FoM.fr_low i.1 i.2.1
        rw [i3, i4, f1, f2, ← i.2.2] at ex
        have e4 : x = t := TL.ext_tl ex
        rw [e4] at c
        simp at c
      · have e4 : x = t := by
          refine Classical.byContradiction fun z => c ?_
          show (!decide (V.str x = V.str t)) = true
          rw [decide_eq_false (fun q => z (V.str.inj q))]
          rfl
        rw [e4] at ex
        exact ⟨_, rfl, good _ _ ⟨FoM.frD_pos hm, FoM.fr_cop hm, ex⟩ r H3 (s1.trans (s2.trans s3)) (hR.same s3)⟩
end

end Fo

set_option maxHeartbeats 4100000
namespace Fo
open PySem PySem.Spec PyProof.Rows L2
/-! ### the law's reading of words -/
/-- a fraction's tuple, tracked -/
def FrT (H : Hp) (p : Addr) (u d : Int) : Prop := H p = some (.tup [.int u, .int d])
theorem FrT.at_ {K : PySem.W.Frag} {H : Hp} {p : Addr} {u d : Int} (h : FrT H p u d) : FrAt K H p u d := SqT.of h
theorem FrT.same {H H' : Hp} {p : Addr} {u d : Int} (h : FrT H p u d) (e : Same H H') : FrT H' p u d := e _ _ h
theorem dp2 {K : PySem.W.Frag} {H : Hp} {p : Addr} {u d : Int} (h : FrT H p u d) : Dp K H (.ref p) (.tuple [.int u, .int d]) := .tup (SqT.of h) (.cons (.int u) (.cons (.int d) .nil))
theorem eqv2 (u d v e : Int) : PyData.eqv (.tuple [.int u, .int d]) (.tuple [.int v, .int e]) = (decide (u = v) && decide (d = e)) := by
  show ((u == v) && ((d == e) && true)) = _
  rw [Bool.and_true]
  by_cases h1 : u = v <;> by_cases h2 : d = e <;> simp [h1, h2]
def Asc (x : Str) : Prop := ∀ c ∈ TL.tl x, c < 128
def nd (c : Nat) : Bool := !decide (c ∈ TL.tl ("0123456789" : Str))
theorem nd_iff (c : Nat) : nd c = false ↔ 48 ≤ c ∧ c ≤ 57 := by
  have e : TL.tl ("0123456789" : Str) = [48, 49, 50, 51, 52, 53, 54, 55, 56, 57] := by decide +kernel
  unfold nd
  rw [e]
  simp only [Bool.not_eq_false', decide_eq_true_eq, List.mem_cons, List.not_mem_nil, or_false]
  omega
theorem nd_nil (l : List Nat) : l.filter nd = [] ↔ NumText.AllDigits l := by
  rw [List.filter_eq_nil_iff]
  constructor
  · intro h c hc
    exact (nd_iff c).mp (Bool.eq_false_iff.mpr (h c hc))
  · intro h c hc z
    rw [(nd_iff c).mpr (h c hc)] at z
    cases z
theorem gen_s {te : TE} {g : TG} {u : TS} {D : Ends} {σ : L2.St} {H : Hp} (C : V → Hp → Prop) (h1 : ∀ Q' : VK, (∀ x H', C x H' → Q' x H') → te σ H Q') (h2 : ∀ x H', C x H' → g x σ H' (u D)) : tSeq (tAsg te g) u D σ H := h1 _ h2
theorem cut_first (x : Str) : TL.tl (cutS x none (some 1)) = (TL.tl x).take 1 := by
  unfold cutS HT.sIx
  show List.take _ (List.drop _ (TL.tl x)) = _
  simp only [Nat.sub_zero, List.drop_zero]
  rw [if_neg (by omega), TL.len_tl]
  cases TL.tl x with
  | nil => rfl
  | cons c r =>
    show List.take (min _ _) _ = _
    rw [List.length_cons, show min ((1 : Int).toNat) (r.length + 1) = 1 by simp]
theorem cut_rest (x : Str) : TL.tl (cutS x (some 1) none) = (TL.tl x).drop 1 := by
  unfold cutS HT.sIx
  show List.take _ (List.drop _ (TL.tl x)) = _
  dsimp only
  rw [if_neg (by omega), TL.len_tl]
  cases TL.tl x with
  | nil => rfl
  | cons c r =>
    rw [List.length_cons, show min ((1 : Int).toNat) (r.length + 1) = 1 by simp]
    refine List.take_of_length_le ?_; simp
def spWhole : Sp := fun vs H Q _ => ∃ x : Str, vs = [.str x] ∧ (TL.tl x).length < 58 ∧ Asc x ∧
  ((∃ n, TL.tl x = FoT.numI n ∧ ∀ H', Same H H' → Q (.int n) H') ∨ ((∀ n, TL.tl x ≠ FoT.numI n) ∧ ∀ H', Same H H' → Q .non H'))
def spRd (K : PySem.W.Frag) : Sp := fun vs H Q _ => ∃ t : Str, vs = [.str t] ∧ (TL.tl t).length < 58 ∧
  ((∃ u d, FoT.IsTxt (TL.tl t) u d ∧ ∀ p H', H p = none → Same H H' → FrT H' p u d → Q (.ref p) H') ∨ ((∀ u d, ¬ FoT.IsTxt (TL.tl t) u d) ∧ ∀ H', Same H H' → Q .non H'))
section
variable {P : Program} {w : World} {K : PySem.W.Frag} {mg : Str → Option Value} {base : Heap}
theorem ok_read (T : Tx K mg) : FnOk P w K mg base CX0 6 (He.ga K "_law_read") T.fd_read ["_law_phrase"] (spRd K) := by
  refine T.F_read.ok sc_read (fun vs H Q E h => ?_) (fun cdv A outer s H vs Q E hr h => ?_)
  · obtain ⟨t, rfl, _⟩ := h
    rfl
  · obtain ⟨t, rfl, hl, h⟩ := h
    refine ⟨_, (pss_cons (ps_try_only (Wout := fun _ _ _ _ => False) rfl rfl ⟨rfl, by decide, Or.inl T.c_BadText⟩ takes0 (fun W pn xe tk _ => pss_one (ps_set (i := 1) sc_read.nd rfl (.inl rfl) (FoD.pe_cmethS (pe_glob (v := V.ref (RC K)) (by rfl) T.c_Ratio rfl) T.cr_R T.cm_read (ok_Ratio_read T) (hr.mono (by decide)) T.b_Ratio_read (fun σ => passAt tk σ) (pa_cons (pv 0) pa_nil)))) (fun a oe cls d pn hz hf => pss_one (ps_ret pe_non)))
      (pss_one (ps_ret (pe_tup (pa_cons (pe_prop (pv 1) T.cl_R T.p_top (ok_Ratio_top T) (hr.mono (by decide)) T.b_Ratio_top .nil pass0 (by rfl)) (pa_cons (pe_prop (pv 1) T.cl_R T.p_bottom (ok_Ratio_bottom T) (hr.mono (by decide)) T.b_Ratio_bottom .nil pass0 (by rfl)) pa_nil)))))), ?_⟩
    rcases h with ⟨u, d, i, q⟩ | ⟨no, q⟩
    · refine ⟨rfl, _, rfl, t, rfl, hl, .inl ⟨u, d, i, fun p H1 s1 hR => ?_⟩⟩
      obtain ⟨dx, hR'⟩ := id hR
      refine ⟨_, rfl, p, dx, _, rfl, hR', p, u, d, rfl, hR, _, rfl, p, dx, _, rfl, hR', p, u, d, rfl, hR, ?_⟩
      refine ⟨(by show 2 ≤ sizeLine; rw [sizeLine_eq]; decide), fun r hr' => ?_⟩
      exact q r _ (s1.free hr') (s1.trans (Same.upd hr')) upd_same
    · refine ⟨rfl, _, rfl, t, rfl, hl, .inr ⟨no, fun H1 s1 => ?_⟩⟩
      exact ⟨true, T.e_BadText.me, fun _ a na => q H1 s1, fun z => nomatch z⟩
theorem ok_whole (T : Tx K mg) : FnOk P w K mg base CX0 1 (He.ga K "_law_whole") T.fd_whole ["_law_word"] spWhole := by
  refine T.F_whole.ok sc_whole (fun vs H Q E h => ?_) (fun cdv A outer s H vs Q E hr h => ?_)
  · obtain ⟨x, rfl, _⟩ := h
    rfl
  · obtain ⟨x, rfl, hl, ha, h⟩ := h
    refine ⟨_, (pss_cons (ps_set (i := 1) sc_whole.nd rfl (.inl rfl) (pe_ifExp (pt_cmpR op_eq (pe_slice sl_str (pv 0) po_none (po_some pe_int)) pe_str (nomark _)) (pe_slice sl_str (pv 0) (po_some pe_int) po_none) (pv 0)))
      (pss_cons (ps_if (PW.pt (pw_or (pt_cmpR op_eq (pv 1) pe_str (nomark _)) (pw_or1 (pt_cmpR (op_neD hr.units) (pe_lc (own := [("_law_char", 2)]) (g := gName 2) rfl sc_whole.nd (pi_str (pv 1)) (blkOk_by (own := [("_law_char", 2)]) (N := ["_law_word", "_law_digits", "_law_char"]) (sc := defScope s_whole) (by decide +kernel)) (fun _ _ _ _ _ => (pg_name (i := 2) sc_whole.nd rfl (.inl rfl))) (fun _ _ _ _ _ => (pts_one (pt_cmpR op_notInS (pv 2) pe_str (by rfl)))) (fun _ _ _ _ _ => (pv 2))) (pe_lst pa_nil) (nomark _))))) (pss_one (ps_ret pe_non)) pss_nil)
      (pss_one (ps_ret (pe_ifExp (pt_cmpR op_eq (pe_callTy call_str_int (by rfl) T.z_str (by decide +kernel) (pa_cons (pe_callTy call_int_str (by rfl) T.z_int (by decide +kernel) (pa_cons (pv 0) pa_nil)) pa_nil)) (pv 0) (nomark _)) (pe_callTy call_int_str (by rfl) T.z_int (by decide +kernel) (pa_cons (pv 0) pa_nil)) pe_non))))), ?_⟩
    have hz : x.length ≤ sizeLine := by rw [sizeLine_eq, TL.len_tl]; omega
    refine gen_s (C := fun v H' => ∃ dg : Str, v = .str dg ∧ TL.tl dg = FoT.body (TL.tl x) ∧ H' = H) (fun Q' rest => ?_) ?_
    · refine ⟨_, rfl, _, rfl, x, rfl, hz, rfl, _, rfl, ite2 (fun c => ?_) (fun c => ?_)⟩
      · have z : cutS x none (some 1) = ("-" : Str) := V.str.inj (of_decide_eq_true c)
        have z2 := congrArg TL.tl z
        rw [cut_first, FoT.tl_minus, FoT.take1] at z2
        refine ⟨_, rfl, _, rfl, x, rfl, hz, rest _ _ ⟨_, rfl, ?_, rfl⟩⟩
        rw [cut_rest, FoT.drop1 z2]
      · refine ⟨_, rfl, rest _ _ ⟨x, rfl, ?_, rfl⟩⟩
        refine (FoT.body_same.mpr fun z => c (decide_eq_true ?_)).symm
        have z2 : cutS x none (some 1) = ("-" : Str) := TL.ext_tl (by rw [cut_first, FoT.tl_minus, FoT.take1]; exact z)
        rw [z2]
    rintro _ H2 ⟨dg, rfl, ed, e0⟩
    rw [e0]
    clear e0 H2
    have non : ¬ FoT.Dig (TL.tl dg) → ∀ H1, Same H H1 → Q .non H1 := fun no => by
      rcases h with ⟨n, e, _⟩ | ⟨_, q⟩
      · rw [ed, e] at no
        exact absurd FoT.dig_of_numI no
      · exact q
    have asc : ∀ c ∈ TL.tl dg, c < 128 := fun c hc => ha c (by
      rw [ed] at hc
      unfold FoT.body at hc
      split at hc
      · exact List.mem_of_mem_tail hc
      · exact hc)
    refine ⟨_, rfl, rfl, _, rfl, ite2 (fun c => ?_) (fun c => ?_)⟩
    · have z : dg = ("" : Str) := V.str.inj (of_decide_eq_true c)
      refine iteT (non (fun d => d.2 ?_) _ (Same.refl _))
      rw [z]
      rfl
    · have ne : TL.tl dg ≠ [] := fun z => c (decide_eq_true (by rw [show dg = ("" : Str) from TL.ext_tl (by rw [z]; rfl)]))
      refine ⟨_, rfl, dg, rfl, fun D nD => ?_⟩
      refine FoV.lc_str (fun i H1 => H1 D = some (.lst ((((TL.tl dg).take i).filter nd).map fun c => V.str ⟨#[c]⟩)) ∧ Same H H1) ⟨upd_same, Same.upd nD⟩ (fun i c H1 ec p => ?_) (fun H1 p => ?_)
      · obtain ⟨hL, sL⟩ := p
        have tk : (TL.tl dg).take (i + 1) = (TL.tl dg).take i ++ [c] := by
          rw [List.take_add_one, show (TL.tl dg)[i]? = some c by rw [Array.getElem?_toList]; exact ec]
          rfl
        refine ⟨rfl, _, rfl, c, "0123456789", rfl, rfl, _, rfl, ?_⟩
        show if nd c = true then _ else _
        cases hn : nd c with
        | false =>
          refine iteF ⟨?_, sL⟩
          rw [tk, List.filter_append, List.filter_cons_of_neg (by rw [hn]; exact Bool.false_ne_true)]
          simpa using hL
        | true =>
          refine iteT ⟨_, rfl, _, hL, ?_, ?_, fun b o e => ?_⟩
          · have l1 := List.length_filter_le nd ((TL.tl dg).take i)
            have l2 := List.length_take_le i (TL.tl dg)
            have l3 : (TL.tl dg).length ≤ (TL.tl x).length := by
              rw [ed]
              unfold FoT.body
              split
              · rw [List.length_tail]
                omega
              · exact Nat.le_refl _
            rw [sizeLine_eq, List.length_map]
            have l4 : ((TL.tl dg).take i).length ≤ (TL.tl dg).length := by
              rw [List.length_take]
              omega
            omega
          · rw [tk, List.filter_append, List.filter_cons_of_pos hn, upd_same, List.map_append]
            rfl
          · rw [upd_ne (ne_of_none e nD)]
            exact sL _ _ e
      · obtain ⟨hL, sL⟩ := p
        rw [show dg.cps.size = (TL.tl dg).length by simp [TL.tl], List.take_length] at hL
        refine ⟨(by show 0 ≤ sizeLine; omega), fun e1 ne1 => ?_⟩
        refine ⟨_, _, .lst (SqL.of (Same.upd ne1 _ _ hL)) (FoV.chs_dp _), .lst (SqL.of upd_same) .nil, FoV.chs_shaped _ (fun c hc => asc c (List.mem_filter.mp hc).1), rfl, _, rfl, ?_⟩
        rw [FoV.chs_nil]
        have sE := sL.trans (Same.upd ne1 (o := .lst []))
        by_cases hA : NumText.AllDigits (TL.tl dg)
        · rw [decide_eq_true ((nd_nil _).mpr hA)]
          refine iteF ?_
          have it := FoT.int_text (x := x) (by rw [← ed]; exact ⟨hA, ne⟩) (by omega)
          have lx : x.length ≤ 640 := by rw [TL.len_tl]; omega
          have lo : (FoT.worth (TL.tl x)).natAbs.log2 < 1920 := by
            have vd := FoT.val_small hA (show (TL.tl dg).length ≤ 60 by
              rw [ed]
              unfold FoT.body
              split
              · rw [List.length_tail]
                omega
              · omega)
            rw [ed] at vd
            refine FoT.log_ok ?_ ?_ <;> (unfold FoT.worth; split <;> omega)
          refine ⟨_, rfl, x, _, rfl, it, lx, _, rfl, lo, _, rfl, rfl, _, rfl, ite2 (fun c => ?_) (fun c => ?_)⟩
          · have z : TL.tl x = FoT.numI (FoT.worth (TL.tl x)) := by
              rw [← FoT.tl_str, V.str.inj (of_decide_eq_true c)]
            refine ⟨_, rfl, x, _, rfl, it, lx, ?_⟩
            rcases h with ⟨n, e, q⟩ | ⟨no, _⟩
            · have z2 : FoT.worth (TL.tl x) = n := by rw [e, FoT.worth_numI]
              rw [z2]
              exact q _ sE
            · exact absurd z (no _)
          · rcases h with ⟨n, e, q⟩ | ⟨_, q⟩
            · refine absurd (decide_eq_true ?_) c
              have z2 : FoT.worth (TL.tl x) = n := by rw [e, FoT.worth_numI]
              rw [show Str.ofString (toString (FoT.worth (TL.tl x))) = x from TL.ext_tl (by rw [FoT.tl_str, z2, e])]
            · exact q _ sE
        · rw [decide_eq_false fun z => hA ((nd_nil _).mp z)]
          exact iteT (non (fun d => hA d.1) _ sE)
end

end Fo

set_option maxHeartbeats 4100000
namespace Fo
open PySem PySem.Spec PyProof.Rows L2
/-! ### what is due -/
def wv (w : Str) : V := if FoT.numI (FoT.worth (TL.tl w)) = TL.tl w then .int (FoT.worth (TL.tl w)) else .non
theorem wv_yes {w : Str} (h : FoT.numI (FoT.worth (TL.tl w)) = TL.tl w) : wv w = .int (FoT.worth (TL.tl w)) := if_pos h
theorem wv_no {w : Str} (h : ¬ FoT.numI (FoT.worth (TL.tl w)) = TL.tl w) : wv w = .non := if_neg h
theorem wv_flat : ∀ l : List Str, (l.map wv).all flatV = true
  | [] => rfl
  | w :: l => by
    rw [List.map_cons, List.all_cons, wv_flat l]
    unfold wv
    split <;> rfl
theorem canon {w : Str} {n : Int} (h : TL.tl w = FoT.numI n) : FoT.numI (FoT.worth (TL.tl w)) = TL.tl w := by rw [h, FoT.worth_numI]
def spDue (K : PySem.W.Frag) : Sp := fun vs H Q _ => ∃ t : Str, vs = [.str t] ∧ (TL.tl t).length < 58 ∧ Asc t ∧
  ((∃ u d, FoT.IsTxt (TL.tl t) u d ∧ ∀ p H', H p = none → Same H H' → FrT H' p u d → Q (.ref p) H') ∨ ((∀ u d, ¬ FoT.IsTxt (TL.tl t) u d) ∧ ∀ H', Same H H' → Q .non H'))
section
variable {P : Program} {w : World} {K : PySem.W.Frag} {mg : Str → Option Value} {base : Heap}
theorem ok_due (T : Tx K mg) : FnOk P w K mg base CX0 2 (He.ga K "_law_due") T.fd_due ["_law_phrase"] (spDue K) := by
  refine T.F_due.ok sc_due (fun vs H Q E h => ?_) (fun cdv A outer s H vs Q E hr h => ?_)
  · obtain ⟨x, rfl, _⟩ := h
    rfl
  · obtain ⟨t, rfl, hl, ha, h⟩ := h
    refine ⟨_, (pss_cons (ps_setLc (i := 2) (own := [("_law_word", 1)]) (g := gName 1) rfl sc_due.nd rfl rfl (sw_true rfl rfl rfl (by decide +kernel)) (pi_list (pe_split (pv 0) pe_str)) (blkOk_by (own := [("_law_word", 1)]) (N := ["_law_phrase", "_law_word", "_law_words"]) (sc := defScope s_due) (by decide +kernel)) (fun _ _ _ _ _ => (pg_name (i := 1) sc_due.nd rfl (.inl rfl))) (fun _ _ _ _ _ => pts_nil) (fun _ _ _ _ _ => (pe_call (ok_whole T) (hr.mono (by decide)) (by rfl) T.g_whole T.F_whole.kp T.b_whole .nil pass0 (pa_cons (pv 1) pa_nil))))
      (pss_cons (ps_if (PW.pt (pw_or (pt_cmpR op_in_seq pe_non (pv 2) (by rfl)) (pw_or1 (pt_cmpR op_gt (pe_callB call_len_seq (by rfl) T.z_len PySem.boot_len (pa_cons (pv 2) pa_nil)) pe_int (nomark _))))) (pss_one (ps_ret pe_non)) pss_nil)
      (pss_cons (ps_if (pt_cmpR op_eq (pe_callB call_len_seq (by rfl) T.z_len PySem.boot_len (pa_cons (pv 2) pa_nil)) pe_int (nomark _)) (pss_one (ps_ret (pe_tup (pa_cons (pe_ix ix_list (pv 2) pe_int (fun _ _ => rfl)) (pa_cons pe_int pa_nil))))) pss_nil)
      (pss_one (ps_ret (pe_ifExp (PW.pt (pw_and (pt_cmpR op_gt (pe_ix ix_list (pv 2) pe_int (fun _ _ => rfl)) pe_int (nomark _)) (pw_and1 (pt_cmpR (op_eqD hr.units) (pe_call (ok_frac T) (hr.mono (by decide)) (by rfl) T.g_frac T.F_frac.kp T.b_frac .nil pass0 (pa_cons (pe_ix ix_list (pv 2) pe_int (fun _ _ => rfl)) (pa_cons (pe_ix ix_list (pv 2) pe_int (fun _ _ => rfl)) pa_nil))) (pe_tup (pa_cons (pe_ix ix_list (pv 2) pe_int (fun _ _ => rfl)) (pa_cons (pe_ix ix_list (pv 2) pe_int (fun _ _ => rfl)) pa_nil))) (nomark _))))) (pe_tup (pa_cons (pe_ix ix_list (pv 2) pe_int (fun _ _ => rfl)) (pa_cons (pe_ix ix_list (pv 2) pe_int (fun _ _ => rfl)) pa_nil))) pe_non)))))), ?_⟩
    have hz : t.length + 2 ≤ sizeLine := by rw [sizeLine_eq, TL.len_tl]; omega
    have non : (∀ u d, ¬ FoT.IsTxt (TL.tl t) u d) → ∀ H1, Same H H1 → Q .non H1 := fun no => by
      rcases h with ⟨u, d, i, _⟩ | ⟨_, q⟩
      · exact absurd i (no u d)
      · exact q
    have good : ∀ u d, FoT.IsTxt (TL.tl t) u d → ∀ p H', H p = none → Same H H' → FrT H' p u d → Q (.ref p) H' := fun u d i => by
      rcases h with ⟨u', d', i', q⟩ | ⟨no, _⟩
      · obtain ⟨rfl, rfl⟩ := i.uniq i'
        exact q
      · exact absurd i (no u d)
    refine ⟨_, rfl, ⟨_, rfl⟩, t, "/", rfl, rfl, rfl, hz, fun p hp => ?_⟩
    refine ⟨p, rfl, ⟨_, SqL.of upd_same⟩, fun D nD => ?_⟩
    have s0 := Same.upd hp (o := .lst ((Txt.split t "/").map V.str))
    refine lc_list (K := K) (a := p) (xs := (Txt.split t "/").map V.str) (fun i H1 => H1 D = some (.lst (((Txt.split t "/").take i).map wv)) ∧ Same (upd H p (.lst ((Txt.split t "/").map V.str))) H1) ⟨upd_same, Same.upd nD⟩ (fun i H1 _ z => SqL.of (z.2 _ _ upd_same)) (fun i x H1 ex z => ?_) (fun H1 z => ?_)
    · obtain ⟨hL, sL⟩ := z
      rw [List.getElem?_map] at ex
      obtain ⟨v, ev, rfl⟩ := Option.map_eq_some_iff.mp ex
      obtain ⟨m1, m2⟩ := FoT.split_mem _ t (Nat.le_refl _) v (List.mem_of_getElem? ev)
      have tk : (Txt.split t "/").take (i + 1) = (Txt.split t "/").take i ++ [v] := by
        rw [List.take_add_one, ev]
        rfl
      have fin : ∀ H2, Same H1 H2 → ∃ acc, H2 D = some (.lst acc) ∧ acc.length < sizeLine ∧ upd H2 D (.lst (acc ++ [wv v])) D = some (.lst (((Txt.split t "/").take (i + 1)).map wv)) ∧ Same (upd H p (.lst ((Txt.split t "/").map V.str))) (upd H2 D (.lst (acc ++ [wv v]))) := fun H2 s2 => by
        refine ⟨_, s2 _ _ hL, ?_, ?_, fun b o e => ?_⟩
        · have l1 := FoT.split_len _ t (Nat.le_refl _)
          rw [List.length_map, List.length_take, sizeLine_eq]
          omega
        · rw [upd_same, tk, List.map_append]
          rfl
        · rw [upd_ne (ne_of_none e nD)]
          exact s2 _ _ (sL _ _ e)
      refine ⟨rfl, ?_⟩
      unfold tYes
      dsimp only
      rw [if_pos rfl]
      refine ⟨_, rfl, v, rfl, by omega, fun c hc => ha c (m2 c hc), ?_⟩
      by_cases hc : FoT.numI (FoT.worth (TL.tl v)) = TL.tl v
      · rw [wv_yes hc] at fin
        exact .inl ⟨_, hc.symm, fin⟩
      · rw [wv_no hc] at fin
        exact .inr ⟨fun n e => hc (canon e), fin⟩
    · obtain ⟨hL, sL⟩ := z
      rw [List.length_map, List.take_length] at hL
      have sA := s0.trans sL
      rcases FoT.split_cases t with ⟨h47, e⟩ | ⟨a, b, e1, e2, e3, e⟩ | ⟨a, b, c, r, e1, e2, e3, e⟩
      · rw [e] at hL
        by_cases hc : FoT.numI (FoT.worth (TL.tl t)) = TL.tl t
        · rw [show [t].map wv = [V.int (FoT.worth (TL.tl t))] by rw [List.map_cons, wv_yes hc]; rfl] at hL
          have hQ := SqL.of (K := K) hL
          refine ⟨_, rfl, D, _, rfl, .inl hQ, rfl, rfl, _, rfl, iteF ?_⟩
          refine ⟨_, rfl, D, _, rfl, .inl hQ, _, _, rfl, rfl, _, rfl, iteF ?_⟩
          refine ⟨_, rfl, D, _, rfl, .inl hQ, rfl, _, rfl, iteT ?_⟩
          refine ⟨_, rfl, _, _, _, _, rfl, rfl, hQ, rfl, (by show 2 ≤ sizeLine; rw [sizeLine_eq]; decide), fun q nq => ?_⟩
          exact good _ _ ((FoT.isTxt_one h47).mpr ⟨rfl, hc.symm⟩) q _ (sA.free nq) (sA.trans (Same.upd nq)) upd_same
        · rw [show [t].map wv = [V.non] by rw [List.map_cons, wv_no hc]; rfl] at hL
          refine ⟨_, rfl, D, _, rfl, .inl (SqL.of hL), rfl, rfl, _, rfl, iteT ?_⟩
          exact non (fun u d i => hc (canon ((FoT.isTxt_one h47).mp i).2)) _ sA
      · rw [e] at hL
        have two : ∀ {u d : Int}, FoT.IsTxt (TL.tl t) u d ↔ 1 < d ∧ Nat.gcd u.natAbs d.natAbs = 1 ∧ TL.tl a = FoT.numI u ∧ TL.tl b = FoT.numI d := fun {u d} => by
          rw [e1]
          exact FoT.isTxt_two e2
        by_cases ca : FoT.numI (FoT.worth (TL.tl a)) = TL.tl a
        case neg =>
          rw [show [a, b].map wv = [V.non, wv b] by rw [List.map_cons, wv_no ca]; rfl] at hL
          refine ⟨_, rfl, D, _, rfl, .inl (SqL.of hL), rfl, ?_, _, rfl, ?_⟩
          · have z := wv_flat [b]
            exact z
          · exact iteT (non (fun u d i => ca (canon (two.mp i).2.2.1)) _ sA)
        by_cases cb : FoT.numI (FoT.worth (TL.tl b)) = TL.tl b
        case neg =>
          rw [show [a, b].map wv = [V.int (FoT.worth (TL.tl a)), V.non] by rw [List.map_cons, List.map_cons, wv_yes ca, wv_no cb]; rfl] at hL
          refine ⟨_, rfl, D, _, rfl, .inl (SqL.of hL), rfl, rfl, _, rfl, iteT ?_⟩
          exact non (fun u d i => cb (canon (two.mp i).2.2.2)) _ sA
        rw [show [a, b].map wv = [V.int (FoT.worth (TL.tl a)), V.int (FoT.worth (TL.tl b))] by rw [List.map_cons, List.map_cons, wv_yes ca, wv_yes cb]; rfl] at hL
        have hQ := SqL.of (K := K) hL
        refine ⟨_, rfl, D, _, rfl, .inl hQ, rfl, rfl, _, rfl, iteF ?_⟩
        refine ⟨_, rfl, D, _, rfl, .inl hQ, _, _, rfl, rfl, _, rfl, iteF ?_⟩
        refine ⟨_, rfl, D, _, rfl, .inl hQ, rfl, _, rfl, iteF ?_⟩
        have db : FoT.Dig (FoT.body (TL.tl b)) := by rw [← cb]; exact FoT.dig_of_numI
        have le := congrArg List.length e1
        rw [List.length_append, List.length_cons] at le
        have bb := FoT.worth_lt db (by omega)
        have cn : ∀ u d, FoT.IsTxt (TL.tl t) u d → FoT.worth (TL.tl a) = u ∧ FoT.worth (TL.tl b) = d := fun u d i => by
          obtain ⟨_, _, i3, i4⟩ := two.mp i
          exact ⟨by rw [i3, FoT.worth_numI], by rw [i4, FoT.worth_numI]⟩
        refine ⟨_, rfl, _, _, _, _, rfl, rfl, hQ, rfl, _, _, rfl, rfl, _, rfl, ite2 (fun c => ?_) (fun c => ?_)⟩
        · have m1 : 1 < FoT.worth (TL.tl b) := of_decide_eq_true c
          have m0 : FoT.worth (TL.tl b) ≠ 0 := by omega
          refine ⟨_, rfl, _, _, _, _, rfl, rfl, hQ, rfl, _, rfl, _, _, _, _, rfl, rfl, hQ, rfl, _, _, rfl, m0, (sz_of (n := 200) (10 ^ 60) (by omega) (by omega) (by decide)).mono (by decide), fun q nq => ?_⟩
          have hQ2 := SqL.of (K := K) (Same.upd nq (o := .tup [.int (FoM.frN (FoT.worth (TL.tl a)) (FoT.worth (TL.tl b))), .int (FoM.frD (FoT.worth (TL.tl a)) (FoT.worth (TL.tl b)))]) _ _ hL)
          refine ⟨_, rfl, _, _, _, _, rfl, rfl, hQ2, rfl, _, rfl, _, _, _, _, rfl, rfl, hQ2, rfl, (by show 2 ≤ sizeLine; rw [sizeLine_eq]; decide), fun r nr => ?_⟩
          have sB := sA.trans ((Same.upd nq (o := .tup [.int (FoM.frN (FoT.worth (TL.tl a)) (FoT.worth (TL.tl b))), .int (FoM.frD (FoT.worth (TL.tl a)) (FoT.worth (TL.tl b)))])).trans (Same.upd nr (o := .tup [.int (FoT.worth (TL.tl a)), .int (FoT.worth (TL.tl b))])))
          refine ⟨_, _, dp2 (p := q) (Same.upd nr _ _ upd_same), dp2 (p := r) upd_same, rfl, rfl, _, rfl, ?_⟩
          rw [eqv2]
          by_cases z : FoM.frN (FoT.worth (TL.tl a)) (FoT.worth (TL.tl b)) = FoT.worth (TL.tl a) ∧ FoM.frD (FoT.worth (TL.tl a)) (FoT.worth (TL.tl b)) = FoT.worth (TL.tl b)
          · rw [decide_eq_true z.1, decide_eq_true z.2]
            refine iteT ?_
            have cop := FoM.fr_cop (u := FoT.worth (TL.tl a)) m0
            rw [z.1, z.2] at cop
            have hQ3 := SqL.of (K := K) (((Same.upd nq (o := .tup [.int (FoM.frN (FoT.worth (TL.tl a)) (FoT.worth (TL.tl b))), .int (FoM.frD (FoT.worth (TL.tl a)) (FoT.worth (TL.tl b)))])).trans (Same.upd nr (o := .tup [.int (FoT.worth (TL.tl a)), .int (FoT.worth (TL.tl b))]))) _ _ hL)
            refine ⟨_, rfl, _, _, _, _, rfl, rfl, hQ3, rfl, _, rfl, _, _, _, _, rfl, rfl, hQ3, rfl, (by show 2 ≤ sizeLine; rw [sizeLine_eq]; decide), fun v nv => ?_⟩
            exact good _ _ (two.mpr ⟨m1, cop, ca.symm, cb.symm⟩) v _ (sB.free nv) (sB.trans (Same.upd nv)) upd_same
          · have zz : (decide (FoM.frN (FoT.worth (TL.tl a)) (FoT.worth (TL.tl b)) = FoT.worth (TL.tl a)) && decide (FoM.frD (FoT.worth (TL.tl a)) (FoT.worth (TL.tl b)) = FoT.worth (TL.tl b))) = false := by
              refine Bool.eq_false_iff.mpr fun y => z ?_
              rw [Bool.and_eq_true, decide_eq_true_eq, decide_eq_true_eq] at y
              exact y
            rw [zz]
            refine iteF (non (fun u d i => z ?_) _ sB)
            obtain ⟨c1, c2⟩ := cn u d i
            obtain ⟨d1, g, _, _⟩ := two.mp i
            rw [c1, c2]
            exact FoM.fr_low (by omega) g
        · refine iteF (non (fun u d i => c (decide_eq_true ?_)) _ sA)
          rw [(cn u d i).2]
          exact (two.mp i).1
      · have no : ∀ u d, ¬ FoT.IsTxt (TL.tl t) u d := fun u d => by
          rw [e1]
          exact FoT.no_txt3 e2 e3 u d
        refine ⟨_, rfl, D, _, rfl, .inl (SqL.of hL), rfl, wv_flat _, _, rfl, ?_⟩
        cases hb : inV .non ((Txt.split t "/").map wv) with
        | true => exact iteT (non no _ sA)
        | false =>
          refine iteF ⟨_, rfl, D, _, rfl, .inl (SqL.of hL), _, _, rfl, rfl, _, rfl, ?_⟩
          have l3 : (2 : Int) < (((Txt.split t "/").map wv).length : Nat) := by
            rw [List.length_map, e]
            omega
          rw [decide_eq_true l3]
          exact iteT (non no _ sA)
end

end Fo

set_option maxHeartbeats 4100000
namespace Fo
open PySem PySem.Spec PyProof.Rows L2
/-! ### the law -/
def spLaw (K : PySem.W.Frag) : Sp := fun vs H Q _ => ∃ (a : Addr) (ns : List Int), vs = [.ref a] ∧ SqL K H a (ns.map V.int) ∧ ns.length ≤ 63 ∧ ∀ H', Q (.bl true) H'
theorem SqL.same {K : PySem.W.Frag} {H H' : Hp} {a : Addr} {xs : List V} (h : SqL K H a xs) (e : Same H H') : SqL K H' a xs := by
  rcases h with (g | ⟨o, g⟩) | g
  · exact .inl (.inl (e _ _ g))
  · exact .inl (.inr ⟨o, e _ _ g⟩)
  · exact .inr g
theorem sz1000 {m : Int} (h0 : 0 ≤ m := by decide) (h : m < 1000000 := by decide) : FoM.Sz 4000 m := sz_of 1000000 (by omega) h (Nat.le_trans (by decide) (Nat.pow_le_pow_right (by decide) (show 20 ≤ 4000 by decide)))
theorem BoxAt.same {H H' : Hp} {p : Addr} {n : Nat} (h : BoxAt H p n) (e : Same H H') : BoxAt H' p n :=
  let ⟨x, c, sd, a, r⟩ := h
  ⟨x, c, sd, e _ _ a, r⟩
theorem BoxAt.ne {H : Hp} {p t : Addr} {n : Nat} (h : BoxAt H p n) (e : H t = none) : t ≠ p := fun z => by
  obtain ⟨x, c, sd, a, _⟩ := h
  rw [z, a] at e
  cases e
theorem But.free {H H' : Hp} {b t : Addr} (h : But b H H') (nb : t ≠ b) (e : H' t = none) : H t = none := by
  cases q : H t with
  | none => rfl
  | some o =>
    rw [h t o q nb] at e
    cases e
theorem mostk (k : Nat) (h : k < 3) : ∃ m : Int, [V.int 9, V.int 60, V.int (10 ^ (9 : Int).toNat - 1)][k]? = some (.int m) ∧ 0 < m ∧ m ≤ 1000000000 :=
  match k, h with
  | 0, _ => ⟨_, rfl, by decide, by decide⟩
  | 1, _ => ⟨_, rfl, by decide, by decide⟩
  | 2, _ => ⟨_, rfl, by decide, by decide⟩
theorem downk (d : Int) (k : Nat) (h : k < 2) : ∃ m : Int, [V.int 1, V.int d][k]? = some (.int m) ∧ (m = 1 ∨ m = d) :=
  match k, h with
  | 0, _ => ⟨_, rfl, .inl rfl⟩
  | 1, _ => ⟨_, rfl, .inr rfl⟩
def Wd (n : Nat) (x : Str) : Prop := (TL.tl x).length ≤ n ∧ Asc x
theorem Wd.add {n m : Nat} {x y : Str} (a : Wd n x) (b : Wd m y) : Wd (n + m) (x ++ y) := by
  refine ⟨?_, fun c hc => ?_⟩
  · rw [TL.tl_append, List.length_append]
    exact Nat.add_le_add a.1 b.1
  · rw [TL.tl_append] at hc
    rcases List.mem_append.mp hc with z | z
    · exact a.2 c z
    · exact b.2 c z
theorem Wd.mono {n m : Nat} {x : Str} (a : Wd n x) (h : n ≤ m) : Wd m x := ⟨Nat.le_trans a.1 h, a.2⟩
theorem Wd.cut {n : Nat} {x : Str} (a : Wd n x) (lo hi : Option Int) : Wd n (cutS x lo hi) := by
  have sub : ∀ {l : List Nat} {i j : Nat}, ((l.drop i).take j).length ≤ l.length ∧ ∀ c ∈ (l.drop i).take j, c ∈ l := fun {l i j} =>
    ⟨by rw [List.length_take, List.length_drop]; omega, fun c hc => List.mem_of_mem_drop (List.mem_of_mem_take hc)⟩
  refine ⟨?_, fun c hc => a.2 c ?_⟩
  · exact Nat.le_trans (sub (l := TL.tl x)).1 a.1
  · exact (sub (l := TL.tl x)).2 c hc
theorem Wd.int {n : Int} (h0 : -(10 ^ 60) < n) (h1 : n < 10 ^ 60) (k : Nat) (l : n.natAbs < 10 ^ k) (k0 : 0 < k) : Wd (k + 1) (Str.ofString (toString n)) := by
  have z := TL.numL_len (n := n.natAbs) k0 l
  have as : ∀ c ∈ TL.numL n.natAbs, c < 128 := fun c hc => by
    have := TL.numL_digits _ c hc
    omega
  unfold Wd Asc
  rw [FoT.tl_str]
  unfold FoT.numI
  split
  · refine ⟨by rw [List.length_cons]; omega, fun c hc => ?_⟩
    rcases List.mem_cons.mp hc with e | e
    · rw [e]
      decide
    · exact as c e
  · exact ⟨by omega, as⟩
theorem Wd.slash : Wd 1 ("/" : Str) := ⟨by rw [FoT.tl_slash]; decide, fun c hc => by rw [FoT.tl_slash] at hc; rw [List.mem_singleton.mp hc]; decide⟩
theorem wd_line {n m : Nat} {x y : Str} (a : Wd n x) (b : Wd m y) (h : n + m ≤ 1000) : x.length + y.length ≤ sizeLine := by
  rw [sizeLine_eq, TL.len_tl, TL.len_tl]
  have h1 := a.1
  have h2 := b.1
  omega
theorem frt_but {H H' : Hp} {pb px : Addr} {n : Nat} {u d : Int} (hB : BoxAt H pb n) (hx : FrT H px u d) (b : But pb H H') : FrT H' px u d := by
  obtain ⟨x, c, sd, e, _⟩ := hB
  refine b _ _ hx fun z => ?_
  have hx' : H px = some (.tup [.int u, .int d]) := hx
  rw [z, e] at hx'
  cases hx'
theorem partk : ∀ k : Nat, k < 12 → ∃ x : Str, [V.str "0", V.str "1", V.str "-", V.str "/", V.str " ", V.str "+", V.str ".", V.str "/1", V.str "/0", V.str "00", V.str "a", V.str ""][k]? = some (.str x) ∧ Wd 2 x := by
  have w : ∀ {x : Str}, (decide ((TL.tl x).length ≤ 2) && (TL.tl x).all fun c => decide (c < 128)) = true → Wd 2 x := fun {x} h => by
    rw [Bool.and_eq_true] at h
    exact ⟨of_decide_eq_true h.1, fun c hc => of_decide_eq_true (List.all_eq_true.mp h.2 c hc)⟩
  exact fun k h => match k, h with
    | 0, _ => ⟨_, rfl, w (by decide +kernel)⟩
    | 1, _ => ⟨_, rfl, w (by decide +kernel)⟩
    | 2, _ => ⟨_, rfl, w (by decide +kernel)⟩
    | 3, _ => ⟨_, rfl, w (by decide +kernel)⟩
    | 4, _ => ⟨_, rfl, w (by decide +kernel)⟩
    | 5, _ => ⟨_, rfl, w (by decide +kernel)⟩
    | 6, _ => ⟨_, rfl, w (by decide +kernel)⟩
    | 7, _ => ⟨_, rfl, w (by decide +kernel)⟩
    | 8, _ => ⟨_, rfl, w (by decide +kernel)⟩
    | 9, _ => ⟨_, rfl, w (by decide +kernel)⟩
    | 10, _ => ⟨_, rfl, w (by decide +kernel)⟩
    | 11, _ => ⟨_, rfl, w (by decide +kernel)⟩
theorem no_empty (u d : Int) : ¬ FoT.IsTxt (TL.tl ("" : Str)) u d := fun i => by
  have e := ((FoT.isTxt_one (t := TL.tl ("" : Str)) (by decide +kernel)).mp i).2
  have z := congrArg FoT.body e
  rw [FoT.body_numI, show FoT.body (TL.tl ("" : Str)) = [] from rfl] at z
  exact TL.numL_ne _ z.symm
theorem no_m0 (u d : Int) : ¬ FoT.IsTxt (TL.tl ("-0" : Str)) u d := fun i => by
  have e := ((FoT.isTxt_one (t := TL.tl ("-0" : Str)) (by decide +kernel)).mp i).2
  have e0 : TL.tl ("-0" : Str) = [45, 48] := by decide +kernel
  have w := congrArg FoT.worth e
  rw [FoT.worth_numI, e0, show FoT.worth [45, 48] = 0 by decide +kernel] at w
  rw [← w, e0] at e
  revert e
  decide +kernel
theorem no_03 (u d : Int) : ¬ FoT.IsTxt (TL.tl ("0/3" : Str)) u d := fun i => by
  have e0 : TL.tl ("0/3" : Str) = [48] ++ 47 :: [51] := by decide +kernel
  rw [e0] at i
  obtain ⟨_, g, e1, e2⟩ := (FoT.isTxt_two (by decide)).mp i
  have w1 := congrArg FoT.worth e1
  have w2 := congrArg FoT.worth e2
  rw [FoT.worth_numI, show FoT.worth [48] = 0 by decide +kernel] at w1
  rw [FoT.worth_numI, show FoT.worth [51] = 3 by decide +kernel] at w2
  rw [← w1, ← w2] at g
  revert g
  decide
theorem kb_read {K : PySem.W.Frag} {mg : Str → Option Value} (T : Tx K mg) : KBn K T.fd_Ratio_read ["cls", "text"] 1 ["text"] (fun us ws => us ++ ws) (fun vs zs => vs ++ zs) :=
  FoC.kbn (fun us ws => us ++ ws) T.F_Ratio_read (fun r1 r2 => r1.append r2) (fun kV doc pm an cdv ct us ws l1 l2 => match us, ws, l1, l2 with | [_], [_], _, _ => rfl)
section
variable {P : Program} {w : World} {K : PySem.W.Frag} {mg : Str → Option Value} {base : Heap}
theorem ok_law (T : Tx K mg) : FnOk P w K mg base CX0 7 (He.ga K "law") T.fd_law ["_law_script"] (spLaw K) := by
  refine T.F_law.ok sc_law (fun vs H Q E h => ?_) (fun cdv A outer s H vs Q E hr h => ?_)
  · obtain ⟨a, ns, rfl, _⟩ := h
    rfl
  · obtain ⟨a, ns, rfl, hS, hl, q⟩ := h
    refine ⟨_, (pss_cons (ps_for PassesOwn.never rfl (pi_range1 (by rfl) T.z_range (pa_cons (pe_callB (call_max2 rfl) (by rfl) T.z_max (by decide +kernel) (pa_cons pe_int (pa_cons (pe_callB (call_min2 rfl) (by rfl) T.z_min (by decide +kernel) (pa_cons pe_int (pa_cons (pe_callB call_len_seq (by rfl) T.z_len PySem.boot_len (pa_cons (pv 0) pa_nil)) pa_nil))) pa_nil))) pa_nil)) (pg_name (i := 1) sc_law.nd rfl (.inl rfl)) (pss_cons (ps_set (i := 2) sc_law.nd rfl (.inl rfl) (pe_call (ok_box T) (hr.mono (by decide)) (by rfl) T.g_box T.F_box.kp T.b_box .nil pass0 (pa_cons (pv 0) (pa_cons (pv 1) pa_nil))))
      (pss_cons (ps_set (i := 3) sc_law.nd rfl (.inl rfl) (pe_ix ix_list (pe_lst (pa_cons pe_int (pa_cons pe_int (pa_cons (pe_op op_sub (pe_op FoA.op_powW pe_int pe_int) pe_int) pa_nil)))) (pe_call (ok_take T) (hr.mono (by decide)) (by rfl) T.g_take T.F_take.kp T.b_take .nil pass0 (pa_cons (pv 2) (pa_cons pe_int pa_nil))) (fun _ _ => rfl)))
      (pss_cons (ps_set (i := 4) sc_law.nd rfl (.inl rfl) (pe_call (ok_frac T) (hr.mono (by decide)) (by rfl) T.g_frac T.F_frac.kp T.b_frac .nil pass0 (pa_cons (pe_op op_sub (pe_call (ok_take T) (hr.mono (by decide)) (by rfl) T.g_take T.F_take.kp T.b_take .nil pass0 (pa_cons (pv 2) (pa_cons (pe_op op_add (pe_op op_mulW pe_int (pv 3)) pe_int) pa_nil))) (pv 3)) (pa_cons (pe_ix ix_list (pe_lst (pa_cons pe_int (pa_cons (pe_op op_add pe_int (pe_call (ok_take T) (hr.mono (by decide)) (by rfl) T.g_take T.F_take.kp T.b_take .nil pass0 (pa_cons (pv 2) (pa_cons (pv 3) pa_nil)))) pa_nil))) (pe_call (ok_take T) (hr.mono (by decide)) (by rfl) T.g_take T.F_take.kp T.b_take .nil pass0 (pa_cons (pv 2) (pa_cons pe_int pa_nil))) (fun _ _ => rfl)) pa_nil))))
      (pss_cons (ps_set (i := 5) sc_law.nd rfl (.inl rfl) (pe_ifExp (pt_cmpR op_eq (pe_ix ix_tup (pv 4) pe_int (fun _ _ => rfl)) pe_int (nomark _)) (pe_callTy call_str_int (by rfl) T.z_str (by decide +kernel) (pa_cons (pe_ix ix_tup (pv 4) pe_int (fun _ _ => rfl)) pa_nil)) (pe_op op_add_str (pe_op op_add_str (pe_callTy call_str_int (by rfl) T.z_str (by decide +kernel) (pa_cons (pe_ix ix_tup (pv 4) pe_int (fun _ _ => rfl)) pa_nil)) pe_str) (pe_callTy call_str_int (by rfl) T.z_str (by decide +kernel) (pa_cons (pe_ix ix_tup (pv 4) pe_int (fun _ _ => rfl)) pa_nil)))))
      (pss_cons (ps_if (PW.pt (pw_or (pt_cmpR op_ne (pe_meth0 (pe_make T.mk_R (ok_Ratio_init T) (hr.mono (by decide)) (by rfl) T.c_Ratio (bind_init2 T) .nil pass0 (pa_cons (pe_ix ix_tup (pv 4) pe_int (fun _ _ => rfl)) (pa_cons (pe_ix ix_tup (pv 4) pe_int (fun _ _ => rfl)) pa_nil))) T.cl_R T.me_text (ok_Ratio_text T) (hr.mono (by decide)) T.b_Ratio_text .nil pass0) (pv 5) (nomark _)) (pw_or (pt_cmpR (op_neD hr.units) (pe_call (ok_read T) (hr.mono (by decide)) (by rfl) T.g_read T.F_read.kp T.b_read .nil pass0 (pa_cons (pv 5) pa_nil)) (pv 4) (nomark _)) (pw_or1 (pt_cmpR (op_neD hr.units) (pe_call (ok_due T) (hr.mono (by decide)) (by rfl) T.g_due T.F_due.kp T.b_due .nil pass0 (pa_cons (pv 5) pa_nil)) (pv 4) (nomark _)))))) (pss_one (ps_ret pe_bl)) pss_nil)
      (pss_cons (ps_if (pt_not (pt_cmpR (FoA.op_ownC (ok_Ratio_eq T) (hr.mono (by decide)) T.b_Ratio_eq pass0 T.cm_eq (fun _ _ => rfl)) (FoD.pe_cmethN0 (pe_glob (v := V.ref (RC K)) (by rfl) T.c_Ratio rfl) T.cr_R T.cm_read (ok_Ratio_read T) (hr.mono (by decide)) (kb_read T) passL (pk_cons (pv 5) pk_nil)) (pe_make T.mk_R (ok_Ratio_init T) (hr.mono (by decide)) (by rfl) T.c_Ratio (bind_init2 T) .nil pass0 (pa_cons (pe_ix ix_tup (pv 4) pe_int (fun _ _ => rfl)) (pa_cons (pe_ix ix_tup (pv 4) pe_int (fun _ _ => rfl)) pa_nil))) (nomark _))) (pss_one (ps_ret pe_bl)) pss_nil)
      (pss_one (ps_for PassesOwn.never rfl (pi_range1 (by rfl) T.z_range (pa_cons pe_int pa_nil)) (pg_name (i := 6) sc_law.nd rfl (.inl rfl)) (pss_cons (ps_set (i := 7) sc_law.nd rfl (.inl rfl) (pe_call (ok_take T) (hr.mono (by decide)) (by rfl) T.g_take T.F_take.kp T.b_take .nil pass0 (pa_cons (pv 2) (pa_cons (pe_op op_add (pe_callB call_len_str (by rfl) T.z_len PySem.boot_len (pa_cons (pv 5) pa_nil)) pe_int) pa_nil))))
      (pss_cons (ps_set (i := 8) sc_law.nd rfl (.inl rfl) (pe_ix ix_list (pe_lst (pa_cons pe_str (pa_cons pe_str (pa_cons pe_str (pa_cons pe_str (pa_cons pe_str (pa_cons pe_str (pa_cons pe_str (pa_cons pe_str (pa_cons pe_str (pa_cons pe_str (pa_cons pe_str (pa_cons pe_str pa_nil))))))))))))) (pe_call (ok_take T) (hr.mono (by decide)) (by rfl) T.g_take T.F_take.kp T.b_take .nil pass0 (pa_cons (pv 2) (pa_cons pe_int pa_nil))) (fun _ _ => rfl)))
      (pss_cons (ps_set (i := 9) sc_law.nd rfl (.inl rfl) (pe_op op_add_str (pe_op op_add_str (pe_slice sl_str (pv 5) po_none (po_some (pv 7))) (pv 8)) (pe_slice sl_str (pv 5) (po_some (pe_op op_add (pv 7) (pe_call (ok_take T) (hr.mono (by decide)) (by rfl) T.g_take T.F_take.kp T.b_take .nil pass0 (pa_cons (pv 2) (pa_cons pe_int pa_nil))))) po_none)))
      (pss_cons (ps_set (i := 10) sc_law.nd rfl (.inl rfl) (pe_op op_add_str (pe_op op_add_str (pe_callTy call_str_int (by rfl) T.z_str (by decide +kernel) (pa_cons (pe_op op_mulW (pe_ix ix_tup (pv 4) pe_int (fun _ _ => rfl)) pe_int) pa_nil)) pe_str) (pe_callTy call_str_int (by rfl) T.z_str (by decide +kernel) (pa_cons (pe_op op_mulW (pe_ix ix_tup (pv 4) pe_int (fun _ _ => rfl)) pe_int) pa_nil))))
      (pss_one (ps_for PassesOwn.never rfl (pi_list (pe_lst (pa_cons (pv 9) (pa_cons (pv 10) (pa_cons (pe_op op_add_str (pe_op op_add_str (pv 5) pe_str) (pv 8)) (pa_cons (pe_op op_add_str (pv 8) (pv 5)) pa_nil)))))) (pg_name (i := 11) sc_law.nd rfl (.inl rfl)) (pss_one (ps_if (pt_cmpR (op_neD hr.units) (pe_call (ok_read T) (hr.mono (by decide)) (by rfl) T.g_read T.F_read.kp T.b_read .nil pass0 (pa_cons (pv 11) pa_nil)) (pe_call (ok_due T) (hr.mono (by decide)) (by rfl) T.g_due T.F_due.kp T.b_due .nil pass0 (pa_cons (pv 11) pa_nil)) (nomark _)) (pss_one (ps_ret pe_bl)) pss_nil)))))))))))))))))
      (pss_one (ps_ret (pe_and (pe_cmpR op_isN (pe_call (ok_read T) (hr.mono (by decide)) (by rfl) T.g_read T.F_read.kp T.b_read .nil pass0 (pa_cons pe_str pa_nil)) pe_non (nomark _)) (pe_and (pe_cmpR op_isN (pe_call (ok_read T) (hr.mono (by decide)) (by rfl) T.g_read T.F_read.kp T.b_read .nil pass0 (pa_cons pe_str pa_nil)) pe_non (nomark _)) (pe_one (pe_cmpR op_isN (pe_call (ok_read T) (hr.mono (by decide)) (by rfl) T.g_read T.F_read.kp T.b_read .nil pass0 (pa_cons pe_str pa_nil)) pe_non (nomark _)))))))), ?_⟩
    refine ⟨_, rfl, a, _, rfl, .inl hS, _, _, rfl, _, _, rfl, _, rfl, by split <;> (try split) <;> omega, by split <;> (try split) <;> omega, ?_⟩
    refine for_range (fun i σ H' => Same H H' ∧ ∃ o1 o2 o3 o4 o5 o6 o7 o8 o9 o10 o11, σ = [some (.ref a), o1, o2, o3, o4, o5, o6, o7, o8, o9, o10, o11]) ⟨Same.refl H, _, _, _, _, _, _, _, _, _, _, _, rfl⟩ ?turn ?after
    case after =>
      rintro σ H' ⟨s0, o1, o2, o3, o4, o5, o6, o7, o8, o9, o10, o11, rfl⟩
      refine ⟨"", rfl, (by decide +kernel), .inr ⟨no_empty, fun H1 s1 => ⟨rfl, _, rfl, iteT ?_⟩⟩⟩
      refine ⟨"-0", rfl, (by decide +kernel), .inr ⟨no_m0, fun H2 s2 => ⟨rfl, _, rfl, iteT ?_⟩⟩⟩
      exact ⟨"0/3", rfl, (by decide +kernel), .inr ⟨no_03, fun H3 s3 => ⟨rfl, q _⟩⟩⟩
    case turn =>
      rintro i σ H0 hi ⟨s0, o1, o2, o3, o4, o5, o6, o7, o8, o9, o10, o11, rfl⟩
      have hS0 := SqL.same hS s0
      have hi2 : i ≤ 2 := by
        split at hi <;> (try split at hi) <;> omega
      refine ⟨_, rfl, _, rfl, a, ns, i, ?_, hS0, by omega, fun pb H1 npb s1 hB => ?_⟩
      · show [V.ref a, V.int (0 + (i : Int))] = _
        rw [Int.zero_add]
      refine ⟨_, _, rfl, rfl, ⟨by decide, by decide, by decide⟩, _, _, rfl, rfl, (by show 3 ≤ sizeLine; rw [sizeLine_eq]; decide), fun tm ntm => ?_⟩
      have nm := hB.ne ntm
      refine ⟨_, rfl, pb, 3, 0, rfl, hB.same (Same.upd ntm), by omega, by decide, sz1000, fun g1 H2 g10 g11 hB2 b2 => ?_⟩
      have hL2 := b2 _ _ upd_same nm
      obtain ⟨k1, rfl⟩ := Int.eq_ofNat_of_zero_le g10
      obtain ⟨m, em, m0, m1⟩ := mostk k1 (by omega)
      refine ⟨tm, _, _, _, rfl, rfl, SqL.of hL2, atI_nat em, ?_⟩
      have bb2 : But pb H1 H2 := (But.of_same (Same.upd ntm)).trans b2
      have zm : FoM.Sz 40 m := sz_of 2000000000 (by omega) (by omega) (by decide)
      refine ⟨_, rfl, _, rfl, _, _, rfl, rfl, FoM.Sz.mulok (n := 20) (m := 40) (sz_of 1000000 (by decide) (by decide) (by decide)) zm, _, _, rfl, rfl, ?_⟩
      refine ⟨pb, _, 1, rfl, hB2, by omega, by omega, (sz_of (n := 128) 3000000001 (by omega) (by omega) (by decide)).mono (by decide), fun g2 H3 g20 g21 hB3 b3 => ?_⟩
      refine ⟨_, rfl, _, _, rfl, rfl, ?_⟩
      refine ⟨_, rfl, _, rfl, pb, m, 2, rfl, hB3, by omega, m0, zm.mono (by decide), fun g3 H4 g30 g31 hB4 b4 => ?_⟩
      refine ⟨_, _, rfl, rfl, (by show 2 ≤ sizeLine; rw [sizeLine_eq]; decide), fun td ntd => ?_⟩
      have nd' := hB4.ne ntd
      refine ⟨_, rfl, pb, 2, 3, rfl, hB4.same (Same.upd ntd), by omega, by decide, sz1000, fun g4 H5 g40 g41 hB5 b5 => ?_⟩
      have hL5 := b5 _ _ upd_same nd'
      obtain ⟨k4, rfl⟩ := Int.eq_ofNat_of_zero_le g40
      obtain ⟨d0, ed0, hd0⟩ := downk (1 + g3) k4 (by omega)
      refine ⟨td, _, _, _, rfl, rfl, SqL.of hL5, atI_nat ed0, ?_⟩
      have p0 : 0 < d0 := by rcases hd0 with e | e <;> omega
      have q0 : d0 ≤ 1000000000 := by rcases hd0 with e | e <;> omega
      refine ⟨g2 - m, d0, rfl, by omega, (sz_of (n := 128) 1000000001 (by omega) (by omega) (by decide)).mono (by decide), fun px npx => ?_⟩
      have bb : But pb H1 H5 := bb2.trans (b3.trans (b4.trans ((But.of_same (Same.upd ntd)).trans b5)))
      have s6 : Same H0 H5 := fun c o z => bb _ _ (s1 _ _ z) (ne_of_none z npb)
      have lu := FoM.frN_le (u := g2 - m) (show d0 ≠ 0 by omega)
      have ld := FoM.frD_le (u := g2 - m) (show d0 ≠ 0 by omega)
      have dp := FoM.frD_pos (u := g2 - m) (show d0 ≠ 0 by omega)
      have cop := FoM.fr_cop (u := g2 - m) (show d0 ≠ 0 by omega)
      have hB6 := hB5.same (Same.upd npx (o := .tup [.int (FoM.frN (g2 - m) d0), .int (FoM.frD (g2 - m) d0)]))
      have hx6 : FrT (upd H5 px (.tup [.int (FoM.frN (g2 - m) d0), .int (FoM.frD (g2 - m) d0)])) px (FoM.frN (g2 - m) d0) (FoM.frD (g2 - m) d0) := upd_same
      have s06 := s6.trans (Same.upd npx (o := .tup [.int (FoM.frN (g2 - m) d0), .int (FoM.frD (g2 - m) d0)]))
      have bu : (FoM.frN (g2 - m) d0).natAbs < 10 ^ 10 := by omega
      have bd : (FoM.frD (g2 - m) d0).natAbs < 10 ^ 10 := by omega
      revert hB6 hx6 s06 dp cop bu bd
      clear lu ld
      generalize upd H5 px (.tup [.int (FoM.frN (g2 - m) d0), .int (FoM.frD (g2 - m) d0)]) = H6
      generalize FoM.frN (g2 - m) d0 = u
      generalize FoM.frD (g2 - m) d0 = d
      intro dp cop hB6 hx6 s06 bu bd
      have u0 : -(10 ^ 60) < u := by omega
      have u1 : u < 10 ^ 60 := by omega
      have d1 : d < 10 ^ 60 := by omega
      have zd : FoM.Sz 4000 d := (sz_of (n := 128) (10 ^ 10) (by omega) (by omega) (by decide)).mono (by decide)
      have it : ∀ {t : List Nat}, t = FoT.txt u d → FoT.IsTxt t u d := fun e => ⟨dp, cop, e⟩
      obtain ⟨fl1, fl2⟩ := FoM.fr_low dp cop
      have hxL := hx6.at_ (K := K)
      have wu := Wd.int u0 u1 10 bu (by decide)
      have wd := Wd.int (n := d) (by omega) d1 10 bd (by decide)
      dsimp only [gName]
      refine gen_s (C := fun v H' => ∃ ph : Str, v = .str ph ∧ TL.tl ph = FoT.txt u d ∧ Wd 23 ph ∧ H' = H6) (fun Q' rest => ?_) ?_
      · refine ⟨_, rfl, _, _, _, _, rfl, rfl, hxL, rfl, rfl, _, rfl, ite2 (fun c => ?_) (fun c => ?_)⟩
        · have e1 : d = 1 := V.int.inj (of_decide_eq_true c)
          refine ⟨_, rfl, _, _, _, _, rfl, rfl, hxL, rfl, _, rfl, FoT.log_ok u0 u1, rest _ _ ⟨_, rfl, ?_, wu.mono (by decide), rfl⟩⟩
          rw [FoT.tl_str]
          unfold FoT.txt
          rw [if_pos e1]
        · have e1 : ¬ d = 1 := fun z => c (decide_eq_true (by rw [z]))
          have w2 := wu.add Wd.slash
          have w3 := w2.add wd
          refine ⟨_, rfl, _, _, _, _, rfl, rfl, hxL, rfl, _, rfl, FoT.log_ok u0 u1, _, _, rfl, rfl, wd_line wu Wd.slash (by decide), _, rfl, _, _, _, _, rfl, rfl, hxL, rfl, _, rfl, FoT.log_ok (by omega) d1, _, _, rfl, rfl, wd_line w2 wd (by decide), rest _ _ ⟨_, rfl, ?_, w3.mono (by decide), rfl⟩⟩
          rw [TL.tl_append, TL.tl_append, FoT.tl_str, FoT.tl_str, FoT.tl_slash]
          unfold FoT.txt
          rw [if_neg e1, List.append_assoc]
          rfl
      rintro _ H7 ⟨ph, rfl, eph, wph, e7⟩
      rw [e7]
      clear e7 H7
      have hph : (TL.tl ph).length < 58 := by have := wph.1; omega
      -- the text told
      refine ⟨_, rfl, _, _, _, _, rfl, rfl, hxL, rfl, _, rfl, _, _, _, _, rfl, rfl, hxL, rfl, rd_mk (K := K) (t := u) (b := d) (by omega) zd fun pr H7 npr s7 hR => ⟨rfl, ?_⟩⟩
      rw [fl1, fl2] at hR
      obtain ⟨dx, hR'⟩ := id hR
      refine ⟨pr, dx, _, rfl, hR', rf_no _ _ (by decide +kernel) (by decide +kernel), pr, u, d, rfl, hR, u0, u1, dp, d1, fun y H8 s8 ey => ?_⟩
      have ey2 : y = ph := TL.ext_tl (by rw [ey, eph])
      refine ⟨_, rfl, rfl, _, rfl, ?_⟩
      rw [ey2, decide_eq_true rfl]
      refine iteF ?_
      refine ⟨_, rfl, ph, rfl, hph, .inl ⟨u, d, it eph, fun p9 H9 n9 s9 f9 => ?_⟩⟩
      have s69 := s7.trans (s8.trans s9)
      refine ⟨_, rfl, _, _, dp2 f9, dp2 (hx6.same s69), rfl, rfl, _, rfl, ?_⟩
      rw [eqv2, decide_eq_true rfl, decide_eq_true rfl]
      refine iteF ?_
      refine ⟨_, rfl, ph, rfl, hph, wph.2, .inl ⟨u, d, it eph, fun pA HA nA sA fA => ?_⟩⟩
      have s6A := s69.trans sA
      refine ⟨_, rfl, _, _, dp2 fA, dp2 (hx6.same s6A), rfl, rfl, _, rfl, ?_⟩
      rw [eqv2, decide_eq_true rfl, decide_eq_true rfl]
      refine iteF ?_
      -- read by name
      refine ⟨rfl, _, rfl, rfl, ph, rfl, hph, .inl ⟨u, d, it eph, fun pB HB sB hRB => ?_⟩⟩
      have s6B := s6A.trans sB
      have hxB := (hx6.same s6B).at_ (K := K)
      refine ⟨_, rfl, _, _, _, _, rfl, rfl, hxB, rfl, _, rfl, _, _, _, _, rfl, rfl, hxB, rfl, rd_mk (K := K) (t := u) (b := d) (by omega) zd fun pC HC npC sC hRC => ⟨rfl, ?_⟩⟩
      rw [fl1, fl2] at hRC
      obtain ⟨dB, hB1⟩ := hRB.same sC
      obtain ⟨dC, hC1⟩ := id hRC
      refine ⟨pB, dB, _, rfl, hB1, .ins hC1, pB, .ref pC, u, d, rfl, hRB.same sC, .inl ⟨pC, u, d, rfl, hRC, _, rfl, ?_⟩⟩
      rw [decide_eq_true rfl, decide_eq_true rfl]
      refine iteF ?_
      have s6C := s6B.trans sC
      dsimp only [tNext]
      refine ⟨6, rfl, by decide, by decide, ?_⟩
      refine for_range (n := 6) (fun j σ H' => BoxAt H' pb (4 + 3 * j) ∧ FrT H' px u d ∧ Same H0 H' ∧ ∃ m1 m3 m6 m7 m8 m9 m10 m11, σ = [some (.ref a), m1, some (.ref pb), m3, some (.ref px), some (.str ph), m6, m7, m8, m9, m10, m11])
        ⟨hB6.same s6C, hx6.same s6C, s06.trans s6C, _, _, _, _, _, _, _, _, rfl⟩ ?t2 ?a2
      case a2 =>
        rintro σ H' ⟨_, _, sZ, m1, m3, m6, m7, m8, m9, m10, m11, rfl⟩
        exact ⟨s0.trans sZ, _, _, _, _, _, _, _, _, _, _, _, rfl⟩
      case t2 =>
        rintro j σ J0 hj ⟨jB, jx, sZ, m1, m3, m6, m7, m8, m9, m10, m11, rfl⟩
        have lph := wph.1
        have hz : ph.length ≤ sizeLine := by rw [sizeLine_eq, TL.len_tl]; omega
        have lp2 : ph.length ≤ 23 := by rw [TL.len_tl]; exact lph
        refine ⟨_, rfl, _, rfl, ph, rfl, hz, _, _, rfl, rfl, pb, _, 4 + 3 * j, rfl, jB, by omega, by omega, sz1000 (by omega) (by omega), fun g1 J1 g10 g11 B1 b1 => ?_⟩
        have x1 := frt_but jB jx b1
        have z1 : Same H0 J1 := fun c o z => b1 _ _ (sZ _ _ z) (ne_of_none z npb)
        refine ⟨(by show 12 ≤ sizeLine; rw [sizeLine_eq]; decide), fun tp ntp => ?_⟩
        have np := B1.ne ntp
        refine ⟨_, rfl, pb, 12, _, rfl, B1.same (Same.upd ntp), by omega, by decide, sz1000, fun g2 J2 g20 g21 B2 b2 => ?_⟩
        have x2 := frt_but (B1.same (Same.upd ntp)) (x1.same (Same.upd ntp)) b2
        have z2 : Same H0 J2 := fun c o z => b2 _ _ ((z1.trans (Same.upd ntp)) _ _ z) (ne_of_none z npb)
        obtain ⟨k2, rfl⟩ := Int.eq_ofNat_of_zero_le g20
        obtain ⟨pt, ept, wpt⟩ := partk k2 (by omega)
        refine ⟨tp, _, _, _, rfl, rfl, SqL.of (b2 _ _ upd_same np), atI_nat ept, ?_⟩
        refine ⟨_, rfl, _, rfl, _, rfl, ph, rfl, hz, _, rfl, _, _, rfl, rfl, wd_line (wph.cut none (some g1)) wpt (by decide), ?_⟩
        refine ⟨_, rfl, _, rfl, _, rfl, pb, 2, _, rfl, B2, by omega, by decide, sz1000, fun g3 J3 g30 g31 B3 b3 => ?_⟩
        have x3 := frt_but B2 x2 b3
        have z3 : Same H0 J3 := fun c o z => b3 _ _ (z2 _ _ z) (ne_of_none z npb)
        have wn1 := (wph.cut none (some g1)).add wpt
        have wc2 := wph.cut (some (g1 + g3)) none
        refine ⟨_, _, rfl, rfl, _, rfl, ph, rfl, hz, _, _, rfl, rfl, wd_line wn1 wc2 (by decide), ?_⟩
        have wn := wn1.add wc2
        generalize (cutS ph none (some g1) ++ pt) ++ cutS ph (some (g1 + g3)) none = nr at *
        have hx3 := x3.at_ (K := K)
        have wu2 := Wd.int (n := u * 2) (by omega) (by omega) 11 (by omega) (by decide)
        have wd2 := Wd.int (n := d * 2) (by omega) (by omega) 11 (by omega) (by decide)
        have wf1 := wu2.add Wd.slash
        refine ⟨_, rfl, _, _, _, _, rfl, rfl, hx3, rfl, _, _, rfl, rfl, FoM.Sz.mulok (n := 40) (m := 20) (sz_of (10 ^ 10) (by omega) (by omega) (by decide)) (sz_of 1000000 (by decide) (by decide) (by decide)), _, rfl, FoT.log_ok (by omega) (by omega), _, _, rfl, rfl, wd_line wu2 Wd.slash (by decide),
          _, rfl, _, _, _, _, rfl, rfl, hx3, rfl, _, _, rfl, rfl, FoM.Sz.mulok (n := 40) (m := 20) (sz_of (10 ^ 10) (by omega) (by omega) (by decide)) (sz_of 1000000 (by decide) (by decide) (by decide)), _, rfl, FoT.log_ok (by omega) (by omega), _, _, rfl, rfl, wd_line wf1 wd2 (by decide), ?_⟩
        have wf := wf1.add wd2
        generalize (Str.ofString (toString (u * 2)) ++ "/") ++ Str.ofString (toString (d * 2)) = fc at *
        have wa1 := wph.add Wd.slash
        have wa := wa1.add wpt
        have wb := wpt.add wph
        refine ⟨_, rfl, _, rfl, _, rfl, _, _, rfl, rfl, wd_line wph Wd.slash (by decide), _, rfl, _, _, rfl, rfl, wd_line wa1 wpt (by decide), _, rfl, _, rfl, _, _, rfl, rfl, wd_line wpt wph (by decide), (by show 4 ≤ sizeLine; rw [sizeLine_eq]; decide), fun tw ntw => ?_⟩
        refine ⟨tw, rfl, ⟨_, SqL.of upd_same⟩, ?_⟩
        have words : ∀ (l : Nat) (x : V), [V.str nr, V.str fc, V.str (ph ++ "/" ++ pt), V.str (pt ++ ph)][l]? = some x → ∃ y, x = .str y ∧ Wd 57 y := fun l x e => by
          match l, e with
          | 0, e => exact ⟨nr, (Option.some.inj e).symm, wn.mono (by decide)⟩
          | 1, e => exact ⟨fc, (Option.some.inj e).symm, wf.mono (by decide)⟩
          | 2, e => exact ⟨_, (Option.some.inj e).symm, wa.mono (by decide)⟩
          | 3, e => exact ⟨_, (Option.some.inj e).symm, wb.mono (by decide)⟩
          | l + 4, e => cases e
        refine for_list (K := K) (a := tw) (xs := [V.str nr, V.str fc, V.str (ph ++ "/" ++ pt), V.str (pt ++ ph)]) (fun l σ H' => Same (upd J3 tw (.lst [V.str nr, V.str fc, V.str (ph ++ "/" ++ pt), V.str (pt ++ ph)])) H' ∧ ∃ z, σ = [some (.ref a), m1, some (.ref pb), m3, some (.ref px), some (.str ph), some (.int (0 + (j : Int))), some (.int g1), some (.str pt), some (.str nr), some (.str fc), z])
          ⟨Same.refl _, _, rfl⟩ (fun l σ H' _ p => SqL.of (p.1 _ _ upd_same)) (fun l x σ H' ex p => ?_) (fun σ H' p => ?_)
        · obtain ⟨sp, z, rfl⟩ := p
          obtain ⟨y, rfl, wy⟩ := words l x ex
          have ly : (TL.tl y).length < 58 := by have := wy.1; omega
          by_cases hT : ∃ u d, FoT.IsTxt (TL.tl y) u d
          · obtain ⟨uy, dy, iy⟩ := hT
            refine ⟨_, rfl, y, rfl, ly, .inl ⟨uy, dy, iy, fun p1 H1 n1 s1 f1 => ?_⟩⟩
            refine ⟨_, rfl, y, rfl, ly, wy.2, .inl ⟨uy, dy, iy, fun p2 H2 n2 s2 f2 => ?_⟩⟩
            refine ⟨_, _, dp2 (f1.same s2), dp2 f2, rfl, rfl, _, rfl, ?_⟩
            rw [eqv2, decide_eq_true rfl, decide_eq_true rfl]
            exact iteF ⟨sp.trans (s1.trans s2), _, rfl⟩
          · have no : ∀ u d, ¬ FoT.IsTxt (TL.tl y) u d := fun u d i => hT ⟨u, d, i⟩
            refine ⟨_, rfl, y, rfl, ly, .inr ⟨no, fun H1 s1 => ?_⟩⟩
            refine ⟨_, rfl, y, rfl, ly, wy.2, .inr ⟨no, fun H2 s2 => ?_⟩⟩
            exact ⟨_, _, .non, .non, rfl, rfl, _, rfl, iteF ⟨sp.trans (s1.trans s2), _, rfl⟩⟩
        · obtain ⟨sp, z, rfl⟩ := p
          have sE := (Same.upd ntw (o := .lst [V.str nr, V.str fc, V.str (ph ++ "/" ++ pt), V.str (pt ++ ph)])).trans sp
          have cnt : 4 + 3 * j + 1 + 1 + 1 = 4 + 3 * (j + 1) := by omega
          exact ⟨by rw [← cnt]; exact B3.same sE, x3.same sE, z3.trans sE, _, _, _, _, _, _, _, _, rfl⟩
end

end Fo

set_option maxHeartbeats 4100000
open PySem PySem.W PySem.Calls PyProof.Rows
set_option maxHeartbeats 0 in
theorem PySem.Challenge.cw_filterorders_k03_texts_of_ratios_holds : PySem.Challenge.rw_filterorders_k03_texts_of_ratios.Holds := by
  w_on; o_law
  refine FoI.head_imp (r := OpenLaw.row PySem.Challenge.rw_filterorders_k03_texts_of_ratios) (q := view (OpenLaw.row PySem.Challenge.rw_filterorders_k03_texts_of_ratios).prog [29]) (H := Fo.hk) (ob := Fo.ob) (M := 6000) (lse := Fo.loose) (d := HandSHeadRun.topDef (OpenLaw.row PySem.Challenge.rw_filterorders_k03_texts_of_ratios).prog 29) (kwq := []) Fo.ob_eq
    Fo.run (by kernel_rfl) (by kernel_rfl) (by kernel_rfl) (by rfl) (by first | assumption | decide +kernel) (by decide +kernel) ⟨rfl, rfl, rfl, rfl, rfl, by decide +kernel⟩ ?hw ?hc
  case hw => w_witness2
  case hc =>
    refine L2.walk_ofE (l := PySem.Challenge.rw_filterorders_k03_texts_of_ratios) (n := 63) (k := 7) (x := "_law_script") (CX := L2.CX0) rfl (by decide) (by kernel_rfl) ⟨rfl, by decide, by decide⟩ ?F (fun _ _ _ _ z => z)
    intro w mg fa h Y G hmg0
    obtain ⟨K, KX, c⟩ := Y
    have hmg : mg ("law" : PySem.Str) = some (.ref fa) := by
      have e : (HandSHeadRun.topDef (OpenLaw.row PySem.Challenge.rw_filterorders_k03_texts_of_ratios).prog 29).name = ("law" : PySem.Str) := by kernel_rfl
      rw [← e]
      exact hmg0
    obtain ⟨T⟩ := Fo.facts KX G c
    have efa := hmg.symm.trans T.g_law
    cases efa
    exact ⟨K, T.fd_law, Fo.spLaw K, KX, fun s v => FoZ.bind1 T.F_law s v, fun H a ns hl _ hS => ⟨a, ns, rfl, hS, hl, fun _ => rfl⟩, fun base _ _ => Fo.ok_law T⟩

