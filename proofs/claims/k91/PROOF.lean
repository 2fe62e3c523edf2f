import PyProof.Rows.All
import Wide.All
import OpenK.AllK
import Wide.FinOn
import HandS.ForMost
import HandS.IsInst
import HandS.Zip
import HandS.Style
import HandS.Walk
import HandS.Flow
import HandS.Conv
import HandS.RaiseMore
import HandS.NoneIn
import HandS.WordsList
import HandS.Deep
import HandS.Exc
import HandS.ExcOwn
import HandS.WordsExc
import HandS.ExcInit
import HandS.ExcIs
import KE.KExcIs
import KE.KExcInit
import KE.KTryMore
import HandS.SortRule
import HandS.SortInts
import HandS.Strs
import HandS.Wide
import HandS.DictComp
import HandS.SetFor
import HandS.TupSets
import HandS.SortOrd
import KE.SortData
import KE.DataCmp
import KE.KDictSum
import HandS.TupLen
import HandS.DictTup
import HandS.Small
import HandS.TryOnly
import KE.KMinBuiltin
import HandS.SortKw
import KE.KDictZip
import KE.GoesEnum
import KE.KDictDisplayH
import PySem.Challenge.RW_partnercall_k91_errors_made
set_option Elab.async false
set_option linter.all false
set_option maxRecDepth 100000
set_option maxHeartbeats 4000000
namespace RZ
end RZ
namespace Pc
open PySem PySem.Spec PyProof.Rows L2 RZ
/-! ### heaps -/
/-- all that was tracked, but for b, is as it was -/
def Keep (b : Addr) (H H' : Hp) : Prop := ∀ a o, a ≠ b → H a = some o → H' a = some o
theorem Keep.refl (b : Addr) (H : Hp) : Keep b H H := fun _ _ _ h => h
theorem Keep.trans {b : Addr} {H H1 H2 : Hp} (p : Keep b H H1) (q : Keep b H1 H2) : Keep b H H2 := fun a o n h => q a o n (p a o n h)
theorem Keep.of_same {b : Addr} {H H' : Hp} (s : Same H H') : Keep b H H' := fun a o _ h => s a o h
theorem same_new {H : Hp} {p : Addr} {o : HO} (h : H p = none) : Same H (upd H p o) := fun b x e => by
  rw [upd_ne (ne_of_none e h)]; exact e
theorem keep_upd {H : Hp} {b : Addr} {o : HO} : Keep b H (upd H b o) := fun a x n e => by
  rw [upd_ne n]; exact e
/-- a list, a tuple under Keep -/
theorem Keep.tup {b : Addr} {H H' : Hp} (k : Keep b H H') {a : Addr} {xs ys : List V} (hb : H b = some (.lst ys)) (h : H a = some (.tup xs)) : H' a = some (.tup xs) :=
  k a _ (fun e => by rw [e, hb] at h; cases h) h
/-! ### small numbers -/
theorem one0 (c : Prop) [Decidable c] : (0 : Int) ≤ (if c then 1 else 0) ∧ (if c then (1 : Int) else 0) ≤ 1 := by
  split <;> decide
theorem in64 {i : Int} (h : 0 ≤ i ∧ i ≤ 1) : -(2 ^ 64) < i ∧ i < 2 ^ 64 := ⟨by omega, by omega⟩
/-! ### the source of draws -/
/-- at b a source that serves n more draws -/
def Box (n : Nat) (H : Hp) (b : Addr) : Prop := ∃ x y z : Int, H b = some (.lst [.int x, .int y, .int z]) ∧ 0 ≤ x ∧ 0 ≤ y ∧ y < 2 ^ 62 ∧ 0 ≤ z ∧ z + n ≤ 1000000000
theorem Box.lst {n : Nat} {H : Hp} {b : Addr} (h : Box n H b) : ∃ ys, H b = some (.lst ys) := let ⟨_, _, _, e, _⟩ := h; ⟨_, e⟩
theorem Box.mono {n m : Nat} {H : Hp} {b : Addr} (h : Box n H b) (l : m ≤ n) : Box m H b := by
  obtain ⟨x, y, z, e, h1, h2, h3, h4, h5⟩ := h
  exact ⟨x, y, z, e, h1, h2, h3, h4, by omega⟩
theorem Box.same {n : Nat} {H H' : Hp} {b : Addr} (h : Box n H b) (s : Same H H') : Box n H' b := by
  obtain ⟨x, y, z, e, r⟩ := h
  exact ⟨x, y, z, s _ _ e, r⟩
theorem Box.keep {n : Nat} {H H' : Hp} {b c : Addr} (h : Box n H b) (k : Keep c H H') (d : b ≠ c) : Box n H' b := by
  obtain ⟨x, y, z, e, r⟩ := h
  exact ⟨x, y, z, k _ _ d e, r⟩
theorem Box.ne_new {n : Nat} {H : Hp} {b p : Addr} (h : Box n H b) (np : H p = none) : b ≠ p := by
  obtain ⟨x, y, z, e, r⟩ := h
  exact ne_of_none e np
theorem Box.ne_tup {n : Nat} {H : Hp} {b p : Addr} {xs : List V} (h : Box n H b) (e2 : H p = some (.tup xs)) : p ≠ b := by
  obtain ⟨x, y, z, e, r⟩ := h
  intro q; rw [q, e] at e2; cases e2
end Pc
namespace Pc
open PySem PySem.Spec PyProof.Rows L2 RZ
/-! ### errors of the program: made -/
section
open PySem.W Builtin Builtin.ObjectAttr
variable {prog : Program} {w : World} {A : Around} {R : Result → Shared → Prop} {hp : Heap} {g : Array GenState} {d : Drawn} {t : Nat} {os : OsState} {B : String} {bmB : List Value}
/-- the first field of an error that has no dict yet -/
theorem osa_first {K : Frag} {f : Str} {tk : Tok} {v : Value} {x C : Addr} {fv : Array Value} {cd : ClassData} (SF : StoreFacts B bmB "object.__setattr__" "object") (X : K.In hp)
    (hx : hp.get? x = some { cls := .ref C, data := .fields fv }) (hcd : clsIn K C = some cd) (ho : excOver K C bmB = true) (hh : cd.hasDict = true) (hf : takerIn K C f = some none)
    (hq : ∀ h' tk' dx, (∀ b o, b ≠ x → hp.get? b = some o → h'.get? b = some o) → hp.objs.size ≤ dx → dx ≠ x →
      h'.get? x = some { cls := .ref C, dict := some dx, data := .fields fv } → h'.Ns1 dx (fun y => if y = f then some v else none) → R (.ok (.ret .none)) ⟨h', g, d, tk', os⟩) :
    codeAny (model prog w) A (.call (.builtin "object.__setattr__") ⟨[.ref x, .str f tk, v], []⟩) R ⟨hp, g, d, t, os⟩ := by
  have hne : x ≠ hp.objs.size := fun e => absurd (Heap.lt_size hx) (by rw [← e]; exact Nat.lt_irrefl x)
  have LC : Looks (model prog w) hp (classData C) cd := looks_clsIn X hcd
  refine osa_openX (s := ⟨hp, g, d, t, os⟩) (od := none) SF X ⟨hx, rfl, rfl, trivial⟩ ho hf fun b => ?_
  obtain ⟨c1, c2, c3, c4, c5, c6, c7, c8, c9, c10, c11⟩ := cd
  dsimp only at hh; subst hh
  dsimp only
  unfold storeInOwnDict ownDictForStores
  repeat (first | with_reducible refine HandSPX.store_in_new ?_ ?_ | with_reducible refine wpAny_loadPart_at hx ?_ | with_reducible refine LC.at ?_ | wp_step)
  · exact ⟨_, #[], _, (Heap.get?_update_ne _ _ _ _ hne.symm).trans (Heap.get?_push_at rfl rfl), rfl, fun e he => absurd he (by simp), fun _ => rfl⟩
  · intro h' tk' n1 n2
    refine hq h' tk' hp.objs.size (fun b o q r => ?_) (Nat.le_refl _) hne.symm ?_ n1
    · exact (n2.2 b (Nat.ne_of_lt (Heap.lt_size r))).trans ((Heap.get?_update_ne _ _ _ _ q).trans (Heap.get?_push_of_some _ r))
    · exact (n2.2 x hne).trans (Heap.get?_update_self _ (Heap.get?_push_of_some _ hx) rfl)
end
/-- what is known of a built-in error class -/
structure Bs (B newId initId : String) (bmB : List Value) : Prop where
  fb : ExcBaseFacts B newId initId bmB
  sf : StoreFacts B bmB "object.__setattr__" "object"
theorem bsV : Bs "ValueError" "ValueError.__new__" "ValueError.__init__" [.type "ValueError", .type "Exception", .type "BaseException", .type "object"] := ⟨F.excBase_ValueError, F.store_ValueError⟩
theorem bsL : Bs "LookupError" "LookupError.__new__" "LookupError.__init__" [.type "LookupError", .type "Exception", .type "BaseException", .type "object"] := ⟨F.excBase_LookupError, F.store_LookupError⟩
theorem bsR : Bs "RuntimeError" "RuntimeError.__new__" "RuntimeError.__init__" [.type "RuntimeError", .type "Exception", .type "BaseException", .type "object"] := ⟨F.excBase_RuntimeError, F.store_RuntimeError⟩
theorem bsO : Bs "OverflowError" "OverflowError.__new__" "OverflowError.__init__" [.type "OverflowError", .type "ArithmeticError", .type "Exception", .type "BaseException", .type "object"] := ⟨F.excBase_OverflowError, F.store_OverflowError⟩
/-- an error class of the program, straight over a built-in one -/
structure Own (K : PySem.W.Frag) (newId : String) (bmB : List Value) (C : Addr) : Prop where
  cls : ∃ nm q N bs sn sub ab col dd k0 k1 k2 k3 k5, K.lookup C = some (excClassObj nm q C N bs bmB true sn sub ab col dd k0 k1 k2 k3 k5 newId)
  over : PySem.W.excOver K C bmB = true
  sa : PySem.W.findIn K (.ref C) "__setattr__" = some (some (.builtin "object.__setattr__"))
  ga : PySem.W.findIn K (.ref C) "__getattribute__" = some (some (.builtin "BaseException.__getattribute__"))
  gg : PySem.W.findIn K (.ref C) "__getattr__" = some none
  exC : PySem.W.subIn K (.ref C) (.type "BaseException") = some true
  tyC : PySem.W.typeIn K (.ref C) = some (.type "type")
  kC : PySem.W.keepIn K (.ref C) = true
  hdC : PySem.W.hasDictIn K C = true
  clC : PySem.W.findIn K (.ref C) "__class__" = some (some (.builtin "object.__class__"))
  mrO : PySem.W.mroIn K C (.type "object") = some true
theorem Own.data {K : PySem.W.Frag} {newId : String} {bmB : List Value} {C : Addr} (T : Own K newId bmB C) : ∃ cd, PySem.W.clsIn K C = some cd ∧ cd.hasDict = true := by
  obtain ⟨nm, q, N, bs, sn, sub, ab, col, dd, k0, k1, k2, k3, k5, e⟩ := T.cls
  refine ⟨{ name := nm, bases := bs, mro := .ref C :: bmB, ns := N, qualname := q, hasDict := true, slotNames := sn, subclasses := sub, abstract := ab, collection := col, hasDel := false }, ?_, rfl⟩
  unfold PySem.W.clsIn
  rw [e] <;> rfl
theorem taker_of {K : PySem.W.Frag} {C : Addr} {f : Str} (h : PySem.W.findIn K (.ref C) f = some none) : PySem.W.takerIn K C f = some none := by
  unfold PySem.W.takerIn
  rw [h]; rfl
section
variable {X : Cx} {pins : List (Addr × Obj)} {σ : L2.St} {H H1 H2 : Hp} {s : Shared} {a C dx : Addr} {f : Str} {newId initId B : String} {bmB : List Value}
/-- an object that stands in the heap, untracked and not of the entry, is tracked from now on -/
theorem adopt {o : HO} (I : Inv X pins σ H s) (hn : H a = none) (n0 : X.s_0.heap.get? a = none) (nL : a ≠ X.env.locals) (nC : ∀ x c, X.env.cells.lookup x = some c → c ≠ a) (nP : ∀ p ∈ X.pn ++ pins, p.1 ≠ a)
    (new : ObjOk X.prog X.w (upd H a o) s.heap a o) : Inv X pins σ (upd H a o) s := by
  have up : ∀ {b : Addr} {u : HO}, H b = some u → upd H a o b = some u := fun {b u} e => by rw [upd_ne (ne_of_none e hn)]; exact e
  refine ⟨I.ok, I.os, I.bare, ⟨I.base.keep, I.base.slot, fun b q e n x => ?_, I.base.there, fun b xs e => up (I.base.tups b xs e), fun b q u e => up (I.base.frzs b q u e), fun b ps e => ?_⟩, I.loc, I.cell, ?_, fun x c e => ?_, fun p hp => ?_, fun b u e => ?_, I.len⟩
  · rw [upd_ne (fun z => by rw [z, n0] at e; cases e)]
    exact I.base.free b q e n x
  · obtain ⟨m, z⟩ := I.base.tbls b ps e
    exact ⟨m, up z⟩
  · rw [upd_ne (Ne.symm nL)]; exact I.free
  · rw [upd_ne (nC x c e)]; exact I.freeC x c e
  · obtain ⟨e, n, r⟩ := I.pin p hp
    exact ⟨e, by rw [upd_ne (nP p hp)]; exact n, r⟩
  · by_cases hb : b = a
    · subst hb
      rw [upd_same] at e; cases e
      exact new
    · rw [upd_ne hb] at e
      exact (I.hok b u e).stay (fun _ _ _ z => z) (fun c z => up z) (fun c xs z => up z)
theorem low_ne {n : Nat} {b a : Addr} (h : b < n) (h' : n ≤ a) : b ≠ a := Nat.ne_of_lt (Nat.lt_of_lt_of_le h h')
theorem get_lt_size {h : Heap} {b : Addr} {o : Obj} (e : h.get? b = some o) : b < h.objs.size := Heap.lt_size e
/-- self.f = y -/
theorem ost_one {y : V} {u : Value} {Q : Unit → Shared → Prop} {E : Value → Shared → Prop} {A : Around} (T : Own X.K newId bmB C) (SF : StoreFacts B bmB "object.__setattr__" "object") (I : Inv X pins σ H s) (e : H a = some (exo a C none)) (hno : PySem.W.findIn X.K (.ref C) f = some none) (ry : RelV y u)
    (h : ∀ dx s', H dx = none → dx ≠ a → Inv X pins σ (upd (upd H a (exo a C (some dx))) dx (exd dx [(f, y)])) s' → Q () s') : wpAny (model X.prog X.w) A (setAttr (.ref a) f u) Q E s := by
  obtain ⟨cd, hcd, hh⟩ := T.data
  obtain ⟨t1, ho⟩ := exo_at I.hok e
  obtain ⟨hp, g, d, t, os⟩ := s
  refine PySem.W.set_plain I.kIn (ox := { cls := .ref C, dict := none, data := .fields #[.ref t1, .none, .none, .none, .bool false, .none] }) (od := none) ⟨ho, rfl, rfl, trivial⟩ T.sa ?_
  refine osa_first SF I.kIn ho hcd T.over hh (taker_of hno) fun h' tk' dx k dn dne hx hns => ?_
  have hnd : H dx = none := I.hok.fresh dn
  have J := I.write (t' := tk') (x := a) (e := a) (o := exo a C (some dx)) (by rw [e]; exact True.intro) (.inl rfl) k ⟨_, hx⟩ (exo_ok hx)
  refine h dx _ hnd dne (adopt J (by rw [upd_ne dne]; exact hnd) ?_ ?_ ?_ ?_ (exd_ok hns (relO_put (fs := []) ry fun _ => True.intro)))
  · cases z : X.s_0.heap.get? dx with
    | none => rfl
    | some o => exact absurd rfl (low_ne (Nat.lt_of_lt_of_le (Heap.lt_size z) I.sz) dn)
  · exact Ne.symm (low_ne I.lt dn)
  · intro x c ec
    obtain ⟨v, ob, eo, _⟩ := I.cell x c ec
    exact low_ne (Heap.lt_size eo) dn
  · intro p hp'
    exact low_ne (Heap.lt_size (I.pin p hp').1) dn
/-- B.__init__(self, ..) -/
theorem oinit_any {us : List Value} {Q : Value → Shared → Prop} {E : Value → Shared → Prop} {A : Around} (T : Own X.K newId bmB C) (F : ExcBaseFacts B newId initId bmB) (I : Inv X pins σ H s) (e : H a = some (exo a C none)) (hl : us.length ≤ sizeLine) (h : ∀ s', Inv X pins σ H s' → Q .none s') :
    wpAny (model X.prog X.w) A (call (.builtin initId) (.ref a :: us)) Q E s := by
  obtain ⟨nm, q, N, bs, sn, sub, ab, col, dd, k0, k1, k2, k3, k5, hC⟩ := T.cls
  obtain ⟨t1, ho⟩ := exo_at I.hok e
  obtain ⟨hp, g, d, t, os⟩ := s
  refine wpAny_call (HandSPX.init_base F (fun _ => rfl) (I.kIn _ _ hC) ho hl fun h' t2 k hx => ?_)
  have J := I.write (t' := t) (x := a) (e := a) (o := exo a C none) (by rw [e]; exact True.intro) (.inl rfl) k ⟨_, hx⟩ (exo_ok hx)
  have eu : upd H a (exo a C none) = H := by
    funext b
    unfold upd
    split
    · rename_i z; rw [z, e]
    · rfl
  rw [eu] at J
  exact h _ J
def tBi (K : PySem.W.Frag) (newId : String) (bmB : List Value) (ta : TA) : TE := fun σ H Q => ta σ H fun vs H1 => ∃ (a C : Addr) (ws : List V), vs = .ref a :: ws ∧ ws.length ≤ 1000 ∧ Own K newId bmB C ∧ H1 a = some (exo a C none) ∧ Q .non H1
def tOs (K : PySem.W.Frag) (newId : String) (bmB : List Value) (f : Str) (to te : TE) : TS := fun D σ H => te σ H fun y H1 => to σ H1 fun x H2 => ∃ a C : Addr, x = .ref a ∧ Own K newId bmB C ∧ PySem.W.findIn K (.ref C) f = some none ∧ H2 a = some (exo a C none) ∧
  ∀ dx, H2 dx = none → dx ≠ a → D.nx σ (upd (upd H2 a (exo a C (some dx))) dx (exd dx [(f, y)]))
theorem pe_binit {n : Str} {o e : Expr} {es : List Expr} {ta : TA} {p1 p2 pos : Pos} {pl : Sem Bool} (F : ExcBaseFacts B newId initId bmB) (hg : Gl X n) (hm : X.mg n = none) (hv : bootBuiltins n = some (.type B)) (hn : n ≠ "__name__") (hdb : (n == ("__debug__" : Str)) = false)
    (hty : typeOf (.type B) = pure (.type "type")) (hst : Manifest.isStub B = false) (hha : PySem.W.handedIn (.builtin initId) = true) (vV : PySem.W.findCls X.K (.type B) (.type "type") "__init__" = some (.val (.builtin initId))) (ha : PA X (e :: es) ta)
    (hc : eval (.Call (.Attribute (.Name n p1) "__init__" p2) (e :: es) [] pos) X.env = (do
      let ov ← eval (.Name n p1) X.env
      standAt p2.atName
      let (f, first) ← holding [ov] (getMethod ov "__init__" pl)
      callWith pos f first (backTo pos (starEach (e :: es) X.env)) (backToKw pos (keywordEach [] X.env))) := by rfl)
    (he : starEach (e :: es) X.env = (false, eval e X.env) :: starEach es X.env := by rfl) (hpl : (backTo pos (starEach es X.env)).any (·.1) = false := by rfl) :
    PE X (.Call (.Attribute (.Name n p1) "__init__" p2) (e :: es) [] pos) (tBi X.K newId bmB ta) := by
  refine ⟨fun pins s σ H Q I h => PySem.W.methodCall_KW (ld_blt I hg hm hv ?_ hn hdb) hc⟩
  obtain ⟨m, fr⟩ := I.fr
  refine PySem.W.method_type fr I.ok.mod.kin hty hst vV hha ?_
  show wpAny _ _ (callWith pos (Value.builtin initId) [] (backTo pos (starEach (e :: es) X.env)) []) _ _ _
  refine PyProof.Rows.callWith_method1 (thn (ha.run pos pins _ σ H _ (I.tok _) h) fun us s1 ⟨vs, H1, I1, r1, a, C, ws, ev, hl, T, ea, q⟩ => ?_) he hpl
  subst ev
  cases r1 with
  | @cons _ u0 _ ur ra rr =>
    obtain rfl : u0 = Value.ref a := ra
    exact oinit_any T F I1 ea (by rw [← Paired.length rr, sizeLine_eq]; omega) fun s' J => ⟨.non, H1, J, rfl, q⟩
theorem ps_os {o e : Expr} {to te : TE} {p' pos : Pos} (SF : StoreFacts B bmB "object.__setattr__" "object") (ho : PE X o to) (he : PE X e te) (hs : swapsWith e (some (.Attribute o f p')) pos.line X.env = pure false := by rfl) : PS X (.Assign [.Attribute o f p'] e pos) (tOs X.K newId bmB f to te) := by
  refine ⟨fun pins s σ H D I h => plainObj_wpAny_Assign_Attribute (thn (he.run pins s σ H _ I h) fun v s1 ⟨y, H1, I1, r1, q1⟩ => thn (ho.run pins s1 σ H1 _ I1 q1) fun u s2 ⟨x, H2, I2, r2, a, C, ex, T, hno, ea, q⟩ => ?_) hs⟩
  subst ex
  obtain rfl : u = Value.ref a := r2
  exact ost_one T SF I2 ea hno r1 fun dx s' n ne J => ⟨σ, _, J, q dx n ne⟩
/-- the new error is let go: the heap without it -/
theorem mk_gone {hp hp2 h2 : Heap} {g1 g2 : Array GenState} {d1 d2 : Drawn} {t1 t2 : Nat} {os1 os2 : OsState} {dv : Option Addr} (I1 : Inv X pins σ H1 ⟨hp, g1, d1, t1, os1⟩)
    (ha : hp.objs.size ≤ a) (k : ∀ b o, hp.get? b = some o → hp2.get? b = some o) (un : Un (frs X.stack) [] (upd H1 a (exo a C none)) H2 hp2 h2) (hok : HOk X.prog X.w H2 h2) (ho : os2 = os1) (hb : AllBare g2) (ea : H2 a = some (exo a C dv)) :
    ∃ (t0 : Addr) (G : Heap), Inv X pins σ (del H2 a) ⟨G, g2, d2, t2, os2⟩ ∧ (∀ b o, G.get? b = some o → h2.get? b = some o) ∧ G.get? a = none ∧
      h2.get? a = some ({ cls := .ref C, dict := dv, data := .fields #[.ref t0, .none, .none, .none, .bool false, .none] } : Obj) := by
  obtain ⟨t0, hoe⟩ := exo_at hok ea
  have hn : H1 a = none := I1.hok.fresh ha
  obtain ⟨G, g1', g2'⟩ := restrict h2 fun b => decide (b ≠ a)
  have gk : ∀ b, b ≠ a → G.get? b = h2.get? b := fun b q => g1' b (decide_eq_true q)
  have ga : G.get? a = none := g2' a (decide_eq_false (fun z => z rfl))
  have na : ∀ {b : Addr} {o : Obj}, hp.get? b = some o → b ≠ a := fun q => low_ne (Heap.lt_size q) ha
  have up : ∀ {b : Addr}, b ≠ a → H1 b = none → upd H1 a (exo a C none) b = none := fun q n => by rw [upd_ne q]; exact n
  have tr : ∀ {b : Addr} {u : HO}, H1 b = some u → upd H1 a (exo a C none) b = some u ∧ b ≠ a := fun q => ⟨by rw [upd_ne (ne_of_none q hn)]; exact q, ne_of_none q hn⟩
  have U : Un (frs X.stack) [] H1 (del H2 a) hp G := {
    keep := fun b o z n hf hx => by rw [gk b (na z)]; exact un.keep b o (k b o z) (up (na z) n) hf hx
    slot := fun b o z n hf hx => by rw [gk b (na z)]; exact un.slot b o (k b o z) (up (na z) n) hf hx
    free := fun b o z n hx => by rw [del_ne (na z)]; exact un.free b o (k b o z) (up (na z) n) hx
    there := fun b o z hx => by rw [gk b (na z)]; exact un.there b o (k b o z) hx
    tups := fun b xs z => by rw [del_ne (tr z).2]; exact un.tups b xs (tr z).1
    frzs := fun b o v z => by rw [del_ne (tr z).2]; exact un.frzs b o v (tr z).1
    tbls := fun b ps z => by rw [del_ne (tr z).2]; exact un.tbls b ps (tr z).1 }
  have hok3 : HOk X.prog X.w (del H2 a) G := fun b o z => by
    have hba : b ≠ a := fun e => by rw [e, del_same] at z; cases z
    rw [del_ne hba] at z
    have noa : ∀ {c : Addr}, H2 c = some (.own b) → c ≠ a := fun hc => at_ne ea hc exo_own
    refine (hok b o z).stay (fun c v hc y => ?_) (fun c hc => by rw [del_ne (noa hc)]; exact hc) (fun c xs hc => by rw [del_ne (at_ne ea hc exo_tup)]; exact hc)
    have hca : c ≠ a := hc.elim (fun q => by rw [q]; exact hba) noa
    rw [gk c hca]; exact y
  have J : Inv X pins σ (del H2 a) ⟨G, g2, d2, t2, os2⟩ := I1.call' (ch := []) ho U hok3 hb (fun b z => absurd z (by simp))
  refine ⟨t0, G, J, fun b o z => ?_, ga, hoe⟩
  by_cases hba : b = a
  · rw [hba, ga] at z; cases z
  · exact (gk b hba).symm.trans z
/-- C(e, ..), C's own __init__ keeping sp -/
def tMkE (C : Addr) (sp : Sp) (ta : TA) : L2.St → Hp → XK → Prop := fun σ H Q => ta σ H fun vs H1 => vs.length ≤ 1000 ∧ ∀ a, H1 a = none → sp (.ref a :: vs) (upd H1 a (exo a C none))
  (fun v H2 => v = .non ∧ ((H2 a = some (exo a C none) ∧ Q (.ref C) none (del H2 a)) ∨ ∃ (d : Addr) (fs : List (Str × V)), H2 a = some (exo a C (some d)) ∧ H2 d = some (exd d fs) ∧ Q (.ref C) (some d) (upd (del H2 a) d (.xd fs)))) (fun _ _ _ => False)
/-- what such a call leaves -/
theorem made_run {vs : List V} {us : List Value} {fI : Addr} {k : Nat} {fd : FuncData} {ps : List Str} {sp : Sp} {Q : XK} {CX : CXT} (T : Own X.K newId bmB C) (F : ExcBaseFacts B newId initId bmB) (iC : PySem.W.findIn X.K (.ref C) "__init__" = some (some (.ref fI))) (tI : PySem.W.typeIn X.K (.ref fI) = some (.type "function"))
    (F1 : FnOk X.prog X.w X.K X.mg X.base CX k fI fd ps sp) (hr : Room (k + 1) X.A) (hb : Binds X.K fd ps []) (hx : Passes CX X (fun _ _ _ => False)) (I1 : Inv X pins σ H1 s) (r1 : Vals vs us) (hz : vs.length ≤ 1000)
    (q1 : ∀ a, H1 a = none → sp (.ref a :: vs) (upd H1 a (exo a C none)) (fun v H2 => v = .non ∧ ((H2 a = some (exo a C none) ∧ Q (.ref C) none (del H2 a)) ∨ ∃ (d : Addr) (fs : List (Str × V)), H2 a = some (exo a C (some d)) ∧ H2 d = some (exd d fs) ∧ Q (.ref C) (some d) (upd (del H2 a) d (.xd fs)))) (fun _ _ _ => False)) :
    wpAny (model X.prog X.w) X.A (call (.ref C) us) (MkP X pins σ Q) X.xe s := by
  obtain ⟨nm, q, N, bs, sn, sub, ab, col, dd, k0, k1, k2, k3, k5, hC⟩ := T.cls
  obtain ⟨hp, g, dr, tk, os⟩ := s
  have hsz : hp.objs.size ≤ hp.objs.size + 1 := Nat.le_succ _
  have hq := q1 (hp.objs.size + 1) (I1.hok.fresh hsz)
  obtain ⟨hp2, ehp⟩ : ∃ hp2, hp2 = (hp.push (PySem.W.kdv_tup us)).push (HandSPX.excO C hp.objs.size) := ⟨_, rfl⟩
  have kk : ∀ b o, hp.get? b = some o → hp2.get? b = some o := fun b o e => by rw [ehp]; exact Heap.get?_push_of_some _ (Heap.get?_push_of_some _ e)
  have hget : hp2.get? (hp.objs.size + 1) = some (HandSPX.excO C hp.objs.size) := by rw [ehp]; heap_get
  have I2 : Inv X pins σ (upd H1 (hp.objs.size + 1) (exo (hp.objs.size + 1) C none)) ⟨hp2, g, dr, tk, os⟩ := I1.laid (t' := tk) kk hsz (exo_ok hget)
  have r2 : Vals (V.ref (hp.objs.size + 1) :: vs) (Value.ref (hp.objs.size + 1) :: us) := .cons rfl r1
  have hl : (Value.ref (hp.objs.size + 1) :: us ++ []).length = ps.length := by
    rw [List.append_nil, ← r2.length]; exact F1.len _ _ _ _ hq
  have hus : us.length ≤ sizeLine := by rw [← Paired.length r1, sizeLine_eq]; omega
  refine wpAny_call (HandSPX.call_own F (fun _ => rfl) (I1.kIn _ _ hC) (PySem.W.looks_findIn I1.kIn iC) (fun self => PySem.W.bind_fn I1.kIn self tI) hus ?_)
  rw [← ehp]
  refine codeAny_mono (F1.run _ X.stack _ _ ⟨Value.ref (hp.objs.size + 1) :: us, []⟩ (Value.ref (hp.objs.size + 1) :: us) _ _ (fun _ _ _ => False) (hr.make C us []) (I2.env0.make C us []) ?_ r2 hq) fun r s' hq' => ?_
  · have z := hb ⟨hp2, g, dr, tk, os⟩ (Value.ref (hp.objs.size + 1) :: us) I2.kIn hl
    rw [List.append_nil] at z; exact z
  cases r with
  | error er => exact hx pins σ _ _ er s' I2 hq'
  | ok fl =>
    cases fl with
    | ret u =>
      obtain ⟨v, H2, os2, bare2, un2, hok2, rv, ev, alt⟩ := hq'
      subst ev
      obtain ⟨h2, g2, d2, t2, os'⟩ := s'
      refine ⟨rv, ?_⟩
      rcases alt with ⟨ea, q2⟩ | ⟨d, fs, ea, ed, q2⟩
      · obtain ⟨t0, G, J, kG, ge, hoe⟩ := mk_gone (d2 := d2) (t2 := t2) I1 hsz kk un2 hok2 os2 bare2 ea
        exact ⟨_, _, _, ⟨G, g2, d2, t2, os'⟩, _, .ref C, none, rfl, J, kG, ge, hoe, ⟨rfl, rfl⟩, rfl, rfl, del_same, rfl, bare2, raises_own T.exC T.tyC, q2⟩
      · obtain ⟨t0, G, J, kG, ge, hoe⟩ := mk_gone (d2 := d2) (t2 := t2) I1 hsz kk un2 hok2 os2 bare2 ea
        have hda : d ≠ hp.objs.size + 1 := fun z => by
          rw [z] at ed
          obtain ⟨mA, ⟨ob, es, ep, e1, e2, _⟩, _⟩ := exd_at hok2 ed
          rw [hoe] at e1
          have z2 := Option.some.inj e1
          subst z2
          cases e2
        have ed' : del H2 (hp.objs.size + 1) d = some (exd d fs) := by rw [del_ne hda]; exact ed
        obtain ⟨mA, ns, rel⟩ := exd_at J.hok ed'
        have J2 := J.write (t' := t2) (h' := G) (x := d) (e := d) (o := .xd fs) (by rw [ed']; exact True.intro) (.inl rfl) (fun _ _ _ z => z) (by obtain ⟨ob, _, _, e1, _⟩ := ns; exact ⟨ob, e1⟩) ⟨mA, ns, rel⟩
        exact ⟨_, _, _, ⟨G, g2, d2, t2, os'⟩, _, .ref C, some d, rfl, J2, kG, ge, hoe, ⟨rfl, rfl⟩, rfl, rfl, by rw [upd_ne (Ne.symm hda)]; exact del_same, rfl, bare2, raises_own T.exC T.tyC, q2⟩
    | next => exact False.elim hq'
    | brk => exact False.elim hq'
    | cont => exact False.elim hq'
theorem pmk_e {x : Str} {fI : Addr} {k : Nat} {fd : FuncData} {ps : List Str} {sp : Sp} {CX : CXT} {e : Expr} {es : List Expr} {ta : TA} {p pos : Pos} (T : Own X.K newId bmB C) (F : ExcBaseFacts B newId initId bmB) (iC : PySem.W.findIn X.K (.ref C) "__init__" = some (some (.ref fI))) (tI : PySem.W.typeIn X.K (.ref fI) = some (.type "function"))
    (F1 : FnOk X.prog X.w X.K X.mg X.base CX k fI fd ps sp) (hr : Room (k + 1) X.A) (hb : Binds X.K fd ps []) (hx : Passes CX X (fun _ _ _ => False)) (hg : Gl X x) (hm : X.mg x = some (.ref C)) (ha : PA X (e :: es) ta)
    (hdb : (x == ("__debug__" : Str)) = false := by decide) (he : starEach (e :: es) X.env = (false, eval e X.env) :: starEach es X.env := by rfl) (hpl : (backTo pos (starEach es X.env)).any (·.1) = false := by rfl) :
    PMk X (.Call (.Name x p) (e :: es) [] pos) (tMkE C sp ta) := by
  intro pins s σ H Q I h
  refine wpAny_Call_Name_kw (ld_glob I hg hm ?_ hdb)
  exact PySem.W.callWith_K (h₀ := X.base) I.ok.mod.kin T.kC (thn (ha.run pos pins s σ H _ I h) fun us s1 ⟨vs, H1, I1, r1, hz, q1⟩ => ⟨I1.kIn, made_run T F iC tI F1 hr hb hx I1 r1 hz q1⟩) he hpl
end
end Pc
namespace Pc
open PySem PySem.Spec PyProof.Rows L2 RZ
/-! ### errors of the program: caught, kept, looked at -/
section
open PySem.W
variable {M : Model} {K : Frag} {h : Heap}
theorem Looks.bind' {α β : Type} {x : Sem α} {f : α → Sem β} {a : α} {b : β} (hx : Looks M h x a) (hf : Looks M h (f a) b) : Looks M h (x >>= f) b := fun A Q E s k q =>
  wpAny_bind (hx A _ E s k (hf A Q E s k q))
theorem loop_all {α β : Type} {f : α → β → Sem (ForInStep β)} {b : β} : ∀ cs : List α, (∀ c ∈ cs, Looks M h (f c b) (.yield b)) → Looks M h (forIn cs b f) b
  | [], _ => by rw [List.forIn_nil]; exact .now
  | c :: cs, hc => by
    rw [List.forIn_cons]
    exact Looks.bind' (hc c List.mem_cons_self) (loop_all cs fun c' h' => hc c' (List.mem_cons_of_mem _ h'))
theorem loop_any {α β : Type} {f : α → β → Sem (ForInStep β)} {b b1 : β} : ∀ (bs : List Bool) (cs : List α), bs.length = cs.length → bs.any id = true → (∀ (i : Nat) (c : α) (y : Bool), cs[i]? = some c → bs[i]? = some y → Looks M h (f c b) (if y = true then .done b1 else .yield b)) → Looks M h (forIn cs b f) b1
  | [], [], _, e, _ => absurd e (by decide)
  | y :: bs, c :: cs, hl, e, hc => by
    rw [List.forIn_cons]
    have h0 := hc 0 c y rfl rfl
    cases y with
    | true => exact Looks.bind' h0 .now
    | false => exact Looks.bind' h0 (loop_any bs cs (Nat.succ.inj hl) e fun i c' y' h1 h2 => hc (i + 1) c' y' h1 h2)
/-- an except clause with several classes, of which one is the error's -/
theorem exm_some {cls : Value} {cs : List Value} {tp e : Addr} {o : Obj} {n : Nat} (X : K.In h) (LT : Looks M h (typeOf (.ref e)) cls) (hp : h.get? tp = some o) (hc : o.cls = .type "tuple") (hd : o.data = .seq cs.toArray n) (bs : List Bool) (hl : bs.length = cs.length) (hb : bs.any id = true)
    (hx : ∀ (i : Nat) (c : Value) (y : Bool), cs[i]? = some c → bs[i]? = some y → exmOne K cls c = some y) : Looks M h (excMatches (.ref e) (.ref tp)) true := by
  have at_ : ∀ c ∈ cs, ∃ y, exmOne K cls c = some y := fun c hm => by
    obtain ⟨i, hi, rfl⟩ := List.getElem_of_mem hm
    exact ⟨bs[i]'(by omega), hx i _ _ (List.getElem?_eq_getElem hi) (List.getElem?_eq_getElem _)⟩
  have L0 : Looks M h (isInstance (.ref tp) (.type "tuple")) true := fun A Q E s k q => by
    refine wpAny_bind (wpAny_typeOf_ref (k _ _ hp) ?_)
    rw [hc]
    exact (Looks.of_pure isSubtype_tuple_tuple) A Q E s k q
  unfold excMatches
  refine Looks.bind' L0 ?_
  dsimp only
  rw [if_pos rfl]
  refine Looks.bind' (a := some cs.toArray) (fun A Q E s k q => wpAny_seqItems (k _ _ hp) hd q) ?_
  refine Looks.bind' (a := cs) .now ?_
  refine Looks.bind' (a := PUnit.unit) (loop_all cs fun c hm => ?_) ?_
  · obtain ⟨y, hy⟩ := at_ c hm
    refine Looks.bind' (exm_cls X hy).1 ?_
    exact .now
  refine Looks.bind' LT ?_
  refine Looks.bind' (loop_any (b1 := (some true, ())) bs cs hl hb fun i c y h1 h2 => Looks.bind' (exm_cls X (hx i c y h1 h2)).2 ?_) ?_
  · cases y <;> exact .now
  · exact .now
end
end Pc
namespace Pc
open PySem PySem.Spec PyProof.Rows L2 RZ
/-- an error that was caught and is kept: its class, its dict -/
def exk (a : Addr) (cls : Value) (d : Option Addr) : HO := .ext fun h => ∃ (oe : Obj) (vs : Array Value), h.get? a = some oe ∧ Zc cls d oe ∧ oe.data = .fields vs
theorem exk_ok {P : Program} {w : World} {H : Hp} {h : Heap} {a : Addr} {cls : Value} {d : Option Addr} {oe : Obj} {vs : Array Value} (e : h.get? a = some oe) (z : Zc cls d oe) (q : oe.data = .fields vs) : ObjOk P w H h a (exk a cls d) :=
  ⟨⟨oe, vs, e, z, q⟩, ⟨oe, e⟩, fun _ _ ⟨o, v, r, r'⟩ k => ⟨o, v, k o r, r'⟩⟩
theorem exk_at {P : Program} {w : World} {H : Hp} {h : Heap} {a : Addr} {cls : Value} {d : Option Addr} (hok : HOk P w H h) (e : H a = some (exk a cls d)) : ∃ (oe : Obj) (vs : Array Value), h.get? a = some oe ∧ Zc cls d oe ∧ oe.data = .fields vs := by
  have x : ObjOk P w H h a (.ext fun h => ∃ (oe : Obj) (vs : Array Value), h.get? a = some oe ∧ Zc cls d oe ∧ oe.data = .fields vs) := hok a _ e
  exact x.1
theorem fly_keeps {B h h' : Heap} {l : List PySem.Env} {e : Addr} {Z : Obj → Prop} (R : HandSPX.FlyingZ B l e Z h) (k : ∀ b o, h.get? b = some o → h'.get? b = some o) : HandSPX.FlyingZ B l e Z h' := by
  obtain ⟨f1, f2, f3, oe, ws, T, oT, ts, r1, r2, r3, r4, r5, r6, r7, r8⟩ := R
  exact ⟨fun b o q => k b o (f1 b o q), f2, f3.of_keeps fun b o q _ => ⟨o, k b o q, rfl⟩, oe, ws, T, oT, ts, k _ _ r1, r2, r3, r4, r5, r6, k _ _ r7, r8⟩
/-- names of classes, one by one -/
def NamesAll (X : Cx) (es : List Expr) (cs : List Value) : Prop := Paired (fun (e : Expr) c => ∃ (x : Str) (p : Pos), e = .Name x p ∧ Names X x c) es cs
theorem names_run {X : Cx} {pins : List (Addr × Obj)} {σ : L2.St} {H : Hp} {s : Shared} {E : Value → Shared → Prop} {pos : Pos} (I : Inv X pins σ H s) :
    ∀ {es : List Expr} {cs : List Value} {Q : List Value → Shared → Prop}, NamesAll X es cs → Q cs s → wpAny (model X.prog X.w) X.A (spliced (backTo pos (starEach es X.env))) Q E s := by
  intro es cs Q h
  revert Q
  induction h with
  | nil => intro Q q; exact wpAny_items_nil q
  | cons h1 _ ih =>
    intro Q q
    obtain ⟨x, p, rfl, hg, hdb, hm⟩ := h1
    refine wpAny_items_cons ?_
    rcases hm with hm | ⟨hm, hv, hn⟩
    · exact ld_glob I hg hm (ih q) hdb
    · exact ld_blt I hg hm hv (ih q) hn hdb
/-- of which classes the error is -/
def Hits (K : PySem.W.Frag) (cls : Value) (cs : List Value) : Prop := ∃ bs : List Bool, bs.length = cs.length ∧ bs.any id = true ∧ ∀ (i : Nat) (c : Value) (y : Bool), cs[i]? = some c → bs[i]? = some y → PySem.W.exmOne K cls c = some y
/-- what 'except (..) as n: suite' wishes of an error of the body (slot i is n's): the error is kept -/
def wKept (K : PySem.W.Frag) (cs : List Value) (i : Nat) (ts : Addr → TS) (D : Ends) : WX := fun cls d σ H => Hits K cls cs ∧ ∀ a, H a = none →
  ts a { nx := fun σ' H' => D.nx (σ'.set i none) (upd H' a (exk a cls d)), rt := fun _ _ => False } (σ.set i (some (.ref a))) H
section
variable {X : Cx} {n : Str} {i : Nat} {body suite : List Stmt} {b₀ : Stmt} {es : List Expr} {cs : List Value} {kk : Nat} {tpos pos pos' : Pos} {tb : WX → TS} {ts : Addr → TS}
theorem ps_try_kept (hex : X.ex = []) (hs : X.stack = X.env :: X.outer) (hf : X.env.frame = some X.env.locals) (hN : X.N.Nodup) (hi : X.N[i]? = some n) (hln : X.env.kindOf n = some .local) (hc : NamesAll X es cs) (hcl : cs.length ≤ 1000)
    (hb : ∀ (W : WX) (pn : List (Addr × Obj)) (xe : Value → Shared → Prop), Takes (X.tr pn xe) W → PassesOwn (model X.prog X.w) X.A X.env xe → PSs (X.tr pn xe) body (tb W))
    (hsu : ∀ (a : Addr) (oe : Obj) (pn : List (Addr × Obj)), PSs (X.suite a ((a, oe) :: pn)) (b₀ :: suite) (ts a)) :
    PS X (.Try body [.ExceptHandler (some (.Tuple es kk tpos)) (some n) (b₀ :: suite) pos'] [] [] pos) (fun D σ H => tb (wKept X.K cs i ts D) D σ H) := by
  refine ⟨fun pins s σ H D I h => ?_⟩
  have ok := I.ok
  have hfr : X.A.frames = some (X.env :: X.outer) := by rw [ok.frames, hs]
  refine wpAny_Try_except (wpAny_mono ((hb (wKept X.K cs i ts D) (X.pn ++ pins) (fun e s₁ => wpAny (model X.prog X.w) X.A (noteFrame e X.env) (fun _ s₂ => wpAny (model X.prog X.w) X.A (setFlight e none) (fun _ s₃ =>
    wpAny (model X.prog X.w) X.A (handleBy e X.env [.ExceptHandler (some (.Tuple es kk tpos)) (some n) (b₀ :: suite) pos']) (SP X pins D) X.xe s₃) X.xe s₂) X.xe s₁) (fun u s' xx => ?_) PassesOwn.looking).run [] s σ H D (I.toTry _) h) (fun f s1 hsp => ?_) (fun e s1 he => he))
  · obtain ⟨a, B, sI, pins', σ', H', cls, d, rfl, J', nb, up, sky, na, os, ag, ⟨bs, hbl, hba, hbx⟩, hyes⟩ := xx
    have J : Inv X pins σ' H' sI := J'.ofTry ok
    rw [hs] at sky
    show wpAny (model X.prog X.w) X.A (noteFrame (.ref a) X.env) _ _ _
    refine Sky.land Zc.steady hfr hf sky fun h3 fl3 up3 => ?_
    obtain ⟨oe3, vs3, he3, hz3, hd3⟩ := fl3.there
    have nfr : a ∉ frs (X.env :: X.outer) := fun hm => by
      obtain ⟨_, o', e', hnf⟩ := fl3.2.2.1.mem hm
      rw [he3] at e'; cases e'
      exact hnf _ hd3
    have nL : a ≠ X.env.locals := fun z => nfr (List.mem_filterMap.mpr ⟨X.env, List.mem_cons_self, by rw [hf, z]⟩)
    have nF : a ∉ X.fs := fun hm => by
      obtain ⟨e, he, q⟩ := List.mem_filterMap.mp hm
      exact nfr (List.mem_filterMap.mpr ⟨e, List.mem_cons_of_mem _ he, q⟩)
    have nI : sI.heap.get? a = none := by
      cases z : sI.heap.get? a with
      | none => rfl
      | some o =>
        have y := nb a o z (by rw [hs]; exact nfr)
        rw [fl3.2.1] at y; cases y
    have J3 : Inv X pins σ' H' { s' with heap := h3 } := J.landed nb fl3.1 (up.trans up3) os ag
    have S3 := J3.suite he3 hd3 na nL nF
    refine wpAny_handleBy_cons (codeAny_handlers_test (wpAny_Tuple_spliced (names_run (X := X.suite a ((a, oe3) :: (X.pn ++ pins))) (cs := cs) S3 (L2.Paired.mapP hc fun _ _ z => z) ⟨by rw [sizeLine_eq]; omega, ?_⟩))) (by intro q; cases q)
    dsimp only
    have kp : ∀ b o, h3.get? b = some o → (h3.push { cls := .type "tuple", data := .seq cs.toArray }).get? b = some o := fun _ _ z => Heap.get?_push_of_some _ z
    have LT : PySem.W.Looks (model X.prog X.w) (h3.push { cls := .type "tuple", data := .seq cs.toArray }) (typeOf (.ref a)) cls := fun A Q E s k q => wpAny_typeOf_ref (k _ _ (kp _ _ he3)) (by rw [hz3.1]; exact q)
    refine (exm_some (J3.kIn.keeps kp) LT (Heap.get?_push_size h3 rfl) rfl rfl bs hbl hba hbx).here ?_
    refine codeAny_handlers_suite_as (HandSPX.lands_againZ (fly_keeps fl3 kp) fun h4 fl4 up4 => ?_)
    have J4 : Inv X pins σ' H' { s' with heap := h4 } := J.landed nb fl4.1 (((up.trans up3).trans (Heap.UpToSlots.of_keeps kp)).trans up4) os ag
    obtain ⟨oe4, vs4, he4, hz4, hd4⟩ := fl4.there
    have S4 := J4.suite he4 hd4 na nL nF
    refine store_ok (X := X.suite a ((a, oe4) :: (X.pn ++ pins))) (v := .ref a) S4 hN hi (.inl hln) rfl (fun s5 S5 => ?_) (.inr hln)
    refine wpAny_mono ((hsu a oe4 (X.pn ++ pins)).run [] s5 _ H' _ S5 (hyes a na)) (fun f s6 hsp => ?_) (fun _ _ z => False.elim z)
    cases f with
    | next =>
      obtain ⟨σ6, H6, S6, q6⟩ := hsp
      refine gone_ok (X := X.suite a ((a, oe4) :: (X.pn ++ pins))) S6 hN hi hln fun s7 S7 => ⟨_, _, adopt (S7.unsuite ok) ?_ ?_ nL ?_ ?_ ?_, q6⟩
      · exact (S7.pin (a, oe4) (List.mem_append_left _ List.mem_cons_self)).2.1
      · cases z : X.s_0.heap.get? a with
        | none => rfl
        | some o =>
          obtain ⟨o', y⟩ := J.base.there a o z (by rw [hex]; exact fun q => nomatch q)
          rw [nI] at y; cases y
      · intro x c ec z
        obtain ⟨v, ob, eo, _⟩ := J.cell x c ec
        rw [z, nI] at eo; cases eo
      · intro p hp z
        have y := (J.pin p hp).1
        rw [z, nI] at y; cases y
      · exact exk_ok (S7.pin (a, oe4) (List.mem_append_left _ List.mem_cons_self)).1 hz4 hd4
    | brk => obtain ⟨σ6, H6, S6, q6⟩ := hsp; exact q6.elim
    | cont => obtain ⟨σ6, H6, S6, q6⟩ := hsp; exact q6.elim
    | ret u => obtain ⟨v6, σ6, H6, S6, r6, q6⟩ := hsp; exact q6.elim
  · cases f with
    | next => obtain ⟨σ', H', J', q⟩ := hsp; exact wpAny_execs_nil ⟨σ', H', J'.ofTry ok, q⟩
    | brk => obtain ⟨σ', H', J', q⟩ := hsp; exact ⟨σ', H', J'.ofTry ok, q⟩
    | cont => obtain ⟨σ', H', J', q⟩ := hsp; exact ⟨σ', H', J'.ofTry ok, q⟩
    | ret u => obtain ⟨v, σ', H', J', r, q⟩ := hsp; exact ⟨v, σ', H', J'.ofTry ok, r, q⟩
end
end Pc
namespace Pc
open PySem PySem.Spec PyProof.Rows L2 RZ
/-- what isinstance asks of the class of a kept error -/
structure KeptC (K : PySem.W.Frag) (C : Addr) : Prop where
  ga : PySem.W.findIn K (.ref C) "__getattribute__" = some (some (.builtin "BaseException.__getattribute__"))
  gg : PySem.W.findIn K (.ref C) "__getattr__" = some none
  exC : PySem.W.subIn K (.ref C) (.type "BaseException") = some true
  hdC : PySem.W.hasDictIn K C = true
  clC : PySem.W.findIn K (.ref C) "__class__" = some (some (.builtin "object.__class__"))
  mrO : PySem.W.mroIn K C (.type "object") = some true
  sp : PySem.W.specialIn K (.builtin "object.__class__") "__get__" = some (some (.builtin "getset_descriptor.__get__"))
  tk : PySem.W.takesIn K (.builtin "object.__class__") = some true
/-- a kept error with its dict -/
def Kept (H : Hp) (a C : Addr) (d : Option Addr) : Prop := H a = some (exk a (.ref C) d) ∧ (d = none ∨ ∃ dd fs, d = some dd ∧ H dd = some (.xd fs))
section
variable {X : Cx} {pins : List (Addr × Obj)} {σ : L2.St} {H : Hp} {s : Shared} {a C : Addr} {d : Option Addr}
theorem kept_inst (I : Inv X pins σ H s) (h : Kept H a C d) : ∃ (oe : Obj) (od : Option Obj), PySem.W.InstAt s.heap a oe C od := by
  obtain ⟨e, hd⟩ := h
  obtain ⟨oe, vs, ho, hz, hv⟩ := exk_at I.hok e
  have nc : PySem.W.notCls oe = true := by unfold PySem.W.notCls; rw [hv] <;> rfl
  rcases hd with rfl | ⟨dd, fs, rfl, ed⟩
  · exact ⟨oe, none, ho, hz.1, nc, by rw [hz.2]; trivial⟩
  · obtain ⟨mA, ⟨od, es, ep, q, _⟩, _⟩ := (show ObjOk X.prog X.w H s.heap dd (.xd fs) from I.hok dd _ ed)
    exact ⟨oe, some od, ho, hz.1, nc, by rw [hz.2]; exact q⟩
theorem kept_kit (T : KeptC X.K C) {oe : Obj} {od : Option Obj} : PySem.W.KitX X.K (.ref a) (.ref C) (fun h => PySem.W.InstAt h a oe C od) :=
  PySem.W.kitx_exc (by obtain ⟨cd, hc, _⟩ := PySem.W.any_some T.hdC; rw [hc]; rfl) T.ga T.gg T.exC T.clC T.sp T.tk T.mrO
/-- isinstance(e, c), e a kept error -/
def rIsk (K : PySem.W.Frag) : List V → Hp → VK → Prop := fun xs H Q => ∃ (a C : Addr) (d : Option Addr) (c : V) (u : Value) (b : Bool), xs = [.ref a, c] ∧ Kept H a C d ∧ KeptC K C ∧ ClsV c u ∧ PySem.W.kitOne K (.ref C) u = some b ∧ Q (.bl b) H
theorem call_isk : CallR X (.builtin "isinstance") (rIsk X.K) := by
  intro pins s σ H xs us Q I r h
  obtain ⟨a, C, d, c, u, b, rfl, hk, T, k, e, q⟩ := h
  obtain ⟨u1, u2, rfl, r1, r2⟩ := vals2 r
  cases (show u1 = Value.ref a from r1)
  have e2 := k.eq r2
  subst e2
  obtain ⟨oe, od, J⟩ := kept_inst I hk
  exact PySem.W.kia_one (kept_kit T) I.kIn J e (fun z => nomatch z) fun tk => ⟨.bl b, H, I.tok tk, rfl, q⟩
/-- isinstance(e, (c, ..)) -/
def rIskT (K : PySem.W.Frag) : List V → Hp → VK → Prop := fun xs H Q => ∃ (a C : Addr) (d : Option Addr) (tp : Addr) (cs : List V) (us : List Value) (b : Bool), xs = [.ref a, .ref tp] ∧ Kept H a C d ∧ KeptC K C ∧ H tp = some (.tup cs) ∧ Paired ClsV cs us ∧ PySem.W.kitAny K (.ref C) us = some b ∧ Q (.bl b) H
theorem call_iskT : CallR X (.builtin "isinstance") (rIskT X.K) := by
  intro pins s σ H xs us Q I r h
  obtain ⟨a, C, d, tp, cs, ws, b, rfl, hk, T, hT, k, e, q⟩ := h
  obtain ⟨u1, u2, rfl, r1, r2⟩ := vals2 r
  cases (show u1 = Value.ref a from r1)
  cases (show u2 = Value.ref tp from r2)
  obtain ⟨oe, od, J⟩ := kept_inst I hk
  obtain ⟨_, its, rv, o, h1, h2, n, h3⟩ := (show ObjOk X.prog X.w H s.heap tp (.tup cs) from I.hok tp _ hT)
  have e3 := ClsV.all k rv
  subst e3
  obtain ⟨oc, od', dt, sl⟩ := o
  simp only at h2 h3
  subst h2 h3
  exact PySem.W.kia_tup (kept_kit T) I.kIn J h1 e (fun z => nomatch z) fun tk => ⟨.bl b, H, I.tok tk, rfl, q⟩
/-- e.f, e a kept error -/
def tKf (K : PySem.W.Frag) (f : Str) (te : TE) : TE := fun σ H Q => te σ H fun x H1 => ∃ (a C dd : Addr) (fs : List (Str × V)) (v : V), x = .ref a ∧ H1 a = some (exk a (.ref C) (some dd)) ∧ KeptC K C ∧ PySem.W.findIn K (.ref C) f = some none ∧ H1 dd = some (.xd fs) ∧ fs.lookup f = some v ∧ Q v H1
theorem pe_kf {e : Expr} {te : TE} {f : Str} {pos : Pos} (he : PE X e te) (hb : attributeBase e f X.env (eval e X.env) = eval e X.env := by rfl) : PE X (.Attribute e f pos) (tKf X.K f te) := by
  refine ⟨fun pins s σ H Q I h => attr_of hb (thn (he.run pins s σ H _ I h) fun u s1 hh => ?_)⟩
  obtain ⟨x, H1, I1, rx, a, C, dd, fs, v, ex, ea, T, hno, ed, l, q⟩ := hh
  subst ex
  obtain rfl : u = Value.ref a := rx
  obtain ⟨oe, vs, ho, hz, hv⟩ := exk_at I1.hok ea
  obtain ⟨mA, hns, hr⟩ := (show ObjOk X.prog X.w H1 s1.heap dd (.xd fs) from I1.hok dd _ ed)
  obtain ⟨od, hod, hl⟩ := lookIn_ns hns
  obtain ⟨w', hw, rw'⟩ := RelO.some_of (v := v) (o := mA f) (by rw [← l]; exact hr f)
  have J : PySem.W.InstAt s1.heap a oe C (some od) := ⟨ho, hz.1, by unfold PySem.W.notCls; rw [hv] <;> rfl, by rw [hz.2]; exact hod⟩
  exact HandSPX.exc_get I1.kIn J T.ga T.gg T.exC (PySem.W.findObj_own T.hdC hno rfl (by rw [hl, hw])) (handed_of rw') ⟨v, H1, I1.tok _, rw', q⟩
end
end Pc
namespace Pc
open PySem PySem.Spec PyProof.Rows L2 RZ
/-! ### errors with one field: made, flying -/
/-- an error of the class at C with the field f flies, from the heap H on -/
def Flies (C : Addr) (f : Str) (v : V) (H : Hp) (E : XK) : Prop := ∀ d H', Same H H' → H d = none → H' d = some (.xd [(f, v)]) → E (.ref C) (some d) H'
theorem Flies.same {C : Addr} {f : Str} {v : V} {H H1 : Hp} {E : XK} (h : Flies C f v H E) (s : Same H H1) : Flies C f v H1 E := fun d H' s' n e => h d H' (s.trans s') (s.free n) e
def spInit1 (C : Addr) (f : Str) : Sp := fun vs H Q _ => ∃ (a : Addr) (v : V), vs = [.ref a, v] ∧ H a = some (exo a C none) ∧ ∀ dx, H dx = none → dx ≠ a → Q .non (upd (upd H a (exo a C (some dx))) dx (exd dx [(f, v)]))
theorem raised1 {C : Addr} {f : Str} {v : V} {H1 : Hp} {Q : XK} (h : Flies C f v H1 Q) : [v].length ≤ 1000 ∧ ∀ a, H1 a = none → spInit1 C f (.ref a :: [v]) (upd H1 a (exo a C none))
    (fun v' H2 => v' = .non ∧ ((H2 a = some (exo a C none) ∧ Q (.ref C) none (del H2 a)) ∨ ∃ (d : Addr) (fs : List (Str × V)), H2 a = some (exo a C (some d)) ∧ H2 d = some (exd d fs) ∧ Q (.ref C) (some d) (upd (del H2 a) d (.xd fs)))) (fun _ _ _ => False) := by
  refine ⟨(by show 1 ≤ 1000; decide), fun a na => ⟨a, v, rfl, upd_same, fun dx nd ne => ⟨rfl, .inr ⟨dx, [(f, v)], ?_, upd_same, h dx _ ?_ ?_ upd_same⟩⟩⟩⟩
  · rw [upd_ne (Ne.symm ne), upd_same]
  · intro b o hb
    have nd' : H1 dx = none := by rw [upd_ne ne] at nd; exact nd
    have hbd := ne_of_none hb nd'
    have hba := ne_of_none hb na
    rw [upd_ne hbd, del_ne hba, upd_ne hbd, upd_ne hba, upd_ne hba]
    exact hb
  · rw [upd_ne ne] at nd; exact nd
/-- the try's wish of such an error -/
theorem kept1 {K : PySem.W.Frag} {C : Addr} {f : Str} {v : V} {cs : List Value} {i : Nat} {ts : Addr → TS} {D : Ends} {σ : L2.St} {H : Hp} (hh : Hits K (.ref C) cs)
    (h : ∀ d H' a, Same H H' → H d = none → H' d = some (.xd [(f, v)]) → H' a = none → a ≠ d → ts a { nx := fun σ' H'' => D.nx (σ'.set i none) (upd H'' a (exk a (.ref C) (some d))), rt := fun _ _ => False } (σ.set i (some (.ref a))) H') :
    Flies C f v H (fun cls d H' => wKept K cs i ts D cls d σ H') := fun d H' s n e => ⟨hh, fun a na => h d H' a s n e na (fun z => by rw [z, e] at na; cases na)⟩
theorem Kept.mk1 {H' : Hp} {a d C : Addr} {fs : List (Str × V)} (e : H' d = some (.xd fs)) (n : H' a = none) : Kept (upd H' a (exk a (.ref C) (some d))) a C (some d) :=
  ⟨upd_same, .inr ⟨d, fs, rfl, by rw [upd_ne (ne_of_none e n)]; exact e⟩⟩
theorem Kept.same {H H' : Hp} {a C : Addr} {d : Option Addr} (h : Kept H a C d) (s : Same H H') : Kept H' a C d :=
  ⟨s _ _ h.1, h.2.imp id fun ⟨dd, fs, e, z⟩ => ⟨dd, fs, e, s _ _ z⟩⟩
theorem over_of {K : PySem.W.Frag} {C : Addr} {bmB : List Value} {newId : String} {nm q : Str} {N : Addr} {bs : List Value} {sn : List Str} {sub : List Value} {ab : Bool} {col : Option Bool} {dd : Option Addr} {k0 k1 k2 k3 k5 : Option Value}
    (h : K.lookup C = some (excClassObj nm q C N bs bmB true sn sub ab col dd k0 k1 k2 k3 k5 newId)) (ht : PySem.W.excTail bmB bmB = true) : PySem.W.excOver K C bmB = true := by
  have e : PySem.W.clsIn K C = some { name := nm, bases := bs, mro := .ref C :: bmB, ns := N, qualname := q, hasDict := true, slotNames := sn, subclasses := sub, abstract := ab, collection := col, hasDel := false } := by
    unfold PySem.W.clsIn
    rw [h] <;> rfl
  unfold PySem.W.excOver
  rw [e]
  show ((C == C) && PySem.W.excTail bmB bmB) = true
  rw [ht, beq_self_eq_true]; rfl
theorem kcls_of {K : PySem.W.Frag} {t : Value} {D : Addr} {b : Bool} (h2 : PySem.W.isClsIn K D = true) (h3 : PySem.W.typeIn K (.ref D) = some (.type "type")) (h4 : PySem.W.subIn K t (.ref D) = some b) : PySem.W.kitCls K t (.ref D) = some b := by
  have e2 : ((PySem.W.clsIn K D).isSome && PySem.W.typeIn K (.ref D) == some (.type "type")) = true := by
    have h2' : (PySem.W.clsIn K D).isSome = true := h2
    rw [h2', h3] <;> rfl
  show (if ((PySem.W.clsIn K D).isSome && PySem.W.typeIn K (.ref D) == some (.type "type")) = true then PySem.W.subIn K t (.ref D) else none) = some b
  rw [if_pos e2]
  exact h4
theorem exm_of' {K : PySem.W.Frag} {t : Value} {D : Addr} {b : Bool} (h1 : PySem.W.subIn K (.ref D) (.type "BaseException") = some true) (h2 : PySem.W.isClsIn K D = true) (h3 : PySem.W.typeIn K (.ref D) = some (.type "type")) (h4 : PySem.W.subIn K t (.ref D) = some b) : PySem.W.exmOne K t (.ref D) = some b := by
  have e1 : (PySem.W.subIn K (.ref D) (.type "BaseException") == some true) = true := by rw [h1] <;> rfl
  show (if (PySem.W.subIn K (.ref D) (.type "BaseException") == some true) = true then PySem.W.kitCls K t (.ref D) else none) = some b
  rw [if_pos e1]
  exact kcls_of h2 h3 h4
theorem kit_own {K : PySem.W.Frag} {C D : Addr} {b : Bool} (h0 : PySem.W.subIn K (.ref C) (.ref C) = some true) (h2 : PySem.W.isClsIn K D = true) (h3 : PySem.W.typeIn K (.ref D) = some (.type "type")) (h4 : PySem.W.subIn K (.ref C) (.ref D) = some b) : PySem.W.kitOne K (.ref C) (.ref D) = some b := by
  by_cases e : C = D
  · subst e
    rw [h0] at h4
    rw [← h4]
    show (if ((Value.ref C) == (Value.ref C)) = true then some true else _) = some true
    rw [if_pos (beq_self_eq_true _)]
  · have n : ((Value.ref C) == (Value.ref D)) = false := beq_false_of_ne (fun z => e (Value.ref.inj z))
    show (if ((Value.ref C) == (Value.ref D)) = true then some true else PySem.W.kitCls K (.ref C) (.ref D)) = some b
    rw [if_neg (by rw [n]; exact Bool.false_ne_true)]
    exact kcls_of h2 h3 h4
theorem kit_blt {K : PySem.W.Frag} {C : Addr} {T : String} {b : Bool} (hm : PySem.W.kitMeta T = true) (h4 : PySem.W.subIn K (.ref C) (.type T) = some b) : PySem.W.kitOne K (.ref C) (.type T) = some b := by
  have n : ((Value.ref C) == (Value.type T)) = false := beq_false_of_ne (fun z => nomatch z)
  show (if ((Value.ref C) == (Value.type T)) = true then some true else (if PySem.W.kitMeta T = true then PySem.W.subIn K (.ref C) (.type T) else none)) = some b
  rw [if_neg (by rw [n]; exact Bool.false_ne_true), if_pos hm]
  exact h4
theorem kit_all {K : PySem.W.Frag} {t : Value} : ∀ {us : List Value}, (∀ u ∈ us, PySem.W.kitOne K t u = some false) → PySem.W.kitAny K t us = some false
  | [], _ => rfl
  | u :: us, h => by
    show (match PySem.W.kitOne K t u with | some true => some true | some false => PySem.W.kitAny K t us | none => none) = some false
    rw [h u List.mem_cons_self]
    exact kit_all fun x hx => h x (List.mem_cons_of_mem _ hx)
end Pc
namespace Pc
open PySem PySem.Spec PyProof.Rows L2 RZ
theorem kit_nil {K : PySem.W.Frag} {t : Value} : PySem.W.kitAny K t [] = some false := rfl
theorem kit_cons {K : PySem.W.Frag} {t u : Value} {us : List Value} (h : PySem.W.kitOne K t u = some false) (r : PySem.W.kitAny K t us = some false) : PySem.W.kitAny K t (u :: us) = some false := by
  show (match PySem.W.kitOne K t u with | some true => some true | some false => PySem.W.kitAny K t us | none => none) = some false
  rw [h]
  exact r
theorem hits_of {K : PySem.W.Frag} {cls : Value} {cs : List Value} (bs : List Bool) (hb : bs.any id = true) (h : Paired (fun c b => PySem.W.exmOne K cls c = some b) cs bs) : Hits K cls cs :=
  ⟨bs, h.length.symm, hb, fun i c y hc hy => by
    obtain ⟨y', e, z⟩ := paired_get h hc
    rw [hy] at e; cases e
    exact z⟩
end Pc
namespace Pc
open PySem PySem.Spec PyProof.Rows L2 RZ
/-- two promises of one def -/
theorem FnOk.or {P : Program} {w : World} {K : PySem.W.Frag} {mg : Str → Option Value} {base : Heap} {CX : CXT} {k : Nat} {f : Addr} {fd : FuncData} {ps : List Str} {sp sp' : Sp} (F : FnOk P w K mg base CX k f fd ps sp) (G : FnOk P w K mg base CX k f fd ps sp') :
    FnOk P w K mg base CX k f fd ps (fun vs H Q E => sp vs H Q E ∨ sp' vs H Q E) where
  len vs H Q E h := h.elim (F.len vs H Q E) (G.len vs H Q E)
  run A outer s H args us vs Q E hr e0 hb r h := h.elim (F.run A outer s H args us vs Q E hr e0 hb r) (G.run A outer s H args us vs Q E hr e0 hb r)
end Pc
namespace Pc
open PySem PySem.Spec PyProof.Rows L2 RZ
def topS (i : Nat) : Stmt := PySem.Challenge.pw_partnercall_k91_errors_made.main.body.getD i (.Pass ⟨0, 0, 0, 0⟩)
abbrev s_same : Stmt := topS 15
abbrev N_same : List Str := ["_law_found", "_law_due", "_law_mine", "_law_its"]
theorem sc_same : FnScope ["_law_found", "_law_due", "_law_mine", "_law_its"] ["_law_found", "_law_due"] (defScope s_same) := ⟨rfl, rfl, rfl, by decide +kernel, rfl, by decide +kernel, by decide +kernel⟩
abbrev s_bases : Stmt := topS 16
abbrev N_bases : List Str := ["_law_made", "_law_found"]
theorem sc_bases : FnScope ["_law_made", "_law_found"] ["_law_made"] (defScope s_bases) := ⟨rfl, rfl, rfl, by decide +kernel, rfl, by decide +kernel, by decide +kernel⟩
abbrev s_kinds : Stmt := topS 17
abbrev N_kinds : List Str := ["_law_made", "_law_found"]
theorem sc_kinds : FnScope ["_law_made", "_law_found"] ["_law_made"] (defScope s_kinds) := ⟨rfl, rfl, rfl, by decide +kernel, rfl, by decide +kernel, by decide +kernel⟩
abbrev s_all_right : Stmt := topS 18
abbrev N_all_right : List Str := ["_law_made", "_law_base", "_law_mark_at", "_law_error", "_law_k"]
theorem sc_all_right : FnScope ["_law_made", "_law_base", "_law_mark_at", "_law_error", "_law_k"] ["_law_made", "_law_base"] (defScope s_all_right) := ⟨rfl, rfl, rfl, by decide +kernel, rfl, by decide +kernel, by decide +kernel⟩
abbrev s_right : Stmt := topS 19
abbrev N_right : List Str := ["_law_cell", "_law_duo", "_law_made", "_law_found", "_law_due"]
theorem sc_right : FnScope ["_law_cell", "_law_duo", "_law_made", "_law_found", "_law_due"] ["_law_cell", "_law_duo"] (defScope s_right) := ⟨rfl, rfl, rfl, by decide +kernel, rfl, by decide +kernel, by decide +kernel⟩
abbrev s_law : Stmt := topS 20
abbrev N_law : List Str := ["_law_script", "_law_cells", "_law_cell", "_law_k"]
theorem sc_law : FnScope ["_law_script", "_law_cells", "_law_cell", "_law_k"] ["_law_script"] (defScope s_law) := ⟨rfl, rfl, rfl, by decide +kernel, rfl, by decide +kernel, by decide +kernel⟩
abbrev s_i_NoPerson : Stmt := inClass (topS 1) 0
abbrev N_i_NoPerson : List Str := ["self", "person"]
theorem sc_i_NoPerson : FnScope ["self", "person"] ["self", "person"] (defScope s_i_NoPerson) := ⟨rfl, rfl, rfl, by decide +kernel, rfl, by decide +kernel, by decide +kernel⟩
abbrev s_i_NoNumber : Stmt := inClass (topS 2) 0
abbrev N_i_NoNumber : List Str := ["self", "number"]
theorem sc_i_NoNumber : FnScope ["self", "number"] ["self", "number"] (defScope s_i_NoNumber) := ⟨rfl, rfl, rfl, by decide +kernel, rfl, by decide +kernel, by decide +kernel⟩
abbrev s_i_NoDeed : Stmt := inClass (topS 3) 0
abbrev N_i_NoDeed : List Str := ["self", "many"]
theorem sc_i_NoDeed : FnScope ["self", "many"] ["self", "many"] (defScope s_i_NoDeed) := ⟨rfl, rfl, rfl, by decide +kernel, rfl, by decide +kernel, by decide +kernel⟩
abbrev s_i_OtherSize : Stmt := inClass (topS 4) 0
abbrev N_i_OtherSize : List Str := ["self", "size"]
theorem sc_i_OtherSize : FnScope ["self", "size"] ["self", "size"] (defScope s_i_OtherSize) := ⟨rfl, rfl, rfl, by decide +kernel, rfl, by decide +kernel, by decide +kernel⟩
abbrev s_i_NotResult : Stmt := inClass (topS 5) 0
abbrev N_i_NotResult : List Str := ["self", "pair"]
theorem sc_i_NotResult : FnScope ["self", "pair"] ["self", "pair"] (defScope s_i_NotResult) := ⟨rfl, rfl, rfl, by decide +kernel, rfl, by decide +kernel, by decide +kernel⟩
abbrev s_i_NotShortest : Stmt := inClass (topS 6) 0
abbrev N_i_NotShortest : List Str := ["self"]
theorem sc_i_NotShortest : FnScope ["self"] ["self"] (defScope s_i_NotShortest) := ⟨rfl, rfl, rfl, by decide +kernel, rfl, by decide +kernel, by decide +kernel⟩
abbrev s_i_NoWord : Stmt := inClass (topS 7) 0
abbrev N_i_NoWord : List Str := ["self"]
theorem sc_i_NoWord : FnScope ["self"] ["self"] (defScope s_i_NoWord) := ⟨rfl, rfl, rfl, by decide +kernel, rfl, by decide +kernel, by decide +kernel⟩
abbrev s_i_BadDeed : Stmt := inClass (topS 8) 0
abbrev N_i_BadDeed : List Str := ["self", "at"]
theorem sc_i_BadDeed : FnScope ["self", "at"] ["self", "at"] (defScope s_i_BadDeed) := ⟨rfl, rfl, rfl, by decide +kernel, rfl, by decide +kernel, by decide +kernel⟩
abbrev s_i_BadText : Stmt := inClass (topS 9) 0
abbrev N_i_BadText : List Str := ["self", "at"]
theorem sc_i_BadText : FnScope ["self", "at"] ["self", "at"] (defScope s_i_BadText) := ⟨rfl, rfl, rfl, by decide +kernel, rfl, by decide +kernel, by decide +kernel⟩
abbrev s_i_BadLine : Stmt := inClass (topS 10) 0
abbrev N_i_BadLine : List Str := ["self", "at"]
theorem sc_i_BadLine : FnScope ["self", "at"] ["self", "at"] (defScope s_i_BadLine) := ⟨rfl, rfl, rfl, by decide +kernel, rfl, by decide +kernel, by decide +kernel⟩
abbrev s_i_NotSettled : Stmt := inClass (topS 11) 0
abbrev N_i_NotSettled : List Str := ["self", "many"]
theorem sc_i_NotSettled : FnScope ["self", "many"] ["self", "many"] (defScope s_i_NotSettled) := ⟨rfl, rfl, rfl, by decide +kernel, rfl, by decide +kernel, by decide +kernel⟩
abbrev s_i_Last : Stmt := inClass (topS 12) 0
abbrev N_i_Last : List Str := ["self"]
theorem sc_i_Last : FnScope ["self"] ["self"] (defScope s_i_Last) := ⟨rfl, rfl, rfl, by decide +kernel, rfl, by decide +kernel, by decide +kernel⟩
abbrev s_i_TooMany : Stmt := inClass (topS 13) 0
abbrev N_i_TooMany : List Str := ["self", "size"]
theorem sc_i_TooMany : FnScope ["self", "size"] ["self", "size"] (defScope s_i_TooMany) := ⟨rfl, rfl, rfl, by decide +kernel, rfl, by decide +kernel, by decide +kernel⟩
set_option genInjectivity false in
set_option genSizeOf false in
structure Env (K : PySem.W.Frag) (mg : Str → Option Value) where
  n_isinstance : mg "isinstance" = none
  n_list : mg "list" = none
  n_tuple : mg "tuple" = none
  n_len : mg "len" = none
  n_all : mg "all" = none
  n_zip : mg "zip" = none
  n_bool : mg "bool" = none
  n_str : mg "str" = none
  n_int : mg "int" = none
  n_LookupError : mg "LookupError" = none
  n_ValueError : mg "ValueError" = none
  n_RuntimeError : mg "RuntimeError" = none
  n_OverflowError : mg "OverflowError" = none
  n_enumerate : mg "enumerate" = none
  n_range : mg "range" = none
  n_KeyError : mg "KeyError" = none
  n_IndexError : mg "IndexError" = none
  n_abs : mg "abs" = none
  f_same : Addr
  d_same : FuncData
  F_same : Fun K "_law_same" "_law_same" s_same f_same d_same
  g_same : mg "_law_same" = some (.ref f_same)
  f_bases : Addr
  d_bases : FuncData
  F_bases : Fun K "_law_bases" "_law_bases" s_bases f_bases d_bases
  g_bases : mg "_law_bases" = some (.ref f_bases)
  f_kinds : Addr
  d_kinds : FuncData
  F_kinds : Fun K "_law_kinds" "_law_kinds" s_kinds f_kinds d_kinds
  g_kinds : mg "_law_kinds" = some (.ref f_kinds)
  f_all_right : Addr
  d_all_right : FuncData
  F_all_right : Fun K "_law_all_right" "_law_all_right" s_all_right f_all_right d_all_right
  g_all_right : mg "_law_all_right" = some (.ref f_all_right)
  f_right : Addr
  d_right : FuncData
  F_right : Fun K "_law_right" "_law_right" s_right f_right d_right
  g_right : mg "_law_right" = some (.ref f_right)
  C_NoPerson : Addr
  gC_NoPerson : mg "NoPerson" = some (.ref C_NoPerson)
  C_NoNumber : Addr
  gC_NoNumber : mg "NoNumber" = some (.ref C_NoNumber)
  C_NoDeed : Addr
  gC_NoDeed : mg "NoDeed" = some (.ref C_NoDeed)
  C_OtherSize : Addr
  gC_OtherSize : mg "OtherSize" = some (.ref C_OtherSize)
  C_NotResult : Addr
  gC_NotResult : mg "NotResult" = some (.ref C_NotResult)
  C_NotShortest : Addr
  gC_NotShortest : mg "NotShortest" = some (.ref C_NotShortest)
  C_NoWord : Addr
  gC_NoWord : mg "NoWord" = some (.ref C_NoWord)
  C_BadDeed : Addr
  gC_BadDeed : mg "BadDeed" = some (.ref C_BadDeed)
  C_BadText : Addr
  gC_BadText : mg "BadText" = some (.ref C_BadText)
  C_BadLine : Addr
  gC_BadLine : mg "BadLine" = some (.ref C_BadLine)
  C_NotSettled : Addr
  gC_NotSettled : mg "NotSettled" = some (.ref C_NotSettled)
  C_Last : Addr
  gC_Last : mg "Last" = some (.ref C_Last)
  C_TooMany : Addr
  gC_TooMany : mg "TooMany" = some (.ref C_TooMany)
  own_NoPerson : Own K "LookupError.__new__" [.type "LookupError", .type "Exception", .type "BaseException", .type "object"] C_NoPerson
  kpt_NoPerson : KeptC K C_NoPerson
  no_NoPerson : PySem.W.findIn K (.ref C_NoPerson) "person" = some none
  f_i_NoPerson : Addr
  d_i_NoPerson : FuncData
  F_i_NoPerson : Fun K "__init__" "NoPerson.__init__" s_i_NoPerson f_i_NoPerson d_i_NoPerson
  iC_NoPerson : PySem.W.findIn K (.ref C_NoPerson) "__init__" = some (some (.ref f_i_NoPerson))
  tI_NoPerson : PySem.W.typeIn K (.ref f_i_NoPerson) = some (.type "function")
  ee_NoPerson : PySem.W.exmOne K (.ref C_NoPerson) (.ref C_NoPerson) = some true
  kk_NoPerson : PySem.W.kitOne K (.ref C_NoPerson) (.ref C_NoPerson) = some true
  ex_NoPerson_NoNumber : PySem.W.exmOne K (.ref C_NoPerson) (.ref C_NoNumber) = some false
  ki_NoPerson_NoNumber : PySem.W.kitOne K (.ref C_NoPerson) (.ref C_NoNumber) = some false
  ex_NoPerson_NoDeed : PySem.W.exmOne K (.ref C_NoPerson) (.ref C_NoDeed) = some false
  ki_NoPerson_NoDeed : PySem.W.kitOne K (.ref C_NoPerson) (.ref C_NoDeed) = some false
  ex_NoPerson_OtherSize : PySem.W.exmOne K (.ref C_NoPerson) (.ref C_OtherSize) = some false
  ki_NoPerson_OtherSize : PySem.W.kitOne K (.ref C_NoPerson) (.ref C_OtherSize) = some false
  ex_NoPerson_NotResult : PySem.W.exmOne K (.ref C_NoPerson) (.ref C_NotResult) = some false
  ki_NoPerson_NotResult : PySem.W.kitOne K (.ref C_NoPerson) (.ref C_NotResult) = some false
  ex_NoPerson_NotShortest : PySem.W.exmOne K (.ref C_NoPerson) (.ref C_NotShortest) = some false
  ki_NoPerson_NotShortest : PySem.W.kitOne K (.ref C_NoPerson) (.ref C_NotShortest) = some false
  ex_NoPerson_NoWord : PySem.W.exmOne K (.ref C_NoPerson) (.ref C_NoWord) = some false
  ki_NoPerson_NoWord : PySem.W.kitOne K (.ref C_NoPerson) (.ref C_NoWord) = some false
  ex_NoPerson_BadDeed : PySem.W.exmOne K (.ref C_NoPerson) (.ref C_BadDeed) = some false
  ki_NoPerson_BadDeed : PySem.W.kitOne K (.ref C_NoPerson) (.ref C_BadDeed) = some false
  ex_NoPerson_BadText : PySem.W.exmOne K (.ref C_NoPerson) (.ref C_BadText) = some false
  ki_NoPerson_BadText : PySem.W.kitOne K (.ref C_NoPerson) (.ref C_BadText) = some false
  ex_NoPerson_BadLine : PySem.W.exmOne K (.ref C_NoPerson) (.ref C_BadLine) = some false
  ki_NoPerson_BadLine : PySem.W.kitOne K (.ref C_NoPerson) (.ref C_BadLine) = some false
  ex_NoPerson_NotSettled : PySem.W.exmOne K (.ref C_NoPerson) (.ref C_NotSettled) = some false
  ki_NoPerson_NotSettled : PySem.W.kitOne K (.ref C_NoPerson) (.ref C_NotSettled) = some false
  ex_NoPerson_Last : PySem.W.exmOne K (.ref C_NoPerson) (.ref C_Last) = some false
  ki_NoPerson_Last : PySem.W.kitOne K (.ref C_NoPerson) (.ref C_Last) = some false
  ex_NoPerson_TooMany : PySem.W.exmOne K (.ref C_NoPerson) (.ref C_TooMany) = some false
  ki_NoPerson_TooMany : PySem.W.kitOne K (.ref C_NoPerson) (.ref C_TooMany) = some false
  kb_NoPerson_LookupError : PySem.W.kitOne K (.ref C_NoPerson) (.type "LookupError") = some true
  kb_NoPerson_ValueError : PySem.W.kitOne K (.ref C_NoPerson) (.type "ValueError") = some false
  kb_NoPerson_RuntimeError : PySem.W.kitOne K (.ref C_NoPerson) (.type "RuntimeError") = some false
  kb_NoPerson_OverflowError : PySem.W.kitOne K (.ref C_NoPerson) (.type "OverflowError") = some false
  kb_NoPerson_KeyError : PySem.W.kitOne K (.ref C_NoPerson) (.type "KeyError") = some false
  kb_NoPerson_IndexError : PySem.W.kitOne K (.ref C_NoPerson) (.type "IndexError") = some false
  own_NoNumber : Own K "LookupError.__new__" [.type "LookupError", .type "Exception", .type "BaseException", .type "object"] C_NoNumber
  kpt_NoNumber : KeptC K C_NoNumber
  no_NoNumber : PySem.W.findIn K (.ref C_NoNumber) "number" = some none
  f_i_NoNumber : Addr
  d_i_NoNumber : FuncData
  F_i_NoNumber : Fun K "__init__" "NoNumber.__init__" s_i_NoNumber f_i_NoNumber d_i_NoNumber
  iC_NoNumber : PySem.W.findIn K (.ref C_NoNumber) "__init__" = some (some (.ref f_i_NoNumber))
  tI_NoNumber : PySem.W.typeIn K (.ref f_i_NoNumber) = some (.type "function")
  ee_NoNumber : PySem.W.exmOne K (.ref C_NoNumber) (.ref C_NoNumber) = some true
  kk_NoNumber : PySem.W.kitOne K (.ref C_NoNumber) (.ref C_NoNumber) = some true
  ex_NoNumber_NoPerson : PySem.W.exmOne K (.ref C_NoNumber) (.ref C_NoPerson) = some false
  ki_NoNumber_NoPerson : PySem.W.kitOne K (.ref C_NoNumber) (.ref C_NoPerson) = some false
  ex_NoNumber_NoDeed : PySem.W.exmOne K (.ref C_NoNumber) (.ref C_NoDeed) = some false
  ki_NoNumber_NoDeed : PySem.W.kitOne K (.ref C_NoNumber) (.ref C_NoDeed) = some false
  ex_NoNumber_OtherSize : PySem.W.exmOne K (.ref C_NoNumber) (.ref C_OtherSize) = some false
  ki_NoNumber_OtherSize : PySem.W.kitOne K (.ref C_NoNumber) (.ref C_OtherSize) = some false
  ex_NoNumber_NotResult : PySem.W.exmOne K (.ref C_NoNumber) (.ref C_NotResult) = some false
  ki_NoNumber_NotResult : PySem.W.kitOne K (.ref C_NoNumber) (.ref C_NotResult) = some false
  ex_NoNumber_NotShortest : PySem.W.exmOne K (.ref C_NoNumber) (.ref C_NotShortest) = some false
  ki_NoNumber_NotShortest : PySem.W.kitOne K (.ref C_NoNumber) (.ref C_NotShortest) = some false
  ex_NoNumber_NoWord : PySem.W.exmOne K (.ref C_NoNumber) (.ref C_NoWord) = some false
  ki_NoNumber_NoWord : PySem.W.kitOne K (.ref C_NoNumber) (.ref C_NoWord) = some false
  ex_NoNumber_BadDeed : PySem.W.exmOne K (.ref C_NoNumber) (.ref C_BadDeed) = some false
  ki_NoNumber_BadDeed : PySem.W.kitOne K (.ref C_NoNumber) (.ref C_BadDeed) = some false
  ex_NoNumber_BadText : PySem.W.exmOne K (.ref C_NoNumber) (.ref C_BadText) = some false
  ki_NoNumber_BadText : PySem.W.kitOne K (.ref C_NoNumber) (.ref C_BadText) = some false
  ex_NoNumber_BadLine : PySem.W.exmOne K (.ref C_NoNumber) (.ref C_BadLine) = some false
  ki_NoNumber_BadLine : PySem.W.kitOne K (.ref C_NoNumber) (.ref C_BadLine) = some false
  ex_NoNumber_NotSettled : PySem.W.exmOne K (.ref C_NoNumber) (.ref C_NotSettled) = some false
  ki_NoNumber_NotSettled : PySem.W.kitOne K (.ref C_NoNumber) (.ref C_NotSettled) = some false
  ex_NoNumber_Last : PySem.W.exmOne K (.ref C_NoNumber) (.ref C_Last) = some false
  ki_NoNumber_Last : PySem.W.kitOne K (.ref C_NoNumber) (.ref C_Last) = some false
  ex_NoNumber_TooMany : PySem.W.exmOne K (.ref C_NoNumber) (.ref C_TooMany) = some false
  ki_NoNumber_TooMany : PySem.W.kitOne K (.ref C_NoNumber) (.ref C_TooMany) = some false
  kb_NoNumber_LookupError : PySem.W.kitOne K (.ref C_NoNumber) (.type "LookupError") = some true
  kb_NoNumber_ValueError : PySem.W.kitOne K (.ref C_NoNumber) (.type "ValueError") = some false
  kb_NoNumber_RuntimeError : PySem.W.kitOne K (.ref C_NoNumber) (.type "RuntimeError") = some false
  kb_NoNumber_OverflowError : PySem.W.kitOne K (.ref C_NoNumber) (.type "OverflowError") = some false
  kb_NoNumber_KeyError : PySem.W.kitOne K (.ref C_NoNumber) (.type "KeyError") = some false
  kb_NoNumber_IndexError : PySem.W.kitOne K (.ref C_NoNumber) (.type "IndexError") = some false
  own_NoDeed : Own K "LookupError.__new__" [.type "LookupError", .type "Exception", .type "BaseException", .type "object"] C_NoDeed
  kpt_NoDeed : KeptC K C_NoDeed
  no_NoDeed : PySem.W.findIn K (.ref C_NoDeed) "many" = some none
  f_i_NoDeed : Addr
  d_i_NoDeed : FuncData
  F_i_NoDeed : Fun K "__init__" "NoDeed.__init__" s_i_NoDeed f_i_NoDeed d_i_NoDeed
  iC_NoDeed : PySem.W.findIn K (.ref C_NoDeed) "__init__" = some (some (.ref f_i_NoDeed))
  tI_NoDeed : PySem.W.typeIn K (.ref f_i_NoDeed) = some (.type "function")
  ee_NoDeed : PySem.W.exmOne K (.ref C_NoDeed) (.ref C_NoDeed) = some true
  kk_NoDeed : PySem.W.kitOne K (.ref C_NoDeed) (.ref C_NoDeed) = some true
  ex_NoDeed_NoPerson : PySem.W.exmOne K (.ref C_NoDeed) (.ref C_NoPerson) = some false
  ki_NoDeed_NoPerson : PySem.W.kitOne K (.ref C_NoDeed) (.ref C_NoPerson) = some false
  ex_NoDeed_NoNumber : PySem.W.exmOne K (.ref C_NoDeed) (.ref C_NoNumber) = some false
  ki_NoDeed_NoNumber : PySem.W.kitOne K (.ref C_NoDeed) (.ref C_NoNumber) = some false
  ex_NoDeed_OtherSize : PySem.W.exmOne K (.ref C_NoDeed) (.ref C_OtherSize) = some false
  ki_NoDeed_OtherSize : PySem.W.kitOne K (.ref C_NoDeed) (.ref C_OtherSize) = some false
  ex_NoDeed_NotResult : PySem.W.exmOne K (.ref C_NoDeed) (.ref C_NotResult) = some false
  ki_NoDeed_NotResult : PySem.W.kitOne K (.ref C_NoDeed) (.ref C_NotResult) = some false
  ex_NoDeed_NotShortest : PySem.W.exmOne K (.ref C_NoDeed) (.ref C_NotShortest) = some false
  ki_NoDeed_NotShortest : PySem.W.kitOne K (.ref C_NoDeed) (.ref C_NotShortest) = some false
  ex_NoDeed_NoWord : PySem.W.exmOne K (.ref C_NoDeed) (.ref C_NoWord) = some false
  ki_NoDeed_NoWord : PySem.W.kitOne K (.ref C_NoDeed) (.ref C_NoWord) = some false
  ex_NoDeed_BadDeed : PySem.W.exmOne K (.ref C_NoDeed) (.ref C_BadDeed) = some false
  ki_NoDeed_BadDeed : PySem.W.kitOne K (.ref C_NoDeed) (.ref C_BadDeed) = some false
  ex_NoDeed_BadText : PySem.W.exmOne K (.ref C_NoDeed) (.ref C_BadText) = some false
  ki_NoDeed_BadText : PySem.W.kitOne K (.ref C_NoDeed) (.ref C_BadText) = some false
  ex_NoDeed_BadLine : PySem.W.exmOne K (.ref C_NoDeed) (.ref C_BadLine) = some false
  ki_NoDeed_BadLine : PySem.W.kitOne K (.ref C_NoDeed) (.ref C_BadLine) = some false
  ex_NoDeed_NotSettled : PySem.W.exmOne K (.ref C_NoDeed) (.ref C_NotSettled) = some false
  ki_NoDeed_NotSettled : PySem.W.kitOne K (.ref C_NoDeed) (.ref C_NotSettled) = some false
  ex_NoDeed_Last : PySem.W.exmOne K (.ref C_NoDeed) (.ref C_Last) = some false
  ki_NoDeed_Last : PySem.W.kitOne K (.ref C_NoDeed) (.ref C_Last) = some false
  ex_NoDeed_TooMany : PySem.W.exmOne K (.ref C_NoDeed) (.ref C_TooMany) = some false
  ki_NoDeed_TooMany : PySem.W.kitOne K (.ref C_NoDeed) (.ref C_TooMany) = some false
  kb_NoDeed_LookupError : PySem.W.kitOne K (.ref C_NoDeed) (.type "LookupError") = some true
  kb_NoDeed_ValueError : PySem.W.kitOne K (.ref C_NoDeed) (.type "ValueError") = some false
  kb_NoDeed_RuntimeError : PySem.W.kitOne K (.ref C_NoDeed) (.type "RuntimeError") = some false
  kb_NoDeed_OverflowError : PySem.W.kitOne K (.ref C_NoDeed) (.type "OverflowError") = some false
  kb_NoDeed_KeyError : PySem.W.kitOne K (.ref C_NoDeed) (.type "KeyError") = some false
  kb_NoDeed_IndexError : PySem.W.kitOne K (.ref C_NoDeed) (.type "IndexError") = some false
  own_OtherSize : Own K "ValueError.__new__" [.type "ValueError", .type "Exception", .type "BaseException", .type "object"] C_OtherSize
  kpt_OtherSize : KeptC K C_OtherSize
  no_OtherSize : PySem.W.findIn K (.ref C_OtherSize) "size" = some none
  f_i_OtherSize : Addr
  d_i_OtherSize : FuncData
  F_i_OtherSize : Fun K "__init__" "OtherSize.__init__" s_i_OtherSize f_i_OtherSize d_i_OtherSize
  iC_OtherSize : PySem.W.findIn K (.ref C_OtherSize) "__init__" = some (some (.ref f_i_OtherSize))
  tI_OtherSize : PySem.W.typeIn K (.ref f_i_OtherSize) = some (.type "function")
  ee_OtherSize : PySem.W.exmOne K (.ref C_OtherSize) (.ref C_OtherSize) = some true
  kk_OtherSize : PySem.W.kitOne K (.ref C_OtherSize) (.ref C_OtherSize) = some true
  ex_OtherSize_NoPerson : PySem.W.exmOne K (.ref C_OtherSize) (.ref C_NoPerson) = some false
  ki_OtherSize_NoPerson : PySem.W.kitOne K (.ref C_OtherSize) (.ref C_NoPerson) = some false
  ex_OtherSize_NoNumber : PySem.W.exmOne K (.ref C_OtherSize) (.ref C_NoNumber) = some false
  ki_OtherSize_NoNumber : PySem.W.kitOne K (.ref C_OtherSize) (.ref C_NoNumber) = some false
  ex_OtherSize_NoDeed : PySem.W.exmOne K (.ref C_OtherSize) (.ref C_NoDeed) = some false
  ki_OtherSize_NoDeed : PySem.W.kitOne K (.ref C_OtherSize) (.ref C_NoDeed) = some false
  ex_OtherSize_NotResult : PySem.W.exmOne K (.ref C_OtherSize) (.ref C_NotResult) = some false
  ki_OtherSize_NotResult : PySem.W.kitOne K (.ref C_OtherSize) (.ref C_NotResult) = some false
  ex_OtherSize_NotShortest : PySem.W.exmOne K (.ref C_OtherSize) (.ref C_NotShortest) = some false
  ki_OtherSize_NotShortest : PySem.W.kitOne K (.ref C_OtherSize) (.ref C_NotShortest) = some false
  ex_OtherSize_NoWord : PySem.W.exmOne K (.ref C_OtherSize) (.ref C_NoWord) = some false
  ki_OtherSize_NoWord : PySem.W.kitOne K (.ref C_OtherSize) (.ref C_NoWord) = some false
  ex_OtherSize_BadDeed : PySem.W.exmOne K (.ref C_OtherSize) (.ref C_BadDeed) = some false
  ki_OtherSize_BadDeed : PySem.W.kitOne K (.ref C_OtherSize) (.ref C_BadDeed) = some false
  ex_OtherSize_BadText : PySem.W.exmOne K (.ref C_OtherSize) (.ref C_BadText) = some false
  ki_OtherSize_BadText : PySem.W.kitOne K (.ref C_OtherSize) (.ref C_BadText) = some false
  ex_OtherSize_BadLine : PySem.W.exmOne K (.ref C_OtherSize) (.ref C_BadLine) = some false
  ki_OtherSize_BadLine : PySem.W.kitOne K (.ref C_OtherSize) (.ref C_BadLine) = some false
  ex_OtherSize_NotSettled : PySem.W.exmOne K (.ref C_OtherSize) (.ref C_NotSettled) = some false
  ki_OtherSize_NotSettled : PySem.W.kitOne K (.ref C_OtherSize) (.ref C_NotSettled) = some false
  ex_OtherSize_Last : PySem.W.exmOne K (.ref C_OtherSize) (.ref C_Last) = some false
  ki_OtherSize_Last : PySem.W.kitOne K (.ref C_OtherSize) (.ref C_Last) = some false
  ex_OtherSize_TooMany : PySem.W.exmOne K (.ref C_OtherSize) (.ref C_TooMany) = some false
  ki_OtherSize_TooMany : PySem.W.kitOne K (.ref C_OtherSize) (.ref C_TooMany) = some false
  kb_OtherSize_LookupError : PySem.W.kitOne K (.ref C_OtherSize) (.type "LookupError") = some false
  kb_OtherSize_ValueError : PySem.W.kitOne K (.ref C_OtherSize) (.type "ValueError") = some true
  kb_OtherSize_RuntimeError : PySem.W.kitOne K (.ref C_OtherSize) (.type "RuntimeError") = some false
  kb_OtherSize_OverflowError : PySem.W.kitOne K (.ref C_OtherSize) (.type "OverflowError") = some false
  kb_OtherSize_KeyError : PySem.W.kitOne K (.ref C_OtherSize) (.type "KeyError") = some false
  kb_OtherSize_IndexError : PySem.W.kitOne K (.ref C_OtherSize) (.type "IndexError") = some false
  own_NotResult : Own K "ValueError.__new__" [.type "ValueError", .type "Exception", .type "BaseException", .type "object"] C_NotResult
  kpt_NotResult : KeptC K C_NotResult
  no_NotResult : PySem.W.findIn K (.ref C_NotResult) "pair" = some none
  f_i_NotResult : Addr
  d_i_NotResult : FuncData
  F_i_NotResult : Fun K "__init__" "NotResult.__init__" s_i_NotResult f_i_NotResult d_i_NotResult
  iC_NotResult : PySem.W.findIn K (.ref C_NotResult) "__init__" = some (some (.ref f_i_NotResult))
  tI_NotResult : PySem.W.typeIn K (.ref f_i_NotResult) = some (.type "function")
  ee_NotResult : PySem.W.exmOne K (.ref C_NotResult) (.ref C_NotResult) = some true
  kk_NotResult : PySem.W.kitOne K (.ref C_NotResult) (.ref C_NotResult) = some true
  ex_NotResult_NoPerson : PySem.W.exmOne K (.ref C_NotResult) (.ref C_NoPerson) = some false
  ki_NotResult_NoPerson : PySem.W.kitOne K (.ref C_NotResult) (.ref C_NoPerson) = some false
  ex_NotResult_NoNumber : PySem.W.exmOne K (.ref C_NotResult) (.ref C_NoNumber) = some false
  ki_NotResult_NoNumber : PySem.W.kitOne K (.ref C_NotResult) (.ref C_NoNumber) = some false
  ex_NotResult_NoDeed : PySem.W.exmOne K (.ref C_NotResult) (.ref C_NoDeed) = some false
  ki_NotResult_NoDeed : PySem.W.kitOne K (.ref C_NotResult) (.ref C_NoDeed) = some false
  ex_NotResult_OtherSize : PySem.W.exmOne K (.ref C_NotResult) (.ref C_OtherSize) = some false
  ki_NotResult_OtherSize : PySem.W.kitOne K (.ref C_NotResult) (.ref C_OtherSize) = some false
  ex_NotResult_NotShortest : PySem.W.exmOne K (.ref C_NotResult) (.ref C_NotShortest) = some false
  ki_NotResult_NotShortest : PySem.W.kitOne K (.ref C_NotResult) (.ref C_NotShortest) = some false
  ex_NotResult_NoWord : PySem.W.exmOne K (.ref C_NotResult) (.ref C_NoWord) = some false
  ki_NotResult_NoWord : PySem.W.kitOne K (.ref C_NotResult) (.ref C_NoWord) = some false
  ex_NotResult_BadDeed : PySem.W.exmOne K (.ref C_NotResult) (.ref C_BadDeed) = some false
  ki_NotResult_BadDeed : PySem.W.kitOne K (.ref C_NotResult) (.ref C_BadDeed) = some false
  ex_NotResult_BadText : PySem.W.exmOne K (.ref C_NotResult) (.ref C_BadText) = some false
  ki_NotResult_BadText : PySem.W.kitOne K (.ref C_NotResult) (.ref C_BadText) = some false
  ex_NotResult_BadLine : PySem.W.exmOne K (.ref C_NotResult) (.ref C_BadLine) = some false
  ki_NotResult_BadLine : PySem.W.kitOne K (.ref C_NotResult) (.ref C_BadLine) = some false
  ex_NotResult_NotSettled : PySem.W.exmOne K (.ref C_NotResult) (.ref C_NotSettled) = some false
  ki_NotResult_NotSettled : PySem.W.kitOne K (.ref C_NotResult) (.ref C_NotSettled) = some false
  ex_NotResult_Last : PySem.W.exmOne K (.ref C_NotResult) (.ref C_Last) = some false
  ki_NotResult_Last : PySem.W.kitOne K (.ref C_NotResult) (.ref C_Last) = some false
  ex_NotResult_TooMany : PySem.W.exmOne K (.ref C_NotResult) (.ref C_TooMany) = some false
  ki_NotResult_TooMany : PySem.W.kitOne K (.ref C_NotResult) (.ref C_TooMany) = some false
  kb_NotResult_LookupError : PySem.W.kitOne K (.ref C_NotResult) (.type "LookupError") = some false
  kb_NotResult_ValueError : PySem.W.kitOne K (.ref C_NotResult) (.type "ValueError") = some true
  kb_NotResult_RuntimeError : PySem.W.kitOne K (.ref C_NotResult) (.type "RuntimeError") = some false
  kb_NotResult_OverflowError : PySem.W.kitOne K (.ref C_NotResult) (.type "OverflowError") = some false
  kb_NotResult_KeyError : PySem.W.kitOne K (.ref C_NotResult) (.type "KeyError") = some false
  kb_NotResult_IndexError : PySem.W.kitOne K (.ref C_NotResult) (.type "IndexError") = some false
  own_NotShortest : Own K "ValueError.__new__" [.type "ValueError", .type "Exception", .type "BaseException", .type "object"] C_NotShortest
  kpt_NotShortest : KeptC K C_NotShortest
  f_i_NotShortest : Addr
  d_i_NotShortest : FuncData
  F_i_NotShortest : Fun K "__init__" "NotShortest.__init__" s_i_NotShortest f_i_NotShortest d_i_NotShortest
  iC_NotShortest : PySem.W.findIn K (.ref C_NotShortest) "__init__" = some (some (.ref f_i_NotShortest))
  tI_NotShortest : PySem.W.typeIn K (.ref f_i_NotShortest) = some (.type "function")
  ee_NotShortest : PySem.W.exmOne K (.ref C_NotShortest) (.ref C_NotShortest) = some true
  kk_NotShortest : PySem.W.kitOne K (.ref C_NotShortest) (.ref C_NotShortest) = some true
  ex_NotShortest_NoPerson : PySem.W.exmOne K (.ref C_NotShortest) (.ref C_NoPerson) = some false
  ki_NotShortest_NoPerson : PySem.W.kitOne K (.ref C_NotShortest) (.ref C_NoPerson) = some false
  ex_NotShortest_NoNumber : PySem.W.exmOne K (.ref C_NotShortest) (.ref C_NoNumber) = some false
  ki_NotShortest_NoNumber : PySem.W.kitOne K (.ref C_NotShortest) (.ref C_NoNumber) = some false
  ex_NotShortest_NoDeed : PySem.W.exmOne K (.ref C_NotShortest) (.ref C_NoDeed) = some false
  ki_NotShortest_NoDeed : PySem.W.kitOne K (.ref C_NotShortest) (.ref C_NoDeed) = some false
  ex_NotShortest_OtherSize : PySem.W.exmOne K (.ref C_NotShortest) (.ref C_OtherSize) = some false
  ki_NotShortest_OtherSize : PySem.W.kitOne K (.ref C_NotShortest) (.ref C_OtherSize) = some false
  ex_NotShortest_NotResult : PySem.W.exmOne K (.ref C_NotShortest) (.ref C_NotResult) = some false
  ki_NotShortest_NotResult : PySem.W.kitOne K (.ref C_NotShortest) (.ref C_NotResult) = some false
  ex_NotShortest_NoWord : PySem.W.exmOne K (.ref C_NotShortest) (.ref C_NoWord) = some false
  ki_NotShortest_NoWord : PySem.W.kitOne K (.ref C_NotShortest) (.ref C_NoWord) = some false
  ex_NotShortest_BadDeed : PySem.W.exmOne K (.ref C_NotShortest) (.ref C_BadDeed) = some false
  ki_NotShortest_BadDeed : PySem.W.kitOne K (.ref C_NotShortest) (.ref C_BadDeed) = some false
  ex_NotShortest_BadText : PySem.W.exmOne K (.ref C_NotShortest) (.ref C_BadText) = some false
  ki_NotShortest_BadText : PySem.W.kitOne K (.ref C_NotShortest) (.ref C_BadText) = some false
  ex_NotShortest_BadLine : PySem.W.exmOne K (.ref C_NotShortest) (.ref C_BadLine) = some false
  ki_NotShortest_BadLine : PySem.W.kitOne K (.ref C_NotShortest) (.ref C_BadLine) = some false
  ex_NotShortest_NotSettled : PySem.W.exmOne K (.ref C_NotShortest) (.ref C_NotSettled) = some false
  ki_NotShortest_NotSettled : PySem.W.kitOne K (.ref C_NotShortest) (.ref C_NotSettled) = some false
  ex_NotShortest_Last : PySem.W.exmOne K (.ref C_NotShortest) (.ref C_Last) = some false
  ki_NotShortest_Last : PySem.W.kitOne K (.ref C_NotShortest) (.ref C_Last) = some false
  ex_NotShortest_TooMany : PySem.W.exmOne K (.ref C_NotShortest) (.ref C_TooMany) = some false
  ki_NotShortest_TooMany : PySem.W.kitOne K (.ref C_NotShortest) (.ref C_TooMany) = some false
  kb_NotShortest_LookupError : PySem.W.kitOne K (.ref C_NotShortest) (.type "LookupError") = some false
  kb_NotShortest_ValueError : PySem.W.kitOne K (.ref C_NotShortest) (.type "ValueError") = some true
  kb_NotShortest_RuntimeError : PySem.W.kitOne K (.ref C_NotShortest) (.type "RuntimeError") = some false
  kb_NotShortest_OverflowError : PySem.W.kitOne K (.ref C_NotShortest) (.type "OverflowError") = some false
  kb_NotShortest_KeyError : PySem.W.kitOne K (.ref C_NotShortest) (.type "KeyError") = some false
  kb_NotShortest_IndexError : PySem.W.kitOne K (.ref C_NotShortest) (.type "IndexError") = some false
  own_NoWord : Own K "ValueError.__new__" [.type "ValueError", .type "Exception", .type "BaseException", .type "object"] C_NoWord
  kpt_NoWord : KeptC K C_NoWord
  f_i_NoWord : Addr
  d_i_NoWord : FuncData
  F_i_NoWord : Fun K "__init__" "NoWord.__init__" s_i_NoWord f_i_NoWord d_i_NoWord
  iC_NoWord : PySem.W.findIn K (.ref C_NoWord) "__init__" = some (some (.ref f_i_NoWord))
  tI_NoWord : PySem.W.typeIn K (.ref f_i_NoWord) = some (.type "function")
  ee_NoWord : PySem.W.exmOne K (.ref C_NoWord) (.ref C_NoWord) = some true
  kk_NoWord : PySem.W.kitOne K (.ref C_NoWord) (.ref C_NoWord) = some true
  ex_NoWord_NoPerson : PySem.W.exmOne K (.ref C_NoWord) (.ref C_NoPerson) = some false
  ki_NoWord_NoPerson : PySem.W.kitOne K (.ref C_NoWord) (.ref C_NoPerson) = some false
  ex_NoWord_NoNumber : PySem.W.exmOne K (.ref C_NoWord) (.ref C_NoNumber) = some false
  ki_NoWord_NoNumber : PySem.W.kitOne K (.ref C_NoWord) (.ref C_NoNumber) = some false
  ex_NoWord_NoDeed : PySem.W.exmOne K (.ref C_NoWord) (.ref C_NoDeed) = some false
  ki_NoWord_NoDeed : PySem.W.kitOne K (.ref C_NoWord) (.ref C_NoDeed) = some false
  ex_NoWord_OtherSize : PySem.W.exmOne K (.ref C_NoWord) (.ref C_OtherSize) = some false
  ki_NoWord_OtherSize : PySem.W.kitOne K (.ref C_NoWord) (.ref C_OtherSize) = some false
  ex_NoWord_NotResult : PySem.W.exmOne K (.ref C_NoWord) (.ref C_NotResult) = some false
  ki_NoWord_NotResult : PySem.W.kitOne K (.ref C_NoWord) (.ref C_NotResult) = some false
  ex_NoWord_NotShortest : PySem.W.exmOne K (.ref C_NoWord) (.ref C_NotShortest) = some false
  ki_NoWord_NotShortest : PySem.W.kitOne K (.ref C_NoWord) (.ref C_NotShortest) = some false
  ex_NoWord_BadDeed : PySem.W.exmOne K (.ref C_NoWord) (.ref C_BadDeed) = some false
  ki_NoWord_BadDeed : PySem.W.kitOne K (.ref C_NoWord) (.ref C_BadDeed) = some false
  ex_NoWord_BadText : PySem.W.exmOne K (.ref C_NoWord) (.ref C_BadText) = some false
  ki_NoWord_BadText : PySem.W.kitOne K (.ref C_NoWord) (.ref C_BadText) = some false
  ex_NoWord_BadLine : PySem.W.exmOne K (.ref C_NoWord) (.ref C_BadLine) = some false
  ki_NoWord_BadLine : PySem.W.kitOne K (.ref C_NoWord) (.ref C_BadLine) = some false
  ex_NoWord_NotSettled : PySem.W.exmOne K (.ref C_NoWord) (.ref C_NotSettled) = some false
  ki_NoWord_NotSettled : PySem.W.kitOne K (.ref C_NoWord) (.ref C_NotSettled) = some false
  ex_NoWord_Last : PySem.W.exmOne K (.ref C_NoWord) (.ref C_Last) = some false
  ki_NoWord_Last : PySem.W.kitOne K (.ref C_NoWord) (.ref C_Last) = some false
  ex_NoWord_TooMany : PySem.W.exmOne K (.ref C_NoWord) (.ref C_TooMany) = some false
  ki_NoWord_TooMany : PySem.W.kitOne K (.ref C_NoWord) (.ref C_TooMany) = some false
  kb_NoWord_LookupError : PySem.W.kitOne K (.ref C_NoWord) (.type "LookupError") = some false
  kb_NoWord_ValueError : PySem.W.kitOne K (.ref C_NoWord) (.type "ValueError") = some true
  kb_NoWord_RuntimeError : PySem.W.kitOne K (.ref C_NoWord) (.type "RuntimeError") = some false
  kb_NoWord_OverflowError : PySem.W.kitOne K (.ref C_NoWord) (.type "OverflowError") = some false
  kb_NoWord_KeyError : PySem.W.kitOne K (.ref C_NoWord) (.type "KeyError") = some false
  kb_NoWord_IndexError : PySem.W.kitOne K (.ref C_NoWord) (.type "IndexError") = some false
  own_BadDeed : Own K "ValueError.__new__" [.type "ValueError", .type "Exception", .type "BaseException", .type "object"] C_BadDeed
  kpt_BadDeed : KeptC K C_BadDeed
  no_BadDeed : PySem.W.findIn K (.ref C_BadDeed) "at" = some none
  f_i_BadDeed : Addr
  d_i_BadDeed : FuncData
  F_i_BadDeed : Fun K "__init__" "BadDeed.__init__" s_i_BadDeed f_i_BadDeed d_i_BadDeed
  iC_BadDeed : PySem.W.findIn K (.ref C_BadDeed) "__init__" = some (some (.ref f_i_BadDeed))
  tI_BadDeed : PySem.W.typeIn K (.ref f_i_BadDeed) = some (.type "function")
  ee_BadDeed : PySem.W.exmOne K (.ref C_BadDeed) (.ref C_BadDeed) = some true
  kk_BadDeed : PySem.W.kitOne K (.ref C_BadDeed) (.ref C_BadDeed) = some true
  ex_BadDeed_NoPerson : PySem.W.exmOne K (.ref C_BadDeed) (.ref C_NoPerson) = some false
  ki_BadDeed_NoPerson : PySem.W.kitOne K (.ref C_BadDeed) (.ref C_NoPerson) = some false
  ex_BadDeed_NoNumber : PySem.W.exmOne K (.ref C_BadDeed) (.ref C_NoNumber) = some false
  ki_BadDeed_NoNumber : PySem.W.kitOne K (.ref C_BadDeed) (.ref C_NoNumber) = some false
  ex_BadDeed_NoDeed : PySem.W.exmOne K (.ref C_BadDeed) (.ref C_NoDeed) = some false
  ki_BadDeed_NoDeed : PySem.W.kitOne K (.ref C_BadDeed) (.ref C_NoDeed) = some false
  ex_BadDeed_OtherSize : PySem.W.exmOne K (.ref C_BadDeed) (.ref C_OtherSize) = some false
  ki_BadDeed_OtherSize : PySem.W.kitOne K (.ref C_BadDeed) (.ref C_OtherSize) = some false
  ex_BadDeed_NotResult : PySem.W.exmOne K (.ref C_BadDeed) (.ref C_NotResult) = some false
  ki_BadDeed_NotResult : PySem.W.kitOne K (.ref C_BadDeed) (.ref C_NotResult) = some false
  ex_BadDeed_NotShortest : PySem.W.exmOne K (.ref C_BadDeed) (.ref C_NotShortest) = some false
  ki_BadDeed_NotShortest : PySem.W.kitOne K (.ref C_BadDeed) (.ref C_NotShortest) = some false
  ex_BadDeed_NoWord : PySem.W.exmOne K (.ref C_BadDeed) (.ref C_NoWord) = some false
  ki_BadDeed_NoWord : PySem.W.kitOne K (.ref C_BadDeed) (.ref C_NoWord) = some false
  ex_BadDeed_BadText : PySem.W.exmOne K (.ref C_BadDeed) (.ref C_BadText) = some false
  ki_BadDeed_BadText : PySem.W.kitOne K (.ref C_BadDeed) (.ref C_BadText) = some false
  ex_BadDeed_BadLine : PySem.W.exmOne K (.ref C_BadDeed) (.ref C_BadLine) = some false
  ki_BadDeed_BadLine : PySem.W.kitOne K (.ref C_BadDeed) (.ref C_BadLine) = some false
  ex_BadDeed_NotSettled : PySem.W.exmOne K (.ref C_BadDeed) (.ref C_NotSettled) = some false
  ki_BadDeed_NotSettled : PySem.W.kitOne K (.ref C_BadDeed) (.ref C_NotSettled) = some false
  ex_BadDeed_Last : PySem.W.exmOne K (.ref C_BadDeed) (.ref C_Last) = some false
  ki_BadDeed_Last : PySem.W.kitOne K (.ref C_BadDeed) (.ref C_Last) = some false
  ex_BadDeed_TooMany : PySem.W.exmOne K (.ref C_BadDeed) (.ref C_TooMany) = some false
  ki_BadDeed_TooMany : PySem.W.kitOne K (.ref C_BadDeed) (.ref C_TooMany) = some false
  kb_BadDeed_LookupError : PySem.W.kitOne K (.ref C_BadDeed) (.type "LookupError") = some false
  kb_BadDeed_ValueError : PySem.W.kitOne K (.ref C_BadDeed) (.type "ValueError") = some true
  kb_BadDeed_RuntimeError : PySem.W.kitOne K (.ref C_BadDeed) (.type "RuntimeError") = some false
  kb_BadDeed_OverflowError : PySem.W.kitOne K (.ref C_BadDeed) (.type "OverflowError") = some false
  kb_BadDeed_KeyError : PySem.W.kitOne K (.ref C_BadDeed) (.type "KeyError") = some false
  kb_BadDeed_IndexError : PySem.W.kitOne K (.ref C_BadDeed) (.type "IndexError") = some false
  own_BadText : Own K "ValueError.__new__" [.type "ValueError", .type "Exception", .type "BaseException", .type "object"] C_BadText
  kpt_BadText : KeptC K C_BadText
  no_BadText : PySem.W.findIn K (.ref C_BadText) "at" = some none
  f_i_BadText : Addr
  d_i_BadText : FuncData
  F_i_BadText : Fun K "__init__" "BadText.__init__" s_i_BadText f_i_BadText d_i_BadText
  iC_BadText : PySem.W.findIn K (.ref C_BadText) "__init__" = some (some (.ref f_i_BadText))
  tI_BadText : PySem.W.typeIn K (.ref f_i_BadText) = some (.type "function")
  ee_BadText : PySem.W.exmOne K (.ref C_BadText) (.ref C_BadText) = some true
  kk_BadText : PySem.W.kitOne K (.ref C_BadText) (.ref C_BadText) = some true
  ex_BadText_NoPerson : PySem.W.exmOne K (.ref C_BadText) (.ref C_NoPerson) = some false
  ki_BadText_NoPerson : PySem.W.kitOne K (.ref C_BadText) (.ref C_NoPerson) = some false
  ex_BadText_NoNumber : PySem.W.exmOne K (.ref C_BadText) (.ref C_NoNumber) = some false
  ki_BadText_NoNumber : PySem.W.kitOne K (.ref C_BadText) (.ref C_NoNumber) = some false
  ex_BadText_NoDeed : PySem.W.exmOne K (.ref C_BadText) (.ref C_NoDeed) = some false
  ki_BadText_NoDeed : PySem.W.kitOne K (.ref C_BadText) (.ref C_NoDeed) = some false
  ex_BadText_OtherSize : PySem.W.exmOne K (.ref C_BadText) (.ref C_OtherSize) = some false
  ki_BadText_OtherSize : PySem.W.kitOne K (.ref C_BadText) (.ref C_OtherSize) = some false
  ex_BadText_NotResult : PySem.W.exmOne K (.ref C_BadText) (.ref C_NotResult) = some false
  ki_BadText_NotResult : PySem.W.kitOne K (.ref C_BadText) (.ref C_NotResult) = some false
  ex_BadText_NotShortest : PySem.W.exmOne K (.ref C_BadText) (.ref C_NotShortest) = some false
  ki_BadText_NotShortest : PySem.W.kitOne K (.ref C_BadText) (.ref C_NotShortest) = some false
  ex_BadText_NoWord : PySem.W.exmOne K (.ref C_BadText) (.ref C_NoWord) = some false
  ki_BadText_NoWord : PySem.W.kitOne K (.ref C_BadText) (.ref C_NoWord) = some false
  ex_BadText_BadDeed : PySem.W.exmOne K (.ref C_BadText) (.ref C_BadDeed) = some false
  ki_BadText_BadDeed : PySem.W.kitOne K (.ref C_BadText) (.ref C_BadDeed) = some false
  ex_BadText_BadLine : PySem.W.exmOne K (.ref C_BadText) (.ref C_BadLine) = some false
  ki_BadText_BadLine : PySem.W.kitOne K (.ref C_BadText) (.ref C_BadLine) = some false
  ex_BadText_NotSettled : PySem.W.exmOne K (.ref C_BadText) (.ref C_NotSettled) = some false
  ki_BadText_NotSettled : PySem.W.kitOne K (.ref C_BadText) (.ref C_NotSettled) = some false
  ex_BadText_Last : PySem.W.exmOne K (.ref C_BadText) (.ref C_Last) = some false
  ki_BadText_Last : PySem.W.kitOne K (.ref C_BadText) (.ref C_Last) = some false
  ex_BadText_TooMany : PySem.W.exmOne K (.ref C_BadText) (.ref C_TooMany) = some false
  ki_BadText_TooMany : PySem.W.kitOne K (.ref C_BadText) (.ref C_TooMany) = some false
  kb_BadText_LookupError : PySem.W.kitOne K (.ref C_BadText) (.type "LookupError") = some false
  kb_BadText_ValueError : PySem.W.kitOne K (.ref C_BadText) (.type "ValueError") = some true
  kb_BadText_RuntimeError : PySem.W.kitOne K (.ref C_BadText) (.type "RuntimeError") = some false
  kb_BadText_OverflowError : PySem.W.kitOne K (.ref C_BadText) (.type "OverflowError") = some false
  kb_BadText_KeyError : PySem.W.kitOne K (.ref C_BadText) (.type "KeyError") = some false
  kb_BadText_IndexError : PySem.W.kitOne K (.ref C_BadText) (.type "IndexError") = some false
  own_BadLine : Own K "ValueError.__new__" [.type "ValueError", .type "Exception", .type "BaseException", .type "object"] C_BadLine
  kpt_BadLine : KeptC K C_BadLine
  no_BadLine : PySem.W.findIn K (.ref C_BadLine) "at" = some none
  f_i_BadLine : Addr
  d_i_BadLine : FuncData
  F_i_BadLine : Fun K "__init__" "BadLine.__init__" s_i_BadLine f_i_BadLine d_i_BadLine
  iC_BadLine : PySem.W.findIn K (.ref C_BadLine) "__init__" = some (some (.ref f_i_BadLine))
  tI_BadLine : PySem.W.typeIn K (.ref f_i_BadLine) = some (.type "function")
  ee_BadLine : PySem.W.exmOne K (.ref C_BadLine) (.ref C_BadLine) = some true
  kk_BadLine : PySem.W.kitOne K (.ref C_BadLine) (.ref C_BadLine) = some true
  ex_BadLine_NoPerson : PySem.W.exmOne K (.ref C_BadLine) (.ref C_NoPerson) = some false
  ki_BadLine_NoPerson : PySem.W.kitOne K (.ref C_BadLine) (.ref C_NoPerson) = some false
  ex_BadLine_NoNumber : PySem.W.exmOne K (.ref C_BadLine) (.ref C_NoNumber) = some false
  ki_BadLine_NoNumber : PySem.W.kitOne K (.ref C_BadLine) (.ref C_NoNumber) = some false
  ex_BadLine_NoDeed : PySem.W.exmOne K (.ref C_BadLine) (.ref C_NoDeed) = some false
  ki_BadLine_NoDeed : PySem.W.kitOne K (.ref C_BadLine) (.ref C_NoDeed) = some false
  ex_BadLine_OtherSize : PySem.W.exmOne K (.ref C_BadLine) (.ref C_OtherSize) = some false
  ki_BadLine_OtherSize : PySem.W.kitOne K (.ref C_BadLine) (.ref C_OtherSize) = some false
  ex_BadLine_NotResult : PySem.W.exmOne K (.ref C_BadLine) (.ref C_NotResult) = some false
  ki_BadLine_NotResult : PySem.W.kitOne K (.ref C_BadLine) (.ref C_NotResult) = some false
  ex_BadLine_NotShortest : PySem.W.exmOne K (.ref C_BadLine) (.ref C_NotShortest) = some false
  ki_BadLine_NotShortest : PySem.W.kitOne K (.ref C_BadLine) (.ref C_NotShortest) = some false
  ex_BadLine_NoWord : PySem.W.exmOne K (.ref C_BadLine) (.ref C_NoWord) = some false
  ki_BadLine_NoWord : PySem.W.kitOne K (.ref C_BadLine) (.ref C_NoWord) = some false
  ex_BadLine_BadDeed : PySem.W.exmOne K (.ref C_BadLine) (.ref C_BadDeed) = some false
  ki_BadLine_BadDeed : PySem.W.kitOne K (.ref C_BadLine) (.ref C_BadDeed) = some false
  ex_BadLine_BadText : PySem.W.exmOne K (.ref C_BadLine) (.ref C_BadText) = some false
  ki_BadLine_BadText : PySem.W.kitOne K (.ref C_BadLine) (.ref C_BadText) = some false
  ex_BadLine_NotSettled : PySem.W.exmOne K (.ref C_BadLine) (.ref C_NotSettled) = some false
  ki_BadLine_NotSettled : PySem.W.kitOne K (.ref C_BadLine) (.ref C_NotSettled) = some false
  ex_BadLine_Last : PySem.W.exmOne K (.ref C_BadLine) (.ref C_Last) = some false
  ki_BadLine_Last : PySem.W.kitOne K (.ref C_BadLine) (.ref C_Last) = some false
  ex_BadLine_TooMany : PySem.W.exmOne K (.ref C_BadLine) (.ref C_TooMany) = some false
  ki_BadLine_TooMany : PySem.W.kitOne K (.ref C_BadLine) (.ref C_TooMany) = some false
  kb_BadLine_LookupError : PySem.W.kitOne K (.ref C_BadLine) (.type "LookupError") = some false
  kb_BadLine_ValueError : PySem.W.kitOne K (.ref C_BadLine) (.type "ValueError") = some true
  kb_BadLine_RuntimeError : PySem.W.kitOne K (.ref C_BadLine) (.type "RuntimeError") = some false
  kb_BadLine_OverflowError : PySem.W.kitOne K (.ref C_BadLine) (.type "OverflowError") = some false
  kb_BadLine_KeyError : PySem.W.kitOne K (.ref C_BadLine) (.type "KeyError") = some false
  kb_BadLine_IndexError : PySem.W.kitOne K (.ref C_BadLine) (.type "IndexError") = some false
  own_NotSettled : Own K "RuntimeError.__new__" [.type "RuntimeError", .type "Exception", .type "BaseException", .type "object"] C_NotSettled
  kpt_NotSettled : KeptC K C_NotSettled
  no_NotSettled : PySem.W.findIn K (.ref C_NotSettled) "many" = some none
  f_i_NotSettled : Addr
  d_i_NotSettled : FuncData
  F_i_NotSettled : Fun K "__init__" "NotSettled.__init__" s_i_NotSettled f_i_NotSettled d_i_NotSettled
  iC_NotSettled : PySem.W.findIn K (.ref C_NotSettled) "__init__" = some (some (.ref f_i_NotSettled))
  tI_NotSettled : PySem.W.typeIn K (.ref f_i_NotSettled) = some (.type "function")
  ee_NotSettled : PySem.W.exmOne K (.ref C_NotSettled) (.ref C_NotSettled) = some true
  kk_NotSettled : PySem.W.kitOne K (.ref C_NotSettled) (.ref C_NotSettled) = some true
  ex_NotSettled_NoPerson : PySem.W.exmOne K (.ref C_NotSettled) (.ref C_NoPerson) = some false
  ki_NotSettled_NoPerson : PySem.W.kitOne K (.ref C_NotSettled) (.ref C_NoPerson) = some false
  ex_NotSettled_NoNumber : PySem.W.exmOne K (.ref C_NotSettled) (.ref C_NoNumber) = some false
  ki_NotSettled_NoNumber : PySem.W.kitOne K (.ref C_NotSettled) (.ref C_NoNumber) = some false
  ex_NotSettled_NoDeed : PySem.W.exmOne K (.ref C_NotSettled) (.ref C_NoDeed) = some false
  ki_NotSettled_NoDeed : PySem.W.kitOne K (.ref C_NotSettled) (.ref C_NoDeed) = some false
  ex_NotSettled_OtherSize : PySem.W.exmOne K (.ref C_NotSettled) (.ref C_OtherSize) = some false
  ki_NotSettled_OtherSize : PySem.W.kitOne K (.ref C_NotSettled) (.ref C_OtherSize) = some false
  ex_NotSettled_NotResult : PySem.W.exmOne K (.ref C_NotSettled) (.ref C_NotResult) = some false
  ki_NotSettled_NotResult : PySem.W.kitOne K (.ref C_NotSettled) (.ref C_NotResult) = some false
  ex_NotSettled_NotShortest : PySem.W.exmOne K (.ref C_NotSettled) (.ref C_NotShortest) = some false
  ki_NotSettled_NotShortest : PySem.W.kitOne K (.ref C_NotSettled) (.ref C_NotShortest) = some false
  ex_NotSettled_NoWord : PySem.W.exmOne K (.ref C_NotSettled) (.ref C_NoWord) = some false
  ki_NotSettled_NoWord : PySem.W.kitOne K (.ref C_NotSettled) (.ref C_NoWord) = some false
  ex_NotSettled_BadDeed : PySem.W.exmOne K (.ref C_NotSettled) (.ref C_BadDeed) = some false
  ki_NotSettled_BadDeed : PySem.W.kitOne K (.ref C_NotSettled) (.ref C_BadDeed) = some false
  ex_NotSettled_BadText : PySem.W.exmOne K (.ref C_NotSettled) (.ref C_BadText) = some false
  ki_NotSettled_BadText : PySem.W.kitOne K (.ref C_NotSettled) (.ref C_BadText) = some false
  ex_NotSettled_BadLine : PySem.W.exmOne K (.ref C_NotSettled) (.ref C_BadLine) = some false
  ki_NotSettled_BadLine : PySem.W.kitOne K (.ref C_NotSettled) (.ref C_BadLine) = some false
  ex_NotSettled_Last : PySem.W.exmOne K (.ref C_NotSettled) (.ref C_Last) = some false
  ki_NotSettled_Last : PySem.W.kitOne K (.ref C_NotSettled) (.ref C_Last) = some false
  ex_NotSettled_TooMany : PySem.W.exmOne K (.ref C_NotSettled) (.ref C_TooMany) = some false
  ki_NotSettled_TooMany : PySem.W.kitOne K (.ref C_NotSettled) (.ref C_TooMany) = some false
  kb_NotSettled_LookupError : PySem.W.kitOne K (.ref C_NotSettled) (.type "LookupError") = some false
  kb_NotSettled_ValueError : PySem.W.kitOne K (.ref C_NotSettled) (.type "ValueError") = some false
  kb_NotSettled_RuntimeError : PySem.W.kitOne K (.ref C_NotSettled) (.type "RuntimeError") = some true
  kb_NotSettled_OverflowError : PySem.W.kitOne K (.ref C_NotSettled) (.type "OverflowError") = some false
  kb_NotSettled_KeyError : PySem.W.kitOne K (.ref C_NotSettled) (.type "KeyError") = some false
  kb_NotSettled_IndexError : PySem.W.kitOne K (.ref C_NotSettled) (.type "IndexError") = some false
  own_Last : Own K "RuntimeError.__new__" [.type "RuntimeError", .type "Exception", .type "BaseException", .type "object"] C_Last
  kpt_Last : KeptC K C_Last
  f_i_Last : Addr
  d_i_Last : FuncData
  F_i_Last : Fun K "__init__" "Last.__init__" s_i_Last f_i_Last d_i_Last
  iC_Last : PySem.W.findIn K (.ref C_Last) "__init__" = some (some (.ref f_i_Last))
  tI_Last : PySem.W.typeIn K (.ref f_i_Last) = some (.type "function")
  ee_Last : PySem.W.exmOne K (.ref C_Last) (.ref C_Last) = some true
  kk_Last : PySem.W.kitOne K (.ref C_Last) (.ref C_Last) = some true
  ex_Last_NoPerson : PySem.W.exmOne K (.ref C_Last) (.ref C_NoPerson) = some false
  ki_Last_NoPerson : PySem.W.kitOne K (.ref C_Last) (.ref C_NoPerson) = some false
  ex_Last_NoNumber : PySem.W.exmOne K (.ref C_Last) (.ref C_NoNumber) = some false
  ki_Last_NoNumber : PySem.W.kitOne K (.ref C_Last) (.ref C_NoNumber) = some false
  ex_Last_NoDeed : PySem.W.exmOne K (.ref C_Last) (.ref C_NoDeed) = some false
  ki_Last_NoDeed : PySem.W.kitOne K (.ref C_Last) (.ref C_NoDeed) = some false
  ex_Last_OtherSize : PySem.W.exmOne K (.ref C_Last) (.ref C_OtherSize) = some false
  ki_Last_OtherSize : PySem.W.kitOne K (.ref C_Last) (.ref C_OtherSize) = some false
  ex_Last_NotResult : PySem.W.exmOne K (.ref C_Last) (.ref C_NotResult) = some false
  ki_Last_NotResult : PySem.W.kitOne K (.ref C_Last) (.ref C_NotResult) = some false
  ex_Last_NotShortest : PySem.W.exmOne K (.ref C_Last) (.ref C_NotShortest) = some false
  ki_Last_NotShortest : PySem.W.kitOne K (.ref C_Last) (.ref C_NotShortest) = some false
  ex_Last_NoWord : PySem.W.exmOne K (.ref C_Last) (.ref C_NoWord) = some false
  ki_Last_NoWord : PySem.W.kitOne K (.ref C_Last) (.ref C_NoWord) = some false
  ex_Last_BadDeed : PySem.W.exmOne K (.ref C_Last) (.ref C_BadDeed) = some false
  ki_Last_BadDeed : PySem.W.kitOne K (.ref C_Last) (.ref C_BadDeed) = some false
  ex_Last_BadText : PySem.W.exmOne K (.ref C_Last) (.ref C_BadText) = some false
  ki_Last_BadText : PySem.W.kitOne K (.ref C_Last) (.ref C_BadText) = some false
  ex_Last_BadLine : PySem.W.exmOne K (.ref C_Last) (.ref C_BadLine) = some false
  ki_Last_BadLine : PySem.W.kitOne K (.ref C_Last) (.ref C_BadLine) = some false
  ex_Last_NotSettled : PySem.W.exmOne K (.ref C_Last) (.ref C_NotSettled) = some false
  ki_Last_NotSettled : PySem.W.kitOne K (.ref C_Last) (.ref C_NotSettled) = some false
  ex_Last_TooMany : PySem.W.exmOne K (.ref C_Last) (.ref C_TooMany) = some false
  ki_Last_TooMany : PySem.W.kitOne K (.ref C_Last) (.ref C_TooMany) = some false
  kb_Last_LookupError : PySem.W.kitOne K (.ref C_Last) (.type "LookupError") = some false
  kb_Last_ValueError : PySem.W.kitOne K (.ref C_Last) (.type "ValueError") = some false
  kb_Last_RuntimeError : PySem.W.kitOne K (.ref C_Last) (.type "RuntimeError") = some true
  kb_Last_OverflowError : PySem.W.kitOne K (.ref C_Last) (.type "OverflowError") = some false
  kb_Last_KeyError : PySem.W.kitOne K (.ref C_Last) (.type "KeyError") = some false
  kb_Last_IndexError : PySem.W.kitOne K (.ref C_Last) (.type "IndexError") = some false
  own_TooMany : Own K "OverflowError.__new__" [.type "OverflowError", .type "ArithmeticError", .type "Exception", .type "BaseException", .type "object"] C_TooMany
  kpt_TooMany : KeptC K C_TooMany
  no_TooMany : PySem.W.findIn K (.ref C_TooMany) "size" = some none
  f_i_TooMany : Addr
  d_i_TooMany : FuncData
  F_i_TooMany : Fun K "__init__" "TooMany.__init__" s_i_TooMany f_i_TooMany d_i_TooMany
  iC_TooMany : PySem.W.findIn K (.ref C_TooMany) "__init__" = some (some (.ref f_i_TooMany))
  tI_TooMany : PySem.W.typeIn K (.ref f_i_TooMany) = some (.type "function")
  ee_TooMany : PySem.W.exmOne K (.ref C_TooMany) (.ref C_TooMany) = some true
  kk_TooMany : PySem.W.kitOne K (.ref C_TooMany) (.ref C_TooMany) = some true
  ex_TooMany_NoPerson : PySem.W.exmOne K (.ref C_TooMany) (.ref C_NoPerson) = some false
  ki_TooMany_NoPerson : PySem.W.kitOne K (.ref C_TooMany) (.ref C_NoPerson) = some false
  ex_TooMany_NoNumber : PySem.W.exmOne K (.ref C_TooMany) (.ref C_NoNumber) = some false
  ki_TooMany_NoNumber : PySem.W.kitOne K (.ref C_TooMany) (.ref C_NoNumber) = some false
  ex_TooMany_NoDeed : PySem.W.exmOne K (.ref C_TooMany) (.ref C_NoDeed) = some false
  ki_TooMany_NoDeed : PySem.W.kitOne K (.ref C_TooMany) (.ref C_NoDeed) = some false
  ex_TooMany_OtherSize : PySem.W.exmOne K (.ref C_TooMany) (.ref C_OtherSize) = some false
  ki_TooMany_OtherSize : PySem.W.kitOne K (.ref C_TooMany) (.ref C_OtherSize) = some false
  ex_TooMany_NotResult : PySem.W.exmOne K (.ref C_TooMany) (.ref C_NotResult) = some false
  ki_TooMany_NotResult : PySem.W.kitOne K (.ref C_TooMany) (.ref C_NotResult) = some false
  ex_TooMany_NotShortest : PySem.W.exmOne K (.ref C_TooMany) (.ref C_NotShortest) = some false
  ki_TooMany_NotShortest : PySem.W.kitOne K (.ref C_TooMany) (.ref C_NotShortest) = some false
  ex_TooMany_NoWord : PySem.W.exmOne K (.ref C_TooMany) (.ref C_NoWord) = some false
  ki_TooMany_NoWord : PySem.W.kitOne K (.ref C_TooMany) (.ref C_NoWord) = some false
  ex_TooMany_BadDeed : PySem.W.exmOne K (.ref C_TooMany) (.ref C_BadDeed) = some false
  ki_TooMany_BadDeed : PySem.W.kitOne K (.ref C_TooMany) (.ref C_BadDeed) = some false
  ex_TooMany_BadText : PySem.W.exmOne K (.ref C_TooMany) (.ref C_BadText) = some false
  ki_TooMany_BadText : PySem.W.kitOne K (.ref C_TooMany) (.ref C_BadText) = some false
  ex_TooMany_BadLine : PySem.W.exmOne K (.ref C_TooMany) (.ref C_BadLine) = some false
  ki_TooMany_BadLine : PySem.W.kitOne K (.ref C_TooMany) (.ref C_BadLine) = some false
  ex_TooMany_NotSettled : PySem.W.exmOne K (.ref C_TooMany) (.ref C_NotSettled) = some false
  ki_TooMany_NotSettled : PySem.W.kitOne K (.ref C_TooMany) (.ref C_NotSettled) = some false
  ex_TooMany_Last : PySem.W.exmOne K (.ref C_TooMany) (.ref C_Last) = some false
  ki_TooMany_Last : PySem.W.kitOne K (.ref C_TooMany) (.ref C_Last) = some false
  kb_TooMany_LookupError : PySem.W.kitOne K (.ref C_TooMany) (.type "LookupError") = some false
  kb_TooMany_ValueError : PySem.W.kitOne K (.ref C_TooMany) (.type "ValueError") = some false
  kb_TooMany_RuntimeError : PySem.W.kitOne K (.ref C_TooMany) (.type "RuntimeError") = some false
  kb_TooMany_OverflowError : PySem.W.kitOne K (.ref C_TooMany) (.type "OverflowError") = some true
  kb_TooMany_KeyError : PySem.W.kitOne K (.ref C_TooMany) (.type "KeyError") = some false
  kb_TooMany_IndexError : PySem.W.kitOne K (.ref C_TooMany) (.type "IndexError") = some false
  vV_LookupError : PySem.W.findCls K (.type "LookupError") (.type "type") "__init__" = some (.val (.builtin "LookupError.__init__"))
  vV_OverflowError : PySem.W.findCls K (.type "OverflowError") (.type "type") "__init__" = some (.val (.builtin "OverflowError.__init__"))
  vV_RuntimeError : PySem.W.findCls K (.type "RuntimeError") (.type "type") "__init__" = some (.val (.builtin "RuntimeError.__init__"))
  vV_ValueError : PySem.W.findCls K (.type "ValueError") (.type "type") "__init__" = some (.val (.builtin "ValueError.__init__"))
theorem Env.b_i_NoPerson {K : PySem.W.Frag} {mg : Str → Option Value} (T : Env K mg) : Binds K T.d_i_NoPerson ["self", "person"] [] := T.F_i_NoPerson.binds fun _ _ _ _ _ _ us hl => match us, hl with | [_, _], _ => rfl
theorem Env.b_i_NoNumber {K : PySem.W.Frag} {mg : Str → Option Value} (T : Env K mg) : Binds K T.d_i_NoNumber ["self", "number"] [] := T.F_i_NoNumber.binds fun _ _ _ _ _ _ us hl => match us, hl with | [_, _], _ => rfl
theorem Env.b_i_NoDeed {K : PySem.W.Frag} {mg : Str → Option Value} (T : Env K mg) : Binds K T.d_i_NoDeed ["self", "many"] [] := T.F_i_NoDeed.binds fun _ _ _ _ _ _ us hl => match us, hl with | [_, _], _ => rfl
theorem Env.b_i_OtherSize {K : PySem.W.Frag} {mg : Str → Option Value} (T : Env K mg) : Binds K T.d_i_OtherSize ["self", "size"] [] := T.F_i_OtherSize.binds fun _ _ _ _ _ _ us hl => match us, hl with | [_, _], _ => rfl
theorem Env.b_i_NotResult {K : PySem.W.Frag} {mg : Str → Option Value} (T : Env K mg) : Binds K T.d_i_NotResult ["self", "pair"] [] := T.F_i_NotResult.binds fun _ _ _ _ _ _ us hl => match us, hl with | [_, _], _ => rfl
theorem Env.b_i_NotShortest {K : PySem.W.Frag} {mg : Str → Option Value} (T : Env K mg) : Binds K T.d_i_NotShortest ["self"] [] := T.F_i_NotShortest.binds fun _ _ _ _ _ _ us hl => match us, hl with | [_], _ => rfl
theorem Env.b_i_NoWord {K : PySem.W.Frag} {mg : Str → Option Value} (T : Env K mg) : Binds K T.d_i_NoWord ["self"] [] := T.F_i_NoWord.binds fun _ _ _ _ _ _ us hl => match us, hl with | [_], _ => rfl
theorem Env.b_i_BadDeed {K : PySem.W.Frag} {mg : Str → Option Value} (T : Env K mg) : Binds K T.d_i_BadDeed ["self", "at"] [] := T.F_i_BadDeed.binds fun _ _ _ _ _ _ us hl => match us, hl with | [_, _], _ => rfl
theorem Env.b_i_BadText {K : PySem.W.Frag} {mg : Str → Option Value} (T : Env K mg) : Binds K T.d_i_BadText ["self", "at"] [] := T.F_i_BadText.binds fun _ _ _ _ _ _ us hl => match us, hl with | [_, _], _ => rfl
theorem Env.b_i_BadLine {K : PySem.W.Frag} {mg : Str → Option Value} (T : Env K mg) : Binds K T.d_i_BadLine ["self", "at"] [] := T.F_i_BadLine.binds fun _ _ _ _ _ _ us hl => match us, hl with | [_, _], _ => rfl
theorem Env.b_i_NotSettled {K : PySem.W.Frag} {mg : Str → Option Value} (T : Env K mg) : Binds K T.d_i_NotSettled ["self", "many"] [] := T.F_i_NotSettled.binds fun _ _ _ _ _ _ us hl => match us, hl with | [_, _], _ => rfl
theorem Env.b_i_Last {K : PySem.W.Frag} {mg : Str → Option Value} (T : Env K mg) : Binds K T.d_i_Last ["self"] [] := T.F_i_Last.binds fun _ _ _ _ _ _ us hl => match us, hl with | [_], _ => rfl
theorem Env.b_i_TooMany {K : PySem.W.Frag} {mg : Str → Option Value} (T : Env K mg) : Binds K T.d_i_TooMany ["self", "size"] [] := T.F_i_TooMany.binds fun _ _ _ _ _ _ us hl => match us, hl with | [_, _], _ => rfl
theorem Env.b_same {K : PySem.W.Frag} {mg : Str → Option Value} (T : Env K mg) : Binds K T.d_same ["_law_found", "_law_due"] [] := T.F_same.binds fun _ _ _ _ _ _ us hl => match us, hl with | [_, _], _ => rfl
theorem Env.b_bases {K : PySem.W.Frag} {mg : Str → Option Value} (T : Env K mg) : Binds K T.d_bases ["_law_made"] [] := T.F_bases.binds fun _ _ _ _ _ _ us hl => match us, hl with | [_], _ => rfl
theorem Env.b_kinds {K : PySem.W.Frag} {mg : Str → Option Value} (T : Env K mg) : Binds K T.d_kinds ["_law_made"] [] := T.F_kinds.binds fun _ _ _ _ _ _ us hl => match us, hl with | [_], _ => rfl
theorem Env.b_all_right {K : PySem.W.Frag} {mg : Str → Option Value} (T : Env K mg) : Binds K T.d_all_right ["_law_made", "_law_base"] [] := T.F_all_right.binds fun _ _ _ _ _ _ us hl => match us, hl with | [_, _], _ => rfl
theorem Env.b_right {K : PySem.W.Frag} {mg : Str → Option Value} (T : Env K mg) : Binds K T.d_right ["_law_cell", "_law_duo"] [] := T.F_right.binds fun _ _ _ _ _ _ us hl => match us, hl with | [_, _], _ => rfl
end Pc
namespace Pc
open PySem PySem.Spec PyProof.Rows L2 RZ
section
variable {P : Program} {w : World} {K : PySem.W.Frag} {mg : Str → Option Value} {base : Heap}
theorem ok_i_NoPerson (T : Env K mg) : FnOk P w K mg base CX0 1 T.f_i_NoPerson T.d_i_NoPerson ["self", "person"] (spInit1 T.C_NoPerson "person") := by
  refine T.F_i_NoPerson.ok sc_i_NoPerson (fun vs H Q E h => ?_) (fun cdv A outer s H vs Q E hr h => ?_)
  · obtain ⟨a, v, rfl, _⟩ := h
    rfl
  · obtain ⟨a, v, rfl, ha, q⟩ := h
    refine ⟨_, pss_cons (ps_expr (pe_binit (o := .Constant .none 0 ⟨0, 0, 0, 0⟩) bsL.fb (by rfl) T.n_LookupError (by decide +kernel) (by decide) (by decide) (by kernel_rfl) (by decide +kernel) (by decide +kernel) T.vV_LookupError (pa_cons (pv 0) (pa_cons pe_str pa_nil)))) (pss_one (ps_os (newId := "LookupError.__new__") bsL.sf (pv 0) (pv 1))), ?_⟩
    exact ⟨.ref a, rfl, a, _, [.str _], rfl, (by show 1 ≤ 1000; decide), T.own_NoPerson, ha, v, rfl, .ref a, rfl, a, _, rfl, T.own_NoPerson, T.no_NoPerson, ha, fun dx n ne => q dx n ne⟩
end
end Pc
namespace Pc
open PySem PySem.Spec PyProof.Rows L2 RZ
section
variable {P : Program} {w : World} {K : PySem.W.Frag} {mg : Str → Option Value} {base : Heap}
theorem ok_i_NoNumber (T : Env K mg) : FnOk P w K mg base CX0 1 T.f_i_NoNumber T.d_i_NoNumber ["self", "number"] (spInit1 T.C_NoNumber "number") := by
  refine T.F_i_NoNumber.ok sc_i_NoNumber (fun vs H Q E h => ?_) (fun cdv A outer s H vs Q E hr h => ?_)
  · obtain ⟨a, v, rfl, _⟩ := h
    rfl
  · obtain ⟨a, v, rfl, ha, q⟩ := h
    refine ⟨_, pss_cons (ps_expr (pe_binit (o := .Constant .none 0 ⟨0, 0, 0, 0⟩) bsL.fb (by rfl) T.n_LookupError (by decide +kernel) (by decide) (by decide) (by kernel_rfl) (by decide +kernel) (by decide +kernel) T.vV_LookupError (pa_cons (pv 0) (pa_cons pe_str pa_nil)))) (pss_one (ps_os (newId := "LookupError.__new__") bsL.sf (pv 0) (pv 1))), ?_⟩
    exact ⟨.ref a, rfl, a, _, [.str _], rfl, (by show 1 ≤ 1000; decide), T.own_NoNumber, ha, v, rfl, .ref a, rfl, a, _, rfl, T.own_NoNumber, T.no_NoNumber, ha, fun dx n ne => q dx n ne⟩
end
end Pc
namespace Pc
open PySem PySem.Spec PyProof.Rows L2 RZ
section
variable {P : Program} {w : World} {K : PySem.W.Frag} {mg : Str → Option Value} {base : Heap}
theorem ok_i_NoDeed (T : Env K mg) : FnOk P w K mg base CX0 1 T.f_i_NoDeed T.d_i_NoDeed ["self", "many"] (spInit1 T.C_NoDeed "many") := by
  refine T.F_i_NoDeed.ok sc_i_NoDeed (fun vs H Q E h => ?_) (fun cdv A outer s H vs Q E hr h => ?_)
  · obtain ⟨a, v, rfl, _⟩ := h
    rfl
  · obtain ⟨a, v, rfl, ha, q⟩ := h
    refine ⟨_, pss_cons (ps_expr (pe_binit (o := .Constant .none 0 ⟨0, 0, 0, 0⟩) bsL.fb (by rfl) T.n_LookupError (by decide +kernel) (by decide) (by decide) (by kernel_rfl) (by decide +kernel) (by decide +kernel) T.vV_LookupError (pa_cons (pv 0) (pa_cons pe_str pa_nil)))) (pss_one (ps_os (newId := "LookupError.__new__") bsL.sf (pv 0) (pv 1))), ?_⟩
    exact ⟨.ref a, rfl, a, _, [.str _], rfl, (by show 1 ≤ 1000; decide), T.own_NoDeed, ha, v, rfl, .ref a, rfl, a, _, rfl, T.own_NoDeed, T.no_NoDeed, ha, fun dx n ne => q dx n ne⟩
end
end Pc
namespace Pc
open PySem PySem.Spec PyProof.Rows L2 RZ
section
variable {P : Program} {w : World} {K : PySem.W.Frag} {mg : Str → Option Value} {base : Heap}
theorem ok_i_OtherSize (T : Env K mg) : FnOk P w K mg base CX0 1 T.f_i_OtherSize T.d_i_OtherSize ["self", "size"] (spInit1 T.C_OtherSize "size") := by
  refine T.F_i_OtherSize.ok sc_i_OtherSize (fun vs H Q E h => ?_) (fun cdv A outer s H vs Q E hr h => ?_)
  · obtain ⟨a, v, rfl, _⟩ := h
    rfl
  · obtain ⟨a, v, rfl, ha, q⟩ := h
    refine ⟨_, pss_cons (ps_expr (pe_binit (o := .Constant .none 0 ⟨0, 0, 0, 0⟩) bsV.fb (by rfl) T.n_ValueError (by decide +kernel) (by decide) (by decide) (by kernel_rfl) (by decide +kernel) (by decide +kernel) T.vV_ValueError (pa_cons (pv 0) (pa_cons pe_str pa_nil)))) (pss_one (ps_os (newId := "ValueError.__new__") bsV.sf (pv 0) (pv 1))), ?_⟩
    exact ⟨.ref a, rfl, a, _, [.str _], rfl, (by show 1 ≤ 1000; decide), T.own_OtherSize, ha, v, rfl, .ref a, rfl, a, _, rfl, T.own_OtherSize, T.no_OtherSize, ha, fun dx n ne => q dx n ne⟩
end
end Pc
namespace Pc
open PySem PySem.Spec PyProof.Rows L2 RZ
section
variable {P : Program} {w : World} {K : PySem.W.Frag} {mg : Str → Option Value} {base : Heap}
theorem ok_i_BadDeed (T : Env K mg) : FnOk P w K mg base CX0 1 T.f_i_BadDeed T.d_i_BadDeed ["self", "at"] (spInit1 T.C_BadDeed "at") := by
  refine T.F_i_BadDeed.ok sc_i_BadDeed (fun vs H Q E h => ?_) (fun cdv A outer s H vs Q E hr h => ?_)
  · obtain ⟨a, v, rfl, _⟩ := h
    rfl
  · obtain ⟨a, v, rfl, ha, q⟩ := h
    refine ⟨_, pss_cons (ps_expr (pe_binit (o := .Constant .none 0 ⟨0, 0, 0, 0⟩) bsV.fb (by rfl) T.n_ValueError (by decide +kernel) (by decide) (by decide) (by kernel_rfl) (by decide +kernel) (by decide +kernel) T.vV_ValueError (pa_cons (pv 0) (pa_cons pe_str pa_nil)))) (pss_one (ps_os (newId := "ValueError.__new__") bsV.sf (pv 0) (pv 1))), ?_⟩
    exact ⟨.ref a, rfl, a, _, [.str _], rfl, (by show 1 ≤ 1000; decide), T.own_BadDeed, ha, v, rfl, .ref a, rfl, a, _, rfl, T.own_BadDeed, T.no_BadDeed, ha, fun dx n ne => q dx n ne⟩
end
end Pc
namespace Pc
open PySem PySem.Spec PyProof.Rows L2 RZ
section
variable {P : Program} {w : World} {K : PySem.W.Frag} {mg : Str → Option Value} {base : Heap}
theorem ok_i_BadText (T : Env K mg) : FnOk P w K mg base CX0 1 T.f_i_BadText T.d_i_BadText ["self", "at"] (spInit1 T.C_BadText "at") := by
  refine T.F_i_BadText.ok sc_i_BadText (fun vs H Q E h => ?_) (fun cdv A outer s H vs Q E hr h => ?_)
  · obtain ⟨a, v, rfl, _⟩ := h
    rfl
  · obtain ⟨a, v, rfl, ha, q⟩ := h
    refine ⟨_, pss_cons (ps_expr (pe_binit (o := .Constant .none 0 ⟨0, 0, 0, 0⟩) bsV.fb (by rfl) T.n_ValueError (by decide +kernel) (by decide) (by decide) (by kernel_rfl) (by decide +kernel) (by decide +kernel) T.vV_ValueError (pa_cons (pv 0) (pa_cons pe_str pa_nil)))) (pss_one (ps_os (newId := "ValueError.__new__") bsV.sf (pv 0) (pv 1))), ?_⟩
    exact ⟨.ref a, rfl, a, _, [.str _], rfl, (by show 1 ≤ 1000; decide), T.own_BadText, ha, v, rfl, .ref a, rfl, a, _, rfl, T.own_BadText, T.no_BadText, ha, fun dx n ne => q dx n ne⟩
end
end Pc
namespace Pc
open PySem PySem.Spec PyProof.Rows L2 RZ
section
variable {P : Program} {w : World} {K : PySem.W.Frag} {mg : Str → Option Value} {base : Heap}
theorem ok_i_BadLine (T : Env K mg) : FnOk P w K mg base CX0 1 T.f_i_BadLine T.d_i_BadLine ["self", "at"] (spInit1 T.C_BadLine "at") := by
  refine T.F_i_BadLine.ok sc_i_BadLine (fun vs H Q E h => ?_) (fun cdv A outer s H vs Q E hr h => ?_)
  · obtain ⟨a, v, rfl, _⟩ := h
    rfl
  · obtain ⟨a, v, rfl, ha, q⟩ := h
    refine ⟨_, pss_cons (ps_expr (pe_binit (o := .Constant .none 0 ⟨0, 0, 0, 0⟩) bsV.fb (by rfl) T.n_ValueError (by decide +kernel) (by decide) (by decide) (by kernel_rfl) (by decide +kernel) (by decide +kernel) T.vV_ValueError (pa_cons (pv 0) (pa_cons pe_str pa_nil)))) (pss_one (ps_os (newId := "ValueError.__new__") bsV.sf (pv 0) (pv 1))), ?_⟩
    exact ⟨.ref a, rfl, a, _, [.str _], rfl, (by show 1 ≤ 1000; decide), T.own_BadLine, ha, v, rfl, .ref a, rfl, a, _, rfl, T.own_BadLine, T.no_BadLine, ha, fun dx n ne => q dx n ne⟩
end
end Pc
namespace Pc
open PySem PySem.Spec PyProof.Rows L2 RZ
section
variable {P : Program} {w : World} {K : PySem.W.Frag} {mg : Str → Option Value} {base : Heap}
theorem ok_i_NotSettled (T : Env K mg) : FnOk P w K mg base CX0 1 T.f_i_NotSettled T.d_i_NotSettled ["self", "many"] (spInit1 T.C_NotSettled "many") := by
  refine T.F_i_NotSettled.ok sc_i_NotSettled (fun vs H Q E h => ?_) (fun cdv A outer s H vs Q E hr h => ?_)
  · obtain ⟨a, v, rfl, _⟩ := h
    rfl
  · obtain ⟨a, v, rfl, ha, q⟩ := h
    refine ⟨_, pss_cons (ps_expr (pe_binit (o := .Constant .none 0 ⟨0, 0, 0, 0⟩) bsR.fb (by rfl) T.n_RuntimeError (by decide +kernel) (by decide) (by decide) (by kernel_rfl) (by decide +kernel) (by decide +kernel) T.vV_RuntimeError (pa_cons (pv 0) (pa_cons pe_str pa_nil)))) (pss_one (ps_os (newId := "RuntimeError.__new__") bsR.sf (pv 0) (pv 1))), ?_⟩
    exact ⟨.ref a, rfl, a, _, [.str _], rfl, (by show 1 ≤ 1000; decide), T.own_NotSettled, ha, v, rfl, .ref a, rfl, a, _, rfl, T.own_NotSettled, T.no_NotSettled, ha, fun dx n ne => q dx n ne⟩
end
end Pc
namespace Pc
open PySem PySem.Spec PyProof.Rows L2 RZ
section
variable {P : Program} {w : World} {K : PySem.W.Frag} {mg : Str → Option Value} {base : Heap}
theorem ok_i_TooMany (T : Env K mg) : FnOk P w K mg base CX0 1 T.f_i_TooMany T.d_i_TooMany ["self", "size"] (spInit1 T.C_TooMany "size") := by
  refine T.F_i_TooMany.ok sc_i_TooMany (fun vs H Q E h => ?_) (fun cdv A outer s H vs Q E hr h => ?_)
  · obtain ⟨a, v, rfl, _⟩ := h
    rfl
  · obtain ⟨a, v, rfl, ha, q⟩ := h
    refine ⟨_, pss_cons (ps_expr (pe_binit (o := .Constant .none 0 ⟨0, 0, 0, 0⟩) bsO.fb (by rfl) T.n_OverflowError (by decide +kernel) (by decide) (by decide) (by kernel_rfl) (by decide +kernel) (by decide +kernel) T.vV_OverflowError (pa_cons (pv 0) (pa_cons pe_str pa_nil)))) (pss_one (ps_os (newId := "OverflowError.__new__") bsO.sf (pv 0) (pv 1))), ?_⟩
    exact ⟨.ref a, rfl, a, _, [.str _], rfl, (by show 1 ≤ 1000; decide), T.own_TooMany, ha, v, rfl, .ref a, rfl, a, _, rfl, T.own_TooMany, T.no_TooMany, ha, fun dx n ne => q dx n ne⟩
end
end Pc
namespace Pc
open PySem PySem.Spec PyProof.Rows L2 RZ
/-! ### errors without a field -/
def Flies0 (C : Addr) (H : Hp) (E : XK) : Prop := ∀ H', Same H H' → E (.ref C) none H'
theorem Flies0.same {C : Addr} {H H1 : Hp} {E : XK} (h : Flies0 C H E) (s : Same H H1) : Flies0 C H1 E := fun H' s' => h H' (s.trans s')
def spInit0 (C : Addr) : Sp := fun vs H Q _ => ∃ a : Addr, vs = [.ref a] ∧ H a = some (exo a C none) ∧ Q .non H
theorem raised0 {C : Addr} {H1 : Hp} {Q : XK} (h : Flies0 C H1 Q) : ([] : List V).length ≤ 1000 ∧ ∀ a, H1 a = none → spInit0 C (.ref a :: []) (upd H1 a (exo a C none))
    (fun v' H2 => v' = .non ∧ ((H2 a = some (exo a C none) ∧ Q (.ref C) none (del H2 a)) ∨ ∃ (d : Addr) (fs : List (Str × V)), H2 a = some (exo a C (some d)) ∧ H2 d = some (exd d fs) ∧ Q (.ref C) (some d) (upd (del H2 a) d (.xd fs)))) (fun _ _ _ => False) := by
  refine ⟨Nat.zero_le _, fun a na => ⟨a, rfl, upd_same, rfl, .inl ⟨upd_same, h _ fun b o hb => ?_⟩⟩⟩
  have hba := ne_of_none hb na
  rw [del_ne hba, upd_ne hba]; exact hb
theorem kept0 {K : PySem.W.Frag} {C : Addr} {cs : List Value} {i : Nat} {ts : Addr → TS} {D : Ends} {σ : L2.St} {H : Hp} (hh : Hits K (.ref C) cs)
    (h : ∀ H' a, Same H H' → H' a = none → ts a { nx := fun σ' H'' => D.nx (σ'.set i none) (upd H'' a (exk a (.ref C) none)), rt := fun _ _ => False } (σ.set i (some (.ref a))) H') :
    Flies0 C H (fun cls d H' => wKept K cs i ts D cls d σ H') := fun H' s => ⟨hh, fun a na => h H' a s na⟩
theorem Kept.mk0 {H' : Hp} {a C : Addr} : Kept (upd H' a (exk a (.ref C) none)) a C none := ⟨upd_same, .inl rfl⟩
theorem st_kept0 {D : L2.Ends} {i : Nat} {a C : Addr} {σ1 : L2.St} {H : Hp} (σ' : L2.St) (h : D.nx σ' (upd H a (exk a (.ref C) none))) (e : σ1.set i none = σ') :
    ({ nx := fun σ'' H'' => D.nx (σ''.set i none) (upd H'' a (exk a (.ref C) none)), rt := fun _ _ => False } : L2.Ends).nx σ1 H := by
  show D.nx (σ1.set i none) _
  rw [e]; exact h
section
variable {X : Cx} {C : Addr} {B newId initId : String} {bmB : List Value}
theorem pmk_e0 {x : Str} {fI : Addr} {k : Nat} {fd : FuncData} {ps : List Str} {sp : Sp} {CX : CXT} {p pos : Pos} (T : Own X.K newId bmB C) (F : ExcBaseFacts B newId initId bmB) (iC : PySem.W.findIn X.K (.ref C) "__init__" = some (some (.ref fI))) (tI : PySem.W.typeIn X.K (.ref fI) = some (.type "function"))
    (F1 : FnOk X.prog X.w X.K X.mg X.base CX k fI fd ps sp) (hr : Room (k + 1) X.A) (hb : Binds X.K fd ps []) (hx : Passes CX X (fun _ _ _ => False)) (hg : Gl X x) (hm : X.mg x = some (.ref C)) (hdb : (x == ("__debug__" : Str)) = false := by decide) :
    PMk X (.Call (.Name x p) [] [] pos) (tMkE C sp tNil) := by
  intro pins s σ H Q I h
  refine wpAny_Call_Name_kw (ld_glob I hg hm ?_ hdb)
  exact PySem.W.callWith_K0 I.kIn T.kC (made_run (us := []) (vs := []) T F iC tI F1 hr hb hx I .nil h.1 h.2)
end
end Pc
namespace Pc
open PySem PySem.Spec PyProof.Rows L2 RZ
/-! ### data -/
theorem dp_ints {K : PySem.W.Frag} {H : Hp} : ∀ ns : List Int, DpAll K H (ns.map V.int) (ns.map PyData.int)
  | [] => .nil
  | n :: r => .cons (.int n) (dp_ints r)
theorem lay_ints : ∀ ns : List Int, PyData.canLayAll0 (ns.map PyData.int) = true
  | [] => rfl
  | n :: r => by
    show (PyData.canLay0 (.int n) && PyData.canLayAll0 (r.map PyData.int)) = true
    rw [lay_ints r]; rfl
theorem depth_ints : ∀ ns : List Int, PyData.depthAll (ns.map PyData.int) = 0
  | [] => rfl
  | n :: r => by
    show max (PyData.depth (.int n)) (PyData.depthAll (r.map PyData.int)) = 0
    rw [depth_ints r]; rfl
theorem shaped_list {ds : List PyData} (h : PyData.canLayAll0 ds = true) (d : PyData.depthAll ds ≤ 63) : SeqAt.shaped (.list ds) = true := by
  unfold SeqAt.shaped
  rw [Bool.and_eq_true]
  exact ⟨h, decide_eq_true (show PyData.depthAll ds + 1 ≤ 64 by omega)⟩
theorem shaped_tuple {ds : List PyData} (h : PyData.canLayAll0 ds = true) (d : PyData.depthAll ds ≤ 63) : SeqAt.shaped (.tuple ds) = true := by
  unfold SeqAt.shaped
  rw [Bool.and_eq_true]
  exact ⟨h, decide_eq_true (show PyData.depthAll ds + 1 ≤ 64 by omega)⟩
theorem shaped_ints (ns : List Int) : SeqAt.shaped (.list (ns.map PyData.int)) = true := shaped_list (lay_ints ns) (by rw [depth_ints]; decide)
theorem shaped_intsT (ns : List Int) : SeqAt.shaped (.tuple (ns.map PyData.int)) = true := shaped_tuple (lay_ints ns) (by rw [depth_ints]; decide)
/-- what a slice of a list of ints is -/
theorem cut_ints (ns : List Int) (lo hi : Option Int) : ∃ ms : List Int, cutV (ns.map V.int) lo hi = ms.map V.int ∧ ms = (ns.drop (HT.sIx ns.length 0 lo)).take (HT.sIx ns.length ns.length hi - HT.sIx ns.length 0 lo) := by
  refine ⟨_, ?_, rfl⟩
  unfold cutV
  rw [List.length_map, List.map_take, List.map_drop]
theorem map_set_int (cs : List Int) (j : Nat) (v : Int) : (cs.map V.int).set j (.int v) = (cs.set j v).map V.int := by
  rw [List.map_set]
theorem small63 {n : Nat} (h : n ≤ 63) : n ≤ sizeLine := Nat.le_trans h (by decide)
end Pc
namespace Pc
open PySem PySem.Spec PyProof.Rows L2 RZ
/-! ### xs != [] for any items -/
def rNeNil (K : PySem.W.Frag) : R2 := fun x y H Q => ∃ a b xs, x = .ref a ∧ y = .ref b ∧ SqL K H a xs ∧ SqL K H b [] ∧ Q (.bl (!xs.isEmpty)) H
theorem op_neNil {X : Cx} (hu : X.A.units + 64 < cLine) : OpR X (compareOp .NotEq) (rNeNil X.K) := by
  intro pins s σ H x y v u Q I rx ry h
  obtain ⟨a, b, xs, rfl, rfl, h1, h2, q⟩ := h
  cases rx; cases ry
  obtain ⟨its, rv, p1, _⟩ := I.list h1
  obtain ⟨its2, rv2, p2, _⟩ := I.list h2
  have l1 := rv.length
  have l2 := rv2.length
  have hu0 : X.A.units < cLine := by omega
  cases xs with
  | nil =>
    have z1 : its.length = 0 := l1.symm
    have z2 : its2.length = 0 := l2.symm
    refine SeqAt.RcNeAt.lists (e := fun _ => true) p1.isList p2.isList (by simp [z1, z2]) hu0 (fun j j1 _ => ?_) X.prog X.w X.xe _ ?_
    · rw [List.size_toArray] at j1; omega
    · rw [List.size_toArray, z1]
      exact ⟨.bl false, H, I, rfl, q⟩
  | cons z r =>
    have z1 : its.length ≠ 0 := by rw [← l1]; simp
    have z2 : its2.length = 0 := l2.symm
    refine SeqAt.RcNeAt.lists_lengths p1.isList p2.isList (by simp [z2, z1]) hu0 X.prog X.w X.xe _ ?_
    exact ⟨.bl true, H, I, rfl, q⟩
theorem perm_erase {α : Type} : ∀ {l : List α} {i : Nat} (h : i < l.length), (l[i] :: l.eraseIdx i).Perm l
  | a :: r, 0, _ => List.Perm.refl _
  | a :: r, i + 1, h => (List.Perm.swap a (r[i]'(Nat.lt_of_succ_lt_succ h)) (r.eraseIdx i)).trans ((perm_erase (l := r) (i := i) (Nat.lt_of_succ_lt_succ h)).cons a)
/-- the place of an index that is not negative -/
theorem seq_ix {i : Int} {n : Nat} (h0 : 0 ≤ i) (h : i < n) : seqIndex? i n = some i.toNat := seqIndex_of h0 h
end Pc
namespace Pc
open PySem PySem.Spec PyProof.Rows L2 RZ
/-! ### pairings as lists of natural numbers -/
/-- the numbers as values -/
def nv (l : List Nat) : List V := l.map fun (i : Nat) => V.int (i : Int)
theorem nv_length (l : List Nat) : (nv l).length = l.length := List.length_map _
theorem nv_get {l : List Nat} {i x : Nat} (h : l[i]? = some x) : (nv l)[i]? = some (.int x) := by
  unfold nv; rw [List.getElem?_map, h]; rfl
theorem nv_at {l : List Nat} {i x : Nat} (h : l[i]? = some x) : atI (nv l) (i : Int) = some (.int x) := atI_nat (nv_get h)
theorem nv_set (l : List Nat) (i x : Nat) : (nv l).set i (.int (x : Int)) = nv (l.set i x) := by
  unfold nv; rw [List.map_set]
theorem nv_get' {l : List Nat} {i : Nat} {v : V} (h : (nv l)[i]? = some v) : ∃ x, l[i]? = some x ∧ v = .int (x : Int) := by
  unfold nv at h
  rw [List.getElem?_map] at h
  cases e : l[i]? with
  | none => rw [e] at h; cases h
  | some x => rw [e] at h; exact ⟨x, rfl, (Option.some.inj h).symm⟩
theorem ixN_nat {n i : Nat} (h : i < n) : ixN n (i : Int) = some i := by
  unfold ixN
  rw [if_pos (by omega), if_pos (by omega)]; rfl
theorem get_some {α : Type} {l : List α} {i : Nat} (h : i < l.length) : ∃ x, l[i]? = some x := ⟨_, List.getElem?_eq_getElem h⟩
theorem get_lt {α : Type} {l : List α} {i : Nat} {x : α} (h : l[i]? = some x) : i < l.length := (List.getElem?_eq_some_iff.mp h).1
/-- a pairing of n people -/
structure IsPair (n : Nat) (ps : List Nat) : Prop where
  len : ps.length = n
  par : ∀ x, x < n → ∃ y, ps[x]? = some y ∧ y < n ∧ y ≠ x ∧ ps[y]? = some x
/-- after t turns: the first t pairs are joined -/
def PInv (os fs : List Nat) (t : Nat) : Prop := fs.length = os.length ∧ ∀ j, j < t → ∀ x y, os[2 * j]? = some x → os[2 * j + 1]? = some y → fs[x]? = some y ∧ fs[y]? = some x
theorem PInv.step {os fs : List Nat} {t x y : Nat} (hnd : os.Nodup) (hlt : ∀ z ∈ os, z < os.length) (h : PInv os fs t) (hx : os[2 * t]? = some x) (hy : os[2 * t + 1]? = some y) :
    PInv os ((fs.set x y).set y x) (t + 1) := by
  obtain ⟨hl, hp⟩ := h
  have xl : x < fs.length := by rw [hl]; exact hlt x (List.mem_of_getElem? hx)
  have yl : y < fs.length := by rw [hl]; exact hlt y (List.mem_of_getElem? hy)
  have xy : x ≠ y := fun e => by
    subst e
    have := nd_ix hnd hx hy
    omega
  refine ⟨by rw [List.length_set, List.length_set, hl], fun j hj u v hu hv => ?_⟩
  by_cases e : j = t
  · subst e
    have e1 : u = x := Option.some.inj (hu.symm.trans hx)
    have e2 : v = y := Option.some.inj (hv.symm.trans hy)
    subst e1 e2
    refine ⟨?_, ?_⟩
    · rw [List.getElem?_set_ne (Ne.symm xy), List.getElem?_set_self xl]
    · rw [List.getElem?_set_self (by rw [List.length_set]; exact yl)]
  · obtain ⟨h1, h2⟩ := hp j (by omega) u v hu hv
    have a1 : x ≠ u := fun z => by subst z; have := nd_ix hnd hx hu; omega
    have a2 : y ≠ u := fun z => by subst z; have := nd_ix hnd hy hu; omega
    have a3 : x ≠ v := fun z => by subst z; have := nd_ix hnd hx hv; omega
    have a4 : y ≠ v := fun z => by subst z; have := nd_ix hnd hy hv; omega
    refine ⟨?_, ?_⟩
    · rw [List.getElem?_set_ne a2, List.getElem?_set_ne a1]; exact h1
    · rw [List.getElem?_set_ne a4, List.getElem?_set_ne a3]; exact h2
theorem PInv.done {os fs : List Nat} {n : Nat} (hp : os.Perm (List.range n)) (he : n % 2 = 0) (h : PInv os fs (n / 2)) : IsPair n fs := by
  have hl : os.length = n := by rw [hp.length_eq, List.length_range]
  have hnd : os.Nodup := hp.nodup_iff.mpr List.nodup_range
  refine ⟨by rw [h.1, hl], fun x hx => ?_⟩
  have hm : x ∈ os := hp.mem_iff.mpr (List.mem_range.mpr hx)
  obtain ⟨i, hi, ei⟩ := List.mem_iff_getElem.mp hm
  have gi : os[i]? = some x := by rw [List.getElem?_eq_getElem hi, ei]
  have lt_n : ∀ {k z : Nat}, os[k]? = some z → z < n := fun {k z} hz => List.mem_range.mp (hp.mem_iff.mp (List.mem_of_getElem? hz))
  by_cases hq : i % 2 = 0
  · have i1 : i + 1 < os.length := by omega
    obtain ⟨y, gy⟩ := get_some i1
    have g1 : os[2 * (i / 2)]? = some x := by rw [show 2 * (i / 2) = i by omega]; exact gi
    have g2 : os[2 * (i / 2) + 1]? = some y := by rw [show 2 * (i / 2) + 1 = i + 1 by omega]; exact gy
    obtain ⟨r1, r2⟩ := h.2 (i / 2) (by omega) x y g1 g2
    exact ⟨y, r1, lt_n gy, fun e => by subst e; have := nd_ix hnd gi gy; omega, r2⟩
  · have i1 : i - 1 < os.length := by omega
    obtain ⟨y, gy⟩ := get_some i1
    have g1 : os[2 * (i / 2)]? = some y := by rw [show 2 * (i / 2) = i - 1 by omega]; exact gy
    have g2 : os[2 * (i / 2) + 1]? = some x := by rw [show 2 * (i / 2) + 1 = i by omega]; exact gi
    obtain ⟨r1, r2⟩ := h.2 (i / 2) (by omega) y x g1 g2
    exact ⟨y, r2, lt_n gy, fun e => by subst e; have := nd_ix hnd gi gy; omega, r1⟩
/-- range(0, n, 2) -/
theorem fits_long {i : Int} (h1 : -(2 ^ 62) ≤ i) (h2 : i < 2 ^ 62) : Builtin.Range.rangeFitsLong i = true := by
  unfold Builtin.Range.rangeFitsLong
  rw [Bool.and_eq_true]
  exact ⟨decide_eq_true (by omega), decide_eq_true (by omega)⟩
theorem rgc_two {n : Nat} (h : n ≤ 1000000) : RgC 0 (n : Int) 2 ((n + 1) / 2) := by
  have e : Builtin.Range.rangeSize 0 (n : Int) 2 = (((n + 1) / 2 : Nat) : Int) := by
    unfold Builtin.Range.rangeSize
    rw [if_pos (by decide)]
    split <;> omega
  refine ⟨by decide, by decide, ?_, e⟩
  unfold Builtin.Range.small
  rw [e, fits_long (i := 0) (by decide) (by decide), fits_long (i := (n : Int)) (by omega) (by omega), fits_long (i := 2) (by decide) (by decide), fits_long (i := (((n + 1) / 2 : Nat) : Int)) (by omega) (by omega), if_pos (by decide), fits_long (i := (n : Int) + (2 - 1)) (by omega) (by omega), Bool.or_true]
  rfl
theorem rep_flat {α : Type} (n : Nat) (x : α) : (List.replicate n [x]).flatten = List.replicate n x := by
  induction n with
  | zero => rfl
  | succ n ih => rw [List.replicate_succ, List.flatten_cons, ih, List.replicate_succ]; rfl
end Pc
namespace Pc
open PySem PySem.Spec PyProof.Rows L2 RZ
theorem perm_map_inv {α β : Type} (f : α → β) {zs ys : List β} (h : zs.Perm ys) : ∀ l : List α, zs = l.map f → ∃ l' : List α, ys = l'.map f ∧ l'.Perm l := by
  induction h with
  | nil => exact fun l e => ⟨l, e, List.Perm.refl _⟩
  | cons x _ ih =>
    intro l e
    cases l with
    | nil => cases e
    | cons a r =>
      injection e with e1 e2
      obtain ⟨l', h1, h2⟩ := ih r e2
      exact ⟨a :: l', by rw [h1, e1]; rfl, h2.cons a⟩
  | swap x y t =>
    intro l e
    cases l with
    | nil => cases e
    | cons a r =>
      cases r with
      | nil => injection e with _ e2; cases e2
      | cons b r =>
        injection e with e1 e2
        injection e2 with e2 e3
        exact ⟨b :: a :: r, by rw [e1, e2, e3]; rfl, List.Perm.swap _ _ _⟩
  | trans _ _ ih1 ih2 =>
    intro l e
    obtain ⟨l1, h1, h2⟩ := ih1 l e
    obtain ⟨l2, h3, h4⟩ := ih2 l1 h1
    exact ⟨l2, h3, h4.trans h2⟩
theorem rg_nv (n : Nat) : rgV 0 (n : Int) = nv (List.range n) := by
  unfold rgV nv
  rw [Int.sub_zero, Int.toNat_natCast]
  refine List.map_congr_left fun i _ => ?_
  rw [Int.zero_add]
end Pc
namespace Pc
open PySem PySem.Spec PyProof.Rows L2 RZ
/-! ### data where more is tracked -/
theorem same_tup {K : PySem.W.Frag} {H H' : Hp} {a : Addr} {xs : List V} (e : Same H H') (h : SqT K H a xs) : SqT K H' a xs := by
  rcases h with (h | ⟨o, h⟩) | h
  · exact .inl (.inl (e _ _ h))
  · exact .inl (.inr ⟨o, e _ _ h⟩)
  · exact .inr h
mutual
theorem dp_same {K : PySem.W.Frag} {H H' : Hp} (e : Same H H') : ∀ {v : V} {d : PyData}, Dp K H v d → Dp K H' v d
  | _, _, .non => .non
  | _, _, .bl b => .bl b
  | _, _, .int i => .int i
  | _, _, .str x => .str x
  | _, _, .lst h a => .lst (e.seq h) (dpa_same e a)
  | _, _, .tup h a => .tup (same_tup e h) (dpa_same e a)
theorem dpa_same {K : PySem.W.Frag} {H H' : Hp} (e : Same H H') : ∀ {vs : List V} {ds : List PyData}, DpAll K H vs ds → DpAll K H' vs ds
  | _, _, .nil => .nil
  | _, _, .cons h a => .cons (dp_same e h) (dpa_same e a)
end
theorem dpa_len {K : PySem.W.Frag} {H : Hp} : ∀ {vs : List V} {ds : List PyData}, DpAll K H vs ds → vs.length = ds.length
  | _, _, .nil => rfl
  | _, _, .cons _ a => by rw [List.length_cons, List.length_cons, dpa_len a]
theorem dpa_get {K : PySem.W.Frag} {H : Hp} : ∀ {vs : List V} {ds : List PyData} {i : Nat} {v : V}, DpAll K H vs ds → vs[i]? = some v → ∃ d, ds[i]? = some d ∧ Dp K H v d
  | _, _, _, _, .nil, h => by simp at h
  | _, _, 0, _, .cons (d := d) h _, e => by
    cases Option.some.inj e
    exact ⟨d, rfl, h⟩
  | _, _, i + 1, v, .cons _ a, e => dpa_get (i := i) a e
theorem depth_get : ∀ {ds : List PyData} {i : Nat} {d : PyData}, ds[i]? = some d → d.depth ≤ PyData.depthAll ds
  | [], _, _, h => by simp at h
  | d :: r, 0, _, h => by
    cases Option.some.inj h
    exact Nat.le_max_left _ _
  | d :: r, i + 1, x, h => Nat.le_trans (depth_get (i := i) (ds := r) h) (Nat.le_max_right _ _)
mutual
/-- no list in it is longer than a hundred thousand -/
def narrow : PyData → Prop
  | .list xs => xs.length ≤ 100000 ∧ narrowAll xs
  | .tuple xs => xs.length ≤ 100000 ∧ narrowAll xs
  | _ => True
def narrowAll : List PyData → Prop
  | [] => True
  | x :: xs => narrow x ∧ narrowAll xs
end
theorem narrow_get : ∀ {ds : List PyData} {i : Nat} {d : PyData}, narrowAll ds → ds[i]? = some d → narrow d
  | [], _, _, _, h => by simp at h
  | d :: r, 0, _, n, h => by
    cases Option.some.inj h
    exact n.1
  | d :: r, i + 1, x, n, h => narrow_get (i := i) (ds := r) n.2 h
theorem narrow_of : ∀ {ds : List PyData}, (∀ d ∈ ds, narrow d) → narrowAll ds
  | [], _ => trivial
  | d :: r, h => ⟨h d List.mem_cons_self, narrow_of fun x hx => h x (List.mem_cons_of_mem _ hx)⟩
theorem narrow_ints (ns : List Int) : narrowAll (ns.map PyData.int) := narrow_of fun d hd => by
  obtain ⟨i, _, rfl⟩ := List.mem_map.mp hd
  exact trivial
theorem line_big {n : Nat} (h : n ≤ 100000) : n < sizeLine := Nat.lt_of_le_of_lt h (by decide)
theorem ty_lst {K : PySem.W.Frag} {H : Hp} {a : Addr} {xs : List V} (h : SqL K H a xs) : TyX K H (.ref a) (.type "list") := by
  rcases h with (h | ⟨o, h⟩) | ⟨o, its, n, h, c, _⟩
  · exact .base (.lst h)
  · exact .base (.frz h)
  · exact .kList h c
theorem ty_tup {K : PySem.W.Frag} {H : Hp} {a : Addr} {xs : List V} (h : SqT K H a xs) : TyX K H (.ref a) (.type "tuple") := by
  rcases h with (h | ⟨o, h⟩) | ⟨o, its, n, h, c, _⟩
  · exact .base (.tup h)
  · exact .fTuple h
  · exact .kTuple h c
theorem kit2 {K : PySem.W.Frag} {t a b : String} {p q : Bool} (h1 : kitB t a = some p) (h2 : kitB t b = some q) : PySem.W.kitAny K (.type t) [.type a, .type b] = some (p || q) := by
  refine kitAny_cons (kit_ty h1) (fun e => kitAny_cons (kit_ty h2) (fun e2 => ?_) (fun e2 => ?_)) (fun e => ?_)
  · subst e e2; rfl
  · subst e e2; rfl
  · subst e; rfl
section
variable {K : PySem.W.Frag}
theorem any_lt_int : PySem.W.kitAny K (.type "int") [.type "list", .type "tuple"] = some false := kit2 (p := false) (q := false) (by decide +kernel) (by decide +kernel)
theorem any_sb_int : PySem.W.kitAny K (.type "int") [.type "str", .type "bool"] = some false := kit2 (p := false) (q := false) (by decide +kernel) (by decide +kernel)
theorem any_bs_int : PySem.W.kitAny K (.type "int") [.type "bool", .type "str"] = some false := kit2 (p := false) (q := false) (by decide +kernel) (by decide +kernel)
theorem one_int_int : PySem.W.kitOne K (.type "int") (.type "int") = some true := kit_ty (by decide +kernel)
theorem one_int_bool : PySem.W.kitOne K (.type "int") (.type "bool") = some false := kit_ty (by decide +kernel)
theorem one_int_list : PySem.W.kitOne K (.type "int") (.type "list") = some false := kit_ty (by decide +kernel)
theorem one_int_tuple : PySem.W.kitOne K (.type "int") (.type "tuple") = some false := kit_ty (by decide +kernel)
theorem any_lt_none : PySem.W.kitAny K (.type "NoneType") [.type "list", .type "tuple"] = some false := kit2 (p := false) (q := false) (by decide +kernel) (by decide +kernel)
theorem any_sb_none : PySem.W.kitAny K (.type "NoneType") [.type "str", .type "bool"] = some false := kit2 (p := false) (q := false) (by decide +kernel) (by decide +kernel)
theorem any_bs_none : PySem.W.kitAny K (.type "NoneType") [.type "bool", .type "str"] = some false := kit2 (p := false) (q := false) (by decide +kernel) (by decide +kernel)
theorem one_none_int : PySem.W.kitOne K (.type "NoneType") (.type "int") = some false := kit_ty (by decide +kernel)
theorem one_none_bool : PySem.W.kitOne K (.type "NoneType") (.type "bool") = some false := kit_ty (by decide +kernel)
theorem one_none_list : PySem.W.kitOne K (.type "NoneType") (.type "list") = some false := kit_ty (by decide +kernel)
theorem one_none_tuple : PySem.W.kitOne K (.type "NoneType") (.type "tuple") = some false := kit_ty (by decide +kernel)
theorem any_lt_bool : PySem.W.kitAny K (.type "bool") [.type "list", .type "tuple"] = some false := kit2 (p := false) (q := false) (by decide +kernel) (by decide +kernel)
theorem any_sb_bool : PySem.W.kitAny K (.type "bool") [.type "str", .type "bool"] = some true := kit2 (p := false) (q := true) (by decide +kernel) (by decide +kernel)
theorem any_bs_bool : PySem.W.kitAny K (.type "bool") [.type "bool", .type "str"] = some true := kit2 (p := true) (q := false) (by decide +kernel) (by decide +kernel)
theorem one_bool_int : PySem.W.kitOne K (.type "bool") (.type "int") = some true := kit_ty (by decide +kernel)
theorem one_bool_bool : PySem.W.kitOne K (.type "bool") (.type "bool") = some true := kit_ty (by decide +kernel)
theorem one_bool_list : PySem.W.kitOne K (.type "bool") (.type "list") = some false := kit_ty (by decide +kernel)
theorem one_bool_tuple : PySem.W.kitOne K (.type "bool") (.type "tuple") = some false := kit_ty (by decide +kernel)
theorem any_lt_str : PySem.W.kitAny K (.type "str") [.type "list", .type "tuple"] = some false := kit2 (p := false) (q := false) (by decide +kernel) (by decide +kernel)
theorem any_sb_str : PySem.W.kitAny K (.type "str") [.type "str", .type "bool"] = some true := kit2 (p := true) (q := false) (by decide +kernel) (by decide +kernel)
theorem any_bs_str : PySem.W.kitAny K (.type "str") [.type "bool", .type "str"] = some true := kit2 (p := false) (q := true) (by decide +kernel) (by decide +kernel)
theorem one_str_int : PySem.W.kitOne K (.type "str") (.type "int") = some false := kit_ty (by decide +kernel)
theorem one_str_bool : PySem.W.kitOne K (.type "str") (.type "bool") = some false := kit_ty (by decide +kernel)
theorem one_str_list : PySem.W.kitOne K (.type "str") (.type "list") = some false := kit_ty (by decide +kernel)
theorem one_str_tuple : PySem.W.kitOne K (.type "str") (.type "tuple") = some false := kit_ty (by decide +kernel)
theorem any_lt_list : PySem.W.kitAny K (.type "list") [.type "list", .type "tuple"] = some true := kit2 (p := true) (q := false) (by decide +kernel) (by decide +kernel)
theorem any_sb_list : PySem.W.kitAny K (.type "list") [.type "str", .type "bool"] = some false := kit2 (p := false) (q := false) (by decide +kernel) (by decide +kernel)
theorem any_bs_list : PySem.W.kitAny K (.type "list") [.type "bool", .type "str"] = some false := kit2 (p := false) (q := false) (by decide +kernel) (by decide +kernel)
theorem one_list_int : PySem.W.kitOne K (.type "list") (.type "int") = some false := kit_ty (by decide +kernel)
theorem one_list_bool : PySem.W.kitOne K (.type "list") (.type "bool") = some false := kit_ty (by decide +kernel)
theorem one_list_list : PySem.W.kitOne K (.type "list") (.type "list") = some true := kit_ty (by decide +kernel)
theorem one_list_tuple : PySem.W.kitOne K (.type "list") (.type "tuple") = some false := kit_ty (by decide +kernel)
theorem any_lt_tuple : PySem.W.kitAny K (.type "tuple") [.type "list", .type "tuple"] = some true := kit2 (p := false) (q := true) (by decide +kernel) (by decide +kernel)
theorem any_sb_tuple : PySem.W.kitAny K (.type "tuple") [.type "str", .type "bool"] = some false := kit2 (p := false) (q := false) (by decide +kernel) (by decide +kernel)
theorem any_bs_tuple : PySem.W.kitAny K (.type "tuple") [.type "bool", .type "str"] = some false := kit2 (p := false) (q := false) (by decide +kernel) (by decide +kernel)
theorem one_tuple_int : PySem.W.kitOne K (.type "tuple") (.type "int") = some false := kit_ty (by decide +kernel)
theorem one_tuple_bool : PySem.W.kitOne K (.type "tuple") (.type "bool") = some false := kit_ty (by decide +kernel)
theorem one_tuple_list : PySem.W.kitOne K (.type "tuple") (.type "list") = some false := kit_ty (by decide +kernel)
theorem one_tuple_tuple : PySem.W.kitOne K (.type "tuple") (.type "tuple") = some true := kit_ty (by decide +kernel)
end
theorem cls2 (a b : String) : Paired ClsV [.ty a, .ty b] [.type a, .type b] := .cons (.ty a) (.cons (.ty b) .nil)
/-- zip of two tuples -/
theorem walk_zipT {K : PySem.W.Frag} {a b : Addr} {xs ys : List V} {n : Nat} (hn : n = min xs.length ys.length) : Walk (ItzT K a b) n (fun H => SqT K H a xs ∧ SqT K H b ys) (YPair (fun i => xs[i]?) (fun i => ys[i]?)) := by
  subst hn
  refine ⟨fun i _ hi q => ?_, fun _ q => ⟨xs, ys, q.1, q.2, by omega⟩, fun i H v H' _ q y => ?_⟩
  · obtain ⟨x, hx⟩ := get_some (l := xs) (i := i) (by omega)
    obtain ⟨z, hz⟩ := get_some (l := ys) (i := i) (by omega)
    exact ⟨xs, ys, x, z, q.1, q.2, hx, hz⟩
  · obtain ⟨T, x, z, h1, h2, h3, h4, h5⟩ := y
    exact ⟨T, x, z, h1, h2, h3, h4 xs q.1, h5 ys q.2⟩
theorem fn_never {P : Program} {w : World} {K : PySem.W.Frag} {mg : Str → Option Value} {base : Heap} {CX : CXT} {k : Nat} {f : Addr} {fd : FuncData} {ps : List Str} {sp : Sp} (h : ∀ vs H Q E, ¬ sp vs H Q E) : FnOk P w K mg base CX k f fd ps sp :=
  ⟨fun vs H Q E q => absurd q (h vs H Q E), fun _ _ _ H _ _ vs Q E _ _ _ _ q => absurd q (h vs H Q E)⟩
/-- a comprehension without a test -/
theorem yes_if {σ : L2.St} {H : Hp} {A B : Hp → Prop} (h : A H) : tYes σ H (fun b H3 => if b = true then A H3 else B H3) := by
  show if true = true then A H else B H
  exact iteT h
theorem all_rep : ∀ n : Nat, (List.replicate n true).all id = true
  | 0 => rfl
  | n + 1 => by rw [List.replicate_succ, List.all_cons, all_rep n]; rfl
end Pc
namespace Pc
open PySem PySem.Spec PyProof.Rows L2 RZ
section
variable {P : Program} {w : World} {K : PySem.W.Frag} {mg : Str → Option Value} {base : Heap}
/-! ### the same data twice -/
def spSame (K : PySem.W.Frag) (n : Nat) : Sp := fun vs H Q _ => ∃ (x y : V) (d : PyData), vs = [x, y] ∧ Dp K H x d ∧ Dp K H y d ∧ d.depth < n ∧ narrow d ∧ ∀ H', Same H H' → Q (.bl true) H'
theorem same_step (T : Env K mg) (n : Nat) (G : FnOk P w K mg base CX0 n T.f_same T.d_same ["_law_found", "_law_due"] (spSame K n)) : FnOk P w K mg base CX0 (n + 1) T.f_same T.d_same ["_law_found", "_law_due"] (spSame K (n + 1)) := by
  refine T.F_same.ok sc_same (fun vs H Q E h => ?_) (fun cdv A outer s H vs Q E hr h => ?_)
  · obtain ⟨x, y, d, rfl, _⟩ := h
    rfl
  · obtain ⟨x, y, d, rfl, hx, hy, hd, hw, q⟩ := h
    refine ⟨_, pss_cons (ps_if (pt_val (pe_callB call_isiT (by rfl) T.n_isinstance (by decide +kernel) (pa_cons (pv 1) (pa_cons (pe_tup (pa_cons (pe_bltn (v := .ty "list") (by rfl) T.n_list (by decide +kernel) rfl) (pa_cons (pe_bltn (v := .ty "tuple") (by rfl) T.n_tuple (by decide +kernel) rfl) pa_nil))) pa_nil))))
        (pss_cons (ps_if (PW.pt (pw_or (pt_cmpR op_ne (pe_callB call_isi (by rfl) T.n_isinstance (by decide +kernel) (pa_cons (pv 0) (pa_cons (pe_bltn (v := .ty "list") (by rfl) T.n_list (by decide +kernel) rfl) pa_nil))) (pe_callB call_isi (by rfl) T.n_isinstance (by decide +kernel) (pa_cons (pv 1) (pa_cons (pe_bltn (v := .ty "list") (by rfl) T.n_list (by decide +kernel) rfl) pa_nil))) (nomark _))
            (pw_or1 (pt_cmpR op_ne (pe_callB call_isi (by rfl) T.n_isinstance (by decide +kernel) (pa_cons (pv 0) (pa_cons (pe_bltn (v := .ty "tuple") (by rfl) T.n_tuple (by decide +kernel) rfl) pa_nil))) (pe_callB call_isi (by rfl) T.n_isinstance (by decide +kernel) (pa_cons (pv 1) (pa_cons (pe_bltn (v := .ty "tuple") (by rfl) T.n_tuple (by decide +kernel) rfl) pa_nil))) (nomark _)))))
          (pss_one (ps_ret pe_bl)) pss_nil)
        (pss_one (ps_ret (pe_and (pe_cmpR op_eq (pe_callB call_len_seq (by rfl) T.n_len PySem.boot_len (pa_cons (pv 0) pa_nil)) (pe_callB call_len_seq (by rfl) T.n_len PySem.boot_len (pa_cons (pv 1) pa_nil)) (nomark _))
          (pe_one (pe_callB (cr_all rfl) (by rfl) T.n_all (by decide +kernel) (pa_cons
            (pe_lc (own := [("_law_mine", 2), ("_law_its", 3)]) (g := gTup K 2 (gCons (gName 2) (gCons (gName 3) gNil))) (tt := tYes) (by rfl) sc_same.nd (pi_zipA (by rfl) T.n_zip (pa_cons (pv 0) (pa_cons (pv 1) pa_nil)))
              (blkOk_by (N := N_same) (sc := defScope s_same) (by decide +kernel))
              (fun _ _ _ _ _ => pg_tup (by rfl) (pgs_cons (pg_name (i := 2) sc_same.nd rfl (.inl rfl)) (pgs_cons (pg_name (i := 3) sc_same.nd rfl (.inl rfl)) pgs_nil)))
              (fun _ _ _ _ _ => pts_nil)
              (fun _ _ _ _ _ => pe_call G hr (by rfl) T.g_same T.F_same.kp T.b_same .nil pass0 (pa_cons (pv 2) (pa_cons (pv 3) pa_nil)))) pa_nil))))))) pss_nil)
      (pss_cons (ps_if (PW.pt (pw_or (pt_cmpR op_isN (pv 1) pe_non (nomark _)) (pw_or1 (pt_val (pe_callB call_isiT (by rfl) T.n_isinstance (by decide +kernel) (pa_cons (pv 1) (pa_cons (pe_tup (pa_cons (pe_bltn (v := .ty "bool") (by rfl) T.n_bool (by decide +kernel) rfl) (pa_cons (pe_bltn (v := .ty "str") (by rfl) T.n_str (by decide +kernel) rfl) pa_nil))) pa_nil)))))))
        (pss_one (ps_ret (pe_and (pe_cmpR op_eq (pv 0) (pv 1) (nomark _))
          (pe_and (pe_cmpR op_eq (pe_callB call_isi (by rfl) T.n_isinstance (by decide +kernel) (pa_cons (pv 0) (pa_cons (pe_bltn (v := .ty "bool") (by rfl) T.n_bool (by decide +kernel) rfl) pa_nil))) (pe_callB call_isi (by rfl) T.n_isinstance (by decide +kernel) (pa_cons (pv 1) (pa_cons (pe_bltn (v := .ty "bool") (by rfl) T.n_bool (by decide +kernel) rfl) pa_nil))) (nomark _))
          (pe_one (pe_cmpR op_eq (pe_cmpR op_isN (pv 0) pe_non (nomark _)) (pe_cmpR op_isN (pv 1) pe_non (nomark _)) (nomark _))))))) pss_nil)
      (pss_one (ps_ret (pe_and (pe_callB call_isi (by rfl) T.n_isinstance (by decide +kernel) (pa_cons (pv 0) (pa_cons (pe_bltn (v := .ty "int") (by rfl) T.n_int (by decide +kernel) rfl) pa_nil)))
        (pe_and (pe_not (pe_callB call_isi (by rfl) T.n_isinstance (by decide +kernel) (pa_cons (pv 0) (pa_cons (pe_bltn (v := .ty "bool") (by rfl) T.n_bool (by decide +kernel) rfl) pa_nil)))) (pe_one (pe_cmpR op_eq (pv 0) (pv 1) (nomark _)))))))), ?_⟩
    cases d with
    | dict _ => cases hx
    | int i =>
      cases hx; cases hy
      refine ⟨_, rfl, by show 2 ≤ sizeLine; decide, fun t nt => ⟨_, t, _, _, _, _, rfl, upd_same, cls2 _ _, .base (.int i), any_lt_int, _, rfl, iteF ?_⟩⟩
      refine ⟨_, rfl, rfl, _, rfl, iteF ⟨_, rfl, by show 2 ≤ sizeLine; decide, fun u nu => ⟨_, u, _, _, _, _, rfl, upd_same, cls2 _ _, .base (.int i), any_bs_int, _, rfl, iteF ?_⟩⟩⟩
      refine ⟨_, rfl, _, _, _, _, _, rfl, .ty _, .base (.int i), one_int_int, _, rfl, iteT ⟨_, rfl, _, _, _, _, _, rfl, .ty _, .base (.int i), one_int_bool, _, rfl, _, rfl, iteT ⟨_, rfl, _, rfl, rfl, ?_⟩⟩⟩
      rw [decide_eq_true rfl]
      exact q _ ((same_new nt).trans (same_new nu))
    | none =>
      cases hx; cases hy
      refine ⟨_, rfl, by show 2 ≤ sizeLine; decide, fun t nt => ⟨_, t, _, _, _, _, rfl, upd_same, cls2 _ _, .base .non, any_lt_none, _, rfl, iteF ?_⟩⟩
      refine ⟨_, rfl, rfl, _, rfl, iteT ?_⟩
      refine ⟨_, rfl, _, rfl, rfl, _, rfl, iteT ⟨_, rfl, _, _, _, _, _, rfl, .ty _, .base .non, one_none_bool, _, rfl, _, _, _, _, _, rfl, .ty _, .base .non, one_none_bool, rfl, _, rfl, iteT ⟨_, rfl, rfl, _, rfl, rfl, rfl, ?_⟩⟩⟩
      exact q _ (same_new nt)
    | bool b =>
      cases hx; cases hy
      refine ⟨_, rfl, by show 2 ≤ sizeLine; decide, fun t nt => ⟨_, t, _, _, _, _, rfl, upd_same, cls2 _ _, .base (.bl b), any_lt_bool, _, rfl, iteF ?_⟩⟩
      refine ⟨_, rfl, rfl, _, rfl, iteF ⟨_, rfl, by show 2 ≤ sizeLine; decide, fun u nu => ⟨_, u, _, _, _, _, rfl, upd_same, cls2 _ _, .base (.bl b), any_bs_bool, _, rfl, iteT ?_⟩⟩⟩
      refine ⟨_, rfl, _, rfl, rfl, _, rfl, ?_⟩
      rw [decide_eq_true rfl]
      refine iteT ⟨_, rfl, _, _, _, _, _, rfl, .ty _, .base (.bl b), one_bool_bool, _, rfl, _, _, _, _, _, rfl, .ty _, .base (.bl b), one_bool_bool, rfl, _, rfl, iteT ⟨_, rfl, rfl, _, rfl, rfl, rfl, ?_⟩⟩
      rw [decide_eq_true rfl]
      exact q _ ((same_new nt).trans (same_new nu))
    | str z =>
      cases hx; cases hy
      refine ⟨_, rfl, by show 2 ≤ sizeLine; decide, fun t nt => ⟨_, t, _, _, _, _, rfl, upd_same, cls2 _ _, .base (.str z), any_lt_str, _, rfl, iteF ?_⟩⟩
      refine ⟨_, rfl, rfl, _, rfl, iteF ⟨_, rfl, by show 2 ≤ sizeLine; decide, fun u nu => ⟨_, u, _, _, _, _, rfl, upd_same, cls2 _ _, .base (.str z), any_bs_str, _, rfl, iteT ?_⟩⟩⟩
      refine ⟨_, rfl, _, rfl, rfl, _, rfl, ?_⟩
      rw [decide_eq_true rfl]
      refine iteT ⟨_, rfl, _, _, _, _, _, rfl, .ty _, .base (.str z), one_str_bool, _, rfl, _, _, _, _, _, rfl, .ty _, .base (.str z), one_str_bool, rfl, _, rfl, iteT ⟨_, rfl, rfl, _, rfl, rfl, rfl, ?_⟩⟩
      rw [decide_eq_true rfl]
      exact q _ ((same_new nt).trans (same_new nu))
    | list ds =>
      cases hx with
      | lst hsx hax =>
      cases hy with
      | lst hsy hay =>
      rename_i a xs b ys
      have hlx := dpa_len hax
      have hly := dpa_len hay
      obtain ⟨hw1, hw2⟩ := hw
      refine ⟨_, rfl, by show 2 ≤ sizeLine; decide, fun t nt => ?_⟩
      have s1 : Same H (upd H t (.tup [.ty "list", .ty "tuple"])) := same_new nt
      have hsx1 := Same.seq s1 hsx
      have hsy1 := Same.seq s1 hsy
      refine ⟨_, t, _, _, _, _, rfl, upd_same, cls2 _ _, ty_lst hsy1, any_lt_list, _, rfl, iteT ?_⟩
      refine ⟨_, rfl, _, _, _, _, _, rfl, .ty _, ty_lst hsx1, one_list_list, _, rfl, _, _, _, _, _, rfl, .ty _, ty_lst hsy1, one_list_list, rfl, _, rfl, iteNS rfl ?_⟩
      refine ⟨_, rfl, _, _, _, _, _, rfl, .ty _, ty_lst hsx1, one_list_tuple, _, rfl, _, _, _, _, _, rfl, .ty _, ty_lst hsy1, one_list_tuple, rfl, _, rfl, iteNS rfl ?_⟩
      refine ⟨_, rfl, a, xs, rfl, .inl hsx1, _, rfl, b, ys, rfl, .inl hsy1, rfl, _, rfl, ?_⟩
      rw [decide_eq_true (show V.int (xs.length : Int) = V.int (ys.length : Int) by rw [hlx, hly])]
      refine iteT ⟨_, rfl, _, rfl, a, b, xs, ys, rfl, .inl ⟨hsx1, hsy1, fun D nD => ?_⟩⟩
      have nD0 : H D = none := s1.free nD
      refine lc_it (walk_zip (n := xs.length) (by omega)) (fun i H' => Same H H' ∧ H' D = some (.lst (List.replicate i (.bl true)))) ⟨s1.trans (same_new nD), upd_same⟩ (fun i H' _ h => ⟨Same.seq h.1 hsx, Same.seq h.1 hsy⟩) (fun i v H1 H2 hi h yy => ?_) (fun H' h => ?_)
      · obtain ⟨sm, eD⟩ := h
        obtain ⟨tp, u, v, rfl, nT, rfl, g1, g2⟩ := yy
        obtain ⟨d1, e1, f1⟩ := dpa_get hax g1
        obtain ⟨d2, e2, f2⟩ := dpa_get hay g2
        cases Option.some.inj (e1.symm.trans e2)
        have st : Same H (upd H1 tp (.tup [u, v])) := sm.trans (same_new nT)
        refine ⟨tp, _, rfl, .inl (.inl upd_same), rfl, _, _, rfl, _, _, rfl, rfl, rfl, yes_if ?_⟩
        refine ⟨_, rfl, _, rfl, u, v, d1, rfl, dp_same st f1, dp_same st f2, ?_, narrow_get hw2 e1, fun H3 s3 => ⟨_, s3 _ _ (same_new nT _ _ eD), ?_, ?_, ?_⟩⟩
        · have := depth_get e1
          have hd' : PyData.depthAll ds + 1 < n + 1 := hd
          omega
        · rw [List.length_replicate]
          exact line_big (by omega)
        · intro c o hc
          rw [upd_ne (ne_of_none hc nD0)]
          exact s3 _ _ (st _ _ hc)
        · rw [upd_same, List.replicate_succ']
      · obtain ⟨sm, eD⟩ := h
        refine ⟨D, List.replicate xs.length true, rfl, ?_, ?_⟩
        · rw [List.map_replicate]
          exact .inl (.inl eD)
        · rw [all_rep]
          exact q _ sm
    | tuple ds =>
      cases hx with
      | tup hsx hax =>
      cases hy with
      | tup hsy hay =>
      rename_i a xs b ys
      have hlx := dpa_len hax
      have hly := dpa_len hay
      obtain ⟨hw1, hw2⟩ := hw
      refine ⟨_, rfl, by show 2 ≤ sizeLine; decide, fun t nt => ?_⟩
      have s1 : Same H (upd H t (.tup [.ty "list", .ty "tuple"])) := same_new nt
      have hsx1 := same_tup s1 hsx
      have hsy1 := same_tup s1 hsy
      refine ⟨_, t, _, _, _, _, rfl, upd_same, cls2 _ _, ty_tup hsy1, any_lt_tuple, _, rfl, iteT ?_⟩
      refine ⟨_, rfl, _, _, _, _, _, rfl, .ty _, ty_tup hsx1, one_tuple_list, _, rfl, _, _, _, _, _, rfl, .ty _, ty_tup hsy1, one_tuple_list, rfl, _, rfl, iteNS rfl ?_⟩
      refine ⟨_, rfl, _, _, _, _, _, rfl, .ty _, ty_tup hsx1, one_tuple_tuple, _, rfl, _, _, _, _, _, rfl, .ty _, ty_tup hsy1, one_tuple_tuple, rfl, _, rfl, iteNS rfl ?_⟩
      refine ⟨_, rfl, a, xs, rfl, .inr hsx1, _, rfl, b, ys, rfl, .inr hsy1, rfl, _, rfl, ?_⟩
      rw [decide_eq_true (show V.int (xs.length : Int) = V.int (ys.length : Int) by rw [hlx, hly])]
      refine iteT ⟨_, rfl, _, rfl, a, b, xs, ys, rfl, .inr ⟨hsx1, hsy1, fun D nD => ?_⟩⟩
      have nD0 : H D = none := s1.free nD
      refine lc_it (walk_zipT (n := xs.length) (by omega)) (fun i H' => Same H H' ∧ H' D = some (.lst (List.replicate i (.bl true)))) ⟨s1.trans (same_new nD), upd_same⟩ (fun i H' _ h => ⟨same_tup h.1 hsx, same_tup h.1 hsy⟩) (fun i v H1 H2 hi h yy => ?_) (fun H' h => ?_)
      · obtain ⟨sm, eD⟩ := h
        obtain ⟨tp, u, v, rfl, nT, rfl, g1, g2⟩ := yy
        obtain ⟨d1, e1, f1⟩ := dpa_get hax g1
        obtain ⟨d2, e2, f2⟩ := dpa_get hay g2
        cases Option.some.inj (e1.symm.trans e2)
        have st : Same H (upd H1 tp (.tup [u, v])) := sm.trans (same_new nT)
        refine ⟨tp, _, rfl, .inl (.inl upd_same), rfl, _, _, rfl, _, _, rfl, rfl, rfl, yes_if ?_⟩
        refine ⟨_, rfl, _, rfl, u, v, d1, rfl, dp_same st f1, dp_same st f2, ?_, narrow_get hw2 e1, fun H3 s3 => ⟨_, s3 _ _ (same_new nT _ _ eD), ?_, ?_, ?_⟩⟩
        · have := depth_get e1
          have hd' : PyData.depthAll ds + 1 < n + 1 := hd
          omega
        · rw [List.length_replicate]
          exact line_big (by omega)
        · intro c o hc
          rw [upd_ne (ne_of_none hc nD0)]
          exact s3 _ _ (st _ _ hc)
        · rw [upd_same, List.replicate_succ']
      · obtain ⟨sm, eD⟩ := h
        refine ⟨D, List.replicate xs.length true, rfl, ?_, ?_⟩
        · rw [List.map_replicate]
          exact .inl (.inl eD)
        · rw [all_rep]
          exact q _ sm
theorem ok_same (T : Env K mg) : ∀ n : Nat, FnOk P w K mg base CX0 n T.f_same T.d_same ["_law_found", "_law_due"] (spSame K n)
  | 0 => fn_never fun vs H Q E h => by
    obtain ⟨x, y, d, _, _, _, hd, _⟩ := h
    exact absurd hd (Nat.not_lt_zero _)
  | n + 1 => same_step T n (ok_same T n)
end
end Pc
namespace Pc
open PySem PySem.Spec PyProof.Rows L2 RZ
/-! ### enumerate of a tuple -/
theorem draws_tuple {prog : Program} {w : World} {A : Around} (hh : A.handled = none) (it l : Addr) (hne : l ≠ it) (items : Array Value) :
    Draws prog w A it [it, l] items.size (fun i v => items[i]? = some v) (fun i h => h.IsTupleIter it l i ∧ h.IsTuple l items) where
  live i h st := by
    obtain ⟨⟨o, ho, _⟩, _⟩ := st
    exact ⟨o, ho⟩
  frame i h h' st hk := ⟨Heap.IsTupleIter.at st.1 (hk it (by simp)), Heap.IsTuple.at st.2 (hk l (by simp))⟩
  item i s Q E hi st hQ := by
    have hx : items[i]? = some items[i] := by simp [hi]
    exact nextOf_tuple_item st.1 st.2 hx fun h' hit' hs' => hQ _ h' s.toks hx ⟨hit', st.2.extBut hs'.extBut hne⟩ hs'
  done s Q E st hE := nextOf_tuple_end hh st.1 st.2 (by simp) hE
set_option maxHeartbeats 4000000 in
theorem enum_newT (l : Addr) (items : Array Value) (n : Nat) (dct : Option Addr) (sl : Array (Option Value)) :
    Meets (Builtin.«enumerate.__new__» ⟨[.type "enumerate", .ref l], []⟩) (fun _ R s =>
      s.heap.get? l = some { cls := .type "tuple", dict := dct, data := .seq items n, slots := sl } ∧
      R (.ok (.ret (.ref (s.heap.push { cls := .type "tuple_iterator", data := .fields #[.ref l, .int 0 0] }).objs.size)))
        { s with heap := Heap.push (s.heap.push { cls := .type "tuple_iterator", data := .fields #[.ref l, .int 0 0] }) { cls := .type "enumerate", data := .fields #[.none, .bool false, .ref s.heap.objs.size, rawInt 0, .none, .none] } }) := by
  refine .of_wp fun prog w A R s h => ?_
  obtain ⟨hp, g, d, tk, os⟩ := s
  obtain ⟨hl, h⟩ := h
  have subE := sub_enumerate
  have isT : Heap.IsTuple (Shared.heap ⟨hp, g, d, tk, os⟩) l items := ⟨_, hl, rfl, n, rfl⟩
  wp_walk using AutoSeq1.wpAny_loadPart' hl
  refine wpAny_stack_any fun st => wpAny_pure ?_
  split
  · rename_i c _ _ _ _ _
    cases (c == Value.type "enumerate") <;> (wp_walk using AutoSeq1.wpAny_loadPart' hl, wpAny_pyIter_tuple isT; exact ⟨_, rfl, h⟩)
  · wp_walk using AutoSeq1.wpAny_loadPart' hl, wpAny_pyIter_tuple isT
    exact ⟨_, rfl, h⟩
theorem call_enumT {prog : Program} {w : World} {A : Around} {E : Value → Shared → Prop} {s : Shared} {l : Addr} {items : Array Value} {Q : Value → Shared → Prop} (hL : s.heap.IsTuple l items)
    (h : ∀ h', IsEnum h' (s.heap.objs.size + 1) s.heap.objs.size 0 .none → h'.IsTupleIter s.heap.objs.size l 0 →
      (∀ b o, s.heap.get? b = some o → h'.get? b = some o) → Q (.ref (s.heap.objs.size + 1)) { s with heap := h' }) :
    wpAny (model prog w) A (call (.type "enumerate") [.ref l]) Q E s := by
  obtain ⟨⟨c, dct, dt, sl⟩, hl, hc, n, hd⟩ := hL
  have hc' : c = .type "tuple" := hc
  have hd' : dt = .seq items n := hd
  subst hc' hd'
  refine callType_new F.called_enumerate (by decide) (F.typeCall_enumerate_1 _) (F.newCall_enumerate_1 _) (fun obj => F.args_object_init_2 obj _) F.entry_enumerate_new (enum_newT l items n dct sl) ⟨hl, ?_⟩
  have hz : (s.heap.push { cls := .type "tuple_iterator", data := .fields #[.ref l, .int 0 0] }).objs.size = s.heap.objs.size + 1 := Heap.size_push ..
  have he := Heap.get?_push_size (s.heap.push { cls := .type "tuple_iterator", data := .fields #[.ref l, .int 0 0] })
    (o := { cls := .type "enumerate", data := .fields #[.none, .bool false, .ref s.heap.objs.size, rawInt 0, .none, .none] }) rfl
  rw [hz] at he
  show _ ∧ _
  rw [hz]
  exact ⟨⟨_, he, rfl⟩, h _ he ⟨{ cls := .type "tuple_iterator", data := .fields #[.ref l, .int 0 0] }, Heap.get?_push_of_some _ (Heap.get?_push_size _ rfl), rfl, rfl⟩ fun b o x => Heap.get?_push_of_some _ (Heap.get?_push_of_some _ x)⟩
/-- the tuple at a, its items in new pairs with their places -/
def IteT (K : PySem.W.Frag) (a : Addr) : It where
  go i H := ∃ (xs : List V) (x : V), SqT K H a xs ∧ xs[i]? = some x
  yld i H v H' := ∃ T x, v = .ref T ∧ H T = none ∧ H' = upd H T (.tup [.int (i : Nat), x]) ∧ ∀ xs, SqT K H a xs → xs[i]? = some x
  stop i H := ∃ xs : List V, SqT K H a xs ∧ xs.length ≤ i
theorem turn_enumT {P : Program} {w : World} {K : PySem.W.Frag} {elts : List Expr} {kk : Nat} {tpos : Pos} (a e it : Addr) (hei : e ≠ it) (hae : a ≠ e) (hai : a ≠ it) :
    Turn P w K (.Tuple elts kk tpos) (IteT K a) [e, it] e (fun i h => (∃ old, IsEnum h e it ((i : Nat) : Int) old) ∧ h.IsTupleIter it a i) where
  mem := by simp
  obj i h st b hb := by
    obtain ⟨⟨old, he⟩, ⟨o, ho, hc, hd⟩⟩ := st
    rcases (show b = e ∨ b = it by simpa using hb) with z | z
    · rw [z]; exact ⟨_, he, fun v q => nomatch q⟩
    · rw [z]; exact ⟨o, ho, fun v q => by rw [hd] at q; cases q⟩
  keep i h h' st k := by
    obtain ⟨⟨old, he⟩, hi⟩ := st
    exact ⟨⟨old, k e (by simp) _ he⟩, hi.at fun o q => k it (by simp) o q⟩
  item := by
    intro X hP hw hK hc i pins s σ H E I hf st hg
    subst hP hw hK
    obtain ⟨⟨old, he⟩, hit⟩ := st
    obtain ⟨xs, x, hq, hx⟩ := hg
    obtain ⟨its, rv, p, hz⟩ := I.tuple hq
    have p2 : s.heap.IsTuple a its.toArray := p
    obtain ⟨u, hu, ru⟩ := rv.get hx
    have hlt : i < its.toArray.size := by
      rw [List.size_toArray]
      exact get_lt hu
    have D := draws_tuple (prog := X.prog) (w := X.w) (A := X.A.in1) (show X.A.in1.handled = none from I.ok.hd hc) it a hai its.toArray
    have hel : e < s.heap.objs.size := Heap.lt_size he
    have hil : it < s.heap.objs.size := by obtain ⟨_, q, _⟩ := hit; exact Heap.lt_size q
    refine wpAny_pyNext_enum_itemD D he ⟨hit, p2⟩ hlt hei (by simp [hei, hae.symm]) fun y h' tk hy ho hst hT hsz hk => ?_
    have ey : y = u := by
      have : its.toArray[i]? = some y := hy
      rw [List.getElem?_toArray, hu] at this
      exact (Option.some.inj this).symm
    subst ey
    refine ⟨_, rfl, wpAny_letOwnedTupleGo_enum (s := { s with heap := h', toks := tk + 1 }) ho fun h'' he' sb => ?_⟩
    have hT2 : h''.get? s.heap.objs.size = some { cls := .type "tuple", data := .seq #[.int i tk, y] } := (sb.2 _ (Nat.ne_of_gt hel)).trans hT
    have new : ObjOk X.prog X.w (upd H s.heap.objs.size (.tup [.int (i : Nat), x])) h'' s.heap.objs.size (.tup [.int (i : Nat), x]) :=
      ⟨by show 2 ≤ sizeLine; decide, [.int i tk, y], .cons ⟨_, rfl⟩ (.cons ru .nil), ⟨_, hT2, rfl, _, rfl⟩⟩
    have I1 := I.turnedNew (t' := tk + 1) (h' := h'') (ch := [e, it]) (fun b ob hb q => (sb.2 b (fun z => hb (by simp [z]))).trans (hk b ob (fun z => hb (by simp [z])) (fun z => hb (by simp [z])) q)) hf (Nat.le_refl _) new
    refine ⟨.ref s.heap.objs.size, _, I1, rfl, ⟨_, x, rfl, I.hok.fresh (Nat.le_refl _), rfl, fun ys hy => by rw [I.tuple_inj hy hq]; exact hx⟩, ⟨⟨y, ?_⟩, hst.1.at fun o q => (sb.2 it hei.symm).trans q⟩, fun b hb => ?_⟩
    · rw [show ((i + 1 : Nat) : Int) = (i : Int) + 1 by omega]; exact he'
    · have hb' : b < s.heap.objs.size := by
        rcases (show b = e ∨ b = it by simpa using hb) with z | z
        · rw [z]; exact hel
        · rw [z]; exact hil
      rw [upd_ne (Nat.ne_of_lt hb')]
      exact (hf b hb).1
  done := by
    intro X hP hw hK hc i pins s σ H E I hf st hg
    subst hP hw hK
    obtain ⟨⟨old, he⟩, hit⟩ := st
    obtain ⟨xs, hq, hx⟩ := hg
    obtain ⟨its, rv, p, hz⟩ := I.tuple hq
    have p2 : s.heap.IsTuple a its.toArray := p
    obtain ⟨f0, f1, f2, f3, f4, f5⟩ := hf it (by simp)
    have hl := rv.length
    have hT : s.TypeIs (.ref e) "enumerate" := ⟨_, he, rfl⟩
    unfold pyNext
    refine wpAny_bind (wpAny_attempt (wpAny_callSpecial?_slot (name := Str.ofString "__next__") hT F.slot_enumerate_next (wpAny_call_entry F.slot_enumerate_next hT F.entry_enumerate_next ?_ (F.args_enumerate_next_1 _))))
    show wpAny _ _ (field (.ref e) 2 >>= _) _ _ _
    refine wpAny_bind (wpAny_field he rfl (x := .ref it) rfl ?_)
    refine wpAny_bind (nextOf_tuple_end (show X.A.in1.handled = none from I.ok.hd hc) hit p2 (by simp; omega) fun h' x he' hx' => ?_)
    obtain ⟨o, ho, hcl⟩ := hx'
    refine wpAny_bind (wpAny_isInstance (T := "StopIteration") (b := true) ⟨o, ho, hcl⟩ isSubtype_stop ?_)
    exact wpAny_pure ⟨rfl, I.turned (t' := s.toks) (fun b o hb q => he' b o hb q) f0 f1 f3 f4 f5⟩
  self A i s Q E st h := by
    obtain ⟨⟨_, he⟩, _⟩ := st
    exact wpAny_pyIter_enum he h
/-- enumerate of a list or a tuple -/
def iEnumA (K : PySem.W.Frag) (ta : TA) : TI := fun σ H R => ta σ H fun vs H1 => ∃ a xs, vs = [.ref a] ∧ ((SqL K H1 a xs ∧ R (Ite K a) H1) ∨ (SqT K H1 a xs ∧ R (IteT K a) H1))
theorem pi_enumA {X : Cx} {e : Expr} {ta : TA} {p pos tpos : Pos} {elts : List Expr} {kk : Nat} (hg : Gl X "enumerate") (hm : X.mg "enumerate" = none) (ha : PA X [e] ta) (hs : starEach [e] X.env = [(false, eval e X.env)] := by rfl) :
    PI X (.Tuple elts kk tpos) (.Call (.Name "enumerate" p) [e] [] pos) (iEnumA X.K ta) := by
  constructor
  intro pins s σ H R I h
  refine Call_ (ld_blt I hg hm boot_enumerate (callWith_type1 (thn (ha.run pos pins s σ H _ I h) fun us s1 r => ?_) hs rfl))
  obtain ⟨vs, H1, I1, r1, a, xs, ex, q1⟩ := r
  subst ex
  cases r1 with
  | cons r rr =>
    cases rr
    cases r
    have fr : ∀ b, b ∈ [s1.heap.objs.size + 1, s1.heap.objs.size] → FpOk X pins H1 b := fun b hb => by
      have hle : s1.heap.objs.size ≤ b := by
        rcases (show b = s1.heap.objs.size + 1 ∨ b = s1.heap.objs.size by simpa using hb) with z | z <;> omega
      exact I1.fpOk hle (I1.hok.fresh hle)
    rcases q1 with ⟨hq, q⟩ | ⟨hq, q⟩
    · obtain ⟨its, rv, p', hz⟩ := I1.list hq
      refine call_enumerate_list p'.isList fun h' he hit _ hk => wpAny_pyIter_enum he ?_
      exact ⟨_, _, _, _, H1, rfl, I1.kept (t' := s1.toks) hk, turn_enum a (s1.heap.objs.size + 1) s1.heap.objs.size, ⟨⟨.none, he⟩, hit, Nat.succ_ne_self _⟩, fr, q⟩
    · obtain ⟨its, rv, p', hz⟩ := I1.tuple hq
      have p2 : s1.heap.IsTuple a its.toArray := p'
      have hlt : a < s1.heap.objs.size := by obtain ⟨o, ho, _⟩ := p2; exact Heap.lt_size ho
      refine call_enumT p2 fun h' he hit hk => wpAny_pyIter_enum he ?_
      exact ⟨_, _, _, _, H1, rfl, I1.kept (t' := s1.toks) hk, turn_enumT a (s1.heap.objs.size + 1) s1.heap.objs.size (Nat.succ_ne_self _) (Nat.ne_of_lt (Nat.lt_succ_of_lt hlt)) (Nat.ne_of_lt hlt), ⟨⟨.none, he⟩, hit⟩, fr, q⟩
theorem walk_enumT {K : PySem.W.Frag} {a : Addr} {xs : List V} : Walk (IteT K a) xs.length (fun H => SqT K H a xs) (YPair (fun i => some (.int (i : Nat))) (fun i => xs[i]?)) where
  goes i H hi q := by
    obtain ⟨x, hx⟩ := get_some hi
    exact ⟨xs, x, q, hx⟩
  stops H q := ⟨xs, q, Nat.le_refl _⟩
  yields i H v H' hi q y := by
    obtain ⟨T, x, h1, h2, h3, h4⟩ := y
    exact ⟨T, .int (i : Nat), x, h1, h2, h3, rfl, h4 xs q⟩
end Pc
namespace Pc
open PySem PySem.Spec PyProof.Rows L2 RZ
/-! ### t[::-1] of a pair -/
section
variable {prog : Program} {w : World} {A : Around} {E : Value → Shared → Prop} {s : Shared}
theorem applied_rev2 {sl : Addr} {vk : Value} {Q : Int × Int × Nat → Shared → Prop} (hs : s.heap.IsSliceOf sl .none .none vk) (pk : IsPart vk (some (-1))) (h : Q (1, -1, 2) s) :
    wpAny (model prog w) A (Builtin.Slice.sliceApplied (.ref sl) (pure (2 : Int))) Q E s := by
  obtain ⟨os, hos, hcs, hds⟩ := id hs
  unfold Builtin.Slice.sliceApplied Builtin.Slice.sliceFields
  refine wpAny_bind (wpAny_bind (wpAny_field hos hds (x := .none) rfl ?_))
  refine wpAny_bind (wpAny_field hos hds (x := .none) rfl ?_)
  refine wpAny_bind (wpAny_field hos hds (x := vk) rfl (wpAny_pure ?_))
  refine wpAny_bind (HT.slicePart_ pk ?_)
  show wpAny _ _ (if ((-1 : Int) == 0) = true then _ else _) _ _ s
  rw [if_neg (by decide)]
  refine wpAny_bind (HT.slicePart_ .none (wpAny_bind (HT.slicePart_ .none (wpAny_bind (wpAny_pure ?_)))))
  exact wpAny_pure h
theorem item_rev2 {t sl : Addr} {u v vk : Value} {Q : Value → Shared → Prop} (ht : IsTup s.heap t #[u, v]) (hs : s.heap.IsSliceOf sl .none .none vk) (pk : IsPart vk (some (-1)))
    (h : Q (.ref s.heap.objs.size) { s with heap := s.heap.push { cls := .type "tuple", data := .seq #[v, u] } }) : wpAny (model prog w) A (getItem (.ref t) (.ref sl)) Q E s := by
  obtain ⟨os, hos, hcs, hds⟩ := id hs
  have hTs : s.TypeIs (.ref sl) "slice" := ⟨os, hos, hcs⟩
  unfold getItem
  try with_reducible refine wpAny_holding ?_
  first | refine wpAny_bind (wpAny_pure ?_) | skip
  refine wpAny_bind (wpAny_sequenceKey ht.typeIs (by decide) ?_)
  refine wpAny_bind (wpAny_callSpecial?_slot (name := Str.ofString "__getitem__") ht.typeIs PyProof.Rows.slot_tuple_getitem (wpAny_call_entry PyProof.Rows.slot_tuple_getitem ht.typeIs entry_tuple_getitem ?_ (args_tuple_getitem _ _)))
  show wpAny _ _ (Builtin.Tuple.tupleItemsOf (.ref t) >>= _) _ _ s
  refine wpAny_bind (tupleItemsOf_ ht ?_)
  refine wpAny_bind (wpAny_typeOf hTs ?_)
  rw [if_pos (by decide)]
  refine wpAny_bind (applied_rev2 hs pk ?_)
  show wpAny _ _ (if ((1 : Int) == 0 && (-1 : Int) == 1 && (2 : Nat) == 2) = true then _ else _) _ _ s
  rw [if_neg (by decide)]
  have e : ((List.range 2).filterMap fun (k : Nat) => (#[u, v] : Array Value)[((1 : Int) + (k : Int) * -1).toNat]?).toArray = #[v, u] := rfl
  rw [e]
  have hz : sizeOk (.seq (#[v, u] : Array Value)) := by show 2 ≤ sizeLine; decide
  first
    | exact wpAny_bind (m := Builtin.Tuple.tupleExact _) (wpAny_newObj_type (wpAny_pure ⟨_, rfl, wpAny_pure h⟩) hz)
    | exact wpAny_bind (wpAny_bind (m := Builtin.Tuple.tupleExact _) (wpAny_newObj_type (wpAny_pure (wpAny_pure ⟨_, rfl, wpAny_pure h⟩)) hz))
    | exact wpAny_bind (wpAny_bind (m := Builtin.Tuple.tupleExact _) (wpAny_newObj_type (wpAny_pure ⟨_, rfl, wpAny_pure h⟩) hz))
    | exact wpAny_bind (m := Builtin.Tuple.tupleExact _) (wpAny_newObj_type (wpAny_bind (wpAny_pure (wpAny_pure ⟨_, rfl, wpAny_pure h⟩))) hz)
end
def tRev2 (K : PySem.W.Frag) (te : TE) : TE := fun σ H Q => te σ H fun x H1 => ∃ a y z, x = .ref a ∧ SqT K H1 a [y, z] ∧ ∀ p, H1 p = none → Q (.ref p) (upd H1 p (.tup [z, y]))
theorem pe_rev2 {X : Cx} {e : Expr} {te : TE} {k : Nat} {p1 p2 p3 pos : Pos} (he : PE X e te) : PE X (.Subscript e (.Slice none none (some (.UnaryOp .USub (.Constant (.int 1) k p1) p2)) p3) pos) (tRev2 X.K te) := by
  constructor
  intro pins s σ H Q I h
  refine Subscript_ (thn (he.run pins s σ H _ I h) fun v s1 r => ?_)
  obtain ⟨x, H1, I1, r1, a, y, z, ex, hx, q⟩ := r
  subst ex
  cases r1
  have hst : PO X (some (.UnaryOp .USub (.Constant (.int 1) k p1) p2)) (tPart (tUn (rU fun i => .int (-i)) (tC (.int 1)))) := po_some (pe_un un_neg pe_int)
  refine wpAny_Slice (thn (po_none.run pins s1 σ H1 (fun o H2 => o = none ∧ H2 = H1) I1 ⟨rfl, rfl⟩) fun vl s2 ⟨l, H2, I2, pl, el, e2⟩ => ?_)
  subst el e2
  refine thn (po_none.run pins s2 σ H2 (fun o H3 => o = none ∧ H3 = H2) I2 ⟨rfl, rfl⟩) fun vu s3 ⟨u, H3, I3, pu, eu, e3⟩ => ?_
  subst eu e3
  refine thn (hst.run pins s3 σ H3 (fun o H4 => o = some (-1) ∧ H4 = H3) I3 ⟨1, rfl, -1, rfl, rfl, rfl⟩) fun vs s4 ⟨o, H4, I4, ps, eo, e4⟩ => ?_
  subst eo e4
  cases pl
  cases pu
  have I5 : Inv X pins σ H4 { s4 with heap := s4.heap.push { cls := .type "slice", data := .fields #[.none, .none, vs] } } := I4.kept (t' := s4.toks) fun b ob q => Heap.get?_push_of_some _ q
  obtain ⟨its, r, ht, hz⟩ := I5.tuple hx
  obtain ⟨w1, w2, ei, r1, r2⟩ := vals2 r
  subst ei
  show wpAny (model X.prog X.w) X.A (subscriptTail e (.Slice none none (some (.UnaryOp .USub (.Constant (.int 1) k p1) p2)) p3) (.ref a) (.ref s4.heap.objs.size)) (EP X pins σ Q) X.xe _
  refine tail_any (ops := [.ref a, .ref s4.heap.objs.size]) ht.typeIs PyProof.Rows.slot_tuple_getitem.lookup ?_ (by with_unfolding_all rfl)
  refine item_rev2 ht (Heap.IsSliceOf.new _ .none .none vs) ps ?_
  refine ⟨.ref _, _, I5.laid (t' := s4.toks) (o := .tup [z, y]) (fun b ob q => Heap.get?_push_of_some _ q) (Nat.le_refl _) ?_, rfl, q _ (I5.hok.fresh (Nat.le_refl _))⟩
  exact ⟨by show 2 ≤ sizeLine; decide, [w2, w1], .cons r2 (.cons r1 .nil), IsTup.new _ _⟩
end Pc
namespace Pc
open PySem PySem.Spec PyProof.Rows L2 RZ
/-! ### defs that run where no repr is under way (repr asks for that) -/
structure FnG (P : Program) (w : World) (K : PySem.W.Frag) (mg : Str → Option Value) (base : Heap) (CX : CXT) (k : Nat) (f : Addr) (fd : FuncData) (ps : List Str) (sp : Sp) : Prop where
  len : ∀ vs H Q E, sp vs H Q E → vs.length = ps.length
  run : ∀ (A : Around) (outer : List PySem.Env) (s : Shared) (H : Hp) (args : Args) (us : List Value) (vs : List V) (Q : VK) (E : XK), Room k A → A.guards = some [] → Env0 P w K mg base A outer s H →
    BindsTo s fd args (ps.zip us) → Vals vs us → sp vs H Q E → codeAny (model P w) A (.call (.ref f) args) (CR CX outer P w H s Q E) s
section
variable {P : Program} {w : World} {K : PySem.W.Frag} {mg : Str → Option Value} {base : Heap}
theorem fun_g {x qual : Str} {st : Stmt} {f : Addr} {fd : FuncData} {N ps : List Str} {k : Nat} {sp : Sp} (F : Fun K x qual st f fd) (S : FnScope N ps (defScope st)) (len : ∀ vs H Q E, sp vs H Q E → vs.length = ps.length)
    (hbody : ∀ (cdv : Value) (A : Around) (outer : List PySem.Env) (s : Shared) (H : Hp) (vs : List V) (Q : VK) (E : XK), Room k (A.deeper (envOfC qual (defScope st) s.heap.objs.size f cdv)) → A.guards = some [] → sp vs H Q E →
      ∃ t, PSs (cxOf CX0 P w K mg base N qual (defScope st) f cdv A outer s H E).nox (defBody st) t ∧ t { nx := fun _ H' => Q .non H', rt := Q } (start N vs) H) : FnG P w K mg base CX0 (k + 1) f fd ps sp := by
  obtain ⟨oc, od, kV, doc, pm, an, cdv, ct, osl, rfl, lk, hcd⟩ := F.ex
  constructor
  · exact len
  intro A outer s H args us vs Q E hr hgd e0 hb r hsp
  have hl := len _ _ _ _ hsp
  have up : ∀ b o, base.get? b = some o → s.heap.get? b = some o := fun b o e => (e0.bs b o e).1
  have KX : K.In s.heap := e0.mod.kin.keeps up
  have lim : s.heap.NoLimit := e0.mod.nolimit.keeps up
  obtain ⟨t, ht, hq⟩ := hbody cdv A outer s H vs Q E (hr.deeper _) hgd hsp
  refine codeAny_call_function hr.depth (KX _ _ lk) rfl S.co S.gen rfl (PySem.W.codeRec_of KX hcd) (hb _ _ _ _ ?_)
  refine wpAny_newFunctionEnv_cells S.kind ?_ ?_
  · rintro ⟨n, v⟩ hy
    rcases S.par n (List.of_mem_zip hy).1 with z | z
    · exact Or.inl z
    · exact Or.inr ⟨z, PySem.W.cellsFrom_some _ _ _ (Or.inl z)⟩
  intro env he s1 x
  subst he
  refine ⟨lim.keeps x.toInCall.keep, codeAny_func ?_⟩
  have I := inv_start (CX := CX0) (E := E) S hr.hd e0 hl r x
  refine wpAny_mono (ht.nox.run [] s1 (start N vs) H _ I hq) ?_ (fun _ _ z => z)
  intro fl s' hs
  cases fl with
  | brk => obtain ⟨_, _, _, z⟩ := hs; exact z.elim
  | cont => obtain ⟨_, _, _, z⟩ := hs; exact z.elim
  | next =>
    obtain ⟨σ', H', J, z⟩ := hs
    exact ⟨V.non, H', J.os, J.bare, J.base, J.hok, rfl, z⟩
  | ret u =>
    obtain ⟨v, σ', H', J, rv, z⟩ := hs
    exact ⟨v, H', J.os, J.bare, J.base, J.hok, rv, z⟩
end
section
variable {X : Cx} {CX : CXT} {k : Nat} {f : Addr} {fd : FuncData} {ps : List Str} {sp : Sp} {x : Str} {e : Expr} {es : List Expr} {ds : List Value} {dvs : List V} {E : XK} {t : TA} {p pos : Pos}
theorem pe_callG (F : FnG X.prog X.w X.K X.mg X.base CX k f fd ps sp) (hr : Room k X.A) (hgd : X.A.guards = some []) (hg : Gl X x) (hm : X.mg x = some (.ref f)) (hk : PySem.W.keepIn X.K (.ref f) = true) (hb : Binds X.K fd ps ds) (hd : Vals dvs ds) (hx : Passes CX X E)
    (ha : PA X (e :: es) t) (hdb : (x == ("__debug__" : Str)) = false := by decide) (he : starEach (e :: es) X.env = (false, eval e X.env) :: starEach es X.env := by rfl) (hpl : (backTo pos (starEach es X.env)).any (·.1) = false := by rfl) :
    PE X (.Call (.Name x p) (e :: es) [] pos) (tCall sp dvs E t) := by
  constructor
  intro pins s σ H Q I h
  refine wpAny_Call_Name_kw (ld_glob I hg hm ?_ hdb)
  refine PySem.W.callWith_K (h₀ := X.base) I.ok.mod.kin hk (thn (ha.run pos pins s σ H _ I h) ?_) he hpl
  rintro us s1 ⟨vs, H1, I1, r, q⟩
  refine ⟨I1.kIn, ?_⟩
  have r2 : Vals (vs ++ dvs) (us ++ ds) := r.append hd
  have hl : (us ++ ds).length = ps.length := by
    rw [← r2.length]
    exact F.len _ _ _ _ q
  refine wpAny_call (codeAny_mono (F.run X.A X.stack s1 H1 ⟨us, []⟩ (us ++ ds) (vs ++ dvs) Q E hr hgd I1.env0 (hb s1 us I1.kIn hl) r2 q) ?_)
  intro res s' hq
  cases res with
  | error e => exact hx pins σ H1 s1 e s' I1 hq
  | ok fl =>
    cases fl with
    | ret u => exact I1.after hq
    | next => exact hq.elim
    | brk => exact hq.elim
    | cont => exact hq.elim
end
/-! ### the law's own call, where no repr is under way -/
theorem law_g {P : Program} {w : World} {K : PySem.W.Frag} {mg mb : Str → Option Value} {CX : CXT} {k : Nat} {fa a : Addr} {fd : FuncData} {x : Str} {sp : Sp} {s₁ : Shared} {vs : List Value} {ns : List Int}
    (KX : K.In s₁.heap) (hns : s₁.heap.Ns mainGlobals mg) (hb : s₁.heap.Ns builtinsNs mb) (hbb : ∀ x : Str, x ≠ "__name__" → mb x = bootBuiltins x) (hlim : s₁.heap.NoLimit) (hg : s₁.gens = #[])
    (ha : s₁.heap.get? a = some { cls := .type "list", data := .seq vs.toArray }) (hi : IntsAre vs ns) (hl : ns.length ≤ sizeLine) (hr : Room k callerA)
    (F : ∀ base : Heap, K.In base → base.Ns mainGlobals mg → FnG P w K mg base CX k fa fd [x] sp) (hbind : ∀ (s : Shared) (u : Value), BindsTo s fd ⟨[u], []⟩ [(x, u)])
    (hsp : ∀ H : Hp, SqL K H a (ns.map V.int) → sp [.ref a] H (fun v _ => v = .bl true) fun _ _ _ => False)
    (hCX : ∀ H e s', CX [] H s₁ (fun _ _ _ => False) e s' → False) :
    codeAny (model P w) callerA (.call (.ref fa) ⟨[.ref a], []⟩) (fun r s' => r = .ok (.ret (.bool true)) ∧ OldK s₁.heap s'.heap ∧ s'.os = s₁.os ∧ AllBare s'.gens) s₁ := by
  have rv := vals_ints hi
  have len0 := hi.length
  let lo : Obj := { cls := .type "list", data := .seq vs.toArray }
  have main : ∀ H : Hp, SqL K H a (ns.map V.int) → HOk P w H s₁.heap → (∀ b u, H b = some u → b = a ∧ u = .frz lo (.lst (ns.map V.int)) ∧ K.lookup a = none) →
      codeAny (model P w) callerA (.call (.ref fa) ⟨[.ref a], []⟩) (fun r s' => r = .ok (.ret (.bool true)) ∧ OldK s₁.heap s'.heap ∧ s'.os = s₁.os ∧ AllBare s'.gens) s₁ := by
    intro H hS hok hA
    have free : ∀ {b : Addr} {o : Obj}, s₁.heap.get? b = some o → (∀ n, o.data ≠ .seq vs.toArray n) → H b = none := by
      intro b o e d
      cases z : H b with
      | none => rfl
      | some u =>
        obtain ⟨rfl, _⟩ := hA b u z
        rw [ha] at e
        cases e
        exact absurd rfl (d _)
    have nsK : ∀ {b : Addr} {m : Str → Option Value}, s₁.heap.Ns b m → (hidT s₁.heap H).Ns b m := by
      rintro b m ⟨o, es, ep, e, d, r⟩
      exact ⟨o, es, ep, hidT_get e (free e fun n => by rw [d]; exact fun z => nomatch z), d, r⟩
    have hKb : K.In (hidT s₁.heap H) := by
      intro b o e
      refine hidT_get (KX b o e) ?_
      cases z : H b with
      | none => rfl
      | some u =>
        obtain ⟨rfl, _, hn⟩ := hA b u z
        rw [hn] at e
        cases e
    obtain ⟨mc, l1, l2⟩ := hlim
    have e0 : Env0 P w K mg (hidT s₁.heap H) callerA [] s₁ H :=
      { frames := rfl, mod := ⟨hKb, nsK hns, ⟨mb, nsK hb, hbb⟩, ⟨mc, nsK l1, l2⟩⟩, bs := fun b o e => of_hidT e, bsz := Nat.le_of_eq (hidT_size _ _), funs := trivial, frf := fun b hb => absurd (show b ∈ ([] : List Addr) from hb) (by simp), hok := hok, bare := .of_eq hg }
    have R := (F _ hKb (nsK hns)).run callerA [] s₁ H ⟨[.ref a], []⟩ [.ref a] [.ref a] _ _ hr rfl e0 (hbind s₁ (.ref a)) (.cons rfl .nil) (hsp H hS)
    refine codeAny_mono R ?_
    intro res s' h
    cases res with
    | error e => exact (hCX H e s' h).elim
    | ok fl =>
      cases fl with
      | next => exact h.elim
      | brk => exact h.elim
      | cont => exact h.elim
      | ret u =>
        obtain ⟨v, H', os, bare, un, hok', r', q⟩ := h
        have q' : v = .bl true := q
        subst q'
        obtain rfl : u = Value.bool true := r'
        refine ⟨rfl, OldK.of_keep ?_, os, bare⟩
        intro b o e
        cases z : H b with
        | none => exact un.keep b o e z (fun y => absurd (show b ∈ ([] : List Addr) from y) (by simp)) (by simp)
        | some u =>
          obtain ⟨rfl, rfl, _⟩ := hA b u z
          obtain ⟨g1, _⟩ := hok _ _ z
          obtain ⟨g2, _⟩ := hok' _ _ (un.frzs _ lo _ z)
          rw [e] at g1
          cases g1
          exact g2
  cases hk : K.lookup a with
  | some o =>
    have e := KX a o hk
    rw [ha] at e
    cases e
    refine main (fun _ => none) ?_ (fun b u z => nomatch z) (fun b u z => nomatch z)
    exact Or.inr ⟨_, vs.toArray, _, hk, rfl, rfl, rfl, by rw [List.size_toArray, len0]; exact hl, by simpa using rv⟩
  | none =>
    have sp1 : ∀ b u, (upd (fun _ => none) a (.frz lo (.lst (ns.map V.int)))) b = some u → b = a ∧ u = .frz lo (.lst (ns.map V.int)) ∧ K.lookup a = none := by
      intro b u z
      by_cases hba : b = a
      · subst hba
        rw [upd_same] at z
        exact ⟨rfl, (Option.some.inj z).symm, hk⟩
      · rw [upd_ne hba] at z
        cases z
    refine main (upd (fun _ => none) a (.frz lo (.lst (ns.map V.int)))) (Or.inl (Or.inr ⟨lo, upd_same⟩)) ?_ sp1
    intro b u z
    obtain ⟨rfl, rfl, _⟩ := sp1 b u z
    exact ⟨ha, by rw [List.length_map]; exact hl, vs, _, rv, ha⟩
theorem walk_g {l : PySem.W.OpenLaw} {n k : Nat} {q : Program} {loose : List Str} {XP : (Str → Option Value) → Heap → Prop} {YP : World → Heap → Prop} {d : DefRec} {K : Params → PySem.W.Frag} {sp : World → Sp} {x : Str}
    (hn : l.most = some n) (hn2 : n ≤ sizeLine) (hdf : d.params.defaults = []) (hr : Room k callerA) (hY : ∀ (w : World) (h : Heap), YP w h → (K w.params).In h)
    (F : ∀ (w : World) (mg : Str → Option Value) (fa : Addr) (h : Heap), (K w.params).In h → h.Ns mainGlobals mg → mg d.name = some (.ref fa) →
      ∃ fd : FuncData, (∀ (s : Shared) (u : Value), BindsTo s fd ⟨[u], []⟩ [(x, u)]) ∧ ∀ base : Heap, (K w.params).In base → base.Ns mainGlobals mg → FnG l.prog w (K w.params) mg base CX0 k fa fd [x] (sp w))
    (hsp : ∀ (w : World) (H : Hp) (a : Addr) (ns : List Int), ns.length ≤ n → SqL (K w.params) H a (ns.map V.int) → sp w [.ref a] H (fun v _ => v = .bl true) fun _ _ _ => False) :
    PySem.W.WalkO q loose XP YP l.row.toRowW d [] (fun f vs => PySem.call f vs) := by
  refine Att.attach_call hn hdf ?_
  intro w s₀ s₁ mg mb fa o pm cd doc a vs ns G Y ho hd hcd hmg hobj hints hlen hg
  obtain ⟨fd, hb, hF⟩ := F w mg fa _ (hY w _ Y) G.T.g hmg
  exact law_g (hY w _ Y) G.T.g G.T.b G.T.builtins G.T.nolimit hg hobj hints (Nat.le_trans hlen hn2) hr hF hb (fun H hS => hsp w H a ns hlen hS) fun _ _ _ z => z
/-! ### repr of data -/
theorem call_reprD {X : Cx} (hgd : X.A.guards = some []) (hu : X.A.units + 64 < cLine) : CallR X (.builtin "repr") (fun xs H Q => ∃ (a : Addr) (d : PyData), xs = [.ref a] ∧ Dp X.K H (.ref a) d ∧ d.canLay0 = true ∧ d.showable = true ∧ d.depth ≤ 60 ∧ d.shown.length ≤ sizeLine ∧ Q (.str d.shown) H) := by
  intro pins s σ H xs us Q I r h
  obtain ⟨a, d, rfl, hd, hl, hs, hdp, hz, q⟩ := h
  obtain ⟨u, rfl, ru⟩ := vals1 r
  cases ru
  obtain ⟨as, rd⟩ := Dp.reads I d (.ref a) (.ref a) hd rfl
  refine repr_of_reads' rd hs (PyData.noDict_hsm (PyData.hasDict_of_canLay d hl)) hgd (by omega) (fun _ _ e => e) ?_ hz
  intro h' u tk hk
  exact ⟨.str d.shown, H, I.kept (t' := tk) hk, ⟨u, rfl⟩, q⟩
end Pc
namespace Pc
open PySem PySem.Spec PyProof.Rows L2 RZ
/-! ### data of small size: its depth is at most k, its text has at most m signs -/
structure Fine (k m : Nat) (d : PyData) : Prop where
  lay : d.canLay0 = true
  show_ : d.showable = true
  depth : d.depth ≤ k
  nar : narrow d
  len : d.shown.length ≤ m
theorem Fine.mono {k m k' m' : Nat} {d : PyData} (h : Fine k m d) (hk : k ≤ k') (hm : m ≤ m') : Fine k' m' d := ⟨h.lay, h.show_, Nat.le_trans h.depth hk, h.nar, Nat.le_trans h.len hm⟩
theorem Fine.shaped {k m : Nat} {d : PyData} (h : Fine k m d) (hk : k ≤ 64) : SeqAt.shaped d = true := by
  unfold SeqAt.shaped
  rw [Bool.and_eq_true]
  exact ⟨h.lay, decide_eq_true (Nat.le_trans h.depth hk)⟩
theorem str_len (t : String) : (Str.ofString t).length = t.length := by
  rw [Str.ofString_eq_toList]
  show (t.toList.map Char.toNat).toArray.size = t.length
  rw [List.size_toArray, List.length_map, String.length_toList]
theorem log_lt {i : Int} {k : Nat} (h : i.natAbs < 2 ^ k) (hk : 0 < k) : i.natAbs.log2 < k := by
  by_cases h0 : i.natAbs = 0
  · rw [h0]; exact hk
  · exact (Nat.log2_lt h0).mpr h
theorem fine_int {i : Int} (h : i.natAbs < 2 ^ 60) : Fine 0 61 (.int i) := by
  have hl := log_lt h (by decide)
  refine ⟨rfl, decide_eq_true (Nat.lt_of_lt_of_le hl (by decide)), Nat.le_refl _, trivial, ?_⟩
  show (Str.ofString (toString i)).length ≤ 61
  rw [str_len]
  exact int_text_length_le (by decide) hl
theorem fine_nat {i : Nat} (h : i < 2 ^ 60) : Fine 0 61 (.int (i : Int)) := fine_int (by rw [Int.natAbs_natCast]; exact h)
theorem all_lay {ds : List PyData} (h : ∀ d ∈ ds, d.canLay0 = true) : PyData.canLayAll0 ds = true := by
  induction ds with
  | nil => rfl
  | cons d r ih =>
    show (d.canLay0 && PyData.canLayAll0 r) = true
    rw [h d List.mem_cons_self, ih fun x hx => h x (List.mem_cons_of_mem _ hx)]; rfl
theorem all_showable {ds : List PyData} (h : ∀ d ∈ ds, d.showable = true) : PyData.showableAll ds = true := by
  induction ds with
  | nil => rfl
  | cons d r ih =>
    show (d.showable && PyData.showableAll r) = true
    rw [h d List.mem_cons_self, ih fun x hx => h x (List.mem_cons_of_mem _ hx)]; rfl
theorem all_depth {ds : List PyData} {k : Nat} (h : ∀ d ∈ ds, d.depth ≤ k) : PyData.depthAll ds ≤ k := by
  induction ds with
  | nil => exact Nat.zero_le _
  | cons d r ih => exact Nat.max_le.mpr ⟨h d List.mem_cons_self, ih fun x hx => h x (List.mem_cons_of_mem _ hx)⟩
theorem all_shown {ds : List PyData} {m : Nat} (h : ∀ d ∈ ds, d.shown.length ≤ m) : ((PyData.shownAll ds).map (·.length)).sum ≤ ds.length * m ∧ (PyData.shownAll ds).length = ds.length := by
  induction ds with
  | nil => exact ⟨Nat.zero_le _, rfl⟩
  | cons d r ih =>
    obtain ⟨h1, h2⟩ := ih fun x hx => h x (List.mem_cons_of_mem _ hx)
    have h3 := h d List.mem_cons_self
    refine ⟨?_, congrArg (· + 1) h2⟩
    show ((d.shown :: PyData.shownAll r).map (·.length)).sum ≤ (r.length + 1) * m
    rw [List.map_cons, List.sum_cons, Nat.add_mul, Nat.one_mul]
    omega
theorem fine_list {ds : List PyData} {k m n : Nat} (h : ∀ d ∈ ds, Fine k m d) (hn : ds.length ≤ n) (hb : n ≤ 100000) : Fine (k + 1) (n * (m + 2) + 3) (.list ds) := by
  refine ⟨all_lay fun d hd => (h d hd).lay, all_showable fun d hd => (h d hd).show_, Nat.succ_le_succ (all_depth fun d hd => (h d hd).depth), ⟨Nat.le_trans hn hb, narrow_of fun d hd => (h d hd).nar⟩, ?_⟩
  obtain ⟨h1, h2⟩ := all_shown fun d hd => (h d hd).len
  have h3 := listText_len_le (PyData.shownAll ds)
  have h4 : ds.length * m ≤ n * m := Nat.mul_le_mul_right _ hn
  show (listText (PyData.shownAll ds)).length ≤ _
  rw [Nat.mul_add]
  omega
theorem fine_tuple {ds : List PyData} {k m n : Nat} (h : ∀ d ∈ ds, Fine k m d) (hn : ds.length ≤ n) (hb : n ≤ 100000) : Fine (k + 1) (n * (m + 2) + 3) (.tuple ds) := by
  refine ⟨all_lay fun d hd => (h d hd).lay, all_showable fun d hd => (h d hd).show_, Nat.succ_le_succ (all_depth fun d hd => (h d hd).depth), ⟨Nat.le_trans hn hb, narrow_of fun d hd => (h d hd).nar⟩, ?_⟩
  obtain ⟨h1, h2⟩ := all_shown fun d hd => (h d hd).len
  have h3 := tupleText_len_le (PyData.shownAll ds)
  have h4 : ds.length * m ≤ n * m := Nat.mul_le_mul_right _ hn
  show (tupleText (PyData.shownAll ds)).length ≤ _
  rw [Nat.mul_add]
  omega
/-- numbers as data -/
def nd (l : List Nat) : List PyData := l.map fun (i : Nat) => PyData.int (i : Int)
theorem nd_length (l : List Nat) : (nd l).length = l.length := List.length_map _
theorem dp_nats {K : PySem.W.Frag} {H : Hp} : ∀ l : List Nat, DpAll K H (nv l) (nd l)
  | [] => .nil
  | i :: r => .cons (.int i) (dp_nats r)
theorem fine_nd {l : List Nat} (h : ∀ i ∈ l, i < 2 ^ 60) : ∀ d ∈ nd l, Fine 0 61 d := fun d hd => by
  obtain ⟨i, hi, rfl⟩ := List.mem_map.mp hd
  exact fine_nat (h i hi)
/-- a tuple of numbers -/
theorem fine_tup {l : List Nat} {n : Nat} (h : ∀ i ∈ l, i < 2 ^ 60) (hn : l.length ≤ n) (hb : n ≤ 100000) : Fine 1 (n * 63 + 3) (.tuple (nd l)) := fine_tuple (fine_nd h) (by rw [nd_length]; exact hn) hb
/-! ### lists of pairs of numbers -/
/-- at the places as stand the pairs ps -/
def Prs (H : Hp) (as : List Addr) (ps : List (Nat × Nat)) : Prop := Paired (fun a (p : Nat × Nat) => H a = some (.tup [.int p.1, .int p.2])) as ps
theorem Prs.length {H : Hp} {as : List Addr} {ps : List (Nat × Nat)} (h : Prs H as ps) : as.length = ps.length := Paired.length h
theorem prs_same {H H' : Hp} (e : Same H H') : ∀ {as : List Addr} {ps : List (Nat × Nat)}, Prs H as ps → Prs H' as ps
  | _, _, .nil => .nil
  | _, _, .cons h r => .cons (e _ _ h) (prs_same e r)
theorem prs_keep {b : Addr} {H H' : Hp} {ys : List V} (k : Keep b H H') (hb : H b = some (.lst ys)) : ∀ {as : List Addr} {ps : List (Nat × Nat)}, Prs H as ps → Prs H' as ps
  | _, _, .nil => .nil
  | _, _, .cons h r => .cons (k.tup hb h) (prs_keep k hb r)
theorem prs_get {H : Hp} : ∀ {as : List Addr} {ps : List (Nat × Nat)} {i : Nat} {a : Addr}, Prs H as ps → as[i]? = some a → ∃ p, ps[i]? = some p ∧ H a = some (.tup [.int p.1, .int p.2])
  | _, _, _, _, .nil, h => by simp at h
  | _, _, 0, _, .cons (b := p) h _, e => by
    cases Option.some.inj e
    exact ⟨p, rfl, h⟩
  | _, _, i + 1, a, .cons _ r, e => prs_get (i := i) r e
theorem prs_append {H : Hp} : ∀ {as bs : List Addr} {ps qs : List (Nat × Nat)}, Prs H as ps → Prs H bs qs → Prs H (as ++ bs) (ps ++ qs)
  | _, _, _, _, .nil, s => s
  | _, _, _, _, .cons h r, s => .cons h (prs_append r s)
def pd (p : Nat × Nat) : PyData := .tuple [.int (p.1 : Int), .int (p.2 : Int)]
theorem prs_dp {K : PySem.W.Frag} {H : Hp} : ∀ {as : List Addr} {ps : List (Nat × Nat)}, Prs H as ps → DpAll K H (as.map V.ref) (ps.map pd)
  | _, _, .nil => .nil
  | _, _, .cons h r => .cons (.tup (.inl (.inl h)) (.cons (.int _) (.cons (.int _) .nil))) (prs_dp r)
theorem fine_pd {p : Nat × Nat} (h1 : p.1 < 2 ^ 60) (h2 : p.2 < 2 ^ 60) : Fine 1 129 (pd p) := fine_tuple (n := 2) (fun d hd => by
  rcases List.mem_cons.mp hd with z | z
  · rw [z]; exact fine_nat h1
  · rw [List.mem_singleton.mp z]; exact fine_nat h2) (Nat.le_refl _) (by decide)
/-- a list of pairs -/
theorem fine_pds {ps : List (Nat × Nat)} {n : Nat} (h : ∀ p ∈ ps, p.1 < 2 ^ 60 ∧ p.2 < 2 ^ 60) (hn : ps.length ≤ n) (hb : n ≤ 100000) : Fine 2 (n * 131 + 3) (.list (ps.map pd)) :=
  fine_list (fun d hd => by
    obtain ⟨p, hp, rfl⟩ := List.mem_map.mp hd
    exact fine_pd (h p hp).1 (h p hp).2) (by rw [List.length_map]; exact hn) hb
end Pc
namespace Pc
open PySem PySem.Spec PyProof.Rows L2 RZ
/-! ### a list or a tuple: walked, unpacked -/
/-- a list or a tuple is read -/
def Sq (K : PySem.W.Frag) (H : Hp) (a : Addr) (xs : List V) : Prop := SqL K H a xs ∨ SqT K H a xs
theorem Sq.same {K : PySem.W.Frag} {H H' : Hp} {a : Addr} {xs : List V} (h : Sq K H a xs) (e : Same H H') : Sq K H' a xs := h.imp (fun z => e.seq z) (fun z => same_tup e z)
def iSeq (K : PySem.W.Frag) (tl : TE) : TI := fun σ H R => tl σ H fun x H1 => ∃ a, x = .ref a ∧ (((∃ xs, SqL K H1 a xs) ∧ R (Itl K a) H1) ∨ ((∃ xs, SqT K H1 a xs) ∧ R (Itt K a) H1))
section
variable {X : Cx}
theorem pi_seq {tg l : Expr} {tl : TE} (hl : PE X l tl) : PI X tg l (iSeq X.K tl) := by
  constructor
  intro pins s σ H R I h
  refine thn (hl.run pins s σ H _ I h) ?_
  rintro v s1 ⟨x, H1, I1, r1, a, ex, q⟩
  subst ex
  cases r1
  rcases q with ⟨⟨xs, hx⟩, q⟩ | ⟨⟨xs, hx⟩, q⟩
  · obtain ⟨its, _, p, _⟩ := I1.list hx
    refine wpAny_pyIter_list p.isList ?_
    exact pi_one (tk := s1.toks) I1 _ (turn_list _ _) ⟨_, Heap.get?_push_size _ rfl, rfl, rfl⟩ q
  · obtain ⟨its, _, p, _⟩ := I1.tuple hx
    refine wpAny_pyIter_tuple p ?_
    exact pi_one (tk := s1.toks) I1 _ (turn_tuple _ _) ⟨_, Heap.get?_push_size _ rfl, rfl, rfl⟩ q
/-- names unpacked from a tuple or a list -/
def gSeq (K : PySem.W.Frag) (n : Nat) (t : TGs) : TG := fun v σ H Q => ∃ a xs, v = .ref a ∧ Sq K H a xs ∧ xs.length = n ∧ t xs σ H Q
theorem pg_seq {es : List Expr} {k : Nat} {t : TGs} {n : Nat} {pos : Pos} (hc : X.calm = true) (h : PGs X es t)
    (hn : (assignEach es X.env).length = n := by rfl) (hst : (assignEach es X.env).findIdx? (·.1) = none := by rfl) : PG X (.Tuple es k pos) (gSeq X.K n t) := by
  constructor
  intro pins s σ H v u Q I r hw
  obtain ⟨a, xs, e, hq, hl, hw⟩ := hw
  rcases hq with hq | hq
  · exact (pg_unl (pos := pos) (k := k) hc h hn hst).run pins s σ H v u Q I r ⟨a, xs, e, hq, hl, hw⟩
  · exact (pg_tup (pos := pos) (k := k) hc h hn hst).run pins s σ H v u Q I r ⟨a, xs, e, hq, hl, hw⟩
/-! ### a call with keywords alone -/
def tKw (n : Nat) (sp : Sp) (gV : List V → List V) (E : XK) (tk : TA) : TE := fun σ H Q => tk σ H fun zs H1 => zs.length = n ∧ sp (gV zs) H1 Q E
theorem pe_kw {CX : CXT} {k : Nat} {f : Addr} {fd : FuncData} {ps ks : List Str} {sp : Sp} {E : XK} {x : Str} {p pos : Pos} {kws : List Keyword} {tk : TA} {g : List Value → List Value} {gV : List V → List V}
    (F : FnOk X.prog X.w X.K X.mg X.base CX k f fd ps sp) (hr : Room k X.A) (hg : Gl X x) (hm : X.mg x = some (.ref f)) (hk : PySem.W.keepIn X.K (.ref f) = true)
    (hb : ∀ (s : Shared) (ws : List Value), ws.length = ks.length → BindsTo s fd ⟨[], ks.zip ws⟩ (ps.zip (g ws))) (rel : ∀ {zs : List V} {ws : List Value}, zs.length = ks.length → Vals zs ws → Vals (gV zs) (g ws)) (hx : Passes CX X E) (hkw : PK X kws tk)
    (hall : (backToKw pos (keywordEach kws X.env)).all (·.1.isSome) = true := by rfl) (hks : (backToKw pos (keywordEach kws X.env)).filterMap (·.1) = ks := by rfl) (hdb : (x == ("__debug__" : Str)) = false := by decide)
    (hpl : ((backTo pos (starEach [] X.env)).any (·.1) || (backToKw pos (keywordEach kws X.env)).any (·.1.isNone)) = false := by rfl) :
    PE X (.Call (.Name x p) [] kws pos) (tKw ks.length sp gV E tk) := by
  constructor
  intro pins s σ H Q I h
  refine wpAny_Call_Name_kw (ld_glob I hg hm ?_ hdb)
  refine PySem.W.callWith_KW0 (h₀ := X.base) I.ok.mod.kin hk hall (thn (hkw.run pos pins s σ H _ I h) ?_) hpl
  rintro ws s2 ⟨zs, H2, I2, rz, hz, q⟩
  refine ⟨I2.kIn, ?_⟩
  rw [hks]
  refine wpAny_call (codeAny_mono (F.run X.A X.stack s2 H2 ⟨[], ks.zip ws⟩ (g ws) (gV zs) Q E hr I2.env0 (hb s2 ws (by rw [← rz.length, hz])) (rel hz rz) q) ?_)
  intro res s' hq
  cases res with
  | error e => exact hx pins σ H2 s2 e s' I2 hq
  | ok fl =>
    cases fl with
    | ret u => exact I2.after hq
    | next => exact hq.elim
    | brk => exact hq.elim
    | cont => exact hq.elim
end
theorem kw_to {K : PySem.W.Frag} {x qual : Str} {st : Stmt} {f : Addr} {fd : FuncData} {ps ks : List Str} {g : List Value → List Value} (F : Fun K x qual st f fd)
    (h : ∀ (kV doc pm : Value) (an : Option Addr) (cdv ct : Value) (ws : List Value), ws.length = ks.length → bindArgs (PySem.W.fnOf x qual (defArgs st) (defBody st) (defScope st) .none kV doc pm an cdv ct) ⟨[], ks.zip ws⟩ = pure (ps.zip (g ws))) :
    ∀ (s : Shared) (ws : List Value), ws.length = ks.length → BindsTo s fd ⟨[], ks.zip ws⟩ (ps.zip (g ws)) := by
  obtain ⟨oc, od, kV, doc, pm, an, cdv, ct, osl, rfl, lk, hcd⟩ := F.ex
  intro s ws hl
  exact .of_eq (h kV doc pm an cdv ct ws hl)
end Pc
namespace Pc
open PySem PySem.Spec PyProof.Rows L2 RZ
/-! ### the heap without some objects -/
open Classical in
noncomputable def off (S : Addr → Prop) (H : Hp) : Hp := fun a => if S a then none else H a
theorem off_le {S : Addr → Prop} {H : Hp} : Same (off S H) H := fun a o h => by
  unfold off at h
  by_cases e : S a
  · rw [if_pos e] at h; cases h
  · rw [if_neg e] at h; exact h
theorem off_keep {S : Addr → Prop} {b : Addr} {H H' : Hp} (hb : S b) (k : Keep b H H') : Same (off S H) (off S H') := fun a o h => by
  unfold off at h ⊢
  by_cases e : S a
  · rw [if_pos e] at h; cases h
  · rw [if_neg e] at h ⊢; exact k a o (fun z => e (z ▸ hb)) h
theorem off_same {S : Addr → Prop} {H H' : Hp} (s : Same H H') : Same (off S H) (off S H') := fun a o h => by
  unfold off at h ⊢
  by_cases e : S a
  · rw [if_pos e] at h; cases h
  · rw [if_neg e] at h ⊢; exact s a o h
theorem off_get {S : Addr → Prop} {a : Addr} {H : Hp} {o : HO} (h : ¬ S a) (e : H a = some o) : off S H a = some o := by
  unfold off; rw [if_neg h]; exact e
theorem off_more {S S' : Addr → Prop} {H : Hp} (h : ∀ a, S a → S' a) : Same (off S' H) (off S H) := fun a o e => by
  unfold off at e ⊢
  by_cases z : S' a
  · rw [if_pos z] at e; cases e
  · rw [if_neg z] at e; rw [if_neg (fun y => z (h a y))]; exact e
/-- all of S is there -/
def Has (S : Addr → Prop) (H : Hp) : Prop := ∀ a, S a → ∃ o, H a = some o
theorem Has.same {S : Addr → Prop} {H H' : Hp} (h : Has S H) (s : Same H H') : Has S H' := fun a ha => let ⟨o, e⟩ := h a ha; ⟨o, s _ _ e⟩
theorem Has.new {S : Addr → Prop} {H : Hp} {p : Addr} (h : Has S H) (np : H p = none) : ¬ S p := fun z => by
  obtain ⟨o, e⟩ := h p z
  rw [np] at e; cases e
/-! ### data that is written out -/
def tD (K : PySem.W.Frag) (S : Addr → Prop) (d : PyData) : TE := fun _ H Q => Has S H ∧ ∀ v H', Same H H' → Dp K (off S H') v d → Q v H'
def tDs (K : PySem.W.Frag) (S : Addr → Prop) (ds : List PyData) : TA := fun _ H Q => Has S H ∧ ∀ vs H', Same H H' → DpAll K (off S H') vs ds → Q vs H'
section
variable {X : Cx} {S : Addr → Prop}
theorem pd_of {e : Expr} {t : TE} {v : V} {d : PyData} (h : PE X e t) (ht : ∀ σ H (Q : VK), Q v H → t σ H Q) (hd : ∀ H, Dp X.K H v d) : PE X e (tD X.K S d) := ⟨fun pins s σ H Q I q => h.run pins s σ H Q I (ht σ H Q (q.2 _ _ (fun _ _ z => z) (hd _)))⟩
theorem pd_int {i : Int} {j pos} : PE X (.Constant (.int i) j pos) (tD X.K S (.int i)) := pd_of pe_int (fun _ _ _ q => q) fun _ => .int i
theorem pd_bl {i : Bool} {j pos} : PE X (.Constant (.bool i) j pos) (tD X.K S (.bool i)) := pd_of pe_bl (fun _ _ _ q => q) fun _ => .bl i
theorem pd_non {j pos} : PE X (.Constant .none j pos) (tD X.K S .none) := pd_of pe_non (fun _ _ _ q => q) fun _ => .non
theorem pd_str {x : Str} {j pos} : PE X (.Constant (.str x) j pos) (tD X.K S (.str x)) := pd_of pe_str (fun _ _ _ q => q) fun _ => .str x
theorem pd_nil : PA X [] (tDs X.K S []) := ⟨fun pos pins s σ H Q I h => pa_nil.run pos pins s σ H Q I (h.2 _ _ (fun _ _ z => z) .nil)⟩
theorem pd_cons {e : Expr} {es : List Expr} {d : PyData} {ds : List PyData} (ha : PE X e (tD X.K S d)) (hr : PA X es (tDs X.K S ds)) (hs : starEach (e :: es) X.env = (false, eval e X.env) :: starEach es X.env := by rfl) : PA X (e :: es) (tDs X.K S (d :: ds)) :=
  ⟨fun pos pins s σ H Q I h => (pa_cons ha hr hs).run pos pins s σ H Q I ⟨h.1, fun v H1 s1 d1 => ⟨h.1.same s1, fun vs H2 s2 d2 => h.2 (v :: vs) H2 (s1.trans s2) (.cons (dp_same (off_same s2) d1) d2)⟩⟩⟩
theorem pd_tup {es : List Expr} {ds : List PyData} {x1} {pos : Pos} (h : PA X es (tDs X.K S ds)) (hl : ds.length ≤ 100000 := by decide) : PE X (.Tuple es x1 pos) (tD X.K S (.tuple ds)) :=
  ⟨fun pins s σ H Q I hq => (pe_tup h).run pins s σ H Q I ⟨hq.1, fun vs H1 s1 d1 => ⟨by rw [dpa_len d1]; exact Nat.le_of_lt (line_big hl), fun p np => hq.2 _ _ (s1.trans (same_new np)) (.tup (.inl (.inl (off_get ((hq.1.same s1).new np) upd_same))) (dpa_same (off_same (same_new np)) d1))⟩⟩⟩
theorem pd_lst {es : List Expr} {ds : List PyData} {pos : Pos} (h : PA X es (tDs X.K S ds)) (hl : ds.length ≤ 100000 := by decide) : PE X (.List es pos) (tD X.K S (.list ds)) :=
  ⟨fun pins s σ H Q I hq => (pe_lst h).run pins s σ H Q I ⟨hq.1, fun vs H1 s1 d1 => ⟨by rw [dpa_len d1]; exact Nat.le_of_lt (line_big hl), fun p np => hq.2 _ _ (s1.trans (same_new np)) (.lst (.inl (.inl (off_get ((hq.1.same s1).new np) upd_same))) (dpa_same (off_same (same_new np)) d1))⟩⟩⟩
end
/-! ### the kinds -/
def tyN : PyData → String
  | .none => "NoneType"
  | .bool _ => "bool"
  | .int _ => "int"
  | .str _ => "str"
  | .list _ => "list"
  | .tuple _ => "tuple"
  | .dict _ => "dict"
theorem dp_ty {K : PySem.W.Frag} {H : Hp} : ∀ {v : V} {d : PyData}, Dp K H v d → TyX K H v (.type (tyN d))
  | _, _, .non => .base .non
  | _, _, .bl b => .base (.bl b)
  | _, _, .int i => .base (.int i)
  | _, _, .str x => .base (.str x)
  | _, _, .lst h _ => ty_lst h
  | _, _, .tup h _ => ty_tup h
def isI : PyData → Bool
  | .int _ | .bool _ => true
  | _ => false
def isB : PyData → Bool
  | .bool _ => true
  | _ => false
def isT : PyData → Bool
  | .tuple _ => true
  | _ => false
def isL : PyData → Bool
  | .list _ => true
  | _ => false
theorem k_int {K : PySem.W.Frag} {H : Hp} {v : V} {d : PyData} (h : Dp K H v d) : PySem.W.kitOne K (.type (tyN d)) (.type "int") = some (isI d) := by
  cases h
  · exact one_none_int
  · exact one_bool_int
  · exact one_int_int
  · exact one_str_int
  · exact one_list_int
  · exact one_tuple_int
theorem k_bool {K : PySem.W.Frag} {H : Hp} {v : V} {d : PyData} (h : Dp K H v d) : PySem.W.kitOne K (.type (tyN d)) (.type "bool") = some (isB d) := by
  cases h
  · exact one_none_bool
  · exact one_bool_bool
  · exact one_int_bool
  · exact one_str_bool
  · exact one_list_bool
  · exact one_tuple_bool
theorem k_tuple {K : PySem.W.Frag} {H : Hp} {v : V} {d : PyData} (h : Dp K H v d) : PySem.W.kitOne K (.type (tyN d)) (.type "tuple") = some (isT d) := by
  cases h
  · exact one_none_tuple
  · exact one_bool_tuple
  · exact one_int_tuple
  · exact one_str_tuple
  · exact one_list_tuple
  · exact one_tuple_tuple
theorem k_list {K : PySem.W.Frag} {H : Hp} {v : V} {d : PyData} (h : Dp K H v d) : PySem.W.kitOne K (.type (tyN d)) (.type "list") = some (isL d) := by
  cases h
  · exact one_none_list
  · exact one_bool_list
  · exact one_int_list
  · exact one_str_list
  · exact one_list_list
  · exact one_tuple_list
theorem k_lt {K : PySem.W.Frag} {H : Hp} {v : V} {d : PyData} (h : Dp K H v d) : PySem.W.kitAny K (.type (tyN d)) [.type "list", .type "tuple"] = some (isL d || isT d) := by
  cases h
  · exact any_lt_none
  · exact any_lt_bool
  · exact any_lt_int
  · exact any_lt_str
  · exact any_lt_list
  · exact any_lt_tuple
/-! ### joined in pairs -/
def belowB (n : Nat) : PyData → Bool
  | .int i => decide (0 ≤ i) && decide (i < (n : Int))
  | _ => false
def natOf : PyData → Nat
  | .int i => i.toNat
  | _ => 0
def pairB (fs : List Nat) (i : Nat) : Bool := !decide (fs.getD i 0 = i) && decide (fs.getD (fs.getD i 0) 0 = i)
def joinB (ds : List PyData) : Bool := ds.all (belowB ds.length) && (List.range ds.length).all (pairB (ds.map natOf))
theorem below_nats {K : PySem.W.Frag} {H : Hp} {n : Nat} : ∀ {vs : List V} {ds : List PyData}, DpAll K H vs ds → ds.all (belowB n) = true → vs = nv (ds.map natOf) ∧ ∀ x ∈ ds.map natOf, x < n
  | _, _, .nil, _ => ⟨rfl, fun x hx => by simp at hx⟩
  | _, _, .cons (d := d) (ds := ds) h r, e => by
    rw [List.all_cons, Bool.and_eq_true] at e
    obtain ⟨e1, e2⟩ := e
    obtain ⟨g1, g2⟩ := below_nats r e2
    cases h with
    | int i =>
      unfold belowB at e1
      rw [Bool.and_eq_true, decide_eq_true_iff, decide_eq_true_iff] at e1
      refine ⟨?_, fun x hx => ?_⟩
      · rw [g1]
        show V.int i :: nv (ds.map natOf) = V.int ((i.toNat : Nat) : Int) :: nv (ds.map natOf)
        rw [show ((i.toNat : Nat) : Int) = i by omega]
      · rcases List.mem_cons.mp (show x ∈ i.toNat :: ds.map natOf from hx) with z | z
        · omega
        · exact g2 x z
    | non => cases e1
    | bl => cases e1
    | str => cases e1
    | lst => cases e1
    | tup => cases e1
def joinD : PyData → Bool
  | .tuple ds => joinB ds
  | _ => false
def isPairB : PyData → Bool
  | .tuple ds => joinB ds && decide (0 < ds.length)
  | _ => false
theorem all_take_bl {α : Type} (f : α → Bool) {l : List α} {i : Nat} {x : α} (h : l[i]? = some x) : ((l.take (i + 1)).map f).map V.bl = ((l.take i).map f).map V.bl ++ [V.bl (f x)] := by
  rw [List.take_add_one, h, List.map_append, List.map_append]
  rfl
end Pc
namespace Pc
open PySem PySem.Spec PyProof.Rows L2 RZ
/-! ### one of some defs, called -/
def FOk (X : Cx) (CX : CXT) (f : Addr) (sp : Sp) : Prop := ∃ (k : Nat) (fd : FuncData) (ps : List Str), FnOk X.prog X.w X.K X.mg X.base CX k f fd ps sp ∧ Room k X.A ∧ PySem.W.keepIn X.K (.ref f) = true ∧ Binds X.K fd ps []
def tCallF (cs : List (Addr × Sp)) (E : L2.St → XK) (tf : TE) (t : TA) : TE := fun σ H Q => tf σ H fun v H1 => ∃ (f : Addr) (sp : Sp), (f, sp) ∈ cs ∧ v = .ref f ∧ t σ H1 fun vs H2 => sp vs H2 Q (E σ)
theorem fall_nil {X : Cx} {CX : CXT} : ∀ c ∈ ([] : List (Addr × Sp)), FOk X CX c.1 c.2 := fun _ h => absurd h List.not_mem_nil
theorem fall_cons {X : Cx} {CX : CXT} {f : Addr} {sp : Sp} {cs : List (Addr × Sp)} (h : FOk X CX f sp) (r : ∀ c ∈ cs, FOk X CX c.1 c.2) : ∀ c ∈ (f, sp) :: cs, FOk X CX c.1 c.2 := fun c hc => (List.mem_cons.mp hc).elim (fun e => by rw [e]; exact h) (r c)
theorem pe_callF {X : Cx} {CX : CXT} {cs : List (Addr × Sp)} {E : L2.St → XK} {fe e : Expr} {es : List Expr} {tf : TE} {t : TA} {pos : Pos} (hall : ∀ c ∈ cs, FOk X CX c.1 c.2) (hx : ∀ σ, PassesAt CX X σ (E σ)) (hf : PE X fe tf) (ha : PA X (e :: es) t)
    (ht : eval (.Call fe (e :: es) [] pos) X.env = (do callWith pos (← eval fe X.env) [] (backTo pos (starEach (e :: es) X.env)) (backToKw pos (keywordEach [] X.env))) := by rfl)
    (he : starEach (e :: es) X.env = (false, eval e X.env) :: starEach es X.env := by rfl) (hpl : (backTo pos (starEach es X.env)).any (·.1) = false := by rfl) : PE X (.Call fe (e :: es) [] pos) (tCallF cs E tf t) := by
  refine ⟨fun pins s σ H Q I h => ?_⟩
  refine Call_ (thn (hf.run pins s σ H _ I h) fun u s1 ⟨y, H1, I1, ry, f, sp, hm, ey, q⟩ => ?_) ht
  subst ey
  obtain rfl : u = Value.ref f := ry
  obtain ⟨k, fd, ps, F, hr, hk, hb⟩ := hall _ hm
  refine PySem.W.callWith_K (h₀ := X.base) I1.ok.mod.kin hk (thn (ha.run pos pins s1 σ H1 _ I1 q) fun us s2 ⟨vs, H2, I2, r, q2⟩ => ⟨I2.kIn, ?_⟩) he hpl
  exact run_fnS F hr hb (hx σ) I2 r q2
/-- C(e, ..), the arguments never come -/
theorem pe_callN {X : Cx} {f : Addr} {x : Str} {p pos : Pos} {e : Expr} {es : List Expr} {t : TA} (hg : Gl X x) (hm : X.mg x = some (.ref f)) (hk : PySem.W.keepIn X.K (.ref f) = true) (ha : PA X (e :: es) t) (hdb : (x == ("__debug__" : Str)) = false := by decide)
    (he : starEach (e :: es) X.env = (false, eval e X.env) :: starEach es X.env := by rfl) (hpl : (backTo pos (starEach es X.env)).any (·.1) = false := by rfl) :
    PE X (.Call (.Name x p) (e :: es) [] pos) (fun σ H _ => t σ H fun _ _ => False) := by
  refine ⟨fun pins s σ H Q I h => ?_⟩
  refine wpAny_Call_Name_kw (ld_glob I hg hm ?_ hdb)
  exact PySem.W.callWith_K (h₀ := X.base) I.ok.mod.kin hk (thn (ha.run pos pins s σ H _ I h) fun us s1 ⟨vs, H1, I1, r, q⟩ => q.elim) he hpl
end Pc
namespace Pc
open PySem PySem.Spec PyProof.Rows L2 RZ
/-! ### the couples of a pairing -/
/-- the couples whose first person is below i -/
def cplN (ps : List Nat) (i : Nat) : List (Nat × Nat) := ((List.range i).filter fun x => decide (x < ps.getD x 0)).map fun x => (x, ps.getD x 0)
def cpl (ps : List Nat) : List (Nat × Nat) := cplN ps ps.length
theorem getD_of {ps : List Nat} {x y : Nat} (h : ps[x]? = some y) : ps.getD x 0 = y := by
  rw [List.getD_eq_getElem?_getD, h]; rfl
theorem cplN_yes {ps : List Nat} {i y : Nat} (h : ps[i]? = some y) (hl : i < y) : cplN ps (i + 1) = cplN ps i ++ [(i, y)] := by
  unfold cplN
  rw [List.range_succ, List.filter_append, List.map_append]
  congr 1
  rw [List.filter_cons_of_pos (by rw [getD_of h]; exact decide_eq_true hl), List.filter_nil, List.map_cons, List.map_nil, getD_of h]
theorem cplN_no {ps : List Nat} {i y : Nat} (h : ps[i]? = some y) (hl : ¬ i < y) : cplN ps (i + 1) = cplN ps i := by
  unfold cplN
  rw [List.range_succ, List.filter_append, List.map_append, List.filter_cons_of_neg (by rw [getD_of h]; simpa using hl), List.filter_nil, List.map_nil, List.append_nil]
theorem cplN_len (ps : List Nat) (i : Nat) : (cplN ps i).length ≤ i := by
  unfold cplN
  rw [List.length_map]
  exact Nat.le_trans (List.length_filter_le _ _) (by rw [List.length_range]; exact Nat.le_refl _)
theorem mem_cpl {n : Nat} {ps : List Nat} (h : IsPair n ps) {p : Nat × Nat} : p ∈ cpl ps ↔ ps[p.1]? = some p.2 ∧ p.1 < p.2 := by
  unfold cpl cplN
  rw [h.len]
  constructor
  · intro hp
    obtain ⟨x, hx, rfl⟩ := List.mem_map.mp hp
    obtain ⟨h1, h2⟩ := List.mem_filter.mp hx
    obtain ⟨y, e, _⟩ := h.par x (List.mem_range.mp h1)
    rw [getD_of e] at h2 ⊢
    exact ⟨e, of_decide_eq_true h2⟩
  · rintro ⟨e, hl⟩
    refine List.mem_map.mpr ⟨p.1, List.mem_filter.mpr ⟨List.mem_range.mpr ?_, ?_⟩, ?_⟩
    · rw [← h.len]; exact get_lt e
    · rw [getD_of e]; exact decide_eq_true hl
    · rw [getD_of e]
theorem IsPair.back {n : Nat} {ps : List Nat} (h : IsPair n ps) {x y : Nat} (e : ps[x]? = some y) : ps[y]? = some x ∧ y < n ∧ x < n ∧ y ≠ x := by
  have hx : x < n := by rw [← h.len]; exact get_lt e
  obtain ⟨z, e1, e2, e3, e4⟩ := h.par x hx
  cases Option.some.inj (e.symm.trans e1)
  exact ⟨e4, e2, hx, e3⟩
theorem cpl_cover {n : Nat} {ps : List Nat} (h : IsPair n ps) {z : Nat} (hz : z < n) : ∃ p ∈ cpl ps, p.1 = z ∨ p.2 = z := by
  obtain ⟨y, e1, e2, e3, e4⟩ := h.par z hz
  rcases Nat.lt_or_gt_of_ne e3 with l | l
  · exact ⟨(y, z), (mem_cpl h).mpr ⟨e4, l⟩, .inr rfl⟩
  · exact ⟨(z, y), (mem_cpl h).mpr ⟨e1, l⟩, .inl rfl⟩
theorem filter_split {α : Type} (f : α → Bool) : ∀ l : List α, (l.filter f).length + (l.filter fun x => !f x).length = l.length
  | [] => rfl
  | a :: r => by
    have ih := filter_split f r
    cases e : f a with
    | true => rw [List.filter_cons_of_pos e, List.filter_cons_of_neg (by rw [e]; decide), List.length_cons, List.length_cons]; omega
    | false => rw [List.filter_cons_of_neg (by rw [e]; decide), List.filter_cons_of_pos (by rw [e]; rfl), List.length_cons, List.length_cons]; omega
theorem cpl_half {n : Nat} {ps : List Nat} (h : IsPair n ps) : 2 * (cpl ps).length = n := by
  have e1 : (cpl ps).length = ((List.range n).filter fun x => decide (x < ps.getD x 0)).length := by
    unfold cpl cplN; rw [List.length_map, h.len]
  have inj : ∀ x y, x < n → y < n → ps.getD x 0 = ps.getD y 0 → x = y := fun x y hx hy e => by
    obtain ⟨u, a1, _, _, a4⟩ := h.par x hx
    obtain ⟨v, b1, _, _, b4⟩ := h.par y hy
    rw [getD_of a1, getD_of b1] at e
    subst e
    exact Option.some.inj (a4.symm.trans b4)
  have nd0 : (List.range n).Nodup := List.nodup_range
  have p1 : (((List.range n).filter fun x => decide (x < ps.getD x 0)).map fun x => ps.getD x 0).Perm ((List.range n).filter fun x => !decide (x < ps.getD x 0)) := by
    refine (List.perm_ext_iff_of_nodup ?_ (nd0.filter _)).mpr fun z => ?_
    · refine List.Pairwise.map _ (fun a b hab => hab) ?_
      refine List.Pairwise.imp_of_mem (fun {a b} ha hb hab => ?_) (nd0.filter fun x => decide (x < ps.getD x 0))
      exact fun e => hab (inj a b (List.mem_range.mp (List.mem_filter.mp ha).1) (List.mem_range.mp (List.mem_filter.mp hb).1) e)
    · constructor
      · intro hz
        obtain ⟨x, hx, rfl⟩ := List.mem_map.mp hz
        obtain ⟨h1, h2⟩ := List.mem_filter.mp hx
        obtain ⟨y, a1, a2, a3, a4⟩ := h.par x (List.mem_range.mp h1)
        rw [getD_of a1] at h2 ⊢
        have h3 := of_decide_eq_true h2
        refine List.mem_filter.mpr ⟨List.mem_range.mpr a2, ?_⟩
        rw [getD_of a4, decide_eq_false (by omega)]; rfl
      · intro hz
        obtain ⟨h1, h2⟩ := List.mem_filter.mp hz
        obtain ⟨y, a1, a2, a3, a4⟩ := h.par z (List.mem_range.mp h1)
        rw [getD_of a1] at h2
        have h3 : ¬ z < y := by simpa using h2
        refine List.mem_map.mpr ⟨y, List.mem_filter.mpr ⟨List.mem_range.mpr a2, ?_⟩, getD_of a4⟩
        rw [getD_of a4]
        exact decide_eq_true (by omega)
  have e2 := p1.length_eq
  rw [List.length_map] at e2
  have e3 := filter_split (fun x => decide (x < ps.getD x 0)) (List.range n)
  rw [List.length_range] at e3
  omega
/-- what pairs must be so that they make the pairing ps -/
structure Makes (qs : List (Nat × Nat)) (ps : List Nat) : Prop where
  half : 2 * qs.length = ps.length
  ok : ∀ p ∈ qs, ps[p.1]? = some p.2 ∧ ps[p.2]? = some p.1
  all : ∀ z, z < ps.length → ∃ p ∈ qs, p.1 = z ∨ p.2 = z
theorem makes_cpl {n : Nat} {ps : List Nat} (h : IsPair n ps) : Makes (cpl ps) ps where
  half := by rw [cpl_half h, h.len]
  ok p hp := by
    obtain ⟨e, _⟩ := (mem_cpl h).mp hp
    exact ⟨e, (h.back e).1⟩
  all z hz := cpl_cover h (by rw [← h.len]; exact hz)
/-- the pairs of qs in any order, turned or not -/
theorem Makes.turned {qs rs : List (Nat × Nat)} {ps : List Nat} (h : Makes qs ps) (hl : rs.length = qs.length) (h1 : ∀ p ∈ rs, p ∈ qs ∨ (p.2, p.1) ∈ qs) (h2 : ∀ p ∈ qs, p ∈ rs ∨ (p.2, p.1) ∈ rs) : Makes rs ps where
  half := by rw [hl]; exact h.half
  ok p hp := by
    rcases h1 p hp with z | z
    · exact h.ok p z
    · obtain ⟨a, b⟩ := h.ok _ z
      exact ⟨b, a⟩
  all z hz := by
    obtain ⟨p, hp, e⟩ := h.all z hz
    rcases h2 p hp with q | q
    · exact ⟨p, q, e⟩
    · exact ⟨_, q, e.symm⟩
def CInv (ps : List Nat) (qs : List (Nat × Nat)) (fs : List Nat) (i : Nat) : Prop := fs.length = ps.length ∧ ∀ j, j < i → ∀ p, qs[j]? = some p → fs[p.1]? = ps[p.1]? ∧ fs[p.2]? = ps[p.2]?
theorem set_keeps {ps fs : List Nat} {x y z : Nat} (hy : ps[x]? = some y) (hx : x < fs.length) (h : fs[z]? = ps[z]?) : (fs.set x y)[z]? = ps[z]? := by
  by_cases e : x = z
  · subst e
    rw [List.getElem?_set_self hx, hy]
  · rw [List.getElem?_set_ne e]; exact h
theorem CInv.step {ps fs : List Nat} {qs : List (Nat × Nat)} {i : Nat} {p : Nat × Nat} (m : Makes qs ps) (h : CInv ps qs fs i) (hp : qs[i]? = some p) : CInv ps qs ((fs.set p.1 p.2).set p.2 p.1) (i + 1) := by
  obtain ⟨hl, hj⟩ := h
  obtain ⟨o1, o2⟩ := m.ok p (List.mem_of_getElem? hp)
  have l1 : p.1 < fs.length := by rw [hl]; exact get_lt o1
  have l2 : p.2 < (fs.set p.1 p.2).length := by rw [List.length_set, hl]; exact get_lt o2
  refine ⟨by rw [List.length_set, List.length_set, hl], fun j hj2 r hr => ?_⟩
  by_cases e : j = i
  · subst e
    cases Option.some.inj (hp.symm.trans hr)
    refine ⟨set_keeps o2 l2 ?_, ?_⟩
    · rw [List.getElem?_set_self l1, o1]
    · rw [List.getElem?_set_self l2, o2]
  · obtain ⟨a, b⟩ := hj j (by omega) r hr
    exact ⟨set_keeps o2 l2 (set_keeps o1 l1 a), set_keeps o2 l2 (set_keeps o1 l1 b)⟩
theorem CInv.done {ps fs : List Nat} {qs : List (Nat × Nat)} (m : Makes qs ps) (h : CInv ps qs fs qs.length) : fs = ps := by
  refine List.ext_getElem? fun z => ?_
  by_cases hz : z < ps.length
  · obtain ⟨p, hp, e⟩ := m.all z hz
    obtain ⟨i, hi, ei⟩ := List.mem_iff_getElem.mp hp
    obtain ⟨a, b⟩ := h.2 i hi p (by rw [List.getElem?_eq_getElem hi, ei])
    rcases e with e | e
    · rw [← e]; exact a
    · rw [← e]; exact b
  · rw [List.getElem?_eq_none (by rw [h.1]; omega), List.getElem?_eq_none (by omega)]
end Pc
namespace Pc
open PySem PySem.Spec PyProof.Rows L2 RZ
section
variable {K : PySem.W.Frag}
/-- the values us are the pairs qs, each a tuple or a list -/
def Items (K : PySem.W.Frag) (H : Hp) (us : List V) (qs : List (Nat × Nat)) : Prop := us.length = qs.length ∧ ∀ (i : Nat) (v : V), us[i]? = some v → ∃ (c : Addr) (p : Nat × Nat), v = .ref c ∧ qs[i]? = some p ∧ Sq K H c [.int p.1, .int p.2]
theorem Items.same {H H' : Hp} {us : List V} {qs : List (Nat × Nat)} (h : Items K H us qs) (e : Same H H') : Items K H' us qs := ⟨h.1, fun i v hv => by
  obtain ⟨c, p, h1, h2, h3⟩ := h.2 i v hv
  exact ⟨c, p, h1, h2, h3.same e⟩⟩
theorem items_of {H : Hp} {as : List Addr} {qs : List (Nat × Nat)} (h : Prs H as qs) : Items K H (as.map V.ref) qs := ⟨by rw [List.length_map]; exact h.length, fun i v hv => by
  rw [List.getElem?_map] at hv
  cases e : as[i]? with
  | none => rw [e] at hv; cases hv
  | some c =>
    rw [e] at hv
    obtain ⟨p, h1, h2⟩ := prs_get h e
    exact ⟨c, p, (Option.some.inj hv).symm, h1, .inr (.inl (.inl h2))⟩⟩
end
end Pc
namespace Pc
open PySem PySem.Spec PyProof.Rows L2 RZ
theorem paired_perm {α β : Type} {R : α → β → Prop} {as bs : List α} (h : as.Perm bs) : ∀ ps : List β, Paired R as ps → ∃ qs : List β, qs.Perm ps ∧ Paired R bs qs := by
  induction h with
  | nil => exact fun ps h => ⟨ps, List.Perm.refl _, h⟩
  | cons x _ ih =>
    intro ps h
    cases h with
    | cons r t =>
      obtain ⟨qs, h1, h2⟩ := ih _ t
      exact ⟨_ :: qs, h1.cons _, .cons r h2⟩
  | swap x y l =>
    intro ps h
    cases h with
    | cons r t =>
      cases t with
      | cons r2 t2 => exact ⟨_, List.Perm.swap _ _ _, .cons r2 (.cons r t2)⟩
  | trans _ _ ih1 ih2 =>
    intro ps h
    obtain ⟨qs, h1, h2⟩ := ih1 ps h
    obtain ⟨rs, h3, h4⟩ := ih2 qs h2
    exact ⟨rs, h3.trans h1, h4⟩
/-- the same pairs, some turned -/
def Turned (qs rs : List (Nat × Nat)) : Prop := rs.length = qs.length ∧ ∀ (j : Nat) (p q : Nat × Nat), qs[j]? = some p → rs[j]? = some q → q = p ∨ q = (p.2, p.1)
theorem Turned.mem1 {qs rs : List (Nat × Nat)} (h : Turned qs rs) : ∀ p ∈ rs, p ∈ qs ∨ (p.2, p.1) ∈ qs := fun p hp => by
  obtain ⟨j, hj, e⟩ := List.mem_iff_getElem.mp hp
  obtain ⟨q, hq⟩ := get_some (l := qs) (i := j) (by rw [← h.1]; exact hj)
  rcases h.2 j q p hq (by rw [List.getElem?_eq_getElem hj, e]) with z | z
  · exact .inl (z ▸ List.mem_of_getElem? hq)
  · refine .inr ?_
    rw [z]
    exact List.mem_of_getElem? hq
theorem Turned.mem2 {qs rs : List (Nat × Nat)} (h : Turned qs rs) : ∀ p ∈ qs, p ∈ rs ∨ (p.2, p.1) ∈ rs := fun p hp => by
  obtain ⟨j, hj, e⟩ := List.mem_iff_getElem.mp hp
  obtain ⟨q, hq⟩ := get_some (l := rs) (i := j) (by rw [h.1]; exact hj)
  rcases h.2 j p q (by rw [List.getElem?_eq_getElem hj, e]) hq with z | z
  · exact .inl (z ▸ List.mem_of_getElem? hq)
  · exact .inr (z ▸ List.mem_of_getElem? hq)
theorem Makes.perm {qs rs : List (Nat × Nat)} {ps : List Nat} (h : Makes qs ps) (e : rs.Perm qs) : Makes rs ps := h.turned e.length_eq (fun p hp => .inl (e.mem_iff.mp hp)) (fun p hp => .inl (e.mem_iff.mpr hp))
theorem IsPair.lt {n : Nat} {ps : List Nat} (h : IsPair n ps) : ∀ i ∈ ps, i < n := fun i hi => by
  obtain ⟨x, hx, e⟩ := List.mem_iff_getElem.mp hi
  obtain ⟨y, e1, e2, _⟩ := h.par x (by rw [← h.len]; exact hx)
  rw [List.getElem?_eq_getElem hx, e] at e1
  cases Option.some.inj e1
  exact e2
theorem Makes.lt {qs : List (Nat × Nat)} {ps : List Nat} (h : Makes qs ps) : ∀ p ∈ qs, p.1 < ps.length ∧ p.2 < ps.length := fun p hp => ⟨get_lt (h.ok p hp).1, get_lt (h.ok p hp).2⟩
theorem iteN {A B : Prop} (h : B) : if (!true) = true then A else B := by
  rw [if_neg (by decide)]
  exact h
end Pc
namespace Pc
open PySem PySem.Spec PyProof.Rows L2 RZ
/-! ### a loop over a list or a tuple that stays as it is -/
theorem for_seq {K : PySem.W.Frag} {a : Addr} {xs : List V} {g : TG} {tb : TS} {D : Ends} {σ : L2.St} {H0 H : Hp} (hS : Sq K H0 a xs) (Pv : Nat → L2.St → Hp → Prop) (h0 : Pv 0 σ H) (hst : ∀ i σ H', Pv i σ H' → Same H0 H')
    (hs : ∀ i x σ H', xs[i]? = some x → Pv i σ H' → g x σ H' fun σ2 H2 => tb { D with nx := Pv (i + 1), ct := Pv (i + 1), bk := D.nx } σ2 H2) (hd : ∀ σ H', Pv xs.length σ H' → D.nx σ H') :
    ((∃ ys, SqL K H a ys) ∧ ∃ W : Nat → Nat → L2.St → Hp → Prop, (∃ m, W 0 m σ H) ∧ ∀ i m σ H, W i m σ H → ((Itl K a).stop i H ∧ D.nx σ H) ∨ ((Itl K a).go i H ∧ ∃ N : L2.St → Hp → Prop, (∀ σ' H', N σ' H' → ∃ m', m' < m ∧ W (i + 1) m' σ' H') ∧ ∀ x H', (Itl K a).yld i H x H' → g x σ H' fun σ2 H2 => tb { D with nx := N, ct := N, bk := D.nx } σ2 H2)) ∨
    ((∃ ys, SqT K H a ys) ∧ ∃ W : Nat → Nat → L2.St → Hp → Prop, (∃ m, W 0 m σ H) ∧ ∀ i m σ H, W i m σ H → ((Itt K a).stop i H ∧ D.nx σ H) ∨ ((Itt K a).go i H ∧ ∃ N : L2.St → Hp → Prop, (∀ σ' H', N σ' H' → ∃ m', m' < m ∧ W (i + 1) m' σ' H') ∧ ∀ x H', (Itt K a).yld i H x H' → g x σ H' fun σ2 H2 => tb { D with nx := N, ct := N, bk := D.nx } σ2 H2)) := by
  rcases hS with h | h
  · exact .inl ⟨⟨_, (hst 0 σ H h0).seq h⟩, for_list Pv h0 (fun i σ H' _ p => (hst i σ H' p).seq h) hs hd⟩
  · exact .inr ⟨⟨_, same_tup (hst 0 σ H h0) h⟩, for_tup Pv h0 (fun i σ H' _ p => same_tup (hst i σ H' p) h) hs hd⟩
/-! ### two are joined, and the two that are left -/
def jn (fs : List Nat) (a b : Nat) : List Nat := if fs.getD a 0 = b then fs else (((fs.set a b).set b a).set (fs.getD a 0) (fs.getD b 0)).set (fs.getD b 0) (fs.getD a 0)
theorem jn_len (fs : List Nat) (a b : Nat) : (jn fs a b).length = fs.length := by
  unfold jn
  split
  · rfl
  · simp only [List.length_set]
/-- the four are different -/
theorem four {n : Nat} {fs : List Nat} (h : IsPair n fs) {a b c d : Nat} (hab : a ≠ b) (ea : fs[a]? = some c) (eb : fs[b]? = some d) (hcb : c ≠ b) : c ≠ a ∧ d ≠ b ∧ d ≠ a ∧ c ≠ d ∧ a < n ∧ b < n ∧ c < n ∧ d < n := by
  obtain ⟨a1, a2, a3, a4⟩ := h.back ea
  obtain ⟨b1, b2, b3, b4⟩ := h.back eb
  refine ⟨a4, b4, fun e => ?_, fun e => ?_, a3, b3, a2, b2⟩
  · rw [e, ea] at b1; exact hcb (Option.some.inj b1)
  · rw [e, b1] at a1; exact hab (Option.some.inj a1).symm
theorem jn_same {fs : List Nat} {a b : Nat} (e : fs[a]? = some b) : jn fs a b = fs := by
  unfold jn
  rw [getD_of e, if_pos rfl]
theorem jn_get {n : Nat} {fs : List Nat} (h : IsPair n fs) {a b c d : Nat} (hab : a ≠ b) (ea : fs[a]? = some c) (eb : fs[b]? = some d) (hcb : c ≠ b) (z : Nat) :
    (jn fs a b)[z]? = if z = a then some b else if z = b then some a else if z = c then some d else if z = d then some c else fs[z]? := by
  obtain ⟨x1, x2, x3, x4, l1, l2, l3, l4⟩ := four h hab ea eb hcb
  unfold jn
  rw [getD_of ea, getD_of eb, if_neg hcb]
  have hl := h.len
  by_cases z4 : z = d
  · subst z4
    rw [List.getElem?_set_self (by simp only [List.length_set]; omega), if_neg x3, if_neg x2, if_neg (Ne.symm x4), if_pos rfl]
  · rw [List.getElem?_set_ne (Ne.symm z4)]
    by_cases z3 : z = c
    · subst z3
      rw [List.getElem?_set_self (by simp only [List.length_set]; omega), if_neg x1, if_neg hcb, if_pos rfl]
    · rw [List.getElem?_set_ne (Ne.symm z3)]
      by_cases z2 : z = b
      · subst z2
        rw [List.getElem?_set_self (by simp only [List.length_set]; omega), if_neg (Ne.symm hab), if_pos rfl]
      · rw [List.getElem?_set_ne (Ne.symm z2)]
        by_cases z1 : z = a
        · subst z1
          rw [List.getElem?_set_self (by omega), if_pos rfl]
        · rw [List.getElem?_set_ne (Ne.symm z1), if_neg z1, if_neg z2, if_neg z3, if_neg z4]
theorem jn_pair {n : Nat} {fs : List Nat} (h : IsPair n fs) {a b : Nat} (hab : a ≠ b) (ha : a < n) (hb : b < n) : IsPair n (jn fs a b) := by
  obtain ⟨c, ea, _⟩ := h.par a ha
  obtain ⟨d, eb, _⟩ := h.par b hb
  by_cases hcb : c = b
  · subst hcb; rw [jn_same ea]; exact h
  · have G := jn_get h hab ea eb hcb
    obtain ⟨x1, x2, x3, x4, _, _, l3, l4⟩ := four h hab ea eb hcb
    refine ⟨by rw [jn_len]; exact h.len, fun x hx => ?_⟩
    by_cases z1 : x = a
    · subst z1
      exact ⟨b, by rw [G, if_pos rfl], hb, hab.symm, by rw [G, if_neg hab.symm, if_pos rfl]⟩
    · by_cases z2 : x = b
      · subst z2
        exact ⟨a, by rw [G, if_neg z1, if_pos rfl], ha, hab, by rw [G, if_pos rfl]⟩
      · by_cases z3 : x = c
        · subst z3
          exact ⟨d, by rw [G, if_neg z1, if_neg z2, if_pos rfl], l4, x4.symm, by rw [G, if_neg x3, if_neg x2, if_neg x4.symm, if_pos rfl]⟩
        · by_cases z4 : x = d
          · subst z4
            exact ⟨c, by rw [G, if_neg z1, if_neg z2, if_neg z3, if_pos rfl], l3, x4, by rw [G, if_neg x1, if_neg hcb, if_pos rfl]⟩
          · obtain ⟨y, e1, e2, e3, e4⟩ := h.par x hx
            have back : ∀ {u : Nat}, y = u → fs[u]? = some x := fun e => by rw [← e]; exact e4
            refine ⟨y, by rw [G, if_neg z1, if_neg z2, if_neg z3, if_neg z4]; exact e1, e2, e3, ?_⟩
            rw [G, if_neg, if_neg, if_neg, if_neg]
            · exact e4
            · intro e; have q := back e; rw [(h.back eb).1] at q; exact z2 (Option.some.inj q).symm
            · intro e; have q := back e; rw [(h.back ea).1] at q; exact z1 (Option.some.inj q).symm
            · intro e; have q := back e; rw [eb] at q; exact z4 (Option.some.inj q).symm
            · intro e; have q := back e; rw [ea] at q; exact z3 (Option.some.inj q).symm
/-- all pairs are calls of n people -/
def Calls (n : Nat) (qs : List (Nat × Nat)) : Prop := ∀ q ∈ qs, q.1 < q.2 ∧ q.2 < n
/-- the calls done one after another -/
def runs (qs : List (Nat × Nat)) (ps : List Nat) : List Nat := qs.foldl (fun fs q => jn fs q.1 q.2) ps
theorem runs_take {qs : List (Nat × Nat)} {ps : List Nat} {i : Nat} {q : Nat × Nat} (h : qs[i]? = some q) : runs (qs.take (i + 1)) ps = jn (runs (qs.take i) ps) q.1 q.2 := by
  unfold runs
  rw [List.take_add_one, h, List.foldl_append]
  rfl
theorem runs_pair {n : Nat} : ∀ (qs : List (Nat × Nat)) {ps : List Nat}, IsPair n ps → Calls n qs → IsPair n (runs qs ps)
  | [], _, h, _ => h
  | q :: r, ps, h, hc => by
    have h1 := hc q List.mem_cons_self
    exact runs_pair r (jn_pair h (by omega) (by omega) h1.2) (fun x hx => hc x (List.mem_cons_of_mem _ hx))
theorem Calls.take {n : Nat} {qs : List (Nat × Nat)} (h : Calls n qs) (i : Nat) : Calls n (qs.take i) := fun q hq => h q (List.mem_of_mem_take hq)
end Pc
namespace Pc
open PySem PySem.Spec PyProof.Rows L2 RZ
/-! ### lists of tuples of numbers -/
def Tups (H : Hp) (as : List Addr) (ls : List (List Nat)) : Prop := Paired (fun a l => H a = some (.tup (nv l))) as ls
theorem Tups.length {H : Hp} {as : List Addr} {ls : List (List Nat)} (h : Tups H as ls) : as.length = ls.length := Paired.length h
theorem tups_same {H H' : Hp} (e : Same H H') : ∀ {as : List Addr} {ls : List (List Nat)}, Tups H as ls → Tups H' as ls
  | _, _, .nil => .nil
  | _, _, .cons h r => .cons (e _ _ h) (tups_same e r)
theorem tups_keep {b : Addr} {H H' : Hp} {ys : List V} (k : Keep b H H') (hb : H b = some (.lst ys)) : ∀ {as : List Addr} {ls : List (List Nat)}, Tups H as ls → Tups H' as ls
  | _, _, .nil => .nil
  | _, _, .cons h r => .cons (k.tup hb h) (tups_keep k hb r)
theorem tups_append {H : Hp} : ∀ {as bs : List Addr} {ls ms : List (List Nat)}, Tups H as ls → Tups H bs ms → Tups H (as ++ bs) (ls ++ ms)
  | _, _, _, _, .nil, s => s
  | _, _, _, _, .cons h r, s => .cons h (tups_append r s)
theorem tups_get {H : Hp} : ∀ {as : List Addr} {ls : List (List Nat)} {i : Nat} {a : Addr}, Tups H as ls → as[i]? = some a → ∃ l, ls[i]? = some l ∧ H a = some (.tup (nv l))
  | _, _, _, _, .nil, h => by simp at h
  | _, _, 0, _, .cons (b := p) h _, e => by
    cases Option.some.inj e
    exact ⟨p, rfl, h⟩
  | _, _, i + 1, a, .cons _ r, e => tups_get (i := i) r e
def td (l : List Nat) : PyData := .tuple (nd l)
theorem tups_dp {K : PySem.W.Frag} {H : Hp} : ∀ {as : List Addr} {ls : List (List Nat)}, Tups H as ls → DpAll K H (as.map V.ref) (ls.map td)
  | _, _, .nil => .nil
  | _, _, .cons (b := l) h r => .cons (.tup (.inl (.inl h)) (dp_nats l)) (tups_dp r)
theorem fine_tds {ls : List (List Nat)} {n m : Nat} (h : ∀ l ∈ ls, l.length ≤ m ∧ ∀ i ∈ l, i < 2 ^ 60) (hn : ls.length ≤ n) (hb : n ≤ 100000) (hm : m ≤ 100000) : Fine 2 (n * (m * 63 + 5) + 3) (.list (ls.map td)) :=
  fine_list (fun d hd => by
    obtain ⟨l, hl, rfl⟩ := List.mem_map.mp hd
    exact fine_tup (h l hl).2 (h l hl).1 hm) (by rw [List.length_map]; exact hn) hb
/-- the pairings before the first call and behind each -/
def alongs (qs : List (Nat × Nat)) (ps : List Nat) (i : Nat) : List (List Nat) := (List.range (i + 1)).map fun j => runs (qs.take j) ps
theorem alongs_zero (qs : List (Nat × Nat)) (ps : List Nat) : alongs qs ps 0 = [ps] := rfl
theorem alongs_succ (qs : List (Nat × Nat)) (ps : List Nat) (i : Nat) : alongs qs ps (i + 1) = alongs qs ps i ++ [runs (qs.take (i + 1)) ps] := by
  unfold alongs
  rw [List.range_succ, List.map_append]
  rfl
theorem alongs_len (qs : List (Nat × Nat)) (ps : List Nat) (i : Nat) : (alongs qs ps i).length = i + 1 := by
  unfold alongs
  rw [List.length_map, List.length_range]
theorem alongs_mem {n i : Nat} {qs : List (Nat × Nat)} {ps l : List Nat} (hP : IsPair n ps) (hc : Calls n qs) (h : l ∈ alongs qs ps i) : IsPair n l := by
  obtain ⟨j, _, rfl⟩ := List.mem_map.mp h
  exact runs_pair _ hP (hc.take j)
end Pc
namespace Pc
open PySem PySem.Spec PyProof.Rows L2 RZ
/-! ### sheets as lists of natural numbers -/
/-- the empty sheet of n people -/
def emp (n : Nat) : List Nat := (List.range (2 * n)).map fun e => (e + n) % (2 * n)
theorem emp_len (n : Nat) : (emp n).length = 2 * n := by unfold emp; rw [List.length_map, List.length_range]
theorem emp_get {n e : Nat} (h : e < 2 * n) : (emp n)[e]? = some ((e + n) % (2 * n)) := by
  unfold emp
  rw [List.getElem?_map, List.getElem?_range h]
  rfl
theorem emp_lo {n e : Nat} (h : e < n) : (emp n)[e]? = some (n + e) := by
  rw [emp_get (by omega), Nat.mod_eq_of_lt (by omega), Nat.add_comm]
theorem emp_hi {n e : Nat} (h : e < n) : (emp n)[n + e]? = some e := by
  rw [emp_get (by omega), show n + e + n = e + 1 * (2 * n) by omega, Nat.add_mul_mod_self_right, Nat.mod_eq_of_lt (by omega)]
theorem emp_pair {n : Nat} (hn : 0 < n) : IsPair (2 * n) (emp n) := by
  refine ⟨emp_len n, fun x hx => ?_⟩
  by_cases h : x < n
  · exact ⟨n + x, emp_lo h, by omega, by omega, emp_hi h⟩
  · have e : x = n + (x - n) := by omega
    refine ⟨x - n, ?_, by omega, by omega, ?_⟩
    · have := emp_hi (n := n) (e := x - n) (by omega)
      rw [← e] at this; exact this
    · have := emp_lo (n := n) (e := x - n) (by omega)
      rw [← e] at this; exact this
/-- the calls at the lower ends -/
def low (n : Nat) (qs : List (Nat × Nat)) : List (Nat × Nat) := qs.map fun q => (n + q.1, n + q.2)
theorem low_calls {n : Nat} {qs : List (Nat × Nat)} (h : Calls n qs) : Calls (2 * n) (low n qs) := fun q hq => by
  obtain ⟨r, hr, rfl⟩ := List.mem_map.mp hq
  have := h r hr
  exact ⟨by show n + r.1 < n + r.2; omega, by show n + r.2 < 2 * n; omega⟩
theorem low_take (n : Nat) (qs : List (Nat × Nat)) (i : Nat) : (low n qs).take i = low n (qs.take i) := by unfold low; rw [List.map_take]
theorem low_get {n i : Nat} {qs : List (Nat × Nat)} {q : Nat × Nat} (h : qs[i]? = some q) : (low n qs)[i]? = some (n + q.1, n + q.2) := by
  unfold low; rw [List.getElem?_map, h]; rfl
/-- the sheet with calls added -/
def shw (n : Nat) (qs : List (Nat × Nat)) (fs : List Nat) : List Nat := runs (low n qs) fs
theorem shw_take {n i : Nat} {qs : List (Nat × Nat)} {fs : List Nat} {q : Nat × Nat} (h : qs[i]? = some q) : shw n (qs.take (i + 1)) fs = jn (shw n (qs.take i) fs) (n + q.1) (n + q.2) := by
  unfold shw
  rw [← low_take, ← low_take, runs_take (low_get h)]
theorem shw_pair {n : Nat} {qs : List (Nat × Nat)} {fs : List Nat} (hP : IsPair (2 * n) fs) (h : Calls n qs) : IsPair (2 * n) (shw n qs fs) := runs_pair _ hP (low_calls h)
/-- the other order of the stores -/
theorem jn_alt {n : Nat} {fs : List Nat} (h : IsPair n fs) {a b c d : Nat} (hab : a ≠ b) (ea : fs[a]? = some c) (eb : fs[b]? = some d) (hcb : c ≠ b) : (((fs.set c d).set d c).set a b).set b a = jn fs a b := by
  obtain ⟨x1, x2, x3, x4, l1, l2, l3, l4⟩ := four h hab ea eb hcb
  have hl := h.len
  refine List.ext_getElem? fun z => ?_
  rw [jn_get h hab ea eb hcb]
  by_cases z2 : z = b
  · subst z2
    rw [List.getElem?_set_self (by simp only [List.length_set]; omega), if_neg hab.symm, if_pos rfl]
  · rw [List.getElem?_set_ne (Ne.symm z2)]
    by_cases z1 : z = a
    · subst z1
      rw [List.getElem?_set_self (by simp only [List.length_set]; omega), if_pos rfl]
    · rw [List.getElem?_set_ne (Ne.symm z1), if_neg z1, if_neg z2]
      by_cases z4 : z = d
      · subst z4
        rw [List.getElem?_set_self (by simp only [List.length_set]; omega), if_neg (Ne.symm x4), if_pos rfl]
      · rw [List.getElem?_set_ne (Ne.symm z4)]
        by_cases z3 : z = c
        · subst z3
          rw [List.getElem?_set_self (by omega), if_pos rfl]
        · rw [List.getElem?_set_ne (Ne.symm z3), if_neg z3, if_neg z4]
theorem range_shift (n : Nat) : rgV (n : Int) (2 * (n : Int)) = nv ((List.range n).map fun i => n + i) := by
  unfold rgV nv
  rw [show (2 * (n : Int) - (n : Int)).toNat = n by omega, List.map_map]
  refine List.map_congr_left fun i _ => ?_
  show V.int ((n : Int) + (i : Nat)) = V.int (((n + i : Nat) : Int))
  rw [show (((n + i : Nat) : Int)) = (n : Int) + (i : Nat) by omega]
/-- strands in any order: the upper ends in turn, the lower ends as drawn -/
def SInv (n : Nat) (ls fs : List Nat) (t : Nat) : Prop := fs.length = 2 * n ∧ ∀ j, j < t → ∀ l, ls[j]? = some l → fs[j]? = some l ∧ fs[l]? = some j
theorem SInv.step {n : Nat} {ls fs : List Nat} {t l : Nat} (hp : ls.Perm ((List.range n).map fun i => n + i)) (h : SInv n ls fs t) (hl : ls[t]? = some l) : SInv n ls ((fs.set t l).set l t) (t + 1) := by
  have hln : ls.length = n := by rw [hp.length_eq, List.length_map, List.length_range]
  have hnd : ls.Nodup := hp.nodup_iff.mpr (List.Pairwise.map _ (fun a b (hab : a ≠ b) => show n + a ≠ n + b by omega) List.nodup_range)
  have big : ∀ {j x : Nat}, ls[j]? = some x → n ≤ x ∧ x < 2 * n := fun hx => by
    obtain ⟨i, hi, e⟩ := List.mem_map.mp (hp.mem_iff.mp (List.mem_of_getElem? hx))
    have := List.mem_range.mp hi
    omega
  have ht : t < n := by rw [← hln]; exact get_lt hl
  have hb := big hl
  obtain ⟨h1, h2⟩ := h
  refine ⟨by simp only [List.length_set]; exact h1, fun j hj x hx => ?_⟩
  have hjn : j < n := by rw [← hln]; exact get_lt hx
  have hbx := big hx
  by_cases e : j = t
  · subst e
    cases Option.some.inj (hl.symm.trans hx)
    exact ⟨by rw [List.getElem?_set_ne (by omega), List.getElem?_set_self (by omega)], by rw [List.getElem?_set_self (by simp only [List.length_set]; omega)]⟩
  · obtain ⟨g1, g2⟩ := h2 j (by omega) x hx
    have xl : l ≠ x := fun z => by subst z; exact e (nd_ix hnd hx hl)
    exact ⟨by rw [List.getElem?_set_ne (by omega), List.getElem?_set_ne (by omega)]; exact g1, by rw [List.getElem?_set_ne xl, List.getElem?_set_ne (by omega)]; exact g2⟩
theorem SInv.done {n : Nat} {ls fs : List Nat} (hp : ls.Perm ((List.range n).map fun i => n + i)) (h : SInv n ls fs n) : IsPair (2 * n) fs := by
  have hln : ls.length = n := by rw [hp.length_eq, List.length_map, List.length_range]
  refine ⟨h.1, fun x hx => ?_⟩
  by_cases e : x < n
  · obtain ⟨l, hl⟩ := get_some (l := ls) (i := x) (by omega)
    obtain ⟨i, hi, e'⟩ := List.mem_map.mp (hp.mem_iff.mp (List.mem_of_getElem? hl))
    have := List.mem_range.mp hi
    obtain ⟨g1, g2⟩ := h.2 x e l hl
    exact ⟨l, g1, by omega, by omega, g2⟩
  · have hm : x ∈ ls := hp.mem_iff.mpr (List.mem_map.mpr ⟨x - n, List.mem_range.mpr (by omega), by omega⟩)
    obtain ⟨j, hj, ej⟩ := List.mem_iff_getElem.mp hm
    obtain ⟨g1, g2⟩ := h.2 j (by omega) x (by rw [List.getElem?_eq_getElem hj, ej])
    exact ⟨j, g2, by omega, by omega, g1⟩
theorem emp_step (n i : Nat) (h : i < 2 * n) : (emp n).take (i + 1) = (emp n).take i ++ [(i + n) % (2 * n)] := by
  rw [List.take_add_one, emp_get h]
  rfl
theorem nv_snoc' (l : List Nat) (x : Nat) : nv l ++ [.int (x : Int)] = nv (l ++ [x]) := by
  unfold nv
  rw [List.map_append]; rfl
theorem mod_cast_n (i n : Nat) : ((0 : Int) + (i : Nat) + (n : Int)) % (2 * (n : Int)) = (((i + n) % (2 * n) : Nat) : Int) := by
  have h : (((i + n) % (2 * n) : Nat) : Int) = ((i + n : Nat) : Int) % ((2 * n : Nat) : Int) := Int.natCast_emod _ _
  rw [h, Int.natCast_add, Int.natCast_mul, Int.zero_add]
  rfl
end Pc
namespace Pc
open PySem PySem.Spec PyProof.Rows L2 RZ
/-! ### pairs that are chosen from a range -/
def selN (c : Nat → Bool) (g : Nat → Nat × Nat) (i : Nat) : List (Nat × Nat) := ((List.range i).filter c).map g
theorem selN_yes {c : Nat → Bool} {g : Nat → Nat × Nat} {i : Nat} (h : c i = true) : selN c g (i + 1) = selN c g i ++ [g i] := by
  unfold selN
  rw [List.range_succ, List.filter_append, List.map_append, List.filter_cons_of_pos h, List.filter_nil, List.map_cons, List.map_nil]
theorem selN_no {c : Nat → Bool} {g : Nat → Nat × Nat} {i : Nat} (h : c i = false) : selN c g (i + 1) = selN c g i := by
  unfold selN
  rw [List.range_succ, List.filter_append, List.map_append, List.filter_cons_of_neg (by rw [h]; decide), List.filter_nil, List.map_nil, List.append_nil]
theorem selN_len (c : Nat → Bool) (g : Nat → Nat × Nat) (i : Nat) : (selN c g i).length ≤ i := by
  unfold selN
  rw [List.length_map]
  exact Nat.le_trans (List.length_filter_le _ _) (by rw [List.length_range]; exact Nat.le_refl _)
theorem selN_mem {c : Nat → Bool} {g : Nat → Nat × Nat} {i : Nat} {p : Nat × Nat} : p ∈ selN c g i ↔ ∃ x, x < i ∧ c x = true ∧ g x = p := by
  unfold selN
  rw [List.mem_map]
  constructor
  · rintro ⟨x, hx, e⟩
    have := List.mem_filter.mp hx
    exact ⟨x, List.mem_range.mp this.1, this.2, e⟩
  · rintro ⟨x, h1, h2, e⟩
    exact ⟨x, List.mem_filter.mpr ⟨List.mem_range.mpr h1, h2⟩, e⟩
/-- one more pair is put to the list -/
theorem sel_step {H H1 : Hp} {D u : Addr} {as : List Addr} {c : Nat → Bool} {g : Nat → Nat × Nat} {i : Nat} {v1 v2 : V} (nD : H D = none) (sm : Same H H1) (eD : H1 D = some (.lst (as.map V.ref))) (hA : Prs H1 as (selN c g i)) (hc : c i = true) (nu : H1 u = none)
    (hv : [v1, v2] = [V.int ((g i).1 : Int), V.int ((g i).2 : Int)]) (hi : i ≤ 999) : ∃ acc, (upd H1 u (.tup [v1, v2])) D = some (.lst acc) ∧ acc.length < sizeLine ∧
      (Same H (upd (upd H1 u (.tup [v1, v2])) D (.lst (acc ++ [.ref u]))) ∧ ∃ as' : List Addr, (upd (upd H1 u (.tup [v1, v2])) D (.lst (acc ++ [.ref u]))) D = some (.lst (as'.map V.ref)) ∧ Prs (upd (upd H1 u (.tup [v1, v2])) D (.lst (acc ++ [.ref u]))) as' (selN c g (i + 1))) := by
  have su : Same H1 (upd H1 u (.tup [v1, v2])) := same_new nu
  have nuD : u ≠ D := fun e => by rw [e, eD] at nu; cases nu
  refine ⟨_, su _ _ eD, ?_, fun b' o hb => ?_, as ++ [u], ?_, ?_⟩
  · rw [List.length_map, hA.length]
    have := selN_len c g i
    exact small1000 (by omega)
  · rw [upd_ne (ne_of_none hb nD)]; exact su _ _ (sm _ _ hb)
  · rw [upd_same, List.map_append]; rfl
  · rw [selN_yes hc]
    refine prs_append (prs_keep (b := D) (ys := as.map V.ref) keep_upd (su _ _ eD) (prs_same su hA)) (.cons ?_ .nil)
    rw [upd_ne nuD, upd_same, hv]
theorem ix_sq {K : PySem.W.Frag} {H : Hp} {a : Addr} {xs : List V} {i : Int} {v : V} {Q : VK} (h : Sq K H a xs) (e : atI xs i = some v) (q : Q v H) : rIx K (.ref a) (.int i) H Q :=
  h.elim (fun z => .inl ⟨a, xs, i, v, rfl, rfl, z, e, q⟩) (fun z => .inr (.inl ⟨a, xs, i, v, rfl, rfl, z, e, q⟩))
/-! ### upper pairs, lower pairs, strands -/
def upC (fs : List Nat) (n x : Nat) : Bool := decide (x < fs.getD x 0) && decide (fs.getD x 0 < n)
def upG (fs : List Nat) (x : Nat) : Nat × Nat := (x, fs.getD x 0)
def loC (fs : List Nat) (n x : Nat) : Bool := decide (n + x < fs.getD (n + x) 0)
def loG (fs : List Nat) (n x : Nat) : Nat × Nat := (x, fs.getD (n + x) 0 - n)
def stC (fs : List Nat) (n x : Nat) : Bool := decide (n ≤ fs.getD x 0)
def stG (fs : List Nat) (n x : Nat) : Nat × Nat := (x, fs.getD x 0 - n)
def ups (fs : List Nat) (n : Nat) : List (Nat × Nat) := selN (upC fs n) (upG fs) n
def los (fs : List Nat) (n : Nat) : List (Nat × Nat) := selN (loC fs n) (loG fs n) n
def sts (fs : List Nat) (n : Nat) : List (Nat × Nat) := selN (stC fs n) (stG fs n) n
theorem ups_mem {n : Nat} {fs : List Nat} (h : IsPair (2 * n) fs) {p : Nat × Nat} (hp : p ∈ ups fs n) : fs[p.1]? = some p.2 ∧ p.1 < p.2 ∧ p.2 < n := by
  obtain ⟨x, hx, hc, e⟩ := selN_mem.mp hp
  obtain ⟨y, ey, _⟩ := h.par x (by omega)
  unfold upC at hc
  rw [getD_of ey, Bool.and_eq_true, decide_eq_true_iff, decide_eq_true_iff] at hc
  subst e
  show fs[x]? = some (fs.getD x 0) ∧ x < fs.getD x 0 ∧ fs.getD x 0 < n
  rw [getD_of ey]
  exact ⟨ey, hc.1, hc.2⟩
theorem los_mem {n : Nat} {fs : List Nat} (h : IsPair (2 * n) fs) {p : Nat × Nat} (hp : p ∈ los fs n) : fs[n + p.1]? = some (n + p.2) ∧ p.1 < p.2 ∧ p.2 < n := by
  obtain ⟨x, hx, hc, e⟩ := selN_mem.mp hp
  obtain ⟨y, ey, hy, _⟩ := h.par (n + x) (by omega)
  unfold loC at hc
  rw [getD_of ey, decide_eq_true_iff] at hc
  subst e
  show fs[n + x]? = some (n + (fs.getD (n + x) 0 - n)) ∧ x < fs.getD (n + x) 0 - n ∧ fs.getD (n + x) 0 - n < n
  rw [getD_of ey, show n + (y - n) = y by omega]
  exact ⟨ey, by omega, by omega⟩
theorem sts_mem {n : Nat} {fs : List Nat} (h : IsPair (2 * n) fs) {p : Nat × Nat} (hp : p ∈ sts fs n) : fs[p.1]? = some (n + p.2) ∧ p.1 < n ∧ p.2 < n := by
  obtain ⟨x, hx, hc, e⟩ := selN_mem.mp hp
  obtain ⟨y, ey, hy, _⟩ := h.par x (by omega)
  unfold stC at hc
  rw [getD_of ey, decide_eq_true_iff] at hc
  subst e
  show fs[x]? = some (n + (fs.getD x 0 - n)) ∧ x < n ∧ fs.getD x 0 - n < n
  rw [getD_of ey, show n + (y - n) = y by omega]
  exact ⟨ey, by omega, by omega⟩
/-- all joins of a sheet, as pairs of ends -/
def jns (fs : List Nat) (n : Nat) : List (Nat × Nat) := ups fs n ++ ((los fs n).map (fun p => (n + p.1, n + p.2)) ++ (sts fs n).map (fun p => (p.1, n + p.2)))
theorem jns_ok {n : Nat} {fs : List Nat} (h : IsPair (2 * n) fs) : ∀ p ∈ jns fs n, fs[p.1]? = some p.2 ∧ p.1 < p.2 := fun p hp => by
  rcases List.mem_append.mp hp with z | z
  · have := ups_mem h z; exact ⟨this.1, this.2.1⟩
  · rcases List.mem_append.mp z with z | z
    · obtain ⟨r, hr, rfl⟩ := List.mem_map.mp z
      have := los_mem h hr
      exact ⟨this.1, by show n + r.1 < n + r.2; omega⟩
    · obtain ⟨r, hr, rfl⟩ := List.mem_map.mp z
      have := sts_mem h hr
      exact ⟨this.1, by show r.1 < n + r.2; omega⟩
theorem sel_fst {c : Nat → Bool} {g : Nat → Nat × Nat} {i : Nat} (h : ∀ x, (g x).1 = x) : (selN c g i).map Prod.fst = (List.range i).filter c := by
  unfold selN
  rw [List.map_map]
  conv => rhs; rw [← List.map_id ((List.range i).filter c)]
  exact List.map_congr_left fun x _ => h x
theorem jns_nodup {n : Nat} {fs : List Nat} (h : IsPair (2 * n) fs) : ((jns fs n).map Prod.fst).Nodup := by
  have e1 : (ups fs n).map Prod.fst = (List.range n).filter (upC fs n) := sel_fst fun _ => rfl
  have e2 : ((los fs n).map (fun p => (n + p.1, n + p.2))).map Prod.fst = ((List.range n).filter (loC fs n)).map (fun x => n + x) := by
    rw [← sel_fst (c := loC fs n) (g := loG fs n) (i := n) fun _ => rfl, List.map_map, List.map_map]; rfl
  have e3 : ((sts fs n).map (fun p => (p.1, n + p.2))).map Prod.fst = (List.range n).filter (stC fs n) := by
    rw [← sel_fst (c := stC fs n) (g := stG fs n) (i := n) fun _ => rfl, List.map_map]; rfl
  unfold jns
  rw [List.map_append, List.map_append, e1, e2, e3]
  have nr : (List.range n).Nodup := List.nodup_range
  refine List.nodup_append.mpr ⟨nr.filter _, List.nodup_append.mpr ⟨?_, nr.filter _, fun a ha b hb => ?_⟩, fun a ha b hb => ?_⟩
  · exact List.Pairwise.map _ (fun a b (hab : a ≠ b) => show n + a ≠ n + b by omega) (nr.filter _)
  · obtain ⟨x, _, rfl⟩ := List.mem_map.mp ha
    have := List.mem_range.mp (List.mem_filter.mp hb).1
    omega
  · have ha1 := List.mem_range.mp (List.mem_filter.mp ha).1
    have ha2 := (List.mem_filter.mp ha).2
    unfold upC at ha2
    rw [Bool.and_eq_true, decide_eq_true_iff, decide_eq_true_iff] at ha2
    rcases List.mem_append.mp hb with z | z
    · obtain ⟨x, _, rfl⟩ := List.mem_map.mp z; omega
    · have hb2 := (List.mem_filter.mp z).2
      unfold stC at hb2
      rw [decide_eq_true_iff] at hb2
      intro e; subst e; omega
theorem jns_all {n : Nat} {fs : List Nat} (h : IsPair (2 * n) fs) {z y : Nat} (e : fs[z]? = some y) (hz : z < y) : (z, y) ∈ jns fs n := by
  obtain ⟨_, hy, hz2, _⟩ := h.back e
  unfold jns
  by_cases c : z < n
  · by_cases d : y < n
    · refine List.mem_append.mpr (.inl (selN_mem.mpr ⟨z, c, ?_, ?_⟩))
      · unfold upC; rw [getD_of e, decide_eq_true hz, decide_eq_true d]; rfl
      · unfold upG; rw [getD_of e]
    · refine List.mem_append.mpr (.inr (List.mem_append.mpr (.inr (List.mem_map.mpr ⟨(z, y - n), selN_mem.mpr ⟨z, c, ?_, ?_⟩, ?_⟩))))
      · unfold stC; rw [getD_of e]; exact decide_eq_true (by omega)
      · unfold stG; rw [getD_of e]
      · show (z, n + (y - n)) = (z, y); rw [show n + (y - n) = y by omega]
  · have e' : fs[n + (z - n)]? = some y := by rw [show n + (z - n) = z by omega]; exact e
    refine List.mem_append.mpr (.inr (List.mem_append.mpr (.inl (List.mem_map.mpr ⟨(z - n, y - n), selN_mem.mpr ⟨z - n, by omega, ?_, ?_⟩, ?_⟩))))
    · unfold loC; rw [getD_of e']; exact decide_eq_true (by omega)
    · unfold loG; rw [getD_of e']
    · show (n + (z - n), n + (y - n)) = (z, y); rw [show n + (z - n) = z by omega, show n + (y - n) = y by omega]
/-- the ends of joins in a row -/
def flat : List (Nat × Nat) → List Nat
  | [] => []
  | p :: r => p.1 :: p.2 :: flat r
theorem flat_app : ∀ a b : List (Nat × Nat), flat (a ++ b) = flat a ++ flat b
  | [], _ => rfl
  | p :: r, b => by show p.1 :: p.2 :: flat (r ++ b) = _; rw [flat_app r b]; rfl
theorem flat_mem : ∀ {l : List (Nat × Nat)} {z : Nat}, z ∈ flat l ↔ ∃ p ∈ l, z = p.1 ∨ z = p.2
  | [], z => by simp [flat]
  | p :: r, z => by
    show z ∈ p.1 :: p.2 :: flat r ↔ _
    rw [List.mem_cons, List.mem_cons, flat_mem (l := r)]
    constructor
    · rintro (e | e | ⟨q, hq, e⟩)
      · exact ⟨p, List.mem_cons_self, .inl e⟩
      · exact ⟨p, List.mem_cons_self, .inr e⟩
      · exact ⟨q, List.mem_cons_of_mem _ hq, e⟩
    · rintro ⟨q, hq, e⟩
      rcases List.mem_cons.mp hq with z | z
      · subst z; exact e.elim .inl (fun e => .inr (.inl e))
      · exact .inr (.inr ⟨q, z, e⟩)
theorem flat_len : ∀ l : List (Nat × Nat), (flat l).length = 2 * l.length
  | [] => rfl
  | p :: r => by show (flat r).length + 1 + 1 = 2 * (r.length + 1); rw [flat_len r]; omega
theorem flat_nodup {n : Nat} {fs : List Nat} (h : IsPair n fs) : ∀ {l : List (Nat × Nat)}, (∀ p ∈ l, fs[p.1]? = some p.2 ∧ p.1 < p.2) → (l.map Prod.fst).Nodup → (flat l).Nodup
  | [], _, _ => List.nodup_nil
  | p :: r, ho, hd => by
    have hp := ho p List.mem_cons_self
    obtain ⟨n1, n2⟩ := List.nodup_cons.mp (show (p.1 :: r.map Prod.fst).Nodup from hd)
    have hr : ∀ q ∈ r, fs[q.1]? = some q.2 ∧ q.1 < q.2 := fun q hq => ho q (List.mem_cons_of_mem _ hq)
    have ih := flat_nodup h hr n2
    have bp := (h.back hp.1).1
    have ne1 : ∀ q ∈ r, p.1 ≠ q.1 := fun q hq e => n1 (List.mem_map.mpr ⟨q, hq, e.symm⟩)
    show (p.1 :: p.2 :: flat r).Nodup
    refine List.nodup_cons.mpr ⟨fun hm => ?_, List.nodup_cons.mpr ⟨fun hm => ?_, ih⟩⟩
    · rcases List.mem_cons.mp hm with e | e
      · omega
      · obtain ⟨q, hq, e⟩ := flat_mem.mp e
        have hq' := hr q hq
        rcases e with e | e
        · exact ne1 q hq e
        · have bq := (h.back hq'.1).1
          rw [← e, hp.1] at bq
          have := Option.some.inj bq
          omega
    · obtain ⟨q, hq, e⟩ := flat_mem.mp hm
      have hq' := hr q hq
      rcases e with e | e
      · have e1 := hq'.1
        rw [← e, bp] at e1
        have := Option.some.inj e1
        omega
      · have bq := (h.back hq'.1).1
        rw [← e, bp] at bq
        exact ne1 q hq (Option.some.inj bq)
theorem jns_perm {n : Nat} {fs : List Nat} (h : IsPair (2 * n) fs) : (flat (jns fs n)).Perm (List.range (2 * n)) := by
  refine (List.perm_ext_iff_of_nodup (flat_nodup h (jns_ok h) (jns_nodup h)) List.nodup_range).mpr fun z => ?_
  rw [flat_mem, List.mem_range]
  constructor
  · rintro ⟨p, hp, e⟩
    obtain ⟨b1, b2, b3, _⟩ := h.back (jns_ok h p hp).1
    rcases e with e | e <;> omega
  · intro hz
    obtain ⟨y, ey, hy, hne, eb⟩ := h.par z hz
    by_cases c : z < y
    · exact ⟨_, jns_all h ey c, .inl rfl⟩
    · exact ⟨_, jns_all h eb (by omega), .inr rfl⟩
theorem flat_two {f : Nat → Bool} : ∀ {l : List (Nat × Nat)}, (∀ p ∈ l, f p.1 = true ∧ f p.2 = true) → (flat l).countP f = 2 * l.length
  | [], _ => rfl
  | p :: r, h => by
    have hp := h p List.mem_cons_self
    show (p.1 :: p.2 :: flat r).countP f = _
    rw [List.countP_cons_of_pos hp.1, List.countP_cons_of_pos hp.2, flat_two fun q hq => h q (List.mem_cons_of_mem _ hq), List.length_cons]
    omega
theorem flat_none {f : Nat → Bool} : ∀ {l : List (Nat × Nat)}, (∀ p ∈ l, f p.1 = false ∧ f p.2 = false) → (flat l).countP f = 0
  | [], _ => rfl
  | p :: r, h => by
    have hp := h p List.mem_cons_self
    show (p.1 :: p.2 :: flat r).countP f = _
    rw [List.countP_cons_of_neg (by rw [hp.1]; decide), List.countP_cons_of_neg (by rw [hp.2]; decide), flat_none fun q hq => h q (List.mem_cons_of_mem _ hq)]
theorem flat_one {f : Nat → Bool} : ∀ {l : List (Nat × Nat)}, (∀ p ∈ l, f p.1 = true ∧ f p.2 = false) → (flat l).countP f = l.length
  | [], _ => rfl
  | p :: r, h => by
    have hp := h p List.mem_cons_self
    show (p.1 :: p.2 :: flat r).countP f = _
    rw [List.countP_cons_of_pos hp.1, List.countP_cons_of_neg (by rw [hp.2]; decide), flat_one fun q hq => h q (List.mem_cons_of_mem _ hq), List.length_cons]
theorem range_low (n : Nat) : (List.range (2 * n)).countP (fun z => decide (z < n)) = n := by
  rw [show 2 * n = n + n by omega, List.range_add, List.countP_append, List.countP_eq_length.mpr (fun a ha => decide_eq_true (List.mem_range.mp ha)), List.countP_eq_zero.mpr (fun a ha => ?_), List.length_range, Nat.add_zero]
  obtain ⟨x, _, rfl⟩ := List.mem_map.mp ha
  rw [decide_eq_true_iff]; omega
theorem ups_los {n : Nat} {fs : List Nat} (h : IsPair (2 * n) fs) : (ups fs n).length = (los fs n).length := by
  have hp := jns_perm h
  have hl := hp.length_eq
  have hc := hp.countP_eq (fun z => decide (z < n))
  rw [range_low] at hc
  rw [flat_len, List.length_range] at hl
  unfold jns at hc hl
  rw [List.length_append, List.length_append, List.length_map, List.length_map] at hl
  have x1 : (flat (ups fs n)).countP (fun z => decide (z < n)) = 2 * (ups fs n).length := flat_two fun p hp => by
    have := ups_mem h hp
    exact ⟨decide_eq_true (by omega), decide_eq_true (by omega)⟩
  have x2 : (flat ((los fs n).map (fun p => (n + p.1, n + p.2)))).countP (fun z => decide (z < n)) = 0 := flat_none fun p hp => by
    obtain ⟨r, hr, rfl⟩ := List.mem_map.mp hp
    exact ⟨decide_eq_false (by show ¬ n + r.1 < n; omega), decide_eq_false (by show ¬ n + r.2 < n; omega)⟩
  have x3 : (flat ((sts fs n).map (fun p => (p.1, n + p.2)))).countP (fun z => decide (z < n)) = ((sts fs n).map (fun p => (p.1, n + p.2))).length := flat_one fun p hp => by
    obtain ⟨r, hr, rfl⟩ := List.mem_map.mp hp
    have := sts_mem h hr
    exact ⟨decide_eq_true (by show r.1 < n; omega), decide_eq_false (by show ¬ n + r.2 < n; omega)⟩
  rw [flat_app, flat_app, List.countP_append, List.countP_append, x1, x2, x3, List.length_map] at hc
  omega
end Pc
namespace Pc
open PySem PySem.Spec PyProof.Rows L2 RZ
/-! ### data of small size, by its depth -/
def Sz : Nat → Nat
  | 0 => 61
  | 1 => 6303
  | 2 => 630503
  | _ => 15762628
abbrev Fi (j : Nat) (d : PyData) : Prop := Fine j (Sz j) d
theorem Sz_le : ∀ j, Sz j ≤ Sz (j + 1)
  | 0 => by decide
  | 1 => by decide
  | 2 => by decide
  | _ + 3 => Nat.le_refl _
theorem Fine.up {j : Nat} {d : PyData} (h : Fi j d) : Fi (j + 1) d := h.mono (Nat.le_succ _) (Sz_le j)
theorem Fine.sh {j : Nat} {d : PyData} (h : Fi j d) (hj : j ≤ 60 := by decide) : SeqAt.shaped d = true := Fine.shaped h (by omega)
theorem fi_int {i : Int} (h : i.natAbs < 2 ^ 60) : Fi 0 (.int i) := fine_int h
theorem fi_bl {b : Bool} : Fi 0 (.bool b) := ⟨rfl, rfl, Nat.le_refl _, trivial, by cases b <;> decide⟩
theorem fi_non : Fi 0 .none := ⟨rfl, rfl, Nat.le_refl _, trivial, by decide⟩
theorem fi_tup {l : List Nat} {m : Nat} (hl : IsPair m l) (hm : m ≤ 100) : Fi 1 (td l) := (fine_tup (n := 100) (fun i hi => by have := hl.lt i hi; omega) (by rw [hl.len]; omega) (by decide)).mono (Nat.le_refl _) (by decide)
/-- numbers of small size, not many -/
def Fw (l : List Nat) : Prop := l.length ≤ 100 ∧ ∀ i ∈ l, i < 2 ^ 60
theorem fb {l : List Nat} {m : Nat} (hl : IsPair m l) (hm : m ≤ 100) : Fw l := ⟨by rw [hl.len]; exact hm, fun i hi => by have := hl.lt i hi; omega⟩
theorem fi_tup' {l : List Nat} (h : Fw l) : Fi 1 (td l) := (fine_tup (n := 100) h.2 h.1 (by decide)).mono (Nat.le_refl _) (by decide)
theorem fi_lst {l : List Nat} (h : Fw l) : Fi 1 (.list (nd l)) := (fine_list (k := 0) (m := 61) (n := 100) (fine_nd h.2) (by rw [nd_length]; exact h.1) (by decide)).mono (Nat.le_refl _) (by decide)
theorem fi_prs {qs : List (Nat × Nat)} (h : qs.length ≤ 1000 ∧ ∀ p ∈ qs, p.1 < 2 ^ 60 ∧ p.2 < 2 ^ 60) : Fi 2 (.list (qs.map pd)) := (fine_pds (n := 1000) h.2 h.1 (by decide)).mono (Nat.le_refl _) (by decide)
theorem fa_nil {j : Nat} : ∀ d ∈ ([] : List PyData), Fi j d := fun _ h => absurd h List.not_mem_nil
theorem fa_cons {j : Nat} {d : PyData} {ds : List PyData} (h : Fi j d) (r : ∀ x ∈ ds, Fi j x) : ∀ x ∈ d :: ds, Fi j x := fun x hx => (List.mem_cons.mp hx).elim (fun e => by rw [e]; exact h) (r x)
def Few (j n : Nat) : Prop := n * (Sz j + 2) + 3 ≤ Sz (j + 1) ∧ n ≤ 100000
instance (j n : Nat) : Decidable (Few j n) := by unfold Few; infer_instance
theorem fi_list {j : Nat} {ds : List PyData} (h : ∀ d ∈ ds, Fi j d) (hn : n = ds.length := by rfl) (hf : Few j n := by decide) : Fi (j + 1) (.list ds) := (fine_list (k := j) (m := Sz j) (n := n) h (by rw [hn]; exact Nat.le_refl _) hf.2).mono (Nat.le_refl _) hf.1
theorem fi_tuple {j : Nat} {ds : List PyData} (h : ∀ d ∈ ds, Fi j d) (hn : n = ds.length := by rfl) (hf : Few j n := by decide) : Fi (j + 1) (.tuple ds) := (fine_tuple (k := j) (m := Sz j) (n := n) h (by rw [hn]; exact Nat.le_refl _) hf.2).mono (Nat.le_refl _) hf.1
theorem fi_ne {j : Nat} {d : PyData} (h : Fi j d) : (!PyData.eqv d d) = false := by
  rw [PySem.SeqAt.eqv_refl _ h.lay]; rfl
theorem fi_eq {j : Nat} {d : PyData} (h : Fi j d) : PyData.eqv d d = true := PySem.SeqAt.eqv_refl _ h.lay
/-! ### arguments by name, in another order -/
def pm10 {α : Type} : List α → List α
  | [a, b] => [b, a]
  | l => l
theorem rel_pm10 {zs : List V} {ws : List Value} (_ : zs.length = 2) (r : Vals zs ws) : Vals (pm10 zs) (pm10 ws) := by
  match zs, ws, r with
  | [], _, .nil => exact .nil
  | [_], _, .cons h .nil => exact .cons h .nil
  | [_, _], _, .cons h1 (.cons h2 .nil) => exact .cons h2 (.cons h1 .nil)
  | _ :: _ :: _ :: _, _, .cons h1 (.cons h2 (.cons h3 r)) => exact .cons h1 (.cons h2 (.cons h3 r))
def pm0 {α : Type} (l : List α) : List α := l
theorem rel_pm0 {zs : List V} {ws : List Value} (_ : zs.length = 1) (r : Vals zs ws) : Vals (pm0 zs) (pm0 ws) := r
end Pc
namespace PySem
namespace HandSPX
open Builtin Builtin.ObjectAttr
/-! ### an own error class called with one keyword -/
section
variable {M : Model} {A : Around} {E : Value → Shared → Prop} {h : Heap} {g : Array GenState} {d : Drawn} {t : Nat} {os : OsState}
variable {nm q : Str} {C N : Addr} {bs bm bmB : List Value} {hdct : Bool} {sn : List Str} {sub : List Value} {ab : Bool} {col : Option Bool} {dd : Option Addr} {k0 k1 k2 k3 k5 : Option Value} {B newId initId : String}
theorem check_new_ownK (F : ExcBaseFacts B newId initId bmB) (hT : ∀ X : String, bm.contains (.type X) = bmB.contains (.type X)) {kw : List (Str × Value)} {Q : Unit → Shared → Prop}
    (hC : h.get? C = some (excClassObj nm q C N bs bm hdct sn sub ab col dd k0 k1 k2 k3 k5 newId)) (hq : Q () ⟨h, g, d, t, os⟩) : wpAny M A (checkBuiltinCall newId ⟨[.ref C], kw⟩) Q E ⟨h, g, d, t, os⟩ := by
  have hcont : (Value.ref C :: bm).contains (.type B) = true := by rw [List.contains_cons, hT, F.hasB, Bool.or_true]
  have hstar := F.noStar
  simp only [checkBuiltinCall, F.newKind, F.newSplit, F.newRow]
  repeat (first | refine wpAny_loadPart_at hC ?_ | (refine wpAny_isSubtype_exc hC ?_; rw [hcont]) | refine wpAny_staticBase_exc hC ?_ | refine wpAny_madeBy_exc hC ?_ | simp only [bne_self_eq_false, Bool.false_eq_true, if_false] | wp_step)
  exact hq
end
section
variable {prog : Program} {w : World} {A : Around} {E : Value → Shared → Prop} {R : Result → Shared → Prop} {h : Heap} {g : Array GenState} {d : Drawn} {t : Nat} {os : OsState}
variable {nm q : Str} {C N : Addr} {bs bm bmB : List Value} {hdct : Bool} {sn : List Str} {sub : List Value} {ab : Bool} {col : Option Bool} {dd : Option Addr} {k0 k1 k2 k3 k5 : Option Value} {B newId initId : String}
theorem new_ownK (F : ExcBaseFacts B newId initId bmB) (hT : ∀ X : String, bm.contains (.type X) = bmB.contains (.type X)) {kw : List (Str × Value)}
    (hC : h.get? C = some (excClassObj nm q C N bs bm hdct sn sub ab col dd k0 k1 k2 k3 k5 newId))
    (hq : R (.ok (.ret (.ref (h.objs.size + 1)))) ⟨(h.push { cls := .type "tuple", data := .seq ([] : List Value).toArray }).push
      { cls := .ref C, data := .fields #[.ref h.objs.size, .none, .none, .none, .bool false, .none] }, g, d, t, os⟩) :
    codeAny (model prog w) A (.builtin newId ⟨[.ref C], kw⟩) R ⟨h, g, d, t, os⟩ := by
  have hends := F.ends
  have hrest : ([] : List Value).length ≤ sizeLine := Nat.zero_le _
  have hcB : (Value.ref C :: bm).contains (.type B) = true := by rw [List.contains_cons, hT, F.hasB, Bool.or_true]
  have hcA : (Value.ref C :: bm).contains (.type "AttributeError") = false := by rw [List.contains_cons, hT, F.noAttr]; rfl
  have hcN : (Value.ref C :: bm).contains (.type "NameError") = false := by rw [List.contains_cons, hT, F.noName]; rfl
  refine codeAny_builtinAt F.entry ?_
  unfold Builtin.«BaseException.__new__»
  refine wpAt_bind ?_
  show wpAt _ _ _ (stack >>= _) _ _ _
  refine wpAt_bind (wpAt_stack fun p below => wpAt_of_wpAny ?_)
  wp_walk
  refine wpAt_of_wpAny ?_
  rw [F.owner]
  repeat (first | with_reducible refine wpAny_madeHere_exc F.canon hC ?_ | with_reducible refine wpAny_loadPart_at hC ?_ | (with_reducible refine wpAny_isSubtype_exc hC ?_; first | rw [hcB] | rw [hcA] | rw [hcN]) | wp_step)
  show R _ _
  rw [Heap.size_push]
  exact hq
theorem type_call_ownK (F : ExcBaseFacts B newId initId bmB) (hT : ∀ X : String, bm.contains (.type X) = bmB.contains (.type X)) {kw : List (Str × Value)} {fI : Addr} {Q : Fin → Shared → Prop}
    (hC : h.get? C = some (excClassObj nm q C N bs bm hdct sn sub ab col dd k0 k1 k2 k3 k5 newId))
    (hi : W.Looks (model prog w) h (typeLookup (.ref C) "__init__") (some (.ref fI))) (hb : ∀ self, W.Looks (model prog w) h (bindSpecial (.ref fI) self) (.ref fI, [self]))
    (hq : codeAny (model prog w) A (.call (.ref fI) ⟨[.ref (h.objs.size + 1)], kw⟩)
      (fun r s' => match r with | .ok (.ret v) => v = .none ∧ Q (.done (.ret (.ref (h.objs.size + 1)))) s' | .ok _ => False | .error e => E e s')
      ⟨(h.push (W.kdv_tup [])).push (excO C h.objs.size), g, d, t, os⟩) :
    wpAny (model prog w) A (Builtin.«type.__call__» ⟨[.ref C], kw⟩) Q E ⟨h, g, d, t, os⟩ := by
  repeat (first | with_reducible refine wpAny_loadPart_at hC ?_ | with_reducible refine wpAny_madeBy_exc hC ?_ | wp_step)
  refine codeAny_call_builtin_code (Code.quiet_builtin _ F.quiet) (check_new_ownK F hT hC ?_)
  refine new_ownK F hT hC ?_
  show wpAny _ _ _ _ _ _
  have k : ∀ b o, h.get? b = some o → ((h.push (W.kdv_tup [])).push (excO C h.objs.size)).get? b = some o := fun b o e => Heap.get?_push_of_some _ (Heap.get?_push_of_some _ e)
  have hC₁ := k _ _ hC
  have hget : ((h.push (W.kdv_tup [])).push (excO C h.objs.size)).get? (h.objs.size + 1) = some (excO C h.objs.size) := by heap_get
  have hcC : (Value.ref C :: bm).contains (.ref C) = true := by simp
  have i1 := hi.keeps k
  have b1 := (hb (.ref (h.objs.size + 1))).keeps k
  unfold isInstance
  repeat (first | with_reducible refine wpAny_loadPart_at hget ?_ | (with_reducible refine wpAny_isSubtype_exc hC₁ ?_; rw [hcC]) | wp_step)
  show wpAny _ _ (typeLookup (.ref C) _) _ _ _
  refine i1.at ?_
  refine wpAny_holding (wpAny_bind (b1.at ?_))
  refine wpAny_bind (wpAny_call (codeAny_mono hq fun r s' z => ?_))
  rcases r with e | (v | _ | _ | _) <;> first | exact z | exact z.elim | skip
  obtain ⟨rfl, z⟩ := z
  first
    | exact wpAny_pure (wpAny_pure z)
    | (wp_walk; exact z)
theorem call_ownK (F : ExcBaseFacts B newId initId bmB) (hT : ∀ X : String, bm.contains (.type X) = bmB.contains (.type X)) {kw : List (Str × Value)} {fI : Addr}
    (hC : h.get? C = some (excClassObj nm q C N bs bm hdct sn sub ab col dd k0 k1 k2 k3 k5 newId))
    (hi : W.Looks (model prog w) h (typeLookup (.ref C) "__init__") (some (.ref fI))) (hb : ∀ self, W.Looks (model prog w) h (bindSpecial (.ref fI) self) (.ref fI, [self]))
    (hq : codeAny (model prog w) (A.under (.builtin "type.__call__" ⟨[.ref C], kw⟩)) (.call (.ref fI) ⟨[.ref (h.objs.size + 1)], kw⟩) (W.InitBack (h.objs.size + 1) R)
      ⟨(h.push (W.kdv_tup [])).push (excO C h.objs.size), g, d, t, os⟩) :
    codeAny (model prog w) A (.call (.ref C) ⟨[], kw⟩) R ⟨h, g, d, t, os⟩ := by
  have f1 := tc_lookup
  have f2 := tc_bind (.ref C)
  have hTy : (⟨h, g, d, t, os⟩ : Shared).TypeIs (.ref C) "type" := ⟨_, hC, rfl⟩
  refine codeAny_of_tree ?_
  show wpAny _ _ (callAny (.ref C) _) _ _ _
  repeat (any_goals (first | assumption | with_reducible refine wpAny_loadPart_at hC ?_ | wp_step))
  refine ⟨rfl, ?_⟩
  refine codeAny_call_builtin_at (Code.quiet_builtin _ (by decide +kernel)) entry_typeCall (wpAny_check_type_call_sub hC (type_call_ownK F hT hC hi hb ?_))
  refine codeAny_mono hq fun r s' z => ?_
  rcases r with e | (v | _ | _ | _) <;> exact z
end
end HandSPX
end PySem
namespace Pc
open PySem PySem.Spec PyProof.Rows L2 RZ
/-! ### errors made as values, by place and by keyword -/
section
variable {X : Cx} {pins : List (Addr × Obj)} {σ : L2.St} {H H1 H2 : Hp} {s : Shared} {a C : Addr} {bmB : List Value} {B newId initId : String} {f : Str}
/-- what a call by keyword leaves -/
theorem made_runK {ks : List Str} {vs : List V} {us : List Value} {fI : Addr} {k : Nat} {fd : FuncData} {ps : List Str} {sp : Sp} {Q : XK} {CX : CXT} (T : Own X.K newId bmB C) (F : ExcBaseFacts B newId initId bmB) (iC : PySem.W.findIn X.K (.ref C) "__init__" = some (some (.ref fI))) (tI : PySem.W.typeIn X.K (.ref fI) = some (.type "function"))
    (F1 : FnOk X.prog X.w X.K X.mg X.base CX k fI fd ps sp) (hr : Room (k + 1) X.A) (hb : ∀ (s : Shared) (a : Addr) (ws : List Value), ws.length = ks.length → BindsTo s fd ⟨[.ref a], ks.zip ws⟩ (ps.zip (.ref a :: ws))) (hkl : us.length = ks.length) (hx : Passes CX X (fun _ _ _ => False)) (I1 : Inv X pins σ H1 s) (r1 : Vals vs us) (hz : vs.length ≤ 1000)
    (q1 : ∀ a, H1 a = none → sp (.ref a :: vs) (upd H1 a (exo a C none)) (fun v H2 => v = .non ∧ ((H2 a = some (exo a C none) ∧ Q (.ref C) none (del H2 a)) ∨ ∃ (d : Addr) (fs : List (Str × V)), H2 a = some (exo a C (some d)) ∧ H2 d = some (exd d fs) ∧ Q (.ref C) (some d) (upd (del H2 a) d (.xd fs)))) (fun _ _ _ => False)) :
    wpAny (model X.prog X.w) X.A (call (.ref C) [] (ks.zip us)) (MkP X pins σ Q) X.xe s := by
  obtain ⟨nm, q, N, bs, sn, sub, ab, col, dd, k0, k1, k2, k3, k5, hC⟩ := T.cls
  obtain ⟨hp, g, dr, tk, os⟩ := s
  have hsz : hp.objs.size ≤ hp.objs.size + 1 := Nat.le_succ _
  have hq := q1 (hp.objs.size + 1) (I1.hok.fresh hsz)
  obtain ⟨hp2, ehp⟩ : ∃ hp2, hp2 = (hp.push (PySem.W.kdv_tup [])).push (HandSPX.excO C hp.objs.size) := ⟨_, rfl⟩
  have kk : ∀ b o, hp.get? b = some o → hp2.get? b = some o := fun b o e => by rw [ehp]; exact Heap.get?_push_of_some _ (Heap.get?_push_of_some _ e)
  have hget : hp2.get? (hp.objs.size + 1) = some (HandSPX.excO C hp.objs.size) := by rw [ehp]; heap_get
  have I2 : Inv X pins σ (upd H1 (hp.objs.size + 1) (exo (hp.objs.size + 1) C none)) ⟨hp2, g, dr, tk, os⟩ := I1.laid (t' := tk) kk hsz (exo_ok hget)
  have r2 : Vals (V.ref (hp.objs.size + 1) :: vs) (Value.ref (hp.objs.size + 1) :: us) := .cons rfl r1
  refine wpAny_call (HandSPX.call_ownK F (fun _ => rfl) (I1.kIn _ _ hC) (PySem.W.looks_findIn I1.kIn iC) (fun self => PySem.W.bind_fn I1.kIn self tI) ?_)
  rw [← ehp]
  refine codeAny_mono (F1.run _ X.stack _ _ ⟨[Value.ref (hp.objs.size + 1)], ks.zip us⟩ (Value.ref (hp.objs.size + 1) :: us) _ _ (fun _ _ _ => False) (hr.make C [] (ks.zip us)) (I2.env0.make C [] (ks.zip us)) (hb _ _ us hkl) r2 hq) fun r s' hq' => ?_
  cases r with
  | error er => exact hx pins σ _ _ er s' I2 hq'
  | ok fl =>
    cases fl with
    | ret u =>
      obtain ⟨v, H2, os2, bare2, un2, hok2, rv, ev, alt⟩ := hq'
      subst ev
      obtain ⟨h2, g2, d2, t2, os'⟩ := s'
      refine ⟨rv, ?_⟩
      rcases alt with ⟨ea, q2⟩ | ⟨d, fs, ea, ed, q2⟩
      · obtain ⟨t0, G, J, kG, ge, hoe⟩ := mk_gone (d2 := d2) (t2 := t2) I1 hsz kk un2 hok2 os2 bare2 ea
        exact ⟨_, _, _, ⟨G, g2, d2, t2, os'⟩, _, .ref C, none, rfl, J, kG, ge, hoe, ⟨rfl, rfl⟩, rfl, rfl, del_same, rfl, bare2, raises_own T.exC T.tyC, q2⟩
      · obtain ⟨t0, G, J, kG, ge, hoe⟩ := mk_gone (d2 := d2) (t2 := t2) I1 hsz kk un2 hok2 os2 bare2 ea
        have hda : d ≠ hp.objs.size + 1 := fun z => by
          rw [z] at ed
          obtain ⟨mA, ⟨ob, es, ep, e1, e2, _⟩, _⟩ := exd_at hok2 ed
          rw [hoe] at e1
          have z2 := Option.some.inj e1
          subst z2
          cases e2
        have ed' : del H2 (hp.objs.size + 1) d = some (exd d fs) := by rw [del_ne hda]; exact ed
        obtain ⟨mA, ns, rel⟩ := exd_at J.hok ed'
        have J2 := J.write (t' := t2) (h' := G) (x := d) (e := d) (o := .xd fs) (by rw [ed']; exact True.intro) (.inl rfl) (fun _ _ _ z => z) (by obtain ⟨ob, _, _, e1, _⟩ := ns; exact ⟨ob, e1⟩) ⟨mA, ns, rel⟩
        exact ⟨_, _, _, ⟨G, g2, d2, t2, os'⟩, _, .ref C, some d, rfl, J2, kG, ge, hoe, ⟨rfl, rfl⟩, rfl, rfl, by rw [upd_ne (Ne.symm hda)]; exact del_same, rfl, bare2, raises_own T.exC T.tyC, q2⟩
    | next => exact False.elim hq'
    | brk => exact False.elim hq'
    | cont => exact False.elim hq'
theorem pmk_ek {x : Str} {fI : Addr} {k : Nat} {fd : FuncData} {ps ks : List Str} {sp : Sp} {CX : CXT} {kws : List Keyword} {tk : TA} {p pos : Pos} (T : Own X.K newId bmB C) (F : ExcBaseFacts B newId initId bmB) (iC : PySem.W.findIn X.K (.ref C) "__init__" = some (some (.ref fI))) (tI : PySem.W.typeIn X.K (.ref fI) = some (.type "function"))
    (F1 : FnOk X.prog X.w X.K X.mg X.base CX k fI fd ps sp) (hr : Room (k + 1) X.A) (hb : ∀ (s : Shared) (a : Addr) (ws : List Value), ws.length = ks.length → BindsTo s fd ⟨[.ref a], ks.zip ws⟩ (ps.zip (.ref a :: ws))) (hx : Passes CX X (fun _ _ _ => False)) (hg : Gl X x) (hm : X.mg x = some (.ref C)) (hkw : PK X kws tk)
    (hall : (backToKw pos (keywordEach kws X.env)).all (·.1.isSome) = true := by rfl) (hks : (backToKw pos (keywordEach kws X.env)).filterMap (·.1) = ks := by rfl) (hdb : (x == ("__debug__" : Str)) = false := by decide)
    (hpl : ((backTo pos (starEach [] X.env)).any (·.1) || (backToKw pos (keywordEach kws X.env)).any (·.1.isNone)) = false := by rfl) :
    PMk X (.Call (.Name x p) [] kws pos) (fun σ H Q => tMkE C sp (fun σ H R => tk σ H fun zs H1 => zs.length = ks.length ∧ R zs H1) σ H Q) := by
  intro pins s σ H Q I h
  refine wpAny_Call_Name_kw (ld_glob I hg hm ?_ hdb)
  refine PySem.W.callWith_KW0 (h₀ := X.base) I.ok.mod.kin T.kC hall (thn (hkw.run pos pins s σ H _ I h) ?_) hpl
  rintro ws s2 ⟨zs, H2, I2, rz, hz, q⟩
  refine ⟨I2.kIn, ?_⟩
  rw [hks]
  exact made_runK T F iC tI F1 hr hb (by rw [← rz.length, hz]) hx I2 rz q.1 q.2
/-- an error as a value -/
def tMkV (t : L2.St → Hp → XK → Prop) : TE := fun σ H Q => t σ H fun cls d H' => ∀ a, H' a = none → Q (.ref a) (upd H' a (exk a cls d))
theorem un_laid {fs ex : List Addr} {H : Hp} {h h' : Heap} {a : Addr} {o : HO} (k : ∀ b u, h.get? b = some u → h'.get? b = some u) (hp : h.get? a = none) (hn : H a = none) : Un fs ex H (upd H a o) h h' :=
  ⟨fun b u q _ _ _ => k b u q, fun b u q _ _ _ => ⟨u.slots, k b u q⟩, fun b u q n _ => by rw [upd_ne (fun z => by rw [z, hp] at q; cases q)]; exact n, fun b u q _ => ⟨u, k b u q⟩,
   fun b xs q => by rw [upd_ne (ne_of_none q hn)]; exact q, fun b u xs q => by rw [upd_ne (ne_of_none q hn)]; exact q, fun b ps q => ⟨#[], by rw [upd_ne (ne_of_none q hn), q]; simp⟩⟩
theorem hok_laid {P : Program} {w : World} {H : Hp} {h h' : Heap} {a : Addr} {o : HO} (x : HOk P w H h) (k : ∀ b u, h.get? b = some u → h'.get? b = some u) (hn : H a = none) (new : ObjOk P w (upd H a o) h' a o) : HOk P w (upd H a o) h' := fun b u e => by
  by_cases hb : b = a
  · subst hb
    rw [upd_same] at e; cases e
    exact new
  · rw [upd_ne hb] at e
    exact (x b u e).stay (fun c v _ q => k c v q) (fun c q => by rw [upd_ne (ne_of_none q hn)]; exact q) fun c xs q => by rw [upd_ne (ne_of_none q hn)]; exact q
theorem pe_mkv {e : Expr} {t : L2.St → Hp → XK → Prop} (he : PMk X e t) : PE X e (tMkV t) := by
  refine ⟨fun pins s σ H Q I h => thn (he pins s σ H _ I h) fun u s' hu => ?_⟩
  obtain ⟨a, oe, vs, sI, H', cls, d, rfl, J, k, hne, ha, hz, hd, h1, na, os, ag, r, q⟩ := hu
  have J2 := J.call (ch := []) (h' := s'.heap) (g' := s'.gens) (t' := s'.toks) (d' := s'.drawn) (H' := upd H' a (exk a cls d)) (un_laid k hne na) (hok_laid J.hok k na (exk_ok ha hz hd)) ag (fun _ z => nomatch z)
  obtain ⟨a1, a2, a3, a4, a5⟩ := s'
  have e5 : a5 = sI.os := os
  subst e5
  exact ⟨.ref a, _, J2, rfl, q a na⟩
end
theorem kw_toI {K : PySem.W.Frag} {x qual : Str} {st : Stmt} {f : Addr} {fd : FuncData} {ps ks : List Str} (F : Fun K x qual st f fd)
    (h : ∀ (kV doc pm : Value) (an : Option Addr) (cdv ct : Value) (a : Addr) (ws : List Value), ws.length = ks.length → bindArgs (PySem.W.fnOf x qual (defArgs st) (defBody st) (defScope st) .none kV doc pm an cdv ct) ⟨[.ref a], ks.zip ws⟩ = pure (ps.zip (.ref a :: ws))) :
    ∀ (s : Shared) (a : Addr) (ws : List Value), ws.length = ks.length → BindsTo s fd ⟨[.ref a], ks.zip ws⟩ (ps.zip (.ref a :: ws)) := by
  obtain ⟨oc, od, kV, doc, pm, an, cdv, ct, osl, rfl, lk, hcd⟩ := F.ex
  intro s a ws hl
  exact .of_eq (h kV doc pm an cdv ct a ws hl)
end Pc
namespace Pc
open PySem PySem.Spec PyProof.Rows L2 RZ
/-- x //= c -/
def ipHalf : TIp := fun x y H Q => ∃ i j, x = .int i ∧ y = .int j ∧ (0 < j ∧ j < 1073741824) ∧ Q (.int (i / j)) H
theorem ip_half {X : Cx} : PIp X .FloorDiv ipHalf := by
  intro pins s σ H x y v u Q I r1 r2 h
  obtain ⟨i, j, e1, e2, hj, q⟩ := h
  subst e1 e2
  obtain ⟨t, rfl⟩ := r1
  obtain ⟨t', rfl⟩ := r2
  refine PyProof.Rows.ifloordiv_int (by omega) ?_ (.inl (PyProof.noPylong_small (by omega)))
  rw [Int.fdiv_eq_ediv_of_nonneg i (by omega)]
  exact ⟨.int _, H, I.tok _, ⟨_, rfl⟩, q⟩
theorem bl_dec (a b : Bool) : decide (V.bl a = V.bl b) = (a == b) := by cases a <;> cases b <;> rfl
end Pc
namespace Pc
theorem iteY {b : Bool} {A B : Prop} (h : b = true) (a : A) : if b = true then A else B := by rw [if_pos h]; exact a
theorem iteX {b : Bool} {A B : Prop} (h : b = false) (a : B) : if b = true then A else B := by rw [h, if_neg Bool.false_ne_true]; exact a
end Pc
namespace Pc
open PySem PySem.Spec PyProof.Rows L2 RZ
theorem calls_app {n : Nat} {qs rs : List (Nat × Nat)} (h : Calls n qs) (g : Calls n rs) : Calls n (qs ++ rs) := fun q hq => (List.mem_append.mp hq).elim (h q) (g q)
end Pc
namespace Pc
open PySem PySem.Spec PyProof.Rows L2 RZ
/-- the slots, written out -/
theorem st_eq {t : TS} {D : L2.Ends} {σ : L2.St} {H : Hp} (σ' : L2.St) (h : t D σ' H) (e : σ = σ') : t D σ H := by rw [e]; exact h
end Pc
namespace Pc
open PySem PySem.Spec PyProof.Rows L2 RZ
theorem st_set {i : Nat} {v : V} {σ : L2.St} {H : Hp} {Q : L2.St → Hp → Prop} (σ' : L2.St) (h : Q σ' H) (e : σ.set i (some v) = σ') : gName i v σ H Q := by
  unfold gName
  rw [e]; exact h
end Pc
namespace Pc
open PySem PySem.Spec PyProof.Rows L2 RZ
theorem fi_same {x y : V} (e : x = y) : (!decide (x = y)) = false := by rw [decide_eq_true e]; rfl
theorem fi_is {x y : V} (e : x = y) : decide (x = y) = true := decide_eq_true e
end Pc
namespace Pc
open PySem PySem.Spec PyProof.Rows L2 RZ
theorem st_kept {D : L2.Ends} {i : Nat} {a C d : Addr} {σ1 : L2.St} {H : Hp} (σ' : L2.St) (h : D.nx σ' (upd H a (exk a (.ref C) (some d)))) (e : σ1.set i none = σ') :
    ({ nx := fun σ'' H'' => D.nx (σ''.set i none) (upd H'' a (exk a (.ref C) (some d))), rt := fun _ _ => False } : L2.Ends).nx σ1 H := by
  show D.nx (σ1.set i none) _
  rw [e]; exact h
end Pc
namespace Pc
open PySem PySem.Spec PyProof.Rows L2 RZ
theorem st_setH {i : Nat} {v : V} {σ : L2.St} {H : Hp} {Q : L2.St → Hp → Prop} (σ' : L2.St) (H' : Hp) (h : Q σ' H') (e : σ.set i (some v) = σ') (eh : H = H') : gName i v σ H Q := by
  unfold gName
  rw [e, eh]; exact h
end Pc
namespace Pc
open PySem PySem.Spec PyProof.Rows L2 RZ
section
variable {P : Program} {w : World} {K : PySem.W.Frag} {mg : Str → Option Value} {base : Heap}
/-! ### thirteen classes of errors -/
def spInitP (C : Addr) (f : Str) : Sp := fun vs H Q _ => ∃ (a t : Addr) (xs : List V), vs = [.ref a, .ref t] ∧ H t = some (.tup xs) ∧ H a = some (exo a C none) ∧ ∀ dx, H dx = none → dx ≠ a → Q .non (upd (upd H a (exo a C (some dx))) dx (exd dx [(f, .ref t)]))
theorem raisedP {C t : Addr} {f : Str} {xs : List V} {H1 : Hp} {Q : XK} (ht : H1 t = some (.tup xs)) (h : Flies C f (.ref t) H1 Q) : [V.ref t].length ≤ 1000 ∧ ∀ a, H1 a = none → spInitP C f (.ref a :: [V.ref t]) (upd H1 a (exo a C none))
    (fun v' H2 => v' = .non ∧ ((H2 a = some (exo a C none) ∧ Q (.ref C) none (del H2 a)) ∨ ∃ (d : Addr) (fs : List (Str × V)), H2 a = some (exo a C (some d)) ∧ H2 d = some (exd d fs) ∧ Q (.ref C) (some d) (upd (del H2 a) d (.xd fs)))) (fun _ _ _ => False) := by
  refine ⟨(raised1 h).1, fun a na => ?_⟩
  obtain ⟨a', v, e, e2, r⟩ := (raised1 h).2 a na
  injection e with e1 e3
  injection e1 with e1
  injection e3 with e3
  subst e1 e3
  exact ⟨a, t, xs, rfl, by rw [upd_ne (ne_of_none ht na)]; exact ht, e2, r⟩
theorem ok_i_NotResult (T : Env K mg) : FnOk P w K mg base CX0 1 T.f_i_NotResult T.d_i_NotResult ["self", "pair"] (spInitP T.C_NotResult "pair") := by
  refine T.F_i_NotResult.ok sc_i_NotResult (fun vs H Q E h => ?_) (fun cdv A outer s H vs Q E hr h => ?_)
  · obtain ⟨a, t, xs, rfl, _⟩ := h
    rfl
  · obtain ⟨a, t, xs, rfl, ht, ha, q⟩ := h
    refine ⟨_, pss_cons (ps_expr (pe_binit (o := .Constant .none 0 ⟨0, 0, 0, 0⟩) bsV.fb (by rfl) T.n_ValueError (by decide +kernel) (by decide) (by decide) (by kernel_rfl) (by decide +kernel) (by decide +kernel) T.vV_ValueError (pa_cons (pv 0) (pa_cons pe_str pa_nil)))) (pss_one (ps_os (newId := "ValueError.__new__") bsV.sf (pv 0)
      (pe_ifExp (pt_val (pe_callB call_isi (by rfl) T.n_isinstance (by decide +kernel) (pa_cons (pv 1) (pa_cons (pe_bltn (v := .ty "list") (by rfl) T.n_list (by decide +kernel) rfl) pa_nil)))) (pe_callTy call_tuple_of (by rfl) T.n_tuple (by decide +kernel) (pa_cons (pv 1) pa_nil)) (pv 1)))), ?_⟩
    refine ⟨.ref a, rfl, a, _, [.str _], rfl, (by show 1 ≤ 1000; decide), T.own_NotResult, ha, ?_⟩
    refine ⟨_, rfl, _, _, _, _, _, rfl, .ty _, ty_tup (.inl (.inl ht)), one_tuple_list, _, rfl, iteX rfl ⟨.ref t, rfl, .ref a, rfl, a, _, rfl, T.own_NotResult, T.no_NotResult, ha, fun dx n ne => q dx n ne⟩⟩
theorem ok_i_NotShortest (T : Env K mg) : FnOk P w K mg base CX0 1 T.f_i_NotShortest T.d_i_NotShortest ["self"] (spInit0 T.C_NotShortest) := by
  refine T.F_i_NotShortest.ok sc_i_NotShortest (fun vs H Q E h => ?_) (fun cdv A outer s H vs Q E hr h => ?_)
  · obtain ⟨a, rfl, _⟩ := h
    rfl
  · obtain ⟨a, rfl, ha, q⟩ := h
    refine ⟨_, pss_one (ps_expr (pe_binit (o := .Constant .none 0 ⟨0, 0, 0, 0⟩) bsV.fb (by rfl) T.n_ValueError (by decide +kernel) (by decide) (by decide) (by kernel_rfl) (by decide +kernel) (by decide +kernel) T.vV_ValueError (pa_cons (pv 0) (pa_cons pe_str pa_nil)))), ?_⟩
    exact ⟨.ref a, rfl, a, _, [.str _], rfl, (by show 1 ≤ 1000; decide), T.own_NotShortest, ha, q⟩
theorem ok_i_NoWord (T : Env K mg) : FnOk P w K mg base CX0 1 T.f_i_NoWord T.d_i_NoWord ["self"] (spInit0 T.C_NoWord) := by
  refine T.F_i_NoWord.ok sc_i_NoWord (fun vs H Q E h => ?_) (fun cdv A outer s H vs Q E hr h => ?_)
  · obtain ⟨a, rfl, _⟩ := h
    rfl
  · obtain ⟨a, rfl, ha, q⟩ := h
    refine ⟨_, pss_one (ps_expr (pe_binit (o := .Constant .none 0 ⟨0, 0, 0, 0⟩) bsV.fb (by rfl) T.n_ValueError (by decide +kernel) (by decide) (by decide) (by kernel_rfl) (by decide +kernel) (by decide +kernel) T.vV_ValueError (pa_cons (pv 0) (pa_cons pe_str pa_nil)))), ?_⟩
    exact ⟨.ref a, rfl, a, _, [.str _], rfl, (by show 1 ≤ 1000; decide), T.own_NoWord, ha, q⟩
theorem ok_i_Last (T : Env K mg) : FnOk P w K mg base CX0 1 T.f_i_Last T.d_i_Last ["self"] (spInit0 T.C_Last) := by
  refine T.F_i_Last.ok sc_i_Last (fun vs H Q E h => ?_) (fun cdv A outer s H vs Q E hr h => ?_)
  · obtain ⟨a, rfl, _⟩ := h
    rfl
  · obtain ⟨a, rfl, ha, q⟩ := h
    refine ⟨_, pss_one (ps_expr (pe_binit (o := .Constant .none 0 ⟨0, 0, 0, 0⟩) bsR.fb (by rfl) T.n_RuntimeError (by decide +kernel) (by decide) (by decide) (by kernel_rfl) (by decide +kernel) (by decide +kernel) T.vV_RuntimeError (pa_cons (pv 0) (pa_cons pe_str pa_nil)))), ?_⟩
    exact ⟨.ref a, rfl, a, _, [.str _], rfl, (by show 1 ≤ 1000; decide), T.own_Last, ha, q⟩
theorem kw_i_NoPerson (T : Env K mg) : ∀ (s : Shared) (a : Addr) (ws : List Value), ws.length = (["person"] : List Str).length → BindsTo s T.d_i_NoPerson ⟨[.ref a], (["person"] : List Str).zip ws⟩ ((["self", "person"] : List Str).zip (.ref a :: ws)) :=
  kw_toI T.F_i_NoPerson fun _ _ _ _ _ _ _ ws hl => match ws, hl with | [_], _ => rfl
theorem kw_i_NoNumber (T : Env K mg) : ∀ (s : Shared) (a : Addr) (ws : List Value), ws.length = (["number"] : List Str).length → BindsTo s T.d_i_NoNumber ⟨[.ref a], (["number"] : List Str).zip ws⟩ ((["self", "number"] : List Str).zip (.ref a :: ws)) :=
  kw_toI T.F_i_NoNumber fun _ _ _ _ _ _ _ ws hl => match ws, hl with | [_], _ => rfl
theorem kw_i_NoDeed (T : Env K mg) : ∀ (s : Shared) (a : Addr) (ws : List Value), ws.length = (["many"] : List Str).length → BindsTo s T.d_i_NoDeed ⟨[.ref a], (["many"] : List Str).zip ws⟩ ((["self", "many"] : List Str).zip (.ref a :: ws)) :=
  kw_toI T.F_i_NoDeed fun _ _ _ _ _ _ _ ws hl => match ws, hl with | [_], _ => rfl
theorem kw_i_OtherSize (T : Env K mg) : ∀ (s : Shared) (a : Addr) (ws : List Value), ws.length = (["size"] : List Str).length → BindsTo s T.d_i_OtherSize ⟨[.ref a], (["size"] : List Str).zip ws⟩ ((["self", "size"] : List Str).zip (.ref a :: ws)) :=
  kw_toI T.F_i_OtherSize fun _ _ _ _ _ _ _ ws hl => match ws, hl with | [_], _ => rfl
theorem kw_i_NotResult (T : Env K mg) : ∀ (s : Shared) (a : Addr) (ws : List Value), ws.length = (["pair"] : List Str).length → BindsTo s T.d_i_NotResult ⟨[.ref a], (["pair"] : List Str).zip ws⟩ ((["self", "pair"] : List Str).zip (.ref a :: ws)) :=
  kw_toI T.F_i_NotResult fun _ _ _ _ _ _ _ ws hl => match ws, hl with | [_], _ => rfl
theorem kw_i_BadDeed (T : Env K mg) : ∀ (s : Shared) (a : Addr) (ws : List Value), ws.length = (["at"] : List Str).length → BindsTo s T.d_i_BadDeed ⟨[.ref a], (["at"] : List Str).zip ws⟩ ((["self", "at"] : List Str).zip (.ref a :: ws)) :=
  kw_toI T.F_i_BadDeed fun _ _ _ _ _ _ _ ws hl => match ws, hl with | [_], _ => rfl
theorem kw_i_BadText (T : Env K mg) : ∀ (s : Shared) (a : Addr) (ws : List Value), ws.length = (["at"] : List Str).length → BindsTo s T.d_i_BadText ⟨[.ref a], (["at"] : List Str).zip ws⟩ ((["self", "at"] : List Str).zip (.ref a :: ws)) :=
  kw_toI T.F_i_BadText fun _ _ _ _ _ _ _ ws hl => match ws, hl with | [_], _ => rfl
theorem kw_i_BadLine (T : Env K mg) : ∀ (s : Shared) (a : Addr) (ws : List Value), ws.length = (["at"] : List Str).length → BindsTo s T.d_i_BadLine ⟨[.ref a], (["at"] : List Str).zip ws⟩ ((["self", "at"] : List Str).zip (.ref a :: ws)) :=
  kw_toI T.F_i_BadLine fun _ _ _ _ _ _ _ ws hl => match ws, hl with | [_], _ => rfl
theorem kw_i_NotSettled (T : Env K mg) : ∀ (s : Shared) (a : Addr) (ws : List Value), ws.length = (["many"] : List Str).length → BindsTo s T.d_i_NotSettled ⟨[.ref a], (["many"] : List Str).zip ws⟩ ((["self", "many"] : List Str).zip (.ref a :: ws)) :=
  kw_toI T.F_i_NotSettled fun _ _ _ _ _ _ _ ws hl => match ws, hl with | [_], _ => rfl
theorem kw_i_TooMany (T : Env K mg) : ∀ (s : Shared) (a : Addr) (ws : List Value), ws.length = (["size"] : List Str).length → BindsTo s T.d_i_TooMany ⟨[.ref a], (["size"] : List Str).zip ws⟩ ((["self", "size"] : List Str).zip (.ref a :: ws)) :=
  kw_toI T.F_i_TooMany fun _ _ _ _ _ _ _ ws hl => match ws, hl with | [_], _ => rfl
def csE (T : Env K mg) : List Addr := [T.C_NoPerson, T.C_NoNumber, T.C_NoDeed, T.C_OtherSize, T.C_NotResult, T.C_NotShortest, T.C_NoWord, T.C_BadDeed, T.C_BadText, T.C_BadLine, T.C_NotSettled, T.C_Last, T.C_TooMany]
abbrev bsE : List Nat := [0, 0, 0, 1, 1, 1, 1, 1, 1, 1, 2, 2, 3]
theorem kc_all (T : Env K mg) : ∀ (i : Nat) (C : Addr), (csE T)[i]? = some C → KeptC K C
  | 0, _, h => by cases h; exact T.kpt_NoPerson
  | 1, _, h => by cases h; exact T.kpt_NoNumber
  | 2, _, h => by cases h; exact T.kpt_NoDeed
  | 3, _, h => by cases h; exact T.kpt_OtherSize
  | 4, _, h => by cases h; exact T.kpt_NotResult
  | 5, _, h => by cases h; exact T.kpt_NotShortest
  | 6, _, h => by cases h; exact T.kpt_NoWord
  | 7, _, h => by cases h; exact T.kpt_BadDeed
  | 8, _, h => by cases h; exact T.kpt_BadText
  | 9, _, h => by cases h; exact T.kpt_BadLine
  | 10, _, h => by cases h; exact T.kpt_NotSettled
  | 11, _, h => by cases h; exact T.kpt_Last
  | 12, _, h => by cases h; exact T.kpt_TooMany
  | n + 13, _, h => by cases h
theorem ki_0 (T : Env K mg) : ∀ (i : Nat) (C : Addr), (csE T)[i]? = some C → PySem.W.kitOne K (.ref C) (.ref T.C_NoPerson) = some (decide (i = 0))
  | 0, _, h => by cases h; exact T.kk_NoPerson
  | 1, _, h => by cases h; exact T.ki_NoNumber_NoPerson
  | 2, _, h => by cases h; exact T.ki_NoDeed_NoPerson
  | 3, _, h => by cases h; exact T.ki_OtherSize_NoPerson
  | 4, _, h => by cases h; exact T.ki_NotResult_NoPerson
  | 5, _, h => by cases h; exact T.ki_NotShortest_NoPerson
  | 6, _, h => by cases h; exact T.ki_NoWord_NoPerson
  | 7, _, h => by cases h; exact T.ki_BadDeed_NoPerson
  | 8, _, h => by cases h; exact T.ki_BadText_NoPerson
  | 9, _, h => by cases h; exact T.ki_BadLine_NoPerson
  | 10, _, h => by cases h; exact T.ki_NotSettled_NoPerson
  | 11, _, h => by cases h; exact T.ki_Last_NoPerson
  | 12, _, h => by cases h; exact T.ki_TooMany_NoPerson
  | n + 13, _, h => by cases h
theorem ki_1 (T : Env K mg) : ∀ (i : Nat) (C : Addr), (csE T)[i]? = some C → PySem.W.kitOne K (.ref C) (.ref T.C_NoNumber) = some (decide (i = 1))
  | 0, _, h => by cases h; exact T.ki_NoPerson_NoNumber
  | 1, _, h => by cases h; exact T.kk_NoNumber
  | 2, _, h => by cases h; exact T.ki_NoDeed_NoNumber
  | 3, _, h => by cases h; exact T.ki_OtherSize_NoNumber
  | 4, _, h => by cases h; exact T.ki_NotResult_NoNumber
  | 5, _, h => by cases h; exact T.ki_NotShortest_NoNumber
  | 6, _, h => by cases h; exact T.ki_NoWord_NoNumber
  | 7, _, h => by cases h; exact T.ki_BadDeed_NoNumber
  | 8, _, h => by cases h; exact T.ki_BadText_NoNumber
  | 9, _, h => by cases h; exact T.ki_BadLine_NoNumber
  | 10, _, h => by cases h; exact T.ki_NotSettled_NoNumber
  | 11, _, h => by cases h; exact T.ki_Last_NoNumber
  | 12, _, h => by cases h; exact T.ki_TooMany_NoNumber
  | n + 13, _, h => by cases h
theorem ki_2 (T : Env K mg) : ∀ (i : Nat) (C : Addr), (csE T)[i]? = some C → PySem.W.kitOne K (.ref C) (.ref T.C_NoDeed) = some (decide (i = 2))
  | 0, _, h => by cases h; exact T.ki_NoPerson_NoDeed
  | 1, _, h => by cases h; exact T.ki_NoNumber_NoDeed
  | 2, _, h => by cases h; exact T.kk_NoDeed
  | 3, _, h => by cases h; exact T.ki_OtherSize_NoDeed
  | 4, _, h => by cases h; exact T.ki_NotResult_NoDeed
  | 5, _, h => by cases h; exact T.ki_NotShortest_NoDeed
  | 6, _, h => by cases h; exact T.ki_NoWord_NoDeed
  | 7, _, h => by cases h; exact T.ki_BadDeed_NoDeed
  | 8, _, h => by cases h; exact T.ki_BadText_NoDeed
  | 9, _, h => by cases h; exact T.ki_BadLine_NoDeed
  | 10, _, h => by cases h; exact T.ki_NotSettled_NoDeed
  | 11, _, h => by cases h; exact T.ki_Last_NoDeed
  | 12, _, h => by cases h; exact T.ki_TooMany_NoDeed
  | n + 13, _, h => by cases h
theorem ki_3 (T : Env K mg) : ∀ (i : Nat) (C : Addr), (csE T)[i]? = some C → PySem.W.kitOne K (.ref C) (.ref T.C_OtherSize) = some (decide (i = 3))
  | 0, _, h => by cases h; exact T.ki_NoPerson_OtherSize
  | 1, _, h => by cases h; exact T.ki_NoNumber_OtherSize
  | 2, _, h => by cases h; exact T.ki_NoDeed_OtherSize
  | 3, _, h => by cases h; exact T.kk_OtherSize
  | 4, _, h => by cases h; exact T.ki_NotResult_OtherSize
  | 5, _, h => by cases h; exact T.ki_NotShortest_OtherSize
  | 6, _, h => by cases h; exact T.ki_NoWord_OtherSize
  | 7, _, h => by cases h; exact T.ki_BadDeed_OtherSize
  | 8, _, h => by cases h; exact T.ki_BadText_OtherSize
  | 9, _, h => by cases h; exact T.ki_BadLine_OtherSize
  | 10, _, h => by cases h; exact T.ki_NotSettled_OtherSize
  | 11, _, h => by cases h; exact T.ki_Last_OtherSize
  | 12, _, h => by cases h; exact T.ki_TooMany_OtherSize
  | n + 13, _, h => by cases h
theorem ki_4 (T : Env K mg) : ∀ (i : Nat) (C : Addr), (csE T)[i]? = some C → PySem.W.kitOne K (.ref C) (.ref T.C_NotResult) = some (decide (i = 4))
  | 0, _, h => by cases h; exact T.ki_NoPerson_NotResult
  | 1, _, h => by cases h; exact T.ki_NoNumber_NotResult
  | 2, _, h => by cases h; exact T.ki_NoDeed_NotResult
  | 3, _, h => by cases h; exact T.ki_OtherSize_NotResult
  | 4, _, h => by cases h; exact T.kk_NotResult
  | 5, _, h => by cases h; exact T.ki_NotShortest_NotResult
  | 6, _, h => by cases h; exact T.ki_NoWord_NotResult
  | 7, _, h => by cases h; exact T.ki_BadDeed_NotResult
  | 8, _, h => by cases h; exact T.ki_BadText_NotResult
  | 9, _, h => by cases h; exact T.ki_BadLine_NotResult
  | 10, _, h => by cases h; exact T.ki_NotSettled_NotResult
  | 11, _, h => by cases h; exact T.ki_Last_NotResult
  | 12, _, h => by cases h; exact T.ki_TooMany_NotResult
  | n + 13, _, h => by cases h
theorem ki_5 (T : Env K mg) : ∀ (i : Nat) (C : Addr), (csE T)[i]? = some C → PySem.W.kitOne K (.ref C) (.ref T.C_NotShortest) = some (decide (i = 5))
  | 0, _, h => by cases h; exact T.ki_NoPerson_NotShortest
  | 1, _, h => by cases h; exact T.ki_NoNumber_NotShortest
  | 2, _, h => by cases h; exact T.ki_NoDeed_NotShortest
  | 3, _, h => by cases h; exact T.ki_OtherSize_NotShortest
  | 4, _, h => by cases h; exact T.ki_NotResult_NotShortest
  | 5, _, h => by cases h; exact T.kk_NotShortest
  | 6, _, h => by cases h; exact T.ki_NoWord_NotShortest
  | 7, _, h => by cases h; exact T.ki_BadDeed_NotShortest
  | 8, _, h => by cases h; exact T.ki_BadText_NotShortest
  | 9, _, h => by cases h; exact T.ki_BadLine_NotShortest
  | 10, _, h => by cases h; exact T.ki_NotSettled_NotShortest
  | 11, _, h => by cases h; exact T.ki_Last_NotShortest
  | 12, _, h => by cases h; exact T.ki_TooMany_NotShortest
  | n + 13, _, h => by cases h
theorem ki_6 (T : Env K mg) : ∀ (i : Nat) (C : Addr), (csE T)[i]? = some C → PySem.W.kitOne K (.ref C) (.ref T.C_NoWord) = some (decide (i = 6))
  | 0, _, h => by cases h; exact T.ki_NoPerson_NoWord
  | 1, _, h => by cases h; exact T.ki_NoNumber_NoWord
  | 2, _, h => by cases h; exact T.ki_NoDeed_NoWord
  | 3, _, h => by cases h; exact T.ki_OtherSize_NoWord
  | 4, _, h => by cases h; exact T.ki_NotResult_NoWord
  | 5, _, h => by cases h; exact T.ki_NotShortest_NoWord
  | 6, _, h => by cases h; exact T.kk_NoWord
  | 7, _, h => by cases h; exact T.ki_BadDeed_NoWord
  | 8, _, h => by cases h; exact T.ki_BadText_NoWord
  | 9, _, h => by cases h; exact T.ki_BadLine_NoWord
  | 10, _, h => by cases h; exact T.ki_NotSettled_NoWord
  | 11, _, h => by cases h; exact T.ki_Last_NoWord
  | 12, _, h => by cases h; exact T.ki_TooMany_NoWord
  | n + 13, _, h => by cases h
theorem ki_7 (T : Env K mg) : ∀ (i : Nat) (C : Addr), (csE T)[i]? = some C → PySem.W.kitOne K (.ref C) (.ref T.C_BadDeed) = some (decide (i = 7))
  | 0, _, h => by cases h; exact T.ki_NoPerson_BadDeed
  | 1, _, h => by cases h; exact T.ki_NoNumber_BadDeed
  | 2, _, h => by cases h; exact T.ki_NoDeed_BadDeed
  | 3, _, h => by cases h; exact T.ki_OtherSize_BadDeed
  | 4, _, h => by cases h; exact T.ki_NotResult_BadDeed
  | 5, _, h => by cases h; exact T.ki_NotShortest_BadDeed
  | 6, _, h => by cases h; exact T.ki_NoWord_BadDeed
  | 7, _, h => by cases h; exact T.kk_BadDeed
  | 8, _, h => by cases h; exact T.ki_BadText_BadDeed
  | 9, _, h => by cases h; exact T.ki_BadLine_BadDeed
  | 10, _, h => by cases h; exact T.ki_NotSettled_BadDeed
  | 11, _, h => by cases h; exact T.ki_Last_BadDeed
  | 12, _, h => by cases h; exact T.ki_TooMany_BadDeed
  | n + 13, _, h => by cases h
theorem ki_8 (T : Env K mg) : ∀ (i : Nat) (C : Addr), (csE T)[i]? = some C → PySem.W.kitOne K (.ref C) (.ref T.C_BadText) = some (decide (i = 8))
  | 0, _, h => by cases h; exact T.ki_NoPerson_BadText
  | 1, _, h => by cases h; exact T.ki_NoNumber_BadText
  | 2, _, h => by cases h; exact T.ki_NoDeed_BadText
  | 3, _, h => by cases h; exact T.ki_OtherSize_BadText
  | 4, _, h => by cases h; exact T.ki_NotResult_BadText
  | 5, _, h => by cases h; exact T.ki_NotShortest_BadText
  | 6, _, h => by cases h; exact T.ki_NoWord_BadText
  | 7, _, h => by cases h; exact T.ki_BadDeed_BadText
  | 8, _, h => by cases h; exact T.kk_BadText
  | 9, _, h => by cases h; exact T.ki_BadLine_BadText
  | 10, _, h => by cases h; exact T.ki_NotSettled_BadText
  | 11, _, h => by cases h; exact T.ki_Last_BadText
  | 12, _, h => by cases h; exact T.ki_TooMany_BadText
  | n + 13, _, h => by cases h
theorem ki_9 (T : Env K mg) : ∀ (i : Nat) (C : Addr), (csE T)[i]? = some C → PySem.W.kitOne K (.ref C) (.ref T.C_BadLine) = some (decide (i = 9))
  | 0, _, h => by cases h; exact T.ki_NoPerson_BadLine
  | 1, _, h => by cases h; exact T.ki_NoNumber_BadLine
  | 2, _, h => by cases h; exact T.ki_NoDeed_BadLine
  | 3, _, h => by cases h; exact T.ki_OtherSize_BadLine
  | 4, _, h => by cases h; exact T.ki_NotResult_BadLine
  | 5, _, h => by cases h; exact T.ki_NotShortest_BadLine
  | 6, _, h => by cases h; exact T.ki_NoWord_BadLine
  | 7, _, h => by cases h; exact T.ki_BadDeed_BadLine
  | 8, _, h => by cases h; exact T.ki_BadText_BadLine
  | 9, _, h => by cases h; exact T.kk_BadLine
  | 10, _, h => by cases h; exact T.ki_NotSettled_BadLine
  | 11, _, h => by cases h; exact T.ki_Last_BadLine
  | 12, _, h => by cases h; exact T.ki_TooMany_BadLine
  | n + 13, _, h => by cases h
theorem ki_10 (T : Env K mg) : ∀ (i : Nat) (C : Addr), (csE T)[i]? = some C → PySem.W.kitOne K (.ref C) (.ref T.C_NotSettled) = some (decide (i = 10))
  | 0, _, h => by cases h; exact T.ki_NoPerson_NotSettled
  | 1, _, h => by cases h; exact T.ki_NoNumber_NotSettled
  | 2, _, h => by cases h; exact T.ki_NoDeed_NotSettled
  | 3, _, h => by cases h; exact T.ki_OtherSize_NotSettled
  | 4, _, h => by cases h; exact T.ki_NotResult_NotSettled
  | 5, _, h => by cases h; exact T.ki_NotShortest_NotSettled
  | 6, _, h => by cases h; exact T.ki_NoWord_NotSettled
  | 7, _, h => by cases h; exact T.ki_BadDeed_NotSettled
  | 8, _, h => by cases h; exact T.ki_BadText_NotSettled
  | 9, _, h => by cases h; exact T.ki_BadLine_NotSettled
  | 10, _, h => by cases h; exact T.kk_NotSettled
  | 11, _, h => by cases h; exact T.ki_Last_NotSettled
  | 12, _, h => by cases h; exact T.ki_TooMany_NotSettled
  | n + 13, _, h => by cases h
theorem ki_11 (T : Env K mg) : ∀ (i : Nat) (C : Addr), (csE T)[i]? = some C → PySem.W.kitOne K (.ref C) (.ref T.C_Last) = some (decide (i = 11))
  | 0, _, h => by cases h; exact T.ki_NoPerson_Last
  | 1, _, h => by cases h; exact T.ki_NoNumber_Last
  | 2, _, h => by cases h; exact T.ki_NoDeed_Last
  | 3, _, h => by cases h; exact T.ki_OtherSize_Last
  | 4, _, h => by cases h; exact T.ki_NotResult_Last
  | 5, _, h => by cases h; exact T.ki_NotShortest_Last
  | 6, _, h => by cases h; exact T.ki_NoWord_Last
  | 7, _, h => by cases h; exact T.ki_BadDeed_Last
  | 8, _, h => by cases h; exact T.ki_BadText_Last
  | 9, _, h => by cases h; exact T.ki_BadLine_Last
  | 10, _, h => by cases h; exact T.ki_NotSettled_Last
  | 11, _, h => by cases h; exact T.kk_Last
  | 12, _, h => by cases h; exact T.ki_TooMany_Last
  | n + 13, _, h => by cases h
theorem ki_12 (T : Env K mg) : ∀ (i : Nat) (C : Addr), (csE T)[i]? = some C → PySem.W.kitOne K (.ref C) (.ref T.C_TooMany) = some (decide (i = 12))
  | 0, _, h => by cases h; exact T.ki_NoPerson_TooMany
  | 1, _, h => by cases h; exact T.ki_NoNumber_TooMany
  | 2, _, h => by cases h; exact T.ki_NoDeed_TooMany
  | 3, _, h => by cases h; exact T.ki_OtherSize_TooMany
  | 4, _, h => by cases h; exact T.ki_NotResult_TooMany
  | 5, _, h => by cases h; exact T.ki_NotShortest_TooMany
  | 6, _, h => by cases h; exact T.ki_NoWord_TooMany
  | 7, _, h => by cases h; exact T.ki_BadDeed_TooMany
  | 8, _, h => by cases h; exact T.ki_BadText_TooMany
  | 9, _, h => by cases h; exact T.ki_BadLine_TooMany
  | 10, _, h => by cases h; exact T.ki_NotSettled_TooMany
  | 11, _, h => by cases h; exact T.ki_Last_TooMany
  | 12, _, h => by cases h; exact T.kk_TooMany
  | n + 13, _, h => by cases h
theorem kb_0 (T : Env K mg) : ∀ (i : Nat) (C : Addr), (csE T)[i]? = some C → PySem.W.kitOne K (.ref C) (.type "LookupError") = some (decide (bsE.getD i 9 = 0))
  | 0, _, h => by cases h; exact T.kb_NoPerson_LookupError
  | 1, _, h => by cases h; exact T.kb_NoNumber_LookupError
  | 2, _, h => by cases h; exact T.kb_NoDeed_LookupError
  | 3, _, h => by cases h; exact T.kb_OtherSize_LookupError
  | 4, _, h => by cases h; exact T.kb_NotResult_LookupError
  | 5, _, h => by cases h; exact T.kb_NotShortest_LookupError
  | 6, _, h => by cases h; exact T.kb_NoWord_LookupError
  | 7, _, h => by cases h; exact T.kb_BadDeed_LookupError
  | 8, _, h => by cases h; exact T.kb_BadText_LookupError
  | 9, _, h => by cases h; exact T.kb_BadLine_LookupError
  | 10, _, h => by cases h; exact T.kb_NotSettled_LookupError
  | 11, _, h => by cases h; exact T.kb_Last_LookupError
  | 12, _, h => by cases h; exact T.kb_TooMany_LookupError
  | n + 13, _, h => by cases h
theorem kb_1 (T : Env K mg) : ∀ (i : Nat) (C : Addr), (csE T)[i]? = some C → PySem.W.kitOne K (.ref C) (.type "ValueError") = some (decide (bsE.getD i 9 = 1))
  | 0, _, h => by cases h; exact T.kb_NoPerson_ValueError
  | 1, _, h => by cases h; exact T.kb_NoNumber_ValueError
  | 2, _, h => by cases h; exact T.kb_NoDeed_ValueError
  | 3, _, h => by cases h; exact T.kb_OtherSize_ValueError
  | 4, _, h => by cases h; exact T.kb_NotResult_ValueError
  | 5, _, h => by cases h; exact T.kb_NotShortest_ValueError
  | 6, _, h => by cases h; exact T.kb_NoWord_ValueError
  | 7, _, h => by cases h; exact T.kb_BadDeed_ValueError
  | 8, _, h => by cases h; exact T.kb_BadText_ValueError
  | 9, _, h => by cases h; exact T.kb_BadLine_ValueError
  | 10, _, h => by cases h; exact T.kb_NotSettled_ValueError
  | 11, _, h => by cases h; exact T.kb_Last_ValueError
  | 12, _, h => by cases h; exact T.kb_TooMany_ValueError
  | n + 13, _, h => by cases h
theorem kb_2 (T : Env K mg) : ∀ (i : Nat) (C : Addr), (csE T)[i]? = some C → PySem.W.kitOne K (.ref C) (.type "RuntimeError") = some (decide (bsE.getD i 9 = 2))
  | 0, _, h => by cases h; exact T.kb_NoPerson_RuntimeError
  | 1, _, h => by cases h; exact T.kb_NoNumber_RuntimeError
  | 2, _, h => by cases h; exact T.kb_NoDeed_RuntimeError
  | 3, _, h => by cases h; exact T.kb_OtherSize_RuntimeError
  | 4, _, h => by cases h; exact T.kb_NotResult_RuntimeError
  | 5, _, h => by cases h; exact T.kb_NotShortest_RuntimeError
  | 6, _, h => by cases h; exact T.kb_NoWord_RuntimeError
  | 7, _, h => by cases h; exact T.kb_BadDeed_RuntimeError
  | 8, _, h => by cases h; exact T.kb_BadText_RuntimeError
  | 9, _, h => by cases h; exact T.kb_BadLine_RuntimeError
  | 10, _, h => by cases h; exact T.kb_NotSettled_RuntimeError
  | 11, _, h => by cases h; exact T.kb_Last_RuntimeError
  | 12, _, h => by cases h; exact T.kb_TooMany_RuntimeError
  | n + 13, _, h => by cases h
theorem kb_3 (T : Env K mg) : ∀ (i : Nat) (C : Addr), (csE T)[i]? = some C → PySem.W.kitOne K (.ref C) (.type "OverflowError") = some (decide (bsE.getD i 9 = 3))
  | 0, _, h => by cases h; exact T.kb_NoPerson_OverflowError
  | 1, _, h => by cases h; exact T.kb_NoNumber_OverflowError
  | 2, _, h => by cases h; exact T.kb_NoDeed_OverflowError
  | 3, _, h => by cases h; exact T.kb_OtherSize_OverflowError
  | 4, _, h => by cases h; exact T.kb_NotResult_OverflowError
  | 5, _, h => by cases h; exact T.kb_NotShortest_OverflowError
  | 6, _, h => by cases h; exact T.kb_NoWord_OverflowError
  | 7, _, h => by cases h; exact T.kb_BadDeed_OverflowError
  | 8, _, h => by cases h; exact T.kb_BadText_OverflowError
  | 9, _, h => by cases h; exact T.kb_BadLine_OverflowError
  | 10, _, h => by cases h; exact T.kb_NotSettled_OverflowError
  | 11, _, h => by cases h; exact T.kb_Last_OverflowError
  | 12, _, h => by cases h; exact T.kb_TooMany_OverflowError
  | n + 13, _, h => by cases h
theorem kx_all (T : Env K mg) : ∀ (i : Nat) (C : Addr), (csE T)[i]? = some C → PySem.W.kitAny K (.ref C) [.type "KeyError", .type "IndexError"] = some false
  | 0, _, h => by cases h; exact kit_cons T.kb_NoPerson_KeyError (kit_cons T.kb_NoPerson_IndexError kit_nil)
  | 1, _, h => by cases h; exact kit_cons T.kb_NoNumber_KeyError (kit_cons T.kb_NoNumber_IndexError kit_nil)
  | 2, _, h => by cases h; exact kit_cons T.kb_NoDeed_KeyError (kit_cons T.kb_NoDeed_IndexError kit_nil)
  | 3, _, h => by cases h; exact kit_cons T.kb_OtherSize_KeyError (kit_cons T.kb_OtherSize_IndexError kit_nil)
  | 4, _, h => by cases h; exact kit_cons T.kb_NotResult_KeyError (kit_cons T.kb_NotResult_IndexError kit_nil)
  | 5, _, h => by cases h; exact kit_cons T.kb_NotShortest_KeyError (kit_cons T.kb_NotShortest_IndexError kit_nil)
  | 6, _, h => by cases h; exact kit_cons T.kb_NoWord_KeyError (kit_cons T.kb_NoWord_IndexError kit_nil)
  | 7, _, h => by cases h; exact kit_cons T.kb_BadDeed_KeyError (kit_cons T.kb_BadDeed_IndexError kit_nil)
  | 8, _, h => by cases h; exact kit_cons T.kb_BadText_KeyError (kit_cons T.kb_BadText_IndexError kit_nil)
  | 9, _, h => by cases h; exact kit_cons T.kb_BadLine_KeyError (kit_cons T.kb_BadLine_IndexError kit_nil)
  | 10, _, h => by cases h; exact kit_cons T.kb_NotSettled_KeyError (kit_cons T.kb_NotSettled_IndexError kit_nil)
  | 11, _, h => by cases h; exact kit_cons T.kb_Last_KeyError (kit_cons T.kb_Last_IndexError kit_nil)
  | 12, _, h => by cases h; exact kit_cons T.kb_TooMany_KeyError (kit_cons T.kb_TooMany_IndexError kit_nil)
  | n + 13, _, h => by cases h
def Er (T : Env K mg) (H : Hp) (a : Addr) (i : Nat) : Prop := ∃ C d, (csE T)[i]? = some C ∧ Kept H a C d
theorem Er.same {T : Env K mg} {H H' : Hp} {a : Addr} {i : Nat} (h : Er T H a i) (s : Same H H') : Er T H' a i := let ⟨C, d, h1, h2⟩ := h; ⟨C, d, h1, h2.same s⟩
theorem raisedV {C : Addr} {f : Str} {v : V} {H1 : Hp} {Q : VK} (q : ∀ J a d, Same H1 J → J a = some (exk a (.ref C) (some d)) → J d = some (.xd [(f, v)]) → Q (.ref a) J) : [v].length ≤ 1000 ∧ ∀ a, H1 a = none → spInit1 C f (.ref a :: [v]) (upd H1 a (exo a C none))
    (fun v' H2 => v' = .non ∧ ((H2 a = some (exo a C none) ∧ ∀ b, del H2 a b = none → Q (.ref b) (upd (del H2 a) b (exk b (.ref C) none))) ∨ ∃ (d : Addr) (fs : List (Str × V)), H2 a = some (exo a C (some d)) ∧ H2 d = some (exd d fs) ∧ ∀ b, upd (del H2 a) d (.xd fs) b = none → Q (.ref b) (upd (upd (del H2 a) d (.xd fs)) b (exk b (.ref C) (some d))))) (fun _ _ _ => False) :=
  raised1 (Q := fun cls d H' => ∀ a, H' a = none → Q (.ref a) (upd H' a (exk a cls d))) fun d H' s n e a na => q _ a d (s.trans (same_new na)) upd_same (by rw [upd_ne (ne_of_none e na)]; exact e)
theorem raisedVP {C t : Addr} {f : Str} {xs : List V} {H1 : Hp} {Q : VK} (ht : H1 t = some (.tup xs)) (q : ∀ J a d, Same H1 J → J a = some (exk a (.ref C) (some d)) → J d = some (.xd [(f, .ref t)]) → Q (.ref a) J) : [V.ref t].length ≤ 1000 ∧ ∀ a, H1 a = none → spInitP C f (.ref a :: [V.ref t]) (upd H1 a (exo a C none))
    (fun v' H2 => v' = .non ∧ ((H2 a = some (exo a C none) ∧ ∀ b, del H2 a b = none → Q (.ref b) (upd (del H2 a) b (exk b (.ref C) none))) ∨ ∃ (d : Addr) (fs : List (Str × V)), H2 a = some (exo a C (some d)) ∧ H2 d = some (exd d fs) ∧ ∀ b, upd (del H2 a) d (.xd fs) b = none → Q (.ref b) (upd (upd (del H2 a) d (.xd fs)) b (exk b (.ref C) (some d))))) (fun _ _ _ => False) :=
  raisedP (Q := fun cls d H' => ∀ a, H' a = none → Q (.ref a) (upd H' a (exk a cls d))) ht fun d H' s n e a na => q _ a d (s.trans (same_new na)) upd_same (by rw [upd_ne (ne_of_none e na)]; exact e)
theorem raisedV0 {C : Addr} {H1 : Hp} {Q : VK} (q : ∀ J a, Same H1 J → J a = some (exk a (.ref C) none) → Q (.ref a) J) : ([] : List V).length ≤ 1000 ∧ ∀ a, H1 a = none → spInit0 C (.ref a :: []) (upd H1 a (exo a C none))
    (fun v' H2 => v' = .non ∧ ((H2 a = some (exo a C none) ∧ ∀ b, del H2 a b = none → Q (.ref b) (upd (del H2 a) b (exk b (.ref C) none))) ∨ ∃ (d : Addr) (fs : List (Str × V)), H2 a = some (exo a C (some d)) ∧ H2 d = some (exd d fs) ∧ ∀ b, upd (del H2 a) d (.xd fs) b = none → Q (.ref b) (upd (upd (del H2 a) d (.xd fs)) b (exk b (.ref C) (some d))))) (fun _ _ _ => False) :=
  raised0 (Q := fun cls d H' => ∀ a, H' a = none → Q (.ref a) (upd H' a (exk a cls d))) fun H' s a na => q _ a (s.trans (same_new na)) upd_same
theorem dp_bls {K : PySem.W.Frag} {H : Hp} : ∀ l : List Bool, DpAll K H (l.map V.bl) (l.map PyData.bool)
  | [] => .nil
  | b :: l => .cons (.bl b) (dp_bls l)
theorem fi_bls {l : List Bool} (h : l.length ≤ 100) : Fi 1 (.list (l.map PyData.bool)) :=
  (fine_list (k := 0) (m := Sz 0) (n := 100) (fun d hd => by obtain ⟨b, -, rfl⟩ := List.mem_map.mp hd; exact fi_bl) (by rw [List.length_map]; exact h) (by decide)).mono (Nat.le_refl _) (by decide)
theorem units1L {k : Nat} {A : Around} (r : Room k A) : A.units + 1 < cLine := by have := r.units; omega
end
end Pc
namespace Pc
open PySem PySem.Spec PyProof.Rows L2 RZ
section
variable {P : Program} {w : World} {K : PySem.W.Frag} {mg : Str → Option Value} {base : Heap}
/-! ### the built-in classes of an error -/
def spBases (T : Env K mg) : Sp := fun vs H Q _ => ∃ (a : Addr) (i : Nat), vs = [.ref a] ∧ Er T H a i ∧ ∀ (H' : Hp) (p : Addr), Same H H' → H p = none → H' p = some (.lst ((List.range 4).map fun j => V.bl (decide (bsE.getD i 9 = j)))) → Q (.ref p) H'
theorem ok_bases (T : Env K mg) : FnOk P w K mg base CX0 1 T.f_bases T.d_bases ["_law_made"] (spBases T) := by

  refine T.F_bases.ok sc_bases (fun vs H Q E h => ?_) (fun cdv A outer s H vs Q E hr h => ?_)
  · obtain ⟨a, i, rfl, _⟩ := h
    rfl
  · obtain ⟨a, i, rfl, ⟨C, d, hC, hK⟩, q⟩ := h

    refine ⟨_, pss_cons (ps_set (i := 1) sc_bases.nd rfl (.inl rfl) (pe_lst (pa_cons (pe_callB call_isk (by rfl) T.n_isinstance (by decide +kernel) (pa_cons (pv 0) (pa_cons (pe_bltn (v := .ty "LookupError") (by rfl) T.n_LookupError (by decide +kernel) rfl) pa_nil))) (pa_cons (pe_callB call_isk (by rfl) T.n_isinstance (by decide +kernel) (pa_cons (pv 0) (pa_cons (pe_bltn (v := .ty "ValueError") (by rfl) T.n_ValueError (by decide +kernel) rfl) pa_nil))) pa_nil)))) <|
      pss_one (ps_ret (pe_op op_cat (pv 1) (pe_lst (pa_cons (pe_callB call_isk (by rfl) T.n_isinstance (by decide +kernel) (pa_cons (pv 0) (pa_cons (pe_bltn (v := .ty "RuntimeError") (by rfl) T.n_RuntimeError (by decide +kernel) rfl) pa_nil))) (pa_cons (pe_callB call_isk (by rfl) T.n_isinstance (by decide +kernel) (pa_cons (pv 0) (pa_cons (pe_bltn (v := .ty "OverflowError") (by rfl) T.n_OverflowError (by decide +kernel) rfl) pa_nil))) pa_nil))))), ?_⟩
    have kc := kc_all T i C hC
    refine ⟨_, rfl, a, C, d, _, _, _, rfl, hK, kc, .ty _, kb_0 T i C hC, _, rfl, a, C, d, _, _, _, rfl, hK, kc, .ty _, kb_1 T i C hC, by show 2 ≤ sizeLine; decide, fun l0 nl => ?_⟩
    have sH : Same H (upd H l0 (.lst [.bl (decide (bsE.getD i 9 = 0)), .bl (decide (bsE.getD i 9 = 1))])) := same_new nl
    have eg : (upd H l0 (.lst [.bl (decide (bsE.getD i 9 = 0)), .bl (decide (bsE.getD i 9 = 1))])) l0 = some (.lst [.bl (decide (bsE.getD i 9 = 0)), .bl (decide (bsE.getD i 9 = 1))]) := upd_same
    replace hK := hK.same sH
    revert sH eg hK
    generalize upd H l0 (.lst [.bl (decide (bsE.getD i 9 = 0)), .bl (decide (bsE.getD i 9 = 1))]) = J
    intro sH eg hK
    refine st_set [some (.ref a), some (.ref l0)] ?_ rfl
    clear nl
    refine ⟨_, rfl, _, rfl, a, C, d, _, _, _, rfl, hK, kc, .ty _, kb_2 T i C hC, _, rfl, a, C, d, _, _, _, rfl, hK, kc, .ty _, kb_3 T i C hC, by show 2 ≤ sizeLine; decide, fun l1 nl => ?_⟩
    have s1 := same_new (o := .lst [.bl (decide (bsE.getD i 9 = 2)), .bl (decide (bsE.getD i 9 = 3))]) nl
    refine ⟨l0, l1, _, _, rfl, rfl, s1 _ _ eg, upd_same, by show 2 + 2 ≤ sizeLine; decide, fun g1 ng => ?_⟩
    have s2 := s1.trans (same_new (o := .lst ([.bl (decide (bsE.getD i 9 = 0)), .bl (decide (bsE.getD i 9 = 1))] ++ [.bl (decide (bsE.getD i 9 = 2)), .bl (decide (bsE.getD i 9 = 3))])) ng)
    have nH := (sH.trans s1).free ng
    exact q _ g1 (sH.trans s2) nH upd_same
end
end Pc
namespace Pc
open PySem PySem.Spec PyProof.Rows L2 RZ
section
variable {P : Program} {w : World} {K : PySem.W.Frag} {mg : Str → Option Value} {base : Heap}
/-! ### the classes of an error -/
def spKinds (T : Env K mg) : Sp := fun vs H Q _ => ∃ (a : Addr) (i : Nat), vs = [.ref a] ∧ Er T H a i ∧ ∀ (H' : Hp) (p : Addr), Same H H' → H p = none → H' p = some (.lst ((List.range 13).map fun j => V.bl (decide (i = j)))) → Q (.ref p) H'
theorem ok_kinds (T : Env K mg) : FnOk P w K mg base CX0 1 T.f_kinds T.d_kinds ["_law_made"] (spKinds T) := by

  refine T.F_kinds.ok sc_kinds (fun vs H Q E h => ?_) (fun cdv A outer s H vs Q E hr h => ?_)
  · obtain ⟨a, i, rfl, _⟩ := h
    rfl
  · obtain ⟨a, i, rfl, ⟨C, d, hC, hK⟩, q⟩ := h

    refine ⟨_, pss_cons (ps_set (i := 1) sc_kinds.nd rfl (.inl rfl) (pe_lst (pa_cons (pe_callB call_isk (by rfl) T.n_isinstance (by decide +kernel) (pa_cons (pv 0) (pa_cons (pe_glob (v := .ref T.C_NoPerson) (by rfl) T.gC_NoPerson rfl) pa_nil))) (pa_cons (pe_callB call_isk (by rfl) T.n_isinstance (by decide +kernel) (pa_cons (pv 0) (pa_cons (pe_glob (v := .ref T.C_NoNumber) (by rfl) T.gC_NoNumber rfl) pa_nil))) (pa_cons (pe_callB call_isk (by rfl) T.n_isinstance (by decide +kernel) (pa_cons (pv 0) (pa_cons (pe_glob (v := .ref T.C_NoDeed) (by rfl) T.gC_NoDeed rfl) pa_nil))) pa_nil))))) <|
      pss_cons (ps_set (i := 1) sc_kinds.nd rfl (.inl rfl) (pe_op op_cat (pv 1) (pe_lst (pa_cons (pe_callB call_isk (by rfl) T.n_isinstance (by decide +kernel) (pa_cons (pv 0) (pa_cons (pe_glob (v := .ref T.C_OtherSize) (by rfl) T.gC_OtherSize rfl) pa_nil))) (pa_cons (pe_callB call_isk (by rfl) T.n_isinstance (by decide +kernel) (pa_cons (pv 0) (pa_cons (pe_glob (v := .ref T.C_NotResult) (by rfl) T.gC_NotResult rfl) pa_nil))) (pa_cons (pe_callB call_isk (by rfl) T.n_isinstance (by decide +kernel) (pa_cons (pv 0) (pa_cons (pe_glob (v := .ref T.C_NotShortest) (by rfl) T.gC_NotShortest rfl) pa_nil))) pa_nil)))))) <|
      pss_cons (ps_set (i := 1) sc_kinds.nd rfl (.inl rfl) (pe_op op_cat (pv 1) (pe_lst (pa_cons (pe_callB call_isk (by rfl) T.n_isinstance (by decide +kernel) (pa_cons (pv 0) (pa_cons (pe_glob (v := .ref T.C_NoWord) (by rfl) T.gC_NoWord rfl) pa_nil))) (pa_cons (pe_callB call_isk (by rfl) T.n_isinstance (by decide +kernel) (pa_cons (pv 0) (pa_cons (pe_glob (v := .ref T.C_BadDeed) (by rfl) T.gC_BadDeed rfl) pa_nil))) (pa_cons (pe_callB call_isk (by rfl) T.n_isinstance (by decide +kernel) (pa_cons (pv 0) (pa_cons (pe_glob (v := .ref T.C_BadText) (by rfl) T.gC_BadText rfl) pa_nil))) pa_nil)))))) <|
      pss_cons (ps_set (i := 1) sc_kinds.nd rfl (.inl rfl) (pe_op op_cat (pv 1) (pe_lst (pa_cons (pe_callB call_isk (by rfl) T.n_isinstance (by decide +kernel) (pa_cons (pv 0) (pa_cons (pe_glob (v := .ref T.C_BadLine) (by rfl) T.gC_BadLine rfl) pa_nil))) (pa_cons (pe_callB call_isk (by rfl) T.n_isinstance (by decide +kernel) (pa_cons (pv 0) (pa_cons (pe_glob (v := .ref T.C_NotSettled) (by rfl) T.gC_NotSettled rfl) pa_nil))) (pa_cons (pe_callB call_isk (by rfl) T.n_isinstance (by decide +kernel) (pa_cons (pv 0) (pa_cons (pe_glob (v := .ref T.C_Last) (by rfl) T.gC_Last rfl) pa_nil))) pa_nil)))))) <|
      pss_one (ps_ret (pe_op op_cat (pv 1) (pe_lst (pa_cons (pe_callB call_isk (by rfl) T.n_isinstance (by decide +kernel) (pa_cons (pv 0) (pa_cons (pe_glob (v := .ref T.C_TooMany) (by rfl) T.gC_TooMany rfl) pa_nil))) pa_nil)))), ?_⟩
    have kc := kc_all T i C hC
    refine ⟨_, rfl, a, C, d, _, _, _, rfl, hK, kc, .own _, ki_0 T i C hC, _, rfl, a, C, d, _, _, _, rfl, hK, kc, .own _, ki_1 T i C hC, _, rfl, a, C, d, _, _, _, rfl, hK, kc, .own _, ki_2 T i C hC, by show 3 ≤ sizeLine; decide, fun l0 nl => ?_⟩
    have sH : Same H (upd H l0 (.lst [.bl (decide (i = 0)), .bl (decide (i = 1)), .bl (decide (i = 2))])) := same_new nl
    have eg : (upd H l0 (.lst [.bl (decide (i = 0)), .bl (decide (i = 1)), .bl (decide (i = 2))])) l0 = some (.lst [.bl (decide (i = 0)), .bl (decide (i = 1)), .bl (decide (i = 2))]) := upd_same
    replace hK := hK.same sH
    revert sH eg hK
    generalize upd H l0 (.lst [.bl (decide (i = 0)), .bl (decide (i = 1)), .bl (decide (i = 2))]) = J
    intro sH eg hK
    refine st_set [some (.ref a), some (.ref l0)] ?_ rfl
    clear nl
    refine ⟨_, rfl, _, rfl, a, C, d, _, _, _, rfl, hK, kc, .own _, ki_3 T i C hC, _, rfl, a, C, d, _, _, _, rfl, hK, kc, .own _, ki_4 T i C hC, _, rfl, a, C, d, _, _, _, rfl, hK, kc, .own _, ki_5 T i C hC, by show 3 ≤ sizeLine; decide, fun l1 nl => ?_⟩
    have s1 := same_new (o := .lst [.bl (decide (i = 3)), .bl (decide (i = 4)), .bl (decide (i = 5))]) nl
    refine ⟨l0, l1, _, _, rfl, rfl, s1 _ _ eg, upd_same, by show 3 + 3 ≤ sizeLine; decide, fun g1 ng => ?_⟩
    have s2 := s1.trans (same_new (o := .lst ([.bl (decide (i = 0)), .bl (decide (i = 1)), .bl (decide (i = 2))] ++ [.bl (decide (i = 3)), .bl (decide (i = 4)), .bl (decide (i = 5))])) ng)
    have nH := (sH.trans s1).free ng
    have eg2 : (upd (upd J l1 (.lst [.bl (decide (i = 3)), .bl (decide (i = 4)), .bl (decide (i = 5))])) g1 (.lst ([.bl (decide (i = 0)), .bl (decide (i = 1)), .bl (decide (i = 2))] ++ [.bl (decide (i = 3)), .bl (decide (i = 4)), .bl (decide (i = 5))]))) g1 = some (.lst ([.bl (decide (i = 0)), .bl (decide (i = 1)), .bl (decide (i = 2))] ++ [.bl (decide (i = 3)), .bl (decide (i = 4)), .bl (decide (i = 5))])) := upd_same
    have hK2 := hK.same s2
    have sH2 := sH.trans s2
    clear s2 s1 ng nl eg nH hK sH
    revert eg2 hK2 sH2
    generalize upd (upd J l1 (.lst [.bl (decide (i = 3)), .bl (decide (i = 4)), .bl (decide (i = 5))])) g1 (.lst ([.bl (decide (i = 0)), .bl (decide (i = 1)), .bl (decide (i = 2))] ++ [.bl (decide (i = 3)), .bl (decide (i = 4)), .bl (decide (i = 5))])) = J11
    intro eg hK sH
    refine st_set [some (.ref a), some (.ref g1)] ?_ rfl
    refine ⟨_, rfl, _, rfl, a, C, d, _, _, _, rfl, hK, kc, .own _, ki_6 T i C hC, _, rfl, a, C, d, _, _, _, rfl, hK, kc, .own _, ki_7 T i C hC, _, rfl, a, C, d, _, _, _, rfl, hK, kc, .own _, ki_8 T i C hC, by show 3 ≤ sizeLine; decide, fun l2 nl => ?_⟩
    have s1 := same_new (o := .lst [.bl (decide (i = 6)), .bl (decide (i = 7)), .bl (decide (i = 8))]) nl
    refine ⟨g1, l2, _, _, rfl, rfl, s1 _ _ eg, upd_same, by show 6 + 3 ≤ sizeLine; decide, fun g2 ng => ?_⟩
    have s2 := s1.trans (same_new (o := .lst (([.bl (decide (i = 0)), .bl (decide (i = 1)), .bl (decide (i = 2))] ++ [.bl (decide (i = 3)), .bl (decide (i = 4)), .bl (decide (i = 5))]) ++ [.bl (decide (i = 6)), .bl (decide (i = 7)), .bl (decide (i = 8))])) ng)
    have nH := (sH.trans s1).free ng
    have eg2 : (upd (upd J11 l2 (.lst [.bl (decide (i = 6)), .bl (decide (i = 7)), .bl (decide (i = 8))])) g2 (.lst (([.bl (decide (i = 0)), .bl (decide (i = 1)), .bl (decide (i = 2))] ++ [.bl (decide (i = 3)), .bl (decide (i = 4)), .bl (decide (i = 5))]) ++ [.bl (decide (i = 6)), .bl (decide (i = 7)), .bl (decide (i = 8))]))) g2 = some (.lst (([.bl (decide (i = 0)), .bl (decide (i = 1)), .bl (decide (i = 2))] ++ [.bl (decide (i = 3)), .bl (decide (i = 4)), .bl (decide (i = 5))]) ++ [.bl (decide (i = 6)), .bl (decide (i = 7)), .bl (decide (i = 8))])) := upd_same
    have hK2 := hK.same s2
    have sH2 := sH.trans s2
    clear s2 s1 ng nl eg nH hK sH
    revert eg2 hK2 sH2
    generalize upd (upd J11 l2 (.lst [.bl (decide (i = 6)), .bl (decide (i = 7)), .bl (decide (i = 8))])) g2 (.lst (([.bl (decide (i = 0)), .bl (decide (i = 1)), .bl (decide (i = 2))] ++ [.bl (decide (i = 3)), .bl (decide (i = 4)), .bl (decide (i = 5))]) ++ [.bl (decide (i = 6)), .bl (decide (i = 7)), .bl (decide (i = 8))])) = J12
    intro eg hK sH
    refine st_set [some (.ref a), some (.ref g2)] ?_ rfl
    refine ⟨_, rfl, _, rfl, a, C, d, _, _, _, rfl, hK, kc, .own _, ki_9 T i C hC, _, rfl, a, C, d, _, _, _, rfl, hK, kc, .own _, ki_10 T i C hC, _, rfl, a, C, d, _, _, _, rfl, hK, kc, .own _, ki_11 T i C hC, by show 3 ≤ sizeLine; decide, fun l3 nl => ?_⟩
    have s1 := same_new (o := .lst [.bl (decide (i = 9)), .bl (decide (i = 10)), .bl (decide (i = 11))]) nl
    refine ⟨g2, l3, _, _, rfl, rfl, s1 _ _ eg, upd_same, by show 9 + 3 ≤ sizeLine; decide, fun g3 ng => ?_⟩
    have s2 := s1.trans (same_new (o := .lst ((([.bl (decide (i = 0)), .bl (decide (i = 1)), .bl (decide (i = 2))] ++ [.bl (decide (i = 3)), .bl (decide (i = 4)), .bl (decide (i = 5))]) ++ [.bl (decide (i = 6)), .bl (decide (i = 7)), .bl (decide (i = 8))]) ++ [.bl (decide (i = 9)), .bl (decide (i = 10)), .bl (decide (i = 11))])) ng)
    have nH := (sH.trans s1).free ng
    have eg2 : (upd (upd J12 l3 (.lst [.bl (decide (i = 9)), .bl (decide (i = 10)), .bl (decide (i = 11))])) g3 (.lst ((([.bl (decide (i = 0)), .bl (decide (i = 1)), .bl (decide (i = 2))] ++ [.bl (decide (i = 3)), .bl (decide (i = 4)), .bl (decide (i = 5))]) ++ [.bl (decide (i = 6)), .bl (decide (i = 7)), .bl (decide (i = 8))]) ++ [.bl (decide (i = 9)), .bl (decide (i = 10)), .bl (decide (i = 11))]))) g3 = some (.lst ((([.bl (decide (i = 0)), .bl (decide (i = 1)), .bl (decide (i = 2))] ++ [.bl (decide (i = 3)), .bl (decide (i = 4)), .bl (decide (i = 5))]) ++ [.bl (decide (i = 6)), .bl (decide (i = 7)), .bl (decide (i = 8))]) ++ [.bl (decide (i = 9)), .bl (decide (i = 10)), .bl (decide (i = 11))])) := upd_same
    have hK2 := hK.same s2
    have sH2 := sH.trans s2
    clear s2 s1 ng nl eg nH hK sH
    revert eg2 hK2 sH2
    generalize upd (upd J12 l3 (.lst [.bl (decide (i = 9)), .bl (decide (i = 10)), .bl (decide (i = 11))])) g3 (.lst ((([.bl (decide (i = 0)), .bl (decide (i = 1)), .bl (decide (i = 2))] ++ [.bl (decide (i = 3)), .bl (decide (i = 4)), .bl (decide (i = 5))]) ++ [.bl (decide (i = 6)), .bl (decide (i = 7)), .bl (decide (i = 8))]) ++ [.bl (decide (i = 9)), .bl (decide (i = 10)), .bl (decide (i = 11))])) = J13
    intro eg hK sH
    refine st_set [some (.ref a), some (.ref g3)] ?_ rfl
    refine ⟨_, rfl, _, rfl, a, C, d, _, _, _, rfl, hK, kc, .own _, ki_12 T i C hC, by show 1 ≤ sizeLine; decide, fun l4 nl => ?_⟩
    have s1 := same_new (o := .lst [.bl (decide (i = 12))]) nl
    refine ⟨g3, l4, _, _, rfl, rfl, s1 _ _ eg, upd_same, by show 12 + 1 ≤ sizeLine; decide, fun g4 ng => ?_⟩
    have s2 := s1.trans (same_new (o := .lst (((([.bl (decide (i = 0)), .bl (decide (i = 1)), .bl (decide (i = 2))] ++ [.bl (decide (i = 3)), .bl (decide (i = 4)), .bl (decide (i = 5))]) ++ [.bl (decide (i = 6)), .bl (decide (i = 7)), .bl (decide (i = 8))]) ++ [.bl (decide (i = 9)), .bl (decide (i = 10)), .bl (decide (i = 11))]) ++ [.bl (decide (i = 12))])) ng)
    have nH := (sH.trans s1).free ng
    exact q _ g4 (sH.trans s2) nH upd_same
end
end Pc
namespace Pc
open PySem PySem.Spec PyProof.Rows L2 RZ
section
variable {P : Program} {w : World} {K : PySem.W.Frag} {mg : Str → Option Value} {base : Heap}
/-! ### all errors are right -/
def spAllR (T : Env K mg) : Sp := fun vs H Q _ => ∃ (a b : Addr) (es : List Addr), vs = [.ref a, .ref b] ∧ H a = some (.lst (es.map V.ref)) ∧ es.length = 13 ∧ (∀ i e, es[i]? = some e → Er T H e i) ∧ H b = some (.lst (nv bsE)) ∧ ∀ H', Same H H' → Q (.bl true) H'
theorem bs_small : ∀ i, i < 13 → bsE.getD i 9 < 4 := by decide
theorem bs_at : ∀ i, i < 13 → bsE[i]? = some (bsE.getD i 9) := by decide
theorem fi_blsR {n : Nat} {f : Nat → Bool} (h : n ≤ 100) : Fi 1 (.list ((List.range n).map fun j => PyData.bool (f j))) := by
  have := fi_bls (l := (List.range n).map f) (by rw [List.length_map, List.length_range]; exact h)
  rw [List.map_map] at this
  exact this
theorem dp_blsR {K : PySem.W.Frag} {H : Hp} {n : Nat} {f : Nat → Bool} : DpAll K H ((List.range n).map fun j => V.bl (f j)) ((List.range n).map fun j => PyData.bool (f j)) := by
  have := dp_bls (K := K) (H := H) ((List.range n).map f)
  rw [List.map_map, List.map_map] at this
  exact this
theorem ok_all_right (T : Env K mg) : FnOk P w K mg base CX0 2 T.f_all_right T.d_all_right ["_law_made", "_law_base"] (spAllR T) := by
  have GK : FnOk P w K mg base CX0 1 T.f_kinds T.d_kinds ["_law_made"] (spKinds T) := ok_kinds T
  have GB : FnOk P w K mg base CX0 1 T.f_bases T.d_bases ["_law_made"] (spBases T) := ok_bases T
  refine T.F_all_right.ok sc_all_right (fun vs H Q E h => ?_) (fun cdv A outer s H vs Q E hr h => ?_)
  · obtain ⟨a, b, es, rfl, _⟩ := h
    rfl
  · obtain ⟨a, b, es, rfl, ea, hl, he, eb, q⟩ := h
    have h1 := hr.mono (show 1 ≤ 1 by decide)
    refine ⟨_, pss_cons (ps_for PassesOwn.never rfl (pi_enum (by rfl) T.n_enumerate (pa_cons (pv 0) pa_nil)) (pg_tup (by rfl) (pgs_cons (pg_name (i := 2) sc_all_right.nd rfl (.inr rfl)) (pgs_cons (pg_name (i := 3) sc_all_right.nd rfl (.inr rfl)) pgs_nil)))
        (pss_cons (ps_if (pt_cmpR (op_neD hr.units) (pe_call GK h1 (by rfl) T.g_kinds T.F_kinds.kp T.b_kinds .nil pass0 (pa_cons (pv 3) pa_nil)) (pe_lc (own := [("_law_k", 4)]) (g := gName 4) (tt := tYes) (te := tOp rEq (tVar 4) (tVar 2)) rfl sc_all_right.nd (pi_range1 (by rfl) T.n_range (pa_cons pe_int pa_nil)) (blkOk_by (N := N_all_right) (sc := (defScope s_all_right)) (by decide +kernel)) (fun _ _ _ _ _ => (pg_name (i := 4) sc_all_right.nd rfl (.inl rfl))) (fun _ _ _ _ _ => pts_nil) (fun _ _ _ _ _ => pe_cmpR op_eq (pv 4) (pv 2) (nomark _))) (nomark _)) (pss_one (ps_ret pe_bl)) pss_nil) <|
      pss_cons (ps_if (PW.pt (pw_or (pt_cmpR op_notBl (pe_ix ix_list (pe_call GB h1 (by rfl) T.g_bases T.F_bases.kp T.b_bases .nil pass0 (pa_cons (pv 3) pa_nil)) (pe_ix ix_list (pv 1) (pv 2) (fun _ _ => rfl)) (fun _ _ => rfl)) pe_bl (nomark _)) (pw_or1 (pt_val (pe_callB call_iskT (by rfl) T.n_isinstance (by decide +kernel) (pa_cons (pv 3) (pa_cons (pe_tup (pa_cons (pe_bltn (v := .ty "KeyError") (by rfl) T.n_KeyError (by decide +kernel) rfl) (pa_cons (pe_bltn (v := .ty "IndexError") (by rfl) T.n_IndexError (by decide +kernel) rfl) pa_nil))) pa_nil))))))) (pss_one (ps_ret pe_bl)) pss_nil) <|
      pss_one (ps_if (pt_cmpR (op_neNil hr.units) (pe_lc (own := [("_law_k", 4)]) (g := gName 4) (tt := tAnd (tTest (tOp rNe (tVar 4) (tOp (rIxL K) (tVar 1) (tVar 2)))) (tB (tOp (rIxL K) (tCall (spBases T) [] (fun _ _ _ => False) (tCons (tVar 3) tNil)) (tVar 4)))) (te := tVar 4) rfl sc_all_right.nd (pi_range1 (by rfl) T.n_range (pa_cons pe_int pa_nil)) (blkOk_by (N := N_all_right) (sc := (defScope s_all_right)) (by decide +kernel)) (fun _ _ _ _ _ => (pg_name (i := 4) sc_all_right.nd rfl (.inl rfl))) (fun _ _ _ _ _ => pts_one (PW.pt (pw_and (pt_cmpR op_ne (pv 4) (pe_ix ix_list (pv 1) (pv 2) (fun _ _ => rfl)) (nomark _)) (pw_and1 (pt_val (pe_ix ix_list (pe_call GB h1 (by rfl) T.g_bases T.F_bases.kp T.b_bases .nil pass0 (pa_cons (pv 3) pa_nil)) (pv 4) (fun _ _ => rfl))))))) (fun _ _ _ _ _ => (pv 4))) (pe_lst pa_nil) (nomark _)) (pss_one (ps_ret pe_bl)) pss_nil))) <|
      pss_one (ps_ret pe_bl), ?_⟩
    refine ⟨_, rfl, a, _, rfl, .inl (.inl ea), ?_⟩
    refine for_it (walk_enum (xs := es.map V.ref)) (fun i σ J => Same H J ∧ ∃ (y2 y3 : Option V), σ = [some (.ref a), some (.ref b), y2, y3, none])
      ⟨fun _ _ h => h, none, none, rfl⟩ (fun i σ J _ h => .inl (.inl (h.1 _ _ ea))) (fun i x σ Jx J hi h y => ?_) (fun σ J h => ?_)
    · obtain ⟨smx, y2, y3, rfl⟩ := h
      obtain ⟨tp, v1, v2, rfl, ntp, rfl, g1, g2⟩ := y
      have ev1 : v1 = .int (i : Nat) := (Option.some.inj g1).symm
      have g2' : (es.map V.ref)[i]? = some v2 := g2
      rw [List.getElem?_map] at g2'
      obtain ⟨u, eu, rfl⟩ := Option.map_eq_some_iff.mp g2'
      subst ev1
      have hi13 : i < 13 := by have := (List.getElem?_eq_some_iff.mp eu).1; omega
      have hE := he i u eu
      refine ⟨tp, _, rfl, .inl (.inl upd_same), rfl, _, _, rfl, _, _, rfl, rfl, ?_⟩
      have sm : Same H (upd Jx tp (.tup [.int (i : Nat), .ref u])) := smx.trans (same_new ntp)
      revert sm
      generalize upd Jx tp (.tup [.int (i : Nat), .ref u]) = J
      intro sm
      clear smx ntp g1 g2 g2'
      refine st_eq (t := tSeq _ _) [some (.ref a), some (.ref b), some (.int (i : Nat)), some (.ref u), none] ?_ rfl
      have hix : atI (nv bsE) ((i : Nat) : Int) = some (V.int ((bsE.getD i 9 : Nat) : Int)) := atI_nat (by unfold nv; rw [List.getElem?_map, bs_at i hi13]; rfl)
      -- the kinds
      refine ⟨_, rfl, u, i, rfl, hE.same sm, fun J1 p1 s1 n1 e1 => ?_⟩
      refine ⟨13, rfl, by decide, by decide, fun D nD => ?_⟩
      refine lc_range (n := 13) (fun l J => Same J1 J ∧ J D = some (.lst ((List.range l).map fun j => V.bl (decide (i = j))))) ⟨same_new nD, upd_same⟩ (fun l J2 hl2 h => ?_) (fun J2 h => ?_)
      · obtain ⟨s2, eD⟩ := h
        refine ⟨rfl, yes_if ⟨_, rfl, _, rfl, rfl, _, eD, ?_, fun z o hz => by rw [upd_ne (ne_of_none hz nD)]; exact s2 _ _ hz, ?_⟩⟩
        · rw [List.length_map, List.length_range]; exact small1000 (by omega)
        · rw [upd_same, List.range_succ, List.map_append]
          have : decide (V.int ((0 : Int) + (l : Nat)) = V.int (i : Nat)) = decide (i = l) := decide_eq_decide.mpr ⟨fun z => by have := V.int.inj z; omega, fun z => congrArg V.int (by omega)⟩
          rw [this]; rfl
      obtain ⟨s2, eD⟩ := h
      refine ⟨_, _, .lst (.inl (.inl (s2 _ _ e1))) dp_blsR, .lst (.inl (.inl eD)) dp_blsR, (fi_blsR (by decide)).sh, (fi_blsR (by decide)).sh, _, rfl, iteX (fi_ne (fi_blsR (by decide))) ?_⟩
      have sm2 := (sm.trans s1).trans s2
      clear e1 eD s1 s2 nD n1
      -- the base
      refine ⟨_, rfl, u, i, rfl, hE.same sm2, fun J3 p3 s3 n3 e3 => ?_⟩
      have sm3 := sm2.trans s3
      refine ⟨_, rfl, _, rfl, b, _, _, _, rfl, rfl, .inl (.inl (sm3 _ _ eb)), hix, ?_⟩
      refine ⟨p3, _, _, .bl true, rfl, rfl, .inl (.inl e3), atI_nat (by rw [List.getElem?_map, List.getElem?_range (bs_small i hi13)]; show some (V.bl (decide (bsE.getD i 9 = bsE.getD i 9))) = _; rw [decide_eq_true rfl]), ?_⟩
      refine ⟨true, true, rfl, rfl, _, rfl, iteX rfl ?_⟩
      obtain ⟨C, d, hC, hK⟩ := hE
      refine ⟨_, rfl, by show 2 ≤ sizeLine; decide, fun lt nlt => ?_⟩
      have s4 := same_new (o := .tup [.ty "KeyError", .ty "IndexError"]) nlt
      refine ⟨u, C, d, lt, _, _, _, rfl, (hK.same sm3).same s4, kc_all T i C hC, upd_same, cls2 _ _, kx_all T i C hC, _, rfl, iteX rfl ?_⟩
      have sm4 := sm3.trans s4
      have hE : Er T H u i := ⟨C, d, hC, hK⟩
      -- the others
      refine ⟨4, rfl, by decide, by decide, fun D nD => ?_⟩
      refine lc_range (n := 4) (fun l J => Same H J ∧ J D = some (.lst [])) ⟨sm4.trans (same_new nD), upd_same⟩ (fun l J2 hl2 h => ?_) (fun J2 h => ?_)
      · obtain ⟨s2, eD⟩ := h
        refine ⟨rfl, ?_⟩
        refine ⟨_, rfl, _, rfl, _, rfl, b, _, _, _, rfl, rfl, .inl (.inl (s2 _ _ eb)), hix, rfl, _, rfl, ?_⟩
        by_cases hc : l = bsE.getD i 9
        · refine iteX ?_ ⟨s2, eD⟩
          rw [decide_eq_true (congrArg V.int (show (0 : Int) + (l : Nat) = ((bsE.getD i 9 : Nat) : Int) by omega))]; rfl
        · refine iteY ?_ ?_
          · rw [decide_eq_false (fun z => hc (by have := V.int.inj z; omega))]; rfl
          · refine ⟨_, rfl, u, i, rfl, hE.same s2, fun J5 p5 s5 n5 e5 => ?_⟩
            refine ⟨_, rfl, p5, _, _, .bl false, rfl, rfl, .inl (.inl e5), ?_, _, rfl, iteX rfl ⟨s2.trans s5, s5 _ _ eD⟩⟩
            rw [Int.zero_add]
            refine atI_nat ?_
            rw [List.getElem?_map, List.getElem?_range hl2]; show some (V.bl (decide (bsE.getD i 9 = l))) = _; rw [decide_eq_false (fun z : bsE.getD i 9 = l => hc z.symm)]
      obtain ⟨s5, eD⟩ := h
      refine ⟨by show 0 ≤ sizeLine; decide, fun l2 nl2 => ⟨D, l2, [], rfl, rfl, .inl (.inl (same_new nl2 _ _ eD)), .inl (.inl upd_same), _, rfl, iteX rfl ?_⟩⟩
      exact ⟨s5.trans (same_new nl2), _, _, rfl⟩
    · obtain ⟨sJ, y2, y3, rfl⟩ := h
      exact q _ sJ
end
end Pc
namespace Pc
open PySem PySem.Spec PyProof.Rows L2 RZ
/-! ### errors as values: what one reads of them -/
def FlyV (C : Addr) (f : Str) (v : V) (H : Hp) (Q : VK) : Prop := Flies C f v H (fun cls d H' => ∀ a, H' a = none → Q (.ref a) (upd H' a (exk a cls d)))
def FlyV0 (C : Addr) (H : Hp) (Q : VK) : Prop := Flies0 C H (fun cls d H' => ∀ a, H' a = none → Q (.ref a) (upd H' a (exk a cls d)))
theorem flyV {C : Addr} {f : Str} {v : V} {H : Hp} {Q : VK} (q : ∀ J a d, Same H J → J a = some (exk a (.ref C) (some d)) → J d = some (.xd [(f, v)]) → Q (.ref a) J) : FlyV C f v H Q :=
  fun d H' s n e a na => q _ a d (s.trans (same_new na)) upd_same (by rw [upd_ne (ne_of_none e na)]; exact e)
theorem flyV0 {C : Addr} {H : Hp} {Q : VK} (q : ∀ J a, Same H J → J a = some (exk a (.ref C) none) → Q (.ref a) J) : FlyV0 C H Q :=
  fun H' s a na => q _ a (s.trans (same_new na)) upd_same
section
variable {X : Cx} {C : Addr} {bmB : List Value} {B newId initId : String} {f : Str}
theorem pe_mk1 {x : Str} {fI : Addr} {k : Nat} {fd : FuncData} {ps : List Str} {CX : CXT} {e : Expr} {es : List Expr} {ta : TA} {p pos : Pos} (T : Own X.K newId bmB C) (F : ExcBaseFacts B newId initId bmB) (iC : PySem.W.findIn X.K (.ref C) "__init__" = some (some (.ref fI))) (tI : PySem.W.typeIn X.K (.ref fI) = some (.type "function"))
    (F1 : FnOk X.prog X.w X.K X.mg X.base CX k fI fd ps (spInit1 C f)) (hr : Room (k + 1) X.A) (hb : Binds X.K fd ps []) (hx : Passes CX X (fun _ _ _ => False)) (hg : Gl X x) (hm : X.mg x = some (.ref C)) (ha : PA X (e :: es) ta)
    (hdb : (x == ("__debug__" : Str)) = false := by decide) (he : starEach (e :: es) X.env = (false, eval e X.env) :: starEach es X.env := by rfl) (hpl : (backTo pos (starEach es X.env)).any (·.1) = false := by rfl) :
    PE X (.Call (.Name x p) (e :: es) [] pos) (fun σ H Q => ta σ H fun vs H1 => ∃ v, vs = [v] ∧ FlyV C f v H1 Q) := by
  refine pe_mkv (t := fun σ H Qx => ta σ H fun vs H1 => ∃ v, vs = [v] ∧ Flies C f v H1 Qx) ?_
  intro pins s σ H Q I h
  refine wpAny_Call_Name_kw (ld_glob I hg hm ?_ hdb)
  exact PySem.W.callWith_K (h₀ := X.base) I.ok.mod.kin T.kC (thn (ha.run pos pins s σ H _ I h) fun us s1 ⟨vs, H1, I1, r1, v, ev, q1⟩ => ⟨I1.kIn, by
    subst ev
    have z := raised1 q1
    exact made_run T F iC tI F1 hr hb hx I1 r1 z.1 z.2⟩) he hpl
theorem pe_mkP {x : Str} {fI : Addr} {k : Nat} {fd : FuncData} {ps : List Str} {CX : CXT} {e : Expr} {es : List Expr} {ta : TA} {p pos : Pos} (T : Own X.K newId bmB C) (F : ExcBaseFacts B newId initId bmB) (iC : PySem.W.findIn X.K (.ref C) "__init__" = some (some (.ref fI))) (tI : PySem.W.typeIn X.K (.ref fI) = some (.type "function"))
    (F1 : FnOk X.prog X.w X.K X.mg X.base CX k fI fd ps (spInitP C f)) (hr : Room (k + 1) X.A) (hb : Binds X.K fd ps []) (hx : Passes CX X (fun _ _ _ => False)) (hg : Gl X x) (hm : X.mg x = some (.ref C)) (ha : PA X (e :: es) ta)
    (hdb : (x == ("__debug__" : Str)) = false := by decide) (he : starEach (e :: es) X.env = (false, eval e X.env) :: starEach es X.env := by rfl) (hpl : (backTo pos (starEach es X.env)).any (·.1) = false := by rfl) :
    PE X (.Call (.Name x p) (e :: es) [] pos) (fun σ H Q => ta σ H fun vs H1 => ∃ t xs, vs = [.ref t] ∧ H1 t = some (.tup xs) ∧ FlyV C f (.ref t) H1 Q) := by
  refine pe_mkv (t := fun σ H Qx => ta σ H fun vs H1 => ∃ t xs, vs = [.ref t] ∧ H1 t = some (.tup xs) ∧ Flies C f (.ref t) H1 Qx) ?_
  intro pins s σ H Q I h
  refine wpAny_Call_Name_kw (ld_glob I hg hm ?_ hdb)
  exact PySem.W.callWith_K (h₀ := X.base) I.ok.mod.kin T.kC (thn (ha.run pos pins s σ H _ I h) fun us s1 ⟨vs, H1, I1, r1, t, xs, ev, et, q1⟩ => ⟨I1.kIn, by
    subst ev
    have z := raisedP et q1
    exact made_run T F iC tI F1 hr hb hx I1 r1 z.1 z.2⟩) he hpl
theorem pe_mk0 {x : Str} {fI : Addr} {k : Nat} {fd : FuncData} {ps : List Str} {CX : CXT} {p pos : Pos} (T : Own X.K newId bmB C) (F : ExcBaseFacts B newId initId bmB) (iC : PySem.W.findIn X.K (.ref C) "__init__" = some (some (.ref fI))) (tI : PySem.W.typeIn X.K (.ref fI) = some (.type "function"))
    (F1 : FnOk X.prog X.w X.K X.mg X.base CX k fI fd ps (spInit0 C)) (hr : Room (k + 1) X.A) (hb : Binds X.K fd ps []) (hx : Passes CX X (fun _ _ _ => False)) (hg : Gl X x) (hm : X.mg x = some (.ref C)) (hdb : (x == ("__debug__" : Str)) = false := by decide) :
    PE X (.Call (.Name x p) [] [] pos) (fun σ H Q => True ∧ FlyV0 C H Q) := by
  refine pe_mkv (t := fun σ H Qx => True ∧ Flies0 C H Qx) ?_
  intro pins s σ H Q I h
  refine wpAny_Call_Name_kw (ld_glob I hg hm ?_ hdb)
  have z := raised0 h.2
  exact PySem.W.callWith_K0 I.kIn T.kC (made_run (us := []) (vs := []) T F iC tI F1 hr hb hx I .nil z.1 z.2)
theorem pe_mk1K {x : Str} {fI : Addr} {k : Nat} {fd : FuncData} {ps ks : List Str} {CX : CXT} {kws : List Keyword} {tk : TA} {p pos : Pos} (T : Own X.K newId bmB C) (F : ExcBaseFacts B newId initId bmB) (iC : PySem.W.findIn X.K (.ref C) "__init__" = some (some (.ref fI))) (tI : PySem.W.typeIn X.K (.ref fI) = some (.type "function"))
    (F1 : FnOk X.prog X.w X.K X.mg X.base CX k fI fd ps (spInit1 C f)) (hr : Room (k + 1) X.A) (hb : ∀ (s : Shared) (a : Addr) (ws : List Value), ws.length = ks.length → BindsTo s fd ⟨[.ref a], ks.zip ws⟩ (ps.zip (.ref a :: ws))) (hk1 : ks.length = 1) (hx : Passes CX X (fun _ _ _ => False)) (hg : Gl X x) (hm : X.mg x = some (.ref C)) (hkw : PK X kws tk)
    (hall : (backToKw pos (keywordEach kws X.env)).all (·.1.isSome) = true := by rfl) (hks : (backToKw pos (keywordEach kws X.env)).filterMap (·.1) = ks := by rfl) (hdb : (x == ("__debug__" : Str)) = false := by decide)
    (hpl : ((backTo pos (starEach [] X.env)).any (·.1) || (backToKw pos (keywordEach kws X.env)).any (·.1.isNone)) = false := by rfl) :
    PE X (.Call (.Name x p) [] kws pos) (fun σ H Q => tk σ H fun vs H1 => ∃ v, vs = [v] ∧ FlyV C f v H1 Q) := by
  refine pe_mkv (t := fun σ H Qx => tk σ H fun vs H1 => ∃ v, vs = [v] ∧ Flies C f v H1 Qx) ?_
  intro pins s σ H Q I h
  refine wpAny_Call_Name_kw (ld_glob I hg hm ?_ hdb)
  refine PySem.W.callWith_KW0 (h₀ := X.base) I.ok.mod.kin T.kC hall (thn (hkw.run pos pins s σ H _ I h) ?_) hpl
  rintro ws s2 ⟨zs, H2, I2, rz, v, ev, q⟩
  refine ⟨I2.kIn, ?_⟩
  subst ev
  rw [hks]
  have z := raised1 q
  exact made_runK T F iC tI F1 hr hb (by rw [← rz.length]; exact hk1.symm) hx I2 rz z.1 z.2
theorem pe_mkPK {x : Str} {fI : Addr} {k : Nat} {fd : FuncData} {ps ks : List Str} {CX : CXT} {kws : List Keyword} {tk : TA} {p pos : Pos} (T : Own X.K newId bmB C) (F : ExcBaseFacts B newId initId bmB) (iC : PySem.W.findIn X.K (.ref C) "__init__" = some (some (.ref fI))) (tI : PySem.W.typeIn X.K (.ref fI) = some (.type "function"))
    (F1 : FnOk X.prog X.w X.K X.mg X.base CX k fI fd ps (spInitP C f)) (hr : Room (k + 1) X.A) (hb : ∀ (s : Shared) (a : Addr) (ws : List Value), ws.length = ks.length → BindsTo s fd ⟨[.ref a], ks.zip ws⟩ (ps.zip (.ref a :: ws))) (hk1 : ks.length = 1) (hx : Passes CX X (fun _ _ _ => False)) (hg : Gl X x) (hm : X.mg x = some (.ref C)) (hkw : PK X kws tk)
    (hall : (backToKw pos (keywordEach kws X.env)).all (·.1.isSome) = true := by rfl) (hks : (backToKw pos (keywordEach kws X.env)).filterMap (·.1) = ks := by rfl) (hdb : (x == ("__debug__" : Str)) = false := by decide)
    (hpl : ((backTo pos (starEach [] X.env)).any (·.1) || (backToKw pos (keywordEach kws X.env)).any (·.1.isNone)) = false := by rfl) :
    PE X (.Call (.Name x p) [] kws pos) (fun σ H Q => tk σ H fun vs H1 => ∃ t xs, vs = [.ref t] ∧ H1 t = some (.tup xs) ∧ FlyV C f (.ref t) H1 Q) := by
  refine pe_mkv (t := fun σ H Qx => tk σ H fun vs H1 => ∃ t xs, vs = [.ref t] ∧ H1 t = some (.tup xs) ∧ Flies C f (.ref t) H1 Qx) ?_
  intro pins s σ H Q I h
  refine wpAny_Call_Name_kw (ld_glob I hg hm ?_ hdb)
  refine PySem.W.callWith_KW0 (h₀ := X.base) I.ok.mod.kin T.kC hall (thn (hkw.run pos pins s σ H _ I h) ?_) hpl
  rintro ws s2 ⟨zs, H2, I2, rz, t, xs, ev, et, q⟩
  refine ⟨I2.kIn, ?_⟩
  subst ev
  rw [hks]
  have z := raisedP et q
  exact made_runK T F iC tI F1 hr hb (by rw [← rz.length]; exact hk1.symm) hx I2 rz z.1 z.2
end
end Pc
namespace Pc
open PySem PySem.Spec PyProof.Rows L2 RZ
section
variable {P : Program} {w : World} {K : PySem.W.Frag} {mg : Str → Option Value} {base : Heap}
/-! ### errors made -/
def spRight (K : PySem.W.Frag) : Sp := fun vs H Q _ => ∃ (m : Nat) (t : Addr) (x y : Int), vs = [.int (m : Nat), .ref t] ∧ m ≤ 100 ∧ H t = some (.tup [.int x, .int y]) ∧ ∀ H', Same H H' → Q (.bl true) H'
theorem ok_right (T : Env K mg) : FnOk P w K mg base CX0 5 T.f_right T.d_right ["_law_cell", "_law_duo"] (spRight K) := by
  have GS : FnOk P w K mg base CX0 4 T.f_same T.d_same ["_law_found", "_law_due"] (spSame K 4) := ok_same T 4
  have GR : FnOk P w K mg base CX0 2 T.f_all_right T.d_all_right ["_law_made", "_law_base"] (spAllR T) := ok_all_right T
  refine T.F_right.ok sc_right (fun vs H Q E h => ?_) (fun cdv A outer s H vs Q E hr h => ?_)
  · obtain ⟨m, t, x, y, rfl, _⟩ := h
    rfl
  · obtain ⟨m, t, x, y, rfl, hm, et, q⟩ := h
    have h2 := hr.mono (show 2 ≤ 4 by decide)
    have h4 := hr.mono (show 4 ≤ 4 by decide)
    refine ⟨_, pss_cons (ps_set (i := 2) sc_right.nd rfl (.inl rfl) (pe_lst (pa_cons (pe_mk1 (f := "person") T.own_NoPerson bsL.fb T.iC_NoPerson T.tI_NoPerson (ok_i_NoPerson T) h2 T.b_i_NoPerson pass0 (by rfl) T.gC_NoPerson (pa_cons (pv 0) pa_nil)) (pa_cons (pe_mk1 (f := "number") T.own_NoNumber bsL.fb T.iC_NoNumber T.tI_NoNumber (ok_i_NoNumber T) h2 T.b_i_NoNumber pass0 (by rfl) T.gC_NoNumber (pa_cons (pv 0) pa_nil)) (pa_cons (pe_mk1 (f := "many") T.own_NoDeed bsL.fb T.iC_NoDeed T.tI_NoDeed (ok_i_NoDeed T) h2 T.b_i_NoDeed pass0 (by rfl) T.gC_NoDeed (pa_cons (pv 0) pa_nil)) (pa_cons (pe_mk1 (f := "size") T.own_OtherSize bsV.fb T.iC_OtherSize T.tI_OtherSize (ok_i_OtherSize T) h2 T.b_i_OtherSize pass0 (by rfl) T.gC_OtherSize (pa_cons (pe_op op_mul pe_int (pv 0)) pa_nil)) (pa_cons (pe_mkP (f := "pair") T.own_NotResult bsV.fb T.iC_NotResult T.tI_NotResult (ok_i_NotResult T) h2 T.b_i_NotResult pass0 (by rfl) T.gC_NotResult (pa_cons (pv 1) pa_nil)) (pa_cons (pe_mk0 T.own_NotShortest bsV.fb T.iC_NotShortest T.tI_NotShortest (ok_i_NotShortest T) h2 T.b_i_NotShortest pass0 (by rfl) T.gC_NotShortest) (pa_cons (pe_mk0 T.own_NoWord bsV.fb T.iC_NoWord T.tI_NoWord (ok_i_NoWord T) h2 T.b_i_NoWord pass0 (by rfl) T.gC_NoWord) pa_nil))))))))) <|
      pss_cons (ps_set (i := 2) sc_right.nd rfl (.inl rfl) (pe_op op_cat (pv 2) (pe_lst (pa_cons (pe_mk1 (f := "at") T.own_BadDeed bsV.fb T.iC_BadDeed T.tI_BadDeed (ok_i_BadDeed T) h2 T.b_i_BadDeed pass0 (by rfl) T.gC_BadDeed (pa_cons (pv 0) pa_nil)) (pa_cons (pe_mk1 (f := "at") T.own_BadText bsV.fb T.iC_BadText T.tI_BadText (ok_i_BadText T) h2 T.b_i_BadText pass0 (by rfl) T.gC_BadText (pa_cons (pv 0) pa_nil)) (pa_cons (pe_mk1 (f := "at") T.own_BadLine bsV.fb T.iC_BadLine T.tI_BadLine (ok_i_BadLine T) h2 T.b_i_BadLine pass0 (by rfl) T.gC_BadLine (pa_cons (pv 0) pa_nil)) (pa_cons (pe_mk1 (f := "many") T.own_NotSettled bsR.fb T.iC_NotSettled T.tI_NotSettled (ok_i_NotSettled T) h2 T.b_i_NotSettled pass0 (by rfl) T.gC_NotSettled (pa_cons (pv 0) pa_nil)) (pa_cons (pe_mk0 T.own_Last bsR.fb T.iC_Last T.tI_Last (ok_i_Last T) h2 T.b_i_Last pass0 (by rfl) T.gC_Last) (pa_cons (pe_mk1 (f := "size") T.own_TooMany bsO.fb T.iC_TooMany T.tI_TooMany (ok_i_TooMany T) h2 T.b_i_TooMany pass0 (by rfl) T.gC_TooMany (pa_cons (pe_op op_mul pe_int (pv 0)) pa_nil)) pa_nil))))))))) <|
      pss_cons (ps_set (i := 3) sc_right.nd rfl (.inl rfl) (pe_lst (pa_cons (pe_kf (pe_ix ix_list (pv 2) pe_int (fun _ _ => rfl))) (pa_cons (pe_kf (pe_ix ix_list (pv 2) pe_int (fun _ _ => rfl))) (pa_cons (pe_kf (pe_ix ix_list (pv 2) pe_int (fun _ _ => rfl))) (pa_cons (pe_kf (pe_ix ix_list (pv 2) pe_int (fun _ _ => rfl))) (pa_cons (pe_kf (pe_ix ix_list (pv 2) pe_int (fun _ _ => rfl))) (pa_cons (pe_kf (pe_ix ix_list (pv 2) pe_int (fun _ _ => rfl))) (pa_cons (pe_kf (pe_ix ix_list (pv 2) pe_int (fun _ _ => rfl))) pa_nil))))))))) <|
      pss_cons (ps_set (i := 4) sc_right.nd rfl (.inl rfl) (pe_lst (pa_cons (pv 0) (pa_cons (pv 0) (pa_cons (pv 0) (pa_cons (pe_op op_mul pe_int (pv 0)) (pa_cons (pv 1) (pa_cons (pv 0) (pa_cons (pv 0) (pa_cons (pv 0) (pa_cons (pv 0) (pa_cons (pe_op op_mul pe_int (pv 0)) pa_nil)))))))))))) <|
      pss_cons (ps_set (i := 3) sc_right.nd rfl (.inl rfl) (pe_op op_cat (pv 3) (pe_lst (pa_cons (pe_kf (pe_ix ix_list (pv 2) pe_int (fun _ _ => rfl))) (pa_cons (pe_kf (pe_ix ix_list (pv 2) pe_int (fun _ _ => rfl))) (pa_cons (pe_kf (pe_ix ix_list (pv 2) pe_int (fun _ _ => rfl))) pa_nil)))))) <|
      pss_cons (ps_if (PW.pt (pw_or (pt_not (pt_val (pe_call GS h4 (by rfl) T.g_same T.F_same.kp T.b_same .nil pass0 (pa_cons (pv 3) (pa_cons (pv 4) pa_nil))))) (pw_or1 (pt_not (pt_val (pe_call GR h2 (by rfl) T.g_all_right T.F_all_right.kp T.b_all_right .nil pass0 (pa_cons (pv 2) (pa_cons (pe_lst (pa_cons pe_int (pa_cons pe_int (pa_cons pe_int (pa_cons pe_int (pa_cons pe_int (pa_cons pe_int (pa_cons pe_int (pa_cons pe_int (pa_cons pe_int (pa_cons pe_int (pa_cons pe_int (pa_cons pe_int (pa_cons pe_int pa_nil)))))))))))))) pa_nil)))))))) (pss_one (ps_ret pe_bl)) pss_nil) <|
      pss_cons (ps_set (i := 3) sc_right.nd rfl (.inl rfl) (pe_lst (pa_cons (pe_kf (pe_mk1K (f := "person") T.own_NoPerson bsL.fb T.iC_NoPerson T.tI_NoPerson (ok_i_NoPerson T) h2 (kw_i_NoPerson T) rfl pass0 (by rfl) T.gC_NoPerson (pk_cons (pv 0) pk_nil))) (pa_cons (pe_kf (pe_mk1K (f := "number") T.own_NoNumber bsL.fb T.iC_NoNumber T.tI_NoNumber (ok_i_NoNumber T) h2 (kw_i_NoNumber T) rfl pass0 (by rfl) T.gC_NoNumber (pk_cons (pv 0) pk_nil))) (pa_cons (pe_kf (pe_mk1K (f := "many") T.own_NoDeed bsL.fb T.iC_NoDeed T.tI_NoDeed (ok_i_NoDeed T) h2 (kw_i_NoDeed T) rfl pass0 (by rfl) T.gC_NoDeed (pk_cons (pv 0) pk_nil))) pa_nil))))) <|
      pss_cons (ps_set (i := 3) sc_right.nd rfl (.inl rfl) (pe_op op_cat (pv 3) (pe_lst (pa_cons (pe_kf (pe_mk1K (f := "size") T.own_OtherSize bsV.fb T.iC_OtherSize T.tI_OtherSize (ok_i_OtherSize T) h2 (kw_i_OtherSize T) rfl pass0 (by rfl) T.gC_OtherSize (pk_cons (pe_op op_mul pe_int (pv 0)) pk_nil))) (pa_cons (pe_kf (pe_mkPK (f := "pair") T.own_NotResult bsV.fb T.iC_NotResult T.tI_NotResult (ok_i_NotResult T) h2 (kw_i_NotResult T) rfl pass0 (by rfl) T.gC_NotResult (pk_cons (pv 1) pk_nil))) (pa_cons (pe_kf (pe_mk1K (f := "at") T.own_BadDeed bsV.fb T.iC_BadDeed T.tI_BadDeed (ok_i_BadDeed T) h2 (kw_i_BadDeed T) rfl pass0 (by rfl) T.gC_BadDeed (pk_cons (pv 0) pk_nil))) pa_nil)))))) <|
      pss_cons (ps_set (i := 3) sc_right.nd rfl (.inl rfl) (pe_op op_cat (pv 3) (pe_lst (pa_cons (pe_kf (pe_mk1K (f := "at") T.own_BadText bsV.fb T.iC_BadText T.tI_BadText (ok_i_BadText T) h2 (kw_i_BadText T) rfl pass0 (by rfl) T.gC_BadText (pk_cons (pv 0) pk_nil))) (pa_cons (pe_kf (pe_mk1K (f := "at") T.own_BadLine bsV.fb T.iC_BadLine T.tI_BadLine (ok_i_BadLine T) h2 (kw_i_BadLine T) rfl pass0 (by rfl) T.gC_BadLine (pk_cons (pv 0) pk_nil))) (pa_cons (pe_kf (pe_mk1K (f := "many") T.own_NotSettled bsR.fb T.iC_NotSettled T.tI_NotSettled (ok_i_NotSettled T) h2 (kw_i_NotSettled T) rfl pass0 (by rfl) T.gC_NotSettled (pk_cons (pv 0) pk_nil))) pa_nil)))))) <|
      pss_one (ps_ret (pe_call GS h4 (by rfl) T.g_same T.F_same.kp T.b_same .nil pass0 (pa_cons (pe_op op_cat (pv 3) (pe_lst (pa_cons (pe_kf (pe_mk1K (f := "size") T.own_TooMany bsO.fb T.iC_TooMany T.tI_TooMany (ok_i_TooMany T) h2 (kw_i_TooMany T) rfl pass0 (by rfl) T.gC_TooMany (pk_cons (pe_op op_mul pe_int (pv 0)) pk_nil))) pa_nil))) (pa_cons (pv 4) pa_nil)))), ?_⟩
    have sH : Same H H := fun _ _ h => h
    refine ⟨_, rfl, _, rfl, flyV fun J0 a0 d0 s1 ea0 ed0 => ?_⟩
    replace et := s1 _ _ et
    replace sH := sH.trans s1
    clear s1
    refine ⟨_, rfl, _, rfl, flyV fun J1 a1 d1 s1 ea1 ed1 => ?_⟩
    replace et := s1 _ _ et
    replace ea0 := s1 _ _ ea0
    replace ed0 := s1 _ _ ed0
    replace sH := sH.trans s1
    clear s1
    refine ⟨_, rfl, _, rfl, flyV fun J2 a2 d2 s1 ea2 ed2 => ?_⟩
    replace et := s1 _ _ et
    replace ea0 := s1 _ _ ea0
    replace ed0 := s1 _ _ ed0
    replace ea1 := s1 _ _ ea1
    replace ed1 := s1 _ _ ed1
    replace sH := sH.trans s1
    clear s1
    refine ⟨_, rfl, 2, (m : Int), rfl, rfl, .inl ⟨by decide, by decide⟩, _, rfl, flyV fun J3 a3 d3 s1 ea3 ed3 => ?_⟩
    replace et := s1 _ _ et
    replace ea0 := s1 _ _ ea0
    replace ed0 := s1 _ _ ed0
    replace ea1 := s1 _ _ ea1
    replace ed1 := s1 _ _ ed1
    replace ea2 := s1 _ _ ea2
    replace ed2 := s1 _ _ ed2
    replace sH := sH.trans s1
    clear s1
    refine ⟨_, rfl, t, _, rfl, et, flyV fun J4 a4 d4 s1 ea4 ed4 => ?_⟩
    replace et := s1 _ _ et
    replace ea0 := s1 _ _ ea0
    replace ed0 := s1 _ _ ed0
    replace ea1 := s1 _ _ ea1
    replace ed1 := s1 _ _ ed1
    replace ea2 := s1 _ _ ea2
    replace ed2 := s1 _ _ ed2
    replace ea3 := s1 _ _ ea3
    replace ed3 := s1 _ _ ed3
    replace sH := sH.trans s1
    clear s1
    refine ⟨trivial, flyV0 fun J5 a5 s1 ea5 => ?_⟩
    replace et := s1 _ _ et
    replace ea0 := s1 _ _ ea0
    replace ed0 := s1 _ _ ed0
    replace ea1 := s1 _ _ ea1
    replace ed1 := s1 _ _ ed1
    replace ea2 := s1 _ _ ea2
    replace ed2 := s1 _ _ ed2
    replace ea3 := s1 _ _ ea3
    replace ed3 := s1 _ _ ed3
    replace ea4 := s1 _ _ ea4
    replace ed4 := s1 _ _ ed4
    replace sH := sH.trans s1
    clear s1
    refine ⟨trivial, flyV0 fun J6 a6 s1 ea6 => ?_⟩
    replace et := s1 _ _ et
    replace ea0 := s1 _ _ ea0
    replace ed0 := s1 _ _ ed0
    replace ea1 := s1 _ _ ea1
    replace ed1 := s1 _ _ ed1
    replace ea2 := s1 _ _ ea2
    replace ed2 := s1 _ _ ed2
    replace ea3 := s1 _ _ ea3
    replace ed3 := s1 _ _ ed3
    replace ea4 := s1 _ _ ea4
    replace ed4 := s1 _ _ ed4
    replace ea5 := s1 _ _ ea5
    replace sH := sH.trans s1
    clear s1
    refine ⟨by show 7 ≤ sizeLine; decide, fun l1 nl => ?_⟩
    have s1 := same_new (o := .lst [V.ref a0, V.ref a1, V.ref a2, V.ref a3, V.ref a4, V.ref a5, V.ref a6]) nl
    have el1 : (upd J6 l1 (.lst [V.ref a0, V.ref a1, V.ref a2, V.ref a3, V.ref a4, V.ref a5, V.ref a6])) l1 = some (.lst [V.ref a0, V.ref a1, V.ref a2, V.ref a3, V.ref a4, V.ref a5, V.ref a6]) := upd_same
    replace et := s1 _ _ et
    replace ea0 := s1 _ _ ea0
    replace ed0 := s1 _ _ ed0
    replace ea1 := s1 _ _ ea1
    replace ed1 := s1 _ _ ed1
    replace ea2 := s1 _ _ ea2
    replace ed2 := s1 _ _ ed2
    replace ea3 := s1 _ _ ea3
    replace ed3 := s1 _ _ ed3
    replace ea4 := s1 _ _ ea4
    replace ed4 := s1 _ _ ed4
    replace ea5 := s1 _ _ ea5
    replace ea6 := s1 _ _ ea6
    replace sH := sH.trans s1
    clear s1 nl
    obtain ⟨K1, hK1⟩ : ∃ z, z = upd J6 l1 (.lst [V.ref a0, V.ref a1, V.ref a2, V.ref a3, V.ref a4, V.ref a5, V.ref a6]) := ⟨_, rfl⟩
    rw [← hK1] at et ea0 ed0 ea1 ed1 ea2 ed2 ea3 ed3 ea4 ed4 ea5 ea6 sH el1 ⊢
    clear hK1
    refine st_set [some (.int (m : Nat)), some (.ref t), some (.ref l1), none, none] ?_ rfl
    refine ⟨_, rfl, _, rfl, _, rfl, flyV fun J7 a7 d7 s1 ea7 ed7 => ?_⟩
    replace et := s1 _ _ et
    replace ea0 := s1 _ _ ea0
    replace ed0 := s1 _ _ ed0
    replace ea1 := s1 _ _ ea1
    replace ed1 := s1 _ _ ed1
    replace ea2 := s1 _ _ ea2
    replace ed2 := s1 _ _ ed2
    replace ea3 := s1 _ _ ea3
    replace ed3 := s1 _ _ ed3
    replace ea4 := s1 _ _ ea4
    replace ed4 := s1 _ _ ed4
    replace ea5 := s1 _ _ ea5
    replace ea6 := s1 _ _ ea6
    replace el1 := s1 _ _ el1
    replace sH := sH.trans s1
    clear s1
    refine ⟨_, rfl, _, rfl, flyV fun J8 a8 d8 s1 ea8 ed8 => ?_⟩
    replace et := s1 _ _ et
    replace ea0 := s1 _ _ ea0
    replace ed0 := s1 _ _ ed0
    replace ea1 := s1 _ _ ea1
    replace ed1 := s1 _ _ ed1
    replace ea2 := s1 _ _ ea2
    replace ed2 := s1 _ _ ed2
    replace ea3 := s1 _ _ ea3
    replace ed3 := s1 _ _ ed3
    replace ea4 := s1 _ _ ea4
    replace ed4 := s1 _ _ ed4
    replace ea5 := s1 _ _ ea5
    replace ea6 := s1 _ _ ea6
    replace el1 := s1 _ _ el1
    replace ea7 := s1 _ _ ea7
    replace ed7 := s1 _ _ ed7
    replace sH := sH.trans s1
    clear s1
    refine ⟨_, rfl, _, rfl, flyV fun J9 a9 d9 s1 ea9 ed9 => ?_⟩
    replace et := s1 _ _ et
    replace ea0 := s1 _ _ ea0
    replace ed0 := s1 _ _ ed0
    replace ea1 := s1 _ _ ea1
    replace ed1 := s1 _ _ ed1
    replace ea2 := s1 _ _ ea2
    replace ed2 := s1 _ _ ed2
    replace ea3 := s1 _ _ ea3
    replace ed3 := s1 _ _ ed3
    replace ea4 := s1 _ _ ea4
    replace ed4 := s1 _ _ ed4
    replace ea5 := s1 _ _ ea5
    replace ea6 := s1 _ _ ea6
    replace el1 := s1 _ _ el1
    replace ea7 := s1 _ _ ea7
    replace ed7 := s1 _ _ ed7
    replace ea8 := s1 _ _ ea8
    replace ed8 := s1 _ _ ed8
    replace sH := sH.trans s1
    clear s1
    refine ⟨_, rfl, _, rfl, flyV fun J10 a10 d10 s1 ea10 ed10 => ?_⟩
    replace et := s1 _ _ et
    replace ea0 := s1 _ _ ea0
    replace ed0 := s1 _ _ ed0
    replace ea1 := s1 _ _ ea1
    replace ed1 := s1 _ _ ed1
    replace ea2 := s1 _ _ ea2
    replace ed2 := s1 _ _ ed2
    replace ea3 := s1 _ _ ea3
    replace ed3 := s1 _ _ ed3
    replace ea4 := s1 _ _ ea4
    replace ed4 := s1 _ _ ed4
    replace ea5 := s1 _ _ ea5
    replace ea6 := s1 _ _ ea6
    replace el1 := s1 _ _ el1
    replace ea7 := s1 _ _ ea7
    replace ed7 := s1 _ _ ed7
    replace ea8 := s1 _ _ ea8
    replace ed8 := s1 _ _ ed8
    replace ea9 := s1 _ _ ea9
    replace ed9 := s1 _ _ ed9
    replace sH := sH.trans s1
    clear s1
    refine ⟨trivial, flyV0 fun J11 a11 s1 ea11 => ?_⟩
    replace et := s1 _ _ et
    replace ea0 := s1 _ _ ea0
    replace ed0 := s1 _ _ ed0
    replace ea1 := s1 _ _ ea1
    replace ed1 := s1 _ _ ed1
    replace ea2 := s1 _ _ ea2
    replace ed2 := s1 _ _ ed2
    replace ea3 := s1 _ _ ea3
    replace ed3 := s1 _ _ ed3
    replace ea4 := s1 _ _ ea4
    replace ed4 := s1 _ _ ed4
    replace ea5 := s1 _ _ ea5
    replace ea6 := s1 _ _ ea6
    replace el1 := s1 _ _ el1
    replace ea7 := s1 _ _ ea7
    replace ed7 := s1 _ _ ed7
    replace ea8 := s1 _ _ ea8
    replace ed8 := s1 _ _ ed8
    replace ea9 := s1 _ _ ea9
    replace ed9 := s1 _ _ ed9
    replace ea10 := s1 _ _ ea10
    replace ed10 := s1 _ _ ed10
    replace sH := sH.trans s1
    clear s1
    refine ⟨_, rfl, 2, (m : Int), rfl, rfl, .inl ⟨by decide, by decide⟩, _, rfl, flyV fun J12 a12 d12 s1 ea12 ed12 => ?_⟩
    replace et := s1 _ _ et
    replace ea0 := s1 _ _ ea0
    replace ed0 := s1 _ _ ed0
    replace ea1 := s1 _ _ ea1
    replace ed1 := s1 _ _ ed1
    replace ea2 := s1 _ _ ea2
    replace ed2 := s1 _ _ ed2
    replace ea3 := s1 _ _ ea3
    replace ed3 := s1 _ _ ed3
    replace ea4 := s1 _ _ ea4
    replace ed4 := s1 _ _ ed4
    replace ea5 := s1 _ _ ea5
    replace ea6 := s1 _ _ ea6
    replace el1 := s1 _ _ el1
    replace ea7 := s1 _ _ ea7
    replace ed7 := s1 _ _ ed7
    replace ea8 := s1 _ _ ea8
    replace ed8 := s1 _ _ ed8
    replace ea9 := s1 _ _ ea9
    replace ed9 := s1 _ _ ed9
    replace ea10 := s1 _ _ ea10
    replace ed10 := s1 _ _ ed10
    replace ea11 := s1 _ _ ea11
    replace sH := sH.trans s1
    clear s1
    refine ⟨by show 6 ≤ sizeLine; decide, fun l2 nl => ?_⟩
    have s1 := same_new (o := .lst [V.ref a7, V.ref a8, V.ref a9, V.ref a10, V.ref a11, V.ref a12]) nl
    have el2 : (upd J12 l2 (.lst [V.ref a7, V.ref a8, V.ref a9, V.ref a10, V.ref a11, V.ref a12])) l2 = some (.lst [V.ref a7, V.ref a8, V.ref a9, V.ref a10, V.ref a11, V.ref a12]) := upd_same
    replace et := s1 _ _ et
    replace ea0 := s1 _ _ ea0
    replace ed0 := s1 _ _ ed0
    replace ea1 := s1 _ _ ea1
    replace ed1 := s1 _ _ ed1
    replace ea2 := s1 _ _ ea2
    replace ed2 := s1 _ _ ed2
    replace ea3 := s1 _ _ ea3
    replace ed3 := s1 _ _ ed3
    replace ea4 := s1 _ _ ea4
    replace ed4 := s1 _ _ ed4
    replace ea5 := s1 _ _ ea5
    replace ea6 := s1 _ _ ea6
    replace el1 := s1 _ _ el1
    replace ea7 := s1 _ _ ea7
    replace ed7 := s1 _ _ ed7
    replace ea8 := s1 _ _ ea8
    replace ed8 := s1 _ _ ed8
    replace ea9 := s1 _ _ ea9
    replace ed9 := s1 _ _ ed9
    replace ea10 := s1 _ _ ea10
    replace ed10 := s1 _ _ ed10
    replace ea11 := s1 _ _ ea11
    replace ea12 := s1 _ _ ea12
    replace ed12 := s1 _ _ ed12
    replace sH := sH.trans s1
    clear s1 nl
    obtain ⟨K2, hK2⟩ : ∃ z, z = upd J12 l2 (.lst [V.ref a7, V.ref a8, V.ref a9, V.ref a10, V.ref a11, V.ref a12]) := ⟨_, rfl⟩
    rw [← hK2] at et ea0 ed0 ea1 ed1 ea2 ed2 ea3 ed3 ea4 ed4 ea5 ea6 el1 ea7 ed7 ea8 ed8 ea9 ed9 ea10 ed10 ea11 ea12 ed12 sH el2 ⊢
    clear hK2
    have esL : [V.ref a0, V.ref a1, V.ref a2, V.ref a3, V.ref a4, V.ref a5, V.ref a6] ++ [V.ref a7, V.ref a8, V.ref a9, V.ref a10, V.ref a11, V.ref a12] = ([a0, a1, a2, a3, a4, a5, a6, a7, a8, a9, a10, a11, a12] : List Addr).map V.ref := rfl
    refine ⟨l1, l2, _, _, rfl, rfl, el1, el2, by show 7 + 6 ≤ sizeLine; decide, fun l3 nl => ?_⟩
    rw [esL]
    have s1 := same_new (o := .lst (([a0, a1, a2, a3, a4, a5, a6, a7, a8, a9, a10, a11, a12] : List Addr).map V.ref)) nl
    have el3 : (upd K2 l3 (.lst (([a0, a1, a2, a3, a4, a5, a6, a7, a8, a9, a10, a11, a12] : List Addr).map V.ref))) l3 = some (.lst (([a0, a1, a2, a3, a4, a5, a6, a7, a8, a9, a10, a11, a12] : List Addr).map V.ref)) := upd_same
    clear el1 el2 esL
    replace et := s1 _ _ et
    replace ea0 := s1 _ _ ea0
    replace ed0 := s1 _ _ ed0
    replace ea1 := s1 _ _ ea1
    replace ed1 := s1 _ _ ed1
    replace ea2 := s1 _ _ ea2
    replace ed2 := s1 _ _ ed2
    replace ea3 := s1 _ _ ea3
    replace ed3 := s1 _ _ ed3
    replace ea4 := s1 _ _ ea4
    replace ed4 := s1 _ _ ed4
    replace ea5 := s1 _ _ ea5
    replace ea6 := s1 _ _ ea6
    replace ea7 := s1 _ _ ea7
    replace ed7 := s1 _ _ ed7
    replace ea8 := s1 _ _ ea8
    replace ed8 := s1 _ _ ed8
    replace ea9 := s1 _ _ ea9
    replace ed9 := s1 _ _ ed9
    replace ea10 := s1 _ _ ea10
    replace ed10 := s1 _ _ ed10
    replace ea11 := s1 _ _ ea11
    replace ea12 := s1 _ _ ea12
    replace ed12 := s1 _ _ ed12
    replace sH := sH.trans s1
    clear s1 nl
    obtain ⟨K3, hK3⟩ : ∃ z, z = upd K2 l3 (.lst (([a0, a1, a2, a3, a4, a5, a6, a7, a8, a9, a10, a11, a12] : List Addr).map V.ref)) := ⟨_, rfl⟩
    rw [← hK3] at et ea0 ed0 ea1 ed1 ea2 ed2 ea3 ed3 ea4 ed4 ea5 ea6 ea7 ed7 ea8 ed8 ea9 ed9 ea10 ed10 ea11 ea12 ed12 sH el3 ⊢
    clear hK3
    refine st_set [some (.int (m : Nat)), some (.ref t), some (.ref l3), none, none] ?_ rfl
    refine ⟨_, rfl, l3, _, _, V.ref a0, rfl, rfl, .inl (.inl el3), atI_nat (j := 0) rfl, a0, T.C_NoPerson, d0, _, _, rfl, ea0, T.kpt_NoPerson, T.no_NoPerson, ed0, rfl, _, rfl, l3, _, _, V.ref a1, rfl, rfl, .inl (.inl el3), atI_nat (j := 1) rfl, a1, T.C_NoNumber, d1, _, _, rfl, ea1, T.kpt_NoNumber, T.no_NoNumber, ed1, rfl, _, rfl, l3, _, _, V.ref a2, rfl, rfl, .inl (.inl el3), atI_nat (j := 2) rfl, a2, T.C_NoDeed, d2, _, _, rfl, ea2, T.kpt_NoDeed, T.no_NoDeed, ed2, rfl, _, rfl, l3, _, _, V.ref a3, rfl, rfl, .inl (.inl el3), atI_nat (j := 3) rfl, a3, T.C_OtherSize, d3, _, _, rfl, ea3, T.kpt_OtherSize, T.no_OtherSize, ed3, rfl, _, rfl, l3, _, _, V.ref a4, rfl, rfl, .inl (.inl el3), atI_nat (j := 4) rfl, a4, T.C_NotResult, d4, _, _, rfl, ea4, T.kpt_NotResult, T.no_NotResult, ed4, rfl, _, rfl, l3, _, _, V.ref a7, rfl, rfl, .inl (.inl el3), atI_nat (j := 7) rfl, a7, T.C_BadDeed, d7, _, _, rfl, ea7, T.kpt_BadDeed, T.no_BadDeed, ed7, rfl, _, rfl, l3, _, _, V.ref a8, rfl, rfl, .inl (.inl el3), atI_nat (j := 8) rfl, a8, T.C_BadText, d8, _, _, rfl, ea8, T.kpt_BadText, T.no_BadText, ed8, rfl, by show 7 ≤ sizeLine; decide, fun l4 nl => ?_⟩
    have s1 := same_new (o := .lst [V.int (m : Nat), V.int (m : Nat), V.int (m : Nat), V.int (2 * (m : Int)), V.ref t, V.int (m : Nat), V.int (m : Nat)]) nl
    have el4 : (upd K3 l4 (.lst [V.int (m : Nat), V.int (m : Nat), V.int (m : Nat), V.int (2 * (m : Int)), V.ref t, V.int (m : Nat), V.int (m : Nat)])) l4 = some (.lst [V.int (m : Nat), V.int (m : Nat), V.int (m : Nat), V.int (2 * (m : Int)), V.ref t, V.int (m : Nat), V.int (m : Nat)]) := upd_same
    replace et := s1 _ _ et
    replace ea0 := s1 _ _ ea0
    replace ed0 := s1 _ _ ed0
    replace ea1 := s1 _ _ ea1
    replace ed1 := s1 _ _ ed1
    replace ea2 := s1 _ _ ea2
    replace ed2 := s1 _ _ ed2
    replace ea3 := s1 _ _ ea3
    replace ed3 := s1 _ _ ed3
    replace ea4 := s1 _ _ ea4
    replace ed4 := s1 _ _ ed4
    replace ea5 := s1 _ _ ea5
    replace ea6 := s1 _ _ ea6
    replace ea7 := s1 _ _ ea7
    replace ed7 := s1 _ _ ed7
    replace ea8 := s1 _ _ ea8
    replace ed8 := s1 _ _ ed8
    replace ea9 := s1 _ _ ea9
    replace ed9 := s1 _ _ ed9
    replace ea10 := s1 _ _ ea10
    replace ed10 := s1 _ _ ed10
    replace ea11 := s1 _ _ ea11
    replace ea12 := s1 _ _ ea12
    replace ed12 := s1 _ _ ed12
    replace el3 := s1 _ _ el3
    replace sH := sH.trans s1
    clear s1 nl
    obtain ⟨K4, hK4⟩ : ∃ z, z = upd K3 l4 (.lst [V.int (m : Nat), V.int (m : Nat), V.int (m : Nat), V.int (2 * (m : Int)), V.ref t, V.int (m : Nat), V.int (m : Nat)]) := ⟨_, rfl⟩
    rw [← hK4] at et ea0 ed0 ea1 ed1 ea2 ed2 ea3 ed3 ea4 ed4 ea5 ea6 ea7 ed7 ea8 ed8 ea9 ed9 ea10 ed10 ea11 ea12 ed12 el3 sH el4 ⊢
    clear hK4
    refine st_set [some (.int (m : Nat)), some (.ref t), some (.ref l3), some (.ref l4), none] ?_ rfl
    refine ⟨_, rfl, _, rfl, _, rfl, _, rfl, 2, (m : Int), rfl, rfl, .inl ⟨by decide, by decide⟩, _, rfl, _, rfl, _, rfl, _, rfl, _, rfl, _, rfl, 2, (m : Int), rfl, rfl, .inl ⟨by decide, by decide⟩, by show 10 ≤ sizeLine; decide, fun l5 nl => ?_⟩
    have s1 := same_new (o := .lst [V.int (m : Nat), V.int (m : Nat), V.int (m : Nat), V.int (2 * (m : Int)), V.ref t, V.int (m : Nat), V.int (m : Nat), V.int (m : Nat), V.int (m : Nat), V.int (2 * (m : Int))]) nl
    have el5 : (upd K4 l5 (.lst [V.int (m : Nat), V.int (m : Nat), V.int (m : Nat), V.int (2 * (m : Int)), V.ref t, V.int (m : Nat), V.int (m : Nat), V.int (m : Nat), V.int (m : Nat), V.int (2 * (m : Int))])) l5 = some (.lst [V.int (m : Nat), V.int (m : Nat), V.int (m : Nat), V.int (2 * (m : Int)), V.ref t, V.int (m : Nat), V.int (m : Nat), V.int (m : Nat), V.int (m : Nat), V.int (2 * (m : Int))]) := upd_same
    replace et := s1 _ _ et
    replace ea0 := s1 _ _ ea0
    replace ed0 := s1 _ _ ed0
    replace ea1 := s1 _ _ ea1
    replace ed1 := s1 _ _ ed1
    replace ea2 := s1 _ _ ea2
    replace ed2 := s1 _ _ ed2
    replace ea3 := s1 _ _ ea3
    replace ed3 := s1 _ _ ed3
    replace ea4 := s1 _ _ ea4
    replace ed4 := s1 _ _ ed4
    replace ea5 := s1 _ _ ea5
    replace ea6 := s1 _ _ ea6
    replace ea7 := s1 _ _ ea7
    replace ed7 := s1 _ _ ed7
    replace ea8 := s1 _ _ ea8
    replace ed8 := s1 _ _ ed8
    replace ea9 := s1 _ _ ea9
    replace ed9 := s1 _ _ ed9
    replace ea10 := s1 _ _ ea10
    replace ed10 := s1 _ _ ed10
    replace ea11 := s1 _ _ ea11
    replace ea12 := s1 _ _ ea12
    replace ed12 := s1 _ _ ed12
    replace el3 := s1 _ _ el3
    replace el4 := s1 _ _ el4
    replace sH := sH.trans s1
    clear s1 nl
    obtain ⟨K5, hK5⟩ : ∃ z, z = upd K4 l5 (.lst [V.int (m : Nat), V.int (m : Nat), V.int (m : Nat), V.int (2 * (m : Int)), V.ref t, V.int (m : Nat), V.int (m : Nat), V.int (m : Nat), V.int (m : Nat), V.int (2 * (m : Int))]) := ⟨_, rfl⟩
    rw [← hK5] at et ea0 ed0 ea1 ed1 ea2 ed2 ea3 ed3 ea4 ed4 ea5 ea6 ea7 ed7 ea8 ed8 ea9 ed9 ea10 ed10 ea11 ea12 ed12 el3 el4 sH el5 ⊢
    clear hK5
    refine st_set [some (.int (m : Nat)), some (.ref t), some (.ref l3), some (.ref l4), some (.ref l5)] ?_ rfl
    refine ⟨_, rfl, _, rfl, l3, _, _, V.ref a9, rfl, rfl, .inl (.inl el3), atI_nat (j := 9) rfl, a9, T.C_BadLine, d9, _, _, rfl, ea9, T.kpt_BadLine, T.no_BadLine, ed9, rfl, _, rfl, l3, _, _, V.ref a10, rfl, rfl, .inl (.inl el3), atI_nat (j := 10) rfl, a10, T.C_NotSettled, d10, _, _, rfl, ea10, T.kpt_NotSettled, T.no_NotSettled, ed10, rfl, _, rfl, l3, _, _, V.ref a12, rfl, rfl, .inl (.inl el3), atI_nat (j := 12) rfl, a12, T.C_TooMany, d12, _, _, rfl, ea12, T.kpt_TooMany, T.no_TooMany, ed12, rfl, by show 3 ≤ sizeLine; decide, fun l6 nl => ?_⟩
    have s1 := same_new (o := .lst [V.int (m : Nat), V.int (m : Nat), V.int (2 * (m : Int))]) nl
    have el6 : (upd K5 l6 (.lst [V.int (m : Nat), V.int (m : Nat), V.int (2 * (m : Int))])) l6 = some (.lst [V.int (m : Nat), V.int (m : Nat), V.int (2 * (m : Int))]) := upd_same
    replace et := s1 _ _ et
    replace ea0 := s1 _ _ ea0
    replace ed0 := s1 _ _ ed0
    replace ea1 := s1 _ _ ea1
    replace ed1 := s1 _ _ ed1
    replace ea2 := s1 _ _ ea2
    replace ed2 := s1 _ _ ed2
    replace ea3 := s1 _ _ ea3
    replace ed3 := s1 _ _ ed3
    replace ea4 := s1 _ _ ea4
    replace ed4 := s1 _ _ ed4
    replace ea5 := s1 _ _ ea5
    replace ea6 := s1 _ _ ea6
    replace ea7 := s1 _ _ ea7
    replace ed7 := s1 _ _ ed7
    replace ea8 := s1 _ _ ea8
    replace ed8 := s1 _ _ ed8
    replace ea9 := s1 _ _ ea9
    replace ed9 := s1 _ _ ed9
    replace ea10 := s1 _ _ ea10
    replace ed10 := s1 _ _ ed10
    replace ea11 := s1 _ _ ea11
    replace ea12 := s1 _ _ ea12
    replace ed12 := s1 _ _ ed12
    replace el3 := s1 _ _ el3
    replace el4 := s1 _ _ el4
    replace el5 := s1 _ _ el5
    replace sH := sH.trans s1
    clear s1 nl
    obtain ⟨K6, hK6⟩ : ∃ z, z = upd K5 l6 (.lst [V.int (m : Nat), V.int (m : Nat), V.int (2 * (m : Int))]) := ⟨_, rfl⟩
    rw [← hK6] at et ea0 ed0 ea1 ed1 ea2 ed2 ea3 ed3 ea4 ed4 ea5 ea6 ea7 ed7 ea8 ed8 ea9 ed9 ea10 ed10 ea11 ea12 ed12 el3 el4 el5 sH el6 ⊢
    clear hK6
    refine ⟨l4, l6, _, _, rfl, rfl, el4, el6, by show 7 + 3 ≤ sizeLine; decide, fun l7 nl => ?_⟩
    have s1 := same_new (o := .lst ([V.int (m : Nat), V.int (m : Nat), V.int (m : Nat), V.int (2 * (m : Int)), V.ref t, V.int (m : Nat), V.int (m : Nat)] ++ [V.int (m : Nat), V.int (m : Nat), V.int (2 * (m : Int))])) nl
    have el7 : (upd K6 l7 (.lst ([V.int (m : Nat), V.int (m : Nat), V.int (m : Nat), V.int (2 * (m : Int)), V.ref t, V.int (m : Nat), V.int (m : Nat)] ++ [V.int (m : Nat), V.int (m : Nat), V.int (2 * (m : Int))]))) l7 = some (.lst [V.int (m : Nat), V.int (m : Nat), V.int (m : Nat), V.int (2 * (m : Int)), V.ref t, V.int (m : Nat), V.int (m : Nat), V.int (m : Nat), V.int (m : Nat), V.int (2 * (m : Int))]) := upd_same
    clear el4 el6
    replace et := s1 _ _ et
    replace ea0 := s1 _ _ ea0
    replace ed0 := s1 _ _ ed0
    replace ea1 := s1 _ _ ea1
    replace ed1 := s1 _ _ ed1
    replace ea2 := s1 _ _ ea2
    replace ed2 := s1 _ _ ed2
    replace ea3 := s1 _ _ ea3
    replace ed3 := s1 _ _ ed3
    replace ea4 := s1 _ _ ea4
    replace ed4 := s1 _ _ ed4
    replace ea5 := s1 _ _ ea5
    replace ea6 := s1 _ _ ea6
    replace ea7 := s1 _ _ ea7
    replace ed7 := s1 _ _ ed7
    replace ea8 := s1 _ _ ea8
    replace ed8 := s1 _ _ ed8
    replace ea9 := s1 _ _ ea9
    replace ed9 := s1 _ _ ed9
    replace ea10 := s1 _ _ ea10
    replace ed10 := s1 _ _ ed10
    replace ea11 := s1 _ _ ea11
    replace ea12 := s1 _ _ ea12
    replace ed12 := s1 _ _ ed12
    replace el3 := s1 _ _ el3
    replace el5 := s1 _ _ el5
    replace sH := sH.trans s1
    clear s1 nl
    obtain ⟨K7, hK7⟩ : ∃ z, z = upd K6 l7 (.lst ([V.int (m : Nat), V.int (m : Nat), V.int (m : Nat), V.int (2 * (m : Int)), V.ref t, V.int (m : Nat), V.int (m : Nat)] ++ [V.int (m : Nat), V.int (m : Nat), V.int (2 * (m : Int))])) := ⟨_, rfl⟩
    rw [← hK7] at et ea0 ed0 ea1 ed1 ea2 ed2 ea3 ed3 ea4 ed4 ea5 ea6 ea7 ed7 ea8 ed8 ea9 ed9 ea10 ed10 ea11 ea12 ed12 el3 el5 sH el7 ⊢
    clear hK7
    refine st_set [some (.int (m : Nat)), some (.ref t), some (.ref l3), some (.ref l7), some (.ref l5)] ?_ rfl
    have hd : (PyData.list [.int (m : Nat), .int (m : Nat), .int (m : Nat), .int (2 * (m : Int)), .tuple [.int x, .int y], .int (m : Nat), .int (m : Nat), .int (m : Nat), .int (m : Nat), .int (2 * (m : Int))]).depth < 4 := by simp [PyData.depth, PyData.depthAll]
    have hw : narrow (PyData.list [.int (m : Nat), .int (m : Nat), .int (m : Nat), .int (2 * (m : Int)), .tuple [.int x, .int y], .int (m : Nat), .int (m : Nat), .int (m : Nat), .int (m : Nat), .int (2 * (m : Int))]) := by simp [narrow, narrowAll]
    refine ⟨_, rfl, _, rfl, _, _, PyData.list [.int (m : Nat), .int (m : Nat), .int (m : Nat), .int (2 * (m : Int)), .tuple [.int x, .int y], .int (m : Nat), .int (m : Nat), .int (m : Nat), .int (m : Nat), .int (2 * (m : Int))], rfl, .lst (.inl (.inl el7)) (.cons (.int _) (.cons (.int _) (.cons (.int _) (.cons (.int _) (.cons (.tup (.inl (.inl et)) (.cons (.int _) (.cons (.int _) .nil))) (.cons (.int _) (.cons (.int _) (.cons (.int _) (.cons (.int _) (.cons (.int _) .nil)))))))))), .lst (.inl (.inl el5)) (.cons (.int _) (.cons (.int _) (.cons (.int _) (.cons (.int _) (.cons (.tup (.inl (.inl et)) (.cons (.int _) (.cons (.int _) .nil))) (.cons (.int _) (.cons (.int _) (.cons (.int _) (.cons (.int _) (.cons (.int _) .nil)))))))))), hd, hw, fun K8 s1 => ⟨true, rfl, iteN ?_⟩⟩
    clear el7
    replace et := s1 _ _ et
    replace ea0 := s1 _ _ ea0
    replace ed0 := s1 _ _ ed0
    replace ea1 := s1 _ _ ea1
    replace ed1 := s1 _ _ ed1
    replace ea2 := s1 _ _ ea2
    replace ed2 := s1 _ _ ed2
    replace ea3 := s1 _ _ ea3
    replace ed3 := s1 _ _ ed3
    replace ea4 := s1 _ _ ea4
    replace ed4 := s1 _ _ ed4
    replace ea5 := s1 _ _ ea5
    replace ea6 := s1 _ _ ea6
    replace ea7 := s1 _ _ ea7
    replace ed7 := s1 _ _ ed7
    replace ea8 := s1 _ _ ea8
    replace ed8 := s1 _ _ ed8
    replace ea9 := s1 _ _ ea9
    replace ed9 := s1 _ _ ed9
    replace ea10 := s1 _ _ ea10
    replace ed10 := s1 _ _ ed10
    replace ea11 := s1 _ _ ea11
    replace ea12 := s1 _ _ ea12
    replace ed12 := s1 _ _ ed12
    replace el3 := s1 _ _ el3
    replace el5 := s1 _ _ el5
    replace sH := sH.trans s1
    clear s1
    refine ⟨_, rfl, by show 13 ≤ sizeLine; decide, fun l8 nl => ?_⟩
    have s1 := same_new (o := .lst (nv bsE)) nl
    have el8 : (upd K8 l8 (.lst (nv bsE))) l8 = some (.lst (nv bsE)) := upd_same
    replace et := s1 _ _ et
    replace ea0 := s1 _ _ ea0
    replace ed0 := s1 _ _ ed0
    replace ea1 := s1 _ _ ea1
    replace ed1 := s1 _ _ ed1
    replace ea2 := s1 _ _ ea2
    replace ed2 := s1 _ _ ed2
    replace ea3 := s1 _ _ ea3
    replace ed3 := s1 _ _ ed3
    replace ea4 := s1 _ _ ea4
    replace ed4 := s1 _ _ ed4
    replace ea5 := s1 _ _ ea5
    replace ea6 := s1 _ _ ea6
    replace ea7 := s1 _ _ ea7
    replace ed7 := s1 _ _ ed7
    replace ea8 := s1 _ _ ea8
    replace ed8 := s1 _ _ ed8
    replace ea9 := s1 _ _ ea9
    replace ed9 := s1 _ _ ed9
    replace ea10 := s1 _ _ ea10
    replace ed10 := s1 _ _ ed10
    replace ea11 := s1 _ _ ea11
    replace ea12 := s1 _ _ ea12
    replace ed12 := s1 _ _ ed12
    replace el3 := s1 _ _ el3
    replace el5 := s1 _ _ el5
    replace sH := sH.trans s1
    have hEr : ∀ i e, ([a0, a1, a2, a3, a4, a5, a6, a7, a8, a9, a10, a11, a12] : List Addr)[i]? = some e → Er T (upd K8 l8 (.lst (nv bsE))) e i
      | 0, _, h => by cases h; exact ⟨_, _, rfl, ⟨ea0, .inr ⟨_, _, rfl, ed0⟩⟩⟩
      | 1, _, h => by cases h; exact ⟨_, _, rfl, ⟨ea1, .inr ⟨_, _, rfl, ed1⟩⟩⟩
      | 2, _, h => by cases h; exact ⟨_, _, rfl, ⟨ea2, .inr ⟨_, _, rfl, ed2⟩⟩⟩
      | 3, _, h => by cases h; exact ⟨_, _, rfl, ⟨ea3, .inr ⟨_, _, rfl, ed3⟩⟩⟩
      | 4, _, h => by cases h; exact ⟨_, _, rfl, ⟨ea4, .inr ⟨_, _, rfl, ed4⟩⟩⟩
      | 5, _, h => by cases h; exact ⟨_, _, rfl, ⟨ea5, .inl rfl⟩⟩
      | 6, _, h => by cases h; exact ⟨_, _, rfl, ⟨ea6, .inl rfl⟩⟩
      | 7, _, h => by cases h; exact ⟨_, _, rfl, ⟨ea7, .inr ⟨_, _, rfl, ed7⟩⟩⟩
      | 8, _, h => by cases h; exact ⟨_, _, rfl, ⟨ea8, .inr ⟨_, _, rfl, ed8⟩⟩⟩
      | 9, _, h => by cases h; exact ⟨_, _, rfl, ⟨ea9, .inr ⟨_, _, rfl, ed9⟩⟩⟩
      | 10, _, h => by cases h; exact ⟨_, _, rfl, ⟨ea10, .inr ⟨_, _, rfl, ed10⟩⟩⟩
      | 11, _, h => by cases h; exact ⟨_, _, rfl, ⟨ea11, .inl rfl⟩⟩
      | 12, _, h => by cases h; exact ⟨_, _, rfl, ⟨ea12, .inr ⟨_, _, rfl, ed12⟩⟩⟩
      | n + 13, _, h => by cases h
    refine ⟨l3, l8, _, rfl, el3, rfl, hEr, el8, fun K9 s2 => ⟨true, rfl, iteN ?_⟩⟩
    clear hEr el8 s1 nl
    clear ea0
    clear ed0
    clear ea1
    clear ed1
    clear ea2
    clear ed2
    clear ea3
    clear ed3
    clear ea4
    clear ed4
    clear ea5
    clear ea6
    clear ea7
    clear ed7
    clear ea8
    clear ed8
    clear ea9
    clear ed9
    clear ea10
    clear ed10
    clear ea11
    clear ea12
    clear ed12
    clear el3
    replace et := s2 _ _ et
    replace el5 := s2 _ _ el5
    replace sH := sH.trans s2
    clear s2
    refine ⟨_, rfl, _, rfl, flyV fun M0 a d s1 ea ed => ?_⟩
    replace et := s1 _ _ et
    replace el5 := s1 _ _ el5
    replace sH := sH.trans s1
    refine ⟨a, T.C_NoPerson, d, _, _, rfl, ea, T.kpt_NoPerson, T.no_NoPerson, ed, rfl, ?_⟩
    clear ea ed s1
    refine ⟨_, rfl, _, rfl, flyV fun M1 a d s1 ea ed => ?_⟩
    replace et := s1 _ _ et
    replace el5 := s1 _ _ el5
    replace sH := sH.trans s1
    refine ⟨a, T.C_NoNumber, d, _, _, rfl, ea, T.kpt_NoNumber, T.no_NoNumber, ed, rfl, ?_⟩
    clear ea ed s1
    refine ⟨_, rfl, _, rfl, flyV fun M2 a d s1 ea ed => ?_⟩
    replace et := s1 _ _ et
    replace el5 := s1 _ _ el5
    replace sH := sH.trans s1
    refine ⟨a, T.C_NoDeed, d, _, _, rfl, ea, T.kpt_NoDeed, T.no_NoDeed, ed, rfl, ?_⟩
    clear ea ed s1
    refine ⟨by show 3 ≤ sizeLine; decide, fun p0 nl => ?_⟩
    have s1 := same_new (o := .lst [V.int (m : Nat), V.int (m : Nat), V.int (m : Nat)]) nl
    have ep0 : (upd M2 p0 (.lst [V.int (m : Nat), V.int (m : Nat), V.int (m : Nat)])) p0 = some (.lst [V.int (m : Nat), V.int (m : Nat), V.int (m : Nat)]) := upd_same
    replace et := s1 _ _ et
    replace el5 := s1 _ _ el5
    replace sH := sH.trans s1
    clear s1 nl
    obtain ⟨N0, hN0⟩ : ∃ z, z = upd M2 p0 (.lst [V.int (m : Nat), V.int (m : Nat), V.int (m : Nat)]) := ⟨_, rfl⟩
    rw [← hN0] at et el5 sH ep0 ⊢
    clear hN0
    refine st_set [some (.int (m : Nat)), some (.ref t), some (.ref l3), some (.ref p0), some (.ref l5)] ?_ rfl
    refine ⟨_, rfl, _, rfl, 2, (m : Int), rfl, rfl, .inl ⟨by decide, by decide⟩, _, rfl, flyV fun M3 a d s1 ea ed => ?_⟩
    replace et := s1 _ _ et
    replace el5 := s1 _ _ el5
    replace ep0 := s1 _ _ ep0
    replace sH := sH.trans s1
    refine ⟨a, T.C_OtherSize, d, _, _, rfl, ea, T.kpt_OtherSize, T.no_OtherSize, ed, rfl, ?_⟩
    clear ea ed s1
    refine ⟨_, rfl, t, _, rfl, et, flyV fun M4 a d s1 ea ed => ?_⟩
    replace et := s1 _ _ et
    replace el5 := s1 _ _ el5
    replace ep0 := s1 _ _ ep0
    replace sH := sH.trans s1
    refine ⟨a, T.C_NotResult, d, _, _, rfl, ea, T.kpt_NotResult, T.no_NotResult, ed, rfl, ?_⟩
    clear ea ed s1
    refine ⟨_, rfl, _, rfl, flyV fun M7 a d s1 ea ed => ?_⟩
    replace et := s1 _ _ et
    replace el5 := s1 _ _ el5
    replace ep0 := s1 _ _ ep0
    replace sH := sH.trans s1
    refine ⟨a, T.C_BadDeed, d, _, _, rfl, ea, T.kpt_BadDeed, T.no_BadDeed, ed, rfl, ?_⟩
    clear ea ed s1
    refine ⟨by show 3 ≤ sizeLine; decide, fun p1 nl => ?_⟩
    have s1 := same_new (o := .lst [V.int (2 * (m : Int)), V.ref t, V.int (m : Nat)]) nl
    have ep1 : (upd M7 p1 (.lst [V.int (2 * (m : Int)), V.ref t, V.int (m : Nat)])) p1 = some (.lst [V.int (2 * (m : Int)), V.ref t, V.int (m : Nat)]) := upd_same
    replace et := s1 _ _ et
    replace el5 := s1 _ _ el5
    replace ep0 := s1 _ _ ep0
    replace sH := sH.trans s1
    clear s1 nl
    obtain ⟨N1, hN1⟩ : ∃ z, z = upd M7 p1 (.lst [V.int (2 * (m : Int)), V.ref t, V.int (m : Nat)]) := ⟨_, rfl⟩
    rw [← hN1] at et el5 ep0 sH ep1 ⊢
    clear hN1
    refine ⟨p0, p1, _, _, rfl, rfl, ep0, ep1, by show 3 + 3 ≤ sizeLine; decide, fun r1 nl => ?_⟩
    have s1 := same_new (o := .lst ([V.int (m : Nat), V.int (m : Nat), V.int (m : Nat)] ++ [V.int (2 * (m : Int)), V.ref t, V.int (m : Nat)])) nl
    have er1 : (upd N1 r1 (.lst ([V.int (m : Nat), V.int (m : Nat), V.int (m : Nat)] ++ [V.int (2 * (m : Int)), V.ref t, V.int (m : Nat)]))) r1 = some (.lst ([V.int (m : Nat), V.int (m : Nat), V.int (m : Nat)] ++ [V.int (2 * (m : Int)), V.ref t, V.int (m : Nat)])) := upd_same
    clear ep0 ep1
    replace et := s1 _ _ et
    replace el5 := s1 _ _ el5
    replace sH := sH.trans s1
    clear s1 nl
    obtain ⟨P1, hP1⟩ : ∃ z, z = upd N1 r1 (.lst ([V.int (m : Nat), V.int (m : Nat), V.int (m : Nat)] ++ [V.int (2 * (m : Int)), V.ref t, V.int (m : Nat)])) := ⟨_, rfl⟩
    rw [← hP1] at et el5 sH er1 ⊢
    clear hP1
    refine st_set [some (.int (m : Nat)), some (.ref t), some (.ref l3), some (.ref r1), some (.ref l5)] ?_ rfl
    refine ⟨_, rfl, _, rfl, _, rfl, flyV fun M8 a d s1 ea ed => ?_⟩
    replace et := s1 _ _ et
    replace el5 := s1 _ _ el5
    replace er1 := s1 _ _ er1
    replace sH := sH.trans s1
    refine ⟨a, T.C_BadText, d, _, _, rfl, ea, T.kpt_BadText, T.no_BadText, ed, rfl, ?_⟩
    clear ea ed s1
    refine ⟨_, rfl, _, rfl, flyV fun M9 a d s1 ea ed => ?_⟩
    replace et := s1 _ _ et
    replace el5 := s1 _ _ el5
    replace er1 := s1 _ _ er1
    replace sH := sH.trans s1
    refine ⟨a, T.C_BadLine, d, _, _, rfl, ea, T.kpt_BadLine, T.no_BadLine, ed, rfl, ?_⟩
    clear ea ed s1
    refine ⟨_, rfl, _, rfl, flyV fun M10 a d s1 ea ed => ?_⟩
    replace et := s1 _ _ et
    replace el5 := s1 _ _ el5
    replace er1 := s1 _ _ er1
    replace sH := sH.trans s1
    refine ⟨a, T.C_NotSettled, d, _, _, rfl, ea, T.kpt_NotSettled, T.no_NotSettled, ed, rfl, ?_⟩
    clear ea ed s1
    refine ⟨by show 3 ≤ sizeLine; decide, fun p2 nl => ?_⟩
    have s1 := same_new (o := .lst [V.int (m : Nat), V.int (m : Nat), V.int (m : Nat)]) nl
    have ep2 : (upd M10 p2 (.lst [V.int (m : Nat), V.int (m : Nat), V.int (m : Nat)])) p2 = some (.lst [V.int (m : Nat), V.int (m : Nat), V.int (m : Nat)]) := upd_same
    replace et := s1 _ _ et
    replace el5 := s1 _ _ el5
    replace er1 := s1 _ _ er1
    replace sH := sH.trans s1
    clear s1 nl
    obtain ⟨N2, hN2⟩ : ∃ z, z = upd M10 p2 (.lst [V.int (m : Nat), V.int (m : Nat), V.int (m : Nat)]) := ⟨_, rfl⟩
    rw [← hN2] at et el5 er1 sH ep2 ⊢
    clear hN2
    refine ⟨r1, p2, _, _, rfl, rfl, er1, ep2, by show 6 + 3 ≤ sizeLine; decide, fun r2 nl => ?_⟩
    have s1 := same_new (o := .lst (([V.int (m : Nat), V.int (m : Nat), V.int (m : Nat)] ++ [V.int (2 * (m : Int)), V.ref t, V.int (m : Nat)]) ++ [V.int (m : Nat), V.int (m : Nat), V.int (m : Nat)])) nl
    have er2 : (upd N2 r2 (.lst (([V.int (m : Nat), V.int (m : Nat), V.int (m : Nat)] ++ [V.int (2 * (m : Int)), V.ref t, V.int (m : Nat)]) ++ [V.int (m : Nat), V.int (m : Nat), V.int (m : Nat)]))) r2 = some (.lst (([V.int (m : Nat), V.int (m : Nat), V.int (m : Nat)] ++ [V.int (2 * (m : Int)), V.ref t, V.int (m : Nat)]) ++ [V.int (m : Nat), V.int (m : Nat), V.int (m : Nat)])) := upd_same
    clear er1 ep2
    replace et := s1 _ _ et
    replace el5 := s1 _ _ el5
    replace sH := sH.trans s1
    clear s1 nl
    obtain ⟨P2, hP2⟩ : ∃ z, z = upd N2 r2 (.lst (([V.int (m : Nat), V.int (m : Nat), V.int (m : Nat)] ++ [V.int (2 * (m : Int)), V.ref t, V.int (m : Nat)]) ++ [V.int (m : Nat), V.int (m : Nat), V.int (m : Nat)])) := ⟨_, rfl⟩
    rw [← hP2] at et el5 sH er2 ⊢
    clear hP2
    refine st_set [some (.int (m : Nat)), some (.ref t), some (.ref l3), some (.ref r2), some (.ref l5)] ?_ rfl
    refine ⟨_, rfl, _, rfl, 2, (m : Int), rfl, rfl, .inl ⟨by decide, by decide⟩, _, rfl, flyV fun M12 a d s1 ea ed => ?_⟩
    replace et := s1 _ _ et
    replace el5 := s1 _ _ el5
    replace er2 := s1 _ _ er2
    replace sH := sH.trans s1
    refine ⟨a, T.C_TooMany, d, _, _, rfl, ea, T.kpt_TooMany, T.no_TooMany, ed, rfl, ?_⟩
    clear ea ed s1
    refine ⟨by show 1 ≤ sizeLine; decide, fun p3 nl => ?_⟩
    have s1 := same_new (o := .lst [V.int (2 * (m : Int))]) nl
    have ep3 : (upd M12 p3 (.lst [V.int (2 * (m : Int))])) p3 = some (.lst [V.int (2 * (m : Int))]) := upd_same
    replace et := s1 _ _ et
    replace el5 := s1 _ _ el5
    replace er2 := s1 _ _ er2
    replace sH := sH.trans s1
    clear s1 nl
    obtain ⟨N3, hN3⟩ : ∃ z, z = upd M12 p3 (.lst [V.int (2 * (m : Int))]) := ⟨_, rfl⟩
    rw [← hN3] at et el5 er2 sH ep3 ⊢
    clear hN3
    refine ⟨r2, p3, _, _, rfl, rfl, er2, ep3, by show 9 + 1 ≤ sizeLine; decide, fun r3 nl => ?_⟩
    have s1 := same_new (o := .lst ((([V.int (m : Nat), V.int (m : Nat), V.int (m : Nat)] ++ [V.int (2 * (m : Int)), V.ref t, V.int (m : Nat)]) ++ [V.int (m : Nat), V.int (m : Nat), V.int (m : Nat)]) ++ [V.int (2 * (m : Int))])) nl
    have er3 : (upd N3 r3 (.lst ((([V.int (m : Nat), V.int (m : Nat), V.int (m : Nat)] ++ [V.int (2 * (m : Int)), V.ref t, V.int (m : Nat)]) ++ [V.int (m : Nat), V.int (m : Nat), V.int (m : Nat)]) ++ [V.int (2 * (m : Int))]))) r3 = some (.lst ((([V.int (m : Nat), V.int (m : Nat), V.int (m : Nat)] ++ [V.int (2 * (m : Int)), V.ref t, V.int (m : Nat)]) ++ [V.int (m : Nat), V.int (m : Nat), V.int (m : Nat)]) ++ [V.int (2 * (m : Int))])) := upd_same
    clear er2 ep3
    replace et := s1 _ _ et
    replace el5 := s1 _ _ el5
    replace sH := sH.trans s1
    clear s1 nl
    obtain ⟨P3, hP3⟩ : ∃ z, z = upd N3 r3 (.lst ((([V.int (m : Nat), V.int (m : Nat), V.int (m : Nat)] ++ [V.int (2 * (m : Int)), V.ref t, V.int (m : Nat)]) ++ [V.int (m : Nat), V.int (m : Nat), V.int (m : Nat)]) ++ [V.int (2 * (m : Int))])) := ⟨_, rfl⟩
    rw [← hP3] at et el5 sH er3 ⊢
    clear hP3
    refine ⟨_, rfl, _, _, PyData.list [.int (m : Nat), .int (m : Nat), .int (m : Nat), .int (2 * (m : Int)), .tuple [.int x, .int y], .int (m : Nat), .int (m : Nat), .int (m : Nat), .int (m : Nat), .int (2 * (m : Int))], rfl, .lst (.inl (.inl er3)) (.cons (.int _) (.cons (.int _) (.cons (.int _) (.cons (.int _) (.cons (.tup (.inl (.inl et)) (.cons (.int _) (.cons (.int _) .nil))) (.cons (.int _) (.cons (.int _) (.cons (.int _) (.cons (.int _) (.cons (.int _) .nil)))))))))), .lst (.inl (.inl el5)) (.cons (.int _) (.cons (.int _) (.cons (.int _) (.cons (.int _) (.cons (.tup (.inl (.inl et)) (.cons (.int _) (.cons (.int _) .nil))) (.cons (.int _) (.cons (.int _) (.cons (.int _) (.cons (.int _) (.cons (.int _) .nil)))))))))), hd, hw, fun K8 s1 => q _ (sH.trans s1)⟩
end
end Pc
namespace Pc
open PySem PySem.Spec PyProof.Rows L2 RZ
section
variable {P : Program} {w : World} {K : PySem.W.Frag} {mg : Str → Option Value} {base : Heap}
/-! ### the law -/
def spLaw (K : PySem.W.Frag) : Sp := fun vs H Q _ => ∃ (a : Addr) (ns : List Int), vs = [.ref a] ∧ SqL K H a (ns.map V.int) ∧ ns.length ≤ 63 ∧ ∀ H', Q (.bl true) H'
abbrev cel (i : Int) : Nat := i.natAbs % 39 + 1
theorem cel_of (i : Int) : ((if i < 0 then -i else i) % 39 + 1) = ((cel i : Nat) : Int) := by
  unfold cel
  split <;> omega
theorem ok_law (T : Env K mg) {f : Addr} {fd : FuncData} (F : Fun K "law" "law" s_law f fd) : FnOk P w K mg base CX0 6 f fd ["_law_script"] (spLaw K) := by
  have GR : FnOk P w K mg base CX0 5 T.f_right T.d_right ["_law_cell", "_law_duo"] (spRight K) := ok_right T
  refine F.ok sc_law (fun vs H Q E h => ?_) (fun cdv A outer s H vs Q E hr h => ?_)
  · obtain ⟨a, ns, rfl, _⟩ := h
    rfl
  · obtain ⟨a, ns, rfl, hS, hn, q⟩ := h
    refine ⟨_, pss_cons (ps_set (i := 1) sc_law.nd rfl (.inl rfl) (pe_op op_cat (pe_lc (own := [("_law_cell", 2)]) (g := gName 2) (tt := tYes) rfl sc_law.nd (pi_list (pe_slice sl_list (pv 0) po_none (po_some pe_int))) (blkOk_by (N := N_law) (sc := (defScope s_law)) (by decide +kernel)) (fun _ _ _ _ _ => (pg_name (i := 2) sc_law.nd rfl (.inl rfl))) (fun _ _ _ _ _ => pts_nil) (fun _ _ _ _ _ => pe_op op_add (pe_op op_mod (pe_callB call_abs (by rfl) T.n_abs (by decide +kernel) (pa_cons (pv 2) pa_nil)) pe_int) pe_int)) (pe_lst (pa_cons pe_int pa_nil)))) <|
      pss_one (ps_ret (pe_callB (cr_all rfl) (by rfl) T.n_all (by decide +kernel) (pa_cons (pe_lc (own := [("_law_k", 3), ("_law_cell", 2)]) (g := gTup K 2 (gCons (gName 3) (gCons (gName 2) (gNil)))) (tt := tYes) (by rfl) sc_law.nd (pi_enum (by rfl) T.n_enumerate (pa_cons (pv 1) pa_nil)) (blkOk_by (N := N_law) (sc := (defScope s_law)) (by decide +kernel)) (fun _ _ _ _ _ => pg_tup (by rfl) (pgs_cons (pg_name (i := 3) sc_law.nd rfl (.inl rfl)) (pgs_cons (pg_name (i := 2) sc_law.nd rfl (.inl rfl)) (pgs_nil)))) (fun _ _ _ _ _ => pts_nil) (fun _ _ _ _ _ => (pe_call GR hr (by rfl) T.g_right T.F_right.kp T.b_right .nil pass0 (pa_cons (pv 2) (pa_cons (pe_tup (pa_cons (pe_op op_sub (pv 2) pe_int) (pa_cons (pe_op op_add (pv 2) (pv 3)) pa_nil))) pa_nil))))) pa_nil))), ?_⟩
    obtain ⟨ms, e1, e2⟩ := cut_ints ns none (some 8)
    have f2 : ms.length ≤ 63 := by
      rw [e2, List.length_take, List.length_drop]
      omega
    refine ⟨.ref a, rfl, 8, rfl, a, ns.map V.int, rfl, hS, fun c nc => ?_⟩
    rw [e1]
    have sc : Same H (upd H c (.lst (ms.map V.int))) := same_new nc
    have ec : (upd H c (.lst (ms.map V.int))) c = some (.lst (ms.map V.int)) := upd_same
    revert sc ec
    generalize upd H c (.lst (ms.map V.int)) = H1
    intro sc ec
    refine ⟨c, rfl, ⟨_, .inl (.inl ec)⟩, fun D nD => ?_⟩
    refine lc_list (xs := ms.map V.int) (fun j J => Same H1 J ∧ J D = some (.lst (nv ((ms.take j).map cel)))) ⟨same_new nD, upd_same⟩ (fun j J _ h => .inl (.inl (h.1 _ _ ec))) (fun j v J hv h => ?_) (fun J h => ?_)
    · obtain ⟨sm, eD⟩ := h
      rw [List.getElem?_map] at hv
      obtain ⟨i, ei, rfl⟩ := Option.map_eq_some_iff.mp hv
      refine ⟨rfl, yes_if ⟨_, rfl, i, rfl, _, 39, rfl, rfl, (by show (0 : Int) < 39; decide), _, 1, rfl, rfl, _, eD, ?_, fun z o hz => by rw [upd_ne (ne_of_none hz nD)]; exact sm _ _ hz, ?_⟩⟩
      · rw [nv_length, List.length_map]; exact small1000 (by rw [List.length_take]; omega)
      · rw [upd_same, List.take_add_one, ei, List.map_append]
        show some (HO.lst (_ ++ [V.int ((if i < 0 then -i else i) % 39 + 1)])) = _
        rw [cel_of]
        unfold nv
        rw [List.map_append]; rfl
    obtain ⟨sm, eD⟩ := h
    rw [List.length_map, List.take_length] at eD
    refine ⟨by show 1 ≤ sizeLine; decide, fun l nl => ?_⟩
    refine ⟨D, l, _, _, rfl, rfl, same_new nl _ _ eD, upd_same, by rw [nv_length, List.length_map]; exact Nat.le_of_lt (small1000 (by show _ + 1 ≤ 1000; omega)), fun g ng => ?_⟩
    obtain ⟨cs, hcs⟩ : ∃ cs, cs = ms.map cel ++ [1] := ⟨_, rfl⟩
    have ecs : nv (ms.map cel) ++ [V.int 1] = nv cs := by rw [hcs]; unfold nv; rw [List.map_append]; rfl
    have hcl : cs.length ≤ 64 := by rw [hcs, List.length_append, List.length_map]; show _ + 1 ≤ 64; omega
    have hc : ∀ c ∈ cs, c ≤ 100 := fun c hm => by
      rw [hcs] at hm
      rcases List.mem_append.mp hm with e | e
      · obtain ⟨i, _, rfl⟩ := List.mem_map.mp e
        show i.natAbs % 39 + 1 ≤ 100
        omega
      · rw [List.mem_singleton.mp e]; decide
    rw [ecs]
    have eg : (upd (upd J l (.lst [V.int 1])) g (.lst (nv cs))) g = some (.lst (nv cs)) := upd_same
    revert eg
    generalize upd (upd J l (.lst [V.int 1])) g (.lst (nv cs)) = J2
    intro eg
    refine st_set [some (.ref a), some (.ref g), none, none] ?_ rfl
    refine ⟨_, rfl, g, _, rfl, .inl (.inl eg), fun W nW => ?_⟩
    refine lc_it (walk_enum (xs := nv cs)) (fun i J' => Same J2 J' ∧ J' W = some (.lst (List.replicate i (.bl true)))) ⟨same_new nW, upd_same⟩ (fun i J' _ h => .inl (.inl (h.1 _ _ eg))) (fun i x Jx J' hi h y => ?_) (fun J' h => ?_)
    · obtain ⟨smx, eW⟩ := h
      obtain ⟨tp, v1, v2, rfl, ntp, rfl, g1, g2⟩ := y
      have ev1 : v1 = .int (i : Nat) := (Option.some.inj g1).symm
      have g2' : (nv cs)[i]? = some v2 := g2
      unfold nv at g2'
      rw [List.getElem?_map] at g2'
      obtain ⟨m, em, rfl⟩ := Option.map_eq_some_iff.mp g2'
      subst ev1
      rw [nv_length] at hi
      refine ⟨tp, _, rfl, .inl (.inl upd_same), rfl, _, _, rfl, _, _, rfl, rfl, ?_⟩
      have st : Same Jx (upd Jx tp (.tup [.int (i : Nat), .int (m : Nat)])) := same_new ntp
      refine ⟨rfl, yes_if ⟨_, rfl, _, rfl, _, _, rfl, rfl, _, rfl, _, rfl, _, _, rfl, rfl, by show 2 ≤ sizeLine; decide, fun t nt => ?_⟩⟩
      refine ⟨m, t, _, _, rfl, hc m (List.mem_of_getElem? em), upd_same, fun J5 s5 => ?_⟩
      have s6 := (st.trans (same_new nt)).trans s5
      refine ⟨_, s6 _ _ eW, ?_, fun z o hz => by rw [upd_ne (ne_of_none hz nW)]; exact s6 _ _ (smx _ _ hz), ?_⟩
      · rw [List.length_replicate]; exact small1000 (by omega)
      · rw [upd_same, List.replicate_succ']
    · obtain ⟨sJ, eW⟩ := h
      rw [nv_length] at eW
      refine ⟨W, List.replicate cs.length true, rfl, by rw [List.map_replicate]; exact .inl (.inl eW), ?_⟩
      rw [all_rep]
      exact q _
end
end Pc
namespace Pc
open PySem PySem.Spec PyProof.Rows L2 RZ
theorem all_mk {l : PySem.W.OpenLaw} {w : World} {K : PySem.W.Frag} {h : Heap} {mg : Str → Option Value} {fa f_same f_bases f_kinds f_all_right f_right f_law C_NoPerson C_NoNumber C_NoDeed C_OtherSize C_NotResult C_NotShortest C_NoWord C_BadDeed C_BadText C_BadLine C_NotSettled C_Last C_TooMany f_i_NoPerson f_i_NoNumber f_i_NoDeed f_i_OtherSize f_i_NotResult f_i_NotShortest f_i_NoWord f_i_BadDeed f_i_BadText f_i_BadLine f_i_NotSettled f_i_Last f_i_TooMany : Addr} (X : K.In h) (G : h.Ns mainGlobals mg) (hfa : mg "law" = some (.ref fa))
    {od_same an_same : Option Addr} {sl_same : Array (Option Value)} {oc_same kV_same dc_same pm_same cd_same ct_same : Value}
    {od_bases an_bases : Option Addr} {sl_bases : Array (Option Value)} {oc_bases kV_bases dc_bases pm_bases cd_bases ct_bases : Value}
    {od_kinds an_kinds : Option Addr} {sl_kinds : Array (Option Value)} {oc_kinds kV_kinds dc_kinds pm_kinds cd_kinds ct_kinds : Value}
    {od_all_right an_all_right : Option Addr} {sl_all_right : Array (Option Value)} {oc_all_right kV_all_right dc_all_right pm_all_right cd_all_right ct_all_right : Value}
    {od_right an_right : Option Addr} {sl_right : Array (Option Value)} {oc_right kV_right dc_right pm_right cd_right ct_right : Value}
    {od_law an_law : Option Addr} {sl_law : Array (Option Value)} {oc_law kV_law dc_law pm_law cd_law ct_law : Value}
    {nm_NoPerson qn_NoPerson : Str} {Nn_NoPerson : Addr} {bs_NoPerson : List Value} {sn_NoPerson : List Str} {sub_NoPerson : List Value} {ab_NoPerson : Bool} {col_NoPerson : Option Bool} {dd_NoPerson : Option Addr} {m0_NoPerson m1_NoPerson m2_NoPerson m3_NoPerson m5_NoPerson : Option Value} {od_i_NoPerson an_i_NoPerson : Option Addr} {sl_i_NoPerson : Array (Option Value)} {oc_i_NoPerson kV_i_NoPerson dc_i_NoPerson pm_i_NoPerson cd_i_NoPerson ct_i_NoPerson : Value}
    {nm_NoNumber qn_NoNumber : Str} {Nn_NoNumber : Addr} {bs_NoNumber : List Value} {sn_NoNumber : List Str} {sub_NoNumber : List Value} {ab_NoNumber : Bool} {col_NoNumber : Option Bool} {dd_NoNumber : Option Addr} {m0_NoNumber m1_NoNumber m2_NoNumber m3_NoNumber m5_NoNumber : Option Value} {od_i_NoNumber an_i_NoNumber : Option Addr} {sl_i_NoNumber : Array (Option Value)} {oc_i_NoNumber kV_i_NoNumber dc_i_NoNumber pm_i_NoNumber cd_i_NoNumber ct_i_NoNumber : Value}
    {nm_NoDeed qn_NoDeed : Str} {Nn_NoDeed : Addr} {bs_NoDeed : List Value} {sn_NoDeed : List Str} {sub_NoDeed : List Value} {ab_NoDeed : Bool} {col_NoDeed : Option Bool} {dd_NoDeed : Option Addr} {m0_NoDeed m1_NoDeed m2_NoDeed m3_NoDeed m5_NoDeed : Option Value} {od_i_NoDeed an_i_NoDeed : Option Addr} {sl_i_NoDeed : Array (Option Value)} {oc_i_NoDeed kV_i_NoDeed dc_i_NoDeed pm_i_NoDeed cd_i_NoDeed ct_i_NoDeed : Value}
    {nm_OtherSize qn_OtherSize : Str} {Nn_OtherSize : Addr} {bs_OtherSize : List Value} {sn_OtherSize : List Str} {sub_OtherSize : List Value} {ab_OtherSize : Bool} {col_OtherSize : Option Bool} {dd_OtherSize : Option Addr} {m0_OtherSize m1_OtherSize m2_OtherSize m3_OtherSize m5_OtherSize : Option Value} {od_i_OtherSize an_i_OtherSize : Option Addr} {sl_i_OtherSize : Array (Option Value)} {oc_i_OtherSize kV_i_OtherSize dc_i_OtherSize pm_i_OtherSize cd_i_OtherSize ct_i_OtherSize : Value}
    {nm_NotResult qn_NotResult : Str} {Nn_NotResult : Addr} {bs_NotResult : List Value} {sn_NotResult : List Str} {sub_NotResult : List Value} {ab_NotResult : Bool} {col_NotResult : Option Bool} {dd_NotResult : Option Addr} {m0_NotResult m1_NotResult m2_NotResult m3_NotResult m5_NotResult : Option Value} {od_i_NotResult an_i_NotResult : Option Addr} {sl_i_NotResult : Array (Option Value)} {oc_i_NotResult kV_i_NotResult dc_i_NotResult pm_i_NotResult cd_i_NotResult ct_i_NotResult : Value}
    {nm_NotShortest qn_NotShortest : Str} {Nn_NotShortest : Addr} {bs_NotShortest : List Value} {sn_NotShortest : List Str} {sub_NotShortest : List Value} {ab_NotShortest : Bool} {col_NotShortest : Option Bool} {dd_NotShortest : Option Addr} {m0_NotShortest m1_NotShortest m2_NotShortest m3_NotShortest m5_NotShortest : Option Value} {od_i_NotShortest an_i_NotShortest : Option Addr} {sl_i_NotShortest : Array (Option Value)} {oc_i_NotShortest kV_i_NotShortest dc_i_NotShortest pm_i_NotShortest cd_i_NotShortest ct_i_NotShortest : Value}
    {nm_NoWord qn_NoWord : Str} {Nn_NoWord : Addr} {bs_NoWord : List Value} {sn_NoWord : List Str} {sub_NoWord : List Value} {ab_NoWord : Bool} {col_NoWord : Option Bool} {dd_NoWord : Option Addr} {m0_NoWord m1_NoWord m2_NoWord m3_NoWord m5_NoWord : Option Value} {od_i_NoWord an_i_NoWord : Option Addr} {sl_i_NoWord : Array (Option Value)} {oc_i_NoWord kV_i_NoWord dc_i_NoWord pm_i_NoWord cd_i_NoWord ct_i_NoWord : Value}
    {nm_BadDeed qn_BadDeed : Str} {Nn_BadDeed : Addr} {bs_BadDeed : List Value} {sn_BadDeed : List Str} {sub_BadDeed : List Value} {ab_BadDeed : Bool} {col_BadDeed : Option Bool} {dd_BadDeed : Option Addr} {m0_BadDeed m1_BadDeed m2_BadDeed m3_BadDeed m5_BadDeed : Option Value} {od_i_BadDeed an_i_BadDeed : Option Addr} {sl_i_BadDeed : Array (Option Value)} {oc_i_BadDeed kV_i_BadDeed dc_i_BadDeed pm_i_BadDeed cd_i_BadDeed ct_i_BadDeed : Value}
    {nm_BadText qn_BadText : Str} {Nn_BadText : Addr} {bs_BadText : List Value} {sn_BadText : List Str} {sub_BadText : List Value} {ab_BadText : Bool} {col_BadText : Option Bool} {dd_BadText : Option Addr} {m0_BadText m1_BadText m2_BadText m3_BadText m5_BadText : Option Value} {od_i_BadText an_i_BadText : Option Addr} {sl_i_BadText : Array (Option Value)} {oc_i_BadText kV_i_BadText dc_i_BadText pm_i_BadText cd_i_BadText ct_i_BadText : Value}
    {nm_BadLine qn_BadLine : Str} {Nn_BadLine : Addr} {bs_BadLine : List Value} {sn_BadLine : List Str} {sub_BadLine : List Value} {ab_BadLine : Bool} {col_BadLine : Option Bool} {dd_BadLine : Option Addr} {m0_BadLine m1_BadLine m2_BadLine m3_BadLine m5_BadLine : Option Value} {od_i_BadLine an_i_BadLine : Option Addr} {sl_i_BadLine : Array (Option Value)} {oc_i_BadLine kV_i_BadLine dc_i_BadLine pm_i_BadLine cd_i_BadLine ct_i_BadLine : Value}
    {nm_NotSettled qn_NotSettled : Str} {Nn_NotSettled : Addr} {bs_NotSettled : List Value} {sn_NotSettled : List Str} {sub_NotSettled : List Value} {ab_NotSettled : Bool} {col_NotSettled : Option Bool} {dd_NotSettled : Option Addr} {m0_NotSettled m1_NotSettled m2_NotSettled m3_NotSettled m5_NotSettled : Option Value} {od_i_NotSettled an_i_NotSettled : Option Addr} {sl_i_NotSettled : Array (Option Value)} {oc_i_NotSettled kV_i_NotSettled dc_i_NotSettled pm_i_NotSettled cd_i_NotSettled ct_i_NotSettled : Value}
    {nm_Last qn_Last : Str} {Nn_Last : Addr} {bs_Last : List Value} {sn_Last : List Str} {sub_Last : List Value} {ab_Last : Bool} {col_Last : Option Bool} {dd_Last : Option Addr} {m0_Last m1_Last m2_Last m3_Last m5_Last : Option Value} {od_i_Last an_i_Last : Option Addr} {sl_i_Last : Array (Option Value)} {oc_i_Last kV_i_Last dc_i_Last pm_i_Last cd_i_Last ct_i_Last : Value}
    {nm_TooMany qn_TooMany : Str} {Nn_TooMany : Addr} {bs_TooMany : List Value} {sn_TooMany : List Str} {sub_TooMany : List Value} {ab_TooMany : Bool} {col_TooMany : Option Bool} {dd_TooMany : Option Addr} {m0_TooMany m1_TooMany m2_TooMany m3_TooMany m5_TooMany : Option Value} {od_i_TooMany an_i_TooMany : Option Addr} {sl_i_TooMany : Array (Option Value)} {oc_i_TooMany kV_i_TooMany dc_i_TooMany pm_i_TooMany cd_i_TooMany ct_i_TooMany : Value}
    (a_same : PySem.W.nsIn K mainGlobals "_law_same" = some (some (.ref f_same))) (l_same : K.lookup f_same = some ⟨oc_same, od_same, .func (PySem.W.fnOf "_law_same" "_law_same" (defArgs s_same) (defBody s_same) (defScope s_same) .none kV_same dc_same pm_same an_same cd_same ct_same), sl_same⟩) (c_same : PySem.W.codeIn K cd_same "_law_same" = true) (k_same : PySem.W.keepIn K (.ref f_same) = true)
    (a_bases : PySem.W.nsIn K mainGlobals "_law_bases" = some (some (.ref f_bases))) (l_bases : K.lookup f_bases = some ⟨oc_bases, od_bases, .func (PySem.W.fnOf "_law_bases" "_law_bases" (defArgs s_bases) (defBody s_bases) (defScope s_bases) .none kV_bases dc_bases pm_bases an_bases cd_bases ct_bases), sl_bases⟩) (c_bases : PySem.W.codeIn K cd_bases "_law_bases" = true) (k_bases : PySem.W.keepIn K (.ref f_bases) = true)
    (a_kinds : PySem.W.nsIn K mainGlobals "_law_kinds" = some (some (.ref f_kinds))) (l_kinds : K.lookup f_kinds = some ⟨oc_kinds, od_kinds, .func (PySem.W.fnOf "_law_kinds" "_law_kinds" (defArgs s_kinds) (defBody s_kinds) (defScope s_kinds) .none kV_kinds dc_kinds pm_kinds an_kinds cd_kinds ct_kinds), sl_kinds⟩) (c_kinds : PySem.W.codeIn K cd_kinds "_law_kinds" = true) (k_kinds : PySem.W.keepIn K (.ref f_kinds) = true)
    (a_all_right : PySem.W.nsIn K mainGlobals "_law_all_right" = some (some (.ref f_all_right))) (l_all_right : K.lookup f_all_right = some ⟨oc_all_right, od_all_right, .func (PySem.W.fnOf "_law_all_right" "_law_all_right" (defArgs s_all_right) (defBody s_all_right) (defScope s_all_right) .none kV_all_right dc_all_right pm_all_right an_all_right cd_all_right ct_all_right), sl_all_right⟩) (c_all_right : PySem.W.codeIn K cd_all_right "_law_all_right" = true) (k_all_right : PySem.W.keepIn K (.ref f_all_right) = true)
    (a_right : PySem.W.nsIn K mainGlobals "_law_right" = some (some (.ref f_right))) (l_right : K.lookup f_right = some ⟨oc_right, od_right, .func (PySem.W.fnOf "_law_right" "_law_right" (defArgs s_right) (defBody s_right) (defScope s_right) .none kV_right dc_right pm_right an_right cd_right ct_right), sl_right⟩) (c_right : PySem.W.codeIn K cd_right "_law_right" = true) (k_right : PySem.W.keepIn K (.ref f_right) = true)
    (a_law : PySem.W.nsIn K mainGlobals "law" = some (some (.ref f_law))) (l_law : K.lookup f_law = some ⟨oc_law, od_law, .func (PySem.W.fnOf "law" "law" (defArgs s_law) (defBody s_law) (defScope s_law) .none kV_law dc_law pm_law an_law cd_law ct_law), sl_law⟩) (c_law : PySem.W.codeIn K cd_law "law" = true) (k_law : PySem.W.keepIn K (.ref f_law) = true)
    (aC_NoPerson : PySem.W.nsIn K mainGlobals "NoPerson" = some (some (.ref C_NoPerson)))
    (eC_NoPerson : PySem.W.subIn K (.ref C_NoPerson) (.type "BaseException") = some true)
    (tC_NoPerson : PySem.W.typeIn K (.ref C_NoPerson) = some (.type "type"))
    (is_NoPerson : PySem.W.isClsIn K C_NoPerson = true)
    (aC_NoNumber : PySem.W.nsIn K mainGlobals "NoNumber" = some (some (.ref C_NoNumber)))
    (eC_NoNumber : PySem.W.subIn K (.ref C_NoNumber) (.type "BaseException") = some true)
    (tC_NoNumber : PySem.W.typeIn K (.ref C_NoNumber) = some (.type "type"))
    (is_NoNumber : PySem.W.isClsIn K C_NoNumber = true)
    (aC_NoDeed : PySem.W.nsIn K mainGlobals "NoDeed" = some (some (.ref C_NoDeed)))
    (eC_NoDeed : PySem.W.subIn K (.ref C_NoDeed) (.type "BaseException") = some true)
    (tC_NoDeed : PySem.W.typeIn K (.ref C_NoDeed) = some (.type "type"))
    (is_NoDeed : PySem.W.isClsIn K C_NoDeed = true)
    (aC_OtherSize : PySem.W.nsIn K mainGlobals "OtherSize" = some (some (.ref C_OtherSize)))
    (eC_OtherSize : PySem.W.subIn K (.ref C_OtherSize) (.type "BaseException") = some true)
    (tC_OtherSize : PySem.W.typeIn K (.ref C_OtherSize) = some (.type "type"))
    (is_OtherSize : PySem.W.isClsIn K C_OtherSize = true)
    (aC_NotResult : PySem.W.nsIn K mainGlobals "NotResult" = some (some (.ref C_NotResult)))
    (eC_NotResult : PySem.W.subIn K (.ref C_NotResult) (.type "BaseException") = some true)
    (tC_NotResult : PySem.W.typeIn K (.ref C_NotResult) = some (.type "type"))
    (is_NotResult : PySem.W.isClsIn K C_NotResult = true)
    (aC_NotShortest : PySem.W.nsIn K mainGlobals "NotShortest" = some (some (.ref C_NotShortest)))
    (eC_NotShortest : PySem.W.subIn K (.ref C_NotShortest) (.type "BaseException") = some true)
    (tC_NotShortest : PySem.W.typeIn K (.ref C_NotShortest) = some (.type "type"))
    (is_NotShortest : PySem.W.isClsIn K C_NotShortest = true)
    (aC_NoWord : PySem.W.nsIn K mainGlobals "NoWord" = some (some (.ref C_NoWord)))
    (eC_NoWord : PySem.W.subIn K (.ref C_NoWord) (.type "BaseException") = some true)
    (tC_NoWord : PySem.W.typeIn K (.ref C_NoWord) = some (.type "type"))
    (is_NoWord : PySem.W.isClsIn K C_NoWord = true)
    (aC_BadDeed : PySem.W.nsIn K mainGlobals "BadDeed" = some (some (.ref C_BadDeed)))
    (eC_BadDeed : PySem.W.subIn K (.ref C_BadDeed) (.type "BaseException") = some true)
    (tC_BadDeed : PySem.W.typeIn K (.ref C_BadDeed) = some (.type "type"))
    (is_BadDeed : PySem.W.isClsIn K C_BadDeed = true)
    (aC_BadText : PySem.W.nsIn K mainGlobals "BadText" = some (some (.ref C_BadText)))
    (eC_BadText : PySem.W.subIn K (.ref C_BadText) (.type "BaseException") = some true)
    (tC_BadText : PySem.W.typeIn K (.ref C_BadText) = some (.type "type"))
    (is_BadText : PySem.W.isClsIn K C_BadText = true)
    (aC_BadLine : PySem.W.nsIn K mainGlobals "BadLine" = some (some (.ref C_BadLine)))
    (eC_BadLine : PySem.W.subIn K (.ref C_BadLine) (.type "BaseException") = some true)
    (tC_BadLine : PySem.W.typeIn K (.ref C_BadLine) = some (.type "type"))
    (is_BadLine : PySem.W.isClsIn K C_BadLine = true)
    (aC_NotSettled : PySem.W.nsIn K mainGlobals "NotSettled" = some (some (.ref C_NotSettled)))
    (eC_NotSettled : PySem.W.subIn K (.ref C_NotSettled) (.type "BaseException") = some true)
    (tC_NotSettled : PySem.W.typeIn K (.ref C_NotSettled) = some (.type "type"))
    (is_NotSettled : PySem.W.isClsIn K C_NotSettled = true)
    (aC_Last : PySem.W.nsIn K mainGlobals "Last" = some (some (.ref C_Last)))
    (eC_Last : PySem.W.subIn K (.ref C_Last) (.type "BaseException") = some true)
    (tC_Last : PySem.W.typeIn K (.ref C_Last) = some (.type "type"))
    (is_Last : PySem.W.isClsIn K C_Last = true)
    (aC_TooMany : PySem.W.nsIn K mainGlobals "TooMany" = some (some (.ref C_TooMany)))
    (eC_TooMany : PySem.W.subIn K (.ref C_TooMany) (.type "BaseException") = some true)
    (tC_TooMany : PySem.W.typeIn K (.ref C_TooMany) = some (.type "type"))
    (is_TooMany : PySem.W.isClsIn K C_TooMany = true)
    (xC_NoPerson : K.lookup C_NoPerson = some (excClassObj nm_NoPerson qn_NoPerson C_NoPerson Nn_NoPerson bs_NoPerson [.type "LookupError", .type "Exception", .type "BaseException", .type "object"] true sn_NoPerson sub_NoPerson ab_NoPerson col_NoPerson dd_NoPerson m0_NoPerson m1_NoPerson m2_NoPerson m3_NoPerson m5_NoPerson "LookupError.__new__"))
    (sa_NoPerson : PySem.W.findIn K (.ref C_NoPerson) "__setattr__" = some (some (.builtin "object.__setattr__")))
    (ga_NoPerson : PySem.W.findIn K (.ref C_NoPerson) "__getattribute__" = some (some (.builtin "BaseException.__getattribute__")))
    (gg_NoPerson : PySem.W.findIn K (.ref C_NoPerson) "__getattr__" = some none)
    (kC_NoPerson : PySem.W.keepIn K (.ref C_NoPerson) = true)
    (hC_NoPerson : PySem.W.hasDictIn K C_NoPerson = true)
    (cl_NoPerson : PySem.W.findIn K (.ref C_NoPerson) "__class__" = some (some (.builtin "object.__class__")))
    (mr_NoPerson : PySem.W.mroIn K C_NoPerson (.type "object") = some true)
    (iC_NoPerson : PySem.W.findIn K (.ref C_NoPerson) "__init__" = some (some (.ref f_i_NoPerson)))
    (tI_NoPerson : PySem.W.typeIn K (.ref f_i_NoPerson) = some (.type "function"))
    (lI_NoPerson : K.lookup f_i_NoPerson = some ⟨oc_i_NoPerson, od_i_NoPerson, .func (PySem.W.fnOf "__init__" "NoPerson.__init__" (defArgs s_i_NoPerson) (defBody s_i_NoPerson) (defScope s_i_NoPerson) .none kV_i_NoPerson dc_i_NoPerson pm_i_NoPerson an_i_NoPerson cd_i_NoPerson ct_i_NoPerson), sl_i_NoPerson⟩)
    (cI_NoPerson : PySem.W.codeIn K cd_i_NoPerson "NoPerson.__init__" = true)
    (kI_NoPerson : PySem.W.keepIn K (.ref f_i_NoPerson) = true)
    (su_NoPerson : PySem.W.subIn K (.ref C_NoPerson) (.ref C_NoPerson) = some true)
    (no_NoPerson : PySem.W.findIn K (.ref C_NoPerson) "person" = some none)
    (su_NoPerson_NoNumber : PySem.W.subIn K (.ref C_NoPerson) (.ref C_NoNumber) = some false)
    (su_NoPerson_NoDeed : PySem.W.subIn K (.ref C_NoPerson) (.ref C_NoDeed) = some false)
    (su_NoPerson_OtherSize : PySem.W.subIn K (.ref C_NoPerson) (.ref C_OtherSize) = some false)
    (su_NoPerson_NotResult : PySem.W.subIn K (.ref C_NoPerson) (.ref C_NotResult) = some false)
    (su_NoPerson_NotShortest : PySem.W.subIn K (.ref C_NoPerson) (.ref C_NotShortest) = some false)
    (su_NoPerson_NoWord : PySem.W.subIn K (.ref C_NoPerson) (.ref C_NoWord) = some false)
    (su_NoPerson_BadDeed : PySem.W.subIn K (.ref C_NoPerson) (.ref C_BadDeed) = some false)
    (su_NoPerson_BadText : PySem.W.subIn K (.ref C_NoPerson) (.ref C_BadText) = some false)
    (su_NoPerson_BadLine : PySem.W.subIn K (.ref C_NoPerson) (.ref C_BadLine) = some false)
    (su_NoPerson_NotSettled : PySem.W.subIn K (.ref C_NoPerson) (.ref C_NotSettled) = some false)
    (su_NoPerson_Last : PySem.W.subIn K (.ref C_NoPerson) (.ref C_Last) = some false)
    (su_NoPerson_TooMany : PySem.W.subIn K (.ref C_NoPerson) (.ref C_TooMany) = some false)
    (sb_NoPerson_LookupError : PySem.W.subIn K (.ref C_NoPerson) (.type "LookupError") = some true)
    (sb_NoPerson_ValueError : PySem.W.subIn K (.ref C_NoPerson) (.type "ValueError") = some false)
    (sb_NoPerson_RuntimeError : PySem.W.subIn K (.ref C_NoPerson) (.type "RuntimeError") = some false)
    (sb_NoPerson_OverflowError : PySem.W.subIn K (.ref C_NoPerson) (.type "OverflowError") = some false)
    (sb_NoPerson_KeyError : PySem.W.subIn K (.ref C_NoPerson) (.type "KeyError") = some false)
    (sb_NoPerson_IndexError : PySem.W.subIn K (.ref C_NoPerson) (.type "IndexError") = some false)
    (xC_NoNumber : K.lookup C_NoNumber = some (excClassObj nm_NoNumber qn_NoNumber C_NoNumber Nn_NoNumber bs_NoNumber [.type "LookupError", .type "Exception", .type "BaseException", .type "object"] true sn_NoNumber sub_NoNumber ab_NoNumber col_NoNumber dd_NoNumber m0_NoNumber m1_NoNumber m2_NoNumber m3_NoNumber m5_NoNumber "LookupError.__new__"))
    (sa_NoNumber : PySem.W.findIn K (.ref C_NoNumber) "__setattr__" = some (some (.builtin "object.__setattr__")))
    (ga_NoNumber : PySem.W.findIn K (.ref C_NoNumber) "__getattribute__" = some (some (.builtin "BaseException.__getattribute__")))
    (gg_NoNumber : PySem.W.findIn K (.ref C_NoNumber) "__getattr__" = some none)
    (kC_NoNumber : PySem.W.keepIn K (.ref C_NoNumber) = true)
    (hC_NoNumber : PySem.W.hasDictIn K C_NoNumber = true)
    (cl_NoNumber : PySem.W.findIn K (.ref C_NoNumber) "__class__" = some (some (.builtin "object.__class__")))
    (mr_NoNumber : PySem.W.mroIn K C_NoNumber (.type "object") = some true)
    (iC_NoNumber : PySem.W.findIn K (.ref C_NoNumber) "__init__" = some (some (.ref f_i_NoNumber)))
    (tI_NoNumber : PySem.W.typeIn K (.ref f_i_NoNumber) = some (.type "function"))
    (lI_NoNumber : K.lookup f_i_NoNumber = some ⟨oc_i_NoNumber, od_i_NoNumber, .func (PySem.W.fnOf "__init__" "NoNumber.__init__" (defArgs s_i_NoNumber) (defBody s_i_NoNumber) (defScope s_i_NoNumber) .none kV_i_NoNumber dc_i_NoNumber pm_i_NoNumber an_i_NoNumber cd_i_NoNumber ct_i_NoNumber), sl_i_NoNumber⟩)
    (cI_NoNumber : PySem.W.codeIn K cd_i_NoNumber "NoNumber.__init__" = true)
    (kI_NoNumber : PySem.W.keepIn K (.ref f_i_NoNumber) = true)
    (su_NoNumber : PySem.W.subIn K (.ref C_NoNumber) (.ref C_NoNumber) = some true)
    (no_NoNumber : PySem.W.findIn K (.ref C_NoNumber) "number" = some none)
    (su_NoNumber_NoPerson : PySem.W.subIn K (.ref C_NoNumber) (.ref C_NoPerson) = some false)
    (su_NoNumber_NoDeed : PySem.W.subIn K (.ref C_NoNumber) (.ref C_NoDeed) = some false)
    (su_NoNumber_OtherSize : PySem.W.subIn K (.ref C_NoNumber) (.ref C_OtherSize) = some false)
    (su_NoNumber_NotResult : PySem.W.subIn K (.ref C_NoNumber) (.ref C_NotResult) = some false)
    (su_NoNumber_NotShortest : PySem.W.subIn K (.ref C_NoNumber) (.ref C_NotShortest) = some false)
    (su_NoNumber_NoWord : PySem.W.subIn K (.ref C_NoNumber) (.ref C_NoWord) = some false)
    (su_NoNumber_BadDeed : PySem.W.subIn K (.ref C_NoNumber) (.ref C_BadDeed) = some false)
    (su_NoNumber_BadText : PySem.W.subIn K (.ref C_NoNumber) (.ref C_BadText) = some false)
    (su_NoNumber_BadLine : PySem.W.subIn K (.ref C_NoNumber) (.ref C_BadLine) = some false)
    (su_NoNumber_NotSettled : PySem.W.subIn K (.ref C_NoNumber) (.ref C_NotSettled) = some false)
    (su_NoNumber_Last : PySem.W.subIn K (.ref C_NoNumber) (.ref C_Last) = some false)
    (su_NoNumber_TooMany : PySem.W.subIn K (.ref C_NoNumber) (.ref C_TooMany) = some false)
    (sb_NoNumber_LookupError : PySem.W.subIn K (.ref C_NoNumber) (.type "LookupError") = some true)
    (sb_NoNumber_ValueError : PySem.W.subIn K (.ref C_NoNumber) (.type "ValueError") = some false)
    (sb_NoNumber_RuntimeError : PySem.W.subIn K (.ref C_NoNumber) (.type "RuntimeError") = some false)
    (sb_NoNumber_OverflowError : PySem.W.subIn K (.ref C_NoNumber) (.type "OverflowError") = some false)
    (sb_NoNumber_KeyError : PySem.W.subIn K (.ref C_NoNumber) (.type "KeyError") = some false)
    (sb_NoNumber_IndexError : PySem.W.subIn K (.ref C_NoNumber) (.type "IndexError") = some false)
    (xC_NoDeed : K.lookup C_NoDeed = some (excClassObj nm_NoDeed qn_NoDeed C_NoDeed Nn_NoDeed bs_NoDeed [.type "LookupError", .type "Exception", .type "BaseException", .type "object"] true sn_NoDeed sub_NoDeed ab_NoDeed col_NoDeed dd_NoDeed m0_NoDeed m1_NoDeed m2_NoDeed m3_NoDeed m5_NoDeed "LookupError.__new__"))
    (sa_NoDeed : PySem.W.findIn K (.ref C_NoDeed) "__setattr__" = some (some (.builtin "object.__setattr__")))
    (ga_NoDeed : PySem.W.findIn K (.ref C_NoDeed) "__getattribute__" = some (some (.builtin "BaseException.__getattribute__")))
    (gg_NoDeed : PySem.W.findIn K (.ref C_NoDeed) "__getattr__" = some none)
    (kC_NoDeed : PySem.W.keepIn K (.ref C_NoDeed) = true)
    (hC_NoDeed : PySem.W.hasDictIn K C_NoDeed = true)
    (cl_NoDeed : PySem.W.findIn K (.ref C_NoDeed) "__class__" = some (some (.builtin "object.__class__")))
    (mr_NoDeed : PySem.W.mroIn K C_NoDeed (.type "object") = some true)
    (iC_NoDeed : PySem.W.findIn K (.ref C_NoDeed) "__init__" = some (some (.ref f_i_NoDeed)))
    (tI_NoDeed : PySem.W.typeIn K (.ref f_i_NoDeed) = some (.type "function"))
    (lI_NoDeed : K.lookup f_i_NoDeed = some ⟨oc_i_NoDeed, od_i_NoDeed, .func (PySem.W.fnOf "__init__" "NoDeed.__init__" (defArgs s_i_NoDeed) (defBody s_i_NoDeed) (defScope s_i_NoDeed) .none kV_i_NoDeed dc_i_NoDeed pm_i_NoDeed an_i_NoDeed cd_i_NoDeed ct_i_NoDeed), sl_i_NoDeed⟩)
    (cI_NoDeed : PySem.W.codeIn K cd_i_NoDeed "NoDeed.__init__" = true)
    (kI_NoDeed : PySem.W.keepIn K (.ref f_i_NoDeed) = true)
    (su_NoDeed : PySem.W.subIn K (.ref C_NoDeed) (.ref C_NoDeed) = some true)
    (no_NoDeed : PySem.W.findIn K (.ref C_NoDeed) "many" = some none)
    (su_NoDeed_NoPerson : PySem.W.subIn K (.ref C_NoDeed) (.ref C_NoPerson) = some false)
    (su_NoDeed_NoNumber : PySem.W.subIn K (.ref C_NoDeed) (.ref C_NoNumber) = some false)
    (su_NoDeed_OtherSize : PySem.W.subIn K (.ref C_NoDeed) (.ref C_OtherSize) = some false)
    (su_NoDeed_NotResult : PySem.W.subIn K (.ref C_NoDeed) (.ref C_NotResult) = some false)
    (su_NoDeed_NotShortest : PySem.W.subIn K (.ref C_NoDeed) (.ref C_NotShortest) = some false)
    (su_NoDeed_NoWord : PySem.W.subIn K (.ref C_NoDeed) (.ref C_NoWord) = some false)
    (su_NoDeed_BadDeed : PySem.W.subIn K (.ref C_NoDeed) (.ref C_BadDeed) = some false)
    (su_NoDeed_BadText : PySem.W.subIn K (.ref C_NoDeed) (.ref C_BadText) = some false)
    (su_NoDeed_BadLine : PySem.W.subIn K (.ref C_NoDeed) (.ref C_BadLine) = some false)
    (su_NoDeed_NotSettled : PySem.W.subIn K (.ref C_NoDeed) (.ref C_NotSettled) = some false)
    (su_NoDeed_Last : PySem.W.subIn K (.ref C_NoDeed) (.ref C_Last) = some false)
    (su_NoDeed_TooMany : PySem.W.subIn K (.ref C_NoDeed) (.ref C_TooMany) = some false)
    (sb_NoDeed_LookupError : PySem.W.subIn K (.ref C_NoDeed) (.type "LookupError") = some true)
    (sb_NoDeed_ValueError : PySem.W.subIn K (.ref C_NoDeed) (.type "ValueError") = some false)
    (sb_NoDeed_RuntimeError : PySem.W.subIn K (.ref C_NoDeed) (.type "RuntimeError") = some false)
    (sb_NoDeed_OverflowError : PySem.W.subIn K (.ref C_NoDeed) (.type "OverflowError") = some false)
    (sb_NoDeed_KeyError : PySem.W.subIn K (.ref C_NoDeed) (.type "KeyError") = some false)
    (sb_NoDeed_IndexError : PySem.W.subIn K (.ref C_NoDeed) (.type "IndexError") = some false)
    (xC_OtherSize : K.lookup C_OtherSize = some (excClassObj nm_OtherSize qn_OtherSize C_OtherSize Nn_OtherSize bs_OtherSize [.type "ValueError", .type "Exception", .type "BaseException", .type "object"] true sn_OtherSize sub_OtherSize ab_OtherSize col_OtherSize dd_OtherSize m0_OtherSize m1_OtherSize m2_OtherSize m3_OtherSize m5_OtherSize "ValueError.__new__"))
    (sa_OtherSize : PySem.W.findIn K (.ref C_OtherSize) "__setattr__" = some (some (.builtin "object.__setattr__")))
    (ga_OtherSize : PySem.W.findIn K (.ref C_OtherSize) "__getattribute__" = some (some (.builtin "BaseException.__getattribute__")))
    (gg_OtherSize : PySem.W.findIn K (.ref C_OtherSize) "__getattr__" = some none)
    (kC_OtherSize : PySem.W.keepIn K (.ref C_OtherSize) = true)
    (hC_OtherSize : PySem.W.hasDictIn K C_OtherSize = true)
    (cl_OtherSize : PySem.W.findIn K (.ref C_OtherSize) "__class__" = some (some (.builtin "object.__class__")))
    (mr_OtherSize : PySem.W.mroIn K C_OtherSize (.type "object") = some true)
    (iC_OtherSize : PySem.W.findIn K (.ref C_OtherSize) "__init__" = some (some (.ref f_i_OtherSize)))
    (tI_OtherSize : PySem.W.typeIn K (.ref f_i_OtherSize) = some (.type "function"))
    (lI_OtherSize : K.lookup f_i_OtherSize = some ⟨oc_i_OtherSize, od_i_OtherSize, .func (PySem.W.fnOf "__init__" "OtherSize.__init__" (defArgs s_i_OtherSize) (defBody s_i_OtherSize) (defScope s_i_OtherSize) .none kV_i_OtherSize dc_i_OtherSize pm_i_OtherSize an_i_OtherSize cd_i_OtherSize ct_i_OtherSize), sl_i_OtherSize⟩)
    (cI_OtherSize : PySem.W.codeIn K cd_i_OtherSize "OtherSize.__init__" = true)
    (kI_OtherSize : PySem.W.keepIn K (.ref f_i_OtherSize) = true)
    (su_OtherSize : PySem.W.subIn K (.ref C_OtherSize) (.ref C_OtherSize) = some true)
    (no_OtherSize : PySem.W.findIn K (.ref C_OtherSize) "size" = some none)
    (su_OtherSize_NoPerson : PySem.W.subIn K (.ref C_OtherSize) (.ref C_NoPerson) = some false)
    (su_OtherSize_NoNumber : PySem.W.subIn K (.ref C_OtherSize) (.ref C_NoNumber) = some false)
    (su_OtherSize_NoDeed : PySem.W.subIn K (.ref C_OtherSize) (.ref C_NoDeed) = some false)
    (su_OtherSize_NotResult : PySem.W.subIn K (.ref C_OtherSize) (.ref C_NotResult) = some false)
    (su_OtherSize_NotShortest : PySem.W.subIn K (.ref C_OtherSize) (.ref C_NotShortest) = some false)
    (su_OtherSize_NoWord : PySem.W.subIn K (.ref C_OtherSize) (.ref C_NoWord) = some false)
    (su_OtherSize_BadDeed : PySem.W.subIn K (.ref C_OtherSize) (.ref C_BadDeed) = some false)
    (su_OtherSize_BadText : PySem.W.subIn K (.ref C_OtherSize) (.ref C_BadText) = some false)
    (su_OtherSize_BadLine : PySem.W.subIn K (.ref C_OtherSize) (.ref C_BadLine) = some false)
    (su_OtherSize_NotSettled : PySem.W.subIn K (.ref C_OtherSize) (.ref C_NotSettled) = some false)
    (su_OtherSize_Last : PySem.W.subIn K (.ref C_OtherSize) (.ref C_Last) = some false)
    (su_OtherSize_TooMany : PySem.W.subIn K (.ref C_OtherSize) (.ref C_TooMany) = some false)
    (sb_OtherSize_LookupError : PySem.W.subIn K (.ref C_OtherSize) (.type "LookupError") = some false)
    (sb_OtherSize_ValueError : PySem.W.subIn K (.ref C_OtherSize) (.type "ValueError") = some true)
    (sb_OtherSize_RuntimeError : PySem.W.subIn K (.ref C_OtherSize) (.type "RuntimeError") = some false)
    (sb_OtherSize_OverflowError : PySem.W.subIn K (.ref C_OtherSize) (.type "OverflowError") = some false)
    (sb_OtherSize_KeyError : PySem.W.subIn K (.ref C_OtherSize) (.type "KeyError") = some false)
    (sb_OtherSize_IndexError : PySem.W.subIn K (.ref C_OtherSize) (.type "IndexError") = some false)
    (xC_NotResult : K.lookup C_NotResult = some (excClassObj nm_NotResult qn_NotResult C_NotResult Nn_NotResult bs_NotResult [.type "ValueError", .type "Exception", .type "BaseException", .type "object"] true sn_NotResult sub_NotResult ab_NotResult col_NotResult dd_NotResult m0_NotResult m1_NotResult m2_NotResult m3_NotResult m5_NotResult "ValueError.__new__"))
    (sa_NotResult : PySem.W.findIn K (.ref C_NotResult) "__setattr__" = some (some (.builtin "object.__setattr__")))
    (ga_NotResult : PySem.W.findIn K (.ref C_NotResult) "__getattribute__" = some (some (.builtin "BaseException.__getattribute__")))
    (gg_NotResult : PySem.W.findIn K (.ref C_NotResult) "__getattr__" = some none)
    (kC_NotResult : PySem.W.keepIn K (.ref C_NotResult) = true)
    (hC_NotResult : PySem.W.hasDictIn K C_NotResult = true)
    (cl_NotResult : PySem.W.findIn K (.ref C_NotResult) "__class__" = some (some (.builtin "object.__class__")))
    (mr_NotResult : PySem.W.mroIn K C_NotResult (.type "object") = some true)
    (iC_NotResult : PySem.W.findIn K (.ref C_NotResult) "__init__" = some (some (.ref f_i_NotResult)))
    (tI_NotResult : PySem.W.typeIn K (.ref f_i_NotResult) = some (.type "function"))
    (lI_NotResult : K.lookup f_i_NotResult = some ⟨oc_i_NotResult, od_i_NotResult, .func (PySem.W.fnOf "__init__" "NotResult.__init__" (defArgs s_i_NotResult) (defBody s_i_NotResult) (defScope s_i_NotResult) .none kV_i_NotResult dc_i_NotResult pm_i_NotResult an_i_NotResult cd_i_NotResult ct_i_NotResult), sl_i_NotResult⟩)
    (cI_NotResult : PySem.W.codeIn K cd_i_NotResult "NotResult.__init__" = true)
    (kI_NotResult : PySem.W.keepIn K (.ref f_i_NotResult) = true)
    (su_NotResult : PySem.W.subIn K (.ref C_NotResult) (.ref C_NotResult) = some true)
    (no_NotResult : PySem.W.findIn K (.ref C_NotResult) "pair" = some none)
    (su_NotResult_NoPerson : PySem.W.subIn K (.ref C_NotResult) (.ref C_NoPerson) = some false)
    (su_NotResult_NoNumber : PySem.W.subIn K (.ref C_NotResult) (.ref C_NoNumber) = some false)
    (su_NotResult_NoDeed : PySem.W.subIn K (.ref C_NotResult) (.ref C_NoDeed) = some false)
    (su_NotResult_OtherSize : PySem.W.subIn K (.ref C_NotResult) (.ref C_OtherSize) = some false)
    (su_NotResult_NotShortest : PySem.W.subIn K (.ref C_NotResult) (.ref C_NotShortest) = some false)
    (su_NotResult_NoWord : PySem.W.subIn K (.ref C_NotResult) (.ref C_NoWord) = some false)
    (su_NotResult_BadDeed : PySem.W.subIn K (.ref C_NotResult) (.ref C_BadDeed) = some false)
    (su_NotResult_BadText : PySem.W.subIn K (.ref C_NotResult) (.ref C_BadText) = some false)
    (su_NotResult_BadLine : PySem.W.subIn K (.ref C_NotResult) (.ref C_BadLine) = some false)
    (su_NotResult_NotSettled : PySem.W.subIn K (.ref C_NotResult) (.ref C_NotSettled) = some false)
    (su_NotResult_Last : PySem.W.subIn K (.ref C_NotResult) (.ref C_Last) = some false)
    (su_NotResult_TooMany : PySem.W.subIn K (.ref C_NotResult) (.ref C_TooMany) = some false)
    (sb_NotResult_LookupError : PySem.W.subIn K (.ref C_NotResult) (.type "LookupError") = some false)
    (sb_NotResult_ValueError : PySem.W.subIn K (.ref C_NotResult) (.type "ValueError") = some true)
    (sb_NotResult_RuntimeError : PySem.W.subIn K (.ref C_NotResult) (.type "RuntimeError") = some false)
    (sb_NotResult_OverflowError : PySem.W.subIn K (.ref C_NotResult) (.type "OverflowError") = some false)
    (sb_NotResult_KeyError : PySem.W.subIn K (.ref C_NotResult) (.type "KeyError") = some false)
    (sb_NotResult_IndexError : PySem.W.subIn K (.ref C_NotResult) (.type "IndexError") = some false)
    (xC_NotShortest : K.lookup C_NotShortest = some (excClassObj nm_NotShortest qn_NotShortest C_NotShortest Nn_NotShortest bs_NotShortest [.type "ValueError", .type "Exception", .type "BaseException", .type "object"] true sn_NotShortest sub_NotShortest ab_NotShortest col_NotShortest dd_NotShortest m0_NotShortest m1_NotShortest m2_NotShortest m3_NotShortest m5_NotShortest "ValueError.__new__"))
    (sa_NotShortest : PySem.W.findIn K (.ref C_NotShortest) "__setattr__" = some (some (.builtin "object.__setattr__")))
    (ga_NotShortest : PySem.W.findIn K (.ref C_NotShortest) "__getattribute__" = some (some (.builtin "BaseException.__getattribute__")))
    (gg_NotShortest : PySem.W.findIn K (.ref C_NotShortest) "__getattr__" = some none)
    (kC_NotShortest : PySem.W.keepIn K (.ref C_NotShortest) = true)
    (hC_NotShortest : PySem.W.hasDictIn K C_NotShortest = true)
    (cl_NotShortest : PySem.W.findIn K (.ref C_NotShortest) "__class__" = some (some (.builtin "object.__class__")))
    (mr_NotShortest : PySem.W.mroIn K C_NotShortest (.type "object") = some true)
    (iC_NotShortest : PySem.W.findIn K (.ref C_NotShortest) "__init__" = some (some (.ref f_i_NotShortest)))
    (tI_NotShortest : PySem.W.typeIn K (.ref f_i_NotShortest) = some (.type "function"))
    (lI_NotShortest : K.lookup f_i_NotShortest = some ⟨oc_i_NotShortest, od_i_NotShortest, .func (PySem.W.fnOf "__init__" "NotShortest.__init__" (defArgs s_i_NotShortest) (defBody s_i_NotShortest) (defScope s_i_NotShortest) .none kV_i_NotShortest dc_i_NotShortest pm_i_NotShortest an_i_NotShortest cd_i_NotShortest ct_i_NotShortest), sl_i_NotShortest⟩)
    (cI_NotShortest : PySem.W.codeIn K cd_i_NotShortest "NotShortest.__init__" = true)
    (kI_NotShortest : PySem.W.keepIn K (.ref f_i_NotShortest) = true)
    (su_NotShortest : PySem.W.subIn K (.ref C_NotShortest) (.ref C_NotShortest) = some true)
    (su_NotShortest_NoPerson : PySem.W.subIn K (.ref C_NotShortest) (.ref C_NoPerson) = some false)
    (su_NotShortest_NoNumber : PySem.W.subIn K (.ref C_NotShortest) (.ref C_NoNumber) = some false)
    (su_NotShortest_NoDeed : PySem.W.subIn K (.ref C_NotShortest) (.ref C_NoDeed) = some false)
    (su_NotShortest_OtherSize : PySem.W.subIn K (.ref C_NotShortest) (.ref C_OtherSize) = some false)
    (su_NotShortest_NotResult : PySem.W.subIn K (.ref C_NotShortest) (.ref C_NotResult) = some false)
    (su_NotShortest_NoWord : PySem.W.subIn K (.ref C_NotShortest) (.ref C_NoWord) = some false)
    (su_NotShortest_BadDeed : PySem.W.subIn K (.ref C_NotShortest) (.ref C_BadDeed) = some false)
    (su_NotShortest_BadText : PySem.W.subIn K (.ref C_NotShortest) (.ref C_BadText) = some false)
    (su_NotShortest_BadLine : PySem.W.subIn K (.ref C_NotShortest) (.ref C_BadLine) = some false)
    (su_NotShortest_NotSettled : PySem.W.subIn K (.ref C_NotShortest) (.ref C_NotSettled) = some false)
    (su_NotShortest_Last : PySem.W.subIn K (.ref C_NotShortest) (.ref C_Last) = some false)
    (su_NotShortest_TooMany : PySem.W.subIn K (.ref C_NotShortest) (.ref C_TooMany) = some false)
    (sb_NotShortest_LookupError : PySem.W.subIn K (.ref C_NotShortest) (.type "LookupError") = some false)
    (sb_NotShortest_ValueError : PySem.W.subIn K (.ref C_NotShortest) (.type "ValueError") = some true)
    (sb_NotShortest_RuntimeError : PySem.W.subIn K (.ref C_NotShortest) (.type "RuntimeError") = some false)
    (sb_NotShortest_OverflowError : PySem.W.subIn K (.ref C_NotShortest) (.type "OverflowError") = some false)
    (sb_NotShortest_KeyError : PySem.W.subIn K (.ref C_NotShortest) (.type "KeyError") = some false)
    (sb_NotShortest_IndexError : PySem.W.subIn K (.ref C_NotShortest) (.type "IndexError") = some false)
    (xC_NoWord : K.lookup C_NoWord = some (excClassObj nm_NoWord qn_NoWord C_NoWord Nn_NoWord bs_NoWord [.type "ValueError", .type "Exception", .type "BaseException", .type "object"] true sn_NoWord sub_NoWord ab_NoWord col_NoWord dd_NoWord m0_NoWord m1_NoWord m2_NoWord m3_NoWord m5_NoWord "ValueError.__new__"))
    (sa_NoWord : PySem.W.findIn K (.ref C_NoWord) "__setattr__" = some (some (.builtin "object.__setattr__")))
    (ga_NoWord : PySem.W.findIn K (.ref C_NoWord) "__getattribute__" = some (some (.builtin "BaseException.__getattribute__")))
    (gg_NoWord : PySem.W.findIn K (.ref C_NoWord) "__getattr__" = some none)
    (kC_NoWord : PySem.W.keepIn K (.ref C_NoWord) = true)
    (hC_NoWord : PySem.W.hasDictIn K C_NoWord = true)
    (cl_NoWord : PySem.W.findIn K (.ref C_NoWord) "__class__" = some (some (.builtin "object.__class__")))
    (mr_NoWord : PySem.W.mroIn K C_NoWord (.type "object") = some true)
    (iC_NoWord : PySem.W.findIn K (.ref C_NoWord) "__init__" = some (some (.ref f_i_NoWord)))
    (tI_NoWord : PySem.W.typeIn K (.ref f_i_NoWord) = some (.type "function"))
    (lI_NoWord : K.lookup f_i_NoWord = some ⟨oc_i_NoWord, od_i_NoWord, .func (PySem.W.fnOf "__init__" "NoWord.__init__" (defArgs s_i_NoWord) (defBody s_i_NoWord) (defScope s_i_NoWord) .none kV_i_NoWord dc_i_NoWord pm_i_NoWord an_i_NoWord cd_i_NoWord ct_i_NoWord), sl_i_NoWord⟩)
    (cI_NoWord : PySem.W.codeIn K cd_i_NoWord "NoWord.__init__" = true)
    (kI_NoWord : PySem.W.keepIn K (.ref f_i_NoWord) = true)
    (su_NoWord : PySem.W.subIn K (.ref C_NoWord) (.ref C_NoWord) = some true)
    (su_NoWord_NoPerson : PySem.W.subIn K (.ref C_NoWord) (.ref C_NoPerson) = some false)
    (su_NoWord_NoNumber : PySem.W.subIn K (.ref C_NoWord) (.ref C_NoNumber) = some false)
    (su_NoWord_NoDeed : PySem.W.subIn K (.ref C_NoWord) (.ref C_NoDeed) = some false)
    (su_NoWord_OtherSize : PySem.W.subIn K (.ref C_NoWord) (.ref C_OtherSize) = some false)
    (su_NoWord_NotResult : PySem.W.subIn K (.ref C_NoWord) (.ref C_NotResult) = some false)
    (su_NoWord_NotShortest : PySem.W.subIn K (.ref C_NoWord) (.ref C_NotShortest) = some false)
    (su_NoWord_BadDeed : PySem.W.subIn K (.ref C_NoWord) (.ref C_BadDeed) = some false)
    (su_NoWord_BadText : PySem.W.subIn K (.ref C_NoWord) (.ref C_BadText) = some false)
    (su_NoWord_BadLine : PySem.W.subIn K (.ref C_NoWord) (.ref C_BadLine) = some false)
    (su_NoWord_NotSettled : PySem.W.subIn K (.ref C_NoWord) (.ref C_NotSettled) = some false)
    (su_NoWord_Last : PySem.W.subIn K (.ref C_NoWord) (.ref C_Last) = some false)
    (su_NoWord_TooMany : PySem.W.subIn K (.ref C_NoWord) (.ref C_TooMany) = some false)
    (sb_NoWord_LookupError : PySem.W.subIn K (.ref C_NoWord) (.type "LookupError") = some false)
    (sb_NoWord_ValueError : PySem.W.subIn K (.ref C_NoWord) (.type "ValueError") = some true)
    (sb_NoWord_RuntimeError : PySem.W.subIn K (.ref C_NoWord) (.type "RuntimeError") = some false)
    (sb_NoWord_OverflowError : PySem.W.subIn K (.ref C_NoWord) (.type "OverflowError") = some false)
    (sb_NoWord_KeyError : PySem.W.subIn K (.ref C_NoWord) (.type "KeyError") = some false)
    (sb_NoWord_IndexError : PySem.W.subIn K (.ref C_NoWord) (.type "IndexError") = some false)
    (xC_BadDeed : K.lookup C_BadDeed = some (excClassObj nm_BadDeed qn_BadDeed C_BadDeed Nn_BadDeed bs_BadDeed [.type "ValueError", .type "Exception", .type "BaseException", .type "object"] true sn_BadDeed sub_BadDeed ab_BadDeed col_BadDeed dd_BadDeed m0_BadDeed m1_BadDeed m2_BadDeed m3_BadDeed m5_BadDeed "ValueError.__new__"))
    (sa_BadDeed : PySem.W.findIn K (.ref C_BadDeed) "__setattr__" = some (some (.builtin "object.__setattr__")))
    (ga_BadDeed : PySem.W.findIn K (.ref C_BadDeed) "__getattribute__" = some (some (.builtin "BaseException.__getattribute__")))
    (gg_BadDeed : PySem.W.findIn K (.ref C_BadDeed) "__getattr__" = some none)
    (kC_BadDeed : PySem.W.keepIn K (.ref C_BadDeed) = true)
    (hC_BadDeed : PySem.W.hasDictIn K C_BadDeed = true)
    (cl_BadDeed : PySem.W.findIn K (.ref C_BadDeed) "__class__" = some (some (.builtin "object.__class__")))
    (mr_BadDeed : PySem.W.mroIn K C_BadDeed (.type "object") = some true)
    (iC_BadDeed : PySem.W.findIn K (.ref C_BadDeed) "__init__" = some (some (.ref f_i_BadDeed)))
    (tI_BadDeed : PySem.W.typeIn K (.ref f_i_BadDeed) = some (.type "function"))
    (lI_BadDeed : K.lookup f_i_BadDeed = some ⟨oc_i_BadDeed, od_i_BadDeed, .func (PySem.W.fnOf "__init__" "BadDeed.__init__" (defArgs s_i_BadDeed) (defBody s_i_BadDeed) (defScope s_i_BadDeed) .none kV_i_BadDeed dc_i_BadDeed pm_i_BadDeed an_i_BadDeed cd_i_BadDeed ct_i_BadDeed), sl_i_BadDeed⟩)
    (cI_BadDeed : PySem.W.codeIn K cd_i_BadDeed "BadDeed.__init__" = true)
    (kI_BadDeed : PySem.W.keepIn K (.ref f_i_BadDeed) = true)
    (su_BadDeed : PySem.W.subIn K (.ref C_BadDeed) (.ref C_BadDeed) = some true)
    (no_BadDeed : PySem.W.findIn K (.ref C_BadDeed) "at" = some none)
    (su_BadDeed_NoPerson : PySem.W.subIn K (.ref C_BadDeed) (.ref C_NoPerson) = some false)
    (su_BadDeed_NoNumber : PySem.W.subIn K (.ref C_BadDeed) (.ref C_NoNumber) = some false)
    (su_BadDeed_NoDeed : PySem.W.subIn K (.ref C_BadDeed) (.ref C_NoDeed) = some false)
    (su_BadDeed_OtherSize : PySem.W.subIn K (.ref C_BadDeed) (.ref C_OtherSize) = some false)
    (su_BadDeed_NotResult : PySem.W.subIn K (.ref C_BadDeed) (.ref C_NotResult) = some false)
    (su_BadDeed_NotShortest : PySem.W.subIn K (.ref C_BadDeed) (.ref C_NotShortest) = some false)
    (su_BadDeed_NoWord : PySem.W.subIn K (.ref C_BadDeed) (.ref C_NoWord) = some false)
    (su_BadDeed_BadText : PySem.W.subIn K (.ref C_BadDeed) (.ref C_BadText) = some false)
    (su_BadDeed_BadLine : PySem.W.subIn K (.ref C_BadDeed) (.ref C_BadLine) = some false)
    (su_BadDeed_NotSettled : PySem.W.subIn K (.ref C_BadDeed) (.ref C_NotSettled) = some false)
    (su_BadDeed_Last : PySem.W.subIn K (.ref C_BadDeed) (.ref C_Last) = some false)
    (su_BadDeed_TooMany : PySem.W.subIn K (.ref C_BadDeed) (.ref C_TooMany) = some false)
    (sb_BadDeed_LookupError : PySem.W.subIn K (.ref C_BadDeed) (.type "LookupError") = some false)
    (sb_BadDeed_ValueError : PySem.W.subIn K (.ref C_BadDeed) (.type "ValueError") = some true)
    (sb_BadDeed_RuntimeError : PySem.W.subIn K (.ref C_BadDeed) (.type "RuntimeError") = some false)
    (sb_BadDeed_OverflowError : PySem.W.subIn K (.ref C_BadDeed) (.type "OverflowError") = some false)
    (sb_BadDeed_KeyError : PySem.W.subIn K (.ref C_BadDeed) (.type "KeyError") = some false)
    (sb_BadDeed_IndexError : PySem.W.subIn K (.ref C_BadDeed) (.type "IndexError") = some false)
    (xC_BadText : K.lookup C_BadText = some (excClassObj nm_BadText qn_BadText C_BadText Nn_BadText bs_BadText [.type "ValueError", .type "Exception", .type "BaseException", .type "object"] true sn_BadText sub_BadText ab_BadText col_BadText dd_BadText m0_BadText m1_BadText m2_BadText m3_BadText m5_BadText "ValueError.__new__"))
    (sa_BadText : PySem.W.findIn K (.ref C_BadText) "__setattr__" = some (some (.builtin "object.__setattr__")))
    (ga_BadText : PySem.W.findIn K (.ref C_BadText) "__getattribute__" = some (some (.builtin "BaseException.__getattribute__")))
    (gg_BadText : PySem.W.findIn K (.ref C_BadText) "__getattr__" = some none)
    (kC_BadText : PySem.W.keepIn K (.ref C_BadText) = true)
    (hC_BadText : PySem.W.hasDictIn K C_BadText = true)
    (cl_BadText : PySem.W.findIn K (.ref C_BadText) "__class__" = some (some (.builtin "object.__class__")))
    (mr_BadText : PySem.W.mroIn K C_BadText (.type "object") = some true)
    (iC_BadText : PySem.W.findIn K (.ref C_BadText) "__init__" = some (some (.ref f_i_BadText)))
    (tI_BadText : PySem.W.typeIn K (.ref f_i_BadText) = some (.type "function"))
    (lI_BadText : K.lookup f_i_BadText = some ⟨oc_i_BadText, od_i_BadText, .func (PySem.W.fnOf "__init__" "BadText.__init__" (defArgs s_i_BadText) (defBody s_i_BadText) (defScope s_i_BadText) .none kV_i_BadText dc_i_BadText pm_i_BadText an_i_BadText cd_i_BadText ct_i_BadText), sl_i_BadText⟩)
    (cI_BadText : PySem.W.codeIn K cd_i_BadText "BadText.__init__" = true)
    (kI_BadText : PySem.W.keepIn K (.ref f_i_BadText) = true)
    (su_BadText : PySem.W.subIn K (.ref C_BadText) (.ref C_BadText) = some true)
    (no_BadText : PySem.W.findIn K (.ref C_BadText) "at" = some none)
    (su_BadText_NoPerson : PySem.W.subIn K (.ref C_BadText) (.ref C_NoPerson) = some false)
    (su_BadText_NoNumber : PySem.W.subIn K (.ref C_BadText) (.ref C_NoNumber) = some false)
    (su_BadText_NoDeed : PySem.W.subIn K (.ref C_BadText) (.ref C_NoDeed) = some false)
    (su_BadText_OtherSize : PySem.W.subIn K (.ref C_BadText) (.ref C_OtherSize) = some false)
    (su_BadText_NotResult : PySem.W.subIn K (.ref C_BadText) (.ref C_NotResult) = some false)
    (su_BadText_NotShortest : PySem.W.subIn K (.ref C_BadText) (.ref C_NotShortest) = some false)
    (su_BadText_NoWord : PySem.W.subIn K (.ref C_BadText) (.ref C_NoWord) = some false)
    (su_BadText_BadDeed : PySem.W.subIn K (.ref C_BadText) (.ref C_BadDeed) = some false)
    (su_BadText_BadLine : PySem.W.subIn K (.ref C_BadText) (.ref C_BadLine) = some false)
    (su_BadText_NotSettled : PySem.W.subIn K (.ref C_BadText) (.ref C_NotSettled) = some false)
    (su_BadText_Last : PySem.W.subIn K (.ref C_BadText) (.ref C_Last) = some false)
    (su_BadText_TooMany : PySem.W.subIn K (.ref C_BadText) (.ref C_TooMany) = some false)
    (sb_BadText_LookupError : PySem.W.subIn K (.ref C_BadText) (.type "LookupError") = some false)
    (sb_BadText_ValueError : PySem.W.subIn K (.ref C_BadText) (.type "ValueError") = some true)
    (sb_BadText_RuntimeError : PySem.W.subIn K (.ref C_BadText) (.type "RuntimeError") = some false)
    (sb_BadText_OverflowError : PySem.W.subIn K (.ref C_BadText) (.type "OverflowError") = some false)
    (sb_BadText_KeyError : PySem.W.subIn K (.ref C_BadText) (.type "KeyError") = some false)
    (sb_BadText_IndexError : PySem.W.subIn K (.ref C_BadText) (.type "IndexError") = some false)
    (xC_BadLine : K.lookup C_BadLine = some (excClassObj nm_BadLine qn_BadLine C_BadLine Nn_BadLine bs_BadLine [.type "ValueError", .type "Exception", .type "BaseException", .type "object"] true sn_BadLine sub_BadLine ab_BadLine col_BadLine dd_BadLine m0_BadLine m1_BadLine m2_BadLine m3_BadLine m5_BadLine "ValueError.__new__"))
    (sa_BadLine : PySem.W.findIn K (.ref C_BadLine) "__setattr__" = some (some (.builtin "object.__setattr__")))
    (ga_BadLine : PySem.W.findIn K (.ref C_BadLine) "__getattribute__" = some (some (.builtin "BaseException.__getattribute__")))
    (gg_BadLine : PySem.W.findIn K (.ref C_BadLine) "__getattr__" = some none)
    (kC_BadLine : PySem.W.keepIn K (.ref C_BadLine) = true)
    (hC_BadLine : PySem.W.hasDictIn K C_BadLine = true)
    (cl_BadLine : PySem.W.findIn K (.ref C_BadLine) "__class__" = some (some (.builtin "object.__class__")))
    (mr_BadLine : PySem.W.mroIn K C_BadLine (.type "object") = some true)
    (iC_BadLine : PySem.W.findIn K (.ref C_BadLine) "__init__" = some (some (.ref f_i_BadLine)))
    (tI_BadLine : PySem.W.typeIn K (.ref f_i_BadLine) = some (.type "function"))
    (lI_BadLine : K.lookup f_i_BadLine = some ⟨oc_i_BadLine, od_i_BadLine, .func (PySem.W.fnOf "__init__" "BadLine.__init__" (defArgs s_i_BadLine) (defBody s_i_BadLine) (defScope s_i_BadLine) .none kV_i_BadLine dc_i_BadLine pm_i_BadLine an_i_BadLine cd_i_BadLine ct_i_BadLine), sl_i_BadLine⟩)
    (cI_BadLine : PySem.W.codeIn K cd_i_BadLine "BadLine.__init__" = true)
    (kI_BadLine : PySem.W.keepIn K (.ref f_i_BadLine) = true)
    (su_BadLine : PySem.W.subIn K (.ref C_BadLine) (.ref C_BadLine) = some true)
    (no_BadLine : PySem.W.findIn K (.ref C_BadLine) "at" = some none)
    (su_BadLine_NoPerson : PySem.W.subIn K (.ref C_BadLine) (.ref C_NoPerson) = some false)
    (su_BadLine_NoNumber : PySem.W.subIn K (.ref C_BadLine) (.ref C_NoNumber) = some false)
    (su_BadLine_NoDeed : PySem.W.subIn K (.ref C_BadLine) (.ref C_NoDeed) = some false)
    (su_BadLine_OtherSize : PySem.W.subIn K (.ref C_BadLine) (.ref C_OtherSize) = some false)
    (su_BadLine_NotResult : PySem.W.subIn K (.ref C_BadLine) (.ref C_NotResult) = some false)
    (su_BadLine_NotShortest : PySem.W.subIn K (.ref C_BadLine) (.ref C_NotShortest) = some false)
    (su_BadLine_NoWord : PySem.W.subIn K (.ref C_BadLine) (.ref C_NoWord) = some false)
    (su_BadLine_BadDeed : PySem.W.subIn K (.ref C_BadLine) (.ref C_BadDeed) = some false)
    (su_BadLine_BadText : PySem.W.subIn K (.ref C_BadLine) (.ref C_BadText) = some false)
    (su_BadLine_NotSettled : PySem.W.subIn K (.ref C_BadLine) (.ref C_NotSettled) = some false)
    (su_BadLine_Last : PySem.W.subIn K (.ref C_BadLine) (.ref C_Last) = some false)
    (su_BadLine_TooMany : PySem.W.subIn K (.ref C_BadLine) (.ref C_TooMany) = some false)
    (sb_BadLine_LookupError : PySem.W.subIn K (.ref C_BadLine) (.type "LookupError") = some false)
    (sb_BadLine_ValueError : PySem.W.subIn K (.ref C_BadLine) (.type "ValueError") = some true)
    (sb_BadLine_RuntimeError : PySem.W.subIn K (.ref C_BadLine) (.type "RuntimeError") = some false)
    (sb_BadLine_OverflowError : PySem.W.subIn K (.ref C_BadLine) (.type "OverflowError") = some false)
    (sb_BadLine_KeyError : PySem.W.subIn K (.ref C_BadLine) (.type "KeyError") = some false)
    (sb_BadLine_IndexError : PySem.W.subIn K (.ref C_BadLine) (.type "IndexError") = some false)
    (xC_NotSettled : K.lookup C_NotSettled = some (excClassObj nm_NotSettled qn_NotSettled C_NotSettled Nn_NotSettled bs_NotSettled [.type "RuntimeError", .type "Exception", .type "BaseException", .type "object"] true sn_NotSettled sub_NotSettled ab_NotSettled col_NotSettled dd_NotSettled m0_NotSettled m1_NotSettled m2_NotSettled m3_NotSettled m5_NotSettled "RuntimeError.__new__"))
    (sa_NotSettled : PySem.W.findIn K (.ref C_NotSettled) "__setattr__" = some (some (.builtin "object.__setattr__")))
    (ga_NotSettled : PySem.W.findIn K (.ref C_NotSettled) "__getattribute__" = some (some (.builtin "BaseException.__getattribute__")))
    (gg_NotSettled : PySem.W.findIn K (.ref C_NotSettled) "__getattr__" = some none)
    (kC_NotSettled : PySem.W.keepIn K (.ref C_NotSettled) = true)
    (hC_NotSettled : PySem.W.hasDictIn K C_NotSettled = true)
    (cl_NotSettled : PySem.W.findIn K (.ref C_NotSettled) "__class__" = some (some (.builtin "object.__class__")))
    (mr_NotSettled : PySem.W.mroIn K C_NotSettled (.type "object") = some true)
    (iC_NotSettled : PySem.W.findIn K (.ref C_NotSettled) "__init__" = some (some (.ref f_i_NotSettled)))
    (tI_NotSettled : PySem.W.typeIn K (.ref f_i_NotSettled) = some (.type "function"))
    (lI_NotSettled : K.lookup f_i_NotSettled = some ⟨oc_i_NotSettled, od_i_NotSettled, .func (PySem.W.fnOf "__init__" "NotSettled.__init__" (defArgs s_i_NotSettled) (defBody s_i_NotSettled) (defScope s_i_NotSettled) .none kV_i_NotSettled dc_i_NotSettled pm_i_NotSettled an_i_NotSettled cd_i_NotSettled ct_i_NotSettled), sl_i_NotSettled⟩)
    (cI_NotSettled : PySem.W.codeIn K cd_i_NotSettled "NotSettled.__init__" = true)
    (kI_NotSettled : PySem.W.keepIn K (.ref f_i_NotSettled) = true)
    (su_NotSettled : PySem.W.subIn K (.ref C_NotSettled) (.ref C_NotSettled) = some true)
    (no_NotSettled : PySem.W.findIn K (.ref C_NotSettled) "many" = some none)
    (su_NotSettled_NoPerson : PySem.W.subIn K (.ref C_NotSettled) (.ref C_NoPerson) = some false)
    (su_NotSettled_NoNumber : PySem.W.subIn K (.ref C_NotSettled) (.ref C_NoNumber) = some false)
    (su_NotSettled_NoDeed : PySem.W.subIn K (.ref C_NotSettled) (.ref C_NoDeed) = some false)
    (su_NotSettled_OtherSize : PySem.W.subIn K (.ref C_NotSettled) (.ref C_OtherSize) = some false)
    (su_NotSettled_NotResult : PySem.W.subIn K (.ref C_NotSettled) (.ref C_NotResult) = some false)
    (su_NotSettled_NotShortest : PySem.W.subIn K (.ref C_NotSettled) (.ref C_NotShortest) = some false)
    (su_NotSettled_NoWord : PySem.W.subIn K (.ref C_NotSettled) (.ref C_NoWord) = some false)
    (su_NotSettled_BadDeed : PySem.W.subIn K (.ref C_NotSettled) (.ref C_BadDeed) = some false)
    (su_NotSettled_BadText : PySem.W.subIn K (.ref C_NotSettled) (.ref C_BadText) = some false)
    (su_NotSettled_BadLine : PySem.W.subIn K (.ref C_NotSettled) (.ref C_BadLine) = some false)
    (su_NotSettled_Last : PySem.W.subIn K (.ref C_NotSettled) (.ref C_Last) = some false)
    (su_NotSettled_TooMany : PySem.W.subIn K (.ref C_NotSettled) (.ref C_TooMany) = some false)
    (sb_NotSettled_LookupError : PySem.W.subIn K (.ref C_NotSettled) (.type "LookupError") = some false)
    (sb_NotSettled_ValueError : PySem.W.subIn K (.ref C_NotSettled) (.type "ValueError") = some false)
    (sb_NotSettled_RuntimeError : PySem.W.subIn K (.ref C_NotSettled) (.type "RuntimeError") = some true)
    (sb_NotSettled_OverflowError : PySem.W.subIn K (.ref C_NotSettled) (.type "OverflowError") = some false)
    (sb_NotSettled_KeyError : PySem.W.subIn K (.ref C_NotSettled) (.type "KeyError") = some false)
    (sb_NotSettled_IndexError : PySem.W.subIn K (.ref C_NotSettled) (.type "IndexError") = some false)
    (xC_Last : K.lookup C_Last = some (excClassObj nm_Last qn_Last C_Last Nn_Last bs_Last [.type "RuntimeError", .type "Exception", .type "BaseException", .type "object"] true sn_Last sub_Last ab_Last col_Last dd_Last m0_Last m1_Last m2_Last m3_Last m5_Last "RuntimeError.__new__"))
    (sa_Last : PySem.W.findIn K (.ref C_Last) "__setattr__" = some (some (.builtin "object.__setattr__")))
    (ga_Last : PySem.W.findIn K (.ref C_Last) "__getattribute__" = some (some (.builtin "BaseException.__getattribute__")))
    (gg_Last : PySem.W.findIn K (.ref C_Last) "__getattr__" = some none)
    (kC_Last : PySem.W.keepIn K (.ref C_Last) = true)
    (hC_Last : PySem.W.hasDictIn K C_Last = true)
    (cl_Last : PySem.W.findIn K (.ref C_Last) "__class__" = some (some (.builtin "object.__class__")))
    (mr_Last : PySem.W.mroIn K C_Last (.type "object") = some true)
    (iC_Last : PySem.W.findIn K (.ref C_Last) "__init__" = some (some (.ref f_i_Last)))
    (tI_Last : PySem.W.typeIn K (.ref f_i_Last) = some (.type "function"))
    (lI_Last : K.lookup f_i_Last = some ⟨oc_i_Last, od_i_Last, .func (PySem.W.fnOf "__init__" "Last.__init__" (defArgs s_i_Last) (defBody s_i_Last) (defScope s_i_Last) .none kV_i_Last dc_i_Last pm_i_Last an_i_Last cd_i_Last ct_i_Last), sl_i_Last⟩)
    (cI_Last : PySem.W.codeIn K cd_i_Last "Last.__init__" = true)
    (kI_Last : PySem.W.keepIn K (.ref f_i_Last) = true)
    (su_Last : PySem.W.subIn K (.ref C_Last) (.ref C_Last) = some true)
    (su_Last_NoPerson : PySem.W.subIn K (.ref C_Last) (.ref C_NoPerson) = some false)
    (su_Last_NoNumber : PySem.W.subIn K (.ref C_Last) (.ref C_NoNumber) = some false)
    (su_Last_NoDeed : PySem.W.subIn K (.ref C_Last) (.ref C_NoDeed) = some false)
    (su_Last_OtherSize : PySem.W.subIn K (.ref C_Last) (.ref C_OtherSize) = some false)
    (su_Last_NotResult : PySem.W.subIn K (.ref C_Last) (.ref C_NotResult) = some false)
    (su_Last_NotShortest : PySem.W.subIn K (.ref C_Last) (.ref C_NotShortest) = some false)
    (su_Last_NoWord : PySem.W.subIn K (.ref C_Last) (.ref C_NoWord) = some false)
    (su_Last_BadDeed : PySem.W.subIn K (.ref C_Last) (.ref C_BadDeed) = some false)
    (su_Last_BadText : PySem.W.subIn K (.ref C_Last) (.ref C_BadText) = some false)
    (su_Last_BadLine : PySem.W.subIn K (.ref C_Last) (.ref C_BadLine) = some false)
    (su_Last_NotSettled : PySem.W.subIn K (.ref C_Last) (.ref C_NotSettled) = some false)
    (su_Last_TooMany : PySem.W.subIn K (.ref C_Last) (.ref C_TooMany) = some false)
    (sb_Last_LookupError : PySem.W.subIn K (.ref C_Last) (.type "LookupError") = some false)
    (sb_Last_ValueError : PySem.W.subIn K (.ref C_Last) (.type "ValueError") = some false)
    (sb_Last_RuntimeError : PySem.W.subIn K (.ref C_Last) (.type "RuntimeError") = some true)
    (sb_Last_OverflowError : PySem.W.subIn K (.ref C_Last) (.type "OverflowError") = some false)
    (sb_Last_KeyError : PySem.W.subIn K (.ref C_Last) (.type "KeyError") = some false)
    (sb_Last_IndexError : PySem.W.subIn K (.ref C_Last) (.type "IndexError") = some false)
    (xC_TooMany : K.lookup C_TooMany = some (excClassObj nm_TooMany qn_TooMany C_TooMany Nn_TooMany bs_TooMany [.type "OverflowError", .type "ArithmeticError", .type "Exception", .type "BaseException", .type "object"] true sn_TooMany sub_TooMany ab_TooMany col_TooMany dd_TooMany m0_TooMany m1_TooMany m2_TooMany m3_TooMany m5_TooMany "OverflowError.__new__"))
    (sa_TooMany : PySem.W.findIn K (.ref C_TooMany) "__setattr__" = some (some (.builtin "object.__setattr__")))
    (ga_TooMany : PySem.W.findIn K (.ref C_TooMany) "__getattribute__" = some (some (.builtin "BaseException.__getattribute__")))
    (gg_TooMany : PySem.W.findIn K (.ref C_TooMany) "__getattr__" = some none)
    (kC_TooMany : PySem.W.keepIn K (.ref C_TooMany) = true)
    (hC_TooMany : PySem.W.hasDictIn K C_TooMany = true)
    (cl_TooMany : PySem.W.findIn K (.ref C_TooMany) "__class__" = some (some (.builtin "object.__class__")))
    (mr_TooMany : PySem.W.mroIn K C_TooMany (.type "object") = some true)
    (iC_TooMany : PySem.W.findIn K (.ref C_TooMany) "__init__" = some (some (.ref f_i_TooMany)))
    (tI_TooMany : PySem.W.typeIn K (.ref f_i_TooMany) = some (.type "function"))
    (lI_TooMany : K.lookup f_i_TooMany = some ⟨oc_i_TooMany, od_i_TooMany, .func (PySem.W.fnOf "__init__" "TooMany.__init__" (defArgs s_i_TooMany) (defBody s_i_TooMany) (defScope s_i_TooMany) .none kV_i_TooMany dc_i_TooMany pm_i_TooMany an_i_TooMany cd_i_TooMany ct_i_TooMany), sl_i_TooMany⟩)
    (cI_TooMany : PySem.W.codeIn K cd_i_TooMany "TooMany.__init__" = true)
    (kI_TooMany : PySem.W.keepIn K (.ref f_i_TooMany) = true)
    (su_TooMany : PySem.W.subIn K (.ref C_TooMany) (.ref C_TooMany) = some true)
    (no_TooMany : PySem.W.findIn K (.ref C_TooMany) "size" = some none)
    (su_TooMany_NoPerson : PySem.W.subIn K (.ref C_TooMany) (.ref C_NoPerson) = some false)
    (su_TooMany_NoNumber : PySem.W.subIn K (.ref C_TooMany) (.ref C_NoNumber) = some false)
    (su_TooMany_NoDeed : PySem.W.subIn K (.ref C_TooMany) (.ref C_NoDeed) = some false)
    (su_TooMany_OtherSize : PySem.W.subIn K (.ref C_TooMany) (.ref C_OtherSize) = some false)
    (su_TooMany_NotResult : PySem.W.subIn K (.ref C_TooMany) (.ref C_NotResult) = some false)
    (su_TooMany_NotShortest : PySem.W.subIn K (.ref C_TooMany) (.ref C_NotShortest) = some false)
    (su_TooMany_NoWord : PySem.W.subIn K (.ref C_TooMany) (.ref C_NoWord) = some false)
    (su_TooMany_BadDeed : PySem.W.subIn K (.ref C_TooMany) (.ref C_BadDeed) = some false)
    (su_TooMany_BadText : PySem.W.subIn K (.ref C_TooMany) (.ref C_BadText) = some false)
    (su_TooMany_BadLine : PySem.W.subIn K (.ref C_TooMany) (.ref C_BadLine) = some false)
    (su_TooMany_NotSettled : PySem.W.subIn K (.ref C_TooMany) (.ref C_NotSettled) = some false)
    (su_TooMany_Last : PySem.W.subIn K (.ref C_TooMany) (.ref C_Last) = some false)
    (sb_TooMany_LookupError : PySem.W.subIn K (.ref C_TooMany) (.type "LookupError") = some false)
    (sb_TooMany_ValueError : PySem.W.subIn K (.ref C_TooMany) (.type "ValueError") = some false)
    (sb_TooMany_RuntimeError : PySem.W.subIn K (.ref C_TooMany) (.type "RuntimeError") = some false)
    (sb_TooMany_OverflowError : PySem.W.subIn K (.ref C_TooMany) (.type "OverflowError") = some true)
    (sb_TooMany_KeyError : PySem.W.subIn K (.ref C_TooMany) (.type "KeyError") = some false)
    (sb_TooMany_IndexError : PySem.W.subIn K (.ref C_TooMany) (.type "IndexError") = some false)
    (vV_LookupError : PySem.W.findCls K (.type "LookupError") (.type "type") "__init__" = some (.val (.builtin "LookupError.__init__")))
    (vV_OverflowError : PySem.W.findCls K (.type "OverflowError") (.type "type") "__init__" = some (.val (.builtin "OverflowError.__init__")))
    (vV_RuntimeError : PySem.W.findCls K (.type "RuntimeError") (.type "type") "__init__" = some (.val (.builtin "RuntimeError.__init__")))
    (vV_ValueError : PySem.W.findCls K (.type "ValueError") (.type "type") "__init__" = some (.val (.builtin "ValueError.__init__")))
    (spG : PySem.W.specialIn K (.builtin "object.__class__") "__get__" = some (some (.builtin "getset_descriptor.__get__")))
    (tkG : PySem.W.takesIn K (.builtin "object.__class__") = some true)
    (z_isinstance : PySem.W.nsIn K mainGlobals "isinstance" = some none) (z_list : PySem.W.nsIn K mainGlobals "list" = some none) (z_tuple : PySem.W.nsIn K mainGlobals "tuple" = some none) (z_len : PySem.W.nsIn K mainGlobals "len" = some none) (z_all : PySem.W.nsIn K mainGlobals "all" = some none) (z_zip : PySem.W.nsIn K mainGlobals "zip" = some none) (z_bool : PySem.W.nsIn K mainGlobals "bool" = some none) (z_str : PySem.W.nsIn K mainGlobals "str" = some none) (z_int : PySem.W.nsIn K mainGlobals "int" = some none) (z_LookupError : PySem.W.nsIn K mainGlobals "LookupError" = some none) (z_ValueError : PySem.W.nsIn K mainGlobals "ValueError" = some none) (z_RuntimeError : PySem.W.nsIn K mainGlobals "RuntimeError" = some none) (z_OverflowError : PySem.W.nsIn K mainGlobals "OverflowError" = some none) (z_enumerate : PySem.W.nsIn K mainGlobals "enumerate" = some none) (z_range : PySem.W.nsIn K mainGlobals "range" = some none) (z_KeyError : PySem.W.nsIn K mainGlobals "KeyError" = some none) (z_IndexError : PySem.W.nsIn K mainGlobals "IndexError" = some none) (z_abs : PySem.W.nsIn K mainGlobals "abs" = some none) :
    ∃ fd : FuncData, (∀ (s : Shared) (v : Value), BindsTo s fd ⟨[v], []⟩ [("_law_script", v)]) ∧ ∀ base : Heap, K.In base → base.Ns mainGlobals mg → FnOk l.prog w K mg base CX0 6 fa fd ["_law_script"] (spLaw K) := by
  have e := hfa.symm.trans (PySem.W.mg_of X G a_law)
  cases e
  let T : Env K mg := {
    n_isinstance := PySem.W.mg_none_of X G z_isinstance,
    n_list := PySem.W.mg_none_of X G z_list,
    n_tuple := PySem.W.mg_none_of X G z_tuple,
    n_len := PySem.W.mg_none_of X G z_len,
    n_all := PySem.W.mg_none_of X G z_all,
    n_zip := PySem.W.mg_none_of X G z_zip,
    n_bool := PySem.W.mg_none_of X G z_bool,
    n_str := PySem.W.mg_none_of X G z_str,
    n_int := PySem.W.mg_none_of X G z_int,
    n_LookupError := PySem.W.mg_none_of X G z_LookupError,
    n_ValueError := PySem.W.mg_none_of X G z_ValueError,
    n_RuntimeError := PySem.W.mg_none_of X G z_RuntimeError,
    n_OverflowError := PySem.W.mg_none_of X G z_OverflowError,
    n_enumerate := PySem.W.mg_none_of X G z_enumerate,
    n_range := PySem.W.mg_none_of X G z_range,
    n_KeyError := PySem.W.mg_none_of X G z_KeyError,
    n_IndexError := PySem.W.mg_none_of X G z_IndexError,
    n_abs := PySem.W.mg_none_of X G z_abs,
    f_same := f_same, d_same := _, F_same := fun_mk (st := s_same) l_same c_same k_same, g_same := PySem.W.mg_of X G a_same,
    f_bases := f_bases, d_bases := _, F_bases := fun_mk (st := s_bases) l_bases c_bases k_bases, g_bases := PySem.W.mg_of X G a_bases,
    f_kinds := f_kinds, d_kinds := _, F_kinds := fun_mk (st := s_kinds) l_kinds c_kinds k_kinds, g_kinds := PySem.W.mg_of X G a_kinds,
    f_all_right := f_all_right, d_all_right := _, F_all_right := fun_mk (st := s_all_right) l_all_right c_all_right k_all_right, g_all_right := PySem.W.mg_of X G a_all_right,
    f_right := f_right, d_right := _, F_right := fun_mk (st := s_right) l_right c_right k_right, g_right := PySem.W.mg_of X G a_right,
    C_NoPerson := C_NoPerson, gC_NoPerson := PySem.W.mg_of X G aC_NoPerson,
    C_NoNumber := C_NoNumber, gC_NoNumber := PySem.W.mg_of X G aC_NoNumber,
    C_NoDeed := C_NoDeed, gC_NoDeed := PySem.W.mg_of X G aC_NoDeed,
    C_OtherSize := C_OtherSize, gC_OtherSize := PySem.W.mg_of X G aC_OtherSize,
    C_NotResult := C_NotResult, gC_NotResult := PySem.W.mg_of X G aC_NotResult,
    C_NotShortest := C_NotShortest, gC_NotShortest := PySem.W.mg_of X G aC_NotShortest,
    C_NoWord := C_NoWord, gC_NoWord := PySem.W.mg_of X G aC_NoWord,
    C_BadDeed := C_BadDeed, gC_BadDeed := PySem.W.mg_of X G aC_BadDeed,
    C_BadText := C_BadText, gC_BadText := PySem.W.mg_of X G aC_BadText,
    C_BadLine := C_BadLine, gC_BadLine := PySem.W.mg_of X G aC_BadLine,
    C_NotSettled := C_NotSettled, gC_NotSettled := PySem.W.mg_of X G aC_NotSettled,
    C_Last := C_Last, gC_Last := PySem.W.mg_of X G aC_Last,
    C_TooMany := C_TooMany, gC_TooMany := PySem.W.mg_of X G aC_TooMany,
    own_NoPerson := ⟨⟨nm_NoPerson, qn_NoPerson, Nn_NoPerson, bs_NoPerson, sn_NoPerson, sub_NoPerson, ab_NoPerson, col_NoPerson, dd_NoPerson, m0_NoPerson, m1_NoPerson, m2_NoPerson, m3_NoPerson, m5_NoPerson, xC_NoPerson⟩, over_of xC_NoPerson (by decide +kernel), sa_NoPerson, ga_NoPerson, gg_NoPerson, eC_NoPerson, tC_NoPerson, kC_NoPerson, hC_NoPerson, cl_NoPerson, mr_NoPerson⟩,
    kpt_NoPerson := ⟨ga_NoPerson, gg_NoPerson, eC_NoPerson, hC_NoPerson, cl_NoPerson, mr_NoPerson, spG, tkG⟩,
    f_i_NoPerson := f_i_NoPerson, d_i_NoPerson := _, F_i_NoPerson := fun_mk (st := s_i_NoPerson) lI_NoPerson cI_NoPerson kI_NoPerson, iC_NoPerson := iC_NoPerson, tI_NoPerson := tI_NoPerson, ee_NoPerson := exm_of' eC_NoPerson is_NoPerson tC_NoPerson su_NoPerson, kk_NoPerson := kit_own su_NoPerson is_NoPerson tC_NoPerson su_NoPerson,
    no_NoPerson := no_NoPerson,
    ex_NoPerson_NoNumber := exm_of' eC_NoNumber is_NoNumber tC_NoNumber su_NoPerson_NoNumber, ki_NoPerson_NoNumber := kit_own su_NoPerson is_NoNumber tC_NoNumber su_NoPerson_NoNumber,
    ex_NoPerson_NoDeed := exm_of' eC_NoDeed is_NoDeed tC_NoDeed su_NoPerson_NoDeed, ki_NoPerson_NoDeed := kit_own su_NoPerson is_NoDeed tC_NoDeed su_NoPerson_NoDeed,
    ex_NoPerson_OtherSize := exm_of' eC_OtherSize is_OtherSize tC_OtherSize su_NoPerson_OtherSize, ki_NoPerson_OtherSize := kit_own su_NoPerson is_OtherSize tC_OtherSize su_NoPerson_OtherSize,
    ex_NoPerson_NotResult := exm_of' eC_NotResult is_NotResult tC_NotResult su_NoPerson_NotResult, ki_NoPerson_NotResult := kit_own su_NoPerson is_NotResult tC_NotResult su_NoPerson_NotResult,
    ex_NoPerson_NotShortest := exm_of' eC_NotShortest is_NotShortest tC_NotShortest su_NoPerson_NotShortest, ki_NoPerson_NotShortest := kit_own su_NoPerson is_NotShortest tC_NotShortest su_NoPerson_NotShortest,
    ex_NoPerson_NoWord := exm_of' eC_NoWord is_NoWord tC_NoWord su_NoPerson_NoWord, ki_NoPerson_NoWord := kit_own su_NoPerson is_NoWord tC_NoWord su_NoPerson_NoWord,
    ex_NoPerson_BadDeed := exm_of' eC_BadDeed is_BadDeed tC_BadDeed su_NoPerson_BadDeed, ki_NoPerson_BadDeed := kit_own su_NoPerson is_BadDeed tC_BadDeed su_NoPerson_BadDeed,
    ex_NoPerson_BadText := exm_of' eC_BadText is_BadText tC_BadText su_NoPerson_BadText, ki_NoPerson_BadText := kit_own su_NoPerson is_BadText tC_BadText su_NoPerson_BadText,
    ex_NoPerson_BadLine := exm_of' eC_BadLine is_BadLine tC_BadLine su_NoPerson_BadLine, ki_NoPerson_BadLine := kit_own su_NoPerson is_BadLine tC_BadLine su_NoPerson_BadLine,
    ex_NoPerson_NotSettled := exm_of' eC_NotSettled is_NotSettled tC_NotSettled su_NoPerson_NotSettled, ki_NoPerson_NotSettled := kit_own su_NoPerson is_NotSettled tC_NotSettled su_NoPerson_NotSettled,
    ex_NoPerson_Last := exm_of' eC_Last is_Last tC_Last su_NoPerson_Last, ki_NoPerson_Last := kit_own su_NoPerson is_Last tC_Last su_NoPerson_Last,
    ex_NoPerson_TooMany := exm_of' eC_TooMany is_TooMany tC_TooMany su_NoPerson_TooMany, ki_NoPerson_TooMany := kit_own su_NoPerson is_TooMany tC_TooMany su_NoPerson_TooMany,
    kb_NoPerson_LookupError := kit_blt (by decide +kernel) sb_NoPerson_LookupError,
    kb_NoPerson_ValueError := kit_blt (by decide +kernel) sb_NoPerson_ValueError,
    kb_NoPerson_RuntimeError := kit_blt (by decide +kernel) sb_NoPerson_RuntimeError,
    kb_NoPerson_OverflowError := kit_blt (by decide +kernel) sb_NoPerson_OverflowError,
    kb_NoPerson_KeyError := kit_blt (by decide +kernel) sb_NoPerson_KeyError,
    kb_NoPerson_IndexError := kit_blt (by decide +kernel) sb_NoPerson_IndexError,
    own_NoNumber := ⟨⟨nm_NoNumber, qn_NoNumber, Nn_NoNumber, bs_NoNumber, sn_NoNumber, sub_NoNumber, ab_NoNumber, col_NoNumber, dd_NoNumber, m0_NoNumber, m1_NoNumber, m2_NoNumber, m3_NoNumber, m5_NoNumber, xC_NoNumber⟩, over_of xC_NoNumber (by decide +kernel), sa_NoNumber, ga_NoNumber, gg_NoNumber, eC_NoNumber, tC_NoNumber, kC_NoNumber, hC_NoNumber, cl_NoNumber, mr_NoNumber⟩,
    kpt_NoNumber := ⟨ga_NoNumber, gg_NoNumber, eC_NoNumber, hC_NoNumber, cl_NoNumber, mr_NoNumber, spG, tkG⟩,
    f_i_NoNumber := f_i_NoNumber, d_i_NoNumber := _, F_i_NoNumber := fun_mk (st := s_i_NoNumber) lI_NoNumber cI_NoNumber kI_NoNumber, iC_NoNumber := iC_NoNumber, tI_NoNumber := tI_NoNumber, ee_NoNumber := exm_of' eC_NoNumber is_NoNumber tC_NoNumber su_NoNumber, kk_NoNumber := kit_own su_NoNumber is_NoNumber tC_NoNumber su_NoNumber,
    no_NoNumber := no_NoNumber,
    ex_NoNumber_NoPerson := exm_of' eC_NoPerson is_NoPerson tC_NoPerson su_NoNumber_NoPerson, ki_NoNumber_NoPerson := kit_own su_NoNumber is_NoPerson tC_NoPerson su_NoNumber_NoPerson,
    ex_NoNumber_NoDeed := exm_of' eC_NoDeed is_NoDeed tC_NoDeed su_NoNumber_NoDeed, ki_NoNumber_NoDeed := kit_own su_NoNumber is_NoDeed tC_NoDeed su_NoNumber_NoDeed,
    ex_NoNumber_OtherSize := exm_of' eC_OtherSize is_OtherSize tC_OtherSize su_NoNumber_OtherSize, ki_NoNumber_OtherSize := kit_own su_NoNumber is_OtherSize tC_OtherSize su_NoNumber_OtherSize,
    ex_NoNumber_NotResult := exm_of' eC_NotResult is_NotResult tC_NotResult su_NoNumber_NotResult, ki_NoNumber_NotResult := kit_own su_NoNumber is_NotResult tC_NotResult su_NoNumber_NotResult,
    ex_NoNumber_NotShortest := exm_of' eC_NotShortest is_NotShortest tC_NotShortest su_NoNumber_NotShortest, ki_NoNumber_NotShortest := kit_own su_NoNumber is_NotShortest tC_NotShortest su_NoNumber_NotShortest,
    ex_NoNumber_NoWord := exm_of' eC_NoWord is_NoWord tC_NoWord su_NoNumber_NoWord, ki_NoNumber_NoWord := kit_own su_NoNumber is_NoWord tC_NoWord su_NoNumber_NoWord,
    ex_NoNumber_BadDeed := exm_of' eC_BadDeed is_BadDeed tC_BadDeed su_NoNumber_BadDeed, ki_NoNumber_BadDeed := kit_own su_NoNumber is_BadDeed tC_BadDeed su_NoNumber_BadDeed,
    ex_NoNumber_BadText := exm_of' eC_BadText is_BadText tC_BadText su_NoNumber_BadText, ki_NoNumber_BadText := kit_own su_NoNumber is_BadText tC_BadText su_NoNumber_BadText,
    ex_NoNumber_BadLine := exm_of' eC_BadLine is_BadLine tC_BadLine su_NoNumber_BadLine, ki_NoNumber_BadLine := kit_own su_NoNumber is_BadLine tC_BadLine su_NoNumber_BadLine,
    ex_NoNumber_NotSettled := exm_of' eC_NotSettled is_NotSettled tC_NotSettled su_NoNumber_NotSettled, ki_NoNumber_NotSettled := kit_own su_NoNumber is_NotSettled tC_NotSettled su_NoNumber_NotSettled,
    ex_NoNumber_Last := exm_of' eC_Last is_Last tC_Last su_NoNumber_Last, ki_NoNumber_Last := kit_own su_NoNumber is_Last tC_Last su_NoNumber_Last,
    ex_NoNumber_TooMany := exm_of' eC_TooMany is_TooMany tC_TooMany su_NoNumber_TooMany, ki_NoNumber_TooMany := kit_own su_NoNumber is_TooMany tC_TooMany su_NoNumber_TooMany,
    kb_NoNumber_LookupError := kit_blt (by decide +kernel) sb_NoNumber_LookupError,
    kb_NoNumber_ValueError := kit_blt (by decide +kernel) sb_NoNumber_ValueError,
    kb_NoNumber_RuntimeError := kit_blt (by decide +kernel) sb_NoNumber_RuntimeError,
    kb_NoNumber_OverflowError := kit_blt (by decide +kernel) sb_NoNumber_OverflowError,
    kb_NoNumber_KeyError := kit_blt (by decide +kernel) sb_NoNumber_KeyError,
    kb_NoNumber_IndexError := kit_blt (by decide +kernel) sb_NoNumber_IndexError,
    own_NoDeed := ⟨⟨nm_NoDeed, qn_NoDeed, Nn_NoDeed, bs_NoDeed, sn_NoDeed, sub_NoDeed, ab_NoDeed, col_NoDeed, dd_NoDeed, m0_NoDeed, m1_NoDeed, m2_NoDeed, m3_NoDeed, m5_NoDeed, xC_NoDeed⟩, over_of xC_NoDeed (by decide +kernel), sa_NoDeed, ga_NoDeed, gg_NoDeed, eC_NoDeed, tC_NoDeed, kC_NoDeed, hC_NoDeed, cl_NoDeed, mr_NoDeed⟩,
    kpt_NoDeed := ⟨ga_NoDeed, gg_NoDeed, eC_NoDeed, hC_NoDeed, cl_NoDeed, mr_NoDeed, spG, tkG⟩,
    f_i_NoDeed := f_i_NoDeed, d_i_NoDeed := _, F_i_NoDeed := fun_mk (st := s_i_NoDeed) lI_NoDeed cI_NoDeed kI_NoDeed, iC_NoDeed := iC_NoDeed, tI_NoDeed := tI_NoDeed, ee_NoDeed := exm_of' eC_NoDeed is_NoDeed tC_NoDeed su_NoDeed, kk_NoDeed := kit_own su_NoDeed is_NoDeed tC_NoDeed su_NoDeed,
    no_NoDeed := no_NoDeed,
    ex_NoDeed_NoPerson := exm_of' eC_NoPerson is_NoPerson tC_NoPerson su_NoDeed_NoPerson, ki_NoDeed_NoPerson := kit_own su_NoDeed is_NoPerson tC_NoPerson su_NoDeed_NoPerson,
    ex_NoDeed_NoNumber := exm_of' eC_NoNumber is_NoNumber tC_NoNumber su_NoDeed_NoNumber, ki_NoDeed_NoNumber := kit_own su_NoDeed is_NoNumber tC_NoNumber su_NoDeed_NoNumber,
    ex_NoDeed_OtherSize := exm_of' eC_OtherSize is_OtherSize tC_OtherSize su_NoDeed_OtherSize, ki_NoDeed_OtherSize := kit_own su_NoDeed is_OtherSize tC_OtherSize su_NoDeed_OtherSize,
    ex_NoDeed_NotResult := exm_of' eC_NotResult is_NotResult tC_NotResult su_NoDeed_NotResult, ki_NoDeed_NotResult := kit_own su_NoDeed is_NotResult tC_NotResult su_NoDeed_NotResult,
    ex_NoDeed_NotShortest := exm_of' eC_NotShortest is_NotShortest tC_NotShortest su_NoDeed_NotShortest, ki_NoDeed_NotShortest := kit_own su_NoDeed is_NotShortest tC_NotShortest su_NoDeed_NotShortest,
    ex_NoDeed_NoWord := exm_of' eC_NoWord is_NoWord tC_NoWord su_NoDeed_NoWord, ki_NoDeed_NoWord := kit_own su_NoDeed is_NoWord tC_NoWord su_NoDeed_NoWord,
    ex_NoDeed_BadDeed := exm_of' eC_BadDeed is_BadDeed tC_BadDeed su_NoDeed_BadDeed, ki_NoDeed_BadDeed := kit_own su_NoDeed is_BadDeed tC_BadDeed su_NoDeed_BadDeed,
    ex_NoDeed_BadText := exm_of' eC_BadText is_BadText tC_BadText su_NoDeed_BadText, ki_NoDeed_BadText := kit_own su_NoDeed is_BadText tC_BadText su_NoDeed_BadText,
    ex_NoDeed_BadLine := exm_of' eC_BadLine is_BadLine tC_BadLine su_NoDeed_BadLine, ki_NoDeed_BadLine := kit_own su_NoDeed is_BadLine tC_BadLine su_NoDeed_BadLine,
    ex_NoDeed_NotSettled := exm_of' eC_NotSettled is_NotSettled tC_NotSettled su_NoDeed_NotSettled, ki_NoDeed_NotSettled := kit_own su_NoDeed is_NotSettled tC_NotSettled su_NoDeed_NotSettled,
    ex_NoDeed_Last := exm_of' eC_Last is_Last tC_Last su_NoDeed_Last, ki_NoDeed_Last := kit_own su_NoDeed is_Last tC_Last su_NoDeed_Last,
    ex_NoDeed_TooMany := exm_of' eC_TooMany is_TooMany tC_TooMany su_NoDeed_TooMany, ki_NoDeed_TooMany := kit_own su_NoDeed is_TooMany tC_TooMany su_NoDeed_TooMany,
    kb_NoDeed_LookupError := kit_blt (by decide +kernel) sb_NoDeed_LookupError,
    kb_NoDeed_ValueError := kit_blt (by decide +kernel) sb_NoDeed_ValueError,
    kb_NoDeed_RuntimeError := kit_blt (by decide +kernel) sb_NoDeed_RuntimeError,
    kb_NoDeed_OverflowError := kit_blt (by decide +kernel) sb_NoDeed_OverflowError,
    kb_NoDeed_KeyError := kit_blt (by decide +kernel) sb_NoDeed_KeyError,
    kb_NoDeed_IndexError := kit_blt (by decide +kernel) sb_NoDeed_IndexError,
    own_OtherSize := ⟨⟨nm_OtherSize, qn_OtherSize, Nn_OtherSize, bs_OtherSize, sn_OtherSize, sub_OtherSize, ab_OtherSize, col_OtherSize, dd_OtherSize, m0_OtherSize, m1_OtherSize, m2_OtherSize, m3_OtherSize, m5_OtherSize, xC_OtherSize⟩, over_of xC_OtherSize (by decide +kernel), sa_OtherSize, ga_OtherSize, gg_OtherSize, eC_OtherSize, tC_OtherSize, kC_OtherSize, hC_OtherSize, cl_OtherSize, mr_OtherSize⟩,
    kpt_OtherSize := ⟨ga_OtherSize, gg_OtherSize, eC_OtherSize, hC_OtherSize, cl_OtherSize, mr_OtherSize, spG, tkG⟩,
    f_i_OtherSize := f_i_OtherSize, d_i_OtherSize := _, F_i_OtherSize := fun_mk (st := s_i_OtherSize) lI_OtherSize cI_OtherSize kI_OtherSize, iC_OtherSize := iC_OtherSize, tI_OtherSize := tI_OtherSize, ee_OtherSize := exm_of' eC_OtherSize is_OtherSize tC_OtherSize su_OtherSize, kk_OtherSize := kit_own su_OtherSize is_OtherSize tC_OtherSize su_OtherSize,
    no_OtherSize := no_OtherSize,
    ex_OtherSize_NoPerson := exm_of' eC_NoPerson is_NoPerson tC_NoPerson su_OtherSize_NoPerson, ki_OtherSize_NoPerson := kit_own su_OtherSize is_NoPerson tC_NoPerson su_OtherSize_NoPerson,
    ex_OtherSize_NoNumber := exm_of' eC_NoNumber is_NoNumber tC_NoNumber su_OtherSize_NoNumber, ki_OtherSize_NoNumber := kit_own su_OtherSize is_NoNumber tC_NoNumber su_OtherSize_NoNumber,
    ex_OtherSize_NoDeed := exm_of' eC_NoDeed is_NoDeed tC_NoDeed su_OtherSize_NoDeed, ki_OtherSize_NoDeed := kit_own su_OtherSize is_NoDeed tC_NoDeed su_OtherSize_NoDeed,
    ex_OtherSize_NotResult := exm_of' eC_NotResult is_NotResult tC_NotResult su_OtherSize_NotResult, ki_OtherSize_NotResult := kit_own su_OtherSize is_NotResult tC_NotResult su_OtherSize_NotResult,
    ex_OtherSize_NotShortest := exm_of' eC_NotShortest is_NotShortest tC_NotShortest su_OtherSize_NotShortest, ki_OtherSize_NotShortest := kit_own su_OtherSize is_NotShortest tC_NotShortest su_OtherSize_NotShortest,
    ex_OtherSize_NoWord := exm_of' eC_NoWord is_NoWord tC_NoWord su_OtherSize_NoWord, ki_OtherSize_NoWord := kit_own su_OtherSize is_NoWord tC_NoWord su_OtherSize_NoWord,
    ex_OtherSize_BadDeed := exm_of' eC_BadDeed is_BadDeed tC_BadDeed su_OtherSize_BadDeed, ki_OtherSize_BadDeed := kit_own su_OtherSize is_BadDeed tC_BadDeed su_OtherSize_BadDeed,
    ex_OtherSize_BadText := exm_of' eC_BadText is_BadText tC_BadText su_OtherSize_BadText, ki_OtherSize_BadText := kit_own su_OtherSize is_BadText tC_BadText su_OtherSize_BadText,
    ex_OtherSize_BadLine := exm_of' eC_BadLine is_BadLine tC_BadLine su_OtherSize_BadLine, ki_OtherSize_BadLine := kit_own su_OtherSize is_BadLine tC_BadLine su_OtherSize_BadLine,
    ex_OtherSize_NotSettled := exm_of' eC_NotSettled is_NotSettled tC_NotSettled su_OtherSize_NotSettled, ki_OtherSize_NotSettled := kit_own su_OtherSize is_NotSettled tC_NotSettled su_OtherSize_NotSettled,
    ex_OtherSize_Last := exm_of' eC_Last is_Last tC_Last su_OtherSize_Last, ki_OtherSize_Last := kit_own su_OtherSize is_Last tC_Last su_OtherSize_Last,
    ex_OtherSize_TooMany := exm_of' eC_TooMany is_TooMany tC_TooMany su_OtherSize_TooMany, ki_OtherSize_TooMany := kit_own su_OtherSize is_TooMany tC_TooMany su_OtherSize_TooMany,
    kb_OtherSize_LookupError := kit_blt (by decide +kernel) sb_OtherSize_LookupError,
    kb_OtherSize_ValueError := kit_blt (by decide +kernel) sb_OtherSize_ValueError,
    kb_OtherSize_RuntimeError := kit_blt (by decide +kernel) sb_OtherSize_RuntimeError,
    kb_OtherSize_OverflowError := kit_blt (by decide +kernel) sb_OtherSize_OverflowError,
    kb_OtherSize_KeyError := kit_blt (by decide +kernel) sb_OtherSize_KeyError,
    kb_OtherSize_IndexError := kit_blt (by decide +kernel) sb_OtherSize_IndexError,
    own_NotResult := ⟨⟨nm_NotResult, qn_NotResult, Nn_NotResult, bs_NotResult, sn_NotResult, sub_NotResult, ab_NotResult, col_NotResult, dd_NotResult, m0_NotResult, m1_NotResult, m2_NotResult, m3_NotResult, m5_NotResult, xC_NotResult⟩, over_of xC_NotResult (by decide +kernel), sa_NotResult, ga_NotResult, gg_NotResult, eC_NotResult, tC_NotResult, kC_NotResult, hC_NotResult, cl_NotResult, mr_NotResult⟩,
    kpt_NotResult := ⟨ga_NotResult, gg_NotResult, eC_NotResult, hC_NotResult, cl_NotResult, mr_NotResult, spG, tkG⟩,
    f_i_NotResult := f_i_NotResult, d_i_NotResult := _, F_i_NotResult := fun_mk (st := s_i_NotResult) lI_NotResult cI_NotResult kI_NotResult, iC_NotResult := iC_NotResult, tI_NotResult := tI_NotResult, ee_NotResult := exm_of' eC_NotResult is_NotResult tC_NotResult su_NotResult, kk_NotResult := kit_own su_NotResult is_NotResult tC_NotResult su_NotResult,
    no_NotResult := no_NotResult,
    ex_NotResult_NoPerson := exm_of' eC_NoPerson is_NoPerson tC_NoPerson su_NotResult_NoPerson, ki_NotResult_NoPerson := kit_own su_NotResult is_NoPerson tC_NoPerson su_NotResult_NoPerson,
    ex_NotResult_NoNumber := exm_of' eC_NoNumber is_NoNumber tC_NoNumber su_NotResult_NoNumber, ki_NotResult_NoNumber := kit_own su_NotResult is_NoNumber tC_NoNumber su_NotResult_NoNumber,
    ex_NotResult_NoDeed := exm_of' eC_NoDeed is_NoDeed tC_NoDeed su_NotResult_NoDeed, ki_NotResult_NoDeed := kit_own su_NotResult is_NoDeed tC_NoDeed su_NotResult_NoDeed,
    ex_NotResult_OtherSize := exm_of' eC_OtherSize is_OtherSize tC_OtherSize su_NotResult_OtherSize, ki_NotResult_OtherSize := kit_own su_NotResult is_OtherSize tC_OtherSize su_NotResult_OtherSize,
    ex_NotResult_NotShortest := exm_of' eC_NotShortest is_NotShortest tC_NotShortest su_NotResult_NotShortest, ki_NotResult_NotShortest := kit_own su_NotResult is_NotShortest tC_NotShortest su_NotResult_NotShortest,
    ex_NotResult_NoWord := exm_of' eC_NoWord is_NoWord tC_NoWord su_NotResult_NoWord, ki_NotResult_NoWord := kit_own su_NotResult is_NoWord tC_NoWord su_NotResult_NoWord,
    ex_NotResult_BadDeed := exm_of' eC_BadDeed is_BadDeed tC_BadDeed su_NotResult_BadDeed, ki_NotResult_BadDeed := kit_own su_NotResult is_BadDeed tC_BadDeed su_NotResult_BadDeed,
    ex_NotResult_BadText := exm_of' eC_BadText is_BadText tC_BadText su_NotResult_BadText, ki_NotResult_BadText := kit_own su_NotResult is_BadText tC_BadText su_NotResult_BadText,
    ex_NotResult_BadLine := exm_of' eC_BadLine is_BadLine tC_BadLine su_NotResult_BadLine, ki_NotResult_BadLine := kit_own su_NotResult is_BadLine tC_BadLine su_NotResult_BadLine,
    ex_NotResult_NotSettled := exm_of' eC_NotSettled is_NotSettled tC_NotSettled su_NotResult_NotSettled, ki_NotResult_NotSettled := kit_own su_NotResult is_NotSettled tC_NotSettled su_NotResult_NotSettled,
    ex_NotResult_Last := exm_of' eC_Last is_Last tC_Last su_NotResult_Last, ki_NotResult_Last := kit_own su_NotResult is_Last tC_Last su_NotResult_Last,
    ex_NotResult_TooMany := exm_of' eC_TooMany is_TooMany tC_TooMany su_NotResult_TooMany, ki_NotResult_TooMany := kit_own su_NotResult is_TooMany tC_TooMany su_NotResult_TooMany,
    kb_NotResult_LookupError := kit_blt (by decide +kernel) sb_NotResult_LookupError,
    kb_NotResult_ValueError := kit_blt (by decide +kernel) sb_NotResult_ValueError,
    kb_NotResult_RuntimeError := kit_blt (by decide +kernel) sb_NotResult_RuntimeError,
    kb_NotResult_OverflowError := kit_blt (by decide +kernel) sb_NotResult_OverflowError,
    kb_NotResult_KeyError := kit_blt (by decide +kernel) sb_NotResult_KeyError,
    kb_NotResult_IndexError := kit_blt (by decide +kernel) sb_NotResult_IndexError,
    own_NotShortest := ⟨⟨nm_NotShortest, qn_NotShortest, Nn_NotShortest, bs_NotShortest, sn_NotShortest, sub_NotShortest, ab_NotShortest, col_NotShortest, dd_NotShortest, m0_NotShortest, m1_NotShortest, m2_NotShortest, m3_NotShortest, m5_NotShortest, xC_NotShortest⟩, over_of xC_NotShortest (by decide +kernel), sa_NotShortest, ga_NotShortest, gg_NotShortest, eC_NotShortest, tC_NotShortest, kC_NotShortest, hC_NotShortest, cl_NotShortest, mr_NotShortest⟩,
    kpt_NotShortest := ⟨ga_NotShortest, gg_NotShortest, eC_NotShortest, hC_NotShortest, cl_NotShortest, mr_NotShortest, spG, tkG⟩,
    f_i_NotShortest := f_i_NotShortest, d_i_NotShortest := _, F_i_NotShortest := fun_mk (st := s_i_NotShortest) lI_NotShortest cI_NotShortest kI_NotShortest, iC_NotShortest := iC_NotShortest, tI_NotShortest := tI_NotShortest, ee_NotShortest := exm_of' eC_NotShortest is_NotShortest tC_NotShortest su_NotShortest, kk_NotShortest := kit_own su_NotShortest is_NotShortest tC_NotShortest su_NotShortest,
    ex_NotShortest_NoPerson := exm_of' eC_NoPerson is_NoPerson tC_NoPerson su_NotShortest_NoPerson, ki_NotShortest_NoPerson := kit_own su_NotShortest is_NoPerson tC_NoPerson su_NotShortest_NoPerson,
    ex_NotShortest_NoNumber := exm_of' eC_NoNumber is_NoNumber tC_NoNumber su_NotShortest_NoNumber, ki_NotShortest_NoNumber := kit_own su_NotShortest is_NoNumber tC_NoNumber su_NotShortest_NoNumber,
    ex_NotShortest_NoDeed := exm_of' eC_NoDeed is_NoDeed tC_NoDeed su_NotShortest_NoDeed, ki_NotShortest_NoDeed := kit_own su_NotShortest is_NoDeed tC_NoDeed su_NotShortest_NoDeed,
    ex_NotShortest_OtherSize := exm_of' eC_OtherSize is_OtherSize tC_OtherSize su_NotShortest_OtherSize, ki_NotShortest_OtherSize := kit_own su_NotShortest is_OtherSize tC_OtherSize su_NotShortest_OtherSize,
    ex_NotShortest_NotResult := exm_of' eC_NotResult is_NotResult tC_NotResult su_NotShortest_NotResult, ki_NotShortest_NotResult := kit_own su_NotShortest is_NotResult tC_NotResult su_NotShortest_NotResult,
    ex_NotShortest_NoWord := exm_of' eC_NoWord is_NoWord tC_NoWord su_NotShortest_NoWord, ki_NotShortest_NoWord := kit_own su_NotShortest is_NoWord tC_NoWord su_NotShortest_NoWord,
    ex_NotShortest_BadDeed := exm_of' eC_BadDeed is_BadDeed tC_BadDeed su_NotShortest_BadDeed, ki_NotShortest_BadDeed := kit_own su_NotShortest is_BadDeed tC_BadDeed su_NotShortest_BadDeed,
    ex_NotShortest_BadText := exm_of' eC_BadText is_BadText tC_BadText su_NotShortest_BadText, ki_NotShortest_BadText := kit_own su_NotShortest is_BadText tC_BadText su_NotShortest_BadText,
    ex_NotShortest_BadLine := exm_of' eC_BadLine is_BadLine tC_BadLine su_NotShortest_BadLine, ki_NotShortest_BadLine := kit_own su_NotShortest is_BadLine tC_BadLine su_NotShortest_BadLine,
    ex_NotShortest_NotSettled := exm_of' eC_NotSettled is_NotSettled tC_NotSettled su_NotShortest_NotSettled, ki_NotShortest_NotSettled := kit_own su_NotShortest is_NotSettled tC_NotSettled su_NotShortest_NotSettled,
    ex_NotShortest_Last := exm_of' eC_Last is_Last tC_Last su_NotShortest_Last, ki_NotShortest_Last := kit_own su_NotShortest is_Last tC_Last su_NotShortest_Last,
    ex_NotShortest_TooMany := exm_of' eC_TooMany is_TooMany tC_TooMany su_NotShortest_TooMany, ki_NotShortest_TooMany := kit_own su_NotShortest is_TooMany tC_TooMany su_NotShortest_TooMany,
    kb_NotShortest_LookupError := kit_blt (by decide +kernel) sb_NotShortest_LookupError,
    kb_NotShortest_ValueError := kit_blt (by decide +kernel) sb_NotShortest_ValueError,
    kb_NotShortest_RuntimeError := kit_blt (by decide +kernel) sb_NotShortest_RuntimeError,
    kb_NotShortest_OverflowError := kit_blt (by decide +kernel) sb_NotShortest_OverflowError,
    kb_NotShortest_KeyError := kit_blt (by decide +kernel) sb_NotShortest_KeyError,
    kb_NotShortest_IndexError := kit_blt (by decide +kernel) sb_NotShortest_IndexError,
    own_NoWord := ⟨⟨nm_NoWord, qn_NoWord, Nn_NoWord, bs_NoWord, sn_NoWord, sub_NoWord, ab_NoWord, col_NoWord, dd_NoWord, m0_NoWord, m1_NoWord, m2_NoWord, m3_NoWord, m5_NoWord, xC_NoWord⟩, over_of xC_NoWord (by decide +kernel), sa_NoWord, ga_NoWord, gg_NoWord, eC_NoWord, tC_NoWord, kC_NoWord, hC_NoWord, cl_NoWord, mr_NoWord⟩,
    kpt_NoWord := ⟨ga_NoWord, gg_NoWord, eC_NoWord, hC_NoWord, cl_NoWord, mr_NoWord, spG, tkG⟩,
    f_i_NoWord := f_i_NoWord, d_i_NoWord := _, F_i_NoWord := fun_mk (st := s_i_NoWord) lI_NoWord cI_NoWord kI_NoWord, iC_NoWord := iC_NoWord, tI_NoWord := tI_NoWord, ee_NoWord := exm_of' eC_NoWord is_NoWord tC_NoWord su_NoWord, kk_NoWord := kit_own su_NoWord is_NoWord tC_NoWord su_NoWord,
    ex_NoWord_NoPerson := exm_of' eC_NoPerson is_NoPerson tC_NoPerson su_NoWord_NoPerson, ki_NoWord_NoPerson := kit_own su_NoWord is_NoPerson tC_NoPerson su_NoWord_NoPerson,
    ex_NoWord_NoNumber := exm_of' eC_NoNumber is_NoNumber tC_NoNumber su_NoWord_NoNumber, ki_NoWord_NoNumber := kit_own su_NoWord is_NoNumber tC_NoNumber su_NoWord_NoNumber,
    ex_NoWord_NoDeed := exm_of' eC_NoDeed is_NoDeed tC_NoDeed su_NoWord_NoDeed, ki_NoWord_NoDeed := kit_own su_NoWord is_NoDeed tC_NoDeed su_NoWord_NoDeed,
    ex_NoWord_OtherSize := exm_of' eC_OtherSize is_OtherSize tC_OtherSize su_NoWord_OtherSize, ki_NoWord_OtherSize := kit_own su_NoWord is_OtherSize tC_OtherSize su_NoWord_OtherSize,
    ex_NoWord_NotResult := exm_of' eC_NotResult is_NotResult tC_NotResult su_NoWord_NotResult, ki_NoWord_NotResult := kit_own su_NoWord is_NotResult tC_NotResult su_NoWord_NotResult,
    ex_NoWord_NotShortest := exm_of' eC_NotShortest is_NotShortest tC_NotShortest su_NoWord_NotShortest, ki_NoWord_NotShortest := kit_own su_NoWord is_NotShortest tC_NotShortest su_NoWord_NotShortest,
    ex_NoWord_BadDeed := exm_of' eC_BadDeed is_BadDeed tC_BadDeed su_NoWord_BadDeed, ki_NoWord_BadDeed := kit_own su_NoWord is_BadDeed tC_BadDeed su_NoWord_BadDeed,
    ex_NoWord_BadText := exm_of' eC_BadText is_BadText tC_BadText su_NoWord_BadText, ki_NoWord_BadText := kit_own su_NoWord is_BadText tC_BadText su_NoWord_BadText,
    ex_NoWord_BadLine := exm_of' eC_BadLine is_BadLine tC_BadLine su_NoWord_BadLine, ki_NoWord_BadLine := kit_own su_NoWord is_BadLine tC_BadLine su_NoWord_BadLine,
    ex_NoWord_NotSettled := exm_of' eC_NotSettled is_NotSettled tC_NotSettled su_NoWord_NotSettled, ki_NoWord_NotSettled := kit_own su_NoWord is_NotSettled tC_NotSettled su_NoWord_NotSettled,
    ex_NoWord_Last := exm_of' eC_Last is_Last tC_Last su_NoWord_Last, ki_NoWord_Last := kit_own su_NoWord is_Last tC_Last su_NoWord_Last,
    ex_NoWord_TooMany := exm_of' eC_TooMany is_TooMany tC_TooMany su_NoWord_TooMany, ki_NoWord_TooMany := kit_own su_NoWord is_TooMany tC_TooMany su_NoWord_TooMany,
    kb_NoWord_LookupError := kit_blt (by decide +kernel) sb_NoWord_LookupError,
    kb_NoWord_ValueError := kit_blt (by decide +kernel) sb_NoWord_ValueError,
    kb_NoWord_RuntimeError := kit_blt (by decide +kernel) sb_NoWord_RuntimeError,
    kb_NoWord_OverflowError := kit_blt (by decide +kernel) sb_NoWord_OverflowError,
    kb_NoWord_KeyError := kit_blt (by decide +kernel) sb_NoWord_KeyError,
    kb_NoWord_IndexError := kit_blt (by decide +kernel) sb_NoWord_IndexError,
    own_BadDeed := ⟨⟨nm_BadDeed, qn_BadDeed, Nn_BadDeed, bs_BadDeed, sn_BadDeed, sub_BadDeed, ab_BadDeed, col_BadDeed, dd_BadDeed, m0_BadDeed, m1_BadDeed, m2_BadDeed, m3_BadDeed, m5_BadDeed, xC_BadDeed⟩, over_of xC_BadDeed (by decide +kernel), sa_BadDeed, ga_BadDeed, gg_BadDeed, eC_BadDeed, tC_BadDeed, kC_BadDeed, hC_BadDeed, cl_BadDeed, mr_BadDeed⟩,
    kpt_BadDeed := ⟨ga_BadDeed, gg_BadDeed, eC_BadDeed, hC_BadDeed, cl_BadDeed, mr_BadDeed, spG, tkG⟩,
    f_i_BadDeed := f_i_BadDeed, d_i_BadDeed := _, F_i_BadDeed := fun_mk (st := s_i_BadDeed) lI_BadDeed cI_BadDeed kI_BadDeed, iC_BadDeed := iC_BadDeed, tI_BadDeed := tI_BadDeed, ee_BadDeed := exm_of' eC_BadDeed is_BadDeed tC_BadDeed su_BadDeed, kk_BadDeed := kit_own su_BadDeed is_BadDeed tC_BadDeed su_BadDeed,
    no_BadDeed := no_BadDeed,
    ex_BadDeed_NoPerson := exm_of' eC_NoPerson is_NoPerson tC_NoPerson su_BadDeed_NoPerson, ki_BadDeed_NoPerson := kit_own su_BadDeed is_NoPerson tC_NoPerson su_BadDeed_NoPerson,
    ex_BadDeed_NoNumber := exm_of' eC_NoNumber is_NoNumber tC_NoNumber su_BadDeed_NoNumber, ki_BadDeed_NoNumber := kit_own su_BadDeed is_NoNumber tC_NoNumber su_BadDeed_NoNumber,
    ex_BadDeed_NoDeed := exm_of' eC_NoDeed is_NoDeed tC_NoDeed su_BadDeed_NoDeed, ki_BadDeed_NoDeed := kit_own su_BadDeed is_NoDeed tC_NoDeed su_BadDeed_NoDeed,
    ex_BadDeed_OtherSize := exm_of' eC_OtherSize is_OtherSize tC_OtherSize su_BadDeed_OtherSize, ki_BadDeed_OtherSize := kit_own su_BadDeed is_OtherSize tC_OtherSize su_BadDeed_OtherSize,
    ex_BadDeed_NotResult := exm_of' eC_NotResult is_NotResult tC_NotResult su_BadDeed_NotResult, ki_BadDeed_NotResult := kit_own su_BadDeed is_NotResult tC_NotResult su_BadDeed_NotResult,
    ex_BadDeed_NotShortest := exm_of' eC_NotShortest is_NotShortest tC_NotShortest su_BadDeed_NotShortest, ki_BadDeed_NotShortest := kit_own su_BadDeed is_NotShortest tC_NotShortest su_BadDeed_NotShortest,
    ex_BadDeed_NoWord := exm_of' eC_NoWord is_NoWord tC_NoWord su_BadDeed_NoWord, ki_BadDeed_NoWord := kit_own su_BadDeed is_NoWord tC_NoWord su_BadDeed_NoWord,
    ex_BadDeed_BadText := exm_of' eC_BadText is_BadText tC_BadText su_BadDeed_BadText, ki_BadDeed_BadText := kit_own su_BadDeed is_BadText tC_BadText su_BadDeed_BadText,
    ex_BadDeed_BadLine := exm_of' eC_BadLine is_BadLine tC_BadLine su_BadDeed_BadLine, ki_BadDeed_BadLine := kit_own su_BadDeed is_BadLine tC_BadLine su_BadDeed_BadLine,
    ex_BadDeed_NotSettled := exm_of' eC_NotSettled is_NotSettled tC_NotSettled su_BadDeed_NotSettled, ki_BadDeed_NotSettled := kit_own su_BadDeed is_NotSettled tC_NotSettled su_BadDeed_NotSettled,
    ex_BadDeed_Last := exm_of' eC_Last is_Last tC_Last su_BadDeed_Last, ki_BadDeed_Last := kit_own su_BadDeed is_Last tC_Last su_BadDeed_Last,
    ex_BadDeed_TooMany := exm_of' eC_TooMany is_TooMany tC_TooMany su_BadDeed_TooMany, ki_BadDeed_TooMany := kit_own su_BadDeed is_TooMany tC_TooMany su_BadDeed_TooMany,
    kb_BadDeed_LookupError := kit_blt (by decide +kernel) sb_BadDeed_LookupError,
    kb_BadDeed_ValueError := kit_blt (by decide +kernel) sb_BadDeed_ValueError,
    kb_BadDeed_RuntimeError := kit_blt (by decide +kernel) sb_BadDeed_RuntimeError,
    kb_BadDeed_OverflowError := kit_blt (by decide +kernel) sb_BadDeed_OverflowError,
    kb_BadDeed_KeyError := kit_blt (by decide +kernel) sb_BadDeed_KeyError,
    kb_BadDeed_IndexError := kit_blt (by decide +kernel) sb_BadDeed_IndexError,
    own_BadText := ⟨⟨nm_BadText, qn_BadText, Nn_BadText, bs_BadText, sn_BadText, sub_BadText, ab_BadText, col_BadText, dd_BadText, m0_BadText, m1_BadText, m2_BadText, m3_BadText, m5_BadText, xC_BadText⟩, over_of xC_BadText (by decide +kernel), sa_BadText, ga_BadText, gg_BadText, eC_BadText, tC_BadText, kC_BadText, hC_BadText, cl_BadText, mr_BadText⟩,
    kpt_BadText := ⟨ga_BadText, gg_BadText, eC_BadText, hC_BadText, cl_BadText, mr_BadText, spG, tkG⟩,
    f_i_BadText := f_i_BadText, d_i_BadText := _, F_i_BadText := fun_mk (st := s_i_BadText) lI_BadText cI_BadText kI_BadText, iC_BadText := iC_BadText, tI_BadText := tI_BadText, ee_BadText := exm_of' eC_BadText is_BadText tC_BadText su_BadText, kk_BadText := kit_own su_BadText is_BadText tC_BadText su_BadText,
    no_BadText := no_BadText,
    ex_BadText_NoPerson := exm_of' eC_NoPerson is_NoPerson tC_NoPerson su_BadText_NoPerson, ki_BadText_NoPerson := kit_own su_BadText is_NoPerson tC_NoPerson su_BadText_NoPerson,
    ex_BadText_NoNumber := exm_of' eC_NoNumber is_NoNumber tC_NoNumber su_BadText_NoNumber, ki_BadText_NoNumber := kit_own su_BadText is_NoNumber tC_NoNumber su_BadText_NoNumber,
    ex_BadText_NoDeed := exm_of' eC_NoDeed is_NoDeed tC_NoDeed su_BadText_NoDeed, ki_BadText_NoDeed := kit_own su_BadText is_NoDeed tC_NoDeed su_BadText_NoDeed,
    ex_BadText_OtherSize := exm_of' eC_OtherSize is_OtherSize tC_OtherSize su_BadText_OtherSize, ki_BadText_OtherSize := kit_own su_BadText is_OtherSize tC_OtherSize su_BadText_OtherSize,
    ex_BadText_NotResult := exm_of' eC_NotResult is_NotResult tC_NotResult su_BadText_NotResult, ki_BadText_NotResult := kit_own su_BadText is_NotResult tC_NotResult su_BadText_NotResult,
    ex_BadText_NotShortest := exm_of' eC_NotShortest is_NotShortest tC_NotShortest su_BadText_NotShortest, ki_BadText_NotShortest := kit_own su_BadText is_NotShortest tC_NotShortest su_BadText_NotShortest,
    ex_BadText_NoWord := exm_of' eC_NoWord is_NoWord tC_NoWord su_BadText_NoWord, ki_BadText_NoWord := kit_own su_BadText is_NoWord tC_NoWord su_BadText_NoWord,
    ex_BadText_BadDeed := exm_of' eC_BadDeed is_BadDeed tC_BadDeed su_BadText_BadDeed, ki_BadText_BadDeed := kit_own su_BadText is_BadDeed tC_BadDeed su_BadText_BadDeed,
    ex_BadText_BadLine := exm_of' eC_BadLine is_BadLine tC_BadLine su_BadText_BadLine, ki_BadText_BadLine := kit_own su_BadText is_BadLine tC_BadLine su_BadText_BadLine,
    ex_BadText_NotSettled := exm_of' eC_NotSettled is_NotSettled tC_NotSettled su_BadText_NotSettled, ki_BadText_NotSettled := kit_own su_BadText is_NotSettled tC_NotSettled su_BadText_NotSettled,
    ex_BadText_Last := exm_of' eC_Last is_Last tC_Last su_BadText_Last, ki_BadText_Last := kit_own su_BadText is_Last tC_Last su_BadText_Last,
    ex_BadText_TooMany := exm_of' eC_TooMany is_TooMany tC_TooMany su_BadText_TooMany, ki_BadText_TooMany := kit_own su_BadText is_TooMany tC_TooMany su_BadText_TooMany,
    kb_BadText_LookupError := kit_blt (by decide +kernel) sb_BadText_LookupError,
    kb_BadText_ValueError := kit_blt (by decide +kernel) sb_BadText_ValueError,
    kb_BadText_RuntimeError := kit_blt (by decide +kernel) sb_BadText_RuntimeError,
    kb_BadText_OverflowError := kit_blt (by decide +kernel) sb_BadText_OverflowError,
    kb_BadText_KeyError := kit_blt (by decide +kernel) sb_BadText_KeyError,
    kb_BadText_IndexError := kit_blt (by decide +kernel) sb_BadText_IndexError,
    own_BadLine := ⟨⟨nm_BadLine, qn_BadLine, Nn_BadLine, bs_BadLine, sn_BadLine, sub_BadLine, ab_BadLine, col_BadLine, dd_BadLine, m0_BadLine, m1_BadLine, m2_BadLine, m3_BadLine, m5_BadLine, xC_BadLine⟩, over_of xC_BadLine (by decide +kernel), sa_BadLine, ga_BadLine, gg_BadLine, eC_BadLine, tC_BadLine, kC_BadLine, hC_BadLine, cl_BadLine, mr_BadLine⟩,
    kpt_BadLine := ⟨ga_BadLine, gg_BadLine, eC_BadLine, hC_BadLine, cl_BadLine, mr_BadLine, spG, tkG⟩,
    f_i_BadLine := f_i_BadLine, d_i_BadLine := _, F_i_BadLine := fun_mk (st := s_i_BadLine) lI_BadLine cI_BadLine kI_BadLine, iC_BadLine := iC_BadLine, tI_BadLine := tI_BadLine, ee_BadLine := exm_of' eC_BadLine is_BadLine tC_BadLine su_BadLine, kk_BadLine := kit_own su_BadLine is_BadLine tC_BadLine su_BadLine,
    no_BadLine := no_BadLine,
    ex_BadLine_NoPerson := exm_of' eC_NoPerson is_NoPerson tC_NoPerson su_BadLine_NoPerson, ki_BadLine_NoPerson := kit_own su_BadLine is_NoPerson tC_NoPerson su_BadLine_NoPerson,
    ex_BadLine_NoNumber := exm_of' eC_NoNumber is_NoNumber tC_NoNumber su_BadLine_NoNumber, ki_BadLine_NoNumber := kit_own su_BadLine is_NoNumber tC_NoNumber su_BadLine_NoNumber,
    ex_BadLine_NoDeed := exm_of' eC_NoDeed is_NoDeed tC_NoDeed su_BadLine_NoDeed, ki_BadLine_NoDeed := kit_own su_BadLine is_NoDeed tC_NoDeed su_BadLine_NoDeed,
    ex_BadLine_OtherSize := exm_of' eC_OtherSize is_OtherSize tC_OtherSize su_BadLine_OtherSize, ki_BadLine_OtherSize := kit_own su_BadLine is_OtherSize tC_OtherSize su_BadLine_OtherSize,
    ex_BadLine_NotResult := exm_of' eC_NotResult is_NotResult tC_NotResult su_BadLine_NotResult, ki_BadLine_NotResult := kit_own su_BadLine is_NotResult tC_NotResult su_BadLine_NotResult,
    ex_BadLine_NotShortest := exm_of' eC_NotShortest is_NotShortest tC_NotShortest su_BadLine_NotShortest, ki_BadLine_NotShortest := kit_own su_BadLine is_NotShortest tC_NotShortest su_BadLine_NotShortest,
    ex_BadLine_NoWord := exm_of' eC_NoWord is_NoWord tC_NoWord su_BadLine_NoWord, ki_BadLine_NoWord := kit_own su_BadLine is_NoWord tC_NoWord su_BadLine_NoWord,
    ex_BadLine_BadDeed := exm_of' eC_BadDeed is_BadDeed tC_BadDeed su_BadLine_BadDeed, ki_BadLine_BadDeed := kit_own su_BadLine is_BadDeed tC_BadDeed su_BadLine_BadDeed,
    ex_BadLine_BadText := exm_of' eC_BadText is_BadText tC_BadText su_BadLine_BadText, ki_BadLine_BadText := kit_own su_BadLine is_BadText tC_BadText su_BadLine_BadText,
    ex_BadLine_NotSettled := exm_of' eC_NotSettled is_NotSettled tC_NotSettled su_BadLine_NotSettled, ki_BadLine_NotSettled := kit_own su_BadLine is_NotSettled tC_NotSettled su_BadLine_NotSettled,
    ex_BadLine_Last := exm_of' eC_Last is_Last tC_Last su_BadLine_Last, ki_BadLine_Last := kit_own su_BadLine is_Last tC_Last su_BadLine_Last,
    ex_BadLine_TooMany := exm_of' eC_TooMany is_TooMany tC_TooMany su_BadLine_TooMany, ki_BadLine_TooMany := kit_own su_BadLine is_TooMany tC_TooMany su_BadLine_TooMany,
    kb_BadLine_LookupError := kit_blt (by decide +kernel) sb_BadLine_LookupError,
    kb_BadLine_ValueError := kit_blt (by decide +kernel) sb_BadLine_ValueError,
    kb_BadLine_RuntimeError := kit_blt (by decide +kernel) sb_BadLine_RuntimeError,
    kb_BadLine_OverflowError := kit_blt (by decide +kernel) sb_BadLine_OverflowError,
    kb_BadLine_KeyError := kit_blt (by decide +kernel) sb_BadLine_KeyError,
    kb_BadLine_IndexError := kit_blt (by decide +kernel) sb_BadLine_IndexError,
    own_NotSettled := ⟨⟨nm_NotSettled, qn_NotSettled, Nn_NotSettled, bs_NotSettled, sn_NotSettled, sub_NotSettled, ab_NotSettled, col_NotSettled, dd_NotSettled, m0_NotSettled, m1_NotSettled, m2_NotSettled, m3_NotSettled, m5_NotSettled, xC_NotSettled⟩, over_of xC_NotSettled (by decide +kernel), sa_NotSettled, ga_NotSettled, gg_NotSettled, eC_NotSettled, tC_NotSettled, kC_NotSettled, hC_NotSettled, cl_NotSettled, mr_NotSettled⟩,
    kpt_NotSettled := ⟨ga_NotSettled, gg_NotSettled, eC_NotSettled, hC_NotSettled, cl_NotSettled, mr_NotSettled, spG, tkG⟩,
    f_i_NotSettled := f_i_NotSettled, d_i_NotSettled := _, F_i_NotSettled := fun_mk (st := s_i_NotSettled) lI_NotSettled cI_NotSettled kI_NotSettled, iC_NotSettled := iC_NotSettled, tI_NotSettled := tI_NotSettled, ee_NotSettled := exm_of' eC_NotSettled is_NotSettled tC_NotSettled su_NotSettled, kk_NotSettled := kit_own su_NotSettled is_NotSettled tC_NotSettled su_NotSettled,
    no_NotSettled := no_NotSettled,
    ex_NotSettled_NoPerson := exm_of' eC_NoPerson is_NoPerson tC_NoPerson su_NotSettled_NoPerson, ki_NotSettled_NoPerson := kit_own su_NotSettled is_NoPerson tC_NoPerson su_NotSettled_NoPerson,
    ex_NotSettled_NoNumber := exm_of' eC_NoNumber is_NoNumber tC_NoNumber su_NotSettled_NoNumber, ki_NotSettled_NoNumber := kit_own su_NotSettled is_NoNumber tC_NoNumber su_NotSettled_NoNumber,
    ex_NotSettled_NoDeed := exm_of' eC_NoDeed is_NoDeed tC_NoDeed su_NotSettled_NoDeed, ki_NotSettled_NoDeed := kit_own su_NotSettled is_NoDeed tC_NoDeed su_NotSettled_NoDeed,
    ex_NotSettled_OtherSize := exm_of' eC_OtherSize is_OtherSize tC_OtherSize su_NotSettled_OtherSize, ki_NotSettled_OtherSize := kit_own su_NotSettled is_OtherSize tC_OtherSize su_NotSettled_OtherSize,
    ex_NotSettled_NotResult := exm_of' eC_NotResult is_NotResult tC_NotResult su_NotSettled_NotResult, ki_NotSettled_NotResult := kit_own su_NotSettled is_NotResult tC_NotResult su_NotSettled_NotResult,
    ex_NotSettled_NotShortest := exm_of' eC_NotShortest is_NotShortest tC_NotShortest su_NotSettled_NotShortest, ki_NotSettled_NotShortest := kit_own su_NotSettled is_NotShortest tC_NotShortest su_NotSettled_NotShortest,
    ex_NotSettled_NoWord := exm_of' eC_NoWord is_NoWord tC_NoWord su_NotSettled_NoWord, ki_NotSettled_NoWord := kit_own su_NotSettled is_NoWord tC_NoWord su_NotSettled_NoWord,
    ex_NotSettled_BadDeed := exm_of' eC_BadDeed is_BadDeed tC_BadDeed su_NotSettled_BadDeed, ki_NotSettled_BadDeed := kit_own su_NotSettled is_BadDeed tC_BadDeed su_NotSettled_BadDeed,
    ex_NotSettled_BadText := exm_of' eC_BadText is_BadText tC_BadText su_NotSettled_BadText, ki_NotSettled_BadText := kit_own su_NotSettled is_BadText tC_BadText su_NotSettled_BadText,
    ex_NotSettled_BadLine := exm_of' eC_BadLine is_BadLine tC_BadLine su_NotSettled_BadLine, ki_NotSettled_BadLine := kit_own su_NotSettled is_BadLine tC_BadLine su_NotSettled_BadLine,
    ex_NotSettled_Last := exm_of' eC_Last is_Last tC_Last su_NotSettled_Last, ki_NotSettled_Last := kit_own su_NotSettled is_Last tC_Last su_NotSettled_Last,
    ex_NotSettled_TooMany := exm_of' eC_TooMany is_TooMany tC_TooMany su_NotSettled_TooMany, ki_NotSettled_TooMany := kit_own su_NotSettled is_TooMany tC_TooMany su_NotSettled_TooMany,
    kb_NotSettled_LookupError := kit_blt (by decide +kernel) sb_NotSettled_LookupError,
    kb_NotSettled_ValueError := kit_blt (by decide +kernel) sb_NotSettled_ValueError,
    kb_NotSettled_RuntimeError := kit_blt (by decide +kernel) sb_NotSettled_RuntimeError,
    kb_NotSettled_OverflowError := kit_blt (by decide +kernel) sb_NotSettled_OverflowError,
    kb_NotSettled_KeyError := kit_blt (by decide +kernel) sb_NotSettled_KeyError,
    kb_NotSettled_IndexError := kit_blt (by decide +kernel) sb_NotSettled_IndexError,
    own_Last := ⟨⟨nm_Last, qn_Last, Nn_Last, bs_Last, sn_Last, sub_Last, ab_Last, col_Last, dd_Last, m0_Last, m1_Last, m2_Last, m3_Last, m5_Last, xC_Last⟩, over_of xC_Last (by decide +kernel), sa_Last, ga_Last, gg_Last, eC_Last, tC_Last, kC_Last, hC_Last, cl_Last, mr_Last⟩,
    kpt_Last := ⟨ga_Last, gg_Last, eC_Last, hC_Last, cl_Last, mr_Last, spG, tkG⟩,
    f_i_Last := f_i_Last, d_i_Last := _, F_i_Last := fun_mk (st := s_i_Last) lI_Last cI_Last kI_Last, iC_Last := iC_Last, tI_Last := tI_Last, ee_Last := exm_of' eC_Last is_Last tC_Last su_Last, kk_Last := kit_own su_Last is_Last tC_Last su_Last,
    ex_Last_NoPerson := exm_of' eC_NoPerson is_NoPerson tC_NoPerson su_Last_NoPerson, ki_Last_NoPerson := kit_own su_Last is_NoPerson tC_NoPerson su_Last_NoPerson,
    ex_Last_NoNumber := exm_of' eC_NoNumber is_NoNumber tC_NoNumber su_Last_NoNumber, ki_Last_NoNumber := kit_own su_Last is_NoNumber tC_NoNumber su_Last_NoNumber,
    ex_Last_NoDeed := exm_of' eC_NoDeed is_NoDeed tC_NoDeed su_Last_NoDeed, ki_Last_NoDeed := kit_own su_Last is_NoDeed tC_NoDeed su_Last_NoDeed,
    ex_Last_OtherSize := exm_of' eC_OtherSize is_OtherSize tC_OtherSize su_Last_OtherSize, ki_Last_OtherSize := kit_own su_Last is_OtherSize tC_OtherSize su_Last_OtherSize,
    ex_Last_NotResult := exm_of' eC_NotResult is_NotResult tC_NotResult su_Last_NotResult, ki_Last_NotResult := kit_own su_Last is_NotResult tC_NotResult su_Last_NotResult,
    ex_Last_NotShortest := exm_of' eC_NotShortest is_NotShortest tC_NotShortest su_Last_NotShortest, ki_Last_NotShortest := kit_own su_Last is_NotShortest tC_NotShortest su_Last_NotShortest,
    ex_Last_NoWord := exm_of' eC_NoWord is_NoWord tC_NoWord su_Last_NoWord, ki_Last_NoWord := kit_own su_Last is_NoWord tC_NoWord su_Last_NoWord,
    ex_Last_BadDeed := exm_of' eC_BadDeed is_BadDeed tC_BadDeed su_Last_BadDeed, ki_Last_BadDeed := kit_own su_Last is_BadDeed tC_BadDeed su_Last_BadDeed,
    ex_Last_BadText := exm_of' eC_BadText is_BadText tC_BadText su_Last_BadText, ki_Last_BadText := kit_own su_Last is_BadText tC_BadText su_Last_BadText,
    ex_Last_BadLine := exm_of' eC_BadLine is_BadLine tC_BadLine su_Last_BadLine, ki_Last_BadLine := kit_own su_Last is_BadLine tC_BadLine su_Last_BadLine,
    ex_Last_NotSettled := exm_of' eC_NotSettled is_NotSettled tC_NotSettled su_Last_NotSettled, ki_Last_NotSettled := kit_own su_Last is_NotSettled tC_NotSettled su_Last_NotSettled,
    ex_Last_TooMany := exm_of' eC_TooMany is_TooMany tC_TooMany su_Last_TooMany, ki_Last_TooMany := kit_own su_Last is_TooMany tC_TooMany su_Last_TooMany,
    kb_Last_LookupError := kit_blt (by decide +kernel) sb_Last_LookupError,
    kb_Last_ValueError := kit_blt (by decide +kernel) sb_Last_ValueError,
    kb_Last_RuntimeError := kit_blt (by decide +kernel) sb_Last_RuntimeError,
    kb_Last_OverflowError := kit_blt (by decide +kernel) sb_Last_OverflowError,
    kb_Last_KeyError := kit_blt (by decide +kernel) sb_Last_KeyError,
    kb_Last_IndexError := kit_blt (by decide +kernel) sb_Last_IndexError,
    own_TooMany := ⟨⟨nm_TooMany, qn_TooMany, Nn_TooMany, bs_TooMany, sn_TooMany, sub_TooMany, ab_TooMany, col_TooMany, dd_TooMany, m0_TooMany, m1_TooMany, m2_TooMany, m3_TooMany, m5_TooMany, xC_TooMany⟩, over_of xC_TooMany (by decide +kernel), sa_TooMany, ga_TooMany, gg_TooMany, eC_TooMany, tC_TooMany, kC_TooMany, hC_TooMany, cl_TooMany, mr_TooMany⟩,
    kpt_TooMany := ⟨ga_TooMany, gg_TooMany, eC_TooMany, hC_TooMany, cl_TooMany, mr_TooMany, spG, tkG⟩,
    f_i_TooMany := f_i_TooMany, d_i_TooMany := _, F_i_TooMany := fun_mk (st := s_i_TooMany) lI_TooMany cI_TooMany kI_TooMany, iC_TooMany := iC_TooMany, tI_TooMany := tI_TooMany, ee_TooMany := exm_of' eC_TooMany is_TooMany tC_TooMany su_TooMany, kk_TooMany := kit_own su_TooMany is_TooMany tC_TooMany su_TooMany,
    no_TooMany := no_TooMany,
    ex_TooMany_NoPerson := exm_of' eC_NoPerson is_NoPerson tC_NoPerson su_TooMany_NoPerson, ki_TooMany_NoPerson := kit_own su_TooMany is_NoPerson tC_NoPerson su_TooMany_NoPerson,
    ex_TooMany_NoNumber := exm_of' eC_NoNumber is_NoNumber tC_NoNumber su_TooMany_NoNumber, ki_TooMany_NoNumber := kit_own su_TooMany is_NoNumber tC_NoNumber su_TooMany_NoNumber,
    ex_TooMany_NoDeed := exm_of' eC_NoDeed is_NoDeed tC_NoDeed su_TooMany_NoDeed, ki_TooMany_NoDeed := kit_own su_TooMany is_NoDeed tC_NoDeed su_TooMany_NoDeed,
    ex_TooMany_OtherSize := exm_of' eC_OtherSize is_OtherSize tC_OtherSize su_TooMany_OtherSize, ki_TooMany_OtherSize := kit_own su_TooMany is_OtherSize tC_OtherSize su_TooMany_OtherSize,
    ex_TooMany_NotResult := exm_of' eC_NotResult is_NotResult tC_NotResult su_TooMany_NotResult, ki_TooMany_NotResult := kit_own su_TooMany is_NotResult tC_NotResult su_TooMany_NotResult,
    ex_TooMany_NotShortest := exm_of' eC_NotShortest is_NotShortest tC_NotShortest su_TooMany_NotShortest, ki_TooMany_NotShortest := kit_own su_TooMany is_NotShortest tC_NotShortest su_TooMany_NotShortest,
    ex_TooMany_NoWord := exm_of' eC_NoWord is_NoWord tC_NoWord su_TooMany_NoWord, ki_TooMany_NoWord := kit_own su_TooMany is_NoWord tC_NoWord su_TooMany_NoWord,
    ex_TooMany_BadDeed := exm_of' eC_BadDeed is_BadDeed tC_BadDeed su_TooMany_BadDeed, ki_TooMany_BadDeed := kit_own su_TooMany is_BadDeed tC_BadDeed su_TooMany_BadDeed,
    ex_TooMany_BadText := exm_of' eC_BadText is_BadText tC_BadText su_TooMany_BadText, ki_TooMany_BadText := kit_own su_TooMany is_BadText tC_BadText su_TooMany_BadText,
    ex_TooMany_BadLine := exm_of' eC_BadLine is_BadLine tC_BadLine su_TooMany_BadLine, ki_TooMany_BadLine := kit_own su_TooMany is_BadLine tC_BadLine su_TooMany_BadLine,
    ex_TooMany_NotSettled := exm_of' eC_NotSettled is_NotSettled tC_NotSettled su_TooMany_NotSettled, ki_TooMany_NotSettled := kit_own su_TooMany is_NotSettled tC_NotSettled su_TooMany_NotSettled,
    ex_TooMany_Last := exm_of' eC_Last is_Last tC_Last su_TooMany_Last, ki_TooMany_Last := kit_own su_TooMany is_Last tC_Last su_TooMany_Last,
    kb_TooMany_LookupError := kit_blt (by decide +kernel) sb_TooMany_LookupError,
    kb_TooMany_ValueError := kit_blt (by decide +kernel) sb_TooMany_ValueError,
    kb_TooMany_RuntimeError := kit_blt (by decide +kernel) sb_TooMany_RuntimeError,
    kb_TooMany_OverflowError := kit_blt (by decide +kernel) sb_TooMany_OverflowError,
    kb_TooMany_KeyError := kit_blt (by decide +kernel) sb_TooMany_KeyError,
    kb_TooMany_IndexError := kit_blt (by decide +kernel) sb_TooMany_IndexError,
    vV_LookupError := vV_LookupError,
    vV_OverflowError := vV_OverflowError,
    vV_RuntimeError := vV_RuntimeError,
    vV_ValueError := vV_ValueError }
  exact ⟨PySem.W.fnOf "law" "law" (defArgs s_law) (defBody s_law) (defScope s_law) .none kV_law dc_law pm_law an_law cd_law ct_law, fun s v => .of_eq rfl, fun base _ _ => ok_law T (fun_mk (st := s_law) l_law c_law k_law)⟩
end Pc
open PySem PySem.W PyProof.Rows
set_option maxHeartbeats 0 in
theorem PySem.Challenge.cw_partnercall_k91_errors_made_holds : PySem.Challenge.rw_partnercall_k91_errors_made.Holds := by
  w_on; o_law; k_head; (case hw => w_witness2)
  k_fill
  refine L2.walk_of (l := PySem.Challenge.rw_partnercall_k91_errors_made) (n := 63) (k := 6) (x := "_law_script") (CX := fun _ => L2.CX0) (sp := fun w => Pc.spLaw _) rfl (by decide) rfl ⟨rfl, by decide, by decide⟩ (fun w h Y => PySem.W.kIn_of Y) ?F (fun _ _ a ns hl _ hS => ⟨a, ns, rfl, hS, hl, fun _ => rfl⟩) (fun _ _ _ _ _ h => h)
  case F =>
    intro w mg fa h KX G hmg
    refine' Pc.all_mk KX G hmg ?a_same ?l_same ?c_same ?k_same ?a_bases ?l_bases ?c_bases ?k_bases ?a_kinds ?l_kinds ?c_kinds ?k_kinds ?a_all_right ?l_all_right ?c_all_right ?k_all_right ?a_right ?l_right ?c_right ?k_right ?a_law ?l_law ?c_law ?k_law ?aC_NoPerson ?eC_NoPerson ?tC_NoPerson ?is_NoPerson ?aC_NoNumber ?eC_NoNumber ?tC_NoNumber ?is_NoNumber ?aC_NoDeed ?eC_NoDeed ?tC_NoDeed ?is_NoDeed ?aC_OtherSize ?eC_OtherSize ?tC_OtherSize ?is_OtherSize ?aC_NotResult ?eC_NotResult ?tC_NotResult ?is_NotResult ?aC_NotShortest ?eC_NotShortest ?tC_NotShortest ?is_NotShortest ?aC_NoWord ?eC_NoWord ?tC_NoWord ?is_NoWord ?aC_BadDeed ?eC_BadDeed ?tC_BadDeed ?is_BadDeed ?aC_BadText ?eC_BadText ?tC_BadText ?is_BadText ?aC_BadLine ?eC_BadLine ?tC_BadLine ?is_BadLine ?aC_NotSettled ?eC_NotSettled ?tC_NotSettled ?is_NotSettled ?aC_Last ?eC_Last ?tC_Last ?is_Last ?aC_TooMany ?eC_TooMany ?tC_TooMany ?is_TooMany ?xC_NoPerson ?sa_NoPerson ?ga_NoPerson ?gg_NoPerson ?kC_NoPerson ?hC_NoPerson ?cl_NoPerson ?mr_NoPerson ?iC_NoPerson ?tI_NoPerson ?lI_NoPerson ?cI_NoPerson ?kI_NoPerson ?su_NoPerson ?no_NoPerson ?su_NoPerson_NoNumber ?su_NoPerson_NoDeed ?su_NoPerson_OtherSize ?su_NoPerson_NotResult ?su_NoPerson_NotShortest ?su_NoPerson_NoWord ?su_NoPerson_BadDeed ?su_NoPerson_BadText ?su_NoPerson_BadLine ?su_NoPerson_NotSettled ?su_NoPerson_Last ?su_NoPerson_TooMany ?sb_NoPerson_LookupError ?sb_NoPerson_ValueError ?sb_NoPerson_RuntimeError ?sb_NoPerson_OverflowError ?sb_NoPerson_KeyError ?sb_NoPerson_IndexError ?xC_NoNumber ?sa_NoNumber ?ga_NoNumber ?gg_NoNumber ?kC_NoNumber ?hC_NoNumber ?cl_NoNumber ?mr_NoNumber ?iC_NoNumber ?tI_NoNumber ?lI_NoNumber ?cI_NoNumber ?kI_NoNumber ?su_NoNumber ?no_NoNumber ?su_NoNumber_NoPerson ?su_NoNumber_NoDeed ?su_NoNumber_OtherSize ?su_NoNumber_NotResult ?su_NoNumber_NotShortest ?su_NoNumber_NoWord ?su_NoNumber_BadDeed ?su_NoNumber_BadText ?su_NoNumber_BadLine ?su_NoNumber_NotSettled ?su_NoNumber_Last ?su_NoNumber_TooMany ?sb_NoNumber_LookupError ?sb_NoNumber_ValueError ?sb_NoNumber_RuntimeError ?sb_NoNumber_OverflowError ?sb_NoNumber_KeyError ?sb_NoNumber_IndexError ?xC_NoDeed ?sa_NoDeed ?ga_NoDeed ?gg_NoDeed ?kC_NoDeed ?hC_NoDeed ?cl_NoDeed ?mr_NoDeed ?iC_NoDeed ?tI_NoDeed ?lI_NoDeed ?cI_NoDeed ?kI_NoDeed ?su_NoDeed ?no_NoDeed ?su_NoDeed_NoPerson ?su_NoDeed_NoNumber ?su_NoDeed_OtherSize ?su_NoDeed_NotResult ?su_NoDeed_NotShortest ?su_NoDeed_NoWord ?su_NoDeed_BadDeed ?su_NoDeed_BadText ?su_NoDeed_BadLine ?su_NoDeed_NotSettled ?su_NoDeed_Last ?su_NoDeed_TooMany ?sb_NoDeed_LookupError ?sb_NoDeed_ValueError ?sb_NoDeed_RuntimeError ?sb_NoDeed_OverflowError ?sb_NoDeed_KeyError ?sb_NoDeed_IndexError ?xC_OtherSize ?sa_OtherSize ?ga_OtherSize ?gg_OtherSize ?kC_OtherSize ?hC_OtherSize ?cl_OtherSize ?mr_OtherSize ?iC_OtherSize ?tI_OtherSize ?lI_OtherSize ?cI_OtherSize ?kI_OtherSize ?su_OtherSize ?no_OtherSize ?su_OtherSize_NoPerson ?su_OtherSize_NoNumber ?su_OtherSize_NoDeed ?su_OtherSize_NotResult ?su_OtherSize_NotShortest ?su_OtherSize_NoWord ?su_OtherSize_BadDeed ?su_OtherSize_BadText ?su_OtherSize_BadLine ?su_OtherSize_NotSettled ?su_OtherSize_Last ?su_OtherSize_TooMany ?sb_OtherSize_LookupError ?sb_OtherSize_ValueError ?sb_OtherSize_RuntimeError ?sb_OtherSize_OverflowError ?sb_OtherSize_KeyError ?sb_OtherSize_IndexError ?xC_NotResult ?sa_NotResult ?ga_NotResult ?gg_NotResult ?kC_NotResult ?hC_NotResult ?cl_NotResult ?mr_NotResult ?iC_NotResult ?tI_NotResult ?lI_NotResult ?cI_NotResult ?kI_NotResult ?su_NotResult ?no_NotResult ?su_NotResult_NoPerson ?su_NotResult_NoNumber ?su_NotResult_NoDeed ?su_NotResult_OtherSize ?su_NotResult_NotShortest ?su_NotResult_NoWord ?su_NotResult_BadDeed ?su_NotResult_BadText ?su_NotResult_BadLine ?su_NotResult_NotSettled ?su_NotResult_Last ?su_NotResult_TooMany ?sb_NotResult_LookupError ?sb_NotResult_ValueError ?sb_NotResult_RuntimeError ?sb_NotResult_OverflowError ?sb_NotResult_KeyError ?sb_NotResult_IndexError ?xC_NotShortest ?sa_NotShortest ?ga_NotShortest ?gg_NotShortest ?kC_NotShortest ?hC_NotShortest ?cl_NotShortest ?mr_NotShortest ?iC_NotShortest ?tI_NotShortest ?lI_NotShortest ?cI_NotShortest ?kI_NotShortest ?su_NotShortest ?su_NotShortest_NoPerson ?su_NotShortest_NoNumber ?su_NotShortest_NoDeed ?su_NotShortest_OtherSize ?su_NotShortest_NotResult ?su_NotShortest_NoWord ?su_NotShortest_BadDeed ?su_NotShortest_BadText ?su_NotShortest_BadLine ?su_NotShortest_NotSettled ?su_NotShortest_Last ?su_NotShortest_TooMany ?sb_NotShortest_LookupError ?sb_NotShortest_ValueError ?sb_NotShortest_RuntimeError ?sb_NotShortest_OverflowError ?sb_NotShortest_KeyError ?sb_NotShortest_IndexError ?xC_NoWord ?sa_NoWord ?ga_NoWord ?gg_NoWord ?kC_NoWord ?hC_NoWord ?cl_NoWord ?mr_NoWord ?iC_NoWord ?tI_NoWord ?lI_NoWord ?cI_NoWord ?kI_NoWord ?su_NoWord ?su_NoWord_NoPerson ?su_NoWord_NoNumber ?su_NoWord_NoDeed ?su_NoWord_OtherSize ?su_NoWord_NotResult ?su_NoWord_NotShortest ?su_NoWord_BadDeed ?su_NoWord_BadText ?su_NoWord_BadLine ?su_NoWord_NotSettled ?su_NoWord_Last ?su_NoWord_TooMany ?sb_NoWord_LookupError ?sb_NoWord_ValueError ?sb_NoWord_RuntimeError ?sb_NoWord_OverflowError ?sb_NoWord_KeyError ?sb_NoWord_IndexError ?xC_BadDeed ?sa_BadDeed ?ga_BadDeed ?gg_BadDeed ?kC_BadDeed ?hC_BadDeed ?cl_BadDeed ?mr_BadDeed ?iC_BadDeed ?tI_BadDeed ?lI_BadDeed ?cI_BadDeed ?kI_BadDeed ?su_BadDeed ?no_BadDeed ?su_BadDeed_NoPerson ?su_BadDeed_NoNumber ?su_BadDeed_NoDeed ?su_BadDeed_OtherSize ?su_BadDeed_NotResult ?su_BadDeed_NotShortest ?su_BadDeed_NoWord ?su_BadDeed_BadText ?su_BadDeed_BadLine ?su_BadDeed_NotSettled ?su_BadDeed_Last ?su_BadDeed_TooMany ?sb_BadDeed_LookupError ?sb_BadDeed_ValueError ?sb_BadDeed_RuntimeError ?sb_BadDeed_OverflowError ?sb_BadDeed_KeyError ?sb_BadDeed_IndexError ?xC_BadText ?sa_BadText ?ga_BadText ?gg_BadText ?kC_BadText ?hC_BadText ?cl_BadText ?mr_BadText ?iC_BadText ?tI_BadText ?lI_BadText ?cI_BadText ?kI_BadText ?su_BadText ?no_BadText ?su_BadText_NoPerson ?su_BadText_NoNumber ?su_BadText_NoDeed ?su_BadText_OtherSize ?su_BadText_NotResult ?su_BadText_NotShortest ?su_BadText_NoWord ?su_BadText_BadDeed ?su_BadText_BadLine ?su_BadText_NotSettled ?su_BadText_Last ?su_BadText_TooMany ?sb_BadText_LookupError ?sb_BadText_ValueError ?sb_BadText_RuntimeError ?sb_BadText_OverflowError ?sb_BadText_KeyError ?sb_BadText_IndexError ?xC_BadLine ?sa_BadLine ?ga_BadLine ?gg_BadLine ?kC_BadLine ?hC_BadLine ?cl_BadLine ?mr_BadLine ?iC_BadLine ?tI_BadLine ?lI_BadLine ?cI_BadLine ?kI_BadLine ?su_BadLine ?no_BadLine ?su_BadLine_NoPerson ?su_BadLine_NoNumber ?su_BadLine_NoDeed ?su_BadLine_OtherSize ?su_BadLine_NotResult ?su_BadLine_NotShortest ?su_BadLine_NoWord ?su_BadLine_BadDeed ?su_BadLine_BadText ?su_BadLine_NotSettled ?su_BadLine_Last ?su_BadLine_TooMany ?sb_BadLine_LookupError ?sb_BadLine_ValueError ?sb_BadLine_RuntimeError ?sb_BadLine_OverflowError ?sb_BadLine_KeyError ?sb_BadLine_IndexError ?xC_NotSettled ?sa_NotSettled ?ga_NotSettled ?gg_NotSettled ?kC_NotSettled ?hC_NotSettled ?cl_NotSettled ?mr_NotSettled ?iC_NotSettled ?tI_NotSettled ?lI_NotSettled ?cI_NotSettled ?kI_NotSettled ?su_NotSettled ?no_NotSettled ?su_NotSettled_NoPerson ?su_NotSettled_NoNumber ?su_NotSettled_NoDeed ?su_NotSettled_OtherSize ?su_NotSettled_NotResult ?su_NotSettled_NotShortest ?su_NotSettled_NoWord ?su_NotSettled_BadDeed ?su_NotSettled_BadText ?su_NotSettled_BadLine ?su_NotSettled_Last ?su_NotSettled_TooMany ?sb_NotSettled_LookupError ?sb_NotSettled_ValueError ?sb_NotSettled_RuntimeError ?sb_NotSettled_OverflowError ?sb_NotSettled_KeyError ?sb_NotSettled_IndexError ?xC_Last ?sa_Last ?ga_Last ?gg_Last ?kC_Last ?hC_Last ?cl_Last ?mr_Last ?iC_Last ?tI_Last ?lI_Last ?cI_Last ?kI_Last ?su_Last ?su_Last_NoPerson ?su_Last_NoNumber ?su_Last_NoDeed ?su_Last_OtherSize ?su_Last_NotResult ?su_Last_NotShortest ?su_Last_NoWord ?su_Last_BadDeed ?su_Last_BadText ?su_Last_BadLine ?su_Last_NotSettled ?su_Last_TooMany ?sb_Last_LookupError ?sb_Last_ValueError ?sb_Last_RuntimeError ?sb_Last_OverflowError ?sb_Last_KeyError ?sb_Last_IndexError ?xC_TooMany ?sa_TooMany ?ga_TooMany ?gg_TooMany ?kC_TooMany ?hC_TooMany ?cl_TooMany ?mr_TooMany ?iC_TooMany ?tI_TooMany ?lI_TooMany ?cI_TooMany ?kI_TooMany ?su_TooMany ?no_TooMany ?su_TooMany_NoPerson ?su_TooMany_NoNumber ?su_TooMany_NoDeed ?su_TooMany_OtherSize ?su_TooMany_NotResult ?su_TooMany_NotShortest ?su_TooMany_NoWord ?su_TooMany_BadDeed ?su_TooMany_BadText ?su_TooMany_BadLine ?su_TooMany_NotSettled ?su_TooMany_Last ?sb_TooMany_LookupError ?sb_TooMany_ValueError ?sb_TooMany_RuntimeError ?sb_TooMany_OverflowError ?sb_TooMany_KeyError ?sb_TooMany_IndexError ?vV_LookupError ?vV_OverflowError ?vV_RuntimeError ?vV_ValueError ?spG ?tkG ?z_isinstance ?z_list ?z_tuple ?z_len ?z_all ?z_zip ?z_bool ?z_str ?z_int ?z_LookupError ?z_ValueError ?z_RuntimeError ?z_OverflowError ?z_enumerate ?z_range ?z_KeyError ?z_IndexError ?z_abs
    (case a_same => k_is); (case l_same => k_is); (case c_same => k_is); (case k_same => k_is); (case a_bases => k_is); (case l_bases => k_is); (case c_bases => k_is); (case k_bases => k_is); (case a_kinds => k_is); (case l_kinds => k_is); (case c_kinds => k_is); (case k_kinds => k_is); (case a_all_right => k_is); (case l_all_right => k_is); (case c_all_right => k_is); (case k_all_right => k_is); (case a_right => k_is); (case l_right => k_is); (case c_right => k_is); (case k_right => k_is); (case a_law => k_is); (case l_law => k_is); (case c_law => k_is); (case k_law => k_is); (case aC_NoPerson => k_is); (case eC_NoPerson => k_is); (case tC_NoPerson => k_is); (case is_NoPerson => k_is); (case aC_NoNumber => k_is); (case eC_NoNumber => k_is); (case tC_NoNumber => k_is); (case is_NoNumber => k_is); (case aC_NoDeed => k_is); (case eC_NoDeed => k_is); (case tC_NoDeed => k_is); (case is_NoDeed => k_is); (case aC_OtherSize => k_is); (case eC_OtherSize => k_is); (case tC_OtherSize => k_is); (case is_OtherSize => k_is); (case aC_NotResult => k_is); (case eC_NotResult => k_is); (case tC_NotResult => k_is); (case is_NotResult => k_is); (case aC_NotShortest => k_is); (case eC_NotShortest => k_is); (case tC_NotShortest => k_is); (case is_NotShortest => k_is); (case aC_NoWord => k_is); (case eC_NoWord => k_is); (case tC_NoWord => k_is); (case is_NoWord => k_is); (case aC_BadDeed => k_is); (case eC_BadDeed => k_is); (case tC_BadDeed => k_is); (case is_BadDeed => k_is); (case aC_BadText => k_is); (case eC_BadText => k_is); (case tC_BadText => k_is); (case is_BadText => k_is); (case aC_BadLine => k_is); (case eC_BadLine => k_is); (case tC_BadLine => k_is); (case is_BadLine => k_is); (case aC_NotSettled => k_is); (case eC_NotSettled => k_is); (case tC_NotSettled => k_is); (case is_NotSettled => k_is); (case aC_Last => k_is); (case eC_Last => k_is); (case tC_Last => k_is); (case is_Last => k_is); (case aC_TooMany => k_is); (case eC_TooMany => k_is); (case tC_TooMany => k_is); (case is_TooMany => k_is); (case xC_NoPerson => k_is); (case sa_NoPerson => k_is); (case ga_NoPerson => k_is); (case gg_NoPerson => k_is); (case kC_NoPerson => k_is); (case hC_NoPerson => k_is); (case cl_NoPerson => k_is); (case mr_NoPerson => k_is); (case iC_NoPerson => k_is); (case tI_NoPerson => k_is); (case lI_NoPerson => k_is); (case cI_NoPerson => k_is); (case kI_NoPerson => k_is); (case su_NoPerson => k_is); (case no_NoPerson => k_is); (case su_NoPerson_NoNumber => k_is); (case su_NoPerson_NoDeed => k_is); (case su_NoPerson_OtherSize => k_is); (case su_NoPerson_NotResult => k_is); (case su_NoPerson_NotShortest => k_is); (case su_NoPerson_NoWord => k_is); (case su_NoPerson_BadDeed => k_is); (case su_NoPerson_BadText => k_is); (case su_NoPerson_BadLine => k_is); (case su_NoPerson_NotSettled => k_is); (case su_NoPerson_Last => k_is); (case su_NoPerson_TooMany => k_is); (case sb_NoPerson_LookupError => k_is); (case sb_NoPerson_ValueError => k_is); (case sb_NoPerson_RuntimeError => k_is); (case sb_NoPerson_OverflowError => k_is); (case sb_NoPerson_KeyError => k_is); (case sb_NoPerson_IndexError => k_is); (case xC_NoNumber => k_is); (case sa_NoNumber => k_is); (case ga_NoNumber => k_is); (case gg_NoNumber => k_is); (case kC_NoNumber => k_is); (case hC_NoNumber => k_is); (case cl_NoNumber => k_is); (case mr_NoNumber => k_is); (case iC_NoNumber => k_is); (case tI_NoNumber => k_is); (case lI_NoNumber => k_is); (case cI_NoNumber => k_is); (case kI_NoNumber => k_is); (case su_NoNumber => k_is); (case no_NoNumber => k_is); (case su_NoNumber_NoPerson => k_is); (case su_NoNumber_NoDeed => k_is); (case su_NoNumber_OtherSize => k_is); (case su_NoNumber_NotResult => k_is); (case su_NoNumber_NotShortest => k_is); (case su_NoNumber_NoWord => k_is); (case su_NoNumber_BadDeed => k_is); (case su_NoNumber_BadText => k_is); (case su_NoNumber_BadLine => k_is); (case su_NoNumber_NotSettled => k_is); (case su_NoNumber_Last => k_is); (case su_NoNumber_TooMany => k_is); (case sb_NoNumber_LookupError => k_is); (case sb_NoNumber_ValueError => k_is); (case sb_NoNumber_RuntimeError => k_is); (case sb_NoNumber_OverflowError => k_is); (case sb_NoNumber_KeyError => k_is); (case sb_NoNumber_IndexError => k_is); (case xC_NoDeed => k_is); (case sa_NoDeed => k_is); (case ga_NoDeed => k_is); (case gg_NoDeed => k_is); (case kC_NoDeed => k_is); (case hC_NoDeed => k_is); (case cl_NoDeed => k_is); (case mr_NoDeed => k_is); (case iC_NoDeed => k_is); (case tI_NoDeed => k_is); (case lI_NoDeed => k_is); (case cI_NoDeed => k_is); (case kI_NoDeed => k_is); (case su_NoDeed => k_is); (case no_NoDeed => k_is); (case su_NoDeed_NoPerson => k_is); (case su_NoDeed_NoNumber => k_is); (case su_NoDeed_OtherSize => k_is); (case su_NoDeed_NotResult => k_is); (case su_NoDeed_NotShortest => k_is); (case su_NoDeed_NoWord => k_is); (case su_NoDeed_BadDeed => k_is); (case su_NoDeed_BadText => k_is); (case su_NoDeed_BadLine => k_is); (case su_NoDeed_NotSettled => k_is); (case su_NoDeed_Last => k_is); (case su_NoDeed_TooMany => k_is); (case sb_NoDeed_LookupError => k_is); (case sb_NoDeed_ValueError => k_is); (case sb_NoDeed_RuntimeError => k_is); (case sb_NoDeed_OverflowError => k_is); (case sb_NoDeed_KeyError => k_is); (case sb_NoDeed_IndexError => k_is); (case xC_OtherSize => k_is); (case sa_OtherSize => k_is); (case ga_OtherSize => k_is); (case gg_OtherSize => k_is); (case kC_OtherSize => k_is); (case hC_OtherSize => k_is); (case cl_OtherSize => k_is); (case mr_OtherSize => k_is); (case iC_OtherSize => k_is); (case tI_OtherSize => k_is); (case lI_OtherSize => k_is); (case cI_OtherSize => k_is); (case kI_OtherSize => k_is); (case su_OtherSize => k_is); (case no_OtherSize => k_is); (case su_OtherSize_NoPerson => k_is); (case su_OtherSize_NoNumber => k_is); (case su_OtherSize_NoDeed => k_is); (case su_OtherSize_NotResult => k_is); (case su_OtherSize_NotShortest => k_is); (case su_OtherSize_NoWord => k_is); (case su_OtherSize_BadDeed => k_is); (case su_OtherSize_BadText => k_is); (case su_OtherSize_BadLine => k_is); (case su_OtherSize_NotSettled => k_is); (case su_OtherSize_Last => k_is); (case su_OtherSize_TooMany => k_is); (case sb_OtherSize_LookupError => k_is); (case sb_OtherSize_ValueError => k_is); (case sb_OtherSize_RuntimeError => k_is); (case sb_OtherSize_OverflowError => k_is); (case sb_OtherSize_KeyError => k_is); (case sb_OtherSize_IndexError => k_is); (case xC_NotResult => k_is); (case sa_NotResult => k_is); (case ga_NotResult => k_is); (case gg_NotResult => k_is); (case kC_NotResult => k_is); (case hC_NotResult => k_is); (case cl_NotResult => k_is); (case mr_NotResult => k_is); (case iC_NotResult => k_is); (case tI_NotResult => k_is); (case lI_NotResult => k_is); (case cI_NotResult => k_is); (case kI_NotResult => k_is); (case su_NotResult => k_is); (case no_NotResult => k_is); (case su_NotResult_NoPerson => k_is); (case su_NotResult_NoNumber => k_is); (case su_NotResult_NoDeed => k_is); (case su_NotResult_OtherSize => k_is); (case su_NotResult_NotShortest => k_is); (case su_NotResult_NoWord => k_is); (case su_NotResult_BadDeed => k_is); (case su_NotResult_BadText => k_is); (case su_NotResult_BadLine => k_is); (case su_NotResult_NotSettled => k_is); (case su_NotResult_Last => k_is); (case su_NotResult_TooMany => k_is); (case sb_NotResult_LookupError => k_is); (case sb_NotResult_ValueError => k_is); (case sb_NotResult_RuntimeError => k_is); (case sb_NotResult_OverflowError => k_is); (case sb_NotResult_KeyError => k_is); (case sb_NotResult_IndexError => k_is); (case xC_NotShortest => k_is); (case sa_NotShortest => k_is); (case ga_NotShortest => k_is); (case gg_NotShortest => k_is); (case kC_NotShortest => k_is); (case hC_NotShortest => k_is); (case cl_NotShortest => k_is); (case mr_NotShortest => k_is); (case iC_NotShortest => k_is); (case tI_NotShortest => k_is); (case lI_NotShortest => k_is); (case cI_NotShortest => k_is); (case kI_NotShortest => k_is); (case su_NotShortest => k_is); (case su_NotShortest_NoPerson => k_is); (case su_NotShortest_NoNumber => k_is); (case su_NotShortest_NoDeed => k_is); (case su_NotShortest_OtherSize => k_is); (case su_NotShortest_NotResult => k_is); (case su_NotShortest_NoWord => k_is); (case su_NotShortest_BadDeed => k_is); (case su_NotShortest_BadText => k_is); (case su_NotShortest_BadLine => k_is); (case su_NotShortest_NotSettled => k_is); (case su_NotShortest_Last => k_is); (case su_NotShortest_TooMany => k_is); (case sb_NotShortest_LookupError => k_is); (case sb_NotShortest_ValueError => k_is); (case sb_NotShortest_RuntimeError => k_is); (case sb_NotShortest_OverflowError => k_is); (case sb_NotShortest_KeyError => k_is); (case sb_NotShortest_IndexError => k_is); (case xC_NoWord => k_is); (case sa_NoWord => k_is); (case ga_NoWord => k_is); (case gg_NoWord => k_is); (case kC_NoWord => k_is); (case hC_NoWord => k_is); (case cl_NoWord => k_is); (case mr_NoWord => k_is); (case iC_NoWord => k_is); (case tI_NoWord => k_is); (case lI_NoWord => k_is); (case cI_NoWord => k_is); (case kI_NoWord => k_is); (case su_NoWord => k_is); (case su_NoWord_NoPerson => k_is); (case su_NoWord_NoNumber => k_is); (case su_NoWord_NoDeed => k_is); (case su_NoWord_OtherSize => k_is); (case su_NoWord_NotResult => k_is); (case su_NoWord_NotShortest => k_is); (case su_NoWord_BadDeed => k_is); (case su_NoWord_BadText => k_is); (case su_NoWord_BadLine => k_is); (case su_NoWord_NotSettled => k_is); (case su_NoWord_Last => k_is); (case su_NoWord_TooMany => k_is); (case sb_NoWord_LookupError => k_is); (case sb_NoWord_ValueError => k_is); (case sb_NoWord_RuntimeError => k_is); (case sb_NoWord_OverflowError => k_is); (case sb_NoWord_KeyError => k_is); (case sb_NoWord_IndexError => k_is); (case xC_BadDeed => k_is); (case sa_BadDeed => k_is); (case ga_BadDeed => k_is); (case gg_BadDeed => k_is); (case kC_BadDeed => k_is); (case hC_BadDeed => k_is); (case cl_BadDeed => k_is); (case mr_BadDeed => k_is); (case iC_BadDeed => k_is); (case tI_BadDeed => k_is); (case lI_BadDeed => k_is); (case cI_BadDeed => k_is); (case kI_BadDeed => k_is); (case su_BadDeed => k_is); (case no_BadDeed => k_is); (case su_BadDeed_NoPerson => k_is); (case su_BadDeed_NoNumber => k_is); (case su_BadDeed_NoDeed => k_is); (case su_BadDeed_OtherSize => k_is); (case su_BadDeed_NotResult => k_is); (case su_BadDeed_NotShortest => k_is); (case su_BadDeed_NoWord => k_is); (case su_BadDeed_BadText => k_is); (case su_BadDeed_BadLine => k_is); (case su_BadDeed_NotSettled => k_is); (case su_BadDeed_Last => k_is); (case su_BadDeed_TooMany => k_is); (case sb_BadDeed_LookupError => k_is); (case sb_BadDeed_ValueError => k_is); (case sb_BadDeed_RuntimeError => k_is); (case sb_BadDeed_OverflowError => k_is); (case sb_BadDeed_KeyError => k_is); (case sb_BadDeed_IndexError => k_is); (case xC_BadText => k_is); (case sa_BadText => k_is); (case ga_BadText => k_is); (case gg_BadText => k_is); (case kC_BadText => k_is); (case hC_BadText => k_is); (case cl_BadText => k_is); (case mr_BadText => k_is); (case iC_BadText => k_is); (case tI_BadText => k_is); (case lI_BadText => k_is); (case cI_BadText => k_is); (case kI_BadText => k_is); (case su_BadText => k_is); (case no_BadText => k_is); (case su_BadText_NoPerson => k_is); (case su_BadText_NoNumber => k_is); (case su_BadText_NoDeed => k_is); (case su_BadText_OtherSize => k_is); (case su_BadText_NotResult => k_is); (case su_BadText_NotShortest => k_is); (case su_BadText_NoWord => k_is); (case su_BadText_BadDeed => k_is); (case su_BadText_BadLine => k_is); (case su_BadText_NotSettled => k_is); (case su_BadText_Last => k_is); (case su_BadText_TooMany => k_is); (case sb_BadText_LookupError => k_is); (case sb_BadText_ValueError => k_is); (case sb_BadText_RuntimeError => k_is); (case sb_BadText_OverflowError => k_is); (case sb_BadText_KeyError => k_is); (case sb_BadText_IndexError => k_is); (case xC_BadLine => k_is); (case sa_BadLine => k_is); (case ga_BadLine => k_is); (case gg_BadLine => k_is); (case kC_BadLine => k_is); (case hC_BadLine => k_is); (case cl_BadLine => k_is); (case mr_BadLine => k_is); (case iC_BadLine => k_is); (case tI_BadLine => k_is); (case lI_BadLine => k_is); (case cI_BadLine => k_is); (case kI_BadLine => k_is); (case su_BadLine => k_is); (case no_BadLine => k_is); (case su_BadLine_NoPerson => k_is); (case su_BadLine_NoNumber => k_is); (case su_BadLine_NoDeed => k_is); (case su_BadLine_OtherSize => k_is); (case su_BadLine_NotResult => k_is); (case su_BadLine_NotShortest => k_is); (case su_BadLine_NoWord => k_is); (case su_BadLine_BadDeed => k_is); (case su_BadLine_BadText => k_is); (case su_BadLine_NotSettled => k_is); (case su_BadLine_Last => k_is); (case su_BadLine_TooMany => k_is); (case sb_BadLine_LookupError => k_is); (case sb_BadLine_ValueError => k_is); (case sb_BadLine_RuntimeError => k_is); (case sb_BadLine_OverflowError => k_is); (case sb_BadLine_KeyError => k_is); (case sb_BadLine_IndexError => k_is); (case xC_NotSettled => k_is); (case sa_NotSettled => k_is); (case ga_NotSettled => k_is); (case gg_NotSettled => k_is); (case kC_NotSettled => k_is); (case hC_NotSettled => k_is); (case cl_NotSettled => k_is); (case mr_NotSettled => k_is); (case iC_NotSettled => k_is); (case tI_NotSettled => k_is); (case lI_NotSettled => k_is); (case cI_NotSettled => k_is); (case kI_NotSettled => k_is); (case su_NotSettled => k_is); (case no_NotSettled => k_is); (case su_NotSettled_NoPerson => k_is); (case su_NotSettled_NoNumber => k_is); (case su_NotSettled_NoDeed => k_is); (case su_NotSettled_OtherSize => k_is); (case su_NotSettled_NotResult => k_is); (case su_NotSettled_NotShortest => k_is); (case su_NotSettled_NoWord => k_is); (case su_NotSettled_BadDeed => k_is); (case su_NotSettled_BadText => k_is); (case su_NotSettled_BadLine => k_is); (case su_NotSettled_Last => k_is); (case su_NotSettled_TooMany => k_is); (case sb_NotSettled_LookupError => k_is); (case sb_NotSettled_ValueError => k_is); (case sb_NotSettled_RuntimeError => k_is); (case sb_NotSettled_OverflowError => k_is); (case sb_NotSettled_KeyError => k_is); (case sb_NotSettled_IndexError => k_is); (case xC_Last => k_is); (case sa_Last => k_is); (case ga_Last => k_is); (case gg_Last => k_is); (case kC_Last => k_is); (case hC_Last => k_is); (case cl_Last => k_is); (case mr_Last => k_is); (case iC_Last => k_is); (case tI_Last => k_is); (case lI_Last => k_is); (case cI_Last => k_is); (case kI_Last => k_is); (case su_Last => k_is); (case su_Last_NoPerson => k_is); (case su_Last_NoNumber => k_is); (case su_Last_NoDeed => k_is); (case su_Last_OtherSize => k_is); (case su_Last_NotResult => k_is); (case su_Last_NotShortest => k_is); (case su_Last_NoWord => k_is); (case su_Last_BadDeed => k_is); (case su_Last_BadText => k_is); (case su_Last_BadLine => k_is); (case su_Last_NotSettled => k_is); (case su_Last_TooMany => k_is); (case sb_Last_LookupError => k_is); (case sb_Last_ValueError => k_is); (case sb_Last_RuntimeError => k_is); (case sb_Last_OverflowError => k_is); (case sb_Last_KeyError => k_is); (case sb_Last_IndexError => k_is); (case xC_TooMany => k_is); (case sa_TooMany => k_is); (case ga_TooMany => k_is); (case gg_TooMany => k_is); (case kC_TooMany => k_is); (case hC_TooMany => k_is); (case cl_TooMany => k_is); (case mr_TooMany => k_is); (case iC_TooMany => k_is); (case tI_TooMany => k_is); (case lI_TooMany => k_is); (case cI_TooMany => k_is); (case kI_TooMany => k_is); (case su_TooMany => k_is); (case no_TooMany => k_is); (case su_TooMany_NoPerson => k_is); (case su_TooMany_NoNumber => k_is); (case su_TooMany_NoDeed => k_is); (case su_TooMany_OtherSize => k_is); (case su_TooMany_NotResult => k_is); (case su_TooMany_NotShortest => k_is); (case su_TooMany_NoWord => k_is); (case su_TooMany_BadDeed => k_is); (case su_TooMany_BadText => k_is); (case su_TooMany_BadLine => k_is); (case su_TooMany_NotSettled => k_is); (case su_TooMany_Last => k_is); (case sb_TooMany_LookupError => k_is); (case sb_TooMany_ValueError => k_is); (case sb_TooMany_RuntimeError => k_is); (case sb_TooMany_OverflowError => k_is); (case sb_TooMany_KeyError => k_is); (case sb_TooMany_IndexError => k_is); (case vV_LookupError => k_is); (case vV_OverflowError => k_is); (case vV_RuntimeError => k_is); (case vV_ValueError => k_is); (case spG => k_is); (case tkG => k_is); (case z_isinstance => k_is); (case z_list => k_is); (case z_tuple => k_is); (case z_len => k_is); (case z_all => k_is); (case z_zip => k_is); (case z_bool => k_is); (case z_str => k_is); (case z_int => k_is); (case z_LookupError => k_is); (case z_ValueError => k_is); (case z_RuntimeError => k_is); (case z_OverflowError => k_is); (case z_enumerate => k_is); (case z_range => k_is); (case z_KeyError => k_is); (case z_IndexError => k_is); (case z_abs => k_is)
