import PyProof.Rows.All
import Wide.All
import OpenK.AllK
import Wide.FinOn
import HandS.ForMost
import HandS.IsInst
import HandS.Zip
import HandS.Style
import HandS.Walk
import HandS.Flow
import HandS.Conv
import HandS.RaiseMore
import HandS.NoneIn
import HandS.WordsList
import HandS.Deep
import HandS.Exc
import HandS.ExcOwn
import HandS.WordsExc
import HandS.ExcInit
import HandS.ExcIs
import KE.KExcIs
import KE.KExcInit
import KE.KTryMore
import HandS.SortRule
import HandS.SortInts
import HandS.Strs
import HandS.Wide
import HandS.DictComp
import HandS.SetFor
import HandS.TupSets
import HandS.SortOrd
import KE.SortData
import KE.DataCmp
import KE.KDictSum
import HandS.TupLen
import HandS.DictTup
import HandS.Small
import HandS.TryOnly
import KE.KMinBuiltin
import HandS.SortKw
import KE.KDictZip
import KE.GoesEnum
import KE.KDictDisplayH
import KE.DataFind
import PyProof.Rows.IntBool
import PySem.Challenge.RW_partnercall_k44_lists_that_lead_or_not
set_option Elab.async false
set_option linter.all false
set_option maxRecDepth 100000
set_option maxHeartbeats 4000000
namespace RZ
end RZ
namespace Pc
open PySem PySem.Spec PyProof.Rows L2 RZ
/-! ### heaps -/
/-- all that was tracked, but for b, is as it was -/
def Keep (b : Addr) (H H' : Hp) : Prop := ∀ a o, a ≠ b → H a = some o → H' a = some o
theorem Keep.refl (b : Addr) (H : Hp) : Keep b H H := fun _ _ _ h => h
theorem Keep.trans {b : Addr} {H H1 H2 : Hp} (p : Keep b H H1) (q : Keep b H1 H2) : Keep b H H2 := fun a o n h => q a o n (p a o n h)
theorem Keep.of_same {b : Addr} {H H' : Hp} (s : Same H H') : Keep b H H' := fun a o _ h => s a o h
theorem same_new {H : Hp} {p : Addr} {o : HO} (h : H p = none) : Same H (upd H p o) := fun b x e => by
  rw [upd_ne (ne_of_none e h)]; exact e
theorem keep_upd {H : Hp} {b : Addr} {o : HO} : Keep b H (upd H b o) := fun a x n e => by
  rw [upd_ne n]; exact e
/-- a list, a tuple under Keep -/
theorem Keep.tup {b : Addr} {H H' : Hp} (k : Keep b H H') {a : Addr} {xs ys : List V} (hb : H b = some (.lst ys)) (h : H a = some (.tup xs)) : H' a = some (.tup xs) :=
  k a _ (fun e => by rw [e, hb] at h; cases h) h
/-! ### small numbers -/
theorem one0 (c : Prop) [Decidable c] : (0 : Int) ≤ (if c then 1 else 0) ∧ (if c then (1 : Int) else 0) ≤ 1 := by
  split <;> decide
theorem in64 {i : Int} (h : 0 ≤ i ∧ i ≤ 1) : -(2 ^ 64) < i ∧ i < 2 ^ 64 := ⟨by omega, by omega⟩
/-! ### the source of draws -/
/-- at b a source that serves n more draws -/
def Box (n : Nat) (H : Hp) (b : Addr) : Prop := ∃ x y z : Int, H b = some (.lst [.int x, .int y, .int z]) ∧ 0 ≤ x ∧ 0 ≤ y ∧ y < 2 ^ 62 ∧ 0 ≤ z ∧ z + n ≤ 1000000000
theorem Box.lst {n : Nat} {H : Hp} {b : Addr} (h : Box n H b) : ∃ ys, H b = some (.lst ys) := let ⟨_, _, _, e, _⟩ := h; ⟨_, e⟩
theorem Box.mono {n m : Nat} {H : Hp} {b : Addr} (h : Box n H b) (l : m ≤ n) : Box m H b := by
  obtain ⟨x, y, z, e, h1, h2, h3, h4, h5⟩ := h
  exact ⟨x, y, z, e, h1, h2, h3, h4, by omega⟩
theorem Box.same {n : Nat} {H H' : Hp} {b : Addr} (h : Box n H b) (s : Same H H') : Box n H' b := by
  obtain ⟨x, y, z, e, r⟩ := h
  exact ⟨x, y, z, s _ _ e, r⟩
theorem Box.keep {n : Nat} {H H' : Hp} {b c : Addr} (h : Box n H b) (k : Keep c H H') (d : b ≠ c) : Box n H' b := by
  obtain ⟨x, y, z, e, r⟩ := h
  exact ⟨x, y, z, k _ _ d e, r⟩
theorem Box.ne_new {n : Nat} {H : Hp} {b p : Addr} (h : Box n H b) (np : H p = none) : b ≠ p := by
  obtain ⟨x, y, z, e, r⟩ := h
  exact ne_of_none e np
theorem Box.ne_tup {n : Nat} {H : Hp} {b p : Addr} {xs : List V} (h : Box n H b) (e2 : H p = some (.tup xs)) : p ≠ b := by
  obtain ⟨x, y, z, e, r⟩ := h
  intro q; rw [q, e] at e2; cases e2
end Pc
namespace Pc
open PySem PySem.Spec PyProof.Rows L2 RZ
/-! ### errors of the program: made -/
section
open PySem.W Builtin Builtin.ObjectAttr
variable {prog : Program} {w : World} {A : Around} {R : Result → Shared → Prop} {hp : Heap} {g : Array GenState} {d : Drawn} {t : Nat} {os : OsState} {B : String} {bmB : List Value}
/-- the first field of an error that has no dict yet -/
theorem osa_first {K : Frag} {f : Str} {tk : Tok} {v : Value} {x C : Addr} {fv : Array Value} {cd : ClassData} (SF : StoreFacts B bmB "object.__setattr__" "object") (X : K.In hp)
    (hx : hp.get? x = some { cls := .ref C, data := .fields fv }) (hcd : clsIn K C = some cd) (ho : excOver K C bmB = true) (hh : cd.hasDict = true) (hf : takerIn K C f = some none)
    (hq : ∀ h' tk' dx, (∀ b o, b ≠ x → hp.get? b = some o → h'.get? b = some o) → hp.objs.size ≤ dx → dx ≠ x →
      h'.get? x = some { cls := .ref C, dict := some dx, data := .fields fv } → h'.Ns1 dx (fun y => if y = f then some v else none) → R (.ok (.ret .none)) ⟨h', g, d, tk', os⟩) :
    codeAny (model prog w) A (.call (.builtin "object.__setattr__") ⟨[.ref x, .str f tk, v], []⟩) R ⟨hp, g, d, t, os⟩ := by
  have hne : x ≠ hp.objs.size := fun e => absurd (Heap.lt_size hx) (by rw [← e]; exact Nat.lt_irrefl x)
  have LC : Looks (model prog w) hp (classData C) cd := looks_clsIn X hcd
  refine osa_openX (s := ⟨hp, g, d, t, os⟩) (od := none) SF X ⟨hx, rfl, rfl, trivial⟩ ho hf fun b => ?_
  obtain ⟨c1, c2, c3, c4, c5, c6, c7, c8, c9, c10, c11⟩ := cd
  dsimp only at hh; subst hh
  dsimp only
  unfold storeInOwnDict ownDictForStores
  repeat (first | with_reducible refine HandSPX.store_in_new ?_ ?_ | with_reducible refine wpAny_loadPart_at hx ?_ | with_reducible refine LC.at ?_ | wp_step)
  · exact ⟨_, #[], _, (Heap.get?_update_ne _ _ _ _ hne.symm).trans (Heap.get?_push_at rfl rfl), rfl, fun e he => absurd he (by simp), fun _ => rfl⟩
  · intro h' tk' n1 n2
    refine hq h' tk' hp.objs.size (fun b o q r => ?_) (Nat.le_refl _) hne.symm ?_ n1
    · exact (n2.2 b (Nat.ne_of_lt (Heap.lt_size r))).trans ((Heap.get?_update_ne _ _ _ _ q).trans (Heap.get?_push_of_some _ r))
    · exact (n2.2 x hne).trans (Heap.get?_update_self _ (Heap.get?_push_of_some _ hx) rfl)
end
/-- what is known of a built-in error class -/
structure Bs (B newId initId : String) (bmB : List Value) : Prop where
  fb : ExcBaseFacts B newId initId bmB
  sf : StoreFacts B bmB "object.__setattr__" "object"
theorem bsV : Bs "ValueError" "ValueError.__new__" "ValueError.__init__" [.type "ValueError", .type "Exception", .type "BaseException", .type "object"] := ⟨F.excBase_ValueError, F.store_ValueError⟩
theorem bsL : Bs "LookupError" "LookupError.__new__" "LookupError.__init__" [.type "LookupError", .type "Exception", .type "BaseException", .type "object"] := ⟨F.excBase_LookupError, F.store_LookupError⟩
theorem bsR : Bs "RuntimeError" "RuntimeError.__new__" "RuntimeError.__init__" [.type "RuntimeError", .type "Exception", .type "BaseException", .type "object"] := ⟨F.excBase_RuntimeError, F.store_RuntimeError⟩
theorem bsO : Bs "OverflowError" "OverflowError.__new__" "OverflowError.__init__" [.type "OverflowError", .type "ArithmeticError", .type "Exception", .type "BaseException", .type "object"] := ⟨F.excBase_OverflowError, F.store_OverflowError⟩
/-- an error class of the program, straight over a built-in one -/
structure Own (K : PySem.W.Frag) (newId : String) (bmB : List Value) (C : Addr) : Prop where
  cls : ∃ nm q N bs sn sub ab col dd k0 k1 k2 k3 k5, K.lookup C = some (excClassObj nm q C N bs bmB true sn sub ab col dd k0 k1 k2 k3 k5 newId)
  over : PySem.W.excOver K C bmB = true
  sa : PySem.W.findIn K (.ref C) "__setattr__" = some (some (.builtin "object.__setattr__"))
  ga : PySem.W.findIn K (.ref C) "__getattribute__" = some (some (.builtin "BaseException.__getattribute__"))
  gg : PySem.W.findIn K (.ref C) "__getattr__" = some none
  exC : PySem.W.subIn K (.ref C) (.type "BaseException") = some true
  tyC : PySem.W.typeIn K (.ref C) = some (.type "type")
  kC : PySem.W.keepIn K (.ref C) = true
  hdC : PySem.W.hasDictIn K C = true
  clC : PySem.W.findIn K (.ref C) "__class__" = some (some (.builtin "object.__class__"))
  mrO : PySem.W.mroIn K C (.type "object") = some true
theorem Own.data {K : PySem.W.Frag} {newId : String} {bmB : List Value} {C : Addr} (T : Own K newId bmB C) : ∃ cd, PySem.W.clsIn K C = some cd ∧ cd.hasDict = true := by
  obtain ⟨nm, q, N, bs, sn, sub, ab, col, dd, k0, k1, k2, k3, k5, e⟩ := T.cls
  refine ⟨{ name := nm, bases := bs, mro := .ref C :: bmB, ns := N, qualname := q, hasDict := true, slotNames := sn, subclasses := sub, abstract := ab, collection := col, hasDel := false }, ?_, rfl⟩
  unfold PySem.W.clsIn
  rw [e] <;> rfl
theorem taker_of {K : PySem.W.Frag} {C : Addr} {f : Str} (h : PySem.W.findIn K (.ref C) f = some none) : PySem.W.takerIn K C f = some none := by
  unfold PySem.W.takerIn
  rw [h]; rfl
section
variable {X : Cx} {pins : List (Addr × Obj)} {σ : L2.St} {H H1 H2 : Hp} {s : Shared} {a C dx : Addr} {f : Str} {newId initId B : String} {bmB : List Value}
/-- an object that stands in the heap, untracked and not of the entry, is tracked from now on -/
theorem adopt {o : HO} (I : Inv X pins σ H s) (hn : H a = none) (n0 : X.s_0.heap.get? a = none) (nL : a ≠ X.env.locals) (nC : ∀ x c, X.env.cells.lookup x = some c → c ≠ a) (nP : ∀ p ∈ X.pn ++ pins, p.1 ≠ a)
    (new : ObjOk X.prog X.w (upd H a o) s.heap a o) : Inv X pins σ (upd H a o) s := by
  have up : ∀ {b : Addr} {u : HO}, H b = some u → upd H a o b = some u := fun {b u} e => by rw [upd_ne (ne_of_none e hn)]; exact e
  refine ⟨I.ok, I.os, I.bare, ⟨I.base.keep, I.base.slot, fun b q e n x => ?_, I.base.there, fun b xs e => up (I.base.tups b xs e), fun b q u e => up (I.base.frzs b q u e), fun b ps e => ?_⟩, I.loc, I.cell, ?_, fun x c e => ?_, fun p hp => ?_, fun b u e => ?_, I.len⟩
  · rw [upd_ne (fun z => by rw [z, n0] at e; cases e)]
    exact I.base.free b q e n x
  · obtain ⟨m, z⟩ := I.base.tbls b ps e
    exact ⟨m, up z⟩
  · rw [upd_ne (Ne.symm nL)]; exact I.free
  · rw [upd_ne (nC x c e)]; exact I.freeC x c e
  · obtain ⟨e, n, r⟩ := I.pin p hp
    exact ⟨e, by rw [upd_ne (nP p hp)]; exact n, r⟩
  · by_cases hb : b = a
    · subst hb
      rw [upd_same] at e; cases e
      exact new
    · rw [upd_ne hb] at e
      exact (I.hok b u e).stay (fun _ _ _ z => z) (fun c z => up z) (fun c xs z => up z)
theorem low_ne {n : Nat} {b a : Addr} (h : b < n) (h' : n ≤ a) : b ≠ a := Nat.ne_of_lt (Nat.lt_of_lt_of_le h h')
theorem get_lt_size {h : Heap} {b : Addr} {o : Obj} (e : h.get? b = some o) : b < h.objs.size := Heap.lt_size e
/-- self.f = y -/
theorem ost_one {y : V} {u : Value} {Q : Unit → Shared → Prop} {E : Value → Shared → Prop} {A : Around} (T : Own X.K newId bmB C) (SF : StoreFacts B bmB "object.__setattr__" "object") (I : Inv X pins σ H s) (e : H a = some (exo a C none)) (hno : PySem.W.findIn X.K (.ref C) f = some none) (ry : RelV y u)
    (h : ∀ dx s', H dx = none → dx ≠ a → Inv X pins σ (upd (upd H a (exo a C (some dx))) dx (exd dx [(f, y)])) s' → Q () s') : wpAny (model X.prog X.w) A (setAttr (.ref a) f u) Q E s := by
  obtain ⟨cd, hcd, hh⟩ := T.data
  obtain ⟨t1, ho⟩ := exo_at I.hok e
  obtain ⟨hp, g, d, t, os⟩ := s
  refine PySem.W.set_plain I.kIn (ox := { cls := .ref C, dict := none, data := .fields #[.ref t1, .none, .none, .none, .bool false, .none] }) (od := none) ⟨ho, rfl, rfl, trivial⟩ T.sa ?_
  refine osa_first SF I.kIn ho hcd T.over hh (taker_of hno) fun h' tk' dx k dn dne hx hns => ?_
  have hnd : H dx = none := I.hok.fresh dn
  have J := I.write (t' := tk') (x := a) (e := a) (o := exo a C (some dx)) (by rw [e]; exact True.intro) (.inl rfl) k ⟨_, hx⟩ (exo_ok hx)
  refine h dx _ hnd dne (adopt J (by rw [upd_ne dne]; exact hnd) ?_ ?_ ?_ ?_ (exd_ok hns (relO_put (fs := []) ry fun _ => True.intro)))
  · cases z : X.s_0.heap.get? dx with
    | none => rfl
    | some o => exact absurd rfl (low_ne (Nat.lt_of_lt_of_le (Heap.lt_size z) I.sz) dn)
  · exact Ne.symm (low_ne I.lt dn)
  · intro x c ec
    obtain ⟨v, ob, eo, _⟩ := I.cell x c ec
    exact low_ne (Heap.lt_size eo) dn
  · intro p hp'
    exact low_ne (Heap.lt_size (I.pin p hp').1) dn
/-- B.__init__(self, ..) -/
theorem oinit_any {us : List Value} {Q : Value → Shared → Prop} {E : Value → Shared → Prop} {A : Around} (T : Own X.K newId bmB C) (F : ExcBaseFacts B newId initId bmB) (I : Inv X pins σ H s) (e : H a = some (exo a C none)) (hl : us.length ≤ sizeLine) (h : ∀ s', Inv X pins σ H s' → Q .none s') :
    wpAny (model X.prog X.w) A (call (.builtin initId) (.ref a :: us)) Q E s := by
  obtain ⟨nm, q, N, bs, sn, sub, ab, col, dd, k0, k1, k2, k3, k5, hC⟩ := T.cls
  obtain ⟨t1, ho⟩ := exo_at I.hok e
  obtain ⟨hp, g, d, t, os⟩ := s
  refine wpAny_call (HandSPX.init_base F (fun _ => rfl) (I.kIn _ _ hC) ho hl fun h' t2 k hx => ?_)
  have J := I.write (t' := t) (x := a) (e := a) (o := exo a C none) (by rw [e]; exact True.intro) (.inl rfl) k ⟨_, hx⟩ (exo_ok hx)
  have eu : upd H a (exo a C none) = H := by
    funext b
    unfold upd
    split
    · rename_i z; rw [z, e]
    · rfl
  rw [eu] at J
  exact h _ J
def tBi (K : PySem.W.Frag) (newId : String) (bmB : List Value) (ta : TA) : TE := fun σ H Q => ta σ H fun vs H1 => ∃ (a C : Addr) (ws : List V), vs = .ref a :: ws ∧ ws.length ≤ 1000 ∧ Own K newId bmB C ∧ H1 a = some (exo a C none) ∧ Q .non H1
def tOs (K : PySem.W.Frag) (newId : String) (bmB : List Value) (f : Str) (to te : TE) : TS := fun D σ H => te σ H fun y H1 => to σ H1 fun x H2 => ∃ a C : Addr, x = .ref a ∧ Own K newId bmB C ∧ PySem.W.findIn K (.ref C) f = some none ∧ H2 a = some (exo a C none) ∧
  ∀ dx, H2 dx = none → dx ≠ a → D.nx σ (upd (upd H2 a (exo a C (some dx))) dx (exd dx [(f, y)]))
theorem pe_binit {n : Str} {o e : Expr} {es : List Expr} {ta : TA} {p1 p2 pos : Pos} {pl : Sem Bool} (F : ExcBaseFacts B newId initId bmB) (hg : Gl X n) (hm : X.mg n = none) (hv : bootBuiltins n = some (.type B)) (hn : n ≠ "__name__") (hdb : (n == ("__debug__" : Str)) = false)
    (hty : typeOf (.type B) = pure (.type "type")) (hst : Manifest.isStub B = false) (hha : PySem.W.handedIn (.builtin initId) = true) (vV : PySem.W.findCls X.K (.type B) (.type "type") "__init__" = some (.val (.builtin initId))) (ha : PA X (e :: es) ta)
    (hc : eval (.Call (.Attribute (.Name n p1) "__init__" p2) (e :: es) [] pos) X.env = (do
      let ov ← eval (.Name n p1) X.env
      standAt p2.atName
      let (f, first) ← holding [ov] (getMethod ov "__init__" pl)
      callWith pos f first (backTo pos (starEach (e :: es) X.env)) (backToKw pos (keywordEach [] X.env))) := by rfl)
    (he : starEach (e :: es) X.env = (false, eval e X.env) :: starEach es X.env := by rfl) (hpl : (backTo pos (starEach es X.env)).any (·.1) = false := by rfl) :
    PE X (.Call (.Attribute (.Name n p1) "__init__" p2) (e :: es) [] pos) (tBi X.K newId bmB ta) := by
  refine ⟨fun pins s σ H Q I h => PySem.W.methodCall_KW (ld_blt I hg hm hv ?_ hn hdb) hc⟩
  obtain ⟨m, fr⟩ := I.fr
  refine PySem.W.method_type fr I.ok.mod.kin hty hst vV hha ?_
  show wpAny _ _ (callWith pos (Value.builtin initId) [] (backTo pos (starEach (e :: es) X.env)) []) _ _ _
  refine PyProof.Rows.callWith_method1 (thn (ha.run pos pins _ σ H _ (I.tok _) h) fun us s1 ⟨vs, H1, I1, r1, a, C, ws, ev, hl, T, ea, q⟩ => ?_) he hpl
  subst ev
  cases r1 with
  | @cons _ u0 _ ur ra rr =>
    obtain rfl : u0 = Value.ref a := ra
    exact oinit_any T F I1 ea (by rw [← Paired.length rr, sizeLine_eq]; omega) fun s' J => ⟨.non, H1, J, rfl, q⟩
theorem ps_os {o e : Expr} {to te : TE} {p' pos : Pos} (SF : StoreFacts B bmB "object.__setattr__" "object") (ho : PE X o to) (he : PE X e te) (hs : swapsWith e (some (.Attribute o f p')) pos.line X.env = pure false := by rfl) : PS X (.Assign [.Attribute o f p'] e pos) (tOs X.K newId bmB f to te) := by
  refine ⟨fun pins s σ H D I h => plainObj_wpAny_Assign_Attribute (thn (he.run pins s σ H _ I h) fun v s1 ⟨y, H1, I1, r1, q1⟩ => thn (ho.run pins s1 σ H1 _ I1 q1) fun u s2 ⟨x, H2, I2, r2, a, C, ex, T, hno, ea, q⟩ => ?_) hs⟩
  subst ex
  obtain rfl : u = Value.ref a := r2
  exact ost_one T SF I2 ea hno r1 fun dx s' n ne J => ⟨σ, _, J, q dx n ne⟩
/-- the new error is let go: the heap without it -/
theorem mk_gone {hp hp2 h2 : Heap} {g1 g2 : Array GenState} {d1 d2 : Drawn} {t1 t2 : Nat} {os1 os2 : OsState} {dv : Option Addr} (I1 : Inv X pins σ H1 ⟨hp, g1, d1, t1, os1⟩)
    (ha : hp.objs.size ≤ a) (k : ∀ b o, hp.get? b = some o → hp2.get? b = some o) (un : Un (frs X.stack) [] (upd H1 a (exo a C none)) H2 hp2 h2) (hok : HOk X.prog X.w H2 h2) (ho : os2 = os1) (hb : AllBare g2) (ea : H2 a = some (exo a C dv)) :
    ∃ (t0 : Addr) (G : Heap), Inv X pins σ (del H2 a) ⟨G, g2, d2, t2, os2⟩ ∧ (∀ b o, G.get? b = some o → h2.get? b = some o) ∧ G.get? a = none ∧
      h2.get? a = some ({ cls := .ref C, dict := dv, data := .fields #[.ref t0, .none, .none, .none, .bool false, .none] } : Obj) := by
  obtain ⟨t0, hoe⟩ := exo_at hok ea
  have hn : H1 a = none := I1.hok.fresh ha
  obtain ⟨G, g1', g2'⟩ := restrict h2 fun b => decide (b ≠ a)
  have gk : ∀ b, b ≠ a → G.get? b = h2.get? b := fun b q => g1' b (decide_eq_true q)
  have ga : G.get? a = none := g2' a (decide_eq_false (fun z => z rfl))
  have na : ∀ {b : Addr} {o : Obj}, hp.get? b = some o → b ≠ a := fun q => low_ne (Heap.lt_size q) ha
  have up : ∀ {b : Addr}, b ≠ a → H1 b = none → upd H1 a (exo a C none) b = none := fun q n => by rw [upd_ne q]; exact n
  have tr : ∀ {b : Addr} {u : HO}, H1 b = some u → upd H1 a (exo a C none) b = some u ∧ b ≠ a := fun q => ⟨by rw [upd_ne (ne_of_none q hn)]; exact q, ne_of_none q hn⟩
  have U : Un (frs X.stack) [] H1 (del H2 a) hp G := {
    keep := fun b o z n hf hx => by rw [gk b (na z)]; exact un.keep b o (k b o z) (up (na z) n) hf hx
    slot := fun b o z n hf hx => by rw [gk b (na z)]; exact un.slot b o (k b o z) (up (na z) n) hf hx
    free := fun b o z n hx => by rw [del_ne (na z)]; exact un.free b o (k b o z) (up (na z) n) hx
    there := fun b o z hx => by rw [gk b (na z)]; exact un.there b o (k b o z) hx
    tups := fun b xs z => by rw [del_ne (tr z).2]; exact un.tups b xs (tr z).1
    frzs := fun b o v z => by rw [del_ne (tr z).2]; exact un.frzs b o v (tr z).1
    tbls := fun b ps z => by rw [del_ne (tr z).2]; exact un.tbls b ps (tr z).1 }
  have hok3 : HOk X.prog X.w (del H2 a) G := fun b o z => by
    have hba : b ≠ a := fun e => by rw [e, del_same] at z; cases z
    rw [del_ne hba] at z
    have noa : ∀ {c : Addr}, H2 c = some (.own b) → c ≠ a := fun hc => at_ne ea hc exo_own
    refine (hok b o z).stay (fun c v hc y => ?_) (fun c hc => by rw [del_ne (noa hc)]; exact hc) (fun c xs hc => by rw [del_ne (at_ne ea hc exo_tup)]; exact hc)
    have hca : c ≠ a := hc.elim (fun q => by rw [q]; exact hba) noa
    rw [gk c hca]; exact y
  have J : Inv X pins σ (del H2 a) ⟨G, g2, d2, t2, os2⟩ := I1.call' (ch := []) ho U hok3 hb (fun b z => absurd z (by simp))
  refine ⟨t0, G, J, fun b o z => ?_, ga, hoe⟩
  by_cases hba : b = a
  · rw [hba, ga] at z; cases z
  · exact (gk b hba).symm.trans z
/-- C(e, ..), C's own __init__ keeping sp -/
def tMkE (C : Addr) (sp : Sp) (ta : TA) : L2.St → Hp → XK → Prop := fun σ H Q => ta σ H fun vs H1 => vs.length ≤ 1000 ∧ ∀ a, H1 a = none → sp (.ref a :: vs) (upd H1 a (exo a C none))
  (fun v H2 => v = .non ∧ ((H2 a = some (exo a C none) ∧ Q (.ref C) none (del H2 a)) ∨ ∃ (d : Addr) (fs : List (Str × V)), H2 a = some (exo a C (some d)) ∧ H2 d = some (exd d fs) ∧ Q (.ref C) (some d) (upd (del H2 a) d (.xd fs)))) (fun _ _ _ => False)
/-- what such a call leaves -/
theorem made_run {vs : List V} {us : List Value} {fI : Addr} {k : Nat} {fd : FuncData} {ps : List Str} {sp : Sp} {Q : XK} {CX : CXT} (T : Own X.K newId bmB C) (F : ExcBaseFacts B newId initId bmB) (iC : PySem.W.findIn X.K (.ref C) "__init__" = some (some (.ref fI))) (tI : PySem.W.typeIn X.K (.ref fI) = some (.type "function"))
    (F1 : FnOk X.prog X.w X.K X.mg X.base CX k fI fd ps sp) (hr : Room (k + 1) X.A) (hb : Binds X.K fd ps []) (hx : Passes CX X (fun _ _ _ => False)) (I1 : Inv X pins σ H1 s) (r1 : Vals vs us) (hz : vs.length ≤ 1000)
    (q1 : ∀ a, H1 a = none → sp (.ref a :: vs) (upd H1 a (exo a C none)) (fun v H2 => v = .non ∧ ((H2 a = some (exo a C none) ∧ Q (.ref C) none (del H2 a)) ∨ ∃ (d : Addr) (fs : List (Str × V)), H2 a = some (exo a C (some d)) ∧ H2 d = some (exd d fs) ∧ Q (.ref C) (some d) (upd (del H2 a) d (.xd fs)))) (fun _ _ _ => False)) :
    wpAny (model X.prog X.w) X.A (call (.ref C) us) (MkP X pins σ Q) X.xe s := by
  obtain ⟨nm, q, N, bs, sn, sub, ab, col, dd, k0, k1, k2, k3, k5, hC⟩ := T.cls
  obtain ⟨hp, g, dr, tk, os⟩ := s
  have hsz : hp.objs.size ≤ hp.objs.size + 1 := Nat.le_succ _
  have hq := q1 (hp.objs.size + 1) (I1.hok.fresh hsz)
  obtain ⟨hp2, ehp⟩ : ∃ hp2, hp2 = (hp.push (PySem.W.kdv_tup us)).push (HandSPX.excO C hp.objs.size) := ⟨_, rfl⟩
  have kk : ∀ b o, hp.get? b = some o → hp2.get? b = some o := fun b o e => by rw [ehp]; exact Heap.get?_push_of_some _ (Heap.get?_push_of_some _ e)
  have hget : hp2.get? (hp.objs.size + 1) = some (HandSPX.excO C hp.objs.size) := by rw [ehp]; heap_get
  have I2 : Inv X pins σ (upd H1 (hp.objs.size + 1) (exo (hp.objs.size + 1) C none)) ⟨hp2, g, dr, tk, os⟩ := I1.laid (t' := tk) kk hsz (exo_ok hget)
  have r2 : Vals (V.ref (hp.objs.size + 1) :: vs) (Value.ref (hp.objs.size + 1) :: us) := .cons rfl r1
  have hl : (Value.ref (hp.objs.size + 1) :: us ++ []).length = ps.length := by
    rw [List.append_nil, ← r2.length]; exact F1.len _ _ _ _ hq
  have hus : us.length ≤ sizeLine := by rw [← Paired.length r1, sizeLine_eq]; omega
  refine wpAny_call (HandSPX.call_own F (fun _ => rfl) (I1.kIn _ _ hC) (PySem.W.looks_findIn I1.kIn iC) (fun self => PySem.W.bind_fn I1.kIn self tI) hus ?_)
  rw [← ehp]
  refine codeAny_mono (F1.run _ X.stack _ _ ⟨Value.ref (hp.objs.size + 1) :: us, []⟩ (Value.ref (hp.objs.size + 1) :: us) _ _ (fun _ _ _ => False) (hr.make C us []) (I2.env0.make C us []) ?_ r2 hq) fun r s' hq' => ?_
  · have z := hb ⟨hp2, g, dr, tk, os⟩ (Value.ref (hp.objs.size + 1) :: us) I2.kIn hl
    rw [List.append_nil] at z; exact z
  cases r with
  | error er => exact hx pins σ _ _ er s' I2 hq'
  | ok fl =>
    cases fl with
    | ret u =>
      obtain ⟨v, H2, os2, bare2, un2, hok2, rv, ev, alt⟩ := hq'
      subst ev
      obtain ⟨h2, g2, d2, t2, os'⟩ := s'
      refine ⟨rv, ?_⟩
      rcases alt with ⟨ea, q2⟩ | ⟨d, fs, ea, ed, q2⟩
      · obtain ⟨t0, G, J, kG, ge, hoe⟩ := mk_gone (d2 := d2) (t2 := t2) I1 hsz kk un2 hok2 os2 bare2 ea
        exact ⟨_, _, _, ⟨G, g2, d2, t2, os'⟩, _, .ref C, none, rfl, J, kG, ge, hoe, ⟨rfl, rfl⟩, rfl, rfl, del_same, rfl, bare2, raises_own T.exC T.tyC, q2⟩
      · obtain ⟨t0, G, J, kG, ge, hoe⟩ := mk_gone (d2 := d2) (t2 := t2) I1 hsz kk un2 hok2 os2 bare2 ea
        have hda : d ≠ hp.objs.size + 1 := fun z => by
          rw [z] at ed
          obtain ⟨mA, ⟨ob, es, ep, e1, e2, _⟩, _⟩ := exd_at hok2 ed
          rw [hoe] at e1
          have z2 := Option.some.inj e1
          subst z2
          cases e2
        have ed' : del H2 (hp.objs.size + 1) d = some (exd d fs) := by rw [del_ne hda]; exact ed
        obtain ⟨mA, ns, rel⟩ := exd_at J.hok ed'
        have J2 := J.write (t' := t2) (h' := G) (x := d) (e := d) (o := .xd fs) (by rw [ed']; exact True.intro) (.inl rfl) (fun _ _ _ z => z) (by obtain ⟨ob, _, _, e1, _⟩ := ns; exact ⟨ob, e1⟩) ⟨mA, ns, rel⟩
        exact ⟨_, _, _, ⟨G, g2, d2, t2, os'⟩, _, .ref C, some d, rfl, J2, kG, ge, hoe, ⟨rfl, rfl⟩, rfl, rfl, by rw [upd_ne (Ne.symm hda)]; exact del_same, rfl, bare2, raises_own T.exC T.tyC, q2⟩
    | next => exact False.elim hq'
    | brk => exact False.elim hq'
    | cont => exact False.elim hq'
theorem pmk_e {x : Str} {fI : Addr} {k : Nat} {fd : FuncData} {ps : List Str} {sp : Sp} {CX : CXT} {e : Expr} {es : List Expr} {ta : TA} {p pos : Pos} (T : Own X.K newId bmB C) (F : ExcBaseFacts B newId initId bmB) (iC : PySem.W.findIn X.K (.ref C) "__init__" = some (some (.ref fI))) (tI : PySem.W.typeIn X.K (.ref fI) = some (.type "function"))
    (F1 : FnOk X.prog X.w X.K X.mg X.base CX k fI fd ps sp) (hr : Room (k + 1) X.A) (hb : Binds X.K fd ps []) (hx : Passes CX X (fun _ _ _ => False)) (hg : Gl X x) (hm : X.mg x = some (.ref C)) (ha : PA X (e :: es) ta)
    (hdb : (x == ("__debug__" : Str)) = false := by decide) (he : starEach (e :: es) X.env = (false, eval e X.env) :: starEach es X.env := by rfl) (hpl : (backTo pos (starEach es X.env)).any (·.1) = false := by rfl) :
    PMk X (.Call (.Name x p) (e :: es) [] pos) (tMkE C sp ta) := by
  intro pins s σ H Q I h
  refine wpAny_Call_Name_kw (ld_glob I hg hm ?_ hdb)
  exact PySem.W.callWith_K (h₀ := X.base) I.ok.mod.kin T.kC (thn (ha.run pos pins s σ H _ I h) fun us s1 ⟨vs, H1, I1, r1, hz, q1⟩ => ⟨I1.kIn, made_run T F iC tI F1 hr hb hx I1 r1 hz q1⟩) he hpl
end
end Pc
namespace Pc
open PySem PySem.Spec PyProof.Rows L2 RZ
/-! ### errors of the program: caught, kept, looked at -/
section
open PySem.W
variable {M : Model} {K : Frag} {h : Heap}
theorem Looks.bind' {α β : Type} {x : Sem α} {f : α → Sem β} {a : α} {b : β} (hx : Looks M h x a) (hf : Looks M h (f a) b) : Looks M h (x >>= f) b := fun A Q E s k q =>
  wpAny_bind (hx A _ E s k (hf A Q E s k q))
theorem loop_all {α β : Type} {f : α → β → Sem (ForInStep β)} {b : β} : ∀ cs : List α, (∀ c ∈ cs, Looks M h (f c b) (.yield b)) → Looks M h (forIn cs b f) b
  | [], _ => by rw [List.forIn_nil]; exact .now
  | c :: cs, hc => by
    rw [List.forIn_cons]
    exact Looks.bind' (hc c List.mem_cons_self) (loop_all cs fun c' h' => hc c' (List.mem_cons_of_mem _ h'))
theorem loop_any {α β : Type} {f : α → β → Sem (ForInStep β)} {b b1 : β} : ∀ (bs : List Bool) (cs : List α), bs.length = cs.length → bs.any id = true → (∀ (i : Nat) (c : α) (y : Bool), cs[i]? = some c → bs[i]? = some y → Looks M h (f c b) (if y = true then .done b1 else .yield b)) → Looks M h (forIn cs b f) b1
  | [], [], _, e, _ => absurd e (by decide)
  | y :: bs, c :: cs, hl, e, hc => by
    rw [List.forIn_cons]
    have h0 := hc 0 c y rfl rfl
    cases y with
    | true => exact Looks.bind' h0 .now
    | false => exact Looks.bind' h0 (loop_any bs cs (Nat.succ.inj hl) e fun i c' y' h1 h2 => hc (i + 1) c' y' h1 h2)
/-- an except clause with several classes, of which one is the error's -/
theorem exm_some {cls : Value} {cs : List Value} {tp e : Addr} {o : Obj} {n : Nat} (X : K.In h) (LT : Looks M h (typeOf (.ref e)) cls) (hp : h.get? tp = some o) (hc : o.cls = .type "tuple") (hd : o.data = .seq cs.toArray n) (bs : List Bool) (hl : bs.length = cs.length) (hb : bs.any id = true)
    (hx : ∀ (i : Nat) (c : Value) (y : Bool), cs[i]? = some c → bs[i]? = some y → exmOne K cls c = some y) : Looks M h (excMatches (.ref e) (.ref tp)) true := by
  have at_ : ∀ c ∈ cs, ∃ y, exmOne K cls c = some y := fun c hm => by
    obtain ⟨i, hi, rfl⟩ := List.getElem_of_mem hm
    exact ⟨bs[i]'(by omega), hx i _ _ (List.getElem?_eq_getElem hi) (List.getElem?_eq_getElem _)⟩
  have L0 : Looks M h (isInstance (.ref tp) (.type "tuple")) true := fun A Q E s k q => by
    refine wpAny_bind (wpAny_typeOf_ref (k _ _ hp) ?_)
    rw [hc]
    exact (Looks.of_pure isSubtype_tuple_tuple) A Q E s k q
  unfold excMatches
  refine Looks.bind' L0 ?_
  dsimp only
  rw [if_pos rfl]
  refine Looks.bind' (a := some cs.toArray) (fun A Q E s k q => wpAny_seqItems (k _ _ hp) hd q) ?_
  refine Looks.bind' (a := cs) .now ?_
  refine Looks.bind' (a := PUnit.unit) (loop_all cs fun c hm => ?_) ?_
  · obtain ⟨y, hy⟩ := at_ c hm
    refine Looks.bind' (exm_cls X hy).1 ?_
    exact .now
  refine Looks.bind' LT ?_
  refine Looks.bind' (loop_any (b1 := (some true, ())) bs cs hl hb fun i c y h1 h2 => Looks.bind' (exm_cls X (hx i c y h1 h2)).2 ?_) ?_
  · cases y <;> exact .now
  · exact .now
end
end Pc
namespace Pc
open PySem PySem.Spec PyProof.Rows L2 RZ
/-- an error that was caught and is kept: its class, its dict -/
def exk (a : Addr) (cls : Value) (d : Option Addr) : HO := .ext fun h => ∃ (oe : Obj) (vs : Array Value), h.get? a = some oe ∧ Zc cls d oe ∧ oe.data = .fields vs
theorem exk_ok {P : Program} {w : World} {H : Hp} {h : Heap} {a : Addr} {cls : Value} {d : Option Addr} {oe : Obj} {vs : Array Value} (e : h.get? a = some oe) (z : Zc cls d oe) (q : oe.data = .fields vs) : ObjOk P w H h a (exk a cls d) :=
  ⟨⟨oe, vs, e, z, q⟩, ⟨oe, e⟩, fun _ _ ⟨o, v, r, r'⟩ k => ⟨o, v, k o r, r'⟩⟩
theorem exk_at {P : Program} {w : World} {H : Hp} {h : Heap} {a : Addr} {cls : Value} {d : Option Addr} (hok : HOk P w H h) (e : H a = some (exk a cls d)) : ∃ (oe : Obj) (vs : Array Value), h.get? a = some oe ∧ Zc cls d oe ∧ oe.data = .fields vs := by
  have x : ObjOk P w H h a (.ext fun h => ∃ (oe : Obj) (vs : Array Value), h.get? a = some oe ∧ Zc cls d oe ∧ oe.data = .fields vs) := hok a _ e
  exact x.1
theorem fly_keeps {B h h' : Heap} {l : List PySem.Env} {e : Addr} {Z : Obj → Prop} (R : HandSPX.FlyingZ B l e Z h) (k : ∀ b o, h.get? b = some o → h'.get? b = some o) : HandSPX.FlyingZ B l e Z h' := by
  obtain ⟨f1, f2, f3, oe, ws, T, oT, ts, r1, r2, r3, r4, r5, r6, r7, r8⟩ := R
  exact ⟨fun b o q => k b o (f1 b o q), f2, f3.of_keeps fun b o q _ => ⟨o, k b o q, rfl⟩, oe, ws, T, oT, ts, k _ _ r1, r2, r3, r4, r5, r6, k _ _ r7, r8⟩
/-- names of classes, one by one -/
def NamesAll (X : Cx) (es : List Expr) (cs : List Value) : Prop := Paired (fun (e : Expr) c => ∃ (x : Str) (p : Pos), e = .Name x p ∧ Names X x c) es cs
theorem names_run {X : Cx} {pins : List (Addr × Obj)} {σ : L2.St} {H : Hp} {s : Shared} {E : Value → Shared → Prop} {pos : Pos} (I : Inv X pins σ H s) :
    ∀ {es : List Expr} {cs : List Value} {Q : List Value → Shared → Prop}, NamesAll X es cs → Q cs s → wpAny (model X.prog X.w) X.A (spliced (backTo pos (starEach es X.env))) Q E s := by
  intro es cs Q h
  revert Q
  induction h with
  | nil => intro Q q; exact wpAny_items_nil q
  | cons h1 _ ih =>
    intro Q q
    obtain ⟨x, p, rfl, hg, hdb, hm⟩ := h1
    refine wpAny_items_cons ?_
    rcases hm with hm | ⟨hm, hv, hn⟩
    · exact ld_glob I hg hm (ih q) hdb
    · exact ld_blt I hg hm hv (ih q) hn hdb
/-- of which classes the error is -/
def Hits (K : PySem.W.Frag) (cls : Value) (cs : List Value) : Prop := ∃ bs : List Bool, bs.length = cs.length ∧ bs.any id = true ∧ ∀ (i : Nat) (c : Value) (y : Bool), cs[i]? = some c → bs[i]? = some y → PySem.W.exmOne K cls c = some y
/-- what 'except (..) as n: suite' wishes of an error of the body (slot i is n's): the error is kept -/
def wKept (K : PySem.W.Frag) (cs : List Value) (i : Nat) (ts : Addr → TS) (D : Ends) : WX := fun cls d σ H => Hits K cls cs ∧ ∀ a, H a = none →
  ts a { nx := fun σ' H' => D.nx (σ'.set i none) (upd H' a (exk a cls d)), rt := fun _ _ => False } (σ.set i (some (.ref a))) H
section
variable {X : Cx} {n : Str} {i : Nat} {body suite : List Stmt} {b₀ : Stmt} {es : List Expr} {cs : List Value} {kk : Nat} {tpos pos pos' : Pos} {tb : WX → TS} {ts : Addr → TS}
theorem ps_try_kept (hex : X.ex = []) (hs : X.stack = X.env :: X.outer) (hf : X.env.frame = some X.env.locals) (hN : X.N.Nodup) (hi : X.N[i]? = some n) (hln : X.env.kindOf n = some .local) (hc : NamesAll X es cs) (hcl : cs.length ≤ 1000)
    (hb : ∀ (W : WX) (pn : List (Addr × Obj)) (xe : Value → Shared → Prop), Takes (X.tr pn xe) W → PassesOwn (model X.prog X.w) X.A X.env xe → PSs (X.tr pn xe) body (tb W))
    (hsu : ∀ (a : Addr) (oe : Obj) (pn : List (Addr × Obj)), PSs (X.suite a ((a, oe) :: pn)) (b₀ :: suite) (ts a)) :
    PS X (.Try body [.ExceptHandler (some (.Tuple es kk tpos)) (some n) (b₀ :: suite) pos'] [] [] pos) (fun D σ H => tb (wKept X.K cs i ts D) D σ H) := by
  refine ⟨fun pins s σ H D I h => ?_⟩
  have ok := I.ok
  have hfr : X.A.frames = some (X.env :: X.outer) := by rw [ok.frames, hs]
  refine wpAny_Try_except (wpAny_mono ((hb (wKept X.K cs i ts D) (X.pn ++ pins) (fun e s₁ => wpAny (model X.prog X.w) X.A (noteFrame e X.env) (fun _ s₂ => wpAny (model X.prog X.w) X.A (setFlight e none) (fun _ s₃ =>
    wpAny (model X.prog X.w) X.A (handleBy e X.env [.ExceptHandler (some (.Tuple es kk tpos)) (some n) (b₀ :: suite) pos']) (SP X pins D) X.xe s₃) X.xe s₂) X.xe s₁) (fun u s' xx => ?_) PassesOwn.looking).run [] s σ H D (I.toTry _) h) (fun f s1 hsp => ?_) (fun e s1 he => he))
  · obtain ⟨a, B, sI, pins', σ', H', cls, d, rfl, J', nb, up, sky, na, os, ag, ⟨bs, hbl, hba, hbx⟩, hyes⟩ := xx
    have J : Inv X pins σ' H' sI := J'.ofTry ok
    rw [hs] at sky
    show wpAny (model X.prog X.w) X.A (noteFrame (.ref a) X.env) _ _ _
    refine Sky.land Zc.steady hfr hf sky fun h3 fl3 up3 => ?_
    obtain ⟨oe3, vs3, he3, hz3, hd3⟩ := fl3.there
    have nfr : a ∉ frs (X.env :: X.outer) := fun hm => by
      obtain ⟨_, o', e', hnf⟩ := fl3.2.2.1.mem hm
      rw [he3] at e'; cases e'
      exact hnf _ hd3
    have nL : a ≠ X.env.locals := fun z => nfr (List.mem_filterMap.mpr ⟨X.env, List.mem_cons_self, by rw [hf, z]⟩)
    have nF : a ∉ X.fs := fun hm => by
      obtain ⟨e, he, q⟩ := List.mem_filterMap.mp hm
      exact nfr (List.mem_filterMap.mpr ⟨e, List.mem_cons_of_mem _ he, q⟩)
    have nI : sI.heap.get? a = none := by
      cases z : sI.heap.get? a with
      | none => rfl
      | some o =>
        have y := nb a o z (by rw [hs]; exact nfr)
        rw [fl3.2.1] at y; cases y
    have J3 : Inv X pins σ' H' { s' with heap := h3 } := J.landed nb fl3.1 (up.trans up3) os ag
    have S3 := J3.suite he3 hd3 na nL nF
    refine wpAny_handleBy_cons (codeAny_handlers_test (wpAny_Tuple_spliced (names_run (X := X.suite a ((a, oe3) :: (X.pn ++ pins))) (cs := cs) S3 (L2.Paired.mapP hc fun _ _ z => z) ⟨by rw [sizeLine_eq]; omega, ?_⟩))) (by intro q; cases q)
    dsimp only
    have kp : ∀ b o, h3.get? b = some o → (h3.push { cls := .type "tuple", data := .seq cs.toArray }).get? b = some o := fun _ _ z => Heap.get?_push_of_some _ z
    have LT : PySem.W.Looks (model X.prog X.w) (h3.push { cls := .type "tuple", data := .seq cs.toArray }) (typeOf (.ref a)) cls := fun A Q E s k q => wpAny_typeOf_ref (k _ _ (kp _ _ he3)) (by rw [hz3.1]; exact q)
    refine (exm_some (J3.kIn.keeps kp) LT (Heap.get?_push_size h3 rfl) rfl rfl bs hbl hba hbx).here ?_
    refine codeAny_handlers_suite_as (HandSPX.lands_againZ (fly_keeps fl3 kp) fun h4 fl4 up4 => ?_)
    have J4 : Inv X pins σ' H' { s' with heap := h4 } := J.landed nb fl4.1 (((up.trans up3).trans (Heap.UpToSlots.of_keeps kp)).trans up4) os ag
    obtain ⟨oe4, vs4, he4, hz4, hd4⟩ := fl4.there
    have S4 := J4.suite he4 hd4 na nL nF
    refine store_ok (X := X.suite a ((a, oe4) :: (X.pn ++ pins))) (v := .ref a) S4 hN hi (.inl hln) rfl (fun s5 S5 => ?_) (.inr hln)
    refine wpAny_mono ((hsu a oe4 (X.pn ++ pins)).run [] s5 _ H' _ S5 (hyes a na)) (fun f s6 hsp => ?_) (fun _ _ z => False.elim z)
    cases f with
    | next =>
      obtain ⟨σ6, H6, S6, q6⟩ := hsp
      refine gone_ok (X := X.suite a ((a, oe4) :: (X.pn ++ pins))) S6 hN hi hln fun s7 S7 => ⟨_, _, adopt (S7.unsuite ok) ?_ ?_ nL ?_ ?_ ?_, q6⟩
      · exact (S7.pin (a, oe4) (List.mem_append_left _ List.mem_cons_self)).2.1
      · cases z : X.s_0.heap.get? a with
        | none => rfl
        | some o =>
          obtain ⟨o', y⟩ := J.base.there a o z (by rw [hex]; exact fun q => nomatch q)
          rw [nI] at y; cases y
      · intro x c ec z
        obtain ⟨v, ob, eo, _⟩ := J.cell x c ec
        rw [z, nI] at eo; cases eo
      · intro p hp z
        have y := (J.pin p hp).1
        rw [z, nI] at y; cases y
      · exact exk_ok (S7.pin (a, oe4) (List.mem_append_left _ List.mem_cons_self)).1 hz4 hd4
    | brk => obtain ⟨σ6, H6, S6, q6⟩ := hsp; exact q6.elim
    | cont => obtain ⟨σ6, H6, S6, q6⟩ := hsp; exact q6.elim
    | ret u => obtain ⟨v6, σ6, H6, S6, r6, q6⟩ := hsp; exact q6.elim
  · cases f with
    | next => obtain ⟨σ', H', J', q⟩ := hsp; exact wpAny_execs_nil ⟨σ', H', J'.ofTry ok, q⟩
    | brk => obtain ⟨σ', H', J', q⟩ := hsp; exact ⟨σ', H', J'.ofTry ok, q⟩
    | cont => obtain ⟨σ', H', J', q⟩ := hsp; exact ⟨σ', H', J'.ofTry ok, q⟩
    | ret u => obtain ⟨v, σ', H', J', r, q⟩ := hsp; exact ⟨v, σ', H', J'.ofTry ok, r, q⟩
end
end Pc
namespace Pc
open PySem PySem.Spec PyProof.Rows L2 RZ
/-- what isinstance asks of the class of a kept error -/
structure KeptC (K : PySem.W.Frag) (C : Addr) : Prop where
  ga : PySem.W.findIn K (.ref C) "__getattribute__" = some (some (.builtin "BaseException.__getattribute__"))
  gg : PySem.W.findIn K (.ref C) "__getattr__" = some none
  exC : PySem.W.subIn K (.ref C) (.type "BaseException") = some true
  hdC : PySem.W.hasDictIn K C = true
  clC : PySem.W.findIn K (.ref C) "__class__" = some (some (.builtin "object.__class__"))
  mrO : PySem.W.mroIn K C (.type "object") = some true
  sp : PySem.W.specialIn K (.builtin "object.__class__") "__get__" = some (some (.builtin "getset_descriptor.__get__"))
  tk : PySem.W.takesIn K (.builtin "object.__class__") = some true
/-- a kept error with its dict -/
def Kept (H : Hp) (a C : Addr) (d : Option Addr) : Prop := H a = some (exk a (.ref C) d) ∧ (d = none ∨ ∃ dd fs, d = some dd ∧ H dd = some (.xd fs))
section
variable {X : Cx} {pins : List (Addr × Obj)} {σ : L2.St} {H : Hp} {s : Shared} {a C : Addr} {d : Option Addr}
theorem kept_inst (I : Inv X pins σ H s) (h : Kept H a C d) : ∃ (oe : Obj) (od : Option Obj), PySem.W.InstAt s.heap a oe C od := by
  obtain ⟨e, hd⟩ := h
  obtain ⟨oe, vs, ho, hz, hv⟩ := exk_at I.hok e
  have nc : PySem.W.notCls oe = true := by unfold PySem.W.notCls; rw [hv] <;> rfl
  rcases hd with rfl | ⟨dd, fs, rfl, ed⟩
  · exact ⟨oe, none, ho, hz.1, nc, by rw [hz.2]; trivial⟩
  · obtain ⟨mA, ⟨od, es, ep, q, _⟩, _⟩ := (show ObjOk X.prog X.w H s.heap dd (.xd fs) from I.hok dd _ ed)
    exact ⟨oe, some od, ho, hz.1, nc, by rw [hz.2]; exact q⟩
theorem kept_kit (T : KeptC X.K C) {oe : Obj} {od : Option Obj} : PySem.W.KitX X.K (.ref a) (.ref C) (fun h => PySem.W.InstAt h a oe C od) :=
  PySem.W.kitx_exc (by obtain ⟨cd, hc, _⟩ := PySem.W.any_some T.hdC; rw [hc]; rfl) T.ga T.gg T.exC T.clC T.sp T.tk T.mrO
/-- isinstance(e, c), e a kept error -/
def rIsk (K : PySem.W.Frag) : List V → Hp → VK → Prop := fun xs H Q => ∃ (a C : Addr) (d : Option Addr) (c : V) (u : Value) (b : Bool), xs = [.ref a, c] ∧ Kept H a C d ∧ KeptC K C ∧ ClsV c u ∧ PySem.W.kitOne K (.ref C) u = some b ∧ Q (.bl b) H
theorem call_isk : CallR X (.builtin "isinstance") (rIsk X.K) := by
  intro pins s σ H xs us Q I r h
  obtain ⟨a, C, d, c, u, b, rfl, hk, T, k, e, q⟩ := h
  obtain ⟨u1, u2, rfl, r1, r2⟩ := vals2 r
  cases (show u1 = Value.ref a from r1)
  have e2 := k.eq r2
  subst e2
  obtain ⟨oe, od, J⟩ := kept_inst I hk
  exact PySem.W.kia_one (kept_kit T) I.kIn J e (fun z => nomatch z) fun tk => ⟨.bl b, H, I.tok tk, rfl, q⟩
/-- isinstance(e, (c, ..)) -/
def rIskT (K : PySem.W.Frag) : List V → Hp → VK → Prop := fun xs H Q => ∃ (a C : Addr) (d : Option Addr) (tp : Addr) (cs : List V) (us : List Value) (b : Bool), xs = [.ref a, .ref tp] ∧ Kept H a C d ∧ KeptC K C ∧ H tp = some (.tup cs) ∧ Paired ClsV cs us ∧ PySem.W.kitAny K (.ref C) us = some b ∧ Q (.bl b) H
theorem call_iskT : CallR X (.builtin "isinstance") (rIskT X.K) := by
  intro pins s σ H xs us Q I r h
  obtain ⟨a, C, d, tp, cs, ws, b, rfl, hk, T, hT, k, e, q⟩ := h
  obtain ⟨u1, u2, rfl, r1, r2⟩ := vals2 r
  cases (show u1 = Value.ref a from r1)
  cases (show u2 = Value.ref tp from r2)
  obtain ⟨oe, od, J⟩ := kept_inst I hk
  obtain ⟨_, its, rv, o, h1, h2, n, h3⟩ := (show ObjOk X.prog X.w H s.heap tp (.tup cs) from I.hok tp _ hT)
  have e3 := ClsV.all k rv
  subst e3
  obtain ⟨oc, od', dt, sl⟩ := o
  simp only at h2 h3
  subst h2 h3
  exact PySem.W.kia_tup (kept_kit T) I.kIn J h1 e (fun z => nomatch z) fun tk => ⟨.bl b, H, I.tok tk, rfl, q⟩
/-- e.f, e a kept error -/
def tKf (K : PySem.W.Frag) (f : Str) (te : TE) : TE := fun σ H Q => te σ H fun x H1 => ∃ (a C dd : Addr) (fs : List (Str × V)) (v : V), x = .ref a ∧ H1 a = some (exk a (.ref C) (some dd)) ∧ KeptC K C ∧ PySem.W.findIn K (.ref C) f = some none ∧ H1 dd = some (.xd fs) ∧ fs.lookup f = some v ∧ Q v H1
theorem pe_kf {e : Expr} {te : TE} {f : Str} {pos : Pos} (he : PE X e te) (hb : attributeBase e f X.env (eval e X.env) = eval e X.env := by rfl) : PE X (.Attribute e f pos) (tKf X.K f te) := by
  refine ⟨fun pins s σ H Q I h => attr_of hb (thn (he.run pins s σ H _ I h) fun u s1 hh => ?_)⟩
  obtain ⟨x, H1, I1, rx, a, C, dd, fs, v, ex, ea, T, hno, ed, l, q⟩ := hh
  subst ex
  obtain rfl : u = Value.ref a := rx
  obtain ⟨oe, vs, ho, hz, hv⟩ := exk_at I1.hok ea
  obtain ⟨mA, hns, hr⟩ := (show ObjOk X.prog X.w H1 s1.heap dd (.xd fs) from I1.hok dd _ ed)
  obtain ⟨od, hod, hl⟩ := lookIn_ns hns
  obtain ⟨w', hw, rw'⟩ := RelO.some_of (v := v) (o := mA f) (by rw [← l]; exact hr f)
  have J : PySem.W.InstAt s1.heap a oe C (some od) := ⟨ho, hz.1, by unfold PySem.W.notCls; rw [hv] <;> rfl, by rw [hz.2]; exact hod⟩
  exact HandSPX.exc_get I1.kIn J T.ga T.gg T.exC (PySem.W.findObj_own T.hdC hno rfl (by rw [hl, hw])) (handed_of rw') ⟨v, H1, I1.tok _, rw', q⟩
end
end Pc
namespace Pc
open PySem PySem.Spec PyProof.Rows L2 RZ
/-! ### errors with one field: made, flying -/
/-- an error of the class at C with the field f flies, from the heap H on -/
def Flies (C : Addr) (f : Str) (v : V) (H : Hp) (E : XK) : Prop := ∀ d H', Same H H' → H d = none → H' d = some (.xd [(f, v)]) → E (.ref C) (some d) H'
theorem Flies.same {C : Addr} {f : Str} {v : V} {H H1 : Hp} {E : XK} (h : Flies C f v H E) (s : Same H H1) : Flies C f v H1 E := fun d H' s' n e => h d H' (s.trans s') (s.free n) e
def spInit1 (C : Addr) (f : Str) : Sp := fun vs H Q _ => ∃ (a : Addr) (v : V), vs = [.ref a, v] ∧ H a = some (exo a C none) ∧ ∀ dx, H dx = none → dx ≠ a → Q .non (upd (upd H a (exo a C (some dx))) dx (exd dx [(f, v)]))
theorem raised1 {C : Addr} {f : Str} {v : V} {H1 : Hp} {Q : XK} (h : Flies C f v H1 Q) : [v].length ≤ 1000 ∧ ∀ a, H1 a = none → spInit1 C f (.ref a :: [v]) (upd H1 a (exo a C none))
    (fun v' H2 => v' = .non ∧ ((H2 a = some (exo a C none) ∧ Q (.ref C) none (del H2 a)) ∨ ∃ (d : Addr) (fs : List (Str × V)), H2 a = some (exo a C (some d)) ∧ H2 d = some (exd d fs) ∧ Q (.ref C) (some d) (upd (del H2 a) d (.xd fs)))) (fun _ _ _ => False) := by
  refine ⟨(by show 1 ≤ 1000; decide), fun a na => ⟨a, v, rfl, upd_same, fun dx nd ne => ⟨rfl, .inr ⟨dx, [(f, v)], ?_, upd_same, h dx _ ?_ ?_ upd_same⟩⟩⟩⟩
  · rw [upd_ne (Ne.symm ne), upd_same]
  · intro b o hb
    have nd' : H1 dx = none := by rw [upd_ne ne] at nd; exact nd
    have hbd := ne_of_none hb nd'
    have hba := ne_of_none hb na
    rw [upd_ne hbd, del_ne hba, upd_ne hbd, upd_ne hba, upd_ne hba]
    exact hb
  · rw [upd_ne ne] at nd; exact nd
/-- the try's wish of such an error -/
theorem kept1 {K : PySem.W.Frag} {C : Addr} {f : Str} {v : V} {cs : List Value} {i : Nat} {ts : Addr → TS} {D : Ends} {σ : L2.St} {H : Hp} (hh : Hits K (.ref C) cs)
    (h : ∀ d H' a, Same H H' → H d = none → H' d = some (.xd [(f, v)]) → H' a = none → a ≠ d → ts a { nx := fun σ' H'' => D.nx (σ'.set i none) (upd H'' a (exk a (.ref C) (some d))), rt := fun _ _ => False } (σ.set i (some (.ref a))) H') :
    Flies C f v H (fun cls d H' => wKept K cs i ts D cls d σ H') := fun d H' s n e => ⟨hh, fun a na => h d H' a s n e na (fun z => by rw [z, e] at na; cases na)⟩
theorem Kept.mk1 {H' : Hp} {a d C : Addr} {fs : List (Str × V)} (e : H' d = some (.xd fs)) (n : H' a = none) : Kept (upd H' a (exk a (.ref C) (some d))) a C (some d) :=
  ⟨upd_same, .inr ⟨d, fs, rfl, by rw [upd_ne (ne_of_none e n)]; exact e⟩⟩
theorem Kept.same {H H' : Hp} {a C : Addr} {d : Option Addr} (h : Kept H a C d) (s : Same H H') : Kept H' a C d :=
  ⟨s _ _ h.1, h.2.imp id fun ⟨dd, fs, e, z⟩ => ⟨dd, fs, e, s _ _ z⟩⟩
theorem over_of {K : PySem.W.Frag} {C : Addr} {bmB : List Value} {newId : String} {nm q : Str} {N : Addr} {bs : List Value} {sn : List Str} {sub : List Value} {ab : Bool} {col : Option Bool} {dd : Option Addr} {k0 k1 k2 k3 k5 : Option Value}
    (h : K.lookup C = some (excClassObj nm q C N bs bmB true sn sub ab col dd k0 k1 k2 k3 k5 newId)) (ht : PySem.W.excTail bmB bmB = true) : PySem.W.excOver K C bmB = true := by
  have e : PySem.W.clsIn K C = some { name := nm, bases := bs, mro := .ref C :: bmB, ns := N, qualname := q, hasDict := true, slotNames := sn, subclasses := sub, abstract := ab, collection := col, hasDel := false } := by
    unfold PySem.W.clsIn
    rw [h] <;> rfl
  unfold PySem.W.excOver
  rw [e]
  show ((C == C) && PySem.W.excTail bmB bmB) = true
  rw [ht, beq_self_eq_true]; rfl
theorem kcls_of {K : PySem.W.Frag} {t : Value} {D : Addr} {b : Bool} (h2 : PySem.W.isClsIn K D = true) (h3 : PySem.W.typeIn K (.ref D) = some (.type "type")) (h4 : PySem.W.subIn K t (.ref D) = some b) : PySem.W.kitCls K t (.ref D) = some b := by
  have e2 : ((PySem.W.clsIn K D).isSome && PySem.W.typeIn K (.ref D) == some (.type "type")) = true := by
    have h2' : (PySem.W.clsIn K D).isSome = true := h2
    rw [h2', h3] <;> rfl
  show (if ((PySem.W.clsIn K D).isSome && PySem.W.typeIn K (.ref D) == some (.type "type")) = true then PySem.W.subIn K t (.ref D) else none) = some b
  rw [if_pos e2]
  exact h4
theorem exm_of' {K : PySem.W.Frag} {t : Value} {D : Addr} {b : Bool} (h1 : PySem.W.subIn K (.ref D) (.type "BaseException") = some true) (h2 : PySem.W.isClsIn K D = true) (h3 : PySem.W.typeIn K (.ref D) = some (.type "type")) (h4 : PySem.W.subIn K t (.ref D) = some b) : PySem.W.exmOne K t (.ref D) = some b := by
  have e1 : (PySem.W.subIn K (.ref D) (.type "BaseException") == some true) = true := by rw [h1] <;> rfl
  show (if (PySem.W.subIn K (.ref D) (.type "BaseException") == some true) = true then PySem.W.kitCls K t (.ref D) else none) = some b
  rw [if_pos e1]
  exact kcls_of h2 h3 h4
theorem kit_own {K : PySem.W.Frag} {C D : Addr} {b : Bool} (h0 : PySem.W.subIn K (.ref C) (.ref C) = some true) (h2 : PySem.W.isClsIn K D = true) (h3 : PySem.W.typeIn K (.ref D) = some (.type "type")) (h4 : PySem.W.subIn K (.ref C) (.ref D) = some b) : PySem.W.kitOne K (.ref C) (.ref D) = some b := by
  by_cases e : C = D
  · subst e
    rw [h0] at h4
    rw [← h4]
    show (if ((Value.ref C) == (Value.ref C)) = true then some true else _) = some true
    rw [if_pos (beq_self_eq_true _)]
  · have n : ((Value.ref C) == (Value.ref D)) = false := beq_false_of_ne (fun z => e (Value.ref.inj z))
    show (if ((Value.ref C) == (Value.ref D)) = true then some true else PySem.W.kitCls K (.ref C) (.ref D)) = some b
    rw [if_neg (by rw [n]; exact Bool.false_ne_true)]
    exact kcls_of h2 h3 h4
theorem kit_blt {K : PySem.W.Frag} {C : Addr} {T : String} {b : Bool} (hm : PySem.W.kitMeta T = true) (h4 : PySem.W.subIn K (.ref C) (.type T) = some b) : PySem.W.kitOne K (.ref C) (.type T) = some b := by
  have n : ((Value.ref C) == (Value.type T)) = false := beq_false_of_ne (fun z => nomatch z)
  show (if ((Value.ref C) == (Value.type T)) = true then some true else (if PySem.W.kitMeta T = true then PySem.W.subIn K (.ref C) (.type T) else none)) = some b
  rw [if_neg (by rw [n]; exact Bool.false_ne_true), if_pos hm]
  exact h4
theorem kit_all {K : PySem.W.Frag} {t : Value} : ∀ {us : List Value}, (∀ u ∈ us, PySem.W.kitOne K t u = some false) → PySem.W.kitAny K t us = some false
  | [], _ => rfl
  | u :: us, h => by
    show (match PySem.W.kitOne K t u with | some true => some true | some false => PySem.W.kitAny K t us | none => none) = some false
    rw [h u List.mem_cons_self]
    exact kit_all fun x hx => h x (List.mem_cons_of_mem _ hx)
end Pc
namespace Pc
open PySem PySem.Spec PyProof.Rows L2 RZ
theorem kit_nil {K : PySem.W.Frag} {t : Value} : PySem.W.kitAny K t [] = some false := rfl
theorem kit_cons {K : PySem.W.Frag} {t u : Value} {us : List Value} (h : PySem.W.kitOne K t u = some false) (r : PySem.W.kitAny K t us = some false) : PySem.W.kitAny K t (u :: us) = some false := by
  show (match PySem.W.kitOne K t u with | some true => some true | some false => PySem.W.kitAny K t us | none => none) = some false
  rw [h]
  exact r
theorem hits_of {K : PySem.W.Frag} {cls : Value} {cs : List Value} (bs : List Bool) (hb : bs.any id = true) (h : Paired (fun c b => PySem.W.exmOne K cls c = some b) cs bs) : Hits K cls cs :=
  ⟨bs, h.length.symm, hb, fun i c y hc hy => by
    obtain ⟨y', e, z⟩ := paired_get h hc
    rw [hy] at e; cases e
    exact z⟩
end Pc
namespace Pc
open PySem PySem.Spec PyProof.Rows L2 RZ
/-- two promises of one def -/
theorem FnOk.or {P : Program} {w : World} {K : PySem.W.Frag} {mg : Str → Option Value} {base : Heap} {CX : CXT} {k : Nat} {f : Addr} {fd : FuncData} {ps : List Str} {sp sp' : Sp} (F : FnOk P w K mg base CX k f fd ps sp) (G : FnOk P w K mg base CX k f fd ps sp') :
    FnOk P w K mg base CX k f fd ps (fun vs H Q E => sp vs H Q E ∨ sp' vs H Q E) where
  len vs H Q E h := h.elim (F.len vs H Q E) (G.len vs H Q E)
  run A outer s H args us vs Q E hr e0 hb r h := h.elim (F.run A outer s H args us vs Q E hr e0 hb r) (G.run A outer s H args us vs Q E hr e0 hb r)
end Pc
namespace Pc
open PySem PySem.Spec PyProof.Rows L2 RZ
def topS (i : Nat) : Stmt := PySem.Challenge.pw_partnercall_k44_lists_that_lead_or_not.main.body.getD i (.Pass ⟨0, 0, 0, 0⟩)
abbrev s_p_is_integer_below : Stmt := topS 4
abbrev N_p_is_integer_below : List Str := ["value", "limit"]
theorem sc_p_is_integer_below : FnScope ["value", "limit"] ["value", "limit"] (defScope s_p_is_integer_below) := ⟨rfl, rfl, rfl, by decide +kernel, rfl, by decide +kernel, by decide +kernel⟩
abbrev s_p_check_person : Stmt := topS 6
abbrev N_p_check_person : List Str := ["size", "person"]
theorem sc_p_check_person : FnScope ["size", "person"] ["size", "person"] (defScope s_p_check_person) := ⟨rfl, rfl, rfl, by decide +kernel, rfl, by decide +kernel, by decide +kernel⟩
abbrev s_p_check_call : Stmt := topS 7
abbrev N_p_check_call : List Str := ["size", "call", "person"]
theorem sc_p_check_call : FnScope ["size", "call", "person"] ["size", "call"] (defScope s_p_check_call) := ⟨rfl, rfl, rfl, by decide +kernel, rfl, by decide +kernel, by decide +kernel⟩
abbrev s_p_check_word : Stmt := topS 8
abbrev N_p_check_word : List Str := ["size", "word", "call"]
theorem sc_p_check_word : FnScope ["size", "word", "call"] ["size", "word"] (defScope s_p_check_word) := ⟨rfl, rfl, rfl, by decide +kernel, rfl, by decide +kernel, by decide +kernel⟩
abbrev s_p_is_call : Stmt := topS 9
abbrev N_p_is_call : List Str := ["value", "size", "person"]
theorem sc_p_is_call : FnScope ["value", "size", "person"] ["value", "size"] (defScope s_p_is_call) := ⟨rfl, rfl, rfl, by decide +kernel, rfl, by decide +kernel, by decide +kernel⟩
abbrev s_p_join_two : Stmt := topS 10
abbrev N_p_join_two : List Str := ["joined", "a", "b", "left", "right"]
theorem sc_p_join_two : FnScope ["joined", "a", "b", "left", "right"] ["joined", "a", "b"] (defScope s_p_join_two) := ⟨rfl, rfl, rfl, by decide +kernel, rfl, by decide +kernel, by decide +kernel⟩
abbrev s_p_called_all : Stmt := topS 11
abbrev N_p_called_all : List Str := ["pairing", "word", "partners", "a", "b"]
theorem sc_p_called_all : FnScope ["pairing", "word", "partners", "a", "b"] ["pairing", "word"] (defScope s_p_called_all) := ⟨rfl, rfl, rfl, by decide +kernel, rfl, by decide +kernel, by decide +kernel⟩
abbrev s_p_check_sizes : Stmt := topS 13
abbrev N_p_check_sizes : List Str := ["first", "second"]
theorem sc_p_check_sizes : FnScope ["first", "second"] ["first", "second"] (defScope s_p_check_sizes) := ⟨rfl, rfl, rfl, by decide +kernel, rfl, by decide +kernel, by decide +kernel⟩
abbrev s_p_leads : Stmt := topS 15
abbrev N_p_leads : List Str := ["one", "other", "value", "item"]
theorem sc_p_leads : FnScope ["one", "other", "value", "item"] ["one", "other", "value"] (defScope s_p_leads) := ⟨rfl, rfl, rfl, by decide +kernel, rfl, by decide +kernel, by decide +kernel⟩
abbrev s_box : Stmt := topS 17
abbrev N_box : List Str := ["_law_script", "_law_k", "_law_cell"]
theorem sc_box : FnScope ["_law_script", "_law_k", "_law_cell"] ["_law_script", "_law_k"] (defScope s_box) := ⟨rfl, rfl, rfl, by decide +kernel, rfl, by decide +kernel, by decide +kernel⟩
abbrev s_take : Stmt := topS 18
abbrev N_take : List Str := ["_law_box_here", "_law_below", "_law_found", "_law_once"]
theorem sc_take : FnScope ["_law_box_here", "_law_below", "_law_found", "_law_once"] ["_law_box_here", "_law_below"] (defScope s_take) := ⟨rfl, rfl, rfl, by decide +kernel, rfl, by decide +kernel, by decide +kernel⟩
abbrev s_pick : Stmt := topS 19
abbrev N_pick : List Str := ["_law_box_here", "_law_some"]
theorem sc_pick : FnScope ["_law_box_here", "_law_some"] ["_law_box_here", "_law_some"] (defScope s_pick) := ⟨rfl, rfl, rfl, by decide +kernel, rfl, by decide +kernel, by decide +kernel⟩
abbrev s_same : Stmt := topS 20
abbrev N_same : List Str := ["_law_found", "_law_due", "_law_mine", "_law_its"]
theorem sc_same : FnScope ["_law_found", "_law_due", "_law_mine", "_law_its"] ["_law_found", "_law_due"] (defScope s_same) := ⟨rfl, rfl, rfl, by decide +kernel, rfl, by decide +kernel, by decide +kernel⟩
abbrev s_strewn : Stmt := topS 21
abbrev N_strewn : List Str := ["_law_box_here", "_law_some", "_law_left", "_law_found", "_law_turn"]
theorem sc_strewn : FnScope ["_law_box_here", "_law_some", "_law_left", "_law_found", "_law_turn"] ["_law_box_here", "_law_some"] (defScope s_strewn) := ⟨rfl, rfl, rfl, by decide +kernel, rfl, by decide +kernel, by decide +kernel⟩
abbrev s_drawn_tie : Stmt := topS 22
abbrev N_drawn_tie : List Str := ["_law_box_here", "_law_size", "_law_row", "_law_found", "_law_at"]
theorem sc_drawn_tie : FnScope ["_law_box_here", "_law_size", "_law_row", "_law_found", "_law_at"] ["_law_box_here", "_law_size"] (defScope s_drawn_tie) := ⟨rfl, rfl, rfl, by decide +kernel, rfl, by decide +kernel, by decide +kernel⟩
abbrev s_calls : Stmt := topS 23
abbrev N_calls : List Str := ["_law_size", "_law_found", "_law_low", "_law_high"]
theorem sc_calls : FnScope ["_law_size", "_law_found", "_law_low", "_law_high"] ["_law_size"] (defScope s_calls) := ⟨rfl, rfl, rfl, by decide +kernel, rfl, by decide +kernel, by decide +kernel⟩
abbrev s_tour_of : Stmt := topS 24
abbrev N_tour_of : List Str := ["_law_box_here", "_law_size", "_law_most", "_law_turn"]
theorem sc_tour_of : FnScope ["_law_box_here", "_law_size", "_law_most", "_law_turn"] ["_law_box_here", "_law_size", "_law_most"] (defScope s_tour_of) := ⟨rfl, rfl, rfl, by decide +kernel, rfl, by decide +kernel, by decide +kernel⟩
abbrev s_asked : Stmt := topS 25
abbrev N_asked : List Str := ["_law_tie", "_law_call", "_law_low", "_law_high", "_law_found"]
theorem sc_asked : FnScope ["_law_tie", "_law_call", "_law_low", "_law_high", "_law_found"] ["_law_tie", "_law_call"] (defScope s_asked) := ⟨rfl, rfl, rfl, by decide +kernel, rfl, by decide +kernel, by decide +kernel⟩
abbrev s_toured : Stmt := topS 26
abbrev N_toured : List Str := ["_law_tie", "_law_tour", "_law_call"]
theorem sc_toured : FnScope ["_law_tie", "_law_tour", "_law_call"] ["_law_tie", "_law_tour"] (defScope s_toured) := ⟨rfl, rfl, rfl, by decide +kernel, rfl, by decide +kernel, by decide +kernel⟩
abbrev s_bent : Stmt := topS 27
abbrev N_bent : List Str := ["_law_box_here", "_law_matter", "_law_at", "_law_some", "_law_part"]
theorem sc_bent : FnScope ["_law_box_here", "_law_matter", "_law_at", "_law_some", "_law_part"] ["_law_box_here", "_law_matter"] (defScope s_bent) := ⟨rfl, rfl, rfl, by decide +kernel, rfl, by decide +kernel, by decide +kernel⟩
abbrev s_is_one : Stmt := topS 28
abbrev N_is_one : List Str := ["_law_tie", "_law_mate", "_law_matter", "_law_call", "_law_who"]
theorem sc_is_one : FnScope ["_law_tie", "_law_mate", "_law_matter", "_law_call", "_law_who"] ["_law_tie", "_law_mate", "_law_matter"] (defScope s_is_one) := ⟨rfl, rfl, rfl, by decide +kernel, rfl, by decide +kernel, by decide +kernel⟩
abbrev s_right : Stmt := topS 29
abbrev N_right : List Str := ["_law_box_here", "_law_size", "_law_tie", "_law_tour", "_law_mate", "_law_matters", "_law_turn", "_law_bent_here", "_law_matter", "_law_end", "_law_kept", "_law_due", "_law_told", "_law_call"]
theorem sc_right : FnScope ["_law_box_here", "_law_size", "_law_tie", "_law_tour", "_law_mate", "_law_matters", "_law_turn", "_law_bent_here", "_law_matter", "_law_end", "_law_kept", "_law_due", "_law_told", "_law_call"] ["_law_box_here"] (defScope s_right) := ⟨rfl, rfl, rfl, by decide +kernel, rfl, by decide +kernel, by decide +kernel⟩
abbrev s_law : Stmt := topS 30
abbrev N_law : List Str := ["_law_script", "_law_k"]
theorem sc_law : FnScope ["_law_script", "_law_k"] ["_law_script"] (defScope s_law) := ⟨rfl, rfl, rfl, by decide +kernel, rfl, by decide +kernel, by decide +kernel⟩
set_option genInjectivity false in
set_option genSizeOf false in
structure Env (K : PySem.W.Frag) (mg : Str → Option Value) where
  n_isinstance : mg "isinstance" = none
  n_int : mg "int" = none
  n_bool : mg "bool" = none
  n_tuple : mg "tuple" = none
  n_len : mg "len" = none
  n_all : mg "all" = none
  n_list : mg "list" = none
  n_abs : mg "abs" = none
  n_zip : mg "zip" = none
  n_str : mg "str" = none
  n_range : mg "range" = none
  n_repr : mg "repr" = none
  n_min : mg "min" = none
  f_p_is_integer_below : Addr
  d_p_is_integer_below : FuncData
  F_p_is_integer_below : Fun K "is_integer_below" "is_integer_below" s_p_is_integer_below f_p_is_integer_below d_p_is_integer_below
  g_p_is_integer_below : mg "is_integer_below" = some (.ref f_p_is_integer_below)
  f_p_check_person : Addr
  d_p_check_person : FuncData
  F_p_check_person : Fun K "check_person" "check_person" s_p_check_person f_p_check_person d_p_check_person
  g_p_check_person : mg "check_person" = some (.ref f_p_check_person)
  f_p_check_call : Addr
  d_p_check_call : FuncData
  F_p_check_call : Fun K "check_call" "check_call" s_p_check_call f_p_check_call d_p_check_call
  g_p_check_call : mg "check_call" = some (.ref f_p_check_call)
  f_p_check_word : Addr
  d_p_check_word : FuncData
  F_p_check_word : Fun K "check_word" "check_word" s_p_check_word f_p_check_word d_p_check_word
  g_p_check_word : mg "check_word" = some (.ref f_p_check_word)
  f_p_is_call : Addr
  d_p_is_call : FuncData
  F_p_is_call : Fun K "is_call" "is_call" s_p_is_call f_p_is_call d_p_is_call
  g_p_is_call : mg "is_call" = some (.ref f_p_is_call)
  f_p_join_two : Addr
  d_p_join_two : FuncData
  F_p_join_two : Fun K "join_two" "join_two" s_p_join_two f_p_join_two d_p_join_two
  g_p_join_two : mg "join_two" = some (.ref f_p_join_two)
  f_p_called_all : Addr
  d_p_called_all : FuncData
  F_p_called_all : Fun K "called_all" "called_all" s_p_called_all f_p_called_all d_p_called_all
  g_p_called_all : mg "called_all" = some (.ref f_p_called_all)
  f_p_check_sizes : Addr
  d_p_check_sizes : FuncData
  F_p_check_sizes : Fun K "check_sizes" "check_sizes" s_p_check_sizes f_p_check_sizes d_p_check_sizes
  g_p_check_sizes : mg "check_sizes" = some (.ref f_p_check_sizes)
  f_p_leads : Addr
  d_p_leads : FuncData
  F_p_leads : Fun K "leads" "leads" s_p_leads f_p_leads d_p_leads
  g_p_leads : mg "leads" = some (.ref f_p_leads)
  f_box : Addr
  d_box : FuncData
  F_box : Fun K "_law_box" "_law_box" s_box f_box d_box
  g_box : mg "_law_box" = some (.ref f_box)
  f_take : Addr
  d_take : FuncData
  F_take : Fun K "_law_take" "_law_take" s_take f_take d_take
  g_take : mg "_law_take" = some (.ref f_take)
  f_pick : Addr
  d_pick : FuncData
  F_pick : Fun K "_law_pick" "_law_pick" s_pick f_pick d_pick
  g_pick : mg "_law_pick" = some (.ref f_pick)
  f_same : Addr
  d_same : FuncData
  F_same : Fun K "_law_same" "_law_same" s_same f_same d_same
  g_same : mg "_law_same" = some (.ref f_same)
  f_strewn : Addr
  d_strewn : FuncData
  F_strewn : Fun K "_law_strewn" "_law_strewn" s_strewn f_strewn d_strewn
  g_strewn : mg "_law_strewn" = some (.ref f_strewn)
  f_drawn_tie : Addr
  d_drawn_tie : FuncData
  F_drawn_tie : Fun K "_law_drawn_tie" "_law_drawn_tie" s_drawn_tie f_drawn_tie d_drawn_tie
  g_drawn_tie : mg "_law_drawn_tie" = some (.ref f_drawn_tie)
  f_calls : Addr
  d_calls : FuncData
  F_calls : Fun K "_law_calls" "_law_calls" s_calls f_calls d_calls
  g_calls : mg "_law_calls" = some (.ref f_calls)
  f_tour_of : Addr
  d_tour_of : FuncData
  F_tour_of : Fun K "_law_tour_of" "_law_tour_of" s_tour_of f_tour_of d_tour_of
  g_tour_of : mg "_law_tour_of" = some (.ref f_tour_of)
  f_asked : Addr
  d_asked : FuncData
  F_asked : Fun K "_law_asked" "_law_asked" s_asked f_asked d_asked
  g_asked : mg "_law_asked" = some (.ref f_asked)
  f_toured : Addr
  d_toured : FuncData
  F_toured : Fun K "_law_toured" "_law_toured" s_toured f_toured d_toured
  g_toured : mg "_law_toured" = some (.ref f_toured)
  f_bent : Addr
  d_bent : FuncData
  F_bent : Fun K "_law_bent" "_law_bent" s_bent f_bent d_bent
  g_bent : mg "_law_bent" = some (.ref f_bent)
  f_is_one : Addr
  d_is_one : FuncData
  F_is_one : Fun K "_law_is_one" "_law_is_one" s_is_one f_is_one d_is_one
  g_is_one : mg "_law_is_one" = some (.ref f_is_one)
  f_right : Addr
  d_right : FuncData
  F_right : Fun K "_law_right" "_law_right" s_right f_right d_right
  g_right : mg "_law_right" = some (.ref f_right)
theorem Env.b_p_is_integer_below {K : PySem.W.Frag} {mg : Str → Option Value} (T : Env K mg) : Binds K T.d_p_is_integer_below ["value", "limit"] [] := T.F_p_is_integer_below.binds fun _ _ _ _ _ _ us hl => match us, hl with | [_, _], _ => rfl
theorem Env.b_p_check_person {K : PySem.W.Frag} {mg : Str → Option Value} (T : Env K mg) : Binds K T.d_p_check_person ["size", "person"] [] := T.F_p_check_person.binds fun _ _ _ _ _ _ us hl => match us, hl with | [_, _], _ => rfl
theorem Env.b_p_check_call {K : PySem.W.Frag} {mg : Str → Option Value} (T : Env K mg) : Binds K T.d_p_check_call ["size", "call"] [] := T.F_p_check_call.binds fun _ _ _ _ _ _ us hl => match us, hl with | [_, _], _ => rfl
theorem Env.b_p_check_word {K : PySem.W.Frag} {mg : Str → Option Value} (T : Env K mg) : Binds K T.d_p_check_word ["size", "word"] [] := T.F_p_check_word.binds fun _ _ _ _ _ _ us hl => match us, hl with | [_, _], _ => rfl
theorem Env.b_p_is_call {K : PySem.W.Frag} {mg : Str → Option Value} (T : Env K mg) : Binds K T.d_p_is_call ["value", "size"] [] := T.F_p_is_call.binds fun _ _ _ _ _ _ us hl => match us, hl with | [_, _], _ => rfl
theorem Env.b_p_join_two {K : PySem.W.Frag} {mg : Str → Option Value} (T : Env K mg) : Binds K T.d_p_join_two ["joined", "a", "b"] [] := T.F_p_join_two.binds fun _ _ _ _ _ _ us hl => match us, hl with | [_, _, _], _ => rfl
theorem Env.b_p_called_all {K : PySem.W.Frag} {mg : Str → Option Value} (T : Env K mg) : Binds K T.d_p_called_all ["pairing", "word"] [] := T.F_p_called_all.binds fun _ _ _ _ _ _ us hl => match us, hl with | [_, _], _ => rfl
theorem Env.b_p_check_sizes {K : PySem.W.Frag} {mg : Str → Option Value} (T : Env K mg) : Binds K T.d_p_check_sizes ["first", "second"] [] := T.F_p_check_sizes.binds fun _ _ _ _ _ _ us hl => match us, hl with | [_, _], _ => rfl
theorem Env.b_p_leads {K : PySem.W.Frag} {mg : Str → Option Value} (T : Env K mg) : Binds K T.d_p_leads ["one", "other", "value"] [] := T.F_p_leads.binds fun _ _ _ _ _ _ us hl => match us, hl with | [_, _, _], _ => rfl
theorem Env.b_box {K : PySem.W.Frag} {mg : Str → Option Value} (T : Env K mg) : Binds K T.d_box ["_law_script", "_law_k"] [] := T.F_box.binds fun _ _ _ _ _ _ us hl => match us, hl with | [_, _], _ => rfl
theorem Env.b_take {K : PySem.W.Frag} {mg : Str → Option Value} (T : Env K mg) : Binds K T.d_take ["_law_box_here", "_law_below"] [] := T.F_take.binds fun _ _ _ _ _ _ us hl => match us, hl with | [_, _], _ => rfl
theorem Env.b_pick {K : PySem.W.Frag} {mg : Str → Option Value} (T : Env K mg) : Binds K T.d_pick ["_law_box_here", "_law_some"] [] := T.F_pick.binds fun _ _ _ _ _ _ us hl => match us, hl with | [_, _], _ => rfl
theorem Env.b_same {K : PySem.W.Frag} {mg : Str → Option Value} (T : Env K mg) : Binds K T.d_same ["_law_found", "_law_due"] [] := T.F_same.binds fun _ _ _ _ _ _ us hl => match us, hl with | [_, _], _ => rfl
theorem Env.b_strewn {K : PySem.W.Frag} {mg : Str → Option Value} (T : Env K mg) : Binds K T.d_strewn ["_law_box_here", "_law_some"] [] := T.F_strewn.binds fun _ _ _ _ _ _ us hl => match us, hl with | [_, _], _ => rfl
theorem Env.b_drawn_tie {K : PySem.W.Frag} {mg : Str → Option Value} (T : Env K mg) : Binds K T.d_drawn_tie ["_law_box_here", "_law_size"] [] := T.F_drawn_tie.binds fun _ _ _ _ _ _ us hl => match us, hl with | [_, _], _ => rfl
theorem Env.b_calls {K : PySem.W.Frag} {mg : Str → Option Value} (T : Env K mg) : Binds K T.d_calls ["_law_size"] [] := T.F_calls.binds fun _ _ _ _ _ _ us hl => match us, hl with | [_], _ => rfl
theorem Env.b_tour_of {K : PySem.W.Frag} {mg : Str → Option Value} (T : Env K mg) : Binds K T.d_tour_of ["_law_box_here", "_law_size", "_law_most"] [] := T.F_tour_of.binds fun _ _ _ _ _ _ us hl => match us, hl with | [_, _, _], _ => rfl
theorem Env.b_asked {K : PySem.W.Frag} {mg : Str → Option Value} (T : Env K mg) : Binds K T.d_asked ["_law_tie", "_law_call"] [] := T.F_asked.binds fun _ _ _ _ _ _ us hl => match us, hl with | [_, _], _ => rfl
theorem Env.b_toured {K : PySem.W.Frag} {mg : Str → Option Value} (T : Env K mg) : Binds K T.d_toured ["_law_tie", "_law_tour"] [] := T.F_toured.binds fun _ _ _ _ _ _ us hl => match us, hl with | [_, _], _ => rfl
theorem Env.b_bent {K : PySem.W.Frag} {mg : Str → Option Value} (T : Env K mg) : Binds K T.d_bent ["_law_box_here", "_law_matter"] [] := T.F_bent.binds fun _ _ _ _ _ _ us hl => match us, hl with | [_, _], _ => rfl
theorem Env.b_is_one {K : PySem.W.Frag} {mg : Str → Option Value} (T : Env K mg) : Binds K T.d_is_one ["_law_tie", "_law_mate", "_law_matter"] [] := T.F_is_one.binds fun _ _ _ _ _ _ us hl => match us, hl with | [_, _, _], _ => rfl
theorem Env.b_right {K : PySem.W.Frag} {mg : Str → Option Value} (T : Env K mg) : Binds K T.d_right ["_law_box_here"] [] := T.F_right.binds fun _ _ _ _ _ _ us hl => match us, hl with | [_], _ => rfl
end Pc

namespace Pc
open PySem PySem.Spec PyProof.Rows L2 RZ
section
variable {P : Program} {w : World} {K : PySem.W.Frag} {mg : Str → Option Value} {base : Heap}
/-! ### a source -/
def spBox (K : PySem.W.Frag) : Sp := fun vs H Q _ => ∃ (a : Addr) (ns : List Int) (k : Nat), vs = [.ref a, .int k] ∧ SqL K H a (ns.map V.int) ∧ k ≤ 100 ∧
  ∀ H' b, Same H H' → H b = none → Box 1000000000 H' b → Q (.ref b) H'
theorem ok_box (T : Env K mg) : FnOk P w K mg base CX0 1 T.f_box T.d_box ["_law_script", "_law_k"] (spBox K) := by
  refine T.F_box.ok sc_box (fun vs H Q E h => ?_) (fun cdv A outer s H vs Q E hr h => ?_)
  · obtain ⟨a, ns, k, rfl, _⟩ := h
    rfl
  · obtain ⟨a, ns, k, rfl, hS, hk, q⟩ := h
    refine ⟨_, pss_cons (ps_set (i := 2) sc_box.nd rfl (.inl rfl)
        (pe_ifExp (pt_cmpR op_lt (pv 1) (pe_callB call_len_seq (by rfl) T.n_len PySem.boot_len (pa_cons (pv 0) pa_nil)) (nomark _)) (pe_ix ix_list (pv 0) (pv 1) (fun _ _ => rfl)) pe_int))
      (pss_one (ps_ret (pe_lst (pa_cons
          (pe_op op_mul (pe_callB call_abs (by rfl) T.n_abs (by decide +kernel) (pa_cons (pv 2) pa_nil))
            (pe_callTy call_int1 (by rfl) T.n_int (by decide +kernel) (pa_cons (pe_cmpR op_ge (pe_callB call_abs (by rfl) T.n_abs (by decide +kernel) (pa_cons (pv 2) pa_nil)) (pe_op op_pow pe_int pe_int) (nomark _)) pa_nil)))
        (pa_cons (pe_op op_add (pe_op op_add (pe_op op_mod (pv 2) pe_int) (pe_op op_mul pe_int (pv 1))) pe_int)
        (pa_cons pe_int pa_nil)))))), ?_⟩
    refine ⟨.int k, rfl, .ref a, rfl, a, ns.map V.int, rfl, .inl hS, _, _, rfl, rfl, _, rfl, ite2 (fun e => ?_) (fun e => ?_)⟩
    · have e1 : k < ns.length := by
        have := of_decide_eq_true e
        rw [List.length_map] at this
        omega
      refine ⟨.ref a, rfl, .int k, rfl, a, _, _, _, rfl, rfl, hS, atI_nat (v := .int ns[k]) (by rw [List.getElem?_map, List.getElem?_eq_getElem e1]; rfl), ?_⟩
      revert e; generalize ns[k] = c; intro _
      refine ⟨_, rfl, _, rfl, _, rfl, _, rfl, 10, 18, rfl, rfl, ⟨by decide, by decide, by decide⟩, _, _, rfl, rfl, .inr ⟨_, rfl, _, _, rfl, rfl, .inr (in64 (one0 _)), _, rfl, _, _, rfl, rfl, (show (0 : Int) < 2147483629 by decide), _, rfl, _, _, rfl, rfl, .inl ⟨by decide, by decide⟩, _, _, rfl, rfl, _, _, rfl, rfl, ?_⟩⟩
      refine ⟨by show 3 ≤ sizeLine; decide, fun b nb => q _ b (same_new nb) nb ⟨_, _, 0, upd_same, Int.mul_nonneg ?_ (one0 _).1, ?_, ?_, by decide, by decide⟩⟩
      · split <;> omega
      · omega
      · omega
    · refine ⟨_, rfl, _, rfl, _, rfl, _, rfl, 10, 18, rfl, rfl, ⟨by decide, by decide, by decide⟩, _, _, rfl, rfl, .inr ⟨_, rfl, _, _, rfl, rfl, .inr (in64 (one0 _)), _, rfl, _, _, rfl, rfl, (show (0 : Int) < 2147483629 by decide), _, rfl, _, _, rfl, rfl, .inl ⟨by decide, by decide⟩, _, _, rfl, rfl, _, _, rfl, rfl, ?_⟩⟩
      refine ⟨by show 3 ≤ sizeLine; decide, fun b nb => q _ b (same_new nb) nb ⟨_, _, 0, upd_same, Int.mul_nonneg ?_ (one0 _).1, ?_, ?_, by decide, by decide⟩⟩
      · split <;> omega
      · omega
      · omega
end
end Pc
namespace Pc
open PySem PySem.Spec PyProof.Rows L2 RZ
section
variable {P : Program} {w : World} {K : PySem.W.Frag} {mg : Str → Option Value} {base : Heap}
/-! ### a draw below a span of at most ten million -/
def spTake : Sp := fun vs H Q _ => ∃ (b : Addr) (n : Nat) (s : Int), vs = [.ref b, .int s] ∧ Box (n + 1) H b ∧ 0 < s ∧ s ≤ 10000000 ∧
  ∀ (r : Int) (H' : Hp), 0 ≤ r → r < s → Box n H' b → Keep b H H' → Q (.int r) H'
theorem ok_take (T : Env K mg) : FnOk P w K mg base CX0 1 T.f_take T.d_take ["_law_box_here", "_law_below"] spTake := by
  refine T.F_take.ok sc_take (fun vs H Q E h => ?_) (fun cdv A outer s H vs Q E hr h => ?_)
  · obtain ⟨b, n, s, rfl, _⟩ := h
    rfl
  · obtain ⟨b, n, s, rfl, ⟨x, y, z, hb, hx, hy, hy2, hz, hz2⟩, hs, hs2, q⟩ := h
    refine ⟨_, pss_cons (ps_if (pt_cmpR op_gt (pe_ix ix_list (pv 0) pe_int (fun _ _ => rfl)) pe_int (nomark _))
        (pss_cons (ps_set (i := 2) sc_take.nd rfl (.inl rfl) (pe_op op_mod (pe_ix ix_list (pv 0) pe_int (fun _ _ => rfl)) (pv 1)))
        (pss_cons (ps_asg (pe_op op_fdiv (pe_ix ix_list (pv 0) pe_int (fun _ _ => rfl)) (pv 1)) (pg_sub (pv 0) pe_int set_list))
        (pss_one (ps_ret (pv 2))))) pss_nil)
      (pss_cons (ps_if (pt_cmpR op_gt (pv 1) (pe_op op_pow pe_int pe_int) (nomark _)) pss_never pss_nil)
      (pss_cons (ps_asg (pe_op op_add (pe_ix ix_list (pv 0) pe_int (fun _ _ => rfl)) pe_int) (pg_sub (pv 0) pe_int set_list))
      (pss_cons (ps_set (i := 3) sc_take.nd rfl (.inl rfl) (pe_op op_mod (pe_op op_pow (pe_op op_add (pe_ix ix_list (pv 0) pe_int (fun _ _ => rfl)) (pe_op op_mul pe_int (pe_ix ix_list (pv 0) pe_int (fun _ _ => rfl)))) pe_int) pe_int))
      (pss_one (ps_ret (pe_op op_mod (pe_op op_fdiv (pe_op op_mod (pe_op op_add (pe_op op_mul (pv 3) (pe_op op_add (pe_op op_mod (pv 3) pe_int) pe_int)) (pe_op op_mul (pe_ix ix_list (pv 0) pe_int (fun _ _ => rfl)) pe_int)) pe_int) pe_int) (pv 1))))))), ?_⟩
    have hS : SqL K H b [.int x, .int y, .int z] := .inl (.inl hb)
    refine ⟨.ref b, rfl, b, _, 0, .int x, rfl, rfl, hS, atI_nat (j := 0) rfl, x, 0, rfl, rfl, _, rfl, ite2 (fun e => ?_) (fun e => ?_)⟩
    · -- the number itself serves
      refine ⟨.ref b, rfl, b, _, 0, .int x, rfl, rfl, hS, atI_nat (j := 0) rfl, .int s, rfl, x, s, rfl, rfl, hs, ?_⟩
      refine ⟨.ref b, rfl, b, _, 0, .int x, rfl, rfl, hS, atI_nat (j := 0) rfl, .int s, rfl, x, s, rfl, rfl, ⟨hs, by omega⟩, .ref b, rfl, b, _, 0, 0, rfl, rfl, hb, rfl, ?_⟩
      refine ⟨_, rfl, q _ _ (Int.emod_nonneg _ (by omega)) (Int.emod_lt_of_pos _ hs) ⟨_, y, z, upd_same, ?_, hy, hy2, hz, by omega⟩ keep_upd⟩
      exact Int.ediv_nonneg hx (by omega)
    · refine ⟨.int s, rfl, 10, 7, rfl, rfl, ⟨by decide, by decide, by decide⟩, s, _, rfl, rfl, _, rfl, ite2 (fun e2 => ?_) (fun _ => ?_)⟩
      · have e3 := of_decide_eq_true e2
        have e4 : (10 : Int) ^ Int.toNat 7 = 10000000 := by decide
        rw [e4] at e3
        omega
      refine ⟨.ref b, rfl, b, _, 2, .int z, rfl, rfl, hS, atI_nat (j := 2) rfl, z, 1, rfl, rfl, .ref b, rfl, b, _, 2, 2, rfl, rfl, hb, rfl, ?_⟩
      have h2 : upd H b (.lst ([V.int x, V.int y, V.int z].set 2 (.int (z + 1)))) b = some (.lst [.int x, .int y, .int (z + 1)]) := upd_same
      have hS2 : SqL K (upd H b (.lst ([V.int x, V.int y, V.int z].set 2 (.int (z + 1))))) b [.int x, .int y, .int (z + 1)] := .inl (.inl h2)
      refine ⟨.ref b, rfl, b, _, 1, .int y, rfl, rfl, hS2, atI_nat (j := 1) rfl, .ref b, rfl, b, _, 2, .int (z + 1), rfl, rfl, hS2, atI_nat (j := 2) rfl, 48271, z + 1, rfl, rfl, .inl ⟨by decide, by decide⟩, y, _, rfl, rfl, _, 5, rfl, rfl, ⟨by decide, by decide, by omega⟩, _, 2147483647, rfl, rfl, (show (0 : Int) < 2147483647 by decide), ?_⟩
      have o1 : 0 ≤ (y + 48271 * (z + 1)) ^ Int.toNat 5 % 2147483647 := Int.emod_nonneg _ (by decide)
      have o2 : (y + 48271 * (z + 1)) ^ Int.toNat 5 % 2147483647 < 2147483647 := Int.emod_lt_of_pos _ (by decide)
      refine ⟨_, rfl, _, rfl, _, 30011, rfl, rfl, (show (0 : Int) < 30011 by decide), _, 7, rfl, rfl, _, _, rfl, rfl, .inl ⟨Int.lt_of_lt_of_le (by decide) o1, Int.lt_trans o2 (by decide)⟩, .ref b, rfl, b, _, 2, .int (z + 1), rfl, rfl, hS2, atI_nat (j := 2) rfl, z + 1, 7919, rfl, rfl, .inr ⟨by decide, by decide⟩, _, _, rfl, rfl, _, 2147483629, rfl, rfl, (show (0 : Int) < 2147483629 by decide), _, 64, rfl, rfl, ⟨by decide, by decide⟩, .int s, rfl, _, s, rfl, rfl, hs, ?_⟩
      exact q _ _ (Int.emod_nonneg _ (by omega)) (Int.emod_lt_of_pos _ hs) ⟨x, y, z + 1, h2, hx, hy, hy2, by omega, by omega⟩ keep_upd
end
end Pc
namespace Pc
open PySem PySem.Spec PyProof.Rows L2 RZ
/-! ### data -/
theorem dp_ints {K : PySem.W.Frag} {H : Hp} : ∀ ns : List Int, DpAll K H (ns.map V.int) (ns.map PyData.int)
  | [] => .nil
  | n :: r => .cons (.int n) (dp_ints r)
theorem lay_ints : ∀ ns : List Int, PyData.canLayAll0 (ns.map PyData.int) = true
  | [] => rfl
  | n :: r => by
    show (PyData.canLay0 (.int n) && PyData.canLayAll0 (r.map PyData.int)) = true
    rw [lay_ints r]; rfl
theorem depth_ints : ∀ ns : List Int, PyData.depthAll (ns.map PyData.int) = 0
  | [] => rfl
  | n :: r => by
    show max (PyData.depth (.int n)) (PyData.depthAll (r.map PyData.int)) = 0
    rw [depth_ints r]; rfl
theorem shaped_list {ds : List PyData} (h : PyData.canLayAll0 ds = true) (d : PyData.depthAll ds ≤ 63) : SeqAt.shaped (.list ds) = true := by
  unfold SeqAt.shaped
  rw [Bool.and_eq_true]
  exact ⟨h, decide_eq_true (show PyData.depthAll ds + 1 ≤ 64 by omega)⟩
theorem shaped_tuple {ds : List PyData} (h : PyData.canLayAll0 ds = true) (d : PyData.depthAll ds ≤ 63) : SeqAt.shaped (.tuple ds) = true := by
  unfold SeqAt.shaped
  rw [Bool.and_eq_true]
  exact ⟨h, decide_eq_true (show PyData.depthAll ds + 1 ≤ 64 by omega)⟩
theorem shaped_ints (ns : List Int) : SeqAt.shaped (.list (ns.map PyData.int)) = true := shaped_list (lay_ints ns) (by rw [depth_ints]; decide)
theorem shaped_intsT (ns : List Int) : SeqAt.shaped (.tuple (ns.map PyData.int)) = true := shaped_tuple (lay_ints ns) (by rw [depth_ints]; decide)
/-- what a slice of a list of ints is -/
theorem cut_ints (ns : List Int) (lo hi : Option Int) : ∃ ms : List Int, cutV (ns.map V.int) lo hi = ms.map V.int ∧ ms = (ns.drop (HT.sIx ns.length 0 lo)).take (HT.sIx ns.length ns.length hi - HT.sIx ns.length 0 lo) := by
  refine ⟨_, ?_, rfl⟩
  unfold cutV
  rw [List.length_map, List.map_take, List.map_drop]
theorem map_set_int (cs : List Int) (j : Nat) (v : Int) : (cs.map V.int).set j (.int v) = (cs.set j v).map V.int := by
  rw [List.map_set]
theorem small63 {n : Nat} (h : n ≤ 63) : n ≤ sizeLine := Nat.le_trans h (by decide)
end Pc
namespace Pc
open PySem PySem.Spec PyProof.Rows L2 RZ
/-! ### xs != [] for any items -/
def rNeNil (K : PySem.W.Frag) : R2 := fun x y H Q => ∃ a b xs, x = .ref a ∧ y = .ref b ∧ SqL K H a xs ∧ SqL K H b [] ∧ Q (.bl (!xs.isEmpty)) H
theorem op_neNil {X : Cx} (hu : X.A.units + 64 < cLine) : OpR X (compareOp .NotEq) (rNeNil X.K) := by
  intro pins s σ H x y v u Q I rx ry h
  obtain ⟨a, b, xs, rfl, rfl, h1, h2, q⟩ := h
  cases rx; cases ry
  obtain ⟨its, rv, p1, _⟩ := I.list h1
  obtain ⟨its2, rv2, p2, _⟩ := I.list h2
  have l1 := rv.length
  have l2 := rv2.length
  have hu0 : X.A.units < cLine := by omega
  cases xs with
  | nil =>
    have z1 : its.length = 0 := l1.symm
    have z2 : its2.length = 0 := l2.symm
    refine SeqAt.RcNeAt.lists (e := fun _ => true) p1.isList p2.isList (by simp [z1, z2]) hu0 (fun j j1 _ => ?_) X.prog X.w X.xe _ ?_
    · rw [List.size_toArray] at j1; omega
    · rw [List.size_toArray, z1]
      exact ⟨.bl false, H, I, rfl, q⟩
  | cons z r =>
    have z1 : its.length ≠ 0 := by rw [← l1]; simp
    have z2 : its2.length = 0 := l2.symm
    refine SeqAt.RcNeAt.lists_lengths p1.isList p2.isList (by simp [z2, z1]) hu0 X.prog X.w X.xe _ ?_
    exact ⟨.bl true, H, I, rfl, q⟩
theorem perm_erase {α : Type} : ∀ {l : List α} {i : Nat} (h : i < l.length), (l[i] :: l.eraseIdx i).Perm l
  | a :: r, 0, _ => List.Perm.refl _
  | a :: r, i + 1, h => (List.Perm.swap a (r[i]'(Nat.lt_of_succ_lt_succ h)) (r.eraseIdx i)).trans ((perm_erase (l := r) (i := i) (Nat.lt_of_succ_lt_succ h)).cons a)
/-- the place of an index that is not negative -/
theorem seq_ix {i : Int} {n : Nat} (h0 : 0 ≤ i) (h : i < n) : seqIndex? i n = some i.toNat := seqIndex_of h0 h
end Pc
namespace Pc
open PySem PySem.Spec PyProof.Rows L2 RZ
section
variable {P : Program} {w : World} {K : PySem.W.Frag} {mg : Str → Option Value} {base : Heap}
/-! ### some things in drawn order -/
def spStrewn (K : PySem.W.Frag) : Sp := fun vs H Q _ => ∃ (b a : Addr) (n : Nat) (xs : List V), vs = [.ref b, .ref a] ∧ Box (n + xs.length) H b ∧ SqL K H a xs ∧ xs.length ≤ 1000 ∧
  ∀ (H' : Hp) (p : Addr) (ys : List V), ys.Perm xs → Keep b H H' → Box n H' b → H p = none → H' p = some (.lst ys) → Q (.ref p) H'
theorem ok_strewn (T : Env K mg) : FnOk P w K mg base CX0 2 T.f_strewn T.d_strewn ["_law_box_here", "_law_some"] (spStrewn K) := by
  have GT : FnOk P w K mg base CX0 1 T.f_take T.d_take ["_law_box_here", "_law_below"] spTake := ok_take T
  refine T.F_strewn.ok sc_strewn (fun vs H Q E h => ?_) (fun cdv A outer s H vs Q E hr h => ?_)
  · obtain ⟨b, a, n, xs, rfl, _⟩ := h
    rfl
  · obtain ⟨b, a, n, xs, rfl, hB, hS, hlen, q⟩ := h
    refine ⟨_, pss_cons (ps_par (by rfl) sc_strewn.nd (i := 2) (j := 3) rfl rfl (by decide) rfl rfl (pa_cons (pe_callTy call_list_of (by rfl) T.n_list (by decide +kernel) (pa_cons (pv 1) pa_nil)) (pa_cons (pe_lst pa_nil) pa_nil)) (by rfl))
      (pss_cons (ps_for PassesOwn.never rfl (pi_range1 (by rfl) T.n_range (pa_cons (pe_callB call_len_seq (by rfl) T.n_len PySem.boot_len (pa_cons (pv 2) pa_nil)) pa_nil)) (pg_name (i := 4) sc_strewn.nd rfl (.inl rfl))
        (pss_one (ps_expr (pe_bm PySem.F.plainAttrs_list PySem.F.slot_list_append PySem.F.type_list_append mt_append (pv 3) (pa_cons
          (pe_bm PySem.F.plainAttrs_list PySem.F.slot_list_pop PySem.F.type_list_pop mt_popAt (pv 2) (pa_cons
            (pe_call GT hr (by rfl) T.g_take T.F_take.kp T.b_take .nil pass0 (pa_cons (pv 0) (pa_cons (pe_callB call_len_seq (by rfl) T.n_len PySem.boot_len (pa_cons (pv 2) pa_nil)) pa_nil))) pa_nil)) pa_nil)))))
      (pss_one (ps_ret (pv 3)))), ?_⟩
    refine ⟨.ref a, rfl, a, xs, rfl, .inl hS, fun l nl => ⟨Nat.zero_le _, fun f nf => ⟨_, _, rfl, ?_⟩⟩⟩
    have s1 : Same H (upd (upd H l (.lst xs)) f (.lst [])) := (same_new nl).trans (same_new nf)
    have nf0 : H f = none := (same_new nl).free nf
    have hlf : l ≠ f := ne_of_none upd_same nf
    have hbl : b ≠ l := hB.ne_new nl
    have hbf : b ≠ f := hB.ne_new nf0
    have l0 : (upd (upd H l (.lst xs)) f (.lst [])) l = some (.lst xs) := by rw [upd_ne hlf, upd_same]
    refine ⟨.ref l, rfl, l, xs, rfl, .inl (.inl (.inl l0)), _, rfl, by omega, by omega, ?_⟩
    rw [show ((xs.length : Int)).toNat = xs.length by omega]
    refine for_range (n := xs.length) (fun t σ H' => ∃ (left found : List V) (y : Option V), σ = [some (.ref b), some (.ref a), some (.ref l), some (.ref f), y] ∧ H' l = some (.lst left) ∧ H' f = some (.lst found) ∧ (left ++ found).Perm xs ∧ Box (n + left.length) H' b ∧ Keep b H H' ∧ left.length + t = xs.length)
      ⟨xs, [], none, rfl, l0, upd_same, by rw [List.append_nil], hB.same s1, Keep.of_same s1, rfl⟩ (fun t σ H' ht hW => ?_) (fun σ H' hW => ?_)
    · obtain ⟨left, found, y, rfl, el2, ef2, hp, hb', hk, hm⟩ := hW
      have hl0 : 0 < left.length := by omega
      have hll : left.length ≤ 1000 := by omega
      refine ⟨.ref f, rfl, .inl ⟨rfl, _, .inl (.inl ef2)⟩, .ref l, rfl, .inl ⟨rfl, _, .inl (.inl el2)⟩, .ref b, rfl, .ref l, rfl, l, left, rfl, .inl (.inl (.inl el2)), ?_⟩
      refine ⟨b, n + (left.length - 1), left.length, rfl, hb'.mono (by omega), by omega, by omega, fun r H2 r0 r1 hb2 k2 => ?_⟩
      have el3 : H2 l = some (.lst left) := k2 l _ hbl.symm el2
      have ef3 : H2 f = some (.lst found) := k2 f _ hbf.symm ef2
      have hj : r.toNat < left.length := by omega
      refine ⟨l, left, r, r.toNat, left[r.toNat], rfl, rfl, el3, by omega, by omega, seq_ix r0 r1, List.getElem?_eq_getElem hj, ?_⟩
      have ef4 : (upd H2 l (.lst (left.eraseIdx r.toNat))) f = some (.lst found) := by rw [upd_ne hlf.symm]; exact ef3
      have hfl : found.length ≤ 1000 := by
        have := hp.length_eq
        rw [List.length_append] at this
        omega
      refine ⟨f, found, _, rfl, rfl, ef4, small1000 hfl, left.eraseIdx r.toNat, found ++ [left[r.toNat]], _, rfl, ?_, upd_same, ?_, ?_, ?_, ?_⟩
      · rw [upd_ne hlf, upd_same]
      · refine List.Perm.trans ?_ hp
        have p1 : (left[r.toNat] :: left.eraseIdx r.toNat).Perm left := perm_erase hj
        have p2 : (left.eraseIdx r.toNat ++ (found ++ [left[r.toNat]])).Perm (left[r.toNat] :: left.eraseIdx r.toNat ++ found) := by
          rw [← List.append_assoc]
          exact List.perm_append_comm.trans (by rw [List.singleton_append, List.cons_append])
        exact p2.trans (p1.append_right found)
      · have : (left.eraseIdx r.toNat).length = left.length - 1 := List.length_eraseIdx_of_lt hj
        rw [this]
        refine (hb2.keep (c := l) keep_upd hbl).keep (c := f) keep_upd hbf
      · intro x o nx hx
        have nxl : x ≠ l := ne_of_none hx nl
        have nxf : x ≠ f := ne_of_none hx nf0
        rw [upd_ne nxf, upd_ne nxl]
        exact k2 x o nx (hk x o nx hx)
      · rw [List.length_eraseIdx_of_lt hj]; omega
    · obtain ⟨left, found, y, rfl, el2, ef2, hp, hb', hk, hm⟩ := hW
      have hl0 : left = [] := List.length_eq_zero_iff.mp (by omega)
      subst hl0
      exact ⟨.ref f, rfl, q _ f found hp hk hb' nf0 ef2⟩
end
end Pc
namespace Pc
open PySem PySem.Spec PyProof.Rows L2 RZ
/-! ### pairings as lists of natural numbers -/
/-- the numbers as values -/
def nv (l : List Nat) : List V := l.map fun (i : Nat) => V.int (i : Int)
theorem nv_length (l : List Nat) : (nv l).length = l.length := List.length_map _
theorem nv_get {l : List Nat} {i x : Nat} (h : l[i]? = some x) : (nv l)[i]? = some (.int x) := by
  unfold nv; rw [List.getElem?_map, h]; rfl
theorem nv_at {l : List Nat} {i x : Nat} (h : l[i]? = some x) : atI (nv l) (i : Int) = some (.int x) := atI_nat (nv_get h)
theorem nv_set (l : List Nat) (i x : Nat) : (nv l).set i (.int (x : Int)) = nv (l.set i x) := by
  unfold nv; rw [List.map_set]
theorem nv_get' {l : List Nat} {i : Nat} {v : V} (h : (nv l)[i]? = some v) : ∃ x, l[i]? = some x ∧ v = .int (x : Int) := by
  unfold nv at h
  rw [List.getElem?_map] at h
  cases e : l[i]? with
  | none => rw [e] at h; cases h
  | some x => rw [e] at h; exact ⟨x, rfl, (Option.some.inj h).symm⟩
theorem ixN_nat {n i : Nat} (h : i < n) : ixN n (i : Int) = some i := by
  unfold ixN
  rw [if_pos (by omega), if_pos (by omega)]; rfl
theorem get_some {α : Type} {l : List α} {i : Nat} (h : i < l.length) : ∃ x, l[i]? = some x := ⟨_, List.getElem?_eq_getElem h⟩
theorem get_lt {α : Type} {l : List α} {i : Nat} {x : α} (h : l[i]? = some x) : i < l.length := (List.getElem?_eq_some_iff.mp h).1
/-- a pairing of n people -/
structure IsPair (n : Nat) (ps : List Nat) : Prop where
  len : ps.length = n
  par : ∀ x, x < n → ∃ y, ps[x]? = some y ∧ y < n ∧ y ≠ x ∧ ps[y]? = some x
/-- after t turns: the first t pairs are joined -/
def PInv (os fs : List Nat) (t : Nat) : Prop := fs.length = os.length ∧ ∀ j, j < t → ∀ x y, os[2 * j]? = some x → os[2 * j + 1]? = some y → fs[x]? = some y ∧ fs[y]? = some x
theorem PInv.step {os fs : List Nat} {t x y : Nat} (hnd : os.Nodup) (hlt : ∀ z ∈ os, z < os.length) (h : PInv os fs t) (hx : os[2 * t]? = some x) (hy : os[2 * t + 1]? = some y) :
    PInv os ((fs.set x y).set y x) (t + 1) := by
  obtain ⟨hl, hp⟩ := h
  have xl : x < fs.length := by rw [hl]; exact hlt x (List.mem_of_getElem? hx)
  have yl : y < fs.length := by rw [hl]; exact hlt y (List.mem_of_getElem? hy)
  have xy : x ≠ y := fun e => by
    subst e
    have := nd_ix hnd hx hy
    omega
  refine ⟨by rw [List.length_set, List.length_set, hl], fun j hj u v hu hv => ?_⟩
  by_cases e : j = t
  · subst e
    have e1 : u = x := Option.some.inj (hu.symm.trans hx)
    have e2 : v = y := Option.some.inj (hv.symm.trans hy)
    subst e1 e2
    refine ⟨?_, ?_⟩
    · rw [List.getElem?_set_ne (Ne.symm xy), List.getElem?_set_self xl]
    · rw [List.getElem?_set_self (by rw [List.length_set]; exact yl)]
  · obtain ⟨h1, h2⟩ := hp j (by omega) u v hu hv
    have a1 : x ≠ u := fun z => by subst z; have := nd_ix hnd hx hu; omega
    have a2 : y ≠ u := fun z => by subst z; have := nd_ix hnd hy hu; omega
    have a3 : x ≠ v := fun z => by subst z; have := nd_ix hnd hx hv; omega
    have a4 : y ≠ v := fun z => by subst z; have := nd_ix hnd hy hv; omega
    refine ⟨?_, ?_⟩
    · rw [List.getElem?_set_ne a2, List.getElem?_set_ne a1]; exact h1
    · rw [List.getElem?_set_ne a4, List.getElem?_set_ne a3]; exact h2
theorem PInv.done {os fs : List Nat} {n : Nat} (hp : os.Perm (List.range n)) (he : n % 2 = 0) (h : PInv os fs (n / 2)) : IsPair n fs := by
  have hl : os.length = n := by rw [hp.length_eq, List.length_range]
  have hnd : os.Nodup := hp.nodup_iff.mpr List.nodup_range
  refine ⟨by rw [h.1, hl], fun x hx => ?_⟩
  have hm : x ∈ os := hp.mem_iff.mpr (List.mem_range.mpr hx)
  obtain ⟨i, hi, ei⟩ := List.mem_iff_getElem.mp hm
  have gi : os[i]? = some x := by rw [List.getElem?_eq_getElem hi, ei]
  have lt_n : ∀ {k z : Nat}, os[k]? = some z → z < n := fun {k z} hz => List.mem_range.mp (hp.mem_iff.mp (List.mem_of_getElem? hz))
  by_cases hq : i % 2 = 0
  · have i1 : i + 1 < os.length := by omega
    obtain ⟨y, gy⟩ := get_some i1
    have g1 : os[2 * (i / 2)]? = some x := by rw [show 2 * (i / 2) = i by omega]; exact gi
    have g2 : os[2 * (i / 2) + 1]? = some y := by rw [show 2 * (i / 2) + 1 = i + 1 by omega]; exact gy
    obtain ⟨r1, r2⟩ := h.2 (i / 2) (by omega) x y g1 g2
    exact ⟨y, r1, lt_n gy, fun e => by subst e; have := nd_ix hnd gi gy; omega, r2⟩
  · have i1 : i - 1 < os.length := by omega
    obtain ⟨y, gy⟩ := get_some i1
    have g1 : os[2 * (i / 2)]? = some y := by rw [show 2 * (i / 2) = i - 1 by omega]; exact gy
    have g2 : os[2 * (i / 2) + 1]? = some x := by rw [show 2 * (i / 2) + 1 = i by omega]; exact gi
    obtain ⟨r1, r2⟩ := h.2 (i / 2) (by omega) y x g1 g2
    exact ⟨y, r2, lt_n gy, fun e => by subst e; have := nd_ix hnd gi gy; omega, r1⟩
/-- range(0, n, 2) -/
theorem fits_long {i : Int} (h1 : -(2 ^ 62) ≤ i) (h2 : i < 2 ^ 62) : Builtin.Range.rangeFitsLong i = true := by
  unfold Builtin.Range.rangeFitsLong
  rw [Bool.and_eq_true]
  exact ⟨decide_eq_true (by omega), decide_eq_true (by omega)⟩
theorem rgc_two {n : Nat} (h : n ≤ 1000000) : RgC 0 (n : Int) 2 ((n + 1) / 2) := by
  have e : Builtin.Range.rangeSize 0 (n : Int) 2 = (((n + 1) / 2 : Nat) : Int) := by
    unfold Builtin.Range.rangeSize
    rw [if_pos (by decide)]
    split <;> omega
  refine ⟨by decide, by decide, ?_, e⟩
  unfold Builtin.Range.small
  rw [e, fits_long (i := 0) (by decide) (by decide), fits_long (i := (n : Int)) (by omega) (by omega), fits_long (i := 2) (by decide) (by decide), fits_long (i := (((n + 1) / 2 : Nat) : Int)) (by omega) (by omega), if_pos (by decide), fits_long (i := (n : Int) + (2 - 1)) (by omega) (by omega), Bool.or_true]
  rfl
theorem rep_flat {α : Type} (n : Nat) (x : α) : (List.replicate n [x]).flatten = List.replicate n x := by
  induction n with
  | zero => rfl
  | succ n ih => rw [List.replicate_succ, List.flatten_cons, ih, List.replicate_succ]; rfl
end Pc
namespace Pc
open PySem PySem.Spec PyProof.Rows L2 RZ
theorem perm_map_inv {α β : Type} (f : α → β) {zs ys : List β} (h : zs.Perm ys) : ∀ l : List α, zs = l.map f → ∃ l' : List α, ys = l'.map f ∧ l'.Perm l := by
  induction h with
  | nil => exact fun l e => ⟨l, e, List.Perm.refl _⟩
  | cons x _ ih =>
    intro l e
    cases l with
    | nil => cases e
    | cons a r =>
      injection e with e1 e2
      obtain ⟨l', h1, h2⟩ := ih r e2
      exact ⟨a :: l', by rw [h1, e1]; rfl, h2.cons a⟩
  | swap x y t =>
    intro l e
    cases l with
    | nil => cases e
    | cons a r =>
      cases r with
      | nil => injection e with _ e2; cases e2
      | cons b r =>
        injection e with e1 e2
        injection e2 with e2 e3
        exact ⟨b :: a :: r, by rw [e1, e2, e3]; rfl, List.Perm.swap _ _ _⟩
  | trans _ _ ih1 ih2 =>
    intro l e
    obtain ⟨l1, h1, h2⟩ := ih1 l e
    obtain ⟨l2, h3, h4⟩ := ih2 l1 h1
    exact ⟨l2, h3, h4.trans h2⟩
theorem rg_nv (n : Nat) : rgV 0 (n : Int) = nv (List.range n) := by
  unfold rgV nv
  rw [Int.sub_zero, Int.toNat_natCast]
  refine List.map_congr_left fun i _ => ?_
  rw [Int.zero_add]
end Pc
namespace Pc
open PySem PySem.Spec PyProof.Rows L2 RZ
/-! ### data where more is tracked -/
theorem same_tup {K : PySem.W.Frag} {H H' : Hp} {a : Addr} {xs : List V} (e : Same H H') (h : SqT K H a xs) : SqT K H' a xs := by
  rcases h with (h | ⟨o, h⟩) | h
  · exact .inl (.inl (e _ _ h))
  · exact .inl (.inr ⟨o, e _ _ h⟩)
  · exact .inr h
mutual
theorem dp_same {K : PySem.W.Frag} {H H' : Hp} (e : Same H H') : ∀ {v : V} {d : PyData}, Dp K H v d → Dp K H' v d
  | _, _, .non => .non
  | _, _, .bl b => .bl b
  | _, _, .int i => .int i
  | _, _, .str x => .str x
  | _, _, .lst h a => .lst (e.seq h) (dpa_same e a)
  | _, _, .tup h a => .tup (same_tup e h) (dpa_same e a)
theorem dpa_same {K : PySem.W.Frag} {H H' : Hp} (e : Same H H') : ∀ {vs : List V} {ds : List PyData}, DpAll K H vs ds → DpAll K H' vs ds
  | _, _, .nil => .nil
  | _, _, .cons h a => .cons (dp_same e h) (dpa_same e a)
end
theorem dpa_len {K : PySem.W.Frag} {H : Hp} : ∀ {vs : List V} {ds : List PyData}, DpAll K H vs ds → vs.length = ds.length
  | _, _, .nil => rfl
  | _, _, .cons _ a => by rw [List.length_cons, List.length_cons, dpa_len a]
theorem dpa_get {K : PySem.W.Frag} {H : Hp} : ∀ {vs : List V} {ds : List PyData} {i : Nat} {v : V}, DpAll K H vs ds → vs[i]? = some v → ∃ d, ds[i]? = some d ∧ Dp K H v d
  | _, _, _, _, .nil, h => by simp at h
  | _, _, 0, _, .cons (d := d) h _, e => by
    cases Option.some.inj e
    exact ⟨d, rfl, h⟩
  | _, _, i + 1, v, .cons _ a, e => dpa_get (i := i) a e
theorem depth_get : ∀ {ds : List PyData} {i : Nat} {d : PyData}, ds[i]? = some d → d.depth ≤ PyData.depthAll ds
  | [], _, _, h => by simp at h
  | d :: r, 0, _, h => by
    cases Option.some.inj h
    exact Nat.le_max_left _ _
  | d :: r, i + 1, x, h => Nat.le_trans (depth_get (i := i) (ds := r) h) (Nat.le_max_right _ _)
mutual
/-- no list in it is longer than a hundred thousand -/
def narrow : PyData → Prop
  | .list xs => xs.length ≤ 100000 ∧ narrowAll xs
  | .tuple xs => xs.length ≤ 100000 ∧ narrowAll xs
  | _ => True
def narrowAll : List PyData → Prop
  | [] => True
  | x :: xs => narrow x ∧ narrowAll xs
end
theorem narrow_get : ∀ {ds : List PyData} {i : Nat} {d : PyData}, narrowAll ds → ds[i]? = some d → narrow d
  | [], _, _, _, h => by simp at h
  | d :: r, 0, _, n, h => by
    cases Option.some.inj h
    exact n.1
  | d :: r, i + 1, x, n, h => narrow_get (i := i) (ds := r) n.2 h
theorem narrow_of : ∀ {ds : List PyData}, (∀ d ∈ ds, narrow d) → narrowAll ds
  | [], _ => trivial
  | d :: r, h => ⟨h d List.mem_cons_self, narrow_of fun x hx => h x (List.mem_cons_of_mem _ hx)⟩
theorem narrow_ints (ns : List Int) : narrowAll (ns.map PyData.int) := narrow_of fun d hd => by
  obtain ⟨i, _, rfl⟩ := List.mem_map.mp hd
  exact trivial
theorem line_big {n : Nat} (h : n ≤ 100000) : n < sizeLine := Nat.lt_of_le_of_lt h (by decide)
theorem ty_lst {K : PySem.W.Frag} {H : Hp} {a : Addr} {xs : List V} (h : SqL K H a xs) : TyX K H (.ref a) (.type "list") := by
  rcases h with (h | ⟨o, h⟩) | ⟨o, its, n, h, c, _⟩
  · exact .base (.lst h)
  · exact .base (.frz h)
  · exact .kList h c
theorem ty_tup {K : PySem.W.Frag} {H : Hp} {a : Addr} {xs : List V} (h : SqT K H a xs) : TyX K H (.ref a) (.type "tuple") := by
  rcases h with (h | ⟨o, h⟩) | ⟨o, its, n, h, c, _⟩
  · exact .base (.tup h)
  · exact .fTuple h
  · exact .kTuple h c
theorem kit2 {K : PySem.W.Frag} {t a b : String} {p q : Bool} (h1 : kitB t a = some p) (h2 : kitB t b = some q) : PySem.W.kitAny K (.type t) [.type a, .type b] = some (p || q) := by
  refine kitAny_cons (kit_ty h1) (fun e => kitAny_cons (kit_ty h2) (fun e2 => ?_) (fun e2 => ?_)) (fun e => ?_)
  · subst e e2; rfl
  · subst e e2; rfl
  · subst e; rfl
section
variable {K : PySem.W.Frag}
theorem any_lt_int : PySem.W.kitAny K (.type "int") [.type "list", .type "tuple"] = some false := kit2 (p := false) (q := false) (by decide +kernel) (by decide +kernel)
theorem any_sb_int : PySem.W.kitAny K (.type "int") [.type "str", .type "bool"] = some false := kit2 (p := false) (q := false) (by decide +kernel) (by decide +kernel)
theorem any_bs_int : PySem.W.kitAny K (.type "int") [.type "bool", .type "str"] = some false := kit2 (p := false) (q := false) (by decide +kernel) (by decide +kernel)
theorem one_int_int : PySem.W.kitOne K (.type "int") (.type "int") = some true := kit_ty (by decide +kernel)
theorem one_int_bool : PySem.W.kitOne K (.type "int") (.type "bool") = some false := kit_ty (by decide +kernel)
theorem one_int_list : PySem.W.kitOne K (.type "int") (.type "list") = some false := kit_ty (by decide +kernel)
theorem one_int_tuple : PySem.W.kitOne K (.type "int") (.type "tuple") = some false := kit_ty (by decide +kernel)
theorem any_lt_none : PySem.W.kitAny K (.type "NoneType") [.type "list", .type "tuple"] = some false := kit2 (p := false) (q := false) (by decide +kernel) (by decide +kernel)
theorem any_sb_none : PySem.W.kitAny K (.type "NoneType") [.type "str", .type "bool"] = some false := kit2 (p := false) (q := false) (by decide +kernel) (by decide +kernel)
theorem any_bs_none : PySem.W.kitAny K (.type "NoneType") [.type "bool", .type "str"] = some false := kit2 (p := false) (q := false) (by decide +kernel) (by decide +kernel)
theorem one_none_int : PySem.W.kitOne K (.type "NoneType") (.type "int") = some false := kit_ty (by decide +kernel)
theorem one_none_bool : PySem.W.kitOne K (.type "NoneType") (.type "bool") = some false := kit_ty (by decide +kernel)
theorem one_none_list : PySem.W.kitOne K (.type "NoneType") (.type "list") = some false := kit_ty (by decide +kernel)
theorem one_none_tuple : PySem.W.kitOne K (.type "NoneType") (.type "tuple") = some false := kit_ty (by decide +kernel)
theorem any_lt_bool : PySem.W.kitAny K (.type "bool") [.type "list", .type "tuple"] = some false := kit2 (p := false) (q := false) (by decide +kernel) (by decide +kernel)
theorem any_sb_bool : PySem.W.kitAny K (.type "bool") [.type "str", .type "bool"] = some true := kit2 (p := false) (q := true) (by decide +kernel) (by decide +kernel)
theorem any_bs_bool : PySem.W.kitAny K (.type "bool") [.type "bool", .type "str"] = some true := kit2 (p := true) (q := false) (by decide +kernel) (by decide +kernel)
theorem one_bool_int : PySem.W.kitOne K (.type "bool") (.type "int") = some true := kit_ty (by decide +kernel)
theorem one_bool_bool : PySem.W.kitOne K (.type "bool") (.type "bool") = some true := kit_ty (by decide +kernel)
theorem one_bool_list : PySem.W.kitOne K (.type "bool") (.type "list") = some false := kit_ty (by decide +kernel)
theorem one_bool_tuple : PySem.W.kitOne K (.type "bool") (.type "tuple") = some false := kit_ty (by decide +kernel)
theorem any_lt_str : PySem.W.kitAny K (.type "str") [.type "list", .type "tuple"] = some false := kit2 (p := false) (q := false) (by decide +kernel) (by decide +kernel)
theorem any_sb_str : PySem.W.kitAny K (.type "str") [.type "str", .type "bool"] = some true := kit2 (p := true) (q := false) (by decide +kernel) (by decide +kernel)
theorem any_bs_str : PySem.W.kitAny K (.type "str") [.type "bool", .type "str"] = some true := kit2 (p := false) (q := true) (by decide +kernel) (by decide +kernel)
theorem one_str_int : PySem.W.kitOne K (.type "str") (.type "int") = some false := kit_ty (by decide +kernel)
theorem one_str_bool : PySem.W.kitOne K (.type "str") (.type "bool") = some false := kit_ty (by decide +kernel)
theorem one_str_list : PySem.W.kitOne K (.type "str") (.type "list") = some false := kit_ty (by decide +kernel)
theorem one_str_tuple : PySem.W.kitOne K (.type "str") (.type "tuple") = some false := kit_ty (by decide +kernel)
theorem any_lt_list : PySem.W.kitAny K (.type "list") [.type "list", .type "tuple"] = some true := kit2 (p := true) (q := false) (by decide +kernel) (by decide +kernel)
theorem any_sb_list : PySem.W.kitAny K (.type "list") [.type "str", .type "bool"] = some false := kit2 (p := false) (q := false) (by decide +kernel) (by decide +kernel)
theorem any_bs_list : PySem.W.kitAny K (.type "list") [.type "bool", .type "str"] = some false := kit2 (p := false) (q := false) (by decide +kernel) (by decide +kernel)
theorem one_list_int : PySem.W.kitOne K (.type "list") (.type "int") = some false := kit_ty (by decide +kernel)
theorem one_list_bool : PySem.W.kitOne K (.type "list") (.type "bool") = some false := kit_ty (by decide +kernel)
theorem one_list_list : PySem.W.kitOne K (.type "list") (.type "list") = some true := kit_ty (by decide +kernel)
theorem one_list_tuple : PySem.W.kitOne K (.type "list") (.type "tuple") = some false := kit_ty (by decide +kernel)
theorem any_lt_tuple : PySem.W.kitAny K (.type "tuple") [.type "list", .type "tuple"] = some true := kit2 (p := false) (q := true) (by decide +kernel) (by decide +kernel)
theorem any_sb_tuple : PySem.W.kitAny K (.type "tuple") [.type "str", .type "bool"] = some false := kit2 (p := false) (q := false) (by decide +kernel) (by decide +kernel)
theorem any_bs_tuple : PySem.W.kitAny K (.type "tuple") [.type "bool", .type "str"] = some false := kit2 (p := false) (q := false) (by decide +kernel) (by decide +kernel)
theorem one_tuple_int : PySem.W.kitOne K (.type "tuple") (.type "int") = some false := kit_ty (by decide +kernel)
theorem one_tuple_bool : PySem.W.kitOne K (.type "tuple") (.type "bool") = some false := kit_ty (by decide +kernel)
theorem one_tuple_list : PySem.W.kitOne K (.type "tuple") (.type "list") = some false := kit_ty (by decide +kernel)
theorem one_tuple_tuple : PySem.W.kitOne K (.type "tuple") (.type "tuple") = some true := kit_ty (by decide +kernel)
end
theorem cls2 (a b : String) : Paired ClsV [.ty a, .ty b] [.type a, .type b] := .cons (.ty a) (.cons (.ty b) .nil)
/-- zip of two tuples -/
theorem walk_zipT {K : PySem.W.Frag} {a b : Addr} {xs ys : List V} {n : Nat} (hn : n = min xs.length ys.length) : Walk (ItzT K a b) n (fun H => SqT K H a xs ∧ SqT K H b ys) (YPair (fun i => xs[i]?) (fun i => ys[i]?)) := by
  subst hn
  refine ⟨fun i _ hi q => ?_, fun _ q => ⟨xs, ys, q.1, q.2, by omega⟩, fun i H v H' _ q y => ?_⟩
  · obtain ⟨x, hx⟩ := get_some (l := xs) (i := i) (by omega)
    obtain ⟨z, hz⟩ := get_some (l := ys) (i := i) (by omega)
    exact ⟨xs, ys, x, z, q.1, q.2, hx, hz⟩
  · obtain ⟨T, x, z, h1, h2, h3, h4, h5⟩ := y
    exact ⟨T, x, z, h1, h2, h3, h4 xs q.1, h5 ys q.2⟩
theorem fn_never {P : Program} {w : World} {K : PySem.W.Frag} {mg : Str → Option Value} {base : Heap} {CX : CXT} {k : Nat} {f : Addr} {fd : FuncData} {ps : List Str} {sp : Sp} (h : ∀ vs H Q E, ¬ sp vs H Q E) : FnOk P w K mg base CX k f fd ps sp :=
  ⟨fun vs H Q E q => absurd q (h vs H Q E), fun _ _ _ H _ _ vs Q E _ _ _ _ q => absurd q (h vs H Q E)⟩
/-- a comprehension without a test -/
theorem yes_if {σ : L2.St} {H : Hp} {A B : Hp → Prop} (h : A H) : tYes σ H (fun b H3 => if b = true then A H3 else B H3) := by
  show if true = true then A H else B H
  exact iteT h
theorem all_rep : ∀ n : Nat, (List.replicate n true).all id = true
  | 0 => rfl
  | n + 1 => by rw [List.replicate_succ, List.all_cons, all_rep n]; rfl
end Pc
namespace Pc
open PySem PySem.Spec PyProof.Rows L2 RZ
theorem one_int_str {K : PySem.W.Frag} : PySem.W.kitOne K (.type "int") (.type "str") = some false := kit_ty (by decide +kernel)
theorem one_none_str {K : PySem.W.Frag} : PySem.W.kitOne K (.type "NoneType") (.type "str") = some false := kit_ty (by decide +kernel)
theorem one_bool_str {K : PySem.W.Frag} : PySem.W.kitOne K (.type "bool") (.type "str") = some false := kit_ty (by decide +kernel)
theorem one_str_str {K : PySem.W.Frag} : PySem.W.kitOne K (.type "str") (.type "str") = some true := kit_ty (by decide +kernel)
end Pc
namespace Pc
open PySem PySem.Spec PyProof.Rows L2 RZ
section
variable {P : Program} {w : World} {K : PySem.W.Frag} {mg : Str → Option Value} {base : Heap}
/-! ### the same data twice -/
def spSame (K : PySem.W.Frag) (n : Nat) : Sp := fun vs H Q _ => ∃ (x y : V) (d : PyData), vs = [x, y] ∧ Dp K H x d ∧ Dp K H y d ∧ d.depth < n ∧ narrow d ∧ ∀ H', Same H H' → Q (.bl true) H'
theorem same_step (T : Env K mg) (n : Nat) (G : FnOk P w K mg base CX0 n T.f_same T.d_same ["_law_found", "_law_due"] (spSame K n)) : FnOk P w K mg base CX0 (n + 1) T.f_same T.d_same ["_law_found", "_law_due"] (spSame K (n + 1)) := by
  refine T.F_same.ok sc_same (fun vs H Q E h => ?_) (fun cdv A outer s H vs Q E hr h => ?_)
  · obtain ⟨x, y, d, rfl, _⟩ := h
    rfl
  · obtain ⟨x, y, d, rfl, hx, hy, hd, hw, q⟩ := h
    refine ⟨_, pss_cons (ps_if (pt_val (pe_callB call_isiT (by rfl) T.n_isinstance (by decide +kernel) (pa_cons (pv 1) (pa_cons (pe_tup (pa_cons (pe_bltn (v := .ty "list") (by rfl) T.n_list (by decide +kernel) rfl) (pa_cons (pe_bltn (v := .ty "tuple") (by rfl) T.n_tuple (by decide +kernel) rfl) pa_nil))) pa_nil))))
        (pss_cons (ps_if (PW.pt (pw_or (pt_cmpR op_ne (pe_callB call_isi (by rfl) T.n_isinstance (by decide +kernel) (pa_cons (pv 0) (pa_cons (pe_bltn (v := .ty "list") (by rfl) T.n_list (by decide +kernel) rfl) pa_nil))) (pe_callB call_isi (by rfl) T.n_isinstance (by decide +kernel) (pa_cons (pv 1) (pa_cons (pe_bltn (v := .ty "list") (by rfl) T.n_list (by decide +kernel) rfl) pa_nil))) (nomark _))
            (pw_or1 (pt_cmpR op_ne (pe_callB call_isi (by rfl) T.n_isinstance (by decide +kernel) (pa_cons (pv 0) (pa_cons (pe_bltn (v := .ty "tuple") (by rfl) T.n_tuple (by decide +kernel) rfl) pa_nil))) (pe_callB call_isi (by rfl) T.n_isinstance (by decide +kernel) (pa_cons (pv 1) (pa_cons (pe_bltn (v := .ty "tuple") (by rfl) T.n_tuple (by decide +kernel) rfl) pa_nil))) (nomark _)))))
          (pss_one (ps_ret pe_bl)) pss_nil)
        (pss_one (ps_ret (pe_and (pe_cmpR op_eq (pe_callB call_len_seq (by rfl) T.n_len PySem.boot_len (pa_cons (pv 0) pa_nil)) (pe_callB call_len_seq (by rfl) T.n_len PySem.boot_len (pa_cons (pv 1) pa_nil)) (nomark _))
          (pe_one (pe_callB (cr_all rfl) (by rfl) T.n_all (by decide +kernel) (pa_cons
            (pe_lc (own := [("_law_mine", 2), ("_law_its", 3)]) (g := gTup K 2 (gCons (gName 2) (gCons (gName 3) gNil))) (tt := tYes) (by rfl) sc_same.nd (pi_zipA (by rfl) T.n_zip (pa_cons (pv 0) (pa_cons (pv 1) pa_nil)))
              (blkOk_by (N := N_same) (sc := defScope s_same) (by decide +kernel))
              (fun _ _ _ _ _ => pg_tup (by rfl) (pgs_cons (pg_name (i := 2) sc_same.nd rfl (.inl rfl)) (pgs_cons (pg_name (i := 3) sc_same.nd rfl (.inl rfl)) pgs_nil)))
              (fun _ _ _ _ _ => pts_nil)
              (fun _ _ _ _ _ => pe_call G hr (by rfl) T.g_same T.F_same.kp T.b_same .nil pass0 (pa_cons (pv 2) (pa_cons (pv 3) pa_nil)))) pa_nil))))))) pss_nil)
      (pss_cons (ps_if (PW.pt (pw_or (pt_cmpR op_isN (pv 1) pe_non (nomark _)) (pw_or1 (pt_val (pe_callB call_isi (by rfl) T.n_isinstance (by decide +kernel) (pa_cons (pv 1) (pa_cons (pe_bltn (v := .ty "str") (by rfl) T.n_str (by decide +kernel) rfl) pa_nil)))))))
        (pss_one (ps_ret (pe_and (pe_cmpR op_eq (pv 0) (pv 1) (nomark _)) (pe_one (pe_cmpR op_eq (pe_callB call_isi (by rfl) T.n_isinstance (by decide +kernel) (pa_cons (pv 0) (pa_cons (pe_bltn (v := .ty "str") (by rfl) T.n_str (by decide +kernel) rfl) pa_nil))) (pe_callB call_isi (by rfl) T.n_isinstance (by decide +kernel) (pa_cons (pv 1) (pa_cons (pe_bltn (v := .ty "str") (by rfl) T.n_str (by decide +kernel) rfl) pa_nil))) (nomark _)))))) pss_nil)
      (pss_one (ps_ret (pe_and (pe_callB call_isi (by rfl) T.n_isinstance (by decide +kernel) (pa_cons (pv 0) (pa_cons (pe_bltn (v := .ty "int") (by rfl) T.n_int (by decide +kernel) rfl) pa_nil))) (pe_and (pe_cmpR op_eq (pe_callB call_isi (by rfl) T.n_isinstance (by decide +kernel) (pa_cons (pv 0) (pa_cons (pe_bltn (v := .ty "bool") (by rfl) T.n_bool (by decide +kernel) rfl) pa_nil))) (pe_callB call_isi (by rfl) T.n_isinstance (by decide +kernel) (pa_cons (pv 1) (pa_cons (pe_bltn (v := .ty "bool") (by rfl) T.n_bool (by decide +kernel) rfl) pa_nil))) (nomark _)) (pe_one (pe_cmpR op_eq (pv 0) (pv 1) (nomark _)))))))), ?_⟩
    cases d with
    | dict _ => cases hx
    | int i =>
      cases hx; cases hy
      refine ⟨_, rfl, by show 2 ≤ sizeLine; decide, fun t nt => ⟨_, t, _, _, _, _, rfl, upd_same, cls2 _ _, .base (.int i), any_lt_int, _, rfl, iteF ?_⟩⟩
      refine ⟨_, rfl, rfl, _, rfl, iteF ⟨_, rfl, _, _, _, _, _, rfl, .ty _, .base (.int i), one_int_str, _, rfl, iteF ?_⟩⟩
      refine ⟨_, rfl, _, _, _, _, _, rfl, .ty _, .base (.int i), one_int_int, _, rfl, iteT ⟨_, rfl, _, _, _, _, _, rfl, .ty _, .base (.int i), one_int_bool, _, rfl, _, _, _, _, _, rfl, .ty _, .base (.int i), one_int_bool, rfl, _, rfl, iteT ⟨_, rfl, _, rfl, rfl, ?_⟩⟩⟩
      rw [decide_eq_true rfl]
      exact q _ (same_new nt)
    | none =>
      cases hx; cases hy
      refine ⟨_, rfl, by show 2 ≤ sizeLine; decide, fun t nt => ⟨_, t, _, _, _, _, rfl, upd_same, cls2 _ _, .base .non, any_lt_none, _, rfl, iteF ?_⟩⟩
      refine ⟨_, rfl, rfl, _, rfl, iteT ?_⟩
      refine ⟨_, rfl, _, rfl, rfl, _, rfl, iteT ⟨_, rfl, _, _, _, _, _, rfl, .ty _, .base .non, one_none_str, _, rfl, _, _, _, _, _, rfl, .ty _, .base .non, one_none_str, rfl, ?_⟩⟩
      rw [decide_eq_true rfl]
      exact q _ (same_new nt)
    | bool b =>
      cases hx; cases hy
      refine ⟨_, rfl, by show 2 ≤ sizeLine; decide, fun t nt => ⟨_, t, _, _, _, _, rfl, upd_same, cls2 _ _, .base (.bl b), any_lt_bool, _, rfl, iteF ?_⟩⟩
      refine ⟨_, rfl, rfl, _, rfl, iteF ⟨_, rfl, _, _, _, _, _, rfl, .ty _, .base (.bl b), one_bool_str, _, rfl, iteF ?_⟩⟩
      refine ⟨_, rfl, _, _, _, _, _, rfl, .ty _, .base (.bl b), one_bool_int, _, rfl, iteT ⟨_, rfl, _, _, _, _, _, rfl, .ty _, .base (.bl b), one_bool_bool, _, rfl, _, _, _, _, _, rfl, .ty _, .base (.bl b), one_bool_bool, rfl, _, rfl, iteT ⟨_, rfl, _, rfl, rfl, ?_⟩⟩⟩
      rw [decide_eq_true rfl]
      exact q _ (same_new nt)
    | str z =>
      cases hx; cases hy
      refine ⟨_, rfl, by show 2 ≤ sizeLine; decide, fun t nt => ⟨_, t, _, _, _, _, rfl, upd_same, cls2 _ _, .base (.str z), any_lt_str, _, rfl, iteF ?_⟩⟩
      refine ⟨_, rfl, rfl, _, rfl, iteF ⟨_, rfl, _, _, _, _, _, rfl, .ty _, .base (.str z), one_str_str, _, rfl, iteT ?_⟩⟩
      refine ⟨_, rfl, _, rfl, rfl, _, rfl, ?_⟩
      rw [decide_eq_true rfl]
      refine iteT ⟨_, rfl, _, _, _, _, _, rfl, .ty _, .base (.str z), one_str_str, _, rfl, _, _, _, _, _, rfl, .ty _, .base (.str z), one_str_str, rfl, ?_⟩
      rw [decide_eq_true rfl]
      exact q _ (same_new nt)
    | list ds =>
      cases hx with
      | lst hsx hax =>
      cases hy with
      | lst hsy hay =>
      rename_i a xs b ys
      have hlx := dpa_len hax
      have hly := dpa_len hay
      obtain ⟨hw1, hw2⟩ := hw
      refine ⟨_, rfl, by show 2 ≤ sizeLine; decide, fun t nt => ?_⟩
      have s1 : Same H (upd H t (.tup [.ty "list", .ty "tuple"])) := same_new nt
      have hsx1 := Same.seq s1 hsx
      have hsy1 := Same.seq s1 hsy
      refine ⟨_, t, _, _, _, _, rfl, upd_same, cls2 _ _, ty_lst hsy1, any_lt_list, _, rfl, iteT ?_⟩
      refine ⟨_, rfl, _, _, _, _, _, rfl, .ty _, ty_lst hsx1, one_list_list, _, rfl, _, _, _, _, _, rfl, .ty _, ty_lst hsy1, one_list_list, rfl, _, rfl, iteNS rfl ?_⟩
      refine ⟨_, rfl, _, _, _, _, _, rfl, .ty _, ty_lst hsx1, one_list_tuple, _, rfl, _, _, _, _, _, rfl, .ty _, ty_lst hsy1, one_list_tuple, rfl, _, rfl, iteNS rfl ?_⟩
      refine ⟨_, rfl, a, xs, rfl, .inl hsx1, _, rfl, b, ys, rfl, .inl hsy1, rfl, _, rfl, ?_⟩
      rw [decide_eq_true (show V.int (xs.length : Int) = V.int (ys.length : Int) by rw [hlx, hly])]
      refine iteT ⟨_, rfl, _, rfl, a, b, xs, ys, rfl, .inl ⟨hsx1, hsy1, fun D nD => ?_⟩⟩
      have nD0 : H D = none := s1.free nD
      refine lc_it (walk_zip (n := xs.length) (by omega)) (fun i H' => Same H H' ∧ H' D = some (.lst (List.replicate i (.bl true)))) ⟨s1.trans (same_new nD), upd_same⟩ (fun i H' _ h => ⟨Same.seq h.1 hsx, Same.seq h.1 hsy⟩) (fun i v H1 H2 hi h yy => ?_) (fun H' h => ?_)
      · obtain ⟨sm, eD⟩ := h
        obtain ⟨tp, u, v, rfl, nT, rfl, g1, g2⟩ := yy
        obtain ⟨d1, e1, f1⟩ := dpa_get hax g1
        obtain ⟨d2, e2, f2⟩ := dpa_get hay g2
        cases Option.some.inj (e1.symm.trans e2)
        have st : Same H (upd H1 tp (.tup [u, v])) := sm.trans (same_new nT)
        refine ⟨tp, _, rfl, .inl (.inl upd_same), rfl, _, _, rfl, _, _, rfl, rfl, rfl, yes_if ?_⟩
        refine ⟨_, rfl, _, rfl, u, v, d1, rfl, dp_same st f1, dp_same st f2, ?_, narrow_get hw2 e1, fun H3 s3 => ⟨_, s3 _ _ (same_new nT _ _ eD), ?_, ?_, ?_⟩⟩
        · have := depth_get e1
          have hd' : PyData.depthAll ds + 1 < n + 1 := hd
          omega
        · rw [List.length_replicate]
          exact line_big (by omega)
        · intro c o hc
          rw [upd_ne (ne_of_none hc nD0)]
          exact s3 _ _ (st _ _ hc)
        · rw [upd_same, List.replicate_succ']
      · obtain ⟨sm, eD⟩ := h
        refine ⟨D, List.replicate xs.length true, rfl, ?_, ?_⟩
        · rw [List.map_replicate]
          exact .inl (.inl eD)
        · rw [all_rep]
          exact q _ sm
    | tuple ds =>
      cases hx with
      | tup hsx hax =>
      cases hy with
      | tup hsy hay =>
      rename_i a xs b ys
      have hlx := dpa_len hax
      have hly := dpa_len hay
      obtain ⟨hw1, hw2⟩ := hw
      refine ⟨_, rfl, by show 2 ≤ sizeLine; decide, fun t nt => ?_⟩
      have s1 : Same H (upd H t (.tup [.ty "list", .ty "tuple"])) := same_new nt
      have hsx1 := same_tup s1 hsx
      have hsy1 := same_tup s1 hsy
      refine ⟨_, t, _, _, _, _, rfl, upd_same, cls2 _ _, ty_tup hsy1, any_lt_tuple, _, rfl, iteT ?_⟩
      refine ⟨_, rfl, _, _, _, _, _, rfl, .ty _, ty_tup hsx1, one_tuple_list, _, rfl, _, _, _, _, _, rfl, .ty _, ty_tup hsy1, one_tuple_list, rfl, _, rfl, iteNS rfl ?_⟩
      refine ⟨_, rfl, _, _, _, _, _, rfl, .ty _, ty_tup hsx1, one_tuple_tuple, _, rfl, _, _, _, _, _, rfl, .ty _, ty_tup hsy1, one_tuple_tuple, rfl, _, rfl, iteNS rfl ?_⟩
      refine ⟨_, rfl, a, xs, rfl, .inr hsx1, _, rfl, b, ys, rfl, .inr hsy1, rfl, _, rfl, ?_⟩
      rw [decide_eq_true (show V.int (xs.length : Int) = V.int (ys.length : Int) by rw [hlx, hly])]
      refine iteT ⟨_, rfl, _, rfl, a, b, xs, ys, rfl, .inr ⟨hsx1, hsy1, fun D nD => ?_⟩⟩
      have nD0 : H D = none := s1.free nD
      refine lc_it (walk_zipT (n := xs.length) (by omega)) (fun i H' => Same H H' ∧ H' D = some (.lst (List.replicate i (.bl true)))) ⟨s1.trans (same_new nD), upd_same⟩ (fun i H' _ h => ⟨same_tup h.1 hsx, same_tup h.1 hsy⟩) (fun i v H1 H2 hi h yy => ?_) (fun H' h => ?_)
      · obtain ⟨sm, eD⟩ := h
        obtain ⟨tp, u, v, rfl, nT, rfl, g1, g2⟩ := yy
        obtain ⟨d1, e1, f1⟩ := dpa_get hax g1
        obtain ⟨d2, e2, f2⟩ := dpa_get hay g2
        cases Option.some.inj (e1.symm.trans e2)
        have st : Same H (upd H1 tp (.tup [u, v])) := sm.trans (same_new nT)
        refine ⟨tp, _, rfl, .inl (.inl upd_same), rfl, _, _, rfl, _, _, rfl, rfl, rfl, yes_if ?_⟩
        refine ⟨_, rfl, _, rfl, u, v, d1, rfl, dp_same st f1, dp_same st f2, ?_, narrow_get hw2 e1, fun H3 s3 => ⟨_, s3 _ _ (same_new nT _ _ eD), ?_, ?_, ?_⟩⟩
        · have := depth_get e1
          have hd' : PyData.depthAll ds + 1 < n + 1 := hd
          omega
        · rw [List.length_replicate]
          exact line_big (by omega)
        · intro c o hc
          rw [upd_ne (ne_of_none hc nD0)]
          exact s3 _ _ (st _ _ hc)
        · rw [upd_same, List.replicate_succ']
      · obtain ⟨sm, eD⟩ := h
        refine ⟨D, List.replicate xs.length true, rfl, ?_, ?_⟩
        · rw [List.map_replicate]
          exact .inl (.inl eD)
        · rw [all_rep]
          exact q _ sm
theorem ok_same (T : Env K mg) : ∀ n : Nat, FnOk P w K mg base CX0 n T.f_same T.d_same ["_law_found", "_law_due"] (spSame K n)
  | 0 => fn_never fun vs H Q E h => by
    obtain ⟨x, y, d, _, _, _, hd, _⟩ := h
    exact absurd hd (Nat.not_lt_zero _)
  | n + 1 => same_step T n (ok_same T n)
end
end Pc
namespace Pc
open PySem PySem.Spec PyProof.Rows L2 RZ
/-! ### enumerate of a tuple -/
theorem draws_tuple {prog : Program} {w : World} {A : Around} (hh : A.handled = none) (it l : Addr) (hne : l ≠ it) (items : Array Value) :
    Draws prog w A it [it, l] items.size (fun i v => items[i]? = some v) (fun i h => h.IsTupleIter it l i ∧ h.IsTuple l items) where
  live i h st := by
    obtain ⟨⟨o, ho, _⟩, _⟩ := st
    exact ⟨o, ho⟩
  frame i h h' st hk := ⟨Heap.IsTupleIter.at st.1 (hk it (by simp)), Heap.IsTuple.at st.2 (hk l (by simp))⟩
  item i s Q E hi st hQ := by
    have hx : items[i]? = some items[i] := by simp [hi]
    exact nextOf_tuple_item st.1 st.2 hx fun h' hit' hs' => hQ _ h' s.toks hx ⟨hit', st.2.extBut hs'.extBut hne⟩ hs'
  done s Q E st hE := nextOf_tuple_end hh st.1 st.2 (by simp) hE
set_option maxHeartbeats 4000000 in
theorem enum_newT (l : Addr) (items : Array Value) (n : Nat) (dct : Option Addr) (sl : Array (Option Value)) :
    Meets (Builtin.«enumerate.__new__» ⟨[.type "enumerate", .ref l], []⟩) (fun _ R s =>
      s.heap.get? l = some { cls := .type "tuple", dict := dct, data := .seq items n, slots := sl } ∧
      R (.ok (.ret (.ref (s.heap.push { cls := .type "tuple_iterator", data := .fields #[.ref l, .int 0 0] }).objs.size)))
        { s with heap := Heap.push (s.heap.push { cls := .type "tuple_iterator", data := .fields #[.ref l, .int 0 0] }) { cls := .type "enumerate", data := .fields #[.none, .bool false, .ref s.heap.objs.size, rawInt 0, .none, .none] } }) := by
  refine .of_wp fun prog w A R s h => ?_
  obtain ⟨hp, g, d, tk, os⟩ := s
  obtain ⟨hl, h⟩ := h
  have subE := sub_enumerate
  have isT : Heap.IsTuple (Shared.heap ⟨hp, g, d, tk, os⟩) l items := ⟨_, hl, rfl, n, rfl⟩
  wp_walk using AutoSeq1.wpAny_loadPart' hl
  refine wpAny_stack_any fun st => wpAny_pure ?_
  split
  · rename_i c _ _ _ _ _
    cases (c == Value.type "enumerate") <;> (wp_walk using AutoSeq1.wpAny_loadPart' hl, wpAny_pyIter_tuple isT; exact ⟨_, rfl, h⟩)
  · wp_walk using AutoSeq1.wpAny_loadPart' hl, wpAny_pyIter_tuple isT
    exact ⟨_, rfl, h⟩
theorem call_enumT {prog : Program} {w : World} {A : Around} {E : Value → Shared → Prop} {s : Shared} {l : Addr} {items : Array Value} {Q : Value → Shared → Prop} (hL : s.heap.IsTuple l items)
    (h : ∀ h', IsEnum h' (s.heap.objs.size + 1) s.heap.objs.size 0 .none → h'.IsTupleIter s.heap.objs.size l 0 →
      (∀ b o, s.heap.get? b = some o → h'.get? b = some o) → Q (.ref (s.heap.objs.size + 1)) { s with heap := h' }) :
    wpAny (model prog w) A (call (.type "enumerate") [.ref l]) Q E s := by
  obtain ⟨⟨c, dct, dt, sl⟩, hl, hc, n, hd⟩ := hL
  have hc' : c = .type "tuple" := hc
  have hd' : dt = .seq items n := hd
  subst hc' hd'
  refine callType_new F.called_enumerate (by decide) (F.typeCall_enumerate_1 _) (F.newCall_enumerate_1 _) (fun obj => F.args_object_init_2 obj _) F.entry_enumerate_new (enum_newT l items n dct sl) ⟨hl, ?_⟩
  have hz : (s.heap.push { cls := .type "tuple_iterator", data := .fields #[.ref l, .int 0 0] }).objs.size = s.heap.objs.size + 1 := Heap.size_push ..
  have he := Heap.get?_push_size (s.heap.push { cls := .type "tuple_iterator", data := .fields #[.ref l, .int 0 0] })
    (o := { cls := .type "enumerate", data := .fields #[.none, .bool false, .ref s.heap.objs.size, rawInt 0, .none, .none] }) rfl
  rw [hz] at he
  show _ ∧ _
  rw [hz]
  exact ⟨⟨_, he, rfl⟩, h _ he ⟨{ cls := .type "tuple_iterator", data := .fields #[.ref l, .int 0 0] }, Heap.get?_push_of_some _ (Heap.get?_push_size _ rfl), rfl, rfl⟩ fun b o x => Heap.get?_push_of_some _ (Heap.get?_push_of_some _ x)⟩
/-- the tuple at a, its items in new pairs with their places -/
def IteT (K : PySem.W.Frag) (a : Addr) : It where
  go i H := ∃ (xs : List V) (x : V), SqT K H a xs ∧ xs[i]? = some x
  yld i H v H' := ∃ T x, v = .ref T ∧ H T = none ∧ H' = upd H T (.tup [.int (i : Nat), x]) ∧ ∀ xs, SqT K H a xs → xs[i]? = some x
  stop i H := ∃ xs : List V, SqT K H a xs ∧ xs.length ≤ i
theorem turn_enumT {P : Program} {w : World} {K : PySem.W.Frag} {elts : List Expr} {kk : Nat} {tpos : Pos} (a e it : Addr) (hei : e ≠ it) (hae : a ≠ e) (hai : a ≠ it) :
    Turn P w K (.Tuple elts kk tpos) (IteT K a) [e, it] e (fun i h => (∃ old, IsEnum h e it ((i : Nat) : Int) old) ∧ h.IsTupleIter it a i) where
  mem := by simp
  obj i h st b hb := by
    obtain ⟨⟨old, he⟩, ⟨o, ho, hc, hd⟩⟩ := st
    rcases (show b = e ∨ b = it by simpa using hb) with z | z
    · rw [z]; exact ⟨_, he, fun v q => nomatch q⟩
    · rw [z]; exact ⟨o, ho, fun v q => by rw [hd] at q; cases q⟩
  keep i h h' st k := by
    obtain ⟨⟨old, he⟩, hi⟩ := st
    exact ⟨⟨old, k e (by simp) _ he⟩, hi.at fun o q => k it (by simp) o q⟩
  item := by
    intro X hP hw hK hc i pins s σ H E I hf st hg
    subst hP hw hK
    obtain ⟨⟨old, he⟩, hit⟩ := st
    obtain ⟨xs, x, hq, hx⟩ := hg
    obtain ⟨its, rv, p, hz⟩ := I.tuple hq
    have p2 : s.heap.IsTuple a its.toArray := p
    obtain ⟨u, hu, ru⟩ := rv.get hx
    have hlt : i < its.toArray.size := by
      rw [List.size_toArray]
      exact get_lt hu
    have D := draws_tuple (prog := X.prog) (w := X.w) (A := X.A.in1) (show X.A.in1.handled = none from I.ok.hd hc) it a hai its.toArray
    have hel : e < s.heap.objs.size := Heap.lt_size he
    have hil : it < s.heap.objs.size := by obtain ⟨_, q, _⟩ := hit; exact Heap.lt_size q
    refine wpAny_pyNext_enum_itemD D he ⟨hit, p2⟩ hlt hei (by simp [hei, hae.symm]) fun y h' tk hy ho hst hT hsz hk => ?_
    have ey : y = u := by
      have : its.toArray[i]? = some y := hy
      rw [List.getElem?_toArray, hu] at this
      exact (Option.some.inj this).symm
    subst ey
    refine ⟨_, rfl, wpAny_letOwnedTupleGo_enum (s := { s with heap := h', toks := tk + 1 }) ho fun h'' he' sb => ?_⟩
    have hT2 : h''.get? s.heap.objs.size = some { cls := .type "tuple", data := .seq #[.int i tk, y] } := (sb.2 _ (Nat.ne_of_gt hel)).trans hT
    have new : ObjOk X.prog X.w (upd H s.heap.objs.size (.tup [.int (i : Nat), x])) h'' s.heap.objs.size (.tup [.int (i : Nat), x]) :=
      ⟨by show 2 ≤ sizeLine; decide, [.int i tk, y], .cons ⟨_, rfl⟩ (.cons ru .nil), ⟨_, hT2, rfl, _, rfl⟩⟩
    have I1 := I.turnedNew (t' := tk + 1) (h' := h'') (ch := [e, it]) (fun b ob hb q => (sb.2 b (fun z => hb (by simp [z]))).trans (hk b ob (fun z => hb (by simp [z])) (fun z => hb (by simp [z])) q)) hf (Nat.le_refl _) new
    refine ⟨.ref s.heap.objs.size, _, I1, rfl, ⟨_, x, rfl, I.hok.fresh (Nat.le_refl _), rfl, fun ys hy => by rw [I.tuple_inj hy hq]; exact hx⟩, ⟨⟨y, ?_⟩, hst.1.at fun o q => (sb.2 it hei.symm).trans q⟩, fun b hb => ?_⟩
    · rw [show ((i + 1 : Nat) : Int) = (i : Int) + 1 by omega]; exact he'
    · have hb' : b < s.heap.objs.size := by
        rcases (show b = e ∨ b = it by simpa using hb) with z | z
        · rw [z]; exact hel
        · rw [z]; exact hil
      rw [upd_ne (Nat.ne_of_lt hb')]
      exact (hf b hb).1
  done := by
    intro X hP hw hK hc i pins s σ H E I hf st hg
    subst hP hw hK
    obtain ⟨⟨old, he⟩, hit⟩ := st
    obtain ⟨xs, hq, hx⟩ := hg
    obtain ⟨its, rv, p, hz⟩ := I.tuple hq
    have p2 : s.heap.IsTuple a its.toArray := p
    obtain ⟨f0, f1, f2, f3, f4, f5⟩ := hf it (by simp)
    have hl := rv.length
    have hT : s.TypeIs (.ref e) "enumerate" := ⟨_, he, rfl⟩
    unfold pyNext
    refine wpAny_bind (wpAny_attempt (wpAny_callSpecial?_slot (name := Str.ofString "__next__") hT F.slot_enumerate_next (wpAny_call_entry F.slot_enumerate_next hT F.entry_enumerate_next ?_ (F.args_enumerate_next_1 _))))
    show wpAny _ _ (field (.ref e) 2 >>= _) _ _ _
    refine wpAny_bind (wpAny_field he rfl (x := .ref it) rfl ?_)
    refine wpAny_bind (nextOf_tuple_end (show X.A.in1.handled = none from I.ok.hd hc) hit p2 (by simp; omega) fun h' x he' hx' => ?_)
    obtain ⟨o, ho, hcl⟩ := hx'
    refine wpAny_bind (wpAny_isInstance (T := "StopIteration") (b := true) ⟨o, ho, hcl⟩ isSubtype_stop ?_)
    exact wpAny_pure ⟨rfl, I.turned (t' := s.toks) (fun b o hb q => he' b o hb q) f0 f1 f3 f4 f5⟩
  self A i s Q E st h := by
    obtain ⟨⟨_, he⟩, _⟩ := st
    exact wpAny_pyIter_enum he h
/-- enumerate of a list or a tuple -/
def iEnumA (K : PySem.W.Frag) (ta : TA) : TI := fun σ H R => ta σ H fun vs H1 => ∃ a xs, vs = [.ref a] ∧ ((SqL K H1 a xs ∧ R (Ite K a) H1) ∨ (SqT K H1 a xs ∧ R (IteT K a) H1))
theorem pi_enumA {X : Cx} {e : Expr} {ta : TA} {p pos tpos : Pos} {elts : List Expr} {kk : Nat} (hg : Gl X "enumerate") (hm : X.mg "enumerate" = none) (ha : PA X [e] ta) (hs : starEach [e] X.env = [(false, eval e X.env)] := by rfl) :
    PI X (.Tuple elts kk tpos) (.Call (.Name "enumerate" p) [e] [] pos) (iEnumA X.K ta) := by
  constructor
  intro pins s σ H R I h
  refine Call_ (ld_blt I hg hm boot_enumerate (callWith_type1 (thn (ha.run pos pins s σ H _ I h) fun us s1 r => ?_) hs rfl))
  obtain ⟨vs, H1, I1, r1, a, xs, ex, q1⟩ := r
  subst ex
  cases r1 with
  | cons r rr =>
    cases rr
    cases r
    have fr : ∀ b, b ∈ [s1.heap.objs.size + 1, s1.heap.objs.size] → FpOk X pins H1 b := fun b hb => by
      have hle : s1.heap.objs.size ≤ b := by
        rcases (show b = s1.heap.objs.size + 1 ∨ b = s1.heap.objs.size by simpa using hb) with z | z <;> omega
      exact I1.fpOk hle (I1.hok.fresh hle)
    rcases q1 with ⟨hq, q⟩ | ⟨hq, q⟩
    · obtain ⟨its, rv, p', hz⟩ := I1.list hq
      refine call_enumerate_list p'.isList fun h' he hit _ hk => wpAny_pyIter_enum he ?_
      exact ⟨_, _, _, _, H1, rfl, I1.kept (t' := s1.toks) hk, turn_enum a (s1.heap.objs.size + 1) s1.heap.objs.size, ⟨⟨.none, he⟩, hit, Nat.succ_ne_self _⟩, fr, q⟩
    · obtain ⟨its, rv, p', hz⟩ := I1.tuple hq
      have p2 : s1.heap.IsTuple a its.toArray := p'
      have hlt : a < s1.heap.objs.size := by obtain ⟨o, ho, _⟩ := p2; exact Heap.lt_size ho
      refine call_enumT p2 fun h' he hit hk => wpAny_pyIter_enum he ?_
      exact ⟨_, _, _, _, H1, rfl, I1.kept (t' := s1.toks) hk, turn_enumT a (s1.heap.objs.size + 1) s1.heap.objs.size (Nat.succ_ne_self _) (Nat.ne_of_lt (Nat.lt_succ_of_lt hlt)) (Nat.ne_of_lt hlt), ⟨⟨.none, he⟩, hit⟩, fr, q⟩
theorem walk_enumT {K : PySem.W.Frag} {a : Addr} {xs : List V} : Walk (IteT K a) xs.length (fun H => SqT K H a xs) (YPair (fun i => some (.int (i : Nat))) (fun i => xs[i]?)) where
  goes i H hi q := by
    obtain ⟨x, hx⟩ := get_some hi
    exact ⟨xs, x, q, hx⟩
  stops H q := ⟨xs, q, Nat.le_refl _⟩
  yields i H v H' hi q y := by
    obtain ⟨T, x, h1, h2, h3, h4⟩ := y
    exact ⟨T, .int (i : Nat), x, h1, h2, h3, rfl, h4 xs q⟩
end Pc
namespace Pc
open PySem PySem.Spec PyProof.Rows L2 RZ
/-! ### t[::-1] of a pair -/
section
variable {prog : Program} {w : World} {A : Around} {E : Value → Shared → Prop} {s : Shared}
theorem applied_rev2 {sl : Addr} {vk : Value} {Q : Int × Int × Nat → Shared → Prop} (hs : s.heap.IsSliceOf sl .none .none vk) (pk : IsPart vk (some (-1))) (h : Q (1, -1, 2) s) :
    wpAny (model prog w) A (Builtin.Slice.sliceApplied (.ref sl) (pure (2 : Int))) Q E s := by
  obtain ⟨os, hos, hcs, hds⟩ := id hs
  unfold Builtin.Slice.sliceApplied Builtin.Slice.sliceFields
  refine wpAny_bind (wpAny_bind (wpAny_field hos hds (x := .none) rfl ?_))
  refine wpAny_bind (wpAny_field hos hds (x := .none) rfl ?_)
  refine wpAny_bind (wpAny_field hos hds (x := vk) rfl (wpAny_pure ?_))
  refine wpAny_bind (HT.slicePart_ pk ?_)
  show wpAny _ _ (if ((-1 : Int) == 0) = true then _ else _) _ _ s
  rw [if_neg (by decide)]
  refine wpAny_bind (HT.slicePart_ .none (wpAny_bind (HT.slicePart_ .none (wpAny_bind (wpAny_pure ?_)))))
  exact wpAny_pure h
theorem item_rev2 {t sl : Addr} {u v vk : Value} {Q : Value → Shared → Prop} (ht : IsTup s.heap t #[u, v]) (hs : s.heap.IsSliceOf sl .none .none vk) (pk : IsPart vk (some (-1)))
    (h : Q (.ref s.heap.objs.size) { s with heap := s.heap.push { cls := .type "tuple", data := .seq #[v, u] } }) : wpAny (model prog w) A (getItem (.ref t) (.ref sl)) Q E s := by
  obtain ⟨os, hos, hcs, hds⟩ := id hs
  have hTs : s.TypeIs (.ref sl) "slice" := ⟨os, hos, hcs⟩
  unfold getItem
  try with_reducible refine wpAny_holding ?_
  first | refine wpAny_bind (wpAny_pure ?_) | skip
  refine wpAny_bind (wpAny_sequenceKey ht.typeIs (by decide) ?_)
  refine wpAny_bind (wpAny_callSpecial?_slot (name := Str.ofString "__getitem__") ht.typeIs PyProof.Rows.slot_tuple_getitem (wpAny_call_entry PyProof.Rows.slot_tuple_getitem ht.typeIs entry_tuple_getitem ?_ (args_tuple_getitem _ _)))
  show wpAny _ _ (Builtin.Tuple.tupleItemsOf (.ref t) >>= _) _ _ s
  refine wpAny_bind (tupleItemsOf_ ht ?_)
  refine wpAny_bind (wpAny_typeOf hTs ?_)
  rw [if_pos (by decide)]
  refine wpAny_bind (applied_rev2 hs pk ?_)
  show wpAny _ _ (if ((1 : Int) == 0 && (-1 : Int) == 1 && (2 : Nat) == 2) = true then _ else _) _ _ s
  rw [if_neg (by decide)]
  have e : ((List.range 2).filterMap fun (k : Nat) => (#[u, v] : Array Value)[((1 : Int) + (k : Int) * -1).toNat]?).toArray = #[v, u] := rfl
  rw [e]
  have hz : sizeOk (.seq (#[v, u] : Array Value)) := by show 2 ≤ sizeLine; decide
  first
    | exact wpAny_bind (m := Builtin.Tuple.tupleExact _) (wpAny_newObj_type (wpAny_pure ⟨_, rfl, wpAny_pure h⟩) hz)
    | exact wpAny_bind (wpAny_bind (m := Builtin.Tuple.tupleExact _) (wpAny_newObj_type (wpAny_pure (wpAny_pure ⟨_, rfl, wpAny_pure h⟩)) hz))
    | exact wpAny_bind (wpAny_bind (m := Builtin.Tuple.tupleExact _) (wpAny_newObj_type (wpAny_pure ⟨_, rfl, wpAny_pure h⟩) hz))
    | exact wpAny_bind (m := Builtin.Tuple.tupleExact _) (wpAny_newObj_type (wpAny_bind (wpAny_pure (wpAny_pure ⟨_, rfl, wpAny_pure h⟩))) hz)
end
def tRev2 (K : PySem.W.Frag) (te : TE) : TE := fun σ H Q => te σ H fun x H1 => ∃ a y z, x = .ref a ∧ SqT K H1 a [y, z] ∧ ∀ p, H1 p = none → Q (.ref p) (upd H1 p (.tup [z, y]))
theorem pe_rev2 {X : Cx} {e : Expr} {te : TE} {k : Nat} {p1 p2 p3 pos : Pos} (he : PE X e te) : PE X (.Subscript e (.Slice none none (some (.UnaryOp .USub (.Constant (.int 1) k p1) p2)) p3) pos) (tRev2 X.K te) := by
  constructor
  intro pins s σ H Q I h
  refine Subscript_ (thn (he.run pins s σ H _ I h) fun v s1 r => ?_)
  obtain ⟨x, H1, I1, r1, a, y, z, ex, hx, q⟩ := r
  subst ex
  cases r1
  have hst : PO X (some (.UnaryOp .USub (.Constant (.int 1) k p1) p2)) (tPart (tUn (rU fun i => .int (-i)) (tC (.int 1)))) := po_some (pe_un un_neg pe_int)
  refine wpAny_Slice (thn (po_none.run pins s1 σ H1 (fun o H2 => o = none ∧ H2 = H1) I1 ⟨rfl, rfl⟩) fun vl s2 ⟨l, H2, I2, pl, el, e2⟩ => ?_)
  subst el e2
  refine thn (po_none.run pins s2 σ H2 (fun o H3 => o = none ∧ H3 = H2) I2 ⟨rfl, rfl⟩) fun vu s3 ⟨u, H3, I3, pu, eu, e3⟩ => ?_
  subst eu e3
  refine thn (hst.run pins s3 σ H3 (fun o H4 => o = some (-1) ∧ H4 = H3) I3 ⟨1, rfl, -1, rfl, rfl, rfl⟩) fun vs s4 ⟨o, H4, I4, ps, eo, e4⟩ => ?_
  subst eo e4
  cases pl
  cases pu
  have I5 : Inv X pins σ H4 { s4 with heap := s4.heap.push { cls := .type "slice", data := .fields #[.none, .none, vs] } } := I4.kept (t' := s4.toks) fun b ob q => Heap.get?_push_of_some _ q
  obtain ⟨its, r, ht, hz⟩ := I5.tuple hx
  obtain ⟨w1, w2, ei, r1, r2⟩ := vals2 r
  subst ei
  show wpAny (model X.prog X.w) X.A (subscriptTail e (.Slice none none (some (.UnaryOp .USub (.Constant (.int 1) k p1) p2)) p3) (.ref a) (.ref s4.heap.objs.size)) (EP X pins σ Q) X.xe _
  refine tail_any (ops := [.ref a, .ref s4.heap.objs.size]) ht.typeIs PyProof.Rows.slot_tuple_getitem.lookup ?_ (by with_unfolding_all rfl)
  refine item_rev2 ht (Heap.IsSliceOf.new _ .none .none vs) ps ?_
  refine ⟨.ref _, _, I5.laid (t' := s4.toks) (o := .tup [z, y]) (fun b ob q => Heap.get?_push_of_some _ q) (Nat.le_refl _) ?_, rfl, q _ (I5.hok.fresh (Nat.le_refl _))⟩
  exact ⟨by show 2 ≤ sizeLine; decide, [w2, w1], .cons r2 (.cons r1 .nil), IsTup.new _ _⟩
end Pc
namespace Pc
open PySem PySem.Spec PyProof.Rows L2 RZ
/-! ### defs that run where no repr is under way (repr asks for that) -/
structure FnG (P : Program) (w : World) (K : PySem.W.Frag) (mg : Str → Option Value) (base : Heap) (CX : CXT) (k : Nat) (f : Addr) (fd : FuncData) (ps : List Str) (sp : Sp) : Prop where
  len : ∀ vs H Q E, sp vs H Q E → vs.length = ps.length
  run : ∀ (A : Around) (outer : List PySem.Env) (s : Shared) (H : Hp) (args : Args) (us : List Value) (vs : List V) (Q : VK) (E : XK), Room k A → A.guards = some [] → Env0 P w K mg base A outer s H →
    BindsTo s fd args (ps.zip us) → Vals vs us → sp vs H Q E → codeAny (model P w) A (.call (.ref f) args) (CR CX outer P w H s Q E) s
section
variable {P : Program} {w : World} {K : PySem.W.Frag} {mg : Str → Option Value} {base : Heap}
theorem fun_g {x qual : Str} {st : Stmt} {f : Addr} {fd : FuncData} {N ps : List Str} {k : Nat} {sp : Sp} (F : Fun K x qual st f fd) (S : FnScope N ps (defScope st)) (len : ∀ vs H Q E, sp vs H Q E → vs.length = ps.length)
    (hbody : ∀ (cdv : Value) (A : Around) (outer : List PySem.Env) (s : Shared) (H : Hp) (vs : List V) (Q : VK) (E : XK), Room k (A.deeper (envOfC qual (defScope st) s.heap.objs.size f cdv)) → A.guards = some [] → sp vs H Q E →
      ∃ t, PSs (cxOf CX0 P w K mg base N qual (defScope st) f cdv A outer s H E).nox (defBody st) t ∧ t { nx := fun _ H' => Q .non H', rt := Q } (start N vs) H) : FnG P w K mg base CX0 (k + 1) f fd ps sp := by
  obtain ⟨oc, od, kV, doc, pm, an, cdv, ct, osl, rfl, lk, hcd⟩ := F.ex
  constructor
  · exact len
  intro A outer s H args us vs Q E hr hgd e0 hb r hsp
  have hl := len _ _ _ _ hsp
  have up : ∀ b o, base.get? b = some o → s.heap.get? b = some o := fun b o e => (e0.bs b o e).1
  have KX : K.In s.heap := e0.mod.kin.keeps up
  have lim : s.heap.NoLimit := e0.mod.nolimit.keeps up
  obtain ⟨t, ht, hq⟩ := hbody cdv A outer s H vs Q E (hr.deeper _) hgd hsp
  refine codeAny_call_function hr.depth (KX _ _ lk) rfl S.co S.gen rfl (PySem.W.codeRec_of KX hcd) (hb _ _ _ _ ?_)
  refine wpAny_newFunctionEnv_cells S.kind ?_ ?_
  · rintro ⟨n, v⟩ hy
    rcases S.par n (List.of_mem_zip hy).1 with z | z
    · exact Or.inl z
    · exact Or.inr ⟨z, PySem.W.cellsFrom_some _ _ _ (Or.inl z)⟩
  intro env he s1 x
  subst he
  refine ⟨lim.keeps x.toInCall.keep, codeAny_func ?_⟩
  have I := inv_start (CX := CX0) (E := E) S hr.hd e0 hl r x
  refine wpAny_mono (ht.nox.run [] s1 (start N vs) H _ I hq) ?_ (fun _ _ z => z)
  intro fl s' hs
  cases fl with
  | brk => obtain ⟨_, _, _, z⟩ := hs; exact z.elim
  | cont => obtain ⟨_, _, _, z⟩ := hs; exact z.elim
  | next =>
    obtain ⟨σ', H', J, z⟩ := hs
    exact ⟨V.non, H', J.os, J.bare, J.base, J.hok, rfl, z⟩
  | ret u =>
    obtain ⟨v, σ', H', J, rv, z⟩ := hs
    exact ⟨v, H', J.os, J.bare, J.base, J.hok, rv, z⟩
end
section
variable {X : Cx} {CX : CXT} {k : Nat} {f : Addr} {fd : FuncData} {ps : List Str} {sp : Sp} {x : Str} {e : Expr} {es : List Expr} {ds : List Value} {dvs : List V} {E : XK} {t : TA} {p pos : Pos}
theorem pe_callG (F : FnG X.prog X.w X.K X.mg X.base CX k f fd ps sp) (hr : Room k X.A) (hgd : X.A.guards = some []) (hg : Gl X x) (hm : X.mg x = some (.ref f)) (hk : PySem.W.keepIn X.K (.ref f) = true) (hb : Binds X.K fd ps ds) (hd : Vals dvs ds) (hx : Passes CX X E)
    (ha : PA X (e :: es) t) (hdb : (x == ("__debug__" : Str)) = false := by decide) (he : starEach (e :: es) X.env = (false, eval e X.env) :: starEach es X.env := by rfl) (hpl : (backTo pos (starEach es X.env)).any (·.1) = false := by rfl) :
    PE X (.Call (.Name x p) (e :: es) [] pos) (tCall sp dvs E t) := by
  constructor
  intro pins s σ H Q I h
  refine wpAny_Call_Name_kw (ld_glob I hg hm ?_ hdb)
  refine PySem.W.callWith_K (h₀ := X.base) I.ok.mod.kin hk (thn (ha.run pos pins s σ H _ I h) ?_) he hpl
  rintro us s1 ⟨vs, H1, I1, r, q⟩
  refine ⟨I1.kIn, ?_⟩
  have r2 : Vals (vs ++ dvs) (us ++ ds) := r.append hd
  have hl : (us ++ ds).length = ps.length := by
    rw [← r2.length]
    exact F.len _ _ _ _ q
  refine wpAny_call (codeAny_mono (F.run X.A X.stack s1 H1 ⟨us, []⟩ (us ++ ds) (vs ++ dvs) Q E hr hgd I1.env0 (hb s1 us I1.kIn hl) r2 q) ?_)
  intro res s' hq
  cases res with
  | error e => exact hx pins σ H1 s1 e s' I1 hq
  | ok fl =>
    cases fl with
    | ret u => exact I1.after hq
    | next => exact hq.elim
    | brk => exact hq.elim
    | cont => exact hq.elim
end
/-! ### the law's own call, where no repr is under way -/
theorem law_g {P : Program} {w : World} {K : PySem.W.Frag} {mg mb : Str → Option Value} {CX : CXT} {k : Nat} {fa a : Addr} {fd : FuncData} {x : Str} {sp : Sp} {s₁ : Shared} {vs : List Value} {ns : List Int}
    (KX : K.In s₁.heap) (hns : s₁.heap.Ns mainGlobals mg) (hb : s₁.heap.Ns builtinsNs mb) (hbb : ∀ x : Str, x ≠ "__name__" → mb x = bootBuiltins x) (hlim : s₁.heap.NoLimit) (hg : s₁.gens = #[])
    (ha : s₁.heap.get? a = some { cls := .type "list", data := .seq vs.toArray }) (hi : IntsAre vs ns) (hl : ns.length ≤ sizeLine) (hr : Room k callerA)
    (F : ∀ base : Heap, K.In base → base.Ns mainGlobals mg → FnG P w K mg base CX k fa fd [x] sp) (hbind : ∀ (s : Shared) (u : Value), BindsTo s fd ⟨[u], []⟩ [(x, u)])
    (hsp : ∀ H : Hp, SqL K H a (ns.map V.int) → sp [.ref a] H (fun v _ => v = .bl true) fun _ _ _ => False)
    (hCX : ∀ H e s', CX [] H s₁ (fun _ _ _ => False) e s' → False) :
    codeAny (model P w) callerA (.call (.ref fa) ⟨[.ref a], []⟩) (fun r s' => r = .ok (.ret (.bool true)) ∧ OldK s₁.heap s'.heap ∧ s'.os = s₁.os ∧ AllBare s'.gens) s₁ := by
  have rv := vals_ints hi
  have len0 := hi.length
  let lo : Obj := { cls := .type "list", data := .seq vs.toArray }
  have main : ∀ H : Hp, SqL K H a (ns.map V.int) → HOk P w H s₁.heap → (∀ b u, H b = some u → b = a ∧ u = .frz lo (.lst (ns.map V.int)) ∧ K.lookup a = none) →
      codeAny (model P w) callerA (.call (.ref fa) ⟨[.ref a], []⟩) (fun r s' => r = .ok (.ret (.bool true)) ∧ OldK s₁.heap s'.heap ∧ s'.os = s₁.os ∧ AllBare s'.gens) s₁ := by
    intro H hS hok hA
    have free : ∀ {b : Addr} {o : Obj}, s₁.heap.get? b = some o → (∀ n, o.data ≠ .seq vs.toArray n) → H b = none := by
      intro b o e d
      cases z : H b with
      | none => rfl
      | some u =>
        obtain ⟨rfl, _⟩ := hA b u z
        rw [ha] at e
        cases e
        exact absurd rfl (d _)
    have nsK : ∀ {b : Addr} {m : Str → Option Value}, s₁.heap.Ns b m → (hidT s₁.heap H).Ns b m := by
      rintro b m ⟨o, es, ep, e, d, r⟩
      exact ⟨o, es, ep, hidT_get e (free e fun n => by rw [d]; exact fun z => nomatch z), d, r⟩
    have hKb : K.In (hidT s₁.heap H) := by
      intro b o e
      refine hidT_get (KX b o e) ?_
      cases z : H b with
      | none => rfl
      | some u =>
        obtain ⟨rfl, _, hn⟩ := hA b u z
        rw [hn] at e
        cases e
    obtain ⟨mc, l1, l2⟩ := hlim
    have e0 : Env0 P w K mg (hidT s₁.heap H) callerA [] s₁ H :=
      { frames := rfl, mod := ⟨hKb, nsK hns, ⟨mb, nsK hb, hbb⟩, ⟨mc, nsK l1, l2⟩⟩, bs := fun b o e => of_hidT e, bsz := Nat.le_of_eq (hidT_size _ _), funs := trivial, frf := fun b hb => absurd (show b ∈ ([] : List Addr) from hb) (by simp), hok := hok, bare := .of_eq hg }
    have R := (F _ hKb (nsK hns)).run callerA [] s₁ H ⟨[.ref a], []⟩ [.ref a] [.ref a] _ _ hr rfl e0 (hbind s₁ (.ref a)) (.cons rfl .nil) (hsp H hS)
    refine codeAny_mono R ?_
    intro res s' h
    cases res with
    | error e => exact (hCX H e s' h).elim
    | ok fl =>
      cases fl with
      | next => exact h.elim
      | brk => exact h.elim
      | cont => exact h.elim
      | ret u =>
        obtain ⟨v, H', os, bare, un, hok', r', q⟩ := h
        have q' : v = .bl true := q
        subst q'
        obtain rfl : u = Value.bool true := r'
        refine ⟨rfl, OldK.of_keep ?_, os, bare⟩
        intro b o e
        cases z : H b with
        | none => exact un.keep b o e z (fun y => absurd (show b ∈ ([] : List Addr) from y) (by simp)) (by simp)
        | some u =>
          obtain ⟨rfl, rfl, _⟩ := hA b u z
          obtain ⟨g1, _⟩ := hok _ _ z
          obtain ⟨g2, _⟩ := hok' _ _ (un.frzs _ lo _ z)
          rw [e] at g1
          cases g1
          exact g2
  cases hk : K.lookup a with
  | some o =>
    have e := KX a o hk
    rw [ha] at e
    cases e
    refine main (fun _ => none) ?_ (fun b u z => nomatch z) (fun b u z => nomatch z)
    exact Or.inr ⟨_, vs.toArray, _, hk, rfl, rfl, rfl, by rw [List.size_toArray, len0]; exact hl, by simpa using rv⟩
  | none =>
    have sp1 : ∀ b u, (upd (fun _ => none) a (.frz lo (.lst (ns.map V.int)))) b = some u → b = a ∧ u = .frz lo (.lst (ns.map V.int)) ∧ K.lookup a = none := by
      intro b u z
      by_cases hba : b = a
      · subst hba
        rw [upd_same] at z
        exact ⟨rfl, (Option.some.inj z).symm, hk⟩
      · rw [upd_ne hba] at z
        cases z
    refine main (upd (fun _ => none) a (.frz lo (.lst (ns.map V.int)))) (Or.inl (Or.inr ⟨lo, upd_same⟩)) ?_ sp1
    intro b u z
    obtain ⟨rfl, rfl, _⟩ := sp1 b u z
    exact ⟨ha, by rw [List.length_map]; exact hl, vs, _, rv, ha⟩
theorem walk_g {l : PySem.W.OpenLaw} {n k : Nat} {q : Program} {loose : List Str} {XP : (Str → Option Value) → Heap → Prop} {YP : World → Heap → Prop} {d : DefRec} {K : Params → PySem.W.Frag} {sp : World → Sp} {x : Str}
    (hn : l.most = some n) (hn2 : n ≤ sizeLine) (hdf : d.params.defaults = []) (hr : Room k callerA) (hY : ∀ (w : World) (h : Heap), YP w h → (K w.params).In h)
    (F : ∀ (w : World) (mg : Str → Option Value) (fa : Addr) (h : Heap), (K w.params).In h → h.Ns mainGlobals mg → mg d.name = some (.ref fa) →
      ∃ fd : FuncData, (∀ (s : Shared) (u : Value), BindsTo s fd ⟨[u], []⟩ [(x, u)]) ∧ ∀ base : Heap, (K w.params).In base → base.Ns mainGlobals mg → FnG l.prog w (K w.params) mg base CX0 k fa fd [x] (sp w))
    (hsp : ∀ (w : World) (H : Hp) (a : Addr) (ns : List Int), ns.length ≤ n → SqL (K w.params) H a (ns.map V.int) → sp w [.ref a] H (fun v _ => v = .bl true) fun _ _ _ => False) :
    PySem.W.WalkO q loose XP YP l.row.toRowW d [] (fun f vs => PySem.call f vs) := by
  refine Att.attach_call hn hdf ?_
  intro w s₀ s₁ mg mb fa o pm cd doc a vs ns G Y ho hd hcd hmg hobj hints hlen hg
  obtain ⟨fd, hb, hF⟩ := F w mg fa _ (hY w _ Y) G.T.g hmg
  exact law_g (hY w _ Y) G.T.g G.T.b G.T.builtins G.T.nolimit hg hobj hints (Nat.le_trans hlen hn2) hr hF hb (fun H hS => hsp w H a ns hlen hS) fun _ _ _ z => z
/-! ### repr of data -/
theorem call_reprD {X : Cx} (hgd : X.A.guards = some []) (hu : X.A.units + 64 < cLine) : CallR X (.builtin "repr") (fun xs H Q => ∃ (a : Addr) (d : PyData), xs = [.ref a] ∧ Dp X.K H (.ref a) d ∧ d.canLay0 = true ∧ d.showable = true ∧ d.depth ≤ 60 ∧ d.shown.length ≤ sizeLine ∧ Q (.str d.shown) H) := by
  intro pins s σ H xs us Q I r h
  obtain ⟨a, d, rfl, hd, hl, hs, hdp, hz, q⟩ := h
  obtain ⟨u, rfl, ru⟩ := vals1 r
  cases ru
  obtain ⟨as, rd⟩ := Dp.reads I d (.ref a) (.ref a) hd rfl
  refine repr_of_reads' rd hs (PyData.noDict_hsm (PyData.hasDict_of_canLay d hl)) hgd (by omega) (fun _ _ e => e) ?_ hz
  intro h' u tk hk
  exact ⟨.str d.shown, H, I.kept (t' := tk) hk, ⟨u, rfl⟩, q⟩
end Pc
namespace Pc
open PySem PySem.Spec PyProof.Rows L2 RZ
/-! ### data of small size: its depth is at most k, its text has at most m signs -/
structure Fine (k m : Nat) (d : PyData) : Prop where
  lay : d.canLay0 = true
  show_ : d.showable = true
  depth : d.depth ≤ k
  nar : narrow d
  len : d.shown.length ≤ m
theorem Fine.mono {k m k' m' : Nat} {d : PyData} (h : Fine k m d) (hk : k ≤ k') (hm : m ≤ m') : Fine k' m' d := ⟨h.lay, h.show_, Nat.le_trans h.depth hk, h.nar, Nat.le_trans h.len hm⟩
theorem Fine.shaped {k m : Nat} {d : PyData} (h : Fine k m d) (hk : k ≤ 64) : SeqAt.shaped d = true := by
  unfold SeqAt.shaped
  rw [Bool.and_eq_true]
  exact ⟨h.lay, decide_eq_true (Nat.le_trans h.depth hk)⟩
theorem str_len (t : String) : (Str.ofString t).length = t.length := by
  rw [Str.ofString_eq_toList]
  show (t.toList.map Char.toNat).toArray.size = t.length
  rw [List.size_toArray, List.length_map, String.length_toList]
theorem log_lt {i : Int} {k : Nat} (h : i.natAbs < 2 ^ k) (hk : 0 < k) : i.natAbs.log2 < k := by
  by_cases h0 : i.natAbs = 0
  · rw [h0]; exact hk
  · exact (Nat.log2_lt h0).mpr h
theorem fine_int {i : Int} (h : i.natAbs < 2 ^ 60) : Fine 0 61 (.int i) := by
  have hl := log_lt h (by decide)
  refine ⟨rfl, decide_eq_true (Nat.lt_of_lt_of_le hl (by decide)), Nat.le_refl _, trivial, ?_⟩
  show (Str.ofString (toString i)).length ≤ 61
  rw [str_len]
  exact int_text_length_le (by decide) hl
theorem fine_nat {i : Nat} (h : i < 2 ^ 60) : Fine 0 61 (.int (i : Int)) := fine_int (by rw [Int.natAbs_natCast]; exact h)
theorem all_lay {ds : List PyData} (h : ∀ d ∈ ds, d.canLay0 = true) : PyData.canLayAll0 ds = true := by
  induction ds with
  | nil => rfl
  | cons d r ih =>
    show (d.canLay0 && PyData.canLayAll0 r) = true
    rw [h d List.mem_cons_self, ih fun x hx => h x (List.mem_cons_of_mem _ hx)]; rfl
theorem all_showable {ds : List PyData} (h : ∀ d ∈ ds, d.showable = true) : PyData.showableAll ds = true := by
  induction ds with
  | nil => rfl
  | cons d r ih =>
    show (d.showable && PyData.showableAll r) = true
    rw [h d List.mem_cons_self, ih fun x hx => h x (List.mem_cons_of_mem _ hx)]; rfl
theorem all_depth {ds : List PyData} {k : Nat} (h : ∀ d ∈ ds, d.depth ≤ k) : PyData.depthAll ds ≤ k := by
  induction ds with
  | nil => exact Nat.zero_le _
  | cons d r ih => exact Nat.max_le.mpr ⟨h d List.mem_cons_self, ih fun x hx => h x (List.mem_cons_of_mem _ hx)⟩
theorem all_shown {ds : List PyData} {m : Nat} (h : ∀ d ∈ ds, d.shown.length ≤ m) : ((PyData.shownAll ds).map (·.length)).sum ≤ ds.length * m ∧ (PyData.shownAll ds).length = ds.length := by
  induction ds with
  | nil => exact ⟨Nat.zero_le _, rfl⟩
  | cons d r ih =>
    obtain ⟨h1, h2⟩ := ih fun x hx => h x (List.mem_cons_of_mem _ hx)
    have h3 := h d List.mem_cons_self
    refine ⟨?_, congrArg (· + 1) h2⟩
    show ((d.shown :: PyData.shownAll r).map (·.length)).sum ≤ (r.length + 1) * m
    rw [List.map_cons, List.sum_cons, Nat.add_mul, Nat.one_mul]
    omega
theorem fine_list {ds : List PyData} {k m n : Nat} (h : ∀ d ∈ ds, Fine k m d) (hn : ds.length ≤ n) (hb : n ≤ 100000) : Fine (k + 1) (n * (m + 2) + 3) (.list ds) := by
  refine ⟨all_lay fun d hd => (h d hd).lay, all_showable fun d hd => (h d hd).show_, Nat.succ_le_succ (all_depth fun d hd => (h d hd).depth), ⟨Nat.le_trans hn hb, narrow_of fun d hd => (h d hd).nar⟩, ?_⟩
  obtain ⟨h1, h2⟩ := all_shown fun d hd => (h d hd).len
  have h3 := listText_len_le (PyData.shownAll ds)
  have h4 : ds.length * m ≤ n * m := Nat.mul_le_mul_right _ hn
  show (listText (PyData.shownAll ds)).length ≤ _
  rw [Nat.mul_add]
  omega
theorem fine_tuple {ds : List PyData} {k m n : Nat} (h : ∀ d ∈ ds, Fine k m d) (hn : ds.length ≤ n) (hb : n ≤ 100000) : Fine (k + 1) (n * (m + 2) + 3) (.tuple ds) := by
  refine ⟨all_lay fun d hd => (h d hd).lay, all_showable fun d hd => (h d hd).show_, Nat.succ_le_succ (all_depth fun d hd => (h d hd).depth), ⟨Nat.le_trans hn hb, narrow_of fun d hd => (h d hd).nar⟩, ?_⟩
  obtain ⟨h1, h2⟩ := all_shown fun d hd => (h d hd).len
  have h3 := tupleText_len_le (PyData.shownAll ds)
  have h4 : ds.length * m ≤ n * m := Nat.mul_le_mul_right _ hn
  show (tupleText (PyData.shownAll ds)).length ≤ _
  rw [Nat.mul_add]
  omega
/-- numbers as data -/
def nd (l : List Nat) : List PyData := l.map fun (i : Nat) => PyData.int (i : Int)
theorem nd_length (l : List Nat) : (nd l).length = l.length := List.length_map _
theorem dp_nats {K : PySem.W.Frag} {H : Hp} : ∀ l : List Nat, DpAll K H (nv l) (nd l)
  | [] => .nil
  | i :: r => .cons (.int i) (dp_nats r)
theorem fine_nd {l : List Nat} (h : ∀ i ∈ l, i < 2 ^ 60) : ∀ d ∈ nd l, Fine 0 61 d := fun d hd => by
  obtain ⟨i, hi, rfl⟩ := List.mem_map.mp hd
  exact fine_nat (h i hi)
/-- a tuple of numbers -/
theorem fine_tup {l : List Nat} {n : Nat} (h : ∀ i ∈ l, i < 2 ^ 60) (hn : l.length ≤ n) (hb : n ≤ 100000) : Fine 1 (n * 63 + 3) (.tuple (nd l)) := fine_tuple (fine_nd h) (by rw [nd_length]; exact hn) hb
/-! ### lists of pairs of numbers -/
/-- at the places as stand the pairs ps -/
def Prs (H : Hp) (as : List Addr) (ps : List (Nat × Nat)) : Prop := Paired (fun a (p : Nat × Nat) => H a = some (.tup [.int p.1, .int p.2])) as ps
theorem Prs.length {H : Hp} {as : List Addr} {ps : List (Nat × Nat)} (h : Prs H as ps) : as.length = ps.length := Paired.length h
theorem prs_same {H H' : Hp} (e : Same H H') : ∀ {as : List Addr} {ps : List (Nat × Nat)}, Prs H as ps → Prs H' as ps
  | _, _, .nil => .nil
  | _, _, .cons h r => .cons (e _ _ h) (prs_same e r)
theorem prs_keep {b : Addr} {H H' : Hp} {ys : List V} (k : Keep b H H') (hb : H b = some (.lst ys)) : ∀ {as : List Addr} {ps : List (Nat × Nat)}, Prs H as ps → Prs H' as ps
  | _, _, .nil => .nil
  | _, _, .cons h r => .cons (k.tup hb h) (prs_keep k hb r)
theorem prs_get {H : Hp} : ∀ {as : List Addr} {ps : List (Nat × Nat)} {i : Nat} {a : Addr}, Prs H as ps → as[i]? = some a → ∃ p, ps[i]? = some p ∧ H a = some (.tup [.int p.1, .int p.2])
  | _, _, _, _, .nil, h => by simp at h
  | _, _, 0, _, .cons (b := p) h _, e => by
    cases Option.some.inj e
    exact ⟨p, rfl, h⟩
  | _, _, i + 1, a, .cons _ r, e => prs_get (i := i) r e
theorem prs_append {H : Hp} : ∀ {as bs : List Addr} {ps qs : List (Nat × Nat)}, Prs H as ps → Prs H bs qs → Prs H (as ++ bs) (ps ++ qs)
  | _, _, _, _, .nil, s => s
  | _, _, _, _, .cons h r, s => .cons h (prs_append r s)
def pd (p : Nat × Nat) : PyData := .tuple [.int (p.1 : Int), .int (p.2 : Int)]
theorem prs_dp {K : PySem.W.Frag} {H : Hp} : ∀ {as : List Addr} {ps : List (Nat × Nat)}, Prs H as ps → DpAll K H (as.map V.ref) (ps.map pd)
  | _, _, .nil => .nil
  | _, _, .cons h r => .cons (.tup (.inl (.inl h)) (.cons (.int _) (.cons (.int _) .nil))) (prs_dp r)
theorem fine_pd {p : Nat × Nat} (h1 : p.1 < 2 ^ 60) (h2 : p.2 < 2 ^ 60) : Fine 1 129 (pd p) := fine_tuple (n := 2) (fun d hd => by
  rcases List.mem_cons.mp hd with z | z
  · rw [z]; exact fine_nat h1
  · rw [List.mem_singleton.mp z]; exact fine_nat h2) (Nat.le_refl _) (by decide)
/-- a list of pairs -/
theorem fine_pds {ps : List (Nat × Nat)} {n : Nat} (h : ∀ p ∈ ps, p.1 < 2 ^ 60 ∧ p.2 < 2 ^ 60) (hn : ps.length ≤ n) (hb : n ≤ 100000) : Fine 2 (n * 131 + 3) (.list (ps.map pd)) :=
  fine_list (fun d hd => by
    obtain ⟨p, hp, rfl⟩ := List.mem_map.mp hd
    exact fine_pd (h p hp).1 (h p hp).2) (by rw [List.length_map]; exact hn) hb
end Pc
namespace Pc
open PySem PySem.Spec PyProof.Rows L2 RZ
/-! ### a list or a tuple: walked, unpacked -/
/-- a list or a tuple is read -/
def Sq (K : PySem.W.Frag) (H : Hp) (a : Addr) (xs : List V) : Prop := SqL K H a xs ∨ SqT K H a xs
theorem Sq.same {K : PySem.W.Frag} {H H' : Hp} {a : Addr} {xs : List V} (h : Sq K H a xs) (e : Same H H') : Sq K H' a xs := h.imp (fun z => e.seq z) (fun z => same_tup e z)
def iSeq (K : PySem.W.Frag) (tl : TE) : TI := fun σ H R => tl σ H fun x H1 => ∃ a, x = .ref a ∧ (((∃ xs, SqL K H1 a xs) ∧ R (Itl K a) H1) ∨ ((∃ xs, SqT K H1 a xs) ∧ R (Itt K a) H1))
section
variable {X : Cx}
theorem pi_seq {tg l : Expr} {tl : TE} (hl : PE X l tl) : PI X tg l (iSeq X.K tl) := by
  constructor
  intro pins s σ H R I h
  refine thn (hl.run pins s σ H _ I h) ?_
  rintro v s1 ⟨x, H1, I1, r1, a, ex, q⟩
  subst ex
  cases r1
  rcases q with ⟨⟨xs, hx⟩, q⟩ | ⟨⟨xs, hx⟩, q⟩
  · obtain ⟨its, _, p, _⟩ := I1.list hx
    refine wpAny_pyIter_list p.isList ?_
    exact pi_one (tk := s1.toks) I1 _ (turn_list _ _) ⟨_, Heap.get?_push_size _ rfl, rfl, rfl⟩ q
  · obtain ⟨its, _, p, _⟩ := I1.tuple hx
    refine wpAny_pyIter_tuple p ?_
    exact pi_one (tk := s1.toks) I1 _ (turn_tuple _ _) ⟨_, Heap.get?_push_size _ rfl, rfl, rfl⟩ q
/-- names unpacked from a tuple or a list -/
def gSeq (K : PySem.W.Frag) (n : Nat) (t : TGs) : TG := fun v σ H Q => ∃ a xs, v = .ref a ∧ Sq K H a xs ∧ xs.length = n ∧ t xs σ H Q
theorem pg_seq {es : List Expr} {k : Nat} {t : TGs} {n : Nat} {pos : Pos} (hc : X.calm = true) (h : PGs X es t)
    (hn : (assignEach es X.env).length = n := by rfl) (hst : (assignEach es X.env).findIdx? (·.1) = none := by rfl) : PG X (.Tuple es k pos) (gSeq X.K n t) := by
  constructor
  intro pins s σ H v u Q I r hw
  obtain ⟨a, xs, e, hq, hl, hw⟩ := hw
  rcases hq with hq | hq
  · exact (pg_unl (pos := pos) (k := k) hc h hn hst).run pins s σ H v u Q I r ⟨a, xs, e, hq, hl, hw⟩
  · exact (pg_tup (pos := pos) (k := k) hc h hn hst).run pins s σ H v u Q I r ⟨a, xs, e, hq, hl, hw⟩
/-! ### a call with keywords alone -/
def tKw (n : Nat) (sp : Sp) (gV : List V → List V) (E : XK) (tk : TA) : TE := fun σ H Q => tk σ H fun zs H1 => zs.length = n ∧ sp (gV zs) H1 Q E
theorem pe_kw {CX : CXT} {k : Nat} {f : Addr} {fd : FuncData} {ps ks : List Str} {sp : Sp} {E : XK} {x : Str} {p pos : Pos} {kws : List Keyword} {tk : TA} {g : List Value → List Value} {gV : List V → List V}
    (F : FnOk X.prog X.w X.K X.mg X.base CX k f fd ps sp) (hr : Room k X.A) (hg : Gl X x) (hm : X.mg x = some (.ref f)) (hk : PySem.W.keepIn X.K (.ref f) = true)
    (hb : ∀ (s : Shared) (ws : List Value), ws.length = ks.length → BindsTo s fd ⟨[], ks.zip ws⟩ (ps.zip (g ws))) (rel : ∀ {zs : List V} {ws : List Value}, zs.length = ks.length → Vals zs ws → Vals (gV zs) (g ws)) (hx : Passes CX X E) (hkw : PK X kws tk)
    (hall : (backToKw pos (keywordEach kws X.env)).all (·.1.isSome) = true := by rfl) (hks : (backToKw pos (keywordEach kws X.env)).filterMap (·.1) = ks := by rfl) (hdb : (x == ("__debug__" : Str)) = false := by decide)
    (hpl : ((backTo pos (starEach [] X.env)).any (·.1) || (backToKw pos (keywordEach kws X.env)).any (·.1.isNone)) = false := by rfl) :
    PE X (.Call (.Name x p) [] kws pos) (tKw ks.length sp gV E tk) := by
  constructor
  intro pins s σ H Q I h
  refine wpAny_Call_Name_kw (ld_glob I hg hm ?_ hdb)
  refine PySem.W.callWith_KW0 (h₀ := X.base) I.ok.mod.kin hk hall (thn (hkw.run pos pins s σ H _ I h) ?_) hpl
  rintro ws s2 ⟨zs, H2, I2, rz, hz, q⟩
  refine ⟨I2.kIn, ?_⟩
  rw [hks]
  refine wpAny_call (codeAny_mono (F.run X.A X.stack s2 H2 ⟨[], ks.zip ws⟩ (g ws) (gV zs) Q E hr I2.env0 (hb s2 ws (by rw [← rz.length, hz])) (rel hz rz) q) ?_)
  intro res s' hq
  cases res with
  | error e => exact hx pins σ H2 s2 e s' I2 hq
  | ok fl =>
    cases fl with
    | ret u => exact I2.after hq
    | next => exact hq.elim
    | brk => exact hq.elim
    | cont => exact hq.elim
end
theorem kw_to {K : PySem.W.Frag} {x qual : Str} {st : Stmt} {f : Addr} {fd : FuncData} {ps ks : List Str} {g : List Value → List Value} (F : Fun K x qual st f fd)
    (h : ∀ (kV doc pm : Value) (an : Option Addr) (cdv ct : Value) (ws : List Value), ws.length = ks.length → bindArgs (PySem.W.fnOf x qual (defArgs st) (defBody st) (defScope st) .none kV doc pm an cdv ct) ⟨[], ks.zip ws⟩ = pure (ps.zip (g ws))) :
    ∀ (s : Shared) (ws : List Value), ws.length = ks.length → BindsTo s fd ⟨[], ks.zip ws⟩ (ps.zip (g ws)) := by
  obtain ⟨oc, od, kV, doc, pm, an, cdv, ct, osl, rfl, lk, hcd⟩ := F.ex
  intro s ws hl
  exact .of_eq (h kV doc pm an cdv ct ws hl)
end Pc
namespace Pc
open PySem PySem.Spec PyProof.Rows L2 RZ
/-! ### the couples of a pairing -/
/-- the couples whose first person is below i -/
def cplN (ps : List Nat) (i : Nat) : List (Nat × Nat) := ((List.range i).filter fun x => decide (x < ps.getD x 0)).map fun x => (x, ps.getD x 0)
def cpl (ps : List Nat) : List (Nat × Nat) := cplN ps ps.length
theorem getD_of {ps : List Nat} {x y : Nat} (h : ps[x]? = some y) : ps.getD x 0 = y := by
  rw [List.getD_eq_getElem?_getD, h]; rfl
theorem cplN_yes {ps : List Nat} {i y : Nat} (h : ps[i]? = some y) (hl : i < y) : cplN ps (i + 1) = cplN ps i ++ [(i, y)] := by
  unfold cplN
  rw [List.range_succ, List.filter_append, List.map_append]
  congr 1
  rw [List.filter_cons_of_pos (by rw [getD_of h]; exact decide_eq_true hl), List.filter_nil, List.map_cons, List.map_nil, getD_of h]
theorem cplN_no {ps : List Nat} {i y : Nat} (h : ps[i]? = some y) (hl : ¬ i < y) : cplN ps (i + 1) = cplN ps i := by
  unfold cplN
  rw [List.range_succ, List.filter_append, List.map_append, List.filter_cons_of_neg (by rw [getD_of h]; simpa using hl), List.filter_nil, List.map_nil, List.append_nil]
theorem cplN_len (ps : List Nat) (i : Nat) : (cplN ps i).length ≤ i := by
  unfold cplN
  rw [List.length_map]
  exact Nat.le_trans (List.length_filter_le _ _) (by rw [List.length_range]; exact Nat.le_refl _)
theorem mem_cpl {n : Nat} {ps : List Nat} (h : IsPair n ps) {p : Nat × Nat} : p ∈ cpl ps ↔ ps[p.1]? = some p.2 ∧ p.1 < p.2 := by
  unfold cpl cplN
  rw [h.len]
  constructor
  · intro hp
    obtain ⟨x, hx, rfl⟩ := List.mem_map.mp hp
    obtain ⟨h1, h2⟩ := List.mem_filter.mp hx
    obtain ⟨y, e, _⟩ := h.par x (List.mem_range.mp h1)
    rw [getD_of e] at h2 ⊢
    exact ⟨e, of_decide_eq_true h2⟩
  · rintro ⟨e, hl⟩
    refine List.mem_map.mpr ⟨p.1, List.mem_filter.mpr ⟨List.mem_range.mpr ?_, ?_⟩, ?_⟩
    · rw [← h.len]; exact get_lt e
    · rw [getD_of e]; exact decide_eq_true hl
    · rw [getD_of e]
theorem IsPair.back {n : Nat} {ps : List Nat} (h : IsPair n ps) {x y : Nat} (e : ps[x]? = some y) : ps[y]? = some x ∧ y < n ∧ x < n ∧ y ≠ x := by
  have hx : x < n := by rw [← h.len]; exact get_lt e
  obtain ⟨z, e1, e2, e3, e4⟩ := h.par x hx
  cases Option.some.inj (e.symm.trans e1)
  exact ⟨e4, e2, hx, e3⟩
theorem cpl_cover {n : Nat} {ps : List Nat} (h : IsPair n ps) {z : Nat} (hz : z < n) : ∃ p ∈ cpl ps, p.1 = z ∨ p.2 = z := by
  obtain ⟨y, e1, e2, e3, e4⟩ := h.par z hz
  rcases Nat.lt_or_gt_of_ne e3 with l | l
  · exact ⟨(y, z), (mem_cpl h).mpr ⟨e4, l⟩, .inr rfl⟩
  · exact ⟨(z, y), (mem_cpl h).mpr ⟨e1, l⟩, .inl rfl⟩
theorem filter_split {α : Type} (f : α → Bool) : ∀ l : List α, (l.filter f).length + (l.filter fun x => !f x).length = l.length
  | [] => rfl
  | a :: r => by
    have ih := filter_split f r
    cases e : f a with
    | true => rw [List.filter_cons_of_pos e, List.filter_cons_of_neg (by rw [e]; decide), List.length_cons, List.length_cons]; omega
    | false => rw [List.filter_cons_of_neg (by rw [e]; decide), List.filter_cons_of_pos (by rw [e]; rfl), List.length_cons, List.length_cons]; omega
theorem cpl_half {n : Nat} {ps : List Nat} (h : IsPair n ps) : 2 * (cpl ps).length = n := by
  have e1 : (cpl ps).length = ((List.range n).filter fun x => decide (x < ps.getD x 0)).length := by
    unfold cpl cplN; rw [List.length_map, h.len]
  have inj : ∀ x y, x < n → y < n → ps.getD x 0 = ps.getD y 0 → x = y := fun x y hx hy e => by
    obtain ⟨u, a1, _, _, a4⟩ := h.par x hx
    obtain ⟨v, b1, _, _, b4⟩ := h.par y hy
    rw [getD_of a1, getD_of b1] at e
    subst e
    exact Option.some.inj (a4.symm.trans b4)
  have nd0 : (List.range n).Nodup := List.nodup_range
  have p1 : (((List.range n).filter fun x => decide (x < ps.getD x 0)).map fun x => ps.getD x 0).Perm ((List.range n).filter fun x => !decide (x < ps.getD x 0)) := by
    refine (List.perm_ext_iff_of_nodup ?_ (nd0.filter _)).mpr fun z => ?_
    · refine List.Pairwise.map _ (fun a b hab => hab) ?_
      refine List.Pairwise.imp_of_mem (fun {a b} ha hb hab => ?_) (nd0.filter fun x => decide (x < ps.getD x 0))
      exact fun e => hab (inj a b (List.mem_range.mp (List.mem_filter.mp ha).1) (List.mem_range.mp (List.mem_filter.mp hb).1) e)
    · constructor
      · intro hz
        obtain ⟨x, hx, rfl⟩ := List.mem_map.mp hz
        obtain ⟨h1, h2⟩ := List.mem_filter.mp hx
        obtain ⟨y, a1, a2, a3, a4⟩ := h.par x (List.mem_range.mp h1)
        rw [getD_of a1] at h2 ⊢
        have h3 := of_decide_eq_true h2
        refine List.mem_filter.mpr ⟨List.mem_range.mpr a2, ?_⟩
        rw [getD_of a4, decide_eq_false (by omega)]; rfl
      · intro hz
        obtain ⟨h1, h2⟩ := List.mem_filter.mp hz
        obtain ⟨y, a1, a2, a3, a4⟩ := h.par z (List.mem_range.mp h1)
        rw [getD_of a1] at h2
        have h3 : ¬ z < y := by simpa using h2
        refine List.mem_map.mpr ⟨y, List.mem_filter.mpr ⟨List.mem_range.mpr a2, ?_⟩, getD_of a4⟩
        rw [getD_of a4]
        exact decide_eq_true (by omega)
  have e2 := p1.length_eq
  rw [List.length_map] at e2
  have e3 := filter_split (fun x => decide (x < ps.getD x 0)) (List.range n)
  rw [List.length_range] at e3
  omega
/-- what pairs must be so that they make the pairing ps -/
structure Makes (qs : List (Nat × Nat)) (ps : List Nat) : Prop where
  half : 2 * qs.length = ps.length
  ok : ∀ p ∈ qs, ps[p.1]? = some p.2 ∧ ps[p.2]? = some p.1
  all : ∀ z, z < ps.length → ∃ p ∈ qs, p.1 = z ∨ p.2 = z
theorem makes_cpl {n : Nat} {ps : List Nat} (h : IsPair n ps) : Makes (cpl ps) ps where
  half := by rw [cpl_half h, h.len]
  ok p hp := by
    obtain ⟨e, _⟩ := (mem_cpl h).mp hp
    exact ⟨e, (h.back e).1⟩
  all z hz := cpl_cover h (by rw [← h.len]; exact hz)
/-- the pairs of qs in any order, turned or not -/
theorem Makes.turned {qs rs : List (Nat × Nat)} {ps : List Nat} (h : Makes qs ps) (hl : rs.length = qs.length) (h1 : ∀ p ∈ rs, p ∈ qs ∨ (p.2, p.1) ∈ qs) (h2 : ∀ p ∈ qs, p ∈ rs ∨ (p.2, p.1) ∈ rs) : Makes rs ps where
  half := by rw [hl]; exact h.half
  ok p hp := by
    rcases h1 p hp with z | z
    · exact h.ok p z
    · obtain ⟨a, b⟩ := h.ok _ z
      exact ⟨b, a⟩
  all z hz := by
    obtain ⟨p, hp, e⟩ := h.all z hz
    rcases h2 p hp with q | q
    · exact ⟨p, q, e⟩
    · exact ⟨_, q, e.symm⟩
def CInv (ps : List Nat) (qs : List (Nat × Nat)) (fs : List Nat) (i : Nat) : Prop := fs.length = ps.length ∧ ∀ j, j < i → ∀ p, qs[j]? = some p → fs[p.1]? = ps[p.1]? ∧ fs[p.2]? = ps[p.2]?
theorem set_keeps {ps fs : List Nat} {x y z : Nat} (hy : ps[x]? = some y) (hx : x < fs.length) (h : fs[z]? = ps[z]?) : (fs.set x y)[z]? = ps[z]? := by
  by_cases e : x = z
  · subst e
    rw [List.getElem?_set_self hx, hy]
  · rw [List.getElem?_set_ne e]; exact h
theorem CInv.step {ps fs : List Nat} {qs : List (Nat × Nat)} {i : Nat} {p : Nat × Nat} (m : Makes qs ps) (h : CInv ps qs fs i) (hp : qs[i]? = some p) : CInv ps qs ((fs.set p.1 p.2).set p.2 p.1) (i + 1) := by
  obtain ⟨hl, hj⟩ := h
  obtain ⟨o1, o2⟩ := m.ok p (List.mem_of_getElem? hp)
  have l1 : p.1 < fs.length := by rw [hl]; exact get_lt o1
  have l2 : p.2 < (fs.set p.1 p.2).length := by rw [List.length_set, hl]; exact get_lt o2
  refine ⟨by rw [List.length_set, List.length_set, hl], fun j hj2 r hr => ?_⟩
  by_cases e : j = i
  · subst e
    cases Option.some.inj (hp.symm.trans hr)
    refine ⟨set_keeps o2 l2 ?_, ?_⟩
    · rw [List.getElem?_set_self l1, o1]
    · rw [List.getElem?_set_self l2, o2]
  · obtain ⟨a, b⟩ := hj j (by omega) r hr
    exact ⟨set_keeps o2 l2 (set_keeps o1 l1 a), set_keeps o2 l2 (set_keeps o1 l1 b)⟩
theorem CInv.done {ps fs : List Nat} {qs : List (Nat × Nat)} (m : Makes qs ps) (h : CInv ps qs fs qs.length) : fs = ps := by
  refine List.ext_getElem? fun z => ?_
  by_cases hz : z < ps.length
  · obtain ⟨p, hp, e⟩ := m.all z hz
    obtain ⟨i, hi, ei⟩ := List.mem_iff_getElem.mp hp
    obtain ⟨a, b⟩ := h.2 i hi p (by rw [List.getElem?_eq_getElem hi, ei])
    rcases e with e | e
    · rw [← e]; exact a
    · rw [← e]; exact b
  · rw [List.getElem?_eq_none (by rw [h.1]; omega), List.getElem?_eq_none (by omega)]
end Pc
namespace Pc
open PySem PySem.Spec PyProof.Rows L2 RZ
section
variable {K : PySem.W.Frag}
/-- the values us are the pairs qs, each a tuple or a list -/
def Items (K : PySem.W.Frag) (H : Hp) (us : List V) (qs : List (Nat × Nat)) : Prop := us.length = qs.length ∧ ∀ (i : Nat) (v : V), us[i]? = some v → ∃ (c : Addr) (p : Nat × Nat), v = .ref c ∧ qs[i]? = some p ∧ Sq K H c [.int p.1, .int p.2]
theorem Items.same {H H' : Hp} {us : List V} {qs : List (Nat × Nat)} (h : Items K H us qs) (e : Same H H') : Items K H' us qs := ⟨h.1, fun i v hv => by
  obtain ⟨c, p, h1, h2, h3⟩ := h.2 i v hv
  exact ⟨c, p, h1, h2, h3.same e⟩⟩
theorem items_of {H : Hp} {as : List Addr} {qs : List (Nat × Nat)} (h : Prs H as qs) : Items K H (as.map V.ref) qs := ⟨by rw [List.length_map]; exact h.length, fun i v hv => by
  rw [List.getElem?_map] at hv
  cases e : as[i]? with
  | none => rw [e] at hv; cases hv
  | some c =>
    rw [e] at hv
    obtain ⟨p, h1, h2⟩ := prs_get h e
    exact ⟨c, p, (Option.some.inj hv).symm, h1, .inr (.inl (.inl h2))⟩⟩
end
end Pc
namespace Pc
open PySem PySem.Spec PyProof.Rows L2 RZ
theorem paired_perm {α β : Type} {R : α → β → Prop} {as bs : List α} (h : as.Perm bs) : ∀ ps : List β, Paired R as ps → ∃ qs : List β, qs.Perm ps ∧ Paired R bs qs := by
  induction h with
  | nil => exact fun ps h => ⟨ps, List.Perm.refl _, h⟩
  | cons x _ ih =>
    intro ps h
    cases h with
    | cons r t =>
      obtain ⟨qs, h1, h2⟩ := ih _ t
      exact ⟨_ :: qs, h1.cons _, .cons r h2⟩
  | swap x y l =>
    intro ps h
    cases h with
    | cons r t =>
      cases t with
      | cons r2 t2 => exact ⟨_, List.Perm.swap _ _ _, .cons r2 (.cons r t2)⟩
  | trans _ _ ih1 ih2 =>
    intro ps h
    obtain ⟨qs, h1, h2⟩ := ih1 ps h
    obtain ⟨rs, h3, h4⟩ := ih2 qs h2
    exact ⟨rs, h3.trans h1, h4⟩
/-- the same pairs, some turned -/
def Turned (qs rs : List (Nat × Nat)) : Prop := rs.length = qs.length ∧ ∀ (j : Nat) (p q : Nat × Nat), qs[j]? = some p → rs[j]? = some q → q = p ∨ q = (p.2, p.1)
theorem Turned.mem1 {qs rs : List (Nat × Nat)} (h : Turned qs rs) : ∀ p ∈ rs, p ∈ qs ∨ (p.2, p.1) ∈ qs := fun p hp => by
  obtain ⟨j, hj, e⟩ := List.mem_iff_getElem.mp hp
  obtain ⟨q, hq⟩ := get_some (l := qs) (i := j) (by rw [← h.1]; exact hj)
  rcases h.2 j q p hq (by rw [List.getElem?_eq_getElem hj, e]) with z | z
  · exact .inl (z ▸ List.mem_of_getElem? hq)
  · refine .inr ?_
    rw [z]
    exact List.mem_of_getElem? hq
theorem Turned.mem2 {qs rs : List (Nat × Nat)} (h : Turned qs rs) : ∀ p ∈ qs, p ∈ rs ∨ (p.2, p.1) ∈ rs := fun p hp => by
  obtain ⟨j, hj, e⟩ := List.mem_iff_getElem.mp hp
  obtain ⟨q, hq⟩ := get_some (l := rs) (i := j) (by rw [h.1]; exact hj)
  rcases h.2 j p q (by rw [List.getElem?_eq_getElem hj, e]) hq with z | z
  · exact .inl (z ▸ List.mem_of_getElem? hq)
  · exact .inr (z ▸ List.mem_of_getElem? hq)
theorem Makes.perm {qs rs : List (Nat × Nat)} {ps : List Nat} (h : Makes qs ps) (e : rs.Perm qs) : Makes rs ps := h.turned e.length_eq (fun p hp => .inl (e.mem_iff.mp hp)) (fun p hp => .inl (e.mem_iff.mpr hp))
theorem IsPair.lt {n : Nat} {ps : List Nat} (h : IsPair n ps) : ∀ i ∈ ps, i < n := fun i hi => by
  obtain ⟨x, hx, e⟩ := List.mem_iff_getElem.mp hi
  obtain ⟨y, e1, e2, _⟩ := h.par x (by rw [← h.len]; exact hx)
  rw [List.getElem?_eq_getElem hx, e] at e1
  cases Option.some.inj e1
  exact e2
theorem Makes.lt {qs : List (Nat × Nat)} {ps : List Nat} (h : Makes qs ps) : ∀ p ∈ qs, p.1 < ps.length ∧ p.2 < ps.length := fun p hp => ⟨get_lt (h.ok p hp).1, get_lt (h.ok p hp).2⟩
theorem iteN {A B : Prop} (h : B) : if (!true) = true then A else B := by
  rw [if_neg (by decide)]
  exact h
end Pc
namespace Pc
open PySem PySem.Spec PyProof.Rows L2 RZ
/-! ### a loop over a list or a tuple that stays as it is -/
theorem for_seq {K : PySem.W.Frag} {a : Addr} {xs : List V} {g : TG} {tb : TS} {D : Ends} {σ : L2.St} {H0 H : Hp} (hS : Sq K H0 a xs) (Pv : Nat → L2.St → Hp → Prop) (h0 : Pv 0 σ H) (hst : ∀ i σ H', Pv i σ H' → Same H0 H')
    (hs : ∀ i x σ H', xs[i]? = some x → Pv i σ H' → g x σ H' fun σ2 H2 => tb { D with nx := Pv (i + 1), ct := Pv (i + 1), bk := D.nx } σ2 H2) (hd : ∀ σ H', Pv xs.length σ H' → D.nx σ H') :
    ((∃ ys, SqL K H a ys) ∧ ∃ W : Nat → Nat → L2.St → Hp → Prop, (∃ m, W 0 m σ H) ∧ ∀ i m σ H, W i m σ H → ((Itl K a).stop i H ∧ D.nx σ H) ∨ ((Itl K a).go i H ∧ ∃ N : L2.St → Hp → Prop, (∀ σ' H', N σ' H' → ∃ m', m' < m ∧ W (i + 1) m' σ' H') ∧ ∀ x H', (Itl K a).yld i H x H' → g x σ H' fun σ2 H2 => tb { D with nx := N, ct := N, bk := D.nx } σ2 H2)) ∨
    ((∃ ys, SqT K H a ys) ∧ ∃ W : Nat → Nat → L2.St → Hp → Prop, (∃ m, W 0 m σ H) ∧ ∀ i m σ H, W i m σ H → ((Itt K a).stop i H ∧ D.nx σ H) ∨ ((Itt K a).go i H ∧ ∃ N : L2.St → Hp → Prop, (∀ σ' H', N σ' H' → ∃ m', m' < m ∧ W (i + 1) m' σ' H') ∧ ∀ x H', (Itt K a).yld i H x H' → g x σ H' fun σ2 H2 => tb { D with nx := N, ct := N, bk := D.nx } σ2 H2)) := by
  rcases hS with h | h
  · exact .inl ⟨⟨_, (hst 0 σ H h0).seq h⟩, for_list Pv h0 (fun i σ H' _ p => (hst i σ H' p).seq h) hs hd⟩
  · exact .inr ⟨⟨_, same_tup (hst 0 σ H h0) h⟩, for_tup Pv h0 (fun i σ H' _ p => same_tup (hst i σ H' p) h) hs hd⟩
/-! ### two are joined, and the two that are left -/
def jn (fs : List Nat) (a b : Nat) : List Nat := if fs.getD a 0 = b then fs else (((fs.set a b).set b a).set (fs.getD a 0) (fs.getD b 0)).set (fs.getD b 0) (fs.getD a 0)
theorem jn_len (fs : List Nat) (a b : Nat) : (jn fs a b).length = fs.length := by
  unfold jn
  split
  · rfl
  · simp only [List.length_set]
/-- the four are different -/
theorem four {n : Nat} {fs : List Nat} (h : IsPair n fs) {a b c d : Nat} (hab : a ≠ b) (ea : fs[a]? = some c) (eb : fs[b]? = some d) (hcb : c ≠ b) : c ≠ a ∧ d ≠ b ∧ d ≠ a ∧ c ≠ d ∧ a < n ∧ b < n ∧ c < n ∧ d < n := by
  obtain ⟨a1, a2, a3, a4⟩ := h.back ea
  obtain ⟨b1, b2, b3, b4⟩ := h.back eb
  refine ⟨a4, b4, fun e => ?_, fun e => ?_, a3, b3, a2, b2⟩
  · rw [e, ea] at b1; exact hcb (Option.some.inj b1)
  · rw [e, b1] at a1; exact hab (Option.some.inj a1).symm
theorem jn_same {fs : List Nat} {a b : Nat} (e : fs[a]? = some b) : jn fs a b = fs := by
  unfold jn
  rw [getD_of e, if_pos rfl]
theorem jn_get {n : Nat} {fs : List Nat} (h : IsPair n fs) {a b c d : Nat} (hab : a ≠ b) (ea : fs[a]? = some c) (eb : fs[b]? = some d) (hcb : c ≠ b) (z : Nat) :
    (jn fs a b)[z]? = if z = a then some b else if z = b then some a else if z = c then some d else if z = d then some c else fs[z]? := by
  obtain ⟨x1, x2, x3, x4, l1, l2, l3, l4⟩ := four h hab ea eb hcb
  unfold jn
  rw [getD_of ea, getD_of eb, if_neg hcb]
  have hl := h.len
  by_cases z4 : z = d
  · subst z4
    rw [List.getElem?_set_self (by simp only [List.length_set]; omega), if_neg x3, if_neg x2, if_neg (Ne.symm x4), if_pos rfl]
  · rw [List.getElem?_set_ne (Ne.symm z4)]
    by_cases z3 : z = c
    · subst z3
      rw [List.getElem?_set_self (by simp only [List.length_set]; omega), if_neg x1, if_neg hcb, if_pos rfl]
    · rw [List.getElem?_set_ne (Ne.symm z3)]
      by_cases z2 : z = b
      · subst z2
        rw [List.getElem?_set_self (by simp only [List.length_set]; omega), if_neg (Ne.symm hab), if_pos rfl]
      · rw [List.getElem?_set_ne (Ne.symm z2)]
        by_cases z1 : z = a
        · subst z1
          rw [List.getElem?_set_self (by omega), if_pos rfl]
        · rw [List.getElem?_set_ne (Ne.symm z1), if_neg z1, if_neg z2, if_neg z3, if_neg z4]
theorem jn_pair {n : Nat} {fs : List Nat} (h : IsPair n fs) {a b : Nat} (hab : a ≠ b) (ha : a < n) (hb : b < n) : IsPair n (jn fs a b) := by
  obtain ⟨c, ea, _⟩ := h.par a ha
  obtain ⟨d, eb, _⟩ := h.par b hb
  by_cases hcb : c = b
  · subst hcb; rw [jn_same ea]; exact h
  · have G := jn_get h hab ea eb hcb
    obtain ⟨x1, x2, x3, x4, _, _, l3, l4⟩ := four h hab ea eb hcb
    refine ⟨by rw [jn_len]; exact h.len, fun x hx => ?_⟩
    by_cases z1 : x = a
    · subst z1
      exact ⟨b, by rw [G, if_pos rfl], hb, hab.symm, by rw [G, if_neg hab.symm, if_pos rfl]⟩
    · by_cases z2 : x = b
      · subst z2
        exact ⟨a, by rw [G, if_neg z1, if_pos rfl], ha, hab, by rw [G, if_pos rfl]⟩
      · by_cases z3 : x = c
        · subst z3
          exact ⟨d, by rw [G, if_neg z1, if_neg z2, if_pos rfl], l4, x4.symm, by rw [G, if_neg x3, if_neg x2, if_neg x4.symm, if_pos rfl]⟩
        · by_cases z4 : x = d
          · subst z4
            exact ⟨c, by rw [G, if_neg z1, if_neg z2, if_neg z3, if_pos rfl], l3, x4, by rw [G, if_neg x1, if_neg hcb, if_pos rfl]⟩
          · obtain ⟨y, e1, e2, e3, e4⟩ := h.par x hx
            have back : ∀ {u : Nat}, y = u → fs[u]? = some x := fun e => by rw [← e]; exact e4
            refine ⟨y, by rw [G, if_neg z1, if_neg z2, if_neg z3, if_neg z4]; exact e1, e2, e3, ?_⟩
            rw [G, if_neg, if_neg, if_neg, if_neg]
            · exact e4
            · intro e; have q := back e; rw [(h.back eb).1] at q; exact z2 (Option.some.inj q).symm
            · intro e; have q := back e; rw [(h.back ea).1] at q; exact z1 (Option.some.inj q).symm
            · intro e; have q := back e; rw [eb] at q; exact z4 (Option.some.inj q).symm
            · intro e; have q := back e; rw [ea] at q; exact z3 (Option.some.inj q).symm
/-- all pairs are calls of n people -/
def Calls (n : Nat) (qs : List (Nat × Nat)) : Prop := ∀ q ∈ qs, q.1 < q.2 ∧ q.2 < n
/-- the calls done one after another -/
def runs (qs : List (Nat × Nat)) (ps : List Nat) : List Nat := qs.foldl (fun fs q => jn fs q.1 q.2) ps
theorem runs_take {qs : List (Nat × Nat)} {ps : List Nat} {i : Nat} {q : Nat × Nat} (h : qs[i]? = some q) : runs (qs.take (i + 1)) ps = jn (runs (qs.take i) ps) q.1 q.2 := by
  unfold runs
  rw [List.take_add_one, h, List.foldl_append]
  rfl
theorem runs_pair {n : Nat} : ∀ (qs : List (Nat × Nat)) {ps : List Nat}, IsPair n ps → Calls n qs → IsPair n (runs qs ps)
  | [], _, h, _ => h
  | q :: r, ps, h, hc => by
    have h1 := hc q List.mem_cons_self
    exact runs_pair r (jn_pair h (by omega) (by omega) h1.2) (fun x hx => hc x (List.mem_cons_of_mem _ hx))
theorem Calls.take {n : Nat} {qs : List (Nat × Nat)} (h : Calls n qs) (i : Nat) : Calls n (qs.take i) := fun q hq => h q (List.mem_of_mem_take hq)
end Pc
namespace Pc
open PySem PySem.Spec PyProof.Rows L2 RZ
/-! ### lists of tuples of numbers -/
def Tups (H : Hp) (as : List Addr) (ls : List (List Nat)) : Prop := Paired (fun a l => H a = some (.tup (nv l))) as ls
theorem Tups.length {H : Hp} {as : List Addr} {ls : List (List Nat)} (h : Tups H as ls) : as.length = ls.length := Paired.length h
theorem tups_same {H H' : Hp} (e : Same H H') : ∀ {as : List Addr} {ls : List (List Nat)}, Tups H as ls → Tups H' as ls
  | _, _, .nil => .nil
  | _, _, .cons h r => .cons (e _ _ h) (tups_same e r)
theorem tups_keep {b : Addr} {H H' : Hp} {ys : List V} (k : Keep b H H') (hb : H b = some (.lst ys)) : ∀ {as : List Addr} {ls : List (List Nat)}, Tups H as ls → Tups H' as ls
  | _, _, .nil => .nil
  | _, _, .cons h r => .cons (k.tup hb h) (tups_keep k hb r)
theorem tups_append {H : Hp} : ∀ {as bs : List Addr} {ls ms : List (List Nat)}, Tups H as ls → Tups H bs ms → Tups H (as ++ bs) (ls ++ ms)
  | _, _, _, _, .nil, s => s
  | _, _, _, _, .cons h r, s => .cons h (tups_append r s)
theorem tups_get {H : Hp} : ∀ {as : List Addr} {ls : List (List Nat)} {i : Nat} {a : Addr}, Tups H as ls → as[i]? = some a → ∃ l, ls[i]? = some l ∧ H a = some (.tup (nv l))
  | _, _, _, _, .nil, h => by simp at h
  | _, _, 0, _, .cons (b := p) h _, e => by
    cases Option.some.inj e
    exact ⟨p, rfl, h⟩
  | _, _, i + 1, a, .cons _ r, e => tups_get (i := i) r e
def td (l : List Nat) : PyData := .tuple (nd l)
theorem tups_dp {K : PySem.W.Frag} {H : Hp} : ∀ {as : List Addr} {ls : List (List Nat)}, Tups H as ls → DpAll K H (as.map V.ref) (ls.map td)
  | _, _, .nil => .nil
  | _, _, .cons (b := l) h r => .cons (.tup (.inl (.inl h)) (dp_nats l)) (tups_dp r)
theorem fine_tds {ls : List (List Nat)} {n m : Nat} (h : ∀ l ∈ ls, l.length ≤ m ∧ ∀ i ∈ l, i < 2 ^ 60) (hn : ls.length ≤ n) (hb : n ≤ 100000) (hm : m ≤ 100000) : Fine 2 (n * (m * 63 + 5) + 3) (.list (ls.map td)) :=
  fine_list (fun d hd => by
    obtain ⟨l, hl, rfl⟩ := List.mem_map.mp hd
    exact fine_tup (h l hl).2 (h l hl).1 hm) (by rw [List.length_map]; exact hn) hb
/-- the pairings before the first call and behind each -/
def alongs (qs : List (Nat × Nat)) (ps : List Nat) (i : Nat) : List (List Nat) := (List.range (i + 1)).map fun j => runs (qs.take j) ps
theorem alongs_zero (qs : List (Nat × Nat)) (ps : List Nat) : alongs qs ps 0 = [ps] := rfl
theorem alongs_succ (qs : List (Nat × Nat)) (ps : List Nat) (i : Nat) : alongs qs ps (i + 1) = alongs qs ps i ++ [runs (qs.take (i + 1)) ps] := by
  unfold alongs
  rw [List.range_succ, List.map_append]
  rfl
theorem alongs_len (qs : List (Nat × Nat)) (ps : List Nat) (i : Nat) : (alongs qs ps i).length = i + 1 := by
  unfold alongs
  rw [List.length_map, List.length_range]
theorem alongs_mem {n i : Nat} {qs : List (Nat × Nat)} {ps l : List Nat} (hP : IsPair n ps) (hc : Calls n qs) (h : l ∈ alongs qs ps i) : IsPair n l := by
  obtain ⟨j, _, rfl⟩ := List.mem_map.mp h
  exact runs_pair _ hP (hc.take j)
end Pc
namespace Pc
open PySem PySem.Spec PyProof.Rows L2 RZ
/-! ### sheets as lists of natural numbers -/
/-- the empty sheet of n people -/
def emp (n : Nat) : List Nat := (List.range (2 * n)).map fun e => (e + n) % (2 * n)
theorem emp_len (n : Nat) : (emp n).length = 2 * n := by unfold emp; rw [List.length_map, List.length_range]
theorem emp_get {n e : Nat} (h : e < 2 * n) : (emp n)[e]? = some ((e + n) % (2 * n)) := by
  unfold emp
  rw [List.getElem?_map, List.getElem?_range h]
  rfl
theorem emp_lo {n e : Nat} (h : e < n) : (emp n)[e]? = some (n + e) := by
  rw [emp_get (by omega), Nat.mod_eq_of_lt (by omega), Nat.add_comm]
theorem emp_hi {n e : Nat} (h : e < n) : (emp n)[n + e]? = some e := by
  rw [emp_get (by omega), show n + e + n = e + 1 * (2 * n) by omega, Nat.add_mul_mod_self_right, Nat.mod_eq_of_lt (by omega)]
theorem emp_pair {n : Nat} (hn : 0 < n) : IsPair (2 * n) (emp n) := by
  refine ⟨emp_len n, fun x hx => ?_⟩
  by_cases h : x < n
  · exact ⟨n + x, emp_lo h, by omega, by omega, emp_hi h⟩
  · have e : x = n + (x - n) := by omega
    refine ⟨x - n, ?_, by omega, by omega, ?_⟩
    · have := emp_hi (n := n) (e := x - n) (by omega)
      rw [← e] at this; exact this
    · have := emp_lo (n := n) (e := x - n) (by omega)
      rw [← e] at this; exact this
/-- the calls at the lower ends -/
def low (n : Nat) (qs : List (Nat × Nat)) : List (Nat × Nat) := qs.map fun q => (n + q.1, n + q.2)
theorem low_calls {n : Nat} {qs : List (Nat × Nat)} (h : Calls n qs) : Calls (2 * n) (low n qs) := fun q hq => by
  obtain ⟨r, hr, rfl⟩ := List.mem_map.mp hq
  have := h r hr
  exact ⟨by show n + r.1 < n + r.2; omega, by show n + r.2 < 2 * n; omega⟩
theorem low_take (n : Nat) (qs : List (Nat × Nat)) (i : Nat) : (low n qs).take i = low n (qs.take i) := by unfold low; rw [List.map_take]
theorem low_get {n i : Nat} {qs : List (Nat × Nat)} {q : Nat × Nat} (h : qs[i]? = some q) : (low n qs)[i]? = some (n + q.1, n + q.2) := by
  unfold low; rw [List.getElem?_map, h]; rfl
/-- the sheet with calls added -/
def shw (n : Nat) (qs : List (Nat × Nat)) (fs : List Nat) : List Nat := runs (low n qs) fs
theorem shw_take {n i : Nat} {qs : List (Nat × Nat)} {fs : List Nat} {q : Nat × Nat} (h : qs[i]? = some q) : shw n (qs.take (i + 1)) fs = jn (shw n (qs.take i) fs) (n + q.1) (n + q.2) := by
  unfold shw
  rw [← low_take, ← low_take, runs_take (low_get h)]
theorem shw_pair {n : Nat} {qs : List (Nat × Nat)} {fs : List Nat} (hP : IsPair (2 * n) fs) (h : Calls n qs) : IsPair (2 * n) (shw n qs fs) := runs_pair _ hP (low_calls h)
/-- the other order of the stores -/
theorem jn_alt {n : Nat} {fs : List Nat} (h : IsPair n fs) {a b c d : Nat} (hab : a ≠ b) (ea : fs[a]? = some c) (eb : fs[b]? = some d) (hcb : c ≠ b) : (((fs.set c d).set d c).set a b).set b a = jn fs a b := by
  obtain ⟨x1, x2, x3, x4, l1, l2, l3, l4⟩ := four h hab ea eb hcb
  have hl := h.len
  refine List.ext_getElem? fun z => ?_
  rw [jn_get h hab ea eb hcb]
  by_cases z2 : z = b
  · subst z2
    rw [List.getElem?_set_self (by simp only [List.length_set]; omega), if_neg hab.symm, if_pos rfl]
  · rw [List.getElem?_set_ne (Ne.symm z2)]
    by_cases z1 : z = a
    · subst z1
      rw [List.getElem?_set_self (by simp only [List.length_set]; omega), if_pos rfl]
    · rw [List.getElem?_set_ne (Ne.symm z1), if_neg z1, if_neg z2]
      by_cases z4 : z = d
      · subst z4
        rw [List.getElem?_set_self (by simp only [List.length_set]; omega), if_neg (Ne.symm x4), if_pos rfl]
      · rw [List.getElem?_set_ne (Ne.symm z4)]
        by_cases z3 : z = c
        · subst z3
          rw [List.getElem?_set_self (by omega), if_pos rfl]
        · rw [List.getElem?_set_ne (Ne.symm z3), if_neg z3, if_neg z4]
theorem range_shift (n : Nat) : rgV (n : Int) (2 * (n : Int)) = nv ((List.range n).map fun i => n + i) := by
  unfold rgV nv
  rw [show (2 * (n : Int) - (n : Int)).toNat = n by omega, List.map_map]
  refine List.map_congr_left fun i _ => ?_
  show V.int ((n : Int) + (i : Nat)) = V.int (((n + i : Nat) : Int))
  rw [show (((n + i : Nat) : Int)) = (n : Int) + (i : Nat) by omega]
/-- strands in any order: the upper ends in turn, the lower ends as drawn -/
def SInv (n : Nat) (ls fs : List Nat) (t : Nat) : Prop := fs.length = 2 * n ∧ ∀ j, j < t → ∀ l, ls[j]? = some l → fs[j]? = some l ∧ fs[l]? = some j
theorem SInv.step {n : Nat} {ls fs : List Nat} {t l : Nat} (hp : ls.Perm ((List.range n).map fun i => n + i)) (h : SInv n ls fs t) (hl : ls[t]? = some l) : SInv n ls ((fs.set t l).set l t) (t + 1) := by
  have hln : ls.length = n := by rw [hp.length_eq, List.length_map, List.length_range]
  have hnd : ls.Nodup := hp.nodup_iff.mpr (List.Pairwise.map _ (fun a b (hab : a ≠ b) => show n + a ≠ n + b by omega) List.nodup_range)
  have big : ∀ {j x : Nat}, ls[j]? = some x → n ≤ x ∧ x < 2 * n := fun hx => by
    obtain ⟨i, hi, e⟩ := List.mem_map.mp (hp.mem_iff.mp (List.mem_of_getElem? hx))
    have := List.mem_range.mp hi
    omega
  have ht : t < n := by rw [← hln]; exact get_lt hl
  have hb := big hl
  obtain ⟨h1, h2⟩ := h
  refine ⟨by simp only [List.length_set]; exact h1, fun j hj x hx => ?_⟩
  have hjn : j < n := by rw [← hln]; exact get_lt hx
  have hbx := big hx
  by_cases e : j = t
  · subst e
    cases Option.some.inj (hl.symm.trans hx)
    exact ⟨by rw [List.getElem?_set_ne (by omega), List.getElem?_set_self (by omega)], by rw [List.getElem?_set_self (by simp only [List.length_set]; omega)]⟩
  · obtain ⟨g1, g2⟩ := h2 j (by omega) x hx
    have xl : l ≠ x := fun z => by subst z; exact e (nd_ix hnd hx hl)
    exact ⟨by rw [List.getElem?_set_ne (by omega), List.getElem?_set_ne (by omega)]; exact g1, by rw [List.getElem?_set_ne xl, List.getElem?_set_ne (by omega)]; exact g2⟩
theorem SInv.done {n : Nat} {ls fs : List Nat} (hp : ls.Perm ((List.range n).map fun i => n + i)) (h : SInv n ls fs n) : IsPair (2 * n) fs := by
  have hln : ls.length = n := by rw [hp.length_eq, List.length_map, List.length_range]
  refine ⟨h.1, fun x hx => ?_⟩
  by_cases e : x < n
  · obtain ⟨l, hl⟩ := get_some (l := ls) (i := x) (by omega)
    obtain ⟨i, hi, e'⟩ := List.mem_map.mp (hp.mem_iff.mp (List.mem_of_getElem? hl))
    have := List.mem_range.mp hi
    obtain ⟨g1, g2⟩ := h.2 x e l hl
    exact ⟨l, g1, by omega, by omega, g2⟩
  · have hm : x ∈ ls := hp.mem_iff.mpr (List.mem_map.mpr ⟨x - n, List.mem_range.mpr (by omega), by omega⟩)
    obtain ⟨j, hj, ej⟩ := List.mem_iff_getElem.mp hm
    obtain ⟨g1, g2⟩ := h.2 j (by omega) x (by rw [List.getElem?_eq_getElem hj, ej])
    exact ⟨j, g2, by omega, by omega, g1⟩
theorem emp_step (n i : Nat) (h : i < 2 * n) : (emp n).take (i + 1) = (emp n).take i ++ [(i + n) % (2 * n)] := by
  rw [List.take_add_one, emp_get h]
  rfl
theorem nv_snoc' (l : List Nat) (x : Nat) : nv l ++ [.int (x : Int)] = nv (l ++ [x]) := by
  unfold nv
  rw [List.map_append]; rfl
theorem mod_cast_n (i n : Nat) : ((0 : Int) + (i : Nat) + (n : Int)) % (2 * (n : Int)) = (((i + n) % (2 * n) : Nat) : Int) := by
  have h : (((i + n) % (2 * n) : Nat) : Int) = ((i + n : Nat) : Int) % ((2 * n : Nat) : Int) := Int.natCast_emod _ _
  rw [h, Int.natCast_add, Int.natCast_mul, Int.zero_add]
  rfl
end Pc
namespace Pc
open PySem PySem.Spec PyProof.Rows L2 RZ
/-! ### pairs that are chosen from a range -/
def selN (c : Nat → Bool) (g : Nat → Nat × Nat) (i : Nat) : List (Nat × Nat) := ((List.range i).filter c).map g
theorem selN_yes {c : Nat → Bool} {g : Nat → Nat × Nat} {i : Nat} (h : c i = true) : selN c g (i + 1) = selN c g i ++ [g i] := by
  unfold selN
  rw [List.range_succ, List.filter_append, List.map_append, List.filter_cons_of_pos h, List.filter_nil, List.map_cons, List.map_nil]
theorem selN_no {c : Nat → Bool} {g : Nat → Nat × Nat} {i : Nat} (h : c i = false) : selN c g (i + 1) = selN c g i := by
  unfold selN
  rw [List.range_succ, List.filter_append, List.map_append, List.filter_cons_of_neg (by rw [h]; decide), List.filter_nil, List.map_nil, List.append_nil]
theorem selN_len (c : Nat → Bool) (g : Nat → Nat × Nat) (i : Nat) : (selN c g i).length ≤ i := by
  unfold selN
  rw [List.length_map]
  exact Nat.le_trans (List.length_filter_le _ _) (by rw [List.length_range]; exact Nat.le_refl _)
theorem selN_mem {c : Nat → Bool} {g : Nat → Nat × Nat} {i : Nat} {p : Nat × Nat} : p ∈ selN c g i ↔ ∃ x, x < i ∧ c x = true ∧ g x = p := by
  unfold selN
  rw [List.mem_map]
  constructor
  · rintro ⟨x, hx, e⟩
    have := List.mem_filter.mp hx
    exact ⟨x, List.mem_range.mp this.1, this.2, e⟩
  · rintro ⟨x, h1, h2, e⟩
    exact ⟨x, List.mem_filter.mpr ⟨List.mem_range.mpr h1, h2⟩, e⟩
/-- one more pair is put to the list -/
theorem sel_step {H H1 : Hp} {D u : Addr} {as : List Addr} {c : Nat → Bool} {g : Nat → Nat × Nat} {i : Nat} {v1 v2 : V} (nD : H D = none) (sm : Same H H1) (eD : H1 D = some (.lst (as.map V.ref))) (hA : Prs H1 as (selN c g i)) (hc : c i = true) (nu : H1 u = none)
    (hv : [v1, v2] = [V.int ((g i).1 : Int), V.int ((g i).2 : Int)]) (hi : i ≤ 999) : ∃ acc, (upd H1 u (.tup [v1, v2])) D = some (.lst acc) ∧ acc.length < sizeLine ∧
      (Same H (upd (upd H1 u (.tup [v1, v2])) D (.lst (acc ++ [.ref u]))) ∧ ∃ as' : List Addr, (upd (upd H1 u (.tup [v1, v2])) D (.lst (acc ++ [.ref u]))) D = some (.lst (as'.map V.ref)) ∧ Prs (upd (upd H1 u (.tup [v1, v2])) D (.lst (acc ++ [.ref u]))) as' (selN c g (i + 1))) := by
  have su : Same H1 (upd H1 u (.tup [v1, v2])) := same_new nu
  have nuD : u ≠ D := fun e => by rw [e, eD] at nu; cases nu
  refine ⟨_, su _ _ eD, ?_, fun b' o hb => ?_, as ++ [u], ?_, ?_⟩
  · rw [List.length_map, hA.length]
    have := selN_len c g i
    exact small1000 (by omega)
  · rw [upd_ne (ne_of_none hb nD)]; exact su _ _ (sm _ _ hb)
  · rw [upd_same, List.map_append]; rfl
  · rw [selN_yes hc]
    refine prs_append (prs_keep (b := D) (ys := as.map V.ref) keep_upd (su _ _ eD) (prs_same su hA)) (.cons ?_ .nil)
    rw [upd_ne nuD, upd_same, hv]
theorem ix_sq {K : PySem.W.Frag} {H : Hp} {a : Addr} {xs : List V} {i : Int} {v : V} {Q : VK} (h : Sq K H a xs) (e : atI xs i = some v) (q : Q v H) : rIx K (.ref a) (.int i) H Q :=
  h.elim (fun z => .inl ⟨a, xs, i, v, rfl, rfl, z, e, q⟩) (fun z => .inr (.inl ⟨a, xs, i, v, rfl, rfl, z, e, q⟩))
/-! ### upper pairs, lower pairs, strands -/
def upC (fs : List Nat) (n x : Nat) : Bool := decide (x < fs.getD x 0) && decide (fs.getD x 0 < n)
def upG (fs : List Nat) (x : Nat) : Nat × Nat := (x, fs.getD x 0)
def loC (fs : List Nat) (n x : Nat) : Bool := decide (n + x < fs.getD (n + x) 0)
def loG (fs : List Nat) (n x : Nat) : Nat × Nat := (x, fs.getD (n + x) 0 - n)
def stC (fs : List Nat) (n x : Nat) : Bool := decide (n ≤ fs.getD x 0)
def stG (fs : List Nat) (n x : Nat) : Nat × Nat := (x, fs.getD x 0 - n)
def ups (fs : List Nat) (n : Nat) : List (Nat × Nat) := selN (upC fs n) (upG fs) n
def los (fs : List Nat) (n : Nat) : List (Nat × Nat) := selN (loC fs n) (loG fs n) n
def sts (fs : List Nat) (n : Nat) : List (Nat × Nat) := selN (stC fs n) (stG fs n) n
theorem ups_mem {n : Nat} {fs : List Nat} (h : IsPair (2 * n) fs) {p : Nat × Nat} (hp : p ∈ ups fs n) : fs[p.1]? = some p.2 ∧ p.1 < p.2 ∧ p.2 < n := by
  obtain ⟨x, hx, hc, e⟩ := selN_mem.mp hp
  obtain ⟨y, ey, _⟩ := h.par x (by omega)
  unfold upC at hc
  rw [getD_of ey, Bool.and_eq_true, decide_eq_true_iff, decide_eq_true_iff] at hc
  subst e
  show fs[x]? = some (fs.getD x 0) ∧ x < fs.getD x 0 ∧ fs.getD x 0 < n
  rw [getD_of ey]
  exact ⟨ey, hc.1, hc.2⟩
theorem los_mem {n : Nat} {fs : List Nat} (h : IsPair (2 * n) fs) {p : Nat × Nat} (hp : p ∈ los fs n) : fs[n + p.1]? = some (n + p.2) ∧ p.1 < p.2 ∧ p.2 < n := by
  obtain ⟨x, hx, hc, e⟩ := selN_mem.mp hp
  obtain ⟨y, ey, hy, _⟩ := h.par (n + x) (by omega)
  unfold loC at hc
  rw [getD_of ey, decide_eq_true_iff] at hc
  subst e
  show fs[n + x]? = some (n + (fs.getD (n + x) 0 - n)) ∧ x < fs.getD (n + x) 0 - n ∧ fs.getD (n + x) 0 - n < n
  rw [getD_of ey, show n + (y - n) = y by omega]
  exact ⟨ey, by omega, by omega⟩
theorem sts_mem {n : Nat} {fs : List Nat} (h : IsPair (2 * n) fs) {p : Nat × Nat} (hp : p ∈ sts fs n) : fs[p.1]? = some (n + p.2) ∧ p.1 < n ∧ p.2 < n := by
  obtain ⟨x, hx, hc, e⟩ := selN_mem.mp hp
  obtain ⟨y, ey, hy, _⟩ := h.par x (by omega)
  unfold stC at hc
  rw [getD_of ey, decide_eq_true_iff] at hc
  subst e
  show fs[x]? = some (n + (fs.getD x 0 - n)) ∧ x < n ∧ fs.getD x 0 - n < n
  rw [getD_of ey, show n + (y - n) = y by omega]
  exact ⟨ey, by omega, by omega⟩
/-- all joins of a sheet, as pairs of ends -/
def jns (fs : List Nat) (n : Nat) : List (Nat × Nat) := ups fs n ++ ((los fs n).map (fun p => (n + p.1, n + p.2)) ++ (sts fs n).map (fun p => (p.1, n + p.2)))
theorem jns_ok {n : Nat} {fs : List Nat} (h : IsPair (2 * n) fs) : ∀ p ∈ jns fs n, fs[p.1]? = some p.2 ∧ p.1 < p.2 := fun p hp => by
  rcases List.mem_append.mp hp with z | z
  · have := ups_mem h z; exact ⟨this.1, this.2.1⟩
  · rcases List.mem_append.mp z with z | z
    · obtain ⟨r, hr, rfl⟩ := List.mem_map.mp z
      have := los_mem h hr
      exact ⟨this.1, by show n + r.1 < n + r.2; omega⟩
    · obtain ⟨r, hr, rfl⟩ := List.mem_map.mp z
      have := sts_mem h hr
      exact ⟨this.1, by show r.1 < n + r.2; omega⟩
theorem sel_fst {c : Nat → Bool} {g : Nat → Nat × Nat} {i : Nat} (h : ∀ x, (g x).1 = x) : (selN c g i).map Prod.fst = (List.range i).filter c := by
  unfold selN
  rw [List.map_map]
  conv => rhs; rw [← List.map_id ((List.range i).filter c)]
  exact List.map_congr_left fun x _ => h x
theorem jns_nodup {n : Nat} {fs : List Nat} (h : IsPair (2 * n) fs) : ((jns fs n).map Prod.fst).Nodup := by
  have e1 : (ups fs n).map Prod.fst = (List.range n).filter (upC fs n) := sel_fst fun _ => rfl
  have e2 : ((los fs n).map (fun p => (n + p.1, n + p.2))).map Prod.fst = ((List.range n).filter (loC fs n)).map (fun x => n + x) := by
    rw [← sel_fst (c := loC fs n) (g := loG fs n) (i := n) fun _ => rfl, List.map_map, List.map_map]; rfl
  have e3 : ((sts fs n).map (fun p => (p.1, n + p.2))).map Prod.fst = (List.range n).filter (stC fs n) := by
    rw [← sel_fst (c := stC fs n) (g := stG fs n) (i := n) fun _ => rfl, List.map_map]; rfl
  unfold jns
  rw [List.map_append, List.map_append, e1, e2, e3]
  have nr : (List.range n).Nodup := List.nodup_range
  refine List.nodup_append.mpr ⟨nr.filter _, List.nodup_append.mpr ⟨?_, nr.filter _, fun a ha b hb => ?_⟩, fun a ha b hb => ?_⟩
  · exact List.Pairwise.map _ (fun a b (hab : a ≠ b) => show n + a ≠ n + b by omega) (nr.filter _)
  · obtain ⟨x, _, rfl⟩ := List.mem_map.mp ha
    have := List.mem_range.mp (List.mem_filter.mp hb).1
    omega
  · have ha1 := List.mem_range.mp (List.mem_filter.mp ha).1
    have ha2 := (List.mem_filter.mp ha).2
    unfold upC at ha2
    rw [Bool.and_eq_true, decide_eq_true_iff, decide_eq_true_iff] at ha2
    rcases List.mem_append.mp hb with z | z
    · obtain ⟨x, _, rfl⟩ := List.mem_map.mp z; omega
    · have hb2 := (List.mem_filter.mp z).2
      unfold stC at hb2
      rw [decide_eq_true_iff] at hb2
      intro e; subst e; omega
theorem jns_all {n : Nat} {fs : List Nat} (h : IsPair (2 * n) fs) {z y : Nat} (e : fs[z]? = some y) (hz : z < y) : (z, y) ∈ jns fs n := by
  obtain ⟨_, hy, hz2, _⟩ := h.back e
  unfold jns
  by_cases c : z < n
  · by_cases d : y < n
    · refine List.mem_append.mpr (.inl (selN_mem.mpr ⟨z, c, ?_, ?_⟩))
      · unfold upC; rw [getD_of e, decide_eq_true hz, decide_eq_true d]; rfl
      · unfold upG; rw [getD_of e]
    · refine List.mem_append.mpr (.inr (List.mem_append.mpr (.inr (List.mem_map.mpr ⟨(z, y - n), selN_mem.mpr ⟨z, c, ?_, ?_⟩, ?_⟩))))
      · unfold stC; rw [getD_of e]; exact decide_eq_true (by omega)
      · unfold stG; rw [getD_of e]
      · show (z, n + (y - n)) = (z, y); rw [show n + (y - n) = y by omega]
  · have e' : fs[n + (z - n)]? = some y := by rw [show n + (z - n) = z by omega]; exact e
    refine List.mem_append.mpr (.inr (List.mem_append.mpr (.inl (List.mem_map.mpr ⟨(z - n, y - n), selN_mem.mpr ⟨z - n, by omega, ?_, ?_⟩, ?_⟩))))
    · unfold loC; rw [getD_of e']; exact decide_eq_true (by omega)
    · unfold loG; rw [getD_of e']
    · show (n + (z - n), n + (y - n)) = (z, y); rw [show n + (z - n) = z by omega, show n + (y - n) = y by omega]
/-- the ends of joins in a row -/
def flat : List (Nat × Nat) → List Nat
  | [] => []
  | p :: r => p.1 :: p.2 :: flat r
theorem flat_app : ∀ a b : List (Nat × Nat), flat (a ++ b) = flat a ++ flat b
  | [], _ => rfl
  | p :: r, b => by show p.1 :: p.2 :: flat (r ++ b) = _; rw [flat_app r b]; rfl
theorem flat_mem : ∀ {l : List (Nat × Nat)} {z : Nat}, z ∈ flat l ↔ ∃ p ∈ l, z = p.1 ∨ z = p.2
  | [], z => by simp [flat]
  | p :: r, z => by
    show z ∈ p.1 :: p.2 :: flat r ↔ _
    rw [List.mem_cons, List.mem_cons, flat_mem (l := r)]
    constructor
    · rintro (e | e | ⟨q, hq, e⟩)
      · exact ⟨p, List.mem_cons_self, .inl e⟩
      · exact ⟨p, List.mem_cons_self, .inr e⟩
      · exact ⟨q, List.mem_cons_of_mem _ hq, e⟩
    · rintro ⟨q, hq, e⟩
      rcases List.mem_cons.mp hq with z | z
      · subst z; exact e.elim .inl (fun e => .inr (.inl e))
      · exact .inr (.inr ⟨q, z, e⟩)
theorem flat_len : ∀ l : List (Nat × Nat), (flat l).length = 2 * l.length
  | [] => rfl
  | p :: r => by show (flat r).length + 1 + 1 = 2 * (r.length + 1); rw [flat_len r]; omega
theorem flat_nodup {n : Nat} {fs : List Nat} (h : IsPair n fs) : ∀ {l : List (Nat × Nat)}, (∀ p ∈ l, fs[p.1]? = some p.2 ∧ p.1 < p.2) → (l.map Prod.fst).Nodup → (flat l).Nodup
  | [], _, _ => List.nodup_nil
  | p :: r, ho, hd => by
    have hp := ho p List.mem_cons_self
    obtain ⟨n1, n2⟩ := List.nodup_cons.mp (show (p.1 :: r.map Prod.fst).Nodup from hd)
    have hr : ∀ q ∈ r, fs[q.1]? = some q.2 ∧ q.1 < q.2 := fun q hq => ho q (List.mem_cons_of_mem _ hq)
    have ih := flat_nodup h hr n2
    have bp := (h.back hp.1).1
    have ne1 : ∀ q ∈ r, p.1 ≠ q.1 := fun q hq e => n1 (List.mem_map.mpr ⟨q, hq, e.symm⟩)
    show (p.1 :: p.2 :: flat r).Nodup
    refine List.nodup_cons.mpr ⟨fun hm => ?_, List.nodup_cons.mpr ⟨fun hm => ?_, ih⟩⟩
    · rcases List.mem_cons.mp hm with e | e
      · omega
      · obtain ⟨q, hq, e⟩ := flat_mem.mp e
        have hq' := hr q hq
        rcases e with e | e
        · exact ne1 q hq e
        · have bq := (h.back hq'.1).1
          rw [← e, hp.1] at bq
          have := Option.some.inj bq
          omega
    · obtain ⟨q, hq, e⟩ := flat_mem.mp hm
      have hq' := hr q hq
      rcases e with e | e
      · have e1 := hq'.1
        rw [← e, bp] at e1
        have := Option.some.inj e1
        omega
      · have bq := (h.back hq'.1).1
        rw [← e, bp] at bq
        exact ne1 q hq (Option.some.inj bq)
theorem jns_perm {n : Nat} {fs : List Nat} (h : IsPair (2 * n) fs) : (flat (jns fs n)).Perm (List.range (2 * n)) := by
  refine (List.perm_ext_iff_of_nodup (flat_nodup h (jns_ok h) (jns_nodup h)) List.nodup_range).mpr fun z => ?_
  rw [flat_mem, List.mem_range]
  constructor
  · rintro ⟨p, hp, e⟩
    obtain ⟨b1, b2, b3, _⟩ := h.back (jns_ok h p hp).1
    rcases e with e | e <;> omega
  · intro hz
    obtain ⟨y, ey, hy, hne, eb⟩ := h.par z hz
    by_cases c : z < y
    · exact ⟨_, jns_all h ey c, .inl rfl⟩
    · exact ⟨_, jns_all h eb (by omega), .inr rfl⟩
theorem flat_two {f : Nat → Bool} : ∀ {l : List (Nat × Nat)}, (∀ p ∈ l, f p.1 = true ∧ f p.2 = true) → (flat l).countP f = 2 * l.length
  | [], _ => rfl
  | p :: r, h => by
    have hp := h p List.mem_cons_self
    show (p.1 :: p.2 :: flat r).countP f = _
    rw [List.countP_cons_of_pos hp.1, List.countP_cons_of_pos hp.2, flat_two fun q hq => h q (List.mem_cons_of_mem _ hq), List.length_cons]
    omega
theorem flat_none {f : Nat → Bool} : ∀ {l : List (Nat × Nat)}, (∀ p ∈ l, f p.1 = false ∧ f p.2 = false) → (flat l).countP f = 0
  | [], _ => rfl
  | p :: r, h => by
    have hp := h p List.mem_cons_self
    show (p.1 :: p.2 :: flat r).countP f = _
    rw [List.countP_cons_of_neg (by rw [hp.1]; decide), List.countP_cons_of_neg (by rw [hp.2]; decide), flat_none fun q hq => h q (List.mem_cons_of_mem _ hq)]
theorem flat_one {f : Nat → Bool} : ∀ {l : List (Nat × Nat)}, (∀ p ∈ l, f p.1 = true ∧ f p.2 = false) → (flat l).countP f = l.length
  | [], _ => rfl
  | p :: r, h => by
    have hp := h p List.mem_cons_self
    show (p.1 :: p.2 :: flat r).countP f = _
    rw [List.countP_cons_of_pos hp.1, List.countP_cons_of_neg (by rw [hp.2]; decide), flat_one fun q hq => h q (List.mem_cons_of_mem _ hq), List.length_cons]
theorem range_low (n : Nat) : (List.range (2 * n)).countP (fun z => decide (z < n)) = n := by
  rw [show 2 * n = n + n by omega, List.range_add, List.countP_append, List.countP_eq_length.mpr (fun a ha => decide_eq_true (List.mem_range.mp ha)), List.countP_eq_zero.mpr (fun a ha => ?_), List.length_range, Nat.add_zero]
  obtain ⟨x, _, rfl⟩ := List.mem_map.mp ha
  rw [decide_eq_true_iff]; omega
theorem ups_los {n : Nat} {fs : List Nat} (h : IsPair (2 * n) fs) : (ups fs n).length = (los fs n).length := by
  have hp := jns_perm h
  have hl := hp.length_eq
  have hc := hp.countP_eq (fun z => decide (z < n))
  rw [range_low] at hc
  rw [flat_len, List.length_range] at hl
  unfold jns at hc hl
  rw [List.length_append, List.length_append, List.length_map, List.length_map] at hl
  have x1 : (flat (ups fs n)).countP (fun z => decide (z < n)) = 2 * (ups fs n).length := flat_two fun p hp => by
    have := ups_mem h hp
    exact ⟨decide_eq_true (by omega), decide_eq_true (by omega)⟩
  have x2 : (flat ((los fs n).map (fun p => (n + p.1, n + p.2)))).countP (fun z => decide (z < n)) = 0 := flat_none fun p hp => by
    obtain ⟨r, hr, rfl⟩ := List.mem_map.mp hp
    exact ⟨decide_eq_false (by show ¬ n + r.1 < n; omega), decide_eq_false (by show ¬ n + r.2 < n; omega)⟩
  have x3 : (flat ((sts fs n).map (fun p => (p.1, n + p.2)))).countP (fun z => decide (z < n)) = ((sts fs n).map (fun p => (p.1, n + p.2))).length := flat_one fun p hp => by
    obtain ⟨r, hr, rfl⟩ := List.mem_map.mp hp
    have := sts_mem h hr
    exact ⟨decide_eq_true (by show r.1 < n; omega), decide_eq_false (by show ¬ n + r.2 < n; omega)⟩
  rw [flat_app, flat_app, List.countP_append, List.countP_append, x1, x2, x3, List.length_map] at hc
  omega
end Pc
namespace Pc
/-! ### ways along a sheet and a pairing -/
/-- nodup numbers below n are n at most -/
theorem few_below : ∀ (n : Nat) (l : List Nat), l.Nodup → (∀ x ∈ l, x < n) → l.length ≤ n
  | 0, l, _, h => by
    cases l with
    | nil => exact Nat.le_refl _
    | cons a r => exact absurd (h a List.mem_cons_self) (Nat.not_lt_zero _)
  | n + 1, l, hd, h => by
    by_cases hm : n ∈ l
    · have h1 : (l.erase n).length = l.length - 1 := List.length_erase_of_mem hm
      have h2 := few_below n (l.erase n) (hd.erase n) (fun x hx => by
        have hx' := (hd.mem_erase_iff).mp hx
        have := h x hx'.2
        have := hx'.1
        omega)
      omega
    · have h2 := few_below n l hd (fun x hx => by
        have := h x hx
        have : x ≠ n := fun e => hm (e ▸ hx)
        omega)
      omega
/-- a function on the first n + 1 numbers into the n first ones takes one value twice -/
theorem pigeon (n : Nat) (f : Nat → Nat) (h : ∀ i, i ≤ n → f i < n) : ∃ i j, i < j ∧ j ≤ n ∧ f i = f j := by
  apply Classical.byContradiction
  intro hn
  have hd : ((List.range (n + 1)).map f).Nodup := by
    rw [List.nodup_iff_pairwise_ne, List.pairwise_map]
    refine List.Pairwise.imp_of_mem ?_ List.pairwise_lt_range
    intro a b ha hb hab e
    exact hn ⟨a, b, hab, by have := List.mem_range.mp hb; omega, e⟩
  have := few_below n _ hd (fun x hx => by
    obtain ⟨i, hi, rfl⟩ := List.mem_map.mp hx
    exact h i (by have := List.mem_range.mp hi; omega))
  rw [List.length_map, List.length_range] at this
  omega
section
variable (fs ps : List Nat) (n : Nat)
/-- the whole way from an end: along the join, along the couple, and so on until a lower end -/
inductive Trail : Nat → List Nat → Prop
  | stop {z : Nat} : n ≤ fs.getD z 0 → Trail z [z, fs.getD z 0]
  | go {z : Nat} {l : List Nat} : fs.getD z 0 < n → Trail (ps.getD (fs.getD z 0) 0) l → Trail z (z :: fs.getD z 0 :: l)
/-- where the steps of a way begin -/
def hop (z : Nat) : Nat → Nat
  | 0 => z
  | k + 1 => ps.getD (fs.getD (hop z k) 0) 0
end
theorem IsPair.d {n : Nat} {ps : List Nat} (h : IsPair n ps) {x : Nat} (hx : x < n) : ps.getD x 0 < n ∧ ps.getD x 0 ≠ x ∧ ps.getD (ps.getD x 0) 0 = x ∧ ps[x]? = some (ps.getD x 0) := by
  obtain ⟨y, h1, h2, h3, h4⟩ := h.par x hx
  rw [getD_of h1]
  exact ⟨h2, h3, getD_of h4, h1⟩
theorem IsPair.inj {n : Nat} {ps : List Nat} (h : IsPair n ps) {x y : Nat} (hx : x < n) (hy : y < n) (e : ps.getD x 0 = ps.getD y 0) : x = y := by
  rw [← (h.d hx).2.2.1, ← (h.d hy).2.2.1, e]
theorem Trail.det {fs ps : List Nat} {n z : Nat} {l m : List Nat} (h : Trail fs ps n z l) : Trail fs ps n z m → l = m := by
  induction h generalizing m with
  | stop h1 => intro h; cases h with
    | stop _ => rfl
    | go h2 _ => omega
  | go h1 _ ih => intro h; cases h with
    | stop h2 => omega
    | go _ h3 => rw [ih h3]
theorem Trail.len {fs ps : List Nat} {n z : Nat} {l : List Nat} (h : Trail fs ps n z l) : 2 ≤ l.length ∧ l.length % 2 = 0 ∧ n ≤ l.getLastD 0 := by
  induction h with
  | stop h1 => exact ⟨Nat.le_refl _, by simp only [List.length_cons, List.length_nil], h1⟩
  | @go z l h1 _ ih =>
    refine ⟨by simp only [List.length_cons]; omega, by simp only [List.length_cons]; omega, ?_⟩
    cases l with
    | nil => exact absurd ih.1 (by decide)
    | cons a r => exact ih.2.2
theorem hop_step (fs ps : List Nat) (z k : Nat) : hop fs ps (ps.getD (fs.getD z 0) 0) k = hop fs ps z (k + 1) := by
  induction k with
  | zero => rfl
  | succ k ih => rw [hop, ih]; rfl
theorem trail_of {fs ps : List Nat} {n : Nat} : ∀ (m z : Nat), n ≤ fs.getD (hop fs ps z m) 0 → ∃ l, Trail fs ps n z l ∧ l.length ≤ 2 * m + 2
  | 0, z, h => ⟨_, .stop h, Nat.le_refl _⟩
  | m + 1, z, h => by
    by_cases c : fs.getD z 0 < n
    · obtain ⟨l, h1, h2⟩ := trail_of m (ps.getD (fs.getD z 0) 0) (by rw [hop_step]; exact h)
      exact ⟨_, .go c h1, by simp only [List.length_cons]; omega⟩
    · exact ⟨_, .stop (by omega), by simp only [List.length_cons, List.length_nil]; omega⟩
/-- every way from a lower end comes to a lower end -/
theorem trail_ex {fs ps : List Nat} {n : Nat} (hF : IsPair (2 * n) fs) (hP : IsPair n ps) {z : Nat} (hz : n ≤ z) (hz2 : z < 2 * n) : ∃ l, Trail fs ps n z l ∧ l.length ≤ 2 * n + 2 := by
  apply Classical.byContradiction
  intro hn
  have small : ∀ k, k ≤ n → fs.getD (hop fs ps z k) 0 < n := fun k hk => by
    apply Classical.byContradiction
    intro h
    obtain ⟨l, h1, h2⟩ := trail_of (fs := fs) (ps := ps) (n := n) k z (by omega)
    exact hn ⟨l, h1, by omega⟩
  have hl : ∀ k, k ≤ n → hop fs ps z k < 2 * n ∧ (0 < k → hop fs ps z k < n) := fun k hk => by
    cases k with
    | zero => exact ⟨hz2, fun h => absurd h (Nat.lt_irrefl _)⟩
    | succ k =>
      have := (hP.d (small k (by omega))).1
      exact ⟨by show ps.getD _ 0 < 2 * n; omega, fun _ => this⟩
  have diff : ∀ i j, i < j → j ≤ n → hop fs ps z i ≠ hop fs ps z j := fun i => by
    induction i with
    | zero =>
      intro j hj hn2 e
      have := (hl j hn2).2 hj
      have e' : z = hop fs ps z j := e
      omega
    | succ i ih =>
      intro j hj hn2 e
      cases j with
      | zero => omega
      | succ j =>
        have e1 : fs.getD (hop fs ps z i) 0 = fs.getD (hop fs ps z j) 0 := hP.inj (small i (by omega)) (small j (by omega)) e
        exact ih j (by omega) (by omega) (hF.inj (hl i (by omega)).1 (hl j (by omega)).1 e1)
  obtain ⟨i, j, h1, h2, h3⟩ := pigeon n (fun k => fs.getD (hop fs ps z k) 0) small
  exact diff i j h1 h2 (hF.inj (hl i (by omega)).1 (hl j h2).1 h3)
/-- the way of a lower end, and where it ends -/
noncomputable def trl (fs ps : List Nat) (n z : Nat) : List Nat := open Classical in if h : ∃ l, Trail fs ps n z l then h.choose else []
noncomputable def far (fs ps : List Nat) (n z : Nat) : Nat := (trl fs ps n z).getLastD 0
theorem Trail.eq {fs ps : List Nat} {n z : Nat} {l : List Nat} (h : Trail fs ps n z l) : trl fs ps n z = l := by
  unfold trl
  rw [dif_pos ⟨l, h⟩]
  exact (Exists.choose_spec (⟨l, h⟩ : ∃ l, Trail fs ps n z l)).det h
theorem trl_trail {fs ps : List Nat} {n : Nat} (hF : IsPair (2 * n) fs) (hP : IsPair n ps) {z : Nat} (hz : n ≤ z) (hz2 : z < 2 * n) : Trail fs ps n z (trl fs ps n z) ∧ (trl fs ps n z).length ≤ 2 * n + 2 := by
  obtain ⟨l, h1, h2⟩ := trail_ex hF hP hz hz2
  rw [h1.eq]; exact ⟨h1, h2⟩
/-- what is read -/
noncomputable def rd (fs ps : List Nat) (n : Nat) : List Nat := (List.range n).map fun x => far fs ps n (n + x) - n
end Pc
namespace Pc
theorem lastc {l : List Nat} (h : 2 ≤ l.length) (a b d : Nat) : (a :: b :: l).getLastD d = l.getLastD d := by
  cases l with
  | nil => exact absurd h (by decide)
  | cons x r => rfl
theorem Trail.last {fs ps : List Nat} {n z : Nat} {l : List Nat} (hF : IsPair (2 * n) fs) (hP : IsPair n ps) (h : Trail fs ps n z l) : z < 2 * n → l.getLastD 0 < 2 * n := by
  induction h with
  | @stop z h1 => intro hz; exact (hF.d hz).1
  | @go z l h1 h2 ih =>
    intro hz
    rw [lastc h2.len.1]
    have := (hP.d h1).1
    exact ih (by omega)
theorem Trail.rev {fs ps : List Nat} {n z : Nat} {l : List Nat} (hF : IsPair (2 * n) fs) (hP : IsPair n ps) (h : Trail fs ps n z l) : z < 2 * n → ∀ t : List Nat, (n ≤ z → t = []) → (z < n → Trail fs ps n (ps.getD z 0) t) → Trail fs ps n (l.getLastD 0) (l.reverse ++ t) := by
  have one : ∀ {z : Nat} {t : List Nat}, z < 2 * n → (n ≤ z → t = []) → (z < n → Trail fs ps n (ps.getD z 0) t) → Trail fs ps n (fs.getD z 0) (fs.getD z 0 :: z :: t) := fun {z t} hz h1 h2 => by
    have e := (hF.d hz).2.2.1
    by_cases c : z < n
    · have := Trail.go (fs := fs) (ps := ps) (n := n) (z := fs.getD z 0) (l := t) (by rw [e]; exact c) (by rw [e]; exact h2 c)
      rw [e] at this; exact this
    · rw [h1 (by omega)]
      have := Trail.stop (fs := fs) (ps := ps) (n := n) (z := fs.getD z 0) (by rw [e]; omega)
      rw [e] at this; exact this
  induction h with
  | @stop z h1 => intro hz t a b; exact one hz a b
  | @go z l h1 h2 ih =>
    intro hz t a b
    have hz' := hP.d h1
    rw [lastc h2.len.1]
    have := ih (by omega) (fs.getD z 0 :: z :: t) (fun x => by omega) (fun _ => by rw [hz'.2.2.1]; exact one hz a b)
    simp only [List.reverse_cons, List.append_assoc, List.cons_append, List.nil_append]
    exact this
theorem Trail.back {fs ps : List Nat} {n z : Nat} {l : List Nat} (hF : IsPair (2 * n) fs) (hP : IsPair n ps) (h : Trail fs ps n z l) (hz : n ≤ z) (hz2 : z < 2 * n) : Trail fs ps n (l.getLastD 0) l.reverse := by
  have := h.rev hF hP hz2 [] (fun _ => rfl) (fun h => by omega)
  rw [List.append_nil] at this; exact this
theorem Trail.head {fs ps : List Nat} {n z : Nat} {l : List Nat} (h : Trail fs ps n z l) : l[0]? = some z := by
  cases h <;> rfl
theorem Trail.adj {fs ps : List Nat} {n z : Nat} {l : List Nat} (hF : IsPair (2 * n) fs) (hP : IsPair n ps) (h : Trail fs ps n z l) : z < 2 * n → ∀ i x, l[i]? = some x → l[i + 1]? ≠ some x := by
  induction h with
  | @stop z h1 =>
    intro hz i x h1 h2
    have hi : i + 1 < 2 := get_lt h2
    have : i = 0 := by omega
    subst this
    have e1 : z = x := Option.some.inj h1
    have e2 : fs.getD z 0 = x := Option.some.inj h2
    exact (hF.d hz).2.1 (e2.trans e1.symm)
  | @go z l h1 h2 ih =>
    intro hz i x g1 g2
    have hz' := hP.d h1
    cases i with
    | zero =>
      have e1 : z = x := Option.some.inj g1
      have e2 : fs.getD z 0 = x := Option.some.inj g2
      exact (hF.d hz).2.1 (e2.trans e1.symm)
    | succ i =>
      cases i with
      | zero =>
        have e1 : fs.getD z 0 = x := Option.some.inj g1
        have e2 : some (ps.getD (fs.getD z 0) 0) = some x := h2.head.symm.trans g2
        exact hz'.2.1 ((Option.some.inj e2).trans e1.symm)
      | succ i => exact ih (by omega) i x g1 g2
theorem last_get {l : List Nat} (h : 0 < l.length) : l[l.length - 1]? = some (l.getLastD 0) := by
  cases l with
  | nil => exact absurd h (by decide)
  | cons a r => rw [← List.getLast?_eq_getElem?, List.getLast?_eq_some_getLast (List.cons_ne_nil a r), List.getLastD_cons, ← List.getLast_eq_getLastD (h := List.cons_ne_nil a r)]
theorem far_is {fs ps : List Nat} {n z : Nat} {l : List Nat} (h : Trail fs ps n z l) : far fs ps n z = l.getLastD 0 := by
  unfold far; rw [h.eq]
theorem far_d {fs ps : List Nat} {n : Nat} (hF : IsPair (2 * n) fs) (hP : IsPair n ps) {z : Nat} (hz : n ≤ z) (hz2 : z < 2 * n) : n ≤ far fs ps n z ∧ far fs ps n z < 2 * n ∧ far fs ps n (far fs ps n z) = z ∧ far fs ps n z ≠ z := by
  obtain ⟨l, h1, _⟩ := trail_ex hF hP hz hz2
  have hb := h1.back hF hP hz hz2
  have hl := h1.len
  have e := far_is h1
  have e2 := far_is hb
  rw [e, e2]
  refine ⟨hl.2.2, h1.last hF hP hz2, ?_, fun c => ?_⟩
  · have g := last_get (l := l.reverse) (by rw [List.length_reverse]; omega)
    rw [List.length_reverse, List.getElem?_reverse (by omega), show l.length - 1 - (l.length - 1) = 0 by omega, h1.head] at g
    exact (Option.some.inj g).symm
  · rw [c] at hb
    have e3 : l = l.reverse := h1.det hb
    obtain ⟨k, hk⟩ : ∃ k, l.length = 2 * k := ⟨l.length / 2, by omega⟩
    have g1 : l[k - 1]? = l[k]? := by
      have g : l[k - 1]? = l.reverse[k - 1]? := congrArg (fun (m : List Nat) => m[k - 1]?) e3
      rw [List.getElem?_reverse (by omega), show l.length - 1 - (k - 1) = k by omega] at g
      exact g
    have lt : k - 1 < l.length := by omega
    exact h1.adj hF hP hz2 (k - 1) l[k - 1] (List.getElem?_eq_getElem lt) (by rw [show k - 1 + 1 = k by omega, ← g1]; exact List.getElem?_eq_getElem lt)
theorem rd_len (fs ps : List Nat) (n : Nat) : (rd fs ps n).length = n := by unfold rd; rw [List.length_map, List.length_range]
theorem rd_get (fs ps : List Nat) {n x : Nat} (h : x < n) : (rd fs ps n)[x]? = some (far fs ps n (n + x) - n) := by
  unfold rd; rw [List.getElem?_map, List.getElem?_range h]; rfl
theorem rd_pair {fs ps : List Nat} {n : Nat} (hF : IsPair (2 * n) fs) (hP : IsPair n ps) : IsPair n (rd fs ps n) := by
  refine ⟨rd_len _ _ _, fun x hx => ?_⟩
  obtain ⟨h1, h2, h3, h4⟩ := far_d hF hP (z := n + x) (by omega) (by omega)
  refine ⟨_, rd_get fs ps hx, by omega, by omega, ?_⟩
  rw [rd_get fs ps (by omega), show n + (far fs ps n (n + x) - n) = far fs ps n (n + x) by omega, h3, show n + x - n = x by omega]
/-- a sheet that differs only at four ends -/
structure Near (fs gs : List Nat) (n A B c d : Nat) : Prop where
  la : n ≤ A
  lb : n ≤ B
  ab : A ≠ B
  fc : fs.getD c 0 = A
  un : ∀ z, fs.getD z 0 = A → z = c
  fd : fs.getD d 0 = B
  fb : fs.getD B 0 = d
  gc : gs.getD c 0 = d
  eq : ∀ z, z ≠ A → z ≠ B → z ≠ c → z ≠ d → gs.getD z 0 = fs.getD z 0
theorem Trail.near {fs gs ps : List Nat} {n A B c d z : Nat} {l : List Nat} (hP : IsPair n ps) (N : Near fs gs n A B c d) (h : Trail fs ps n z l) : z ≠ A → z ≠ B → l.getLastD 0 ≠ A → l.getLastD 0 ≠ B → Trail gs ps n z l := by
  have la := N.la
  have lb := N.lb
  induction h with
  | @stop z h1 =>
    intro hA hB eA eB
    have e : gs.getD z 0 = fs.getD z 0 := N.eq z hA hB (fun e => eA (by rw [e]; exact N.fc)) (fun e => eB (by rw [e]; exact N.fd))
    rw [← e]; exact .stop (by rw [e]; exact h1)
  | @go z l h1 h2 ih =>
    intro hA hB eA eB
    rw [lastc h2.len.1] at eA eB
    have e : gs.getD z 0 = fs.getD z 0 := N.eq z hA hB (fun e => by rw [e, N.fc] at h1; omega) (fun e => by rw [e, N.fd] at h1; omega)
    have hz' := (hP.d h1).1
    have t := ih (by omega) (by omega) eA eB
    rw [← e] at h1 t ⊢
    exact .go h1 t
theorem Trail.over {fs gs ps : List Nat} {n A B c d z : Nat} {l m : List Nat} (hP : IsPair n ps) (N : Near fs gs n A B c d) (hm : Trail fs ps n B m) (mA : m.getLastD 0 ≠ A) (mB : m.getLastD 0 ≠ B) (h : Trail fs ps n z l) : z ≠ A → z ≠ B → l.getLastD 0 = A → ∃ k, Trail gs ps n z k ∧ k.getLastD 0 = m.getLastD 0 := by
  have la := N.la
  have lb := N.lb
  have fb := N.fb
  induction h with
  | @stop z h1 =>
    intro hA hB eA
    by_cases zc : z = c
    · subst zc
      cases hm with
      | stop h => 
        refine ⟨_, .stop (by rw [N.gc, ← fb]; exact h), ?_⟩
        rw [N.gc, ← fb]; rfl
      | @go _ m h h2 =>
        rw [lastc h2.len.1] at mA mB ⊢
        rw [fb] at h h2
        have := hP.d h
        refine ⟨_, .go (by rw [N.gc]; exact h) (by rw [N.gc]; exact h2.near hP N (by omega) (by omega) mA mB), ?_⟩
        rw [lastc h2.len.1]
    · exact absurd (N.un z eA) zc
  | @go z l h1 h2 ih =>
    intro hA hB eA
    rw [lastc h2.len.1] at eA
    have e : gs.getD z 0 = fs.getD z 0 := N.eq z hA hB (fun e => by rw [e, N.fc] at h1; omega) (fun e => by rw [e, N.fd] at h1; omega)
    have hz' := (hP.d h1).1
    obtain ⟨k, t1, t2⟩ := ih (by omega) (by omega) eA
    rw [← e] at h1 t1
    refine ⟨_, .go h1 t1, ?_⟩
    rw [lastc t1.len.1]; exact t2

theorem jn_near {fs : List Nat} {n A B : Nat} (hF : IsPair (2 * n) fs) (hA : n ≤ A) (hB : n ≤ B) (hA2 : A < 2 * n) (hB2 : B < 2 * n) (hab : A ≠ B) (hc : fs.getD A 0 ≠ B) : Near fs (jn fs A B) n A B (fs.getD A 0) (fs.getD B 0) ∧ Near fs (jn fs A B) n B A (fs.getD B 0) (fs.getD A 0) ∧ (jn fs A B).getD A 0 = B ∧ (jn fs A B).getD B 0 = A := by
  obtain ⟨a1, a2, a3, a4⟩ := hF.d hA2
  obtain ⟨b1, b2, b3, b4⟩ := hF.d hB2
  have G := jn_get hF hab a4 b4 hc
  obtain ⟨x1, x2, x3, x4, _⟩ := four hF hab a4 b4 hc
  have D : ∀ z, (jn fs A B).getD z 0 = ((jn fs A B)[z]?).getD 0 := fun z => List.getD_eq_getElem?_getD
  have un : ∀ {X : Nat}, n ≤ X → X < 2 * n → ∀ z, fs.getD z 0 = X → z = fs.getD X 0 := fun {X} h1 h2 z e => by
    by_cases hz : z < 2 * n
    · rw [← e, (hF.d hz).2.2.1]
    · rw [List.getD_eq_getElem?_getD, List.getElem?_eq_none (by rw [hF.len]; omega)] at e
      have e' : 0 = X := e
      omega
  have E : ∀ z, z ≠ A → z ≠ B → z ≠ fs.getD A 0 → z ≠ fs.getD B 0 → (jn fs A B).getD z 0 = fs.getD z 0 := fun z h1 h2 h3 h4 => by
    rw [D, G, if_neg h1, if_neg h2, if_neg h3, if_neg h4, ← List.getD_eq_getElem?_getD]
  refine ⟨⟨hA, hB, hab, a3, un hA hA2, b3, rfl, ?_, E⟩, ⟨hB, hA, hab.symm, b3, un hB hB2, a3, rfl, ?_, fun z h1 h2 h3 h4 => E z h2 h1 h4 h3⟩, ?_, ?_⟩
  · rw [D, G, if_neg x1, if_neg hc, if_pos rfl]; rfl
  · rw [D, G, if_neg x3, if_neg x2, if_neg (Ne.symm x4), if_pos rfl]; rfl
  · rw [D, G, if_pos rfl]; rfl
  · rw [D, G, if_neg hab.symm, if_pos rfl]; rfl
theorem IsPair.ofd {fs : List Nat} {n x y : Nat} (h : IsPair n fs) (hx : x < n) (e : fs.getD x 0 = y) : fs[x]? = some y := by
  rw [← e]; exact (h.d hx).2.2.2
/-- a call added to a sheet is a call behind what is read -/
theorem rd_jn {fs ps : List Nat} {n a b : Nat} (hF : IsPair (2 * n) fs) (hP : IsPair n ps) (hab : a ≠ b) (ha : a < n) (hb : b < n) : rd (jn fs (n + a) (n + b)) ps n = jn (rd fs ps n) a b := by
  have hR := rd_pair hF hP
  by_cases hc : fs.getD (n + a) 0 = n + b
  · rw [jn_same (hF.ofd (by omega) hc)]
    have t : Trail fs ps n (n + a) [n + a, n + b] := by
      have := Trail.stop (fs := fs) (ps := ps) (n := n) (z := n + a) (by rw [hc]; omega)
      rw [hc] at this; exact this
    refine (jn_same ?_).symm
    rw [rd_get fs ps ha, far_is t]
    show some (n + b - n) = some b
    rw [Nat.add_sub_cancel_left]
  · obtain ⟨N1, N2, gA, gB⟩ := jn_near hF (A := n + a) (B := n + b) (by omega) (by omega) (by omega) (by omega) (by omega) hc
    have hF' : IsPair (2 * n) (jn fs (n + a) (n + b)) := jn_pair hF (by omega) (by omega) (by omega)
    have fA := far_d hF hP (z := n + a) (by omega) (by omega)
    have fB := far_d hF hP (z := n + b) (by omega) (by omega)
    have tA : Trail (jn fs (n + a) (n + b)) ps n (n + a) [n + a, n + b] := by
      have := Trail.stop (fs := jn fs (n + a) (n + b)) (ps := ps) (n := n) (z := n + a) (by rw [gA]; omega)
      rw [gA] at this; exact this
    have tB : Trail (jn fs (n + a) (n + b)) ps n (n + b) [n + b, n + a] := by
      have := Trail.stop (fs := jn fs (n + a) (n + b)) (ps := ps) (n := n) (z := n + b) (by rw [gB]; omega)
      rw [gB] at this; exact this
    obtain ⟨lA, hlA, _⟩ := trail_ex hF hP (z := n + a) (by omega) (by omega)
    obtain ⟨lB, hlB, _⟩ := trail_ex hF hP (z := n + b) (by omega) (by omega)
    have eA := far_is hlA
    have eB := far_is hlB
    have ga := rd_get fs ps ha
    have gb := rd_get fs ps hb
    refine List.ext_getElem? fun x => ?_
    by_cases hx : x < n
    · rw [rd_get _ ps hx]
      have fX := far_d hF hP (z := n + x) (by omega) (by omega)
      obtain ⟨lX, hlX, _⟩ := trail_ex hF hP (z := n + x) (by omega) (by omega)
      have eX := far_is hlX
      by_cases xa : x = a
      · subst xa
        rw [far_is tA, show [n + x, n + b].getLastD 0 - n = b by show n + b - n = b; omega]
        by_cases c : far fs ps n (n + x) - n = b
        · rw [jn_same (by rw [rd_get fs ps hx, c]), rd_get fs ps hx, c]
        · rw [jn_get hR hab ga gb c, if_pos rfl]
      · by_cases xb : x = b
        · subst xb
          rw [far_is tB, show [n + x, n + a].getLastD 0 - n = a by show n + a - n = a; omega]
          by_cases c : far fs ps n (n + a) - n = x
          · rw [jn_same (by rw [rd_get fs ps ha, c]), rd_get fs ps hx, show n + x = far fs ps n (n + a) by omega, fA.2.2.1, Nat.add_sub_cancel_left]
          · rw [jn_get hR hab ga gb c, if_neg (Ne.symm hab), if_pos rfl]
        · by_cases yA : far fs ps n (n + x) = n + a
          · -- the way of x came to a
            have e1 : far fs ps n (n + a) = n + x := by rw [← yA]; exact fX.2.2.1
            have e2 : far fs ps n (n + b) ≠ n + a := fun z => by
              have := fB.2.2.1
              rw [z, e1] at this; omega
            obtain ⟨k, k1, k2⟩ := Trail.over hP N1 hlB (by rw [← eB]; exact e2) (by rw [← eB]; exact fB.2.2.2) hlX (by omega) (by omega) (by rw [← eX]; exact yA)
            rw [far_is k1, k2, ← eB, jn_get hR hab ga gb (by omega), if_neg xa, if_neg xb, if_pos (by omega)]
          · by_cases yB : far fs ps n (n + x) = n + b
            · have e1 : far fs ps n (n + b) = n + x := by rw [← yB]; exact fX.2.2.1
              have e2 : far fs ps n (n + a) ≠ n + b := fun z => by
                have := fA.2.2.1
                rw [z, e1] at this; omega
              obtain ⟨k, k1, k2⟩ := Trail.over hP N2 hlA (by rw [← eA]; exact e2) (by rw [← eA]; exact fA.2.2.2) hlX (by omega) (by omega) (by rw [← eX]; exact yB)
              have e3 : far fs ps n (n + a) ≠ n + x := fun z => by
                have := fA.2.2.1
                rw [z, yB] at this; omega
              rw [far_is k1, k2, ← eA, jn_get hR hab ga gb (by omega), if_neg xa, if_neg xb, if_neg (by omega), if_pos (by omega)]
            · have t := hlX.near hP N1 (by omega) (by omega) (by rw [← eX]; exact yA) (by rw [← eX]; exact yB)
              rw [far_is t, ← eX, ← rd_get fs ps hx]
              by_cases c : far fs ps n (n + a) - n = b
              · rw [jn_same (by rw [rd_get fs ps ha, c])]
              · have e1 : far fs ps n (n + a) ≠ n + x := fun z => by
                  have := fA.2.2.1
                  rw [z] at this; exact yA this
                have e2 : far fs ps n (n + b) ≠ n + x := fun z => by
                  have := fB.2.2.1
                  rw [z] at this; exact yB this
                rw [jn_get hR hab ga gb c, if_neg xa, if_neg xb, if_neg (by omega), if_neg (by omega)]
    · rw [List.getElem?_eq_none (by rw [rd_len]; omega), List.getElem?_eq_none (by rw [jn_len, rd_len]; omega)]
end Pc
namespace Pc
theorem rd_emp {ps : List Nat} {n : Nat} (hn : 0 < n) (hP : IsPair n ps) : rd (emp n) ps n = ps := by
  refine List.ext_getElem? fun x => ?_
  by_cases hx : x < n
  · obtain ⟨h1, _, _, h4⟩ := hP.d hx
    have e1 : (emp n).getD (n + x) 0 = x := getD_of (emp_hi hx)
    have e2 : (emp n).getD (ps.getD x 0) 0 = n + ps.getD x 0 := getD_of (emp_lo h1)
    have t2 := Trail.stop (fs := emp n) (ps := ps) (n := n) (z := ps.getD x 0) (by rw [e2]; omega)
    have t := Trail.go (fs := emp n) (ps := ps) (n := n) (z := n + x) (by rw [e1]; exact hx) (by rw [e1]; exact t2)
    rw [rd_get _ ps hx, far_is t, h4]
    show some ((emp n).getD (ps.getD x 0) 0 - n) = _
    rw [e2, Nat.add_sub_cancel_left]
  · rw [List.getElem?_eq_none (by rw [rd_len]; omega), List.getElem?_eq_none (by rw [hP.len]; omega)]
theorem rd_runs {n : Nat} {ps : List Nat} (hP : IsPair n ps) : ∀ (qs : List (Nat × Nat)) {fs : List Nat}, IsPair (2 * n) fs → Calls n qs → rd (shw n qs fs) ps n = runs qs (rd fs ps n)
  | [], _, _, _ => rfl
  | q :: r, fs, hF, hc => by
    have h1 := hc q List.mem_cons_self
    have h2 := rd_runs hP r (jn_pair hF (a := n + q.1) (b := n + q.2) (by omega) (by omega) (by omega)) (fun x hx => hc x (List.mem_cons_of_mem _ hx))
    rw [rd_jn hF hP (by omega) (by omega) h1.2] at h2
    exact h2
/-- guarantee (a) -/
theorem rd_word {n : Nat} {ps : List Nat} {qs : List (Nat × Nat)} (hn : 0 < n) (hP : IsPair n ps) (hc : Calls n qs) : rd (shw n qs (emp n)) ps n = runs qs ps := by
  rw [rd_runs hP qs (emp_pair hn) hc, rd_emp hn hP]
end Pc
namespace Pc
open PySem PySem.Spec PyProof.Rows L2 RZ
/-- x //= c -/
def ipHalf : TIp := fun x y H Q => ∃ i j, x = .int i ∧ y = .int j ∧ (0 < j ∧ j < 1073741824) ∧ Q (.int (i / j)) H
theorem ip_half {X : Cx} : PIp X .FloorDiv ipHalf := by
  intro pins s σ H x y v u Q I r1 r2 h
  obtain ⟨i, j, e1, e2, hj, q⟩ := h
  subst e1 e2
  obtain ⟨t, rfl⟩ := r1
  obtain ⟨t', rfl⟩ := r2
  refine PyProof.Rows.ifloordiv_int (by omega) ?_ (.inl (PyProof.noPylong_small (by omega)))
  rw [Int.fdiv_eq_ediv_of_nonneg i (by omega)]
  exact ⟨.int _, H, I.tok _, ⟨_, rfl⟩, q⟩
theorem bl_dec (a b : Bool) : decide (V.bl a = V.bl b) = (a == b) := by cases a <;> cases b <;> rfl
end Pc
namespace Pc
theorem iteY {b : Bool} {A B : Prop} (h : b = true) (a : A) : if b = true then A else B := by rw [if_pos h]; exact a
theorem iteX {b : Bool} {A B : Prop} (h : b = false) (a : B) : if b = true then A else B := by rw [h, if_neg Bool.false_ne_true]; exact a
end Pc
namespace Pc
open PySem PySem.Spec PyProof.Rows L2 RZ
theorem in_nat (i : Nat) (l : List Nat) : inV (.int (i : Int)) (nv l) = decide (i ∈ l) := by
  unfold inV nv
  rw [List.any_map, Bool.eq_iff_iff, List.any_eq_true, decide_eq_true_iff]
  constructor
  · rintro ⟨x, hx, e⟩
    have e' : eqV (.int (x : Int)) (.int (i : Int)) = true := e
    have : (x : Int) = (i : Int) := by simpa [eqV] using e'
    have : x = i := by omega
    exact this ▸ hx
  · intro h
    exact ⟨i, h, by show eqV (.int (i : Int)) (.int (i : Int)) = true; simp [eqV]⟩
theorem flat_nat (l : List Nat) : (nv l).all flatV = true := by
  unfold nv
  rw [List.all_map, List.all_eq_true]
  exact fun x _ => rfl
end Pc
namespace Pc
open PySem PySem.Spec PyProof.Rows L2 RZ
section
variable {P : Program} {w : World} {K : PySem.W.Frag} {mg : Str → Option Value} {base : Heap}
/-! ### one of some -/
def spOf (K : PySem.W.Frag) : Sp := fun vs H Q _ => ∃ (b a : Addr) (n : Nat) (xs : List V), vs = [.ref b, .ref a] ∧ Box (n + 1) H b ∧ a ≠ b ∧ H a = some (.lst xs) ∧ 0 < xs.length ∧ xs.length ≤ 1000 ∧
  ∀ (H' : Hp) (i : Nat) (v : V), xs[i]? = some v → Keep b H H' → Box n H' b → Q v H'
theorem ok_pick (T : Env K mg) : FnOk P w K mg base CX0 2 T.f_pick T.d_pick ["_law_box_here", "_law_some"] (spOf K) := by
  have GT : FnOk P w K mg base CX0 1 T.f_take T.d_take ["_law_box_here", "_law_below"] spTake := ok_take T
  refine T.F_pick.ok sc_pick (fun vs H Q E h => ?_) (fun cdv A outer s H vs Q E hr h => ?_)
  · obtain ⟨b, a, n, xs, rfl, _⟩ := h
    rfl
  · obtain ⟨b, a, n, xs, rfl, hB, hab, ha, h0, hl, q⟩ := h
    refine ⟨_, pss_one (ps_ret (pe_ix ix_list (pv 1) (pe_call GT hr (by rfl) T.g_take T.F_take.kp T.b_take .nil pass0 (pa_cons (pv 0) (pa_cons (pe_callB call_len_seq (by rfl) T.n_len PySem.boot_len (pa_cons (pv 1) pa_nil)) pa_nil))) (fun _ _ => rfl))), ?_⟩
    refine ⟨.ref a, rfl, .ref b, rfl, .ref a, rfl, a, xs, rfl, .inl (.inl (.inl ha)), b, n, xs.length, rfl, hB, by omega, by omega, fun r H' r0 r1 hB' k => ?_⟩
    obtain ⟨v, hv⟩ := get_some (l := xs) (i := r.toNat) (by omega)
    refine ⟨a, xs, r, v, rfl, rfl, .inl (.inl (k _ _ hab ha)), ?_, q H' r.toNat v hv k hB'⟩
    have := atI_nat hv
    rw [show ((r.toNat : Nat) : Int) = r by omega] at this
    exact this
end
end Pc
namespace Pc
open PySem PySem.Spec PyProof.Rows L2 RZ
section
variable {P : Program} {w : World} {K : PySem.W.Frag} {mg : Str → Option Value} {base : Heap}
/-! ### one call by the law -/
def spAsked (K : PySem.W.Frag) : Sp := fun vs H Q _ => ∃ (p c : Addr) (a b : Nat) (ps : List Nat) (n : Nat), vs = [.ref p, .ref c] ∧ SqT K H p (nv ps) ∧ SqT K H c [.int a, .int b] ∧ IsPair n ps ∧ a < b ∧ b < n ∧
  ∀ (H' : Hp) (t : Addr), Same H H' → H t = none → H' t = some (.tup (nv (jn ps a b))) → Q (.ref t) H'
theorem ok_asked (T : Env K mg) : FnOk P w K mg base CX0 1 T.f_asked T.d_asked ["_law_tie", "_law_call"] (spAsked K) := by
  refine T.F_asked.ok sc_asked (fun vs H Q E h => ?_) (fun cdv A outer s H vs Q E hr h => ?_)
  · obtain ⟨p, c, a, b, ps, n, rfl, _⟩ := h
    rfl
  · obtain ⟨p, c, a, b, ps, n, rfl, hp, hc, hP, hab, hb, q⟩ := h
    refine ⟨_, pss_cons (ps_asg (pv 1) (pg_tup rfl (pgs_cons (pg_name (i := 2) sc_asked.nd rfl (.inl rfl)) (pgs_cons (pg_name (i := 3) sc_asked.nd rfl (.inl rfl)) pgs_nil)))) <|
      pss_cons (ps_set (i := 4) sc_asked.nd rfl (.inl rfl) (pe_callTy call_list_of (by rfl) T.n_list (by decide +kernel) (pa_cons (pv 0) pa_nil))) <|
      pss_cons (ps_if (pt_cmpR op_ne (pe_ix ix_tup (pv 0) (pv 2) (fun _ _ => rfl)) (pv 3) (nomark _))
        (pss_cons (ps_asg (pe_tup (pa_cons (pv 3) (pa_cons (pv 2) pa_nil))) (pg_tup rfl (pgs_cons (pg_sub (pv 4) (pv 2) set_list) (pgs_cons (pg_sub (pv 4) (pv 3) set_list) pgs_nil)))) <|
        pss_one (ps_asg (pe_tup (pa_cons (pe_ix ix_tup (pv 0) (pv 3) (fun _ _ => rfl)) (pa_cons (pe_ix ix_tup (pv 0) (pv 2) (fun _ _ => rfl)) pa_nil)))
          (pg_tup rfl (pgs_cons (pg_sub (pv 4) (pe_ix ix_tup (pv 0) (pv 2) (fun _ _ => rfl)) set_list) (pgs_cons (pg_sub (pv 4) (pe_ix ix_tup (pv 0) (pv 3) (fun _ _ => rfl)) set_list) pgs_nil))))) pss_nil) <|
      pss_one (ps_ret (pe_callTy call_tuple_of (by rfl) T.n_tuple (by decide +kernel) (pa_cons (pv 4) pa_nil))), ?_⟩
    have hl := hP.len
    obtain ⟨u, ea, hu, _⟩ := hP.par a (by omega)
    obtain ⟨v, eb, hv, _⟩ := hP.par b hb
    refine ⟨.ref c, rfl, c, _, rfl, hc, rfl, _, _, rfl, _, _, rfl, rfl, ?_⟩
    refine ⟨.ref p, rfl, p, _, rfl, .inr hp, fun l nl => ?_⟩
    have s0 : Same H (upd H l (.lst (nv ps))) := same_new nl
    have hp0 := same_tup s0 hp
    refine ⟨.ref p, rfl, _, rfl, p, _, _, _, rfl, rfl, hp0, nv_at ea, _, rfl, rfl, _, rfl, ite2 (fun e => ?_) (fun e => ?_)⟩
    · have e1 : u ≠ b := fun z => by
        rw [z, decide_eq_true rfl] at e
        exact absurd e (by decide)
      have ln : ∀ {l : List V}, l.length = ps.length → ∀ {i : Nat}, i < n → ixN l.length (i : Int) = some i := fun {l} hl2 {i} hi => ixN_nat (by rw [hl2, hl]; exact hi)
      refine ⟨_, rfl, _, rfl, by show 2 ≤ sizeLine; decide, fun t nt => ?_⟩
      have s1 : Same (upd H l (.lst (nv ps))) _ := same_new (o := .tup [.int b, .int a]) nt
      refine ⟨t, _, rfl, .inl (.inl upd_same), rfl, _, _, rfl, .ref l, rfl, _, rfl, l, _, _, a, rfl, rfl, s1 _ _ upd_same, ln (nv_length _) (by omega), ?_⟩
      refine ⟨_, _, rfl, .ref l, rfl, _, rfl, l, _, _, b, rfl, rfl, upd_same, ln (by rw [List.length_set, nv_length]) hb, rfl, ?_⟩
      have keepP : ∀ x o, H x = some o → (upd (upd (upd (upd H l (.lst (nv ps))) t (.tup [.int b, .int a])) l (.lst ((nv ps).set a (.int b)))) l (.lst (((nv ps).set a (.int b)).set b (.int a)))) x = some o := fun x o hx => by
        have nx : x ≠ l := ne_of_none hx nl
        rw [upd_ne nx, upd_ne nx]; exact s1 _ _ (s0 _ _ hx)
      have el2 : (upd (upd (upd (upd H l (.lst (nv ps))) t (.tup [.int b, .int a])) l (.lst ((nv ps).set a (.int b)))) l (.lst (((nv ps).set a (.int b)).set b (.int a)))) l = some (.lst (((nv ps).set a (.int b)).set b (.int a))) := upd_same
      revert keepP el2
      generalize upd (upd (upd (upd H l (.lst (nv ps))) t (.tup [.int b, .int a])) l (.lst ((nv ps).set a (.int b)))) l (.lst (((nv ps).set a (.int b)).set b (.int a))) = H2
      intro keepP el2
      have hp2 : SqT K H2 p (nv ps) := same_tup keepP hp
      refine ⟨.ref p, rfl, _, rfl, p, _, _, _, rfl, rfl, hp2, nv_at eb, .ref p, rfl, _, rfl, p, _, _, _, rfl, rfl, hp2, nv_at ea, by show 2 ≤ sizeLine; decide, fun t2 nt2 => ?_⟩
      have s3 : Same H2 _ := same_new (o := .tup [.int v, .int u]) nt2
      have hp3 := same_tup s3 hp2
      refine ⟨t2, _, rfl, .inl (.inl upd_same), rfl, _, _, rfl, .ref l, rfl, .ref p, rfl, _, rfl, p, _, _, _, rfl, rfl, hp3, nv_at ea, l, _, _, u, rfl, rfl, s3 _ _ el2, ln (by rw [List.length_set, List.length_set, nv_length]) hu, ?_⟩
      have hp4 : SqT K (upd (upd H2 t2 (.tup [.int v, .int u])) l (.lst ((((nv ps).set a (.int b)).set b (.int a)).set u (.int v)))) p (nv ps) := same_tup (H := H) (fun x o hx => by rw [upd_ne (ne_of_none hx nl)]; exact s3 _ _ (keepP _ _ hx)) hp
      refine ⟨_, _, rfl, .ref l, rfl, .ref p, rfl, _, rfl, p, _, _, _, rfl, rfl, hp4, nv_at eb, l, _, _, v, rfl, rfl, upd_same, ln (by rw [List.length_set, List.length_set, List.length_set, nv_length]) hv, rfl, ?_⟩
      refine ⟨.ref l, rfl, l, _, rfl, .inl ⟨.inl (.inl upd_same), fun r nr => ?_⟩⟩
      have sf : Same H _ := fun x o hx => by
        have nx : x ≠ l := ne_of_none hx nl
        show (upd (upd (upd H2 t2 (.tup [.int v, .int u])) l (.lst ((((nv ps).set a (.int b)).set b (.int a)).set u (.int v)))) l (.lst (((((nv ps).set a (.int b)).set b (.int a)).set u (.int v)).set v (.int u)))) x = some o
        rw [upd_ne nx, upd_ne nx]
        exact s3 _ _ (keepP _ _ hx)
      refine q _ r (sf.trans (same_new nr)) (sf.free nr) ?_
      rw [upd_same, nv_set, nv_set, nv_set, nv_set]
      unfold jn
      rw [getD_of ea, getD_of eb, if_neg e1]
    · have e1 : u = b := by
        by_cases z : u = b
        · exact z
        · exact absurd (by rw [decide_eq_false (fun y => z (by have := V.int.inj y; omega))]; rfl) e
      subst e1
      refine ⟨.ref l, rfl, l, _, rfl, .inl ⟨.inl (.inl upd_same), fun r nr => ?_⟩⟩
      refine q _ r (s0.trans (same_new nr)) (s0.free nr) ?_
      rw [upd_same, jn_same ea]
end
end Pc
namespace Pc
open PySem PySem.Spec PyProof.Rows L2 RZ
section
variable {P : Program} {w : World} {K : PySem.W.Frag} {mg : Str → Option Value} {base : Heap}
/-! ### the law's own calls, one after another -/
def spToured (K : PySem.W.Frag) : Sp := fun vs H Q _ => ∃ (p wd : Addr) (as : List Addr) (qs : List (Nat × Nat)) (ps : List Nat) (n : Nat), vs = [.ref p, .ref wd] ∧ H p = some (.tup (nv ps)) ∧ SqL K H wd (as.map V.ref) ∧ Prs H as qs ∧ IsPair n ps ∧ Calls n qs ∧
  ∀ (H' : Hp) (t : Addr), Same H H' → H' t = some (.tup (nv (runs qs ps))) → Q (.ref t) H'
theorem ok_toured (T : Env K mg) : FnOk P w K mg base CX0 2 T.f_toured T.d_toured ["_law_tie", "_law_tour"] (spToured K) := by
  have GS : FnOk P w K mg base CX0 1 T.f_asked T.d_asked ["_law_tie", "_law_call"] (spAsked K) := ok_asked T
  refine T.F_toured.ok sc_toured (fun vs H Q E h => ?_) (fun cdv A outer s H vs Q E hr h => ?_)
  · obtain ⟨p, wd, as, qs, ps, n, rfl, _⟩ := h
    rfl
  · obtain ⟨p, wd, as, qs, ps, n, rfl, hp, hw, hA, hP, hc, q⟩ := h
    refine ⟨_, pss_cons (ps_for PassesOwn.never rfl (pi_list (pv 1)) (pg_name (i := 2) sc_toured.nd rfl (.inl rfl)) (pss_one (ps_set (i := 0) sc_toured.nd rfl (.inl rfl) (pe_call GS hr (by rfl) T.g_asked T.F_asked.kp T.b_asked .nil pass0 (pa_cons (pv 0) (pa_cons (pv 2) pa_nil)))))) <|
      pss_one (ps_ret (pv 0)), ?_⟩
    refine ⟨.ref wd, rfl, wd, rfl, ⟨_, hw⟩, for_list (xs := as.map V.ref) (fun i σ H' => Same H H' ∧ ∃ (y : Option V) (t : Addr), σ = [some (.ref t), some (.ref wd), y] ∧ H' t = some (.tup (nv (runs (qs.take i) ps)))) ⟨Same.refl _, none, p, rfl, hp⟩ (fun i σ H' _ h => h.1.seq hw) (fun i x σ H' hx h => ?_) (fun σ H' h => ?_)⟩
    · obtain ⟨sm, y, t, rfl, et⟩ := h
      rw [List.getElem?_map] at hx
      cases ec : as[i]? with
      | none => rw [ec] at hx; cases hx
      | some c =>
      rw [ec] at hx
      cases Option.some.inj hx
      obtain ⟨r, er, hcr⟩ := prs_get hA ec
      have hq := hc r (List.mem_of_getElem? er)
      refine ⟨.ref t, rfl, .ref c, rfl, t, c, r.1, r.2, _, n, rfl, .inl (.inl et), .inl (.inl (sm _ _ hcr)), runs_pair _ hP (hc.take i), hq.1, hq.2, fun H2 u s2 nu eu => ⟨sm.trans s2, _, u, rfl, ?_⟩⟩
      rw [runs_take er]
      exact eu
    · obtain ⟨sm, y, t, rfl, et⟩ := h
      rw [List.length_map, hA.length, List.take_length] at et
      exact ⟨.ref t, rfl, q H' t sm et⟩
end
end Pc
namespace Pc
/-- all calls of n people -/
def callsOf (n x : Nat) : List (Nat × Nat) := (List.range (n - (x + 1))).map fun j => (x, x + 1 + j)
def allC (n : Nat) : Nat → List (Nat × Nat)
  | 0 => []
  | i + 1 => allC n i ++ callsOf n i
theorem callsOf_mem {n x : Nat} {p : Nat × Nat} : p ∈ callsOf n x ↔ p.1 = x ∧ x < p.2 ∧ p.2 < n := by
  unfold callsOf
  rw [List.mem_map]
  constructor
  · rintro ⟨j, hj, rfl⟩
    have := List.mem_range.mp hj
    exact ⟨rfl, by show x < x + 1 + j; omega, by show x + 1 + j < n; omega⟩
  · rintro ⟨h1, h2, h3⟩
    exact ⟨p.2 - (x + 1), List.mem_range.mpr (by omega), Prod.ext h1.symm (by show x + 1 + (p.2 - (x + 1)) = p.2; omega)⟩
theorem allC_mem {n : Nat} : ∀ {i : Nat} {p : Nat × Nat}, p ∈ allC n i ↔ p.1 < i ∧ p.1 < p.2 ∧ p.2 < n
  | 0, p => ⟨fun h => by simp [allC] at h, fun h => absurd h.1 (Nat.not_lt_zero _)⟩
  | i + 1, p => by
    show p ∈ allC n i ++ callsOf n i ↔ _
    rw [List.mem_append, allC_mem (i := i), callsOf_mem]
    omega
theorem allC_calls (n i : Nat) : Calls n (allC n i) := fun q hq => by
  have := allC_mem.mp hq
  exact ⟨this.2.1, this.2.2⟩
theorem allC_len (n : Nat) : ∀ i, (allC n i).length ≤ i * n
  | 0 => Nat.zero_le _
  | i + 1 => by
    show (allC n i ++ callsOf n i).length ≤ _
    rw [List.length_append, Nat.succ_mul]
    have := allC_len n i
    have : (callsOf n i).length ≤ n := by unfold callsOf; rw [List.length_map, List.length_range]; omega
    omega
end Pc
namespace Pc
open PySem PySem.Spec PyProof.Rows L2 RZ
section
variable {P : Program} {w : World} {K : PySem.W.Frag} {mg : Str → Option Value} {base : Heap}
/-! ### all calls -/
def spCalls : Sp := fun vs H Q _ => ∃ n : Nat, vs = [.int n] ∧ n ≤ 40 ∧
  ∀ (H' : Hp) (p : Addr) (as : List Addr), Same H H' → H p = none → H' p = some (.lst (as.map V.ref)) → Prs H' as (allC n n) → Q (.ref p) H'
theorem ok_calls (T : Env K mg) : FnOk P w K mg base CX0 1 T.f_calls T.d_calls ["_law_size"] spCalls := by
  refine T.F_calls.ok sc_calls (fun vs H Q E h => ?_) (fun cdv A outer s H vs Q E hr h => ?_)
  · obtain ⟨n, rfl, _⟩ := h
    rfl
  · obtain ⟨n, rfl, hn, q⟩ := h
    refine ⟨_, pss_cons (ps_set (i := 1) sc_calls.nd rfl (.inl rfl) (pe_lst pa_nil)) <|
      pss_cons (ps_for PassesOwn.never rfl (pi_range1 (by rfl) T.n_range (pa_cons (pv 0) pa_nil)) (pg_name (i := 2) sc_calls.nd rfl (.inr rfl))
        (pss_one (ps_set (i := 1) sc_calls.nd rfl (.inl rfl) (pe_op op_cat (pv 1) (pe_lc (own := [("_law_high", 3)]) (g := gName 3) (tt := tYes) (te := tTup (tCons (tVar 2) (tCons (tVar 3) tNil))) rfl sc_calls.nd
          (pi_range2 (by rfl) T.n_range (pa_cons (pe_op op_add (pv 2) pe_int) (pa_cons (pv 0) pa_nil))) (blkOk_by (N := N_calls) (sc := defScope s_calls) (by decide +kernel)) (fun _ _ _ _ _ => pg_name (i := 3) sc_calls.nd rfl (.inl rfl)) (fun _ _ _ _ _ => pts_nil)
          (fun _ _ _ _ _ => pe_tup (pa_cons (pv 2) (pa_cons (pv 3) pa_nil)))))))) <|
      pss_one (ps_ret (pv 1)), ?_⟩
    refine ⟨by show 0 ≤ sizeLine; decide, fun e ne => ?_⟩
    refine ⟨_, rfl, _, rfl, by omega, by omega, ?_⟩
    rw [show ((n : Int)).toNat = n by omega]
    refine for_range (n := n) (fun i σ H' => Same H H' ∧ ∃ (f : Addr) (as : List Addr) (y : Option V), σ = [some (.int n), some (.ref f), y, none] ∧ H f = none ∧ H' f = some (.lst (as.map V.ref)) ∧ Prs H' as (allC n i)) ⟨same_new ne, e, [], none, rfl, ne, upd_same, .nil⟩ (fun i σ H1 hi h => ?_) (fun σ H1 h => ?_)
    · obtain ⟨sm, f, as, y, rfl, nf, ef, hA⟩ := h
      refine ⟨_, rfl, _, rfl, _, 1, rfl, rfl, _, rfl, _, _, rfl, ⟨by omega, by omega, by omega, by omega⟩, fun D nD => ?_⟩
      rw [show ((n : Int) - ((0 : Int) + (i : Nat) + 1)).toNat = n - (i + 1) by omega]
      have hlc : (callsOf n i).length = n - (i + 1) := by unfold callsOf; rw [List.length_map, List.length_range]
      refine lc_range (n := n - (i + 1)) (fun j H' => Same H1 H' ∧ ∃ bs : List Addr, H' D = some (.lst (bs.map V.ref)) ∧ Prs H' bs ((callsOf n i).take j)) ⟨same_new nD, [], upd_same, .nil⟩ (fun j H' hj hPv => ?_) (fun H' hPv => ?_)
      · obtain ⟨s2, bs, eD, hBs⟩ := hPv
        refine ⟨rfl, yes_if ⟨_, rfl, _, rfl, by show 2 ≤ sizeLine; decide, fun u nu => ⟨_, same_new nu _ _ eD, ?_, fun x o hx => ?_, bs ++ [u], ?_, ?_⟩⟩⟩
        · rw [List.length_map, hBs.length, List.length_take]; exact small1000 (by omega)
        · rw [upd_ne (ne_of_none hx nD)]; exact same_new nu _ _ (s2 _ _ hx)
        · rw [upd_same, List.map_append]; rfl
        · have uD : u ≠ D := fun z => by rw [z, eD] at nu; cases nu
          have ej : (callsOf n i)[j]? = some (i, i + 1 + j) := by unfold callsOf; rw [List.getElem?_map, List.getElem?_range hj]; rfl
          rw [List.take_add_one, ej]
          refine prs_append (prs_keep (b := D) keep_upd (same_new nu _ _ eD) (prs_same (same_new nu) hBs)) (.cons ?_ .nil)
          rw [upd_ne uD, upd_same]
          show some (HO.tup [V.int ((0 : Int) + (i : Nat)), V.int ((0 : Int) + (i : Nat) + 1 + (j : Nat))]) = some (HO.tup [V.int (i : Nat), V.int ((i + 1 + j : Nat) : Int)])
          rw [show (0 : Int) + (i : Nat) + 1 + (j : Nat) = ((i + 1 + j : Nat) : Int) by omega, Int.zero_add]
      · obtain ⟨s2, bs, eD, hBs⟩ := hPv
        rw [← hlc, List.take_length] at hBs
        have hA' := prs_same s2 hA
        refine ⟨f, D, _, _, rfl, rfl, s2 _ _ ef, eD, ?_, fun g ng => ?_⟩
        · have l1 := allC_len n i
          have : i * n ≤ 40 * 40 := Nat.mul_le_mul (by omega) hn
          rw [List.length_map, List.length_map, hA.length, hBs.length, hlc]
          exact Nat.le_of_lt (line_big (by omega))
        refine ⟨(sm.trans s2).trans (same_new ng), g, as ++ bs, _, rfl, (sm.trans s2).free ng, by rw [upd_same, List.map_append], ?_⟩
        exact prs_same (same_new ng) (prs_append hA' hBs)
    · obtain ⟨sm, f, as, y, rfl, nf, ef, hA⟩ := h
      exact ⟨_, rfl, q H1 f as sm nf ef hA⟩
end
end Pc
namespace Pc
open PySem PySem.Spec PyProof.Rows L2 RZ
section
variable {P : Program} {w : World} {K : PySem.W.Frag} {mg : Str → Option Value} {base : Heap}
/-! ### drawn words -/
def spTour : Sp := fun vs H Q _ => ∃ (b : Addr) (k n m : Nat), vs = [.ref b, .int n, .int m] ∧ Box (k + m + 2) H b ∧ 2 ≤ n ∧ n ≤ 30 ∧ m ≤ 1000 ∧
  ∀ (H' : Hp) (p : Addr) (as : List Addr) (qs : List (Nat × Nat)), Calls n qs → qs.length ≤ m → H p = none → H' p = some (.lst (as.map V.ref)) → Prs H' as qs → Keep b H H' → Box k H' b → Q (.ref p) H'
theorem ok_tour_of (T : Env K mg) : FnOk P w K mg base CX0 3 T.f_tour_of T.d_tour_of ["_law_box_here", "_law_size", "_law_most"] spTour := by
  have GT : FnOk P w K mg base CX0 1 T.f_take T.d_take ["_law_box_here", "_law_below"] spTake := ok_take T
  have GO : FnOk P w K mg base CX0 2 T.f_pick T.d_pick ["_law_box_here", "_law_some"] (spOf K) := ok_pick T
  have GA : FnOk P w K mg base CX0 1 T.f_calls T.d_calls ["_law_size"] spCalls := ok_calls T
  refine T.F_tour_of.ok sc_tour_of (fun vs H Q E h => ?_) (fun cdv A outer s H vs Q E hr h => ?_)
  · obtain ⟨b, k, n, m, rfl, _⟩ := h
    rfl
  · obtain ⟨b, k, n, m, rfl, hB, h2, hn, hm, q⟩ := h
    have h1 := hr.mono (show 1 ≤ 2 by decide)
    refine ⟨_, pss_one (ps_ret (pe_lc (own := [("_law_turn", 3)]) (g := gName 3) (tt := tYes) (te := tCall (spOf K) [] (fun _ _ _ => False) (tCons (tVar 0) (tCons (tCall spCalls [] (fun _ _ _ => False) (tCons (tVar 1) tNil)) tNil))) rfl sc_tour_of.nd
        (pi_range1 (by rfl) T.n_range (pa_cons (pe_call GT h1 (by rfl) T.g_take T.F_take.kp T.b_take .nil pass0 (pa_cons (pv 0) (pa_cons (pe_op op_add (pv 2) pe_int) pa_nil))) pa_nil))
        (blkOk_by (N := N_tour_of) (sc := defScope s_tour_of) (by decide +kernel))
        (fun _ _ _ _ _ => pg_name (i := 3) sc_tour_of.nd rfl (.inl rfl)) (fun _ _ _ _ _ => pts_nil)
        (fun _ _ _ _ _ => pe_call GO hr (by rfl) T.g_pick T.F_pick.kp T.b_pick .nil pass0 (pa_cons (pv 0) (pa_cons (pe_call GA h1 (by rfl) T.g_calls T.F_calls.kp T.b_calls .nil pass0 (pa_cons (pv 1) pa_nil)) pa_nil))))), ?_⟩
    refine ⟨.ref b, rfl, .int m, rfl, m, 1, rfl, rfl, b, k + m, (m : Int) + 1, rfl, hB.mono (by omega), by omega, by omega, fun r H2 r0 r1 hB2 k2 => ?_⟩
    refine ⟨r, rfl, by omega, by omega, fun D nD => ?_⟩
    have bD : b ≠ D := hB2.ne_new nD
    have nD0 : H D = none := by
      cases e : H D with
      | none => rfl
      | some o => rw [k2 D o bD.symm e] at nD; cases nD
    have hall : (allC n n).length ≤ 900 := Nat.le_trans (allC_len n n) (Nat.mul_le_mul hn hn)
    have hpos : 0 < (allC n n).length := List.length_pos_of_mem (allC_mem.mpr (show ((0, 1) : Nat × Nat).1 < n ∧ ((0, 1) : Nat × Nat).1 < ((0, 1) : Nat × Nat).2 ∧ ((0, 1) : Nat × Nat).2 < n from ⟨by show 0 < n; omega, by decide, by show 1 < n; omega⟩))
    refine lc_range (n := r.toNat) (fun j H' => Keep b H2 H' ∧ Box (k + m - j) H' b ∧ ∃ (as : List Addr) (qs : List (Nat × Nat)), H' D = some (.lst (as.map V.ref)) ∧ Prs H' as qs ∧ Calls n qs ∧ qs.length = j)
      ⟨Keep.of_same (same_new nD), (hB2.same (same_new nD)), [], [], upd_same, .nil, fun q hq => by simp at hq, rfl⟩ (fun j H' hj hPv => ?_) (fun H' hPv => ?_)
    · obtain ⟨k3, hB3, as, qs, eD, hA, hc, hql⟩ := hPv
      refine ⟨rfl, yes_if ⟨.ref b, rfl, _, rfl, n, rfl, by omega, fun H4 l cs s4 nl el hC => ?_⟩⟩
      have hlen : (cs.map V.ref).length = (allC n n).length := by rw [List.length_map, hC.length]
      refine ⟨b, l, k + m - (j + 1), _, rfl, (hB3.same s4).mono (by omega), (hB3.ne_new nl).symm, el, by rw [hlen]; exact hpos, by rw [hlen]; omega, fun H5 i v hv k5 hB5 => ?_⟩
      rw [List.getElem?_map] at hv
      cases eu : cs[i]? with
      | none => rw [eu] at hv; cases hv
      | some t =>
      rw [eu] at hv
      cases Option.some.inj hv
      obtain ⟨p, ep, ht⟩ := prs_get hC eu
      obtain ⟨yb, hyb⟩ := hB3.lst
      have ht5 := k5.tup (s4 _ _ hyb) ht
      have eD5 := k5 _ _ bD.symm (s4 _ _ eD)
      have ntD : t ≠ D := fun z => by rw [z, eD5] at ht5; cases ht5
      have hpm := allC_calls n n p (List.mem_of_getElem? ep)
      refine ⟨_, eD5, small1000 (by rw [List.length_map, hA.length]; omega), fun a o na ha => ?_, hB5.keep (c := D) keep_upd bD, as ++ [t], qs ++ [p], ?_, ?_, ?_, ?_⟩
      · rw [upd_ne (ne_of_none ha nD)]; exact k5 _ _ na (s4 _ _ (k3 _ _ na ha))
      · rw [upd_same, List.map_append]; rfl
      · refine prs_append (prs_keep (b := D) keep_upd eD5 (prs_keep k5 (s4 _ _ hyb) (prs_same s4 hA))) (.cons ?_ .nil)
        rw [upd_ne ntD]; exact ht5
      · intro q hq
        rcases List.mem_append.mp hq with z | z
        · exact hc q z
        · rw [List.mem_singleton.mp z]; exact hpm
      · rw [List.length_append, hql]; rfl
    · obtain ⟨k3, hB3, as, qs, eD, hA, hc, hql⟩ := hPv
      exact q H' D as qs hc (by omega) nD0 eD hA (k2.trans k3) (hB3.mono (by omega))
end
end Pc
namespace Pc
open PySem PySem.Spec PyProof.Rows L2 RZ
section
variable {P : Program} {w : World} {K : PySem.W.Frag} {mg : Str → Option Value} {base : Heap}
/-! ### a drawn pairing -/
def spTie : Sp := fun vs H Q _ => ∃ (b : Addr) (n k : Nat), vs = [.ref b, .int k] ∧ Box (n + k) H b ∧ k % 2 = 0 ∧ k ≤ 1000 ∧
  ∀ (H' : Hp) (p : Addr) (ps : List Nat), IsPair k ps → Keep b H H' → Box n H' b → H p = none → H' p = some (.tup (nv ps)) → Q (.ref p) H'
theorem ok_drawn_tie (T : Env K mg) : FnOk P w K mg base CX0 3 T.f_drawn_tie T.d_drawn_tie ["_law_box_here", "_law_size"] spTie := by
  have GS : FnOk P w K mg base CX0 2 T.f_strewn T.d_strewn ["_law_box_here", "_law_some"] (spStrewn K) := ok_strewn T
  refine T.F_drawn_tie.ok sc_drawn_tie (fun vs H Q E h => ?_) (fun cdv A outer s H vs Q E hr h => ?_)
  · obtain ⟨b, n, k, rfl, _⟩ := h
    rfl
  · obtain ⟨b, n, k, rfl, hB, he, hk, q⟩ := h
    refine ⟨_, pss_cons (ps_par (by rfl) sc_drawn_tie.nd (i := 2) (j := 3) rfl rfl (by decide) rfl rfl (pa_cons (pe_call GS hr (by rfl) T.g_strewn T.F_strewn.kp T.b_strewn .nil pass0 (pa_cons (pv 0) (pa_cons (pe_listRg rfl (by rfl) T.n_list (prg_1 (by rfl) T.n_range (pv 1))) pa_nil))) (pa_cons (pe_op op_rep (pe_lst (pa_cons pe_int pa_nil)) (pv 1)) pa_nil)) (by rfl)) <|
      pss_cons (ps_for PassesOwn.never rfl (pi_range3 rfl T.n_range (pa_cons pe_int (pa_cons (pv 1) (pa_cons pe_int pa_nil)))) (pg_name (i := 4) sc_drawn_tie.nd rfl (.inl rfl))
        (pss_cons (ps_asg (pe_ix ix_list (pv 2) (pe_op op_add (pv 4) pe_int) (fun _ _ => rfl)) (pg_sub (pv 3) (pe_ix ix_list (pv 2) (pv 4) (fun _ _ => rfl)) set_list)) <|
        pss_one (ps_asg (pe_ix ix_list (pv 2) (pv 4) (fun _ _ => rfl)) (pg_sub (pv 3) (pe_ix ix_list (pv 2) (pe_op op_add (pv 4) pe_int) (fun _ _ => rfl)) set_list)))) <|
      pss_one (ps_ret (pe_callTy call_tuple_of (by rfl) T.n_tuple (by decide +kernel) (pa_cons (pv 3) pa_nil))), ?_⟩
    refine ⟨.ref b, rfl, .int k, rfl, k, rfl, RgOk.of_le (by decide) (by omega) (by decide) (by omega), fun a na => ?_⟩
    have s1 : Same H _ := same_new (o := .lst (rgV 0 (k : Int))) na
    have hl : (rgV 0 (k : Int)).length = k := by rw [rgV_length]; omega
    refine ⟨b, a, n, _, rfl, (hB.same s1).mono (by rw [hl]; exact Nat.le_refl _), .inl (.inl upd_same), by rw [hl]; exact hk, fun H2 p2 ys hp hk2 hb2 np2 ep2 => ?_⟩
    obtain ⟨os, e1, e2⟩ := perm_map_inv (fun (i : Nat) => V.int (i : Int)) hp.symm (List.range k) (rg_nv k)
    have ep3 : H2 p2 = some (.lst (nv os)) := by rw [ep2, e1]; rfl
    have k02 : Keep b H H2 := (Keep.of_same s1).trans hk2
    have hol : os.length = k := by rw [e2.length_eq, List.length_range]
    have hnd : os.Nodup := e2.nodup_iff.mpr List.nodup_range
    have hlt : ∀ z ∈ os, z < os.length := fun z hz => by rw [hol]; exact List.mem_range.mp (e2.mem_iff.mp hz)
    refine ⟨by show 1 ≤ sizeLine; decide, fun e ne => ?_⟩
    have s3 : Same H2 (upd H2 e (.lst [.int 0])) := same_new ne
    refine ⟨_, rfl, e, _, [.int 0], rfl, rfl, upd_same, by omega, by omega, ?_, fun f nf => ⟨_, _, rfl, ?_⟩⟩
    · show 1 * Int.toNat (k : Int) ≤ sizeLine
      exact Nat.le_of_lt (small1000 (by omega))
    have s4 : Same H2 _ := s3.trans (same_new (o := .lst (List.replicate (k : Int).toNat [V.int 0]).flatten) nf)
    have nf2 : H2 f = none := s3.free nf
    have e0 : (List.replicate (k : Int).toNat [V.int 0]).flatten = nv (List.replicate k 0) := by
      rw [rep_flat, Int.toNat_natCast]
      unfold nv
      rw [List.map_replicate]; rfl
    refine ⟨_, rfl, 0, _, 2, k / 2, rfl, ?_, ?_⟩
    · have := rgc_two (n := k) (by omega)
      rw [show (k + 1) / 2 = k / 2 by omega] at this
      exact this
    refine for_rangeC (fun t σ H' => Same H2 H' ∧ ∃ (y : Option V) (fs : List Nat), σ = [some (.ref b), some (.int k), some (.ref p2), some (.ref f), y] ∧ H' f = some (.lst (nv fs)) ∧ PInv os fs t)
      ⟨s4, none, List.replicate k 0, rfl, by rw [upd_same, e0], by rw [List.length_replicate, hol], fun j hj => absurd hj (Nat.not_lt_zero _)⟩ (fun t σ H' ht h => ?_) (fun σ H' h => ?_)
    · obtain ⟨sm, y, fs, rfl, ef, pi⟩ := h
      obtain ⟨x1, g1⟩ := get_some (l := os) (i := 2 * t) (by omega)
      obtain ⟨x2, g2⟩ := get_some (l := os) (i := 2 * t + 1) (by omega)
      have hS' : SqL K H' p2 (nv os) := .inl (.inl (sm _ _ ep3))
      have ea : atI (nv os) ((0 : Int) + (t : Nat) * 2) = some (.int x1) := by
        rw [show (0 : Int) + (t : Nat) * 2 = ((2 * t : Nat) : Int) by omega]; exact nv_at g1
      have eb : atI (nv os) ((0 : Int) + (t : Nat) * 2 + 1) = some (.int x2) := by
        rw [show (0 : Int) + (t : Nat) * 2 + 1 = ((2 * t + 1 : Nat) : Int) by omega]; exact nv_at g2
      have l1 : x1 < fs.length := by rw [pi.1]; exact hlt _ (List.mem_of_getElem? g1)
      have l2 : x2 < fs.length := by rw [pi.1]; exact hlt _ (List.mem_of_getElem? g2)
      refine ⟨_, rfl, _, rfl, _, 1, rfl, rfl, p2, _, _, _, rfl, rfl, hS', eb, _, rfl, _, rfl, _, rfl, p2, _, _, _, rfl, rfl, hS', ea, f, _, _, x1, rfl, rfl, ef, ixN_nat (by rw [nv_length]; exact l1), ?_⟩
      have pf : p2 ≠ f := ne_of_none ep3 nf2
      have hS2 : SqL K (upd H' f (.lst ((nv fs).set x1 (.int x2)))) p2 (nv os) := .inl (.inl (by rw [upd_ne pf]; exact sm _ _ ep3))
      refine ⟨_, rfl, _, rfl, p2, _, _, _, rfl, rfl, hS2, ea, _, rfl, _, rfl, _, rfl, _, 1, rfl, rfl, p2, _, _, _, rfl, rfl, hS2, eb, f, _, _, x2, rfl, rfl, upd_same, ?_, ?_⟩
      · rw [List.length_set]; exact ixN_nat (by rw [nv_length]; exact l2)
      · refine ⟨fun z o hz => ?_, _, (fs.set x1 x2).set x2 x1, rfl, ?_, pi.step hnd hlt g1 g2⟩
        · rw [upd_ne (ne_of_none hz nf2), upd_ne (ne_of_none hz nf2)]; exact sm _ _ hz
        · rw [upd_same, nv_set, nv_set]
    · obtain ⟨sm, y, fs, rfl, ef, pi⟩ := h
      refine ⟨.ref f, rfl, f, _, rfl, .inl ⟨.inl (.inl ef), fun p np => ?_⟩⟩
      have s5 := sm.trans (same_new (o := .tup (nv fs)) np)
      refine q _ p fs (pi.done e2 he) (k02.trans (Keep.of_same s5)) (hb2.same s5) ?_ upd_same
      have np2 := sm.free np
      cases hh : H p with
      | none => rfl
      | some o =>
        have hpb : p ≠ b := fun z => by
          subst z
          obtain ⟨x, y, z, ex, _⟩ := hb2
          rw [ex] at np2; cases np2
        rw [k02 p o hpb hh] at np2; cases np2
end
end Pc
namespace Pc
open PySem PySem.Spec PyProof.Rows L2 RZ
/-! ### data of small size, by its depth -/
def Sz : Nat → Nat
  | 0 => 61
  | 1 => 6303
  | 2 => 630503
  | _ => 15762628
abbrev Fi (j : Nat) (d : PyData) : Prop := Fine j (Sz j) d
theorem Sz_le : ∀ j, Sz j ≤ Sz (j + 1)
  | 0 => by decide
  | 1 => by decide
  | 2 => by decide
  | _ + 3 => Nat.le_refl _
theorem Fine.up {j : Nat} {d : PyData} (h : Fi j d) : Fi (j + 1) d := h.mono (Nat.le_succ _) (Sz_le j)
theorem Fine.sh {j : Nat} {d : PyData} (h : Fi j d) (hj : j ≤ 60 := by decide) : SeqAt.shaped d = true := Fine.shaped h (by omega)
theorem fi_int {i : Int} (h : i.natAbs < 2 ^ 60) : Fi 0 (.int i) := fine_int h
theorem fi_bl {b : Bool} : Fi 0 (.bool b) := ⟨rfl, rfl, Nat.le_refl _, trivial, by cases b <;> decide⟩
theorem fi_non : Fi 0 .none := ⟨rfl, rfl, Nat.le_refl _, trivial, by decide⟩
theorem fi_tup {l : List Nat} {m : Nat} (hl : IsPair m l) (hm : m ≤ 100) : Fi 1 (td l) := (fine_tup (n := 100) (fun i hi => by have := hl.lt i hi; omega) (by rw [hl.len]; omega) (by decide)).mono (Nat.le_refl _) (by decide)
/-- numbers of small size, not many -/
def Fw (l : List Nat) : Prop := l.length ≤ 100 ∧ ∀ i ∈ l, i < 2 ^ 60
theorem fb {l : List Nat} {m : Nat} (hl : IsPair m l) (hm : m ≤ 100) : Fw l := ⟨by rw [hl.len]; exact hm, fun i hi => by have := hl.lt i hi; omega⟩
theorem fi_tup' {l : List Nat} (h : Fw l) : Fi 1 (td l) := (fine_tup (n := 100) h.2 h.1 (by decide)).mono (Nat.le_refl _) (by decide)
theorem fi_lst {l : List Nat} (h : Fw l) : Fi 1 (.list (nd l)) := (fine_list (k := 0) (m := 61) (n := 100) (fine_nd h.2) (by rw [nd_length]; exact h.1) (by decide)).mono (Nat.le_refl _) (by decide)
theorem fi_prs {qs : List (Nat × Nat)} (h : qs.length ≤ 1000 ∧ ∀ p ∈ qs, p.1 < 2 ^ 60 ∧ p.2 < 2 ^ 60) : Fi 2 (.list (qs.map pd)) := (fine_pds (n := 1000) h.2 h.1 (by decide)).mono (Nat.le_refl _) (by decide)
theorem fa_nil {j : Nat} : ∀ d ∈ ([] : List PyData), Fi j d := fun _ h => absurd h List.not_mem_nil
theorem fa_cons {j : Nat} {d : PyData} {ds : List PyData} (h : Fi j d) (r : ∀ x ∈ ds, Fi j x) : ∀ x ∈ d :: ds, Fi j x := fun x hx => (List.mem_cons.mp hx).elim (fun e => by rw [e]; exact h) (r x)
def Few (j n : Nat) : Prop := n * (Sz j + 2) + 3 ≤ Sz (j + 1) ∧ n ≤ 100000
instance (j n : Nat) : Decidable (Few j n) := by unfold Few; infer_instance
theorem fi_list {j : Nat} {ds : List PyData} (h : ∀ d ∈ ds, Fi j d) (hn : n = ds.length := by rfl) (hf : Few j n := by decide) : Fi (j + 1) (.list ds) := (fine_list (k := j) (m := Sz j) (n := n) h (by rw [hn]; exact Nat.le_refl _) hf.2).mono (Nat.le_refl _) hf.1
theorem fi_tuple {j : Nat} {ds : List PyData} (h : ∀ d ∈ ds, Fi j d) (hn : n = ds.length := by rfl) (hf : Few j n := by decide) : Fi (j + 1) (.tuple ds) := (fine_tuple (k := j) (m := Sz j) (n := n) h (by rw [hn]; exact Nat.le_refl _) hf.2).mono (Nat.le_refl _) hf.1
theorem fi_ne {j : Nat} {d : PyData} (h : Fi j d) : (!PyData.eqv d d) = false := by
  rw [PySem.SeqAt.eqv_refl _ h.lay]; rfl
theorem fi_eq {j : Nat} {d : PyData} (h : Fi j d) : PyData.eqv d d = true := PySem.SeqAt.eqv_refl _ h.lay
/-! ### arguments by name, in another order -/
def pm10 {α : Type} : List α → List α
  | [a, b] => [b, a]
  | l => l
theorem rel_pm10 {zs : List V} {ws : List Value} (_ : zs.length = 2) (r : Vals zs ws) : Vals (pm10 zs) (pm10 ws) := by
  match zs, ws, r with
  | [], _, .nil => exact .nil
  | [_], _, .cons h .nil => exact .cons h .nil
  | [_, _], _, .cons h1 (.cons h2 .nil) => exact .cons h2 (.cons h1 .nil)
  | _ :: _ :: _ :: _, _, .cons h1 (.cons h2 (.cons h3 r)) => exact .cons h1 (.cons h2 (.cons h3 r))
def pm0 {α : Type} (l : List α) : List α := l
theorem rel_pm0 {zs : List V} {ws : List Value} (_ : zs.length = 1) (r : Vals zs ws) : Vals (pm0 zs) (pm0 ws) := r
end Pc
namespace Pc
open PySem PySem.Spec PyProof.Rows L2 RZ
theorem calls_app {n : Nat} {qs rs : List (Nat × Nat)} (h : Calls n qs) (g : Calls n rs) : Calls n (qs ++ rs) := fun q hq => (List.mem_append.mp hq).elim (h q) (g q)
end Pc
namespace Pc
open PySem PySem.Spec PyProof.Rows L2 RZ
/-- the slots, written out -/
theorem st_eq {t : TS} {D : L2.Ends} {σ : L2.St} {H : Hp} (σ' : L2.St) (h : t D σ' H) (e : σ = σ') : t D σ H := by rw [e]; exact h
end Pc
namespace Pc
open PySem PySem.Spec PyProof.Rows L2 RZ
theorem st_set {i : Nat} {v : V} {σ : L2.St} {H : Hp} {Q : L2.St → Hp → Prop} (σ' : L2.St) (h : Q σ' H) (e : σ.set i (some v) = σ') : gName i v σ H Q := by
  unfold gName
  rw [e]; exact h
end Pc
namespace Pc
open PySem PySem.Spec PyProof.Rows L2 RZ
theorem fi_same {x y : V} (e : x = y) : (!decide (x = y)) = false := by rw [decide_eq_true e]; rfl
theorem fi_is {x y : V} (e : x = y) : decide (x = y) = true := decide_eq_true e
end Pc
namespace Pc
open PySem PySem.Spec PyProof.Rows L2 RZ
theorem st_kept {D : L2.Ends} {i : Nat} {a C d : Addr} {σ1 : L2.St} {H : Hp} (σ' : L2.St) (h : D.nx σ' (upd H a (exk a (.ref C) (some d)))) (e : σ1.set i none = σ') :
    ({ nx := fun σ'' H'' => D.nx (σ''.set i none) (upd H'' a (exk a (.ref C) (some d))), rt := fun _ _ => False } : L2.Ends).nx σ1 H := by
  show D.nx (σ1.set i none) _
  rw [e]; exact h
end Pc
namespace Pc
open PySem PySem.Spec PyProof.Rows L2 RZ
theorem st_setH {i : Nat} {v : V} {σ : L2.St} {H : Hp} {Q : L2.St → Hp → Prop} (σ' : L2.St) (H' : Hp) (h : Q σ' H') (e : σ.set i (some v) = σ') (eh : H = H') : gName i v σ H Q := by
  unfold gName
  rw [e, eh]; exact h
end Pc
namespace Pc
open PySem PySem.Spec PyProof.Rows L2 RZ
section
variable {P : Program} {w : World} {K : PySem.W.Frag} {mg : Str → Option Value} {base : Heap}
/-! ### numbers of people that are equal -/
def spCheckSizes : Sp := fun vs H Q _ => ∃ n : Nat, vs = [.int n, .int n] ∧ Q .non H
theorem ok_p_check_sizes (T : Env K mg) : FnOk P w K mg base CX0 1 T.f_p_check_sizes T.d_p_check_sizes ["first", "second"] spCheckSizes := by
  refine T.F_p_check_sizes.ok sc_p_check_sizes (fun vs H Q E h => ?_) (fun cdv A outer s H vs Q E hr h => ?_)
  · obtain ⟨n, rfl, _⟩ := h
    rfl
  · obtain ⟨n, rfl, q⟩ := h
    refine ⟨_, pss_one (ps_if (pt_cmpR op_ne (pv 0) (pv 1) (nomark _)) pss_never pss_nil), ?_⟩
    refine ⟨_, rfl, _, rfl, rfl, _, rfl, ite2 (fun c => ?_) (fun _ => q)⟩
    rw [decide_eq_true rfl] at c
    exact absurd c (by decide)
end
end Pc
namespace Pc
open PySem PySem.Spec PyProof.Rows L2 RZ
section
variable {P : Program} {w : World} {K : PySem.W.Frag} {mg : Str → Option Value} {base : Heap}
/-! ### the looks at calls: valid ones raise nothing -/
def spCheckPerson : Sp := fun vs H Q _ => ∃ (n u : Nat), vs = [.int n, .int u] ∧ u < n ∧ Q .non H
theorem ok_p_check_person (T : Env K mg) : FnOk P w K mg base CX0 1 T.f_p_check_person T.d_p_check_person ["size", "person"] spCheckPerson := by
  refine T.F_p_check_person.ok sc_p_check_person (fun vs H Q E h => ?_) (fun cdv A outer s H vs Q E hr h => ?_)
  · obtain ⟨n, u, rfl, _⟩ := h
    rfl
  · obtain ⟨n, u, rfl, hu, q⟩ := h
    refine ⟨_, pss_one (ps_if (pt_not (pt_chain op_le op_lt pe_int (pv 1) (pv 0))) pss_never pss_nil), ?_⟩
    refine ⟨_, rfl, 0, u, rfl, rfl, _, rfl, ?_⟩
    rw [decide_eq_true (show (0 : Int) ≤ (u : Int) by omega)]
    refine iteT ⟨.int n, rfl, u, n, rfl, rfl, _, rfl, ?_⟩
    rw [decide_eq_true (show (u : Int) < (n : Int) by omega)]
    exact iteN q
def spCheckCall (K : PySem.W.Frag) : Sp := fun vs H Q _ => ∃ (n a b : Nat) (c : Addr), vs = [.int n, .ref c] ∧ Sq K H c [.int a, .int b] ∧ a < n ∧ b < n ∧ Q .non H
theorem ok_p_check_call (T : Env K mg) : FnOk P w K mg base CX0 2 T.f_p_check_call T.d_p_check_call ["size", "call"] (spCheckCall K) := by
  have G1 : FnOk P w K mg base CX0 1 T.f_p_check_person T.d_p_check_person ["size", "person"] spCheckPerson := ok_p_check_person T
  refine T.F_p_check_call.ok sc_p_check_call (fun vs H Q E h => ?_) (fun cdv A outer s H vs Q E hr h => ?_)
  · obtain ⟨n, a, b, c, rfl, _⟩ := h
    rfl
  · obtain ⟨n, a, b, c, rfl, hS, ha, hb, q⟩ := h
    refine ⟨_, pss_one (ps_for PassesOwn.never rfl (pi_seq (pv 1)) (pg_name (i := 2) sc_p_check_call.nd rfl (.inl rfl)) (pss_one (ps_expr (pe_call G1 hr (by rfl) T.g_p_check_person T.F_p_check_person.kp T.b_p_check_person .nil pass0 (pa_cons (pv 0) (pa_cons (pv 2) pa_nil)))))), ?_⟩
    refine ⟨.ref c, rfl, c, rfl, for_seq hS (fun i σ H' => H' = H ∧ ∃ y : Option V, σ = [some (.int n), some (.ref c), y]) ⟨rfl, none, rfl⟩ (fun i σ H' h => by rw [h.1]; exact Same.refl _) (fun i x σ H' hx h => ?_) (fun σ H' h => by rw [h.1]; exact q)⟩
    obtain ⟨rfl, y, rfl⟩ := h
    have hx' : ∃ u : Nat, x = .int u ∧ u < n := by
      have hi : i < 2 := get_lt hx
      rcases (show i = 0 ∨ i = 1 by omega) with z | z
      · subst z; exact ⟨a, (Option.some.inj hx).symm, ha⟩
      · subst z; exact ⟨b, (Option.some.inj hx).symm, hb⟩
    obtain ⟨u, rfl, hu⟩ := hx'
    exact ⟨_, rfl, _, rfl, n, u, rfl, hu, rfl, _, rfl⟩
def spCheckWord (K : PySem.W.Frag) : Sp := fun vs H Q _ => ∃ (n : Nat) (wd : Addr) (us : List V) (qs : List (Nat × Nat)), vs = [.int n, .ref wd] ∧ Sq K H wd us ∧ Items K H us qs ∧ Calls n qs ∧ Q .non H
theorem ok_p_check_word (T : Env K mg) : FnOk P w K mg base CX0 3 T.f_p_check_word T.d_p_check_word ["size", "word"] (spCheckWord K) := by
  have G1 : FnOk P w K mg base CX0 2 T.f_p_check_call T.d_p_check_call ["size", "call"] (spCheckCall K) := ok_p_check_call T
  refine T.F_p_check_word.ok sc_p_check_word (fun vs H Q E h => ?_) (fun cdv A outer s H vs Q E hr h => ?_)
  · obtain ⟨n, wd, us, qs, rfl, _⟩ := h
    rfl
  · obtain ⟨n, wd, us, qs, rfl, hS, hI, hc, q⟩ := h
    refine ⟨_, pss_one (ps_for PassesOwn.never rfl (pi_seq (pv 1)) (pg_name (i := 2) sc_p_check_word.nd rfl (.inl rfl)) (pss_one (ps_expr (pe_call G1 hr (by rfl) T.g_p_check_call T.F_p_check_call.kp T.b_p_check_call .nil pass0 (pa_cons (pv 0) (pa_cons (pv 2) pa_nil)))))), ?_⟩
    refine ⟨.ref wd, rfl, wd, rfl, for_seq hS (fun i σ H' => H' = H ∧ ∃ y : Option V, σ = [some (.int n), some (.ref wd), y]) ⟨rfl, none, rfl⟩ (fun i σ H' h => by rw [h.1]; exact Same.refl _) (fun i x σ H' hx h => ?_) (fun σ H' h => by rw [h.1]; exact q)⟩
    obtain ⟨rfl, y, rfl⟩ := h
    obtain ⟨c, p, rfl, hp, hq⟩ := hI.2 i x hx
    have := hc p (List.mem_of_getElem? hp)
    exact ⟨.int n, rfl, .ref c, rfl, n, p.1, p.2, c, rfl, hq, by omega, by omega, rfl, _, rfl⟩
/-! ### join_two -/
def spJoin : Sp := fun vs H Q _ => ∃ (j : Addr) (fs : List Nat) (n a b : Nat), vs = [.ref j, .int a, .int b] ∧ H j = some (.lst (nv fs)) ∧ IsPair n fs ∧ a < n ∧ b < n ∧
  ∀ H' : Hp, H' j = some (.lst (nv (jn fs a b))) → Keep j H H' → Q (.bl (!decide (fs.getD a 0 = b))) H'
theorem ok_p_join_two (T : Env K mg) : FnOk P w K mg base CX0 1 T.f_p_join_two T.d_p_join_two ["joined", "a", "b"] spJoin := by
  refine T.F_p_join_two.ok sc_p_join_two (fun vs H Q E h => ?_) (fun cdv A outer s H vs Q E hr h => ?_)
  · obtain ⟨j, fs, n, a, b, rfl, _⟩ := h
    rfl
  · obtain ⟨j, fs, n, a, b, rfl, hj, hP, ha, hb, q⟩ := h
    refine ⟨_, pss_cons (ps_set (i := 3) sc_p_join_two.nd rfl (.inl rfl) (pe_ix ix_list (pv 0) (pv 1) (fun _ _ => rfl))) <|
      pss_cons (ps_set (i := 4) sc_p_join_two.nd rfl (.inl rfl) (pe_ix ix_list (pv 0) (pv 2) (fun _ _ => rfl))) <|
      pss_cons (ps_if (pt_cmpR op_eq (pv 3) (pv 2) (nomark _)) (pss_one (ps_ret pe_bl)) pss_nil) <|
      pss_cons (ps_asg (pv 2) (pg_sub (pv 0) (pv 1) set_list)) <| pss_cons (ps_asg (pv 1) (pg_sub (pv 0) (pv 2) set_list)) <|
      pss_cons (ps_asg (pv 4) (pg_sub (pv 0) (pv 3) set_list)) <| pss_cons (ps_asg (pv 3) (pg_sub (pv 0) (pv 4) set_list)) <| pss_one (ps_ret pe_bl), ?_⟩
    obtain ⟨c, ea, hc, _⟩ := hP.par a ha
    obtain ⟨d, eb, hd, _⟩ := hP.par b hb
    have hS : SqL K H j (nv fs) := .inl (.inl hj)
    have hl := hP.len
    refine ⟨.ref j, rfl, .int a, rfl, j, _, _, _, rfl, rfl, hS, nv_at ea, ?_⟩
    refine ⟨.ref j, rfl, .int b, rfl, j, _, _, _, rfl, rfl, hS, nv_at eb, ?_⟩
    refine ⟨_, rfl, _, rfl, rfl, _, rfl, ite2 (fun e => ?_) (fun e => ?_)⟩
    · have e1 : c = b := by have := V.int.inj (of_decide_eq_true e); omega
      subst e1
      have := q H (by rw [jn_same ea]; exact hj) (Keep.refl _ _)
      rw [getD_of ea, decide_eq_true rfl] at this
      exact this
    · have e1 : c ≠ b := fun z => e (by rw [z]; exact decide_eq_true rfl)
      have ln : ∀ {l : List V}, l.length = fs.length → ∀ {i : Nat}, i < n → ixN l.length (i : Int) = some i := fun {l} hl2 {i} hi => ixN_nat (by rw [hl2, hl]; exact hi)
      refine ⟨_, rfl, .ref j, rfl, _, rfl, j, _, _, a, rfl, rfl, hj, ln (nv_length _) ha, ?_⟩
      refine ⟨_, rfl, .ref j, rfl, _, rfl, j, _, _, b, rfl, rfl, upd_same, ln (by rw [List.length_set, nv_length]) hb, ?_⟩
      refine ⟨_, rfl, .ref j, rfl, _, rfl, j, _, _, c, rfl, rfl, upd_same, ln (by rw [List.length_set, List.length_set, nv_length]) hc, ?_⟩
      refine ⟨_, rfl, .ref j, rfl, _, rfl, j, _, _, d, rfl, rfl, upd_same, ln (by rw [List.length_set, List.length_set, List.length_set, nv_length]) hd, ?_⟩
      have := q (upd (upd (upd (upd H j (.lst ((nv fs).set a (.int b)))) j (.lst (((nv fs).set a (.int b)).set b (.int a)))) j (.lst ((((nv fs).set a (.int b)).set b (.int a)).set c (.int d)))) j (.lst (((((nv fs).set a (.int b)).set b (.int a)).set c (.int d)).set d (.int c))))
        (by
          rw [upd_same, nv_set, nv_set, nv_set, nv_set]
          unfold jn
          rw [getD_of ea, getD_of eb, if_neg e1])
        (fun x o nx hx => by rw [upd_ne nx, upd_ne nx, upd_ne nx, upd_ne nx]; exact hx)
      rw [getD_of ea, decide_eq_false e1] at this
      exact this
end
end Pc
namespace Pc
open PySem PySem.Spec PyProof.Rows L2 RZ
section
variable {P : Program} {w : World} {K : PySem.W.Frag} {mg : Str → Option Value} {base : Heap}
/-! ### called_all -/
def spCalledAll (K : PySem.W.Frag) : Sp := fun vs H Q _ => ∃ (p wd : Addr) (us : List V) (qs : List (Nat × Nat)) (ps : List Nat) (n : Nat), vs = [.ref p, .ref wd] ∧ Sq K H p (nv ps) ∧ Sq K H wd us ∧ Items K H us qs ∧ IsPair n ps ∧ Calls n qs ∧ n ≤ 1000 ∧
  ∀ (H' : Hp) (t : Addr), Same H H' → H t = none → H' t = some (.tup (nv (runs qs ps))) → Q (.ref t) H'
theorem ok_p_called_all (T : Env K mg) : FnOk P w K mg base CX0 4 T.f_p_called_all T.d_p_called_all ["pairing", "word"] (spCalledAll K) := by
  have G1 : FnOk P w K mg base CX0 3 T.f_p_check_word T.d_p_check_word ["size", "word"] (spCheckWord K) := ok_p_check_word T
  have G2 : FnOk P w K mg base CX0 1 T.f_p_join_two T.d_p_join_two ["joined", "a", "b"] spJoin := ok_p_join_two T
  refine T.F_p_called_all.ok sc_p_called_all (fun vs H Q E h => ?_) (fun cdv A outer s H vs Q E hr h => ?_)
  · obtain ⟨p, wd, us, qs, ps, n, rfl, _⟩ := h
    rfl
  · obtain ⟨p, wd, us, qs, ps, n, rfl, hp, hw, hI, hP, hc, hn, q⟩ := h
    refine ⟨_, pss_cons (ps_expr (pe_call G1 hr (by rfl) T.g_p_check_word T.F_p_check_word.kp T.b_p_check_word .nil pass0 (pa_cons (pe_callB call_len_seq (by rfl) T.n_len PySem.boot_len (pa_cons (pv 0) pa_nil)) (pa_cons (pv 1) pa_nil)))) <|
      pss_cons (ps_set (i := 2) sc_p_called_all.nd rfl (.inl rfl) (pe_callTy call_list_of (by rfl) T.n_list (by decide +kernel) (pa_cons (pv 0) pa_nil))) <|
      pss_cons (ps_for PassesOwn.never rfl (pi_seq (pv 1)) (pg_seq (by rfl) (pgs_cons (pg_name (i := 3) sc_p_called_all.nd rfl (.inl rfl)) (pgs_cons (pg_name (i := 4) sc_p_called_all.nd rfl (.inl rfl)) pgs_nil)))
        (pss_one (ps_expr (pe_call G2 (hr.mono (by decide)) (by rfl) T.g_p_join_two T.F_p_join_two.kp T.b_p_join_two .nil pass0 (pa_cons (pv 2) (pa_cons (pv 3) (pa_cons (pv 4) pa_nil))))))) <|
      pss_one (ps_ret (pe_callTy call_tuple_of (by rfl) T.n_tuple (by decide +kernel) (pa_cons (pv 2) pa_nil))), ?_⟩
    have hl : ((nv ps).length : Int) = (n : Nat) := by rw [nv_length, hP.len]
    refine ⟨.ref p, rfl, p, _, rfl, hp, .ref wd, rfl, n, wd, us, qs, ?_, hw, hI, hc, ?_⟩
    · show [V.int ((nv ps).length : Int), V.ref wd] = _
      rw [hl]
    refine ⟨.ref p, rfl, p, _, rfl, hp, fun l nl => ?_⟩
    have s0 : Same H (upd H l (.lst (nv ps))) := same_new nl
    refine ⟨.ref wd, rfl, wd, rfl, for_seq hw (fun i σ H' => Same H H' ∧ ∃ (y3 y4 : Option V), σ = [some (.ref p), some (.ref wd), some (.ref l), y3, y4] ∧ H' l = some (.lst (nv (runs (qs.take i) ps)))) ⟨s0, none, none, rfl, upd_same⟩ (fun i σ H' h => h.1) (fun i x σ H' hx h => ?_) (fun σ H' h => ?_)⟩
    · obtain ⟨sm, y3, y4, rfl, el⟩ := h
      obtain ⟨c, r, rfl, hr', hq⟩ := hI.2 i x hx
      have hcr := hc r (List.mem_of_getElem? hr')
      refine ⟨c, _, rfl, hq.same sm, rfl, _, _, rfl, _, _, rfl, rfl, .ref l, rfl, _, rfl, _, rfl, l, _, n, r.1, r.2, rfl, el, runs_pair _ hP (hc.take i), by omega, hcr.2, fun H2 e2 k2 => ?_⟩
      refine ⟨fun b o hb => k2 b o (ne_of_none hb nl) (sm _ _ hb), _, _, rfl, ?_⟩
      rw [runs_take hr']
      exact e2
    · obtain ⟨sm, y3, y4, rfl, el⟩ := h
      rw [hI.1, List.take_length] at el
      exact ⟨.ref l, rfl, l, _, rfl, .inl ⟨.inl (.inl el), fun t nt => q _ t (sm.trans (same_new nt)) (sm.free nt) upd_same⟩⟩
end
end Pc
namespace Pc
open PySem PySem.Spec PyProof.Rows L2 RZ
/-- a comprehension over a list or a tuple that stays as it is -/
theorem lc_seq' {K : PySem.W.Frag} {a : Addr} {xs : List V} {g : TG} {tt : TT} {te : TE} {vs : List Nat} {σ : L2.St} {H0 H1 : Hp} {Qd : Addr → Hp → Prop} (hS : Sq K H0 a xs) (s0 : Same H0 H1)
    (step : ∀ D, H1 D = none → ∃ Pv : Nat → Hp → Prop, Pv 0 (upd H1 D (.lst [])) ∧ (∀ i H', Pv i H' → Same H0 H') ∧ (∀ i x H', xs[i]? = some x → Pv i H' → g x (wipe σ vs) H' fun σ2 H2 => wipe σ2 vs = wipe σ vs ∧ tt σ2 H2 fun b H3 =>
      if b = true then te σ2 H3 fun y H4 => ∃ acc, H4 D = some (.lst acc) ∧ acc.length < sizeLine ∧ Pv (i + 1) (upd H4 D (.lst (acc ++ [y]))) else Pv (i + 1) H3) ∧ ∀ H', Pv xs.length H' → Qd D H') :
    ((∃ ys, SqL K H1 a ys) ∧ ∀ D, H1 D = none → ∃ W : Nat → Nat → Hp → Prop, (∃ m, W 0 m (upd H1 D (.lst []))) ∧ ∀ i m H, W i m H → ((Itl K a).stop i H ∧ Qd D H) ∨ ((Itl K a).go i H ∧ ∃ Nx : Hp → Prop, (∀ H', Nx H' → ∃ m', m' < m ∧ W (i + 1) m' H') ∧ ∀ x H', (Itl K a).yld i H x H' → g x (wipe σ vs) H' fun σ2 H2 => wipe σ2 vs = wipe σ vs ∧ tt σ2 H2 fun b H3 =>
        if b = true then te σ2 H3 fun y H4 => ∃ acc, H4 D = some (.lst acc) ∧ acc.length < sizeLine ∧ Nx (upd H4 D (.lst (acc ++ [y]))) else Nx H3)) ∨
    ((∃ ys, SqT K H1 a ys) ∧ ∀ D, H1 D = none → ∃ W : Nat → Nat → Hp → Prop, (∃ m, W 0 m (upd H1 D (.lst []))) ∧ ∀ i m H, W i m H → ((Itt K a).stop i H ∧ Qd D H) ∨ ((Itt K a).go i H ∧ ∃ Nx : Hp → Prop, (∀ H', Nx H' → ∃ m', m' < m ∧ W (i + 1) m' H') ∧ ∀ x H', (Itt K a).yld i H x H' → g x (wipe σ vs) H' fun σ2 H2 => wipe σ2 vs = wipe σ vs ∧ tt σ2 H2 fun b H3 =>
        if b = true then te σ2 H3 fun y H4 => ∃ acc, H4 D = some (.lst acc) ∧ acc.length < sizeLine ∧ Nx (upd H4 D (.lst (acc ++ [y]))) else Nx H3)) := by
  rcases hS with h | h
  · refine .inl ⟨⟨_, s0.seq h⟩, fun D nD => ?_⟩
    obtain ⟨Pv, h0, hst, hs, hd⟩ := step D nD
    exact lc_list Pv h0 (fun i H' _ p => (hst i H' p).seq h) hs hd
  · refine .inr ⟨⟨_, same_tup s0 h⟩, fun D nD => ?_⟩
    obtain ⟨Pv, h0, hst, hs, hd⟩ := step D nD
    exact lc_tup Pv h0 (fun i H' _ p => same_tup (hst i H' p) h) hs hd
end Pc
namespace Pc
open PySem PySem.Spec PyProof.Rows L2 RZ
/-! ### the heap without some objects -/
open Classical in
noncomputable def off (S : Addr → Prop) (H : Hp) : Hp := fun a => if S a then none else H a
theorem off_le {S : Addr → Prop} {H : Hp} : Same (off S H) H := fun a o h => by
  unfold off at h
  by_cases e : S a
  · rw [if_pos e] at h; cases h
  · rw [if_neg e] at h; exact h
theorem off_keep {S : Addr → Prop} {b : Addr} {H H' : Hp} (hb : S b) (k : Keep b H H') : Same (off S H) (off S H') := fun a o h => by
  unfold off at h ⊢
  by_cases e : S a
  · rw [if_pos e] at h; cases h
  · rw [if_neg e] at h ⊢; exact k a o (fun z => e (z ▸ hb)) h
theorem off_same {S : Addr → Prop} {H H' : Hp} (s : Same H H') : Same (off S H) (off S H') := fun a o h => by
  unfold off at h ⊢
  by_cases e : S a
  · rw [if_pos e] at h; cases h
  · rw [if_neg e] at h ⊢; exact s a o h
theorem off_get {S : Addr → Prop} {a : Addr} {H : Hp} {o : HO} (h : ¬ S a) (e : H a = some o) : off S H a = some o := by
  unfold off; rw [if_neg h]; exact e
theorem off_more {S S' : Addr → Prop} {H : Hp} (h : ∀ a, S a → S' a) : Same (off S' H) (off S H) := fun a o e => by
  unfold off at e ⊢
  by_cases z : S' a
  · rw [if_pos z] at e; cases e
  · rw [if_neg z] at e; rw [if_neg (fun y => z (h a y))]; exact e
/-- all of S is there -/
def Has (S : Addr → Prop) (H : Hp) : Prop := ∀ a, S a → ∃ o, H a = some o
theorem Has.same {S : Addr → Prop} {H H' : Hp} (h : Has S H) (s : Same H H') : Has S H' := fun a ha => let ⟨o, e⟩ := h a ha; ⟨o, s _ _ e⟩
theorem Has.new {S : Addr → Prop} {H : Hp} {p : Addr} (h : Has S H) (np : H p = none) : ¬ S p := fun z => by
  obtain ⟨o, e⟩ := h p z
  rw [np] at e; cases e
/-! ### data that is written out -/
def tD (K : PySem.W.Frag) (S : Addr → Prop) (d : PyData) : TE := fun _ H Q => Has S H ∧ ∀ v H', Same H H' → Dp K (off S H') v d → Q v H'
def tDs (K : PySem.W.Frag) (S : Addr → Prop) (ds : List PyData) : TA := fun _ H Q => Has S H ∧ ∀ vs H', Same H H' → DpAll K (off S H') vs ds → Q vs H'
section
variable {X : Cx} {S : Addr → Prop}
theorem pd_of {e : Expr} {t : TE} {v : V} {d : PyData} (h : PE X e t) (ht : ∀ σ H (Q : VK), Q v H → t σ H Q) (hd : ∀ H, Dp X.K H v d) : PE X e (tD X.K S d) := ⟨fun pins s σ H Q I q => h.run pins s σ H Q I (ht σ H Q (q.2 _ _ (fun _ _ z => z) (hd _)))⟩
theorem pd_int {i : Int} {j pos} : PE X (.Constant (.int i) j pos) (tD X.K S (.int i)) := pd_of pe_int (fun _ _ _ q => q) fun _ => .int i
theorem pd_bl {i : Bool} {j pos} : PE X (.Constant (.bool i) j pos) (tD X.K S (.bool i)) := pd_of pe_bl (fun _ _ _ q => q) fun _ => .bl i
theorem pd_non {j pos} : PE X (.Constant .none j pos) (tD X.K S .none) := pd_of pe_non (fun _ _ _ q => q) fun _ => .non
theorem pd_str {x : Str} {j pos} : PE X (.Constant (.str x) j pos) (tD X.K S (.str x)) := pd_of pe_str (fun _ _ _ q => q) fun _ => .str x
theorem pd_nil : PA X [] (tDs X.K S []) := ⟨fun pos pins s σ H Q I h => pa_nil.run pos pins s σ H Q I (h.2 _ _ (fun _ _ z => z) .nil)⟩
theorem pd_cons {e : Expr} {es : List Expr} {d : PyData} {ds : List PyData} (ha : PE X e (tD X.K S d)) (hr : PA X es (tDs X.K S ds)) (hs : starEach (e :: es) X.env = (false, eval e X.env) :: starEach es X.env := by rfl) : PA X (e :: es) (tDs X.K S (d :: ds)) :=
  ⟨fun pos pins s σ H Q I h => (pa_cons ha hr hs).run pos pins s σ H Q I ⟨h.1, fun v H1 s1 d1 => ⟨h.1.same s1, fun vs H2 s2 d2 => h.2 (v :: vs) H2 (s1.trans s2) (.cons (dp_same (off_same s2) d1) d2)⟩⟩⟩
theorem pd_tup {es : List Expr} {ds : List PyData} {x1} {pos : Pos} (h : PA X es (tDs X.K S ds)) (hl : ds.length ≤ 100000 := by decide) : PE X (.Tuple es x1 pos) (tD X.K S (.tuple ds)) :=
  ⟨fun pins s σ H Q I hq => (pe_tup h).run pins s σ H Q I ⟨hq.1, fun vs H1 s1 d1 => ⟨by rw [dpa_len d1]; exact Nat.le_of_lt (line_big hl), fun p np => hq.2 _ _ (s1.trans (same_new np)) (.tup (.inl (.inl (off_get ((hq.1.same s1).new np) upd_same))) (dpa_same (off_same (same_new np)) d1))⟩⟩⟩
theorem pd_lst {es : List Expr} {ds : List PyData} {pos : Pos} (h : PA X es (tDs X.K S ds)) (hl : ds.length ≤ 100000 := by decide) : PE X (.List es pos) (tD X.K S (.list ds)) :=
  ⟨fun pins s σ H Q I hq => (pe_lst h).run pins s σ H Q I ⟨hq.1, fun vs H1 s1 d1 => ⟨by rw [dpa_len d1]; exact Nat.le_of_lt (line_big hl), fun p np => hq.2 _ _ (s1.trans (same_new np)) (.lst (.inl (.inl (off_get ((hq.1.same s1).new np) upd_same))) (dpa_same (off_same (same_new np)) d1))⟩⟩⟩
end
/-! ### the kinds -/
def tyN : PyData → String
  | .none => "NoneType"
  | .bool _ => "bool"
  | .int _ => "int"
  | .str _ => "str"
  | .list _ => "list"
  | .tuple _ => "tuple"
  | .dict _ => "dict"
theorem dp_ty {K : PySem.W.Frag} {H : Hp} : ∀ {v : V} {d : PyData}, Dp K H v d → TyX K H v (.type (tyN d))
  | _, _, .non => .base .non
  | _, _, .bl b => .base (.bl b)
  | _, _, .int i => .base (.int i)
  | _, _, .str x => .base (.str x)
  | _, _, .lst h _ => ty_lst h
  | _, _, .tup h _ => ty_tup h
def isI : PyData → Bool
  | .int _ | .bool _ => true
  | _ => false
def isB : PyData → Bool
  | .bool _ => true
  | _ => false
def isT : PyData → Bool
  | .tuple _ => true
  | _ => false
def isL : PyData → Bool
  | .list _ => true
  | _ => false
theorem k_int {K : PySem.W.Frag} {H : Hp} {v : V} {d : PyData} (h : Dp K H v d) : PySem.W.kitOne K (.type (tyN d)) (.type "int") = some (isI d) := by
  cases h
  · exact one_none_int
  · exact one_bool_int
  · exact one_int_int
  · exact one_str_int
  · exact one_list_int
  · exact one_tuple_int
theorem k_bool {K : PySem.W.Frag} {H : Hp} {v : V} {d : PyData} (h : Dp K H v d) : PySem.W.kitOne K (.type (tyN d)) (.type "bool") = some (isB d) := by
  cases h
  · exact one_none_bool
  · exact one_bool_bool
  · exact one_int_bool
  · exact one_str_bool
  · exact one_list_bool
  · exact one_tuple_bool
theorem k_tuple {K : PySem.W.Frag} {H : Hp} {v : V} {d : PyData} (h : Dp K H v d) : PySem.W.kitOne K (.type (tyN d)) (.type "tuple") = some (isT d) := by
  cases h
  · exact one_none_tuple
  · exact one_bool_tuple
  · exact one_int_tuple
  · exact one_str_tuple
  · exact one_list_tuple
  · exact one_tuple_tuple
theorem k_list {K : PySem.W.Frag} {H : Hp} {v : V} {d : PyData} (h : Dp K H v d) : PySem.W.kitOne K (.type (tyN d)) (.type "list") = some (isL d) := by
  cases h
  · exact one_none_list
  · exact one_bool_list
  · exact one_int_list
  · exact one_str_list
  · exact one_list_list
  · exact one_tuple_list
theorem k_lt {K : PySem.W.Frag} {H : Hp} {v : V} {d : PyData} (h : Dp K H v d) : PySem.W.kitAny K (.type (tyN d)) [.type "list", .type "tuple"] = some (isL d || isT d) := by
  cases h
  · exact any_lt_none
  · exact any_lt_bool
  · exact any_lt_int
  · exact any_lt_str
  · exact any_lt_list
  · exact any_lt_tuple
/-! ### joined in pairs -/
def belowB (n : Nat) : PyData → Bool
  | .int i => decide (0 ≤ i) && decide (i < (n : Int))
  | _ => false
def natOf : PyData → Nat
  | .int i => i.toNat
  | _ => 0
def pairB (fs : List Nat) (i : Nat) : Bool := !decide (fs.getD i 0 = i) && decide (fs.getD (fs.getD i 0) 0 = i)
def joinB (ds : List PyData) : Bool := ds.all (belowB ds.length) && (List.range ds.length).all (pairB (ds.map natOf))
theorem below_nats {K : PySem.W.Frag} {H : Hp} {n : Nat} : ∀ {vs : List V} {ds : List PyData}, DpAll K H vs ds → ds.all (belowB n) = true → vs = nv (ds.map natOf) ∧ ∀ x ∈ ds.map natOf, x < n
  | _, _, .nil, _ => ⟨rfl, fun x hx => by simp at hx⟩
  | _, _, .cons (d := d) (ds := ds) h r, e => by
    rw [List.all_cons, Bool.and_eq_true] at e
    obtain ⟨e1, e2⟩ := e
    obtain ⟨g1, g2⟩ := below_nats r e2
    cases h with
    | int i =>
      unfold belowB at e1
      rw [Bool.and_eq_true, decide_eq_true_iff, decide_eq_true_iff] at e1
      refine ⟨?_, fun x hx => ?_⟩
      · rw [g1]
        show V.int i :: nv (ds.map natOf) = V.int ((i.toNat : Nat) : Int) :: nv (ds.map natOf)
        rw [show ((i.toNat : Nat) : Int) = i by omega]
      · rcases List.mem_cons.mp (show x ∈ i.toNat :: ds.map natOf from hx) with z | z
        · omega
        · exact g2 x z
    | non => cases e1
    | bl => cases e1
    | str => cases e1
    | lst => cases e1
    | tup => cases e1
def joinD : PyData → Bool
  | .tuple ds => joinB ds
  | _ => false
def isPairB : PyData → Bool
  | .tuple ds => joinB ds && decide (0 < ds.length)
  | _ => false
theorem all_take_bl {α : Type} (f : α → Bool) {l : List α} {i : Nat} {x : α} (h : l[i]? = some x) : ((l.take (i + 1)).map f).map V.bl = ((l.take i).map f).map V.bl ++ [V.bl (f x)] := by
  rw [List.take_add_one, h, List.map_append, List.map_append]
  rfl
end Pc
namespace Pc
open PySem PySem.Spec PyProof.Rows L2 RZ
/-! ### data of any kind: leaves, weight -/
mutual
def okD (B : Nat) : PyData → Prop
  | .none | .bool _ => True
  | .int i => i.natAbs ≤ B
  | .str x => PyData.strOk x = true
  | .list xs | .tuple xs => okAll B xs
  | .dict _ => False
def okAll (B : Nat) : List PyData → Prop
  | [] => True
  | x :: xs => okD B x ∧ okAll B xs
end
mutual
def wt : PyData → Nat
  | .none | .bool _ => 5
  | .int _ => 130
  | .str x => 10 * x.length + 2
  | .list xs | .tuple xs => 3 + wtAll xs
  | .dict _ => 0
def wtAll : List PyData → Nat
  | [] => 0
  | x :: xs => wt x + 2 + wtAll xs
end
theorem okAll_iff {B : Nat} : ∀ {ds : List PyData}, okAll B ds ↔ ∀ x ∈ ds, okD B x
  | [] => ⟨fun _ x hx => by simp at hx, fun _ => trivial⟩
  | d :: r => by
    show okD B d ∧ okAll B r ↔ _
    rw [okAll_iff (ds := r)]
    constructor
    · rintro ⟨h1, h2⟩ x hx
      rcases List.mem_cons.mp hx with z | z
      · rw [z]; exact h1
      · exact h2 x z
    · exact fun h => ⟨h d List.mem_cons_self, fun x hx => h x (List.mem_cons_of_mem _ hx)⟩
mutual
theorem okD_mono {B C : Nat} (h : B ≤ C) : ∀ {d : PyData}, okD B d → okD C d
  | .none, _ => trivial
  | .bool _, _ => trivial
  | .int i, e => Nat.le_trans (show i.natAbs ≤ B from e) h
  | .str _, e => e
  | .list _, e => okAll_mono h (show okAll B _ from e)
  | .tuple _, e => okAll_mono h (show okAll B _ from e)
  | .dict _, e => e
theorem okAll_mono {B C : Nat} (h : B ≤ C) : ∀ {ds : List PyData}, okAll B ds → okAll C ds
  | [], _ => trivial
  | _ :: _, ⟨a, b⟩ => ⟨okD_mono h a, okAll_mono h b⟩
end
theorem wtAll_app : ∀ a b : List PyData, wtAll (a ++ b) = wtAll a + wtAll b
  | [], b => (Nat.zero_add _).symm
  | x :: r, b => by show wt x + 2 + wtAll (r ++ b) = wt x + 2 + wtAll r + wtAll b; rw [wtAll_app r b]; omega
theorem wtAll_get : ∀ {ds : List PyData} {i : Nat} {x : PyData}, ds[i]? = some x → wt x + 2 ≤ wtAll ds
  | [], _, _, h => by simp at h
  | d :: r, 0, _, h => by cases Option.some.inj h; show _ ≤ wt d + 2 + wtAll r; omega
  | d :: r, i + 1, x, h => Nat.le_trans (wtAll_get (ds := r) (i := i) h) (by show _ ≤ wt d + 2 + wtAll r; omega)
theorem wtAll_set : ∀ {ds : List PyData} {i : Nat} {x : PyData} (y : PyData), ds[i]? = some x → wtAll (ds.set i y) + wt x = wtAll ds + wt y
  | [], _, _, _, h => by simp at h
  | d :: r, 0, _, y, h => by cases Option.some.inj h; show wt y + 2 + wtAll r + wt d = wt d + 2 + wtAll r + wt y; omega
  | d :: r, i + 1, x, y, h => by
    have := wtAll_set (ds := r) (i := i) y h
    show wt d + 2 + wtAll (r.set i y) + wt x = wt d + 2 + wtAll r + wt y
    omega
theorem wtAll_len : ∀ ds : List PyData, 2 * ds.length ≤ wtAll ds
  | [] => Nat.le_refl _
  | d :: r => by have := wtAll_len r; show 2 * (r.length + 1) ≤ wt d + 2 + wtAll r; omega
theorem wtAll_nd : ∀ l : List Nat, wtAll (nd l) = 132 * l.length
  | [] => rfl
  | x :: r => by show 130 + 2 + wtAll (nd r) = 132 * (r.length + 1); rw [wtAll_nd r]; omega
theorem strOk_signs {x : Str} (h : PyData.strOk x = true) : ∀ c ∈ x.cps.toList, c < 16 ^ 8 := fun c hc => by
  unfold PyData.strOk at h
  rw [← Array.all_toList] at h
  have h2 := of_decide_eq_true (List.all_eq_true.mp h c hc)
  exact Nat.lt_of_lt_of_le h2 (by decide)
theorem strOk_of (t : String) : PyData.strOk (Str.ofString t) = true := by
  unfold PyData.strOk
  rw [← Array.all_toList]
  refine List.all_eq_true.mpr fun c hc => decide_eq_true ?_
  rw [Str.ofString_eq_toList] at hc
  have hc' : c ∈ t.toList.map Char.toNat := by simpa using hc
  obtain ⟨z, _, rfl⟩ := List.mem_map.mp hc'
  have := z.valid
  rcases this with h | h
  · exact Nat.lt_of_lt_of_le h (by decide)
  · exact h.2
mutual
theorem shown_wt {B : Nat} (hB : B < 2 ^ 126) : ∀ {d : PyData}, okD B d → d.shown.length ≤ wt d
  | .none, _ => by decide
  | .bool b, _ => by cases b <;> decide
  | .int i, e => by
    have e' : i.natAbs ≤ B := e
    show (Str.ofString (toString i)).length ≤ 130
    rw [str_len]
    exact Nat.le_trans (int_text_length_le (k := 126) (by decide) (log_lt (by omega) (by decide))) (by decide)
  | .str x, e => by
    show (reprText x).length ≤ 10 * x.length + 2
    exact StrLaws.reprText_len x (strOk_signs e)
  | .list xs, e => by
    have h := shownAll_wt hB (show okAll B xs from e)
    have h3 := listText_len_le (PyData.shownAll xs)
    show (listText (PyData.shownAll xs)).length ≤ 3 + wtAll xs
    omega
  | .tuple xs, e => by
    have h := shownAll_wt hB (show okAll B xs from e)
    have h3 := tupleText_len_le (PyData.shownAll xs)
    show (tupleText (PyData.shownAll xs)).length ≤ 3 + wtAll xs
    omega
  | .dict _, e => e.elim
theorem shownAll_wt {B : Nat} (hB : B < 2 ^ 126) : ∀ {ds : List PyData}, okAll B ds → ((PyData.shownAll ds).map (·.length)).sum + 2 * (PyData.shownAll ds).length ≤ wtAll ds
  | [], _ => Nat.le_refl _
  | d :: r, ⟨e1, e2⟩ => by
    have h1 := shown_wt hB e1
    have h2 := shownAll_wt hB e2
    show ((d.shown :: PyData.shownAll r).map (·.length)).sum + 2 * ((PyData.shownAll r).length + 1) ≤ wt d + 2 + wtAll r
    rw [List.map_cons, List.sum_cons]
    omega
end
mutual
theorem okD_lay {B : Nat} : ∀ {d : PyData}, okD B d → d.canLay0 = true
  | .none, _ => rfl
  | .bool _, _ => rfl
  | .int _, _ => rfl
  | .str _, e => e
  | .list _, e => okAll_lay (show okAll B _ from e)
  | .tuple _, e => okAll_lay (show okAll B _ from e)
  | .dict _, e => e.elim
theorem okAll_lay {B : Nat} : ∀ {ds : List PyData}, okAll B ds → PyData.canLayAll0 ds = true
  | [], _ => rfl
  | d :: r, ⟨a, b⟩ => by show (d.canLay0 && PyData.canLayAll0 r) = true; rw [okD_lay a, okAll_lay b]; rfl
end
mutual
theorem okD_show {B : Nat} (hB : B < 2 ^ 126) : ∀ {d : PyData}, okD B d → d.showable = true
  | .none, _ => rfl
  | .bool _, _ => rfl
  | .int i, e => decide_eq_true (Nat.lt_of_lt_of_le (log_lt (k := 126) (Nat.lt_of_le_of_lt (show i.natAbs ≤ B from e) hB) (by decide)) (by decide))
  | .str _, _ => rfl
  | .list _, e => okAll_show hB (show okAll B _ from e)
  | .tuple _, e => okAll_show hB (show okAll B _ from e)
  | .dict _, e => e.elim
theorem okAll_show {B : Nat} (hB : B < 2 ^ 126) : ∀ {ds : List PyData}, okAll B ds → PyData.showableAll ds = true
  | [], _ => rfl
  | d :: r, ⟨a, b⟩ => by show (d.showable && PyData.showableAll r) = true; rw [okD_show hB a, okAll_show hB b]; rfl
end
mutual
theorem nar_wt : ∀ {d : PyData}, wt d ≤ 100000 → narrow d
  | .none, _ => trivial
  | .bool _, _ => trivial
  | .int _, _ => trivial
  | .str _, _ => trivial
  | .list xs, h => by
    have h' : 3 + wtAll xs ≤ 100000 := h
    have := wtAll_len xs
    exact ⟨by omega, narAll_wt (by omega)⟩
  | .tuple xs, h => by
    have h' : 3 + wtAll xs ≤ 100000 := h
    have := wtAll_len xs
    exact ⟨by omega, narAll_wt (by omega)⟩
  | .dict _, _ => trivial
theorem narAll_wt : ∀ {ds : List PyData}, wtAll ds ≤ 100000 → narrowAll ds
  | [], _ => trivial
  | d :: r, h => by
    have h' : wt d + 2 + wtAll r ≤ 100000 := h
    exact ⟨nar_wt (by omega), narAll_wt (by omega)⟩
end
theorem okD_fine {B m k : Nat} {d : PyData} (hB : B < 2 ^ 126) (h : okD B d) (hw : wt d ≤ m) (hm : m ≤ 100000) (hd : d.depth ≤ k) : Fine k m d :=
  ⟨okD_lay h, okD_show hB h, hd, nar_wt (by omega), Nat.le_trans (shown_wt hB h) hw⟩
/-! ### parts of lists of data -/
section
variable {K : PySem.W.Frag} {H : Hp}
theorem dpa_take : ∀ {vs : List V} {ds : List PyData} (i : Nat), DpAll K H vs ds → DpAll K H (vs.take i) (ds.take i)
  | _, _, 0, _ => .nil
  | _, _, _ + 1, .nil => .nil
  | _, _, i + 1, .cons h r => .cons h (dpa_take i r)
theorem dpa_drop : ∀ {vs : List V} {ds : List PyData} (i : Nat), DpAll K H vs ds → DpAll K H (vs.drop i) (ds.drop i)
  | _, _, 0, h => h
  | _, _, _ + 1, .nil => .nil
  | _, _, i + 1, .cons _ r => dpa_drop i r
theorem dpa_app : ∀ {vs us : List V} {ds es : List PyData}, DpAll K H vs ds → DpAll K H us es → DpAll K H (vs ++ us) (ds ++ es)
  | _, _, _, _, .nil, s => s
  | _, _, _, _, .cons h r, s => .cons h (dpa_app r s)
theorem dpa_set : ∀ {vs : List V} {ds : List PyData} (i : Nat) {v : V} {d : PyData}, DpAll K H vs ds → Dp K H v d → DpAll K H (vs.set i v) (ds.set i d)
  | _, _, _, _, _, .nil, _ => .nil
  | _, _, 0, _, _, .cons _ r, h => .cons h r
  | _, _, i + 1, _, _, .cons g r, h => .cons g (dpa_set i r h)
end
theorem cut_to (vs : List V) (i : Nat) : cutV vs none (some (i : Int)) = vs.take i := by
  unfold cutV
  rw [HT.sIx_none, HT.sIx_nat, List.drop_zero, Nat.sub_zero]
  by_cases h : i ≤ vs.length
  · rw [Nat.min_eq_left h]
  · rw [Nat.min_eq_right (by omega), List.take_of_length_le (Nat.le_refl _), List.take_of_length_le (by omega)]
theorem cut_from (vs : List V) (i : Nat) : cutV vs (some (i : Int)) none = vs.drop i := by
  unfold cutV
  rw [HT.sIx_none, HT.sIx_nat]
  by_cases h : i ≤ vs.length
  · rw [Nat.min_eq_left h, List.take_of_length_le (by rw [List.length_drop]; omega)]
  · rw [Nat.min_eq_right (by omega), List.drop_of_length_le (Nat.le_refl _), List.drop_of_length_le (by omega), List.take_nil]
end Pc
namespace Pc
open PySem PySem.Spec PyProof.Rows L2 RZ
/-! ### tuple(range(i, j, c)) -/
def rgC (i c : Int) (n : Nat) : List V := (List.range n).map fun k => V.int (i + (k : Nat) * c)
def rgCD (i c : Int) (n : Nat) : List PyData := (List.range n).map fun k => PyData.int (i + (k : Nat) * c)
theorem dpa_map {K : PySem.W.Frag} {H : Hp} (g : Nat → Int) : ∀ l : List Nat, DpAll K H (l.map fun k => V.int (g k)) (l.map fun k => PyData.int (g k))
  | [] => .nil
  | _ :: r => .cons (.int _) (dpa_map g r)
theorem dpa_rgC {K : PySem.W.Frag} {H : Hp} (i c : Int) (n : Nat) : DpAll K H (rgC i c n) (rgCD i c n) := dpa_map (fun k => i + (k : Nat) * c) _
theorem wt_ints (g : Nat → Int) : ∀ l : List Nat, wtAll (l.map fun k => PyData.int (g k)) = 132 * l.length
  | [] => rfl
  | x :: r => by show 130 + 2 + wtAll (r.map fun k => PyData.int (g k)) = 132 * (r.length + 1); rw [wt_ints g r]; omega
theorem wt_rgCD (i c : Int) (n : Nat) : wtAll (rgCD i c n) = 132 * n := by unfold rgCD; rw [wt_ints, List.length_range]
theorem depth_rgCD (i c : Int) (n : Nat) : PyData.depthAll (rgCD i c n) ≤ 0 := all_depth fun d hd => by
  obtain ⟨k, _, rfl⟩ := List.mem_map.mp hd
  exact Nat.le_refl _
def tTupRgC (ta : TA) : TE := fun σ H Q => ta σ H fun vs H1 => ∃ (i j c : Int) (n : Nat), vs = [.int i, .int j, .int c] ∧ RgC i j c n ∧ n ≤ 2 ^ 20 ∧ ∀ q, H1 q = none → Q (.ref q) (upd H1 q (.tup (rgC i c n)))
theorem vals_rgC {i c : Int} {n : Nat} {acc : Array Value} (h : ItemsOf (fun k v => ∃ t, v = .int (i + k * c) t) acc n) : Vals (rgC i c n) acc.toList := by
  have e : acc.toList.length = n := by rw [Array.length_toList]; exact h.1
  unfold rgC
  rw [← e]
  refine vals_of_get acc.toList _ fun j u hj => ?_
  obtain ⟨t, rfl⟩ := h.2 j u (by rw [← hj, Array.getElem?_toList])
  exact ⟨t, rfl⟩
theorem pe_tupRgC {X : Cx} {a b c : Expr} {ta : TA} {p pos p2 pos2 : Pos} (hc : X.calm = true) (hg : Gl X "tuple") (hm : X.mg "tuple" = none) (hg2 : Gl X "range") (hm2 : X.mg "range" = none) (ha : PA X [a, b, c] ta)
    (na : starEach [.Call (.Name "range" p2) [a, b, c] [] pos2] X.env = (false, eval (.Call (.Name "range" p2) [a, b, c] [] pos2) X.env) :: starEach [] X.env := by rfl)
    (hs : starEach [a, b, c] X.env = (false, eval a X.env) :: starEach [b, c] X.env := by rfl) (hpl : (backTo pos2 (starEach [b, c] X.env)).any (·.1) = false := by rfl) :
    PE X (.Call (.Name "tuple" p) [.Call (.Name "range" p2) [a, b, c] [] pos2] [] pos) (tTupRgC ta) := by
  refine ⟨fun pins s σ H Q I h => ?_⟩
  refine Call_ (ld_blt I hg hm boot_tuple (PyProof.Rows.callWith_type1 (args_cons ?_ na) na))
  refine Call_ (ld_blt I hg2 hm2 boot_range (PyProof.Rows.callWith_type1 (thn (ha.run pos2 pins s σ H _ I h) fun us s1 ⟨vs, H1, I1, r1, q1⟩ => ?_) hs hpl))
  obtain ⟨i, j, k, n, e, ⟨c0, c1, c2, c3⟩, hn, q⟩ := q1
  subst e
  cases r1 with
  | cons r rr =>
    cases rr with
    | cons r' rr =>
      cases rr with
      | cons r'' rr =>
        cases rr
        obtain ⟨t, rfl⟩ := r
        obtain ⟨t', rfl⟩ := r'
        obtain ⟨t'', rfl⟩ := r''
        refine call_range_3 c0 ?_ (.inl (PyProof.noPylong_small c1))
        refine args_nil ?_
        have I2 : Inv X pins σ H1 { s1 with heap := s1.heap.push { cls := .type "range", data := .fields #[.int i t, .int j t', .int k t''] } } := I1.kept (t' := s1.toks) fun b o e => Heap.get?_push_of_some _ e
        refine call_tuple_range (n := n) (I2.ok.hd hc) (IsRange.new ..) c2 c3 (Nat.le_trans hn (by decide)) fun h' tk acc hk hi => ?_
        have I3 := I2.kept (t' := tk) hk
        refine ⟨.ref h'.objs.size, upd H1 h'.objs.size (.tup (rgC i k n)), I3.laid (t' := tk) (fun c o e => Heap.get?_push_of_some _ e) (Nat.le_refl _) (show ObjOk X.prog X.w _ _ _ (.tup (rgC i k n)) from ⟨?_, acc.toList, vals_rgC hi, ?_⟩), rfl, q _ (I3.hok.fresh (Nat.le_refl _))⟩
        · unfold rgC; rw [List.length_map, List.length_range, sizeLine_eq]; omega
        · rw [Array.toArray_toList]; exact IsTup.new _ _
/-! ### repr of any data -/
theorem call_reprV {X : Cx} (hgd : X.A.guards = some []) (hu : X.A.units + 64 < cLine) : CallR X (.builtin "repr") (fun xs H Q => ∃ (v : V) (d : PyData), xs = [v] ∧ Dp X.K H v d ∧ d.canLay0 = true ∧ d.showable = true ∧ d.depth ≤ 60 ∧ d.shown.length ≤ sizeLine ∧ Q (.str d.shown) H) := by
  intro pins s σ H xs us Q I r h
  obtain ⟨v, d, rfl, hd, hl, hs, hdp, hz, q⟩ := h
  obtain ⟨u, rfl, ru⟩ := vals1 r
  cases hd with
  | non => cases ru; exact PySem.P.repr_of_none ⟨.str _, H, I.tok _, ⟨_, rfl⟩, q⟩
  | bl b => cases ru; exact PySem.P.repr_of_bool ⟨.str _, H, I.tok _, ⟨_, rfl⟩, q⟩
  | int i =>
    obtain ⟨t, rfl⟩ := ru
    exact PySem.P.repr_of_int (of_decide_eq_true hs) ⟨.str _, H, I.tok _, ⟨_, rfl⟩, q⟩
  | str x =>
    obtain ⟨t, rfl⟩ := ru
    exact PySem.P.repr_of_str ⟨.str _, H, I.tok _, ⟨_, rfl⟩, q⟩ hz
  | lst hS hA =>
    exact call_reprD hgd hu pins s σ H _ _ Q I r ⟨_, _, rfl, .lst hS hA, hl, hs, hdp, hz, q⟩
  | tup hS hA =>
    exact call_reprD hgd hu pins s σ H _ _ Q I r ⟨_, _, rfl, .tup hS hA, hl, hs, hdp, hz, q⟩
end Pc
namespace Pc
open PySem PySem.Spec PyProof.Rows L2 RZ
section
variable {P : Program} {w : World} {K : PySem.W.Frag} {mg : Str → Option Value} {base : Heap}
/-! ### is it joined in pairs? whatever it is -/
def spBelowD (K : PySem.W.Frag) : Sp := fun vs H Q _ => ∃ (v : V) (d : PyData) (n : Nat), vs = [v, .int n] ∧ Dp K H v d ∧ Q (.bl (belowB n d)) H
theorem ok_p_belowD (T : Env K mg) : FnOk P w K mg base CX0 1 T.f_p_is_integer_below T.d_p_is_integer_below ["value", "limit"] (spBelowD K) := by
  refine T.F_p_is_integer_below.ok sc_p_is_integer_below (fun vs H Q E h => ?_) (fun cdv A outer s H vs Q E hr h => ?_)
  · obtain ⟨v, d, n, rfl, _⟩ := h
    rfl
  · obtain ⟨v, d, n, rfl, hd, q⟩ := h
    refine ⟨_, pss_cons (ps_if (PW.pt (pw_or (pt_not (pt_val (pe_callB call_isi (by rfl) T.n_isinstance (by decide +kernel) (pa_cons (pv 0) (pa_cons (pe_bltn (v := .ty "int") (by rfl) T.n_int (by decide +kernel) rfl) pa_nil)))))
        (pw_or1 (pt_val (pe_callB call_isi (by rfl) T.n_isinstance (by decide +kernel) (pa_cons (pv 0) (pa_cons (pe_bltn (v := .ty "bool") (by rfl) T.n_bool (by decide +kernel) rfl) pa_nil)))))))
        (pss_one (ps_ret pe_bl)) pss_nil) <|
      pss_one (ps_ret (pe_chain op_le op_lt pe_int (pv 0) (pv 1))), ?_⟩
    refine ⟨_, rfl, _, _, _, _, _, rfl, .ty _, dp_ty hd, k_int hd, _, rfl, ite2 (fun c => ?_) (fun c => ?_)⟩
    · have e : belowB n d = false := by cases hd <;> first | rfl | exact absurd (show false = true from c) Bool.false_ne_true
      rw [e] at q
      exact q
    · refine ⟨_, rfl, _, _, _, _, _, rfl, .ty _, dp_ty hd, k_bool hd, _, rfl, ite2 (fun c' => ?_) (fun c' => ?_)⟩
      · have e : belowB n d = false := by cases hd <;> first | rfl | exact absurd (show false = true from c') Bool.false_ne_true
        rw [e] at q
        exact q
      · cases hd with
        | int i =>
          refine ⟨_, rfl, _, _, rfl, rfl, _, rfl, ite2 (fun g => ⟨_, rfl, _, _, rfl, rfl, ?_⟩) (fun g => ?_)⟩
          · have e : belowB n (.int i) = decide (i < (n : Int)) := by show (decide (0 ≤ i) && decide (i < (n : Int))) = _; rw [show decide (0 ≤ i) = true from g]; rfl
            rw [e] at q; exact q
          · have e : belowB n (.int i) = false := by show (decide (0 ≤ i) && decide (i < (n : Int))) = _; rw [show decide (0 ≤ i) = false from Bool.eq_false_iff.mpr g]; rfl
            rw [e] at q; exact q
        | non => exact absurd rfl c
        | bl => exact absurd rfl c'
        | str => exact absurd rfl c
        | lst => exact absurd rfl c
        | tup => exact absurd rfl c
end
end Pc
namespace Pc
open PySem PySem.Spec PyProof.Rows L2 RZ
theorem eqv_nd : ∀ f g : List Nat, PyData.eqvAll (nd f) (nd g) = decide (f = g)
  | [], [] => by simp [nd, PyData.eqvAll]
  | [], _ :: _ => by simp [nd, PyData.eqvAll]
  | _ :: _, [] => by simp [nd, PyData.eqvAll]
  | x :: f, y :: g => by
    show PyData.eqvAll (.int (x : Int) :: nd f) (.int (y : Int) :: nd g) = _
    rw [PyData.eqvAll, eqv_nd f g, PyData.eqv]
    by_cases c : x = y
    · subst c; by_cases d : f = g
      · subst d; simp
      · simp [d]
    · have : ¬ ((x : Int) = (y : Int)) := fun z => c (by omega)
      simp [c, this]
theorem eqv_td (f g : List Nat) : PyData.eqv (td f) (td g) = decide (f = g) := by
  show PyData.eqv (.tuple (nd f)) (.tuple (nd g)) = _
  rw [PyData.eqv]; exact eqv_nd f g
end Pc
namespace Pc
open PySem PySem.Spec PyProof.Rows L2 RZ
/-! ### xs[::-1] of a list -/
def backV {α : Type} (xs : List α) : List α := (sliceRange ((xs.length : Int) - 1) (-1) (-1)).filterMap (xs[·]?)
theorem pick_vals {xs : List V} {its : List Value} (r : Vals xs its) : ∀ l : List Nat, Vals (l.filterMap (xs[·]?)) (l.filterMap (its[·]?))
  | [] => .nil
  | i :: l => by
    cases e : xs[i]? with
    | none =>
      have h := List.getElem?_eq_none_iff.mp e
      have e2 : its[i]? = none := List.getElem?_eq_none_iff.mpr (by rw [← r.length]; exact h)
      rw [List.filterMap_cons_none e, List.filterMap_cons_none e2]
      exact pick_vals r l
    | some v =>
      obtain ⟨u, hu, ru⟩ := r.get e
      rw [List.filterMap_cons_some e, List.filterMap_cons_some hu]
      exact .cons ru (pick_vals r l)
theorem back_len {α : Type} (xs : List α) : (backV xs).length ≤ xs.length := by
  unfold backV
  exact Nat.le_trans (List.length_filterMap_le _ _) (sliceRange_length_le _ _ _ _ (fun h => absurd h (by decide)) (fun _ => ⟨Int.le_refl _, Int.le_refl _⟩))
theorem back_mem {α : Type} {xs : List α} {x : α} (h : x ∈ backV xs) : x ∈ xs := by
  obtain ⟨i, _, e⟩ := List.mem_filterMap.mp h
  exact List.mem_of_getElem? e
theorem back_nv (l : List Nat) : backV (nv l) = nv (backV l) := by
  unfold backV nv
  rw [List.length_map, List.map_filterMap]
  refine congrArg (fun f => List.filterMap f _) (funext fun i => ?_)
  rw [List.getElem?_map]
theorem slice_back (its : List Value) : slicePick its.toArray none none (some (-1)) = (backV its).toArray := by
  unfold slicePick backV
  simp [sliceBounds]
def tRevL (K : PySem.W.Frag) (te : TE) : TE := fun σ H Q => te σ H fun x H1 => ∃ a xs, x = .ref a ∧ SqL K H1 a xs ∧ ∀ p, H1 p = none → Q (.ref p) (upd H1 p (.lst (backV xs)))
theorem pe_revL {X : Cx} {e : Expr} {te : TE} {k : Nat} {p1 p2 p3 pos : Pos} (he : PE X e te) : PE X (.Subscript e (.Slice none none (some (.UnaryOp .USub (.Constant (.int 1) k p1) p2)) p3) pos) (tRevL X.K te) := by
  constructor
  intro pins s σ H Q I h
  refine Subscript_ (thn (he.run pins s σ H _ I h) fun v s1 r => ?_)
  obtain ⟨x, H1, I1, r1, a, xs, ex, hx, q⟩ := r
  subst ex
  cases r1
  have hst : PO X (some (.UnaryOp .USub (.Constant (.int 1) k p1) p2)) (tPart (tUn (rU fun i => .int (-i)) (tC (.int 1)))) := po_some (pe_un un_neg pe_int)
  refine wpAny_Slice (thn (po_none.run pins s1 σ H1 (fun o H2 => o = none ∧ H2 = H1) I1 ⟨rfl, rfl⟩) fun vl s2 ⟨l, H2, I2, pl, el, e2⟩ => ?_)
  subst el e2
  refine thn (po_none.run pins s2 σ H2 (fun o H3 => o = none ∧ H3 = H2) I2 ⟨rfl, rfl⟩) fun vu s3 ⟨u, H3, I3, pu, eu, e3⟩ => ?_
  subst eu e3
  refine thn (hst.run pins s3 σ H3 (fun o H4 => o = some (-1) ∧ H4 = H3) I3 ⟨1, rfl, -1, rfl, rfl, rfl⟩) fun vs s4 ⟨o, H4, I4, ps, eo, e4⟩ => ?_
  subst eo e4
  cases pl
  cases pu
  have I5 : Inv X pins σ H4 { s4 with heap := s4.heap.push { cls := .type "slice", data := .fields #[.none, .none, vs] } } := I4.kept (t' := s4.toks) fun b ob q => Heap.get?_push_of_some _ q
  obtain ⟨its, r, ht, hz⟩ := I5.list hx
  have hlen := r.length
  show wpAny (model X.prog X.w) X.A (subscriptTail e (.Slice none none (some (.UnaryOp .USub (.Constant (.int 1) k p1) p2)) p3) (.ref a) (.ref s4.heap.objs.size)) (EP X pins σ Q) X.xe _
  refine tail_any (ops := [.ref a, .ref s4.heap.objs.size]) ht.isList.typeIs PySem.F.slot_list_getitem.lookup ?_ (by with_unfolding_all rfl)
  refine wpAny_getItem_list_slice ht.isList (Heap.IsSliceOf.new _ .none .none vs) .none .none ps (by simp) ?_ (by rw [List.size_toArray] <;> omega)
  rw [slice_back]
  refine ⟨.ref _, _, I5.laid (t' := s4.toks) (o := .lst (backV xs)) (fun b ob q => Heap.get?_push_of_some _ q) (Nat.le_refl _) ?_, rfl, q _ (I5.hok.fresh (Nat.le_refl _))⟩
  refine ⟨Nat.le_trans (back_len xs) hz, _, 0, ?_, Heap.get?_push_size _ rfl⟩
  unfold backV
  rw [hlen]
  exact pick_vals r _
end Pc
namespace Pc
open PySem PySem.Spec PyProof.Rows L2 RZ
/-! ### xs[::-1] of a list or a tuple of any length -/
theorem fm_all {α : Type} {xs : List α} : ∀ {l : List Nat}, (∀ i ∈ l, i < xs.length) → (l.filterMap (xs[·]?)).map some = l.map (xs[·]?)
  | [], _ => rfl
  | i :: l, h => by
    have hi := h i List.mem_cons_self
    rw [List.filterMap_cons_some (List.getElem?_eq_getElem hi), List.map_cons, List.map_cons, fm_all fun j hj => h j (List.mem_cons_of_mem _ hj), List.getElem?_eq_getElem hi]
theorem rev_of {α : Type} (xs : List α) (f : Nat → Nat) (hf : ∀ k, k < xs.length → f k = xs.length - 1 - k) : ((List.range xs.length).map f).filterMap (xs[·]?) = xs.reverse := by
  have inj : ∀ {a b : List α}, a.map some = b.map some → a = b := fun {a b} h => (List.map_inj_right fun _ _ e => Option.some.inj e).mp h
  refine inj ?_
  rw [fm_all (fun i hi => by
    obtain ⟨k, hk, rfl⟩ := List.mem_map.mp hi
    have hk' := List.mem_range.mp hk
    rw [hf k hk']; omega)]
  refine List.ext_getElem? fun k => ?_
  rw [List.getElem?_map, List.getElem?_map, List.getElem?_map]
  by_cases h : k < xs.length
  · rw [List.getElem?_range h, List.getElem?_reverse h]
    show some (xs[f k]?) = _
    rw [hf k h, List.getElem?_eq_getElem (show xs.length - 1 - k < xs.length by omega)]
    rfl
  · rw [List.getElem?_eq_none (by rw [List.length_range]; omega), List.getElem?_eq_none (by rw [List.length_reverse]; omega)]
    rfl
theorem back_rev {α : Type} (xs : List α) : backV xs = xs.reverse := by
  unfold backV sliceRange
  simp only [show ¬ ((-1 : Int) > 0) by decide, if_false]
  by_cases h : (xs.length : Int) - 1 > -1
  · rw [if_pos h, show (((xs.length : Int) - 1 - -1 - -1 - 1) / (- -1)).toNat = xs.length by
      rw [show (- -1 : Int) = 1 from rfl, Int.ediv_one]; omega]
    exact rev_of xs _ fun k hk => by omega
  · rw [if_neg h]
    have : xs = [] := List.eq_nil_of_length_eq_zero (by omega)
    subst this; rfl
section
variable {prog : Program} {w : World} {A : Around} {E : Value → Shared → Prop} {s : Shared}
theorem applied_revN {sl : Addr} {vk : Value} {n : Nat} {Q : Int × Int × Nat → Shared → Prop} (hs : s.heap.IsSliceOf sl .none .none vk) (pk : IsPart vk (some (-1))) (h : Q ((n : Int) - 1, -1, n) s) :
    wpAny (model prog w) A (Builtin.Slice.sliceApplied (.ref sl) (pure (n : Int))) Q E s := by
  obtain ⟨os, hos, hcs, hds⟩ := id hs
  unfold Builtin.Slice.sliceApplied Builtin.Slice.sliceFields
  refine wpAny_bind (wpAny_bind (wpAny_field hos hds (x := .none) rfl ?_))
  refine wpAny_bind (wpAny_field hos hds (x := .none) rfl ?_)
  refine wpAny_bind (wpAny_field hos hds (x := vk) rfl (wpAny_pure ?_))
  refine wpAny_bind (HT.slicePart_ pk ?_)
  show wpAny _ _ (if ((-1 : Int) == 0) = true then _ else _) _ _ s
  rw [if_neg (by decide)]
  refine wpAny_bind (HT.slicePart_ .none (wpAny_bind (HT.slicePart_ .none (wpAny_bind (wpAny_pure ?_)))))
  have e : Builtin.Slice.slicePlaces ((n : Int) - 1) (-1) (-1) = n := by
    unfold Builtin.Slice.slicePlaces
    rw [if_neg (by decide)]
    by_cases h : (n : Int) - 1 > -1
    · rw [if_pos h, show (- -1 : Int) = 1 from rfl, Int.ediv_one]; omega
    · rw [if_neg h]; omega
  show wpAny _ _ (pure ((n : Int) - 1, (-1 : Int), Builtin.Slice.slicePlaces ((n : Int) - 1) (-1) (-1))) _ _ s
  rw [e]
  exact wpAny_pure h
theorem item_revN {t sl : Addr} {its : List Value} {vk : Value} {Q : Value → Shared → Prop} (ht : IsTup s.heap t its.toArray) (hz : its.length ≤ sizeLine) (hs : s.heap.IsSliceOf sl .none .none vk) (pk : IsPart vk (some (-1)))
    (h : Q (.ref s.heap.objs.size) { s with heap := s.heap.push { cls := .type "tuple", data := .seq its.reverse.toArray } }) : wpAny (model prog w) A (getItem (.ref t) (.ref sl)) Q E s := by
  obtain ⟨os, hos, hcs, hds⟩ := id hs
  have hTs : s.TypeIs (.ref sl) "slice" := ⟨os, hos, hcs⟩
  unfold getItem
  try with_reducible refine wpAny_holding ?_
  first | refine wpAny_bind (wpAny_pure ?_) | skip
  refine wpAny_bind (wpAny_sequenceKey ht.typeIs (by decide) ?_)
  refine wpAny_bind (wpAny_callSpecial?_slot (name := Str.ofString "__getitem__") ht.typeIs PyProof.Rows.slot_tuple_getitem (wpAny_call_entry PyProof.Rows.slot_tuple_getitem ht.typeIs entry_tuple_getitem ?_ (args_tuple_getitem _ _)))
  show wpAny _ _ (Builtin.Tuple.tupleItemsOf (.ref t) >>= _) _ _ s
  refine wpAny_bind (tupleItemsOf_ ht ?_)
  refine wpAny_bind (wpAny_typeOf hTs ?_)
  rw [if_pos (by decide)]
  refine wpAny_bind (applied_revN hs pk ?_)
  show wpAny _ _ (if ((((its.toArray.size : Nat) : Int) - 1) == 0 && (-1 : Int) == 1 && its.toArray.size == its.toArray.size) = true then _ else _) _ _ s
  rw [if_neg (by rw [show ((-1 : Int) == 1) = false from rfl, Bool.and_false, Bool.false_and]; decide)]
  have e : ((List.range its.toArray.size).filterMap fun (k : Nat) => its.toArray[((((its.toArray.size : Nat) : Int) - 1) + (k : Int) * -1).toNat]?).toArray = its.reverse.toArray := by
    rw [← rev_of its (fun k => (((its.length : Nat) : Int) - 1 + (k : Int) * -1).toNat) (fun k hk => by omega), List.filterMap_map]
    simp only [List.size_toArray, List.getElem?_toArray]
    rfl
  rw [e]
  have hz2 : sizeOk (.seq its.reverse.toArray) := by show its.reverse.toArray.size ≤ sizeLine; rw [List.size_toArray, List.length_reverse]; exact hz
  first
    | exact wpAny_bind (m := Builtin.Tuple.tupleExact _) (wpAny_newObj_type (wpAny_pure ⟨_, rfl, wpAny_pure h⟩) hz2)
    | exact wpAny_bind (wpAny_bind (m := Builtin.Tuple.tupleExact _) (wpAny_newObj_type (wpAny_pure (wpAny_pure ⟨_, rfl, wpAny_pure h⟩)) hz2))
    | exact wpAny_bind (wpAny_bind (m := Builtin.Tuple.tupleExact _) (wpAny_newObj_type (wpAny_pure ⟨_, rfl, wpAny_pure h⟩) hz2))
    | exact wpAny_bind (m := Builtin.Tuple.tupleExact _) (wpAny_newObj_type (wpAny_bind (wpAny_pure (wpAny_pure ⟨_, rfl, wpAny_pure h⟩))) hz2)
end
def tRevS (K : PySem.W.Frag) (te : TE) : TE := fun σ H Q => te σ H fun x H1 => ∃ a xs, x = .ref a ∧ ((SqL K H1 a xs ∧ ∀ p, H1 p = none → Q (.ref p) (upd H1 p (.lst xs.reverse))) ∨ (SqT K H1 a xs ∧ ∀ p, H1 p = none → Q (.ref p) (upd H1 p (.tup xs.reverse))))
theorem pe_revS {X : Cx} {e : Expr} {te : TE} {k : Nat} {p1 p2 p3 pos : Pos} (he : PE X e te) : PE X (.Subscript e (.Slice none none (some (.UnaryOp .USub (.Constant (.int 1) k p1) p2)) p3) pos) (tRevS X.K te) := by
  constructor
  intro pins s σ H Q I h
  refine Subscript_ (thn (he.run pins s σ H _ I h) fun v s1 r => ?_)
  obtain ⟨x, H1, I1, r1, a, xs, ex, hx⟩ := r
  subst ex
  cases r1
  have hst : PO X (some (.UnaryOp .USub (.Constant (.int 1) k p1) p2)) (tPart (tUn (rU fun i => .int (-i)) (tC (.int 1)))) := po_some (pe_un un_neg pe_int)
  refine wpAny_Slice (thn (po_none.run pins s1 σ H1 (fun o H2 => o = none ∧ H2 = H1) I1 ⟨rfl, rfl⟩) fun vl s2 ⟨l, H2, I2, pl, el, e2⟩ => ?_)
  subst el e2
  refine thn (po_none.run pins s2 σ H2 (fun o H3 => o = none ∧ H3 = H2) I2 ⟨rfl, rfl⟩) fun vu s3 ⟨u, H3, I3, pu, eu, e3⟩ => ?_
  subst eu e3
  refine thn (hst.run pins s3 σ H3 (fun o H4 => o = some (-1) ∧ H4 = H3) I3 ⟨1, rfl, -1, rfl, rfl, rfl⟩) fun vs s4 ⟨o, H4, I4, ps, eo, e4⟩ => ?_
  subst eo e4
  cases pl
  cases pu
  have I5 : Inv X pins σ H4 { s4 with heap := s4.heap.push { cls := .type "slice", data := .fields #[.none, .none, vs] } } := I4.kept (t' := s4.toks) fun b ob q => Heap.get?_push_of_some _ q
  show wpAny (model X.prog X.w) X.A (subscriptTail e (.Slice none none (some (.UnaryOp .USub (.Constant (.int 1) k p1) p2)) p3) (.ref a) (.ref s4.heap.objs.size)) (EP X pins σ Q) X.xe _
  rcases hx with ⟨hx, q⟩ | ⟨hx, q⟩
  · obtain ⟨its, r, ht, hz⟩ := I5.list hx
    have hlen := r.length
    refine tail_any (ops := [.ref a, .ref s4.heap.objs.size]) ht.isList.typeIs PySem.F.slot_list_getitem.lookup ?_ (by with_unfolding_all rfl)
    refine wpAny_getItem_list_slice ht.isList (Heap.IsSliceOf.new _ .none .none vs) .none .none ps (by simp) ?_ (by rw [List.size_toArray] <;> omega)
    rw [slice_back, back_rev]
    refine ⟨.ref _, _, I5.laid (t' := s4.toks) (o := .lst xs.reverse) (fun b ob q => Heap.get?_push_of_some _ q) (Nat.le_refl _) ?_, rfl, q _ (I5.hok.fresh (Nat.le_refl _))⟩
    refine ⟨by rw [List.length_reverse]; exact hz, _, 0, ?_, Heap.get?_push_size _ rfl⟩
    exact r.reverse
  · obtain ⟨its, r, ht, hz⟩ := I5.tuple hx
    have hlen := r.length
    refine tail_any (ops := [.ref a, .ref s4.heap.objs.size]) ht.typeIs PyProof.Rows.slot_tuple_getitem.lookup ?_ (by with_unfolding_all rfl)
    refine item_revN ht (by omega) (Heap.IsSliceOf.new _ .none .none vs) ps ?_
    refine ⟨.ref _, _, I5.laid (t' := s4.toks) (o := .tup xs.reverse) (fun b ob q => Heap.get?_push_of_some _ q) (Nat.le_refl _) ?_, rfl, q _ (I5.hok.fresh (Nat.le_refl _))⟩
    exact ⟨by rw [List.length_reverse]; omega, its.reverse, r.reverse, IsTup.new _ _⟩
/-! ### a bool or an int: + n, - n, str -/
def numV : PyData → Option Int
  | .int i => some i
  | .bool k => some (if k = true then 1 else 0)
  | _ => none
section
variable {X : Cx}
theorem op_addU : OpR X (binaryOp .Add) (fun x y H Q => ∃ (d : PyData) (i j : Int), Dp X.K H x d ∧ numV d = some i ∧ y = .int j ∧ Q (.int (i + j)) H) := by
  intro pins s σ H x y v u Q I rx ry h
  obtain ⟨d, i, j, hd, hi, rfl, q⟩ := h
  cases hd with
  | int a => cases hi; exact op_add pins s σ H _ _ v u Q I rx ry ⟨_, _, rfl, rfl, q⟩
  | bl k =>
    cases hi; cases rx; obtain ⟨t, rfl⟩ := ry
    exact PySem.IntBool.add_bool_int ⟨.int _, H, I.tok _, ⟨_, rfl⟩, q⟩
  | non => cases hi
  | str => cases hi
  | lst => cases hi
  | tup => cases hi
theorem op_subU : OpR X (binaryOp .Sub) (fun x y H Q => ∃ (d : PyData) (i j : Int), Dp X.K H x d ∧ numV d = some i ∧ y = .int j ∧ Q (.int (i - j)) H) := by
  intro pins s σ H x y v u Q I rx ry h
  obtain ⟨d, i, j, hd, hi, rfl, q⟩ := h
  cases hd with
  | int a => cases hi; exact op_sub pins s σ H _ _ v u Q I rx ry ⟨_, _, rfl, rfl, q⟩
  | bl k =>
    cases hi; cases rx; obtain ⟨t, rfl⟩ := ry
    exact PySem.IntBool.sub_bool_int ⟨.int _, H, I.tok _, ⟨_, rfl⟩, q⟩
  | non => cases hi
  | str => cases hi
  | lst => cases hi
  | tup => cases hi
theorem call_str_U : CallR X (.type "str") (fun xs H Q => ∃ (v : V) (d : PyData), xs = [v] ∧ Dp X.K H v d ∧ isI d = true ∧ d.showable = true ∧ Q (.str d.shown) H) := by
  intro pins s σ H xs us Q I r h
  obtain ⟨v, d, rfl, hd, hi, hs, q⟩ := h
  cases hd with
  | int a => exact call_str_int pins s σ H _ us Q I r ⟨_, rfl, of_decide_eq_true hs, q⟩
  | bl k =>
    obtain ⟨u, rfl, r1⟩ := vals1 r
    cases r1
    exact PySem.P.str_of_bool ⟨.str _, H, I.tok _, ⟨_, rfl⟩, q⟩
  | non => cases hi
  | str => cases hi
  | lst => cases hi
  | tup => cases hi
end
theorem dpa_rev {K : PySem.W.Frag} {H : Hp} : ∀ {vs : List V} {ds : List PyData}, DpAll K H vs ds → DpAll K H vs.reverse ds.reverse
  | _, _, .nil => .nil
  | _, _, .cons (v := v) (d := d) (vs := vs) (ds := ds) h r => by
    rw [List.reverse_cons, List.reverse_cons]
    exact dpa_app (dpa_rev r) (.cons h .nil)
theorem wt_rev : ∀ ds : List PyData, wtAll ds.reverse = wtAll ds
  | [] => rfl
  | d :: r => by
    rw [List.reverse_cons, wtAll_app, wt_rev r]
    show wtAll r + (wt d + 2 + 0) = wt d + 2 + wtAll r
    omega
theorem tjoinR {t v : TS} {D : L2.Ends} {σ : L2.St} {H : Hp} (J : L2.St → Hp → Prop) (h : ∀ N : L2.St → Hp → Prop, (∀ σ' H', J σ' H' → N σ' H') → t { D with nx := N } σ H) (k : ∀ σ' H', J σ' H' → v D σ' H') : tSeq t v D σ H := h (v D) k
theorem Has.keep {S : Addr → Prop} {b : Addr} {m : Nat} {H H' : Hp} (h : Has S H) (k : Keep b H H') (hB : Box m H' b) : Has S H' := fun a ha => by
  by_cases e : a = b
  · subst e
    obtain ⟨y, hy⟩ := hB.lst
    exact ⟨_, hy⟩
  · obtain ⟨o, eo⟩ := h a ha
    exact ⟨o, k a o e eo⟩
theorem dp_seq {K : PySem.W.Frag} {H : Hp} {v : V} {d : PyData} (h : Dp K H v d) (e : (isL d || isT d) = true) : ∃ (a : Addr) (xs : List V) (ds : List PyData), v = .ref a ∧ DpAll K H xs ds ∧ ((SqL K H a xs ∧ d = .list ds) ∨ (SqT K H a xs ∧ d = .tuple ds)) := by
  cases h with
  | lst hS hA => exact ⟨_, _, _, rfl, hA, .inl ⟨hS, rfl⟩⟩
  | tup hS hA => exact ⟨_, _, _, rfl, hA, .inr ⟨hS, rfl⟩⟩
  | non => exact absurd (show false = true from e) Bool.false_ne_true
  | bl => exact absurd (show false = true from e) Bool.false_ne_true
  | int => exact absurd (show false = true from e) Bool.false_ne_true
  | str => exact absurd (show false = true from e) Bool.false_ne_true
theorem depth_mem {ds : List PyData} {x : PyData} (h : x ∈ ds) : x.depth ≤ PyData.depthAll ds := by
  obtain ⟨i, hi, e⟩ := List.mem_iff_getElem.mp h
  exact depth_get (i := i) (by rw [List.getElem?_eq_getElem hi, e])
theorem wt_cut {ds : List PyData} {j : Nat} {x : PyData} (h : ds[j]? = some x) : wtAll (ds.take j) + wtAll (ds.drop (j + 1)) + wt x + 2 = wtAll ds := by
  obtain ⟨hj, e⟩ := List.getElem?_eq_some_iff.mp h
  have e1 : ds.take j ++ (x :: ds.drop (j + 1)) = ds := by rw [← e, ← List.drop_eq_getElem_cons hj, List.take_append_drop]
  have e2 : wtAll (ds.take j ++ (x :: ds.drop (j + 1))) = wtAll ds := congrArg wtAll e1
  rw [wtAll_app] at e2
  have e3 : wtAll (x :: ds.drop (j + 1)) = wt x + 2 + wtAll (ds.drop (j + 1)) := rfl
  omega
end Pc
namespace Pc
open PySem PySem.Spec PyProof.Rows L2 RZ
/-- two statements in a row that come to one state, whatever way they go -/
theorem tjoin2 {t u v : TS} {D : L2.Ends} {σ : L2.St} {H : Hp} (J : L2.St → Hp → Prop) (k : ∀ σ' H', J σ' H' → v D σ' H') (h : ∀ N : L2.St → Hp → Prop, (∀ σ' H', J σ' H' → N σ' H') → tSeq t u { D with nx := N } σ H) : tSeq t (tSeq u v) D σ H := h (v D) k
theorem tjoin1 {t v : TS} {D : L2.Ends} {σ : L2.St} {H : Hp} (J : L2.St → Hp → Prop) (k : ∀ σ' H', J σ' H' → v D σ' H') (h : ∀ N : L2.St → Hp → Prop, (∀ σ' H', J σ' H' → N σ' H') → t { D with nx := N } σ H) : tSeq t v D σ H := h (v D) k
theorem st_at {u : L2.St → Hp → Prop} {r : VK} {bk ct : L2.St → Hp → Prop} {σ : L2.St} {H : Hp} (σ' : L2.St) (e : σ = σ') (h : u σ' H) : (L2.Ends.mk u r bk ct).nx σ H := by rw [e]; exact h
theorem st_nx {u : TS} {D : L2.Ends} {σ : L2.St} {H : Hp} (h : u D σ H) : tNext { D with nx := u D } σ H := h
theorem keep_freeR {b p : Addr} {k : Nat} {H H' : Hp} (hk : Keep b H H') (hB : Box k H' b) (h : H' p = none) : H p = none := by
  cases e : H p with
  | none => rfl
  | some o =>
    by_cases hb : p = b
    · subst hb
      obtain ⟨y, hy⟩ := hB.lst
      rw [hy] at h; cases h
    · rw [hk p o hb e] at h; cases h
end Pc
namespace Pc
open PySem PySem.Spec PyProof.Rows L2 RZ
def bentA : List PyData := [.none, .bool true, .bool false, .int 0, .int 1, .int (-1), .str "", .str "0-1", .tuple [], .list [], .tuple [.int 0, .int 1], .list [.int 0, .int 1], .tuple [.int 1, .int 0], .tuple [.int 0, .int 0], .tuple [.bool true, .int 2], .tuple [.int 0, .int 1, .int 2]]
theorem bent_ok : okAll (2 ^ 100) bentA := by
  have h1 : PyData.strOk "" = true := by decide +kernel
  have h2 : PyData.strOk "0-1" = true := by decide +kernel
  show okAll (2 ^ 100) [_, _, _, _, _, _, _, _, _, _, _, _, _, _, _, _]
  simp only [okAll, okD, h1, h2, and_true, true_and]
  decide
theorem bent_small : ∀ d ∈ bentA, d.depth ≤ 1 ∧ wt d ≤ 600 := by
  have h : bentA.all (fun d => decide (d.depth ≤ 1) && decide (wt d ≤ 600)) = true := by decide +kernel
  intro d hd
  have := List.all_eq_true.mp h d hd
  rw [Bool.and_eq_true, decide_eq_true_iff, decide_eq_true_iff] at this
  exact this
def bx : Nat → Nat
  | 0 => 4
  | k + 1 => 2 * bx k + 4
/-- what may come of it -/
def Bent (B : Nat) (d y : PyData) : Prop := okD (B + 1) y ∧ y.depth ≤ d.depth + 1 ∧ wt y ≤ 2 * wt d + 1100
def Opts (K : PySem.W.Frag) (S : Addr → Prop) (B : Nat) (d : PyData) (H : Hp) (l : Addr) (m : Nat) : Prop := ∃ (vs : List V) (ds : List PyData), H l = some (.lst vs) ∧ DpAll K (off S H) vs ds ∧ (∀ y ∈ ds, Bent B d y) ∧ 0 < vs.length ∧ vs.length ≤ m
section
variable {P : Program} {w : World} {K : PySem.W.Frag} {mg : Str → Option Value} {base : Heap}
/-! ### something else in its place -/
def spBent (K : PySem.W.Frag) (k : Nat) : Sp := fun vs H Q _ => ∃ (b : Addr) (n : Nat) (S : Addr → Prop) (v : V) (d : PyData) (B : Nat), vs = [.ref b, v] ∧ Box (n + bx k) H b ∧ S b ∧ Has S H ∧ Dp K (off S H) v d ∧ okD B d ∧ 2 ^ 100 ≤ B ∧ B < 2 ^ 125 ∧ d.depth < k ∧ wt d ≤ 20000 ∧
  ∀ (H' : Hp) (v' : V) (d' : PyData), Keep b H H' → Box n H' b → Bent B d d' → Dp K (off S H') v' d' → Q v' H'
theorem bent_step (T : Env K mg) (k : Nat) (G : FnOk P w K mg base CX0 (2 + k) T.f_bent T.d_bent ["_law_box_here", "_law_matter"] (spBent K k)) : FnOk P w K mg base CX0 (2 + k + 1) T.f_bent T.d_bent ["_law_box_here", "_law_matter"] (spBent K (k + 1)) := by
  have GT : FnOk P w K mg base CX0 1 T.f_take T.d_take ["_law_box_here", "_law_below"] spTake := ok_take T
  have GP : FnOk P w K mg base CX0 2 T.f_pick T.d_pick ["_law_box_here", "_law_some"] (spOf K) := ok_pick T
  refine T.F_bent.ok sc_bent (fun vs H Q E h => ?_) (fun cdv A outer s H vs Q E hr h => ?_)
  · obtain ⟨b, n, S, v, d, B, rfl, _⟩ := h
    rfl
  · obtain ⟨b, n, S, v, d, B, rfl, hB, hSb, hS, hd, hok, hB1, hB2, hdp, hwt, q⟩ := h
    have h1 := hr.mono (show 1 ≤ 2 + k by omega)
    have h2 := hr.mono (show 2 ≤ 2 + k by omega)
    have ebx : bx (k + 1) = 2 * bx k + 4 := rfl
    rw [ebx] at hB
    refine ⟨_, pss_cons (ps_if (PW.pt (pw_and (pt_val (pe_callB call_isiT (by rfl) T.n_isinstance (by decide +kernel) (pa_cons (pv 1) (pa_cons (pe_tup (pa_cons (pe_bltn (v := .ty "list") (by rfl) T.n_list (by decide +kernel) rfl) (pa_cons (pe_bltn (v := .ty "tuple") (by rfl) T.n_tuple (by decide +kernel) rfl) pa_nil))) pa_nil)))) (pw_and (pt_cmpR op_gt (pe_callB call_len_seq (by rfl) T.n_len PySem.boot_len (pa_cons (pv 1) pa_nil)) pe_int (nomark _)) (pw_and1 (pt_cmpR op_gt (pe_call GT h1 (by rfl) T.g_take T.F_take.kp T.b_take .nil pass0 (pa_cons (pv 0) (pa_cons pe_int pa_nil))) pe_int (nomark _)))))) (pss_cons (ps_set (i := 2) sc_bent.nd rfl (.inl rfl) (pe_call GT h1 (by rfl) T.g_take T.F_take.kp T.b_take .nil pass0 (pa_cons (pv 0) (pa_cons (pe_callB call_len_seq (by rfl) T.n_len PySem.boot_len (pa_cons (pv 1) pa_nil)) pa_nil)))) <|
      pss_cons (ps_set (i := 3) sc_bent.nd rfl (.inl rfl) (pe_callTy call_list_of (by rfl) T.n_list (by decide +kernel) (pa_cons (pv 1) pa_nil))) <|
      pss_cons (ps_set (i := 4) sc_bent.nd rfl (.inl rfl) (pe_ix ix_list (pe_lst (pa_cons (pe_lst (pa_cons (pe_call G hr (by rfl) T.g_bent T.F_bent.kp T.b_bent .nil pass0 (pa_cons (pv 0) (pa_cons (pe_ix ix_list (pv 3) (pv 2) (fun _ _ => rfl)) pa_nil))) pa_nil)) (pa_cons (pe_lst pa_nil) (pa_cons (pe_lst (pa_cons (pe_ix ix_list (pv 3) (pv 2) (fun _ _ => rfl)) (pa_cons (pe_ix ix_list (pv 3) (pv 2) (fun _ _ => rfl)) pa_nil))) (pa_cons (pe_lst (pa_cons (pe_call G hr (by rfl) T.g_bent T.F_bent.kp T.b_bent .nil pass0 (pa_cons (pv 0) (pa_cons (pe_ix ix_list (pv 3) (pv 2) (fun _ _ => rfl)) pa_nil))) pa_nil)) pa_nil))))) (pe_call GT h1 (by rfl) T.g_take T.F_take.kp T.b_take .nil pass0 (pa_cons (pv 0) (pa_cons pe_int pa_nil))) (fun _ _ => rfl))) <|
      pss_cons (ps_set (i := 3) sc_bent.nd rfl (.inl rfl) (pe_op op_cat (pe_op op_cat (pe_slice sl_list (pv 3) po_none (po_some (pv 2))) (pv 4)) (pe_slice sl_list (pv 3) (po_some (pe_op op_add (pv 2) pe_int)) po_none))) <|
      pss_one (ps_ret (pe_ifExp (pt_val (pe_callB call_isi (by rfl) T.n_isinstance (by decide +kernel) (pa_cons (pv 1) (pa_cons (pe_bltn (v := .ty "list") (by rfl) T.n_list (by decide +kernel) rfl) pa_nil)))) (pv 3) (pe_callTy call_tuple_of (by rfl) T.n_tuple (by decide +kernel) (pa_cons (pv 3) pa_nil))))) pss_nil) <|
      pss_cons (ps_set (i := 3) sc_bent.nd rfl (.inl rfl) (pe_lst (t := tDs K S bentA) (pd_cons pd_non (pd_cons pd_bl (pd_cons pd_bl (pd_cons pd_int (pd_cons pd_int (pd_cons (pd_of (pe_un un_neg pe_int) (fun _ _ _ q => ⟨_, rfl, q⟩) fun _ => .int (-1)) (pd_cons pd_str (pd_cons pd_str (pd_cons (pd_tup pd_nil) (pd_cons (pd_lst pd_nil) (pd_cons (pd_tup (pd_cons pd_int (pd_cons pd_int pd_nil))) (pd_cons (pd_lst (pd_cons pd_int (pd_cons pd_int pd_nil))) (pd_cons (pd_tup (pd_cons pd_int (pd_cons pd_int pd_nil))) (pd_cons (pd_tup (pd_cons pd_int (pd_cons pd_int pd_nil))) (pd_cons (pd_tup (pd_cons pd_bl (pd_cons pd_int pd_nil))) (pd_cons (pd_tup (pd_cons pd_int (pd_cons pd_int (pd_cons pd_int pd_nil)))) pd_nil)))))))))))))))))) <|
      pss_cons (ps_if (pt_val (pe_callB call_isiT (by rfl) T.n_isinstance (by decide +kernel) (pa_cons (pv 1) (pa_cons (pe_tup (pa_cons (pe_bltn (v := .ty "list") (by rfl) T.n_list (by decide +kernel) rfl) (pa_cons (pe_bltn (v := .ty "tuple") (by rfl) T.n_tuple (by decide +kernel) rfl) pa_nil))) pa_nil)))) (pss_one (ps_set (i := 3) sc_bent.nd rfl (.inl rfl) (pe_op op_cat (pv 3) (pe_op op_rep (pe_lst (pa_cons (pe_callTy call_list_of (by rfl) T.n_list (by decide +kernel) (pa_cons (pv 1) pa_nil)) (pa_cons (pe_callTy call_tuple_of (by rfl) T.n_tuple (by decide +kernel) (pa_cons (pv 1) pa_nil)) (pa_cons (pe_revS (pv 1)) pa_nil)))) pe_int)))) pss_nil) <|
      pss_cons (ps_if (pt_val (pe_callB call_isi (by rfl) T.n_isinstance (by decide +kernel) (pa_cons (pv 1) (pa_cons (pe_bltn (v := .ty "int") (by rfl) T.n_int (by decide +kernel) rfl) pa_nil)))) (pss_one (ps_set (i := 3) sc_bent.nd rfl (.inl rfl) (pe_op op_cat (pv 3) (pe_op op_rep (pe_lst (pa_cons (pe_op op_addU (pv 1) pe_int) (pa_cons (pe_op op_subU (pv 1) pe_int) (pa_cons (pe_cmpR (op_eqD hr.units) (pv 1) pe_int (nomark _)) (pa_cons (pe_callTy call_str_U (by rfl) T.n_str (by decide +kernel) (pa_cons (pv 1) pa_nil)) pa_nil))))) pe_int)))) pss_nil) <|
      pss_one (ps_ret (pe_call GP h2 (by rfl) T.g_pick T.F_pick.kp T.b_pick .nil pass0 (pa_cons (pv 0) (pa_cons (pv 3) pa_nil)))), ?_⟩
    have xsz : ∀ {m : Nat}, m ≤ 50000 → m ≤ sizeLine := fun h => Nat.le_of_lt (line_big (by omega))
    refine tjoinR (t := tIfS _ _ _) (fun σ' J => σ' = [some (.ref b), some v, none, none, none] ∧ Keep b H J ∧ Box (n + 2) J b) (fun Nx hNx => ?_) (fun σ' J1 hJ => ?_)
    · refine ⟨_, rfl, by show 2 ≤ sizeLine; decide, fun t nt => ?_⟩
      have st : Same H _ := same_new (o := .tup [.ty "list", .ty "tuple"]) nt
      have et : (upd H t (.tup [.ty "list", .ty "tuple"])) t = some (.tup [.ty "list", .ty "tuple"]) := upd_same
      revert st et
      generalize upd H t (.tup [.ty "list", .ty "tuple"]) = H2
      intro st et
      have hd2 := dp_same (off_same (S := S) st) hd
      have he2 := dp_same off_le hd2
      have hS2 := hS.same st
      have hB2' := hB.same st
      have k2 : Keep b H H2 := Keep.of_same st
      refine ⟨_, t, _, _, _, _, rfl, et, cls2 _ _, dp_ty he2, k_lt he2, _, rfl, ite2 (fun g => ?_) (fun g => hNx _ _ ⟨rfl, k2, hB2'.mono (by omega)⟩)⟩
      obtain ⟨a, xs, ds, rfl, hA, hdd⟩ := dp_seq hd2 g
      have hlx := dpa_len hA
      have dW : wt d = 3 + wtAll ds := by rcases hdd with ⟨_, z⟩ | ⟨_, z⟩ <;> rw [z] <;> rfl
      have dD : d.depth = PyData.depthAll ds + 1 := by rcases hdd with ⟨_, z⟩ | ⟨_, z⟩ <;> rw [z] <;> rfl
      have okds : okAll B ds := by rcases hdd with ⟨_, z⟩ | ⟨_, z⟩ <;> rw [z] at hok <;> exact hok
      have dlen := wtAll_len ds
      have hq2 : Sq K H2 a xs := by
        rcases hdd with ⟨z, _⟩ | ⟨z, _⟩
        · exact .inl (off_le.seq z)
        · exact .inr (same_tup off_le z)
      refine ⟨.ref a, rfl, a, _, rfl, hq2, _, _, rfl, rfl, _, rfl, ite2 (fun g2 => ?_) (fun g2 => hNx _ _ ⟨rfl, k2, hB2'.mono (by omega)⟩)⟩
      have l0 : 0 < ds.length := by have : (0 : Int) < (xs.length : Int) := of_decide_eq_true g2; omega
      refine ⟨.ref b, rfl, b, n + 2 * bx k + 3, 4, rfl, hB2', by decide, by decide, fun r1 H3 _ _ hB3 k3 => ?_⟩
      have k03 := k2.trans k3
      refine ⟨_, _, rfl, rfl, _, rfl, ite2 (fun g3 => ?_) (fun g3 => hNx _ _ ⟨rfl, k03, hB3.mono (by omega)⟩)⟩
      clear hNx
      have hd3 := dp_same (off_keep hSb k3) hd2
      have hA3 : DpAll K (off S H3) xs ds := dpa_same (off_keep hSb k3) hA
      have hq3 : Sq K H3 a xs := by
        rcases hdd with ⟨z, _⟩ | ⟨z, _⟩
        · exact .inl (off_le.seq ((off_keep hSb k3).seq z))
        · exact .inr (same_tup off_le (same_tup (off_keep hSb k3) z))
      have hS3 := hS2.keep k3 hB3
      refine ⟨.ref b, rfl, .ref a, rfl, a, _, rfl, hq3, b, n + 2 * bx k + 2, (xs.length : Int), rfl, hB3.mono (by omega), by omega, by omega, fun r2 H4 r20 r21 hB4 k4 => ?_⟩
      obtain ⟨j, rfl⟩ := Int.eq_ofNat_of_zero_le r20
      have hj : j < ds.length := by omega
      have k04 := k03.trans k4
      have hA4 : DpAll K (off S H4) xs ds := dpa_same (off_keep hSb k4) hA3
      have hd4 := dp_same (off_keep hSb k4) hd3
      have hS4 := hS3.keep k4 hB4
      have hq4 : Sq K H4 a xs := by
        rcases hdd with ⟨z, _⟩ | ⟨z, _⟩
        · exact .inl (off_le.seq ((off_keep hSb k4).seq ((off_keep hSb k3).seq z)))
        · exact .inr (same_tup off_le (same_tup (off_keep hSb k4) (same_tup (off_keep hSb k3) z)))
      refine ⟨.ref a, rfl, a, _, rfl, hq4, fun l nl => ?_⟩
      have sl : Same H4 _ := same_new (o := .lst xs) nl
      have el : (upd H4 l (.lst xs)) l = some (.lst xs) := upd_same
      have lS : ¬ S l := hS4.new nl
      have lb : l ≠ b := fun z => lS (z ▸ hSb)
      revert sl el
      generalize upd H4 l (.lst xs) = H5
      intro sl el
      have hA5 := dpa_same (off_same (S := S) sl) hA4
      have hd5 := dp_same (off_same (S := S) sl) hd4
      have hS5 := hS4.same sl
      have hB5 := hB4.same sl
      have k05 : Keep b H H5 := k04.trans (Keep.of_same sl)
      obtain ⟨v1, e1⟩ := get_some (l := xs) (i := j) (by omega)
      obtain ⟨d1, f1, hd1⟩ := dpa_get hA5 e1
      have m1 := List.mem_of_getElem? f1
      have w1 := wtAll_get f1
      have dd1 := depth_mem m1
      have ok1 := okAll_iff.mp okds _ m1
      -- the first one bent
      refine ⟨.ref b, rfl, .ref l, rfl, _, rfl, l, _, _, v1, rfl, rfl, .inl (.inl el), atI_nat e1, b, n + bx k + 2, S, v1, d1, B, rfl, hB5.mono (by omega), hSb, hS5, hd1, ok1, hB1, hB2, by omega, by omega, fun H6 v6 d6 k6 hB6 o6 p6 => ?_⟩
      refine ⟨by show 1 ≤ sizeLine; decide, fun pa npa => ?_⟩
      have sa : Same H6 _ := same_new (o := .lst [v6]) npa
      have ea : (upd H6 pa (.lst [v6])) pa = some (.lst [v6]) := upd_same
      have hS6 := hS5.keep k6 hB6
      have pab : pa ≠ b := fun z => hS6.new npa (z ▸ hSb)
      revert sa ea
      generalize upd H6 pa (.lst [v6]) = H7
      intro sa ea
      refine ⟨by show 0 ≤ sizeLine; decide, fun pb npb => ?_⟩
      have sb : Same H7 _ := same_new (o := .lst []) npb
      have eb : (upd H7 pb (.lst [])) pb = some (.lst []) := upd_same
      have hS7 := hS6.same sa
      have pbb : pb ≠ b := fun z => hS7.new npb (z ▸ hSb)
      revert sb eb
      generalize upd H7 pb (.lst []) = H8
      intro sb eb
      have k58 : Keep b H5 H8 := k6.trans (Keep.of_same (sa.trans sb))
      have el8 := k58 _ _ lb el
      refine ⟨.ref l, rfl, _, rfl, l, _, _, v1, rfl, rfl, .inl (.inl el8), atI_nat e1, .ref l, rfl, _, rfl, l, _, _, v1, rfl, rfl, .inl (.inl el8), atI_nat e1, by show 2 ≤ sizeLine; decide, fun pc npc => ?_⟩
      have sc : Same H8 _ := same_new (o := .lst [v1, v1]) npc
      have ec : (upd H8 pc (.lst [v1, v1])) pc = some (.lst [v1, v1]) := upd_same
      have hS8 := hS7.same sb
      have pcb : pc ≠ b := fun z => hS8.new npc (z ▸ hSb)
      revert sc ec
      generalize upd H8 pc (.lst [v1, v1]) = H9
      intro sc ec
      have k59 : Keep b H5 H9 := k58.trans (Keep.of_same sc)
      have el9 := k59 _ _ lb el
      have hS9 := hS8.same sc
      have hB9 := hB6.same (sa.trans (sb.trans sc))
      have hd19 := dp_same (off_keep hSb k59) hd1
      refine ⟨.ref b, rfl, .ref l, rfl, _, rfl, l, _, _, v1, rfl, rfl, .inl (.inl el9), atI_nat e1, b, n + 2, S, v1, d1, B, rfl, hB9.mono (by omega), hSb, hS9, hd19, ok1, hB1, hB2, by omega, by omega, fun HA vA dA kA hBA oA pA => ?_⟩
      refine ⟨by show 1 ≤ sizeLine; decide, fun pd npd => ?_⟩
      have sd : Same HA _ := same_new (o := .lst [vA]) npd
      have ed : (upd HA pd (.lst [vA])) pd = some (.lst [vA]) := upd_same
      have hSA := hS9.keep kA hBA
      have pdb : pd ≠ b := fun z => hSA.new npd (z ▸ hSb)
      revert sd ed
      generalize upd HA pd (.lst [vA]) = HB
      intro sd ed
      refine ⟨by show 4 ≤ sizeLine; decide, fun pe npe => ?_⟩
      have se : Same HB _ := same_new (o := .lst [.ref pa, .ref pb, .ref pc, .ref pd]) npe
      have ee : (upd HB pe (.lst [.ref pa, .ref pb, .ref pc, .ref pd])) pe = some (.lst [.ref pa, .ref pb, .ref pc, .ref pd]) := upd_same
      have hSB := hSA.same sd
      have peb : pe ≠ b := fun z => hSB.new npe (z ▸ hSb)
      revert se ee
      generalize upd HB pe (.lst [.ref pa, .ref pb, .ref pc, .ref pd]) = HC
      intro se ee
      refine ⟨.ref b, rfl, b, n + 1, 4, rfl, ((hBA.same sd).same se).mono (by omega), by decide, by decide, fun r5 HD r50 r51 hBD kD => ?_⟩
      have kAD : Keep b HA HD := (Keep.of_same (sd.trans se)).trans kD
      have k9D : Keep b H9 HD := kA.trans kAD
      have k6D : Keep b H6 HD := (Keep.of_same (sa.trans (sb.trans sc))).trans k9D
      have k5D : Keep b H5 HD := k59.trans k9D
      have k0D : Keep b H HD := k05.trans k5D
      have elD := k5D _ _ lb el
      have eaD := k9D _ _ pab ((sb.trans sc) _ _ ea)
      have ebD := k9D _ _ pbb (sc _ _ eb)
      have ecD := k9D _ _ pcb ec
      have edD := kD _ _ pdb (se _ _ ed)
      have eeD := kD _ _ peb ee
      have hSD := (hSB.same se).keep kD hBD
      have hAD := dpa_same (off_keep hSb k5D) hA5
      have hdD := dp_same (off_keep hSb k5D) hd5
      have hd1D := dp_same (off_keep hSb k5D) hd1
      have hp6 := dp_same (off_keep hSb k6D) p6
      have hpA := dp_same (off_keep hSb kAD) pA
      have okm : okAll (B + 1) ds := okAll_mono (by omega) okds
      obtain ⟨pp, pvs, pds, hat, epp, dpp, hpd, hpw⟩ : ∃ (pp : Addr) (pvs : List V) (pds : List PyData), atI [V.ref pa, V.ref pb, V.ref pc, V.ref pd] r5 = some (.ref pp) ∧ HD pp = some (.lst pvs) ∧ DpAll K (off S HD) pvs pds ∧ (∀ y ∈ pds, okD (B + 1) y ∧ y.depth ≤ d.depth) ∧ wtAll pds ≤ 2 * wt d1 + 1102 := by
        rcases (show r5 = 0 ∨ r5 = 1 ∨ r5 = 2 ∨ r5 = 3 by omega) with z | z | z | z
        · subst z
          refine ⟨pa, [v6], [d6], rfl, eaD, .cons hp6 .nil, fun y hy => ?_, ?_⟩
          · rw [List.mem_singleton.mp hy]; exact ⟨o6.1, by have := o6.2.1; omega⟩
          · show wt d6 + 2 + 0 ≤ _; have := o6.2.2; omega
        · subst z
          exact ⟨pb, [], [], rfl, ebD, .nil, fun y hy => by simp at hy, Nat.zero_le _⟩
        · subst z
          refine ⟨pc, [v1, v1], [d1, d1], rfl, ecD, .cons hd1D (.cons hd1D .nil), fun y hy => ?_, ?_⟩
          · have : y = d1 := by simpa using hy
            rw [this]; exact ⟨okD_mono (by omega) ok1, by omega⟩
          · show wt d1 + 2 + (wt d1 + 2 + 0) ≤ _; omega
        · subst z
          refine ⟨pd, [vA], [dA], rfl, edD, .cons hpA .nil, fun y hy => ?_, ?_⟩
          · rw [List.mem_singleton.mp hy]; exact ⟨oA.1, by have := oA.2.1; omega⟩
          · show wt dA + 2 + 0 ≤ _; have := oA.2.2; omega
      have plen : 2 * pds.length ≤ wtAll pds := wtAll_len pds
      have pvl := dpa_len dpp
      refine ⟨pe, _, r5, .ref pp, rfl, rfl, .inl (.inl eeD), hat, ?_⟩
      refine ⟨.ref l, rfl, _, rfl, _, rfl, l, _, rfl, .inl (.inl elD), fun p1 np1 => ?_⟩
      rw [cut_to]
      have sp1 := same_new (o := .lst (xs.take j)) np1
      refine ⟨.ref pp, rfl, p1, pp, _, _, rfl, rfl, upd_same, sp1 _ _ epp, xsz (by rw [List.length_take]; omega), fun p2 np2 => ?_⟩
      have sp2 := same_new (o := .lst (xs.take j ++ pvs)) np2
      refine ⟨.ref l, rfl, _, rfl, _, _, rfl, rfl, _, rfl, l, _, rfl, .inl (.inl (sp2 _ _ (sp1 _ _ elD))), fun p3 np3 => ?_⟩
      rw [show ((j : Int) + 1) = ((j + 1 : Nat) : Int) by omega, cut_from]
      have sp3 := same_new (o := .lst (xs.drop (j + 1))) np3
      refine ⟨p2, p3, _, _, rfl, rfl, sp3 _ _ upd_same, upd_same, xsz (by rw [List.length_append, List.length_take, List.length_drop]; omega), fun lf np4 => ?_⟩
      have sp4 := same_new (o := .lst (xs.take j ++ pvs ++ xs.drop (j + 1))) np4
      have s6 := sp1.trans (sp2.trans (sp3.trans sp4))
      have kf := k0D.trans (Keep.of_same s6)
      have hBf : Box n _ b := (hBD.same s6).mono (by omega)
      have ef : (upd (upd (upd (upd HD p1 (.lst (xs.take j))) p2 (.lst (xs.take j ++ pvs))) p3 (.lst (xs.drop (j + 1)))) lf (.lst (xs.take j ++ pvs ++ xs.drop (j + 1)))) lf = some (.lst (xs.take j ++ pvs ++ xs.drop (j + 1))) := upd_same
      have fS : ¬ S lf := (((hSD.same sp1).same sp2).same sp3).new np4
      have Af := dpa_same (off_same (S := S) s6) (dpa_app (dpa_app (dpa_take j hAD) dpp) (dpa_drop (j + 1) hAD))
      have hef : Dp K _ (.ref a) d := dp_same off_le (dp_same (off_same (S := S) s6) hdD)
      have df : ∀ y ∈ ds.take j ++ pds ++ ds.drop (j + 1), okD (B + 1) y ∧ y.depth ≤ d.depth := fun y hy => by
        have hin : ∀ {y : PyData}, y ∈ ds → okD (B + 1) y ∧ y.depth ≤ d.depth := fun hy => ⟨okAll_iff.mp okm _ hy, by have := depth_mem hy; omega⟩
        rcases List.mem_append.mp hy with z | z
        · rcases List.mem_append.mp z with z | z
          · exact hin (List.mem_of_mem_take z)
          · exact hpd y z
        · exact hin (List.mem_of_mem_drop z)
      have wf : 3 + wtAll (ds.take j ++ pds ++ ds.drop (j + 1)) ≤ 2 * wt d + 1100 := by
        have := wt_cut f1
        rw [wtAll_app, wtAll_app]
        omega
      revert kf hBf ef fS Af hef df wf
      clear s6 sp1 sp2 sp3 sp4 np4 np3 np2 np1
      generalize upd (upd (upd (upd HD p1 (.lst (xs.take j))) p2 (.lst (xs.take j ++ pvs))) p3 (.lst (xs.drop (j + 1)))) lf (.lst (xs.take j ++ pvs ++ xs.drop (j + 1))) = Hf
      generalize xs.take j ++ pvs ++ xs.drop (j + 1) = vsf
      generalize ds.take j ++ pds ++ ds.drop (j + 1) = dsf
      intro kf hBf ef fS Af hef df wf
      have okf : okAll (B + 1) dsf := okAll_iff.mpr fun y hy => (df y hy).1
      have dpf : PyData.depthAll dsf ≤ d.depth := all_depth fun y hy => (df y hy).2
      refine ⟨_, rfl, _, _, _, _, _, rfl, .ty _, dp_ty hef, k_list hef, _, rfl, ite2 (fun g9 => ?_) (fun g9 => ?_)⟩
      · exact ⟨.ref lf, rfl, q _ _ (.list dsf) kf hBf ⟨okf, by show PyData.depthAll dsf + 1 ≤ _; omega, wf⟩ (.lst (.inl (.inl (off_get fS ef))) Af)⟩
      · refine ⟨.ref lf, rfl, lf, _, rfl, .inl ⟨.inl (.inl ef), fun t2 nt2 => ?_⟩⟩
        have s5 := same_new (o := .tup vsf) nt2
        exact q _ _ (.tuple dsf) (kf.trans (Keep.of_same s5)) (hBf.same s5) ⟨okf, by show PyData.depthAll dsf + 1 ≤ _; omega, wf⟩ (.tup (.inl (.inl (off_get ((hS.keep kf hBf).new nt2) upd_same))) (dpa_same (off_same s5) Af))
    · obtain ⟨rfl, k1, hBj⟩ := hJ
      have hd1 := dp_same (off_keep hSb k1) hd
      have hS1 := hS.keep k1 hBj
      refine ⟨hS1, fun vs1 H2 s1 d1 => ⟨by rw [dpa_len d1]; decide, fun l1 n1 => ?_⟩⟩
      have s2 := same_new (o := .lst vs1) n1
      have s12 := s1.trans s2
      have e1 : (upd H2 l1 (.lst vs1)) l1 = some (.lst vs1) := upd_same
      have l1b : l1 ≠ b := fun z => (hS1.same s1).new n1 (z ▸ hSb)
      have d1' := dpa_same (off_same (S := S) s2) d1
      revert s12 e1 d1'
      clear s2
      generalize upd H2 l1 (.lst vs1) = H3
      intro s12 e1 d1'
      have hO : Opts K S B d H3 l1 20 := ⟨vs1, bentA, e1, d1', fun y hy => by
        obtain ⟨x1, x2⟩ := bent_small y hy
        exact ⟨okD_mono (by omega) (okAll_iff.mp bent_ok y hy), by omega, by omega⟩, by rw [dpa_len d1]; decide, by rw [dpa_len d1]; decide⟩
      have k3 := k1.trans (Keep.of_same s12)
      have hB3 := hBj.same s12
      clear e1 d1' d1 hS1 hd1 hBj k1 n1 s12 s1
      refine st_set [some (.ref b), some v, none, some (.ref l1), none] ?_ rfl
      first | refine st_nx ?_ | refine st_at [some (.ref b), some v, none, some (.ref l1), none] rfl ?_
      refine tjoinR (t := tIfS _ _ _) (fun σ' J => ∃ l : Addr, σ' = [some (.ref b), some v, none, some (.ref l), none] ∧ l ≠ b ∧ Keep b H J ∧ Box (n + 2) J b ∧ Opts K S B d J l 40) (fun Nx hNx => ?_) (fun σ' J2 hJ => ?_)
      · refine ⟨_, rfl, by show 2 ≤ sizeLine; decide, fun t nt => ?_⟩
        have st : Same H3 _ := same_new (o := .tup [.ty "list", .ty "tuple"]) nt
        have et : (upd H3 t (.tup [.ty "list", .ty "tuple"])) t = some (.tup [.ty "list", .ty "tuple"]) := upd_same
        revert st et
        generalize upd H3 t (.tup [.ty "list", .ty "tuple"]) = H4
        intro st et
        have k4 := k3.trans (Keep.of_same st)
        have hB4 := hB3.same st
        have hd4 := dp_same (off_keep hSb k4) hd
        have he4 := dp_same off_le hd4
        have hS4 := hS.keep k4 hB4
        obtain ⟨ys, es, ey, dy, hy, y0, y1⟩ := hO
        have ey4 := st _ _ ey
        have dy4 := dpa_same (off_same (S := S) st) dy
        refine ⟨_, t, _, _, _, _, rfl, et, cls2 _ _, dp_ty he4, k_lt he4, _, rfl, ite2 (fun g => ?_) (fun g => hNx _ _ ⟨l1, rfl, l1b, k4, hB4, ys, es, ey4, dy4, hy, y0, by omega⟩)⟩
        obtain ⟨a, xs, ds, rfl, hA, hdd⟩ := dp_seq hd4 g
        have hlx := dpa_len hA
        have dlen := wtAll_len ds
        have dW : wt d = 3 + wtAll ds := by rcases hdd with ⟨_, z⟩ | ⟨_, z⟩ <;> rw [z] <;> rfl
        have dD : d.depth = PyData.depthAll ds + 1 := by rcases hdd with ⟨_, z⟩ | ⟨_, z⟩ <;> rw [z] <;> rfl
        have okds : okAll (B + 1) ds := okAll_mono (Nat.le_succ B) (by rcases hdd with ⟨_, z⟩ | ⟨_, z⟩ <;> rw [z] at hok <;> exact hok)
        have hrl : PyData.depthAll ds.reverse ≤ PyData.depthAll ds := all_depth fun y hy => depth_mem (List.mem_reverse.mp hy)
        have okr : okAll (B + 1) ds.reverse := okAll_iff.mpr fun y hy => okAll_iff.mp okds y (List.mem_reverse.mp hy)
        have bL : Bent B d (.list ds) := ⟨okds, by show PyData.depthAll ds + 1 ≤ _; omega, by show 3 + wtAll ds ≤ _; omega⟩
        have bT : Bent B d (.tuple ds) := ⟨okds, by show PyData.depthAll ds + 1 ≤ _; omega, by show 3 + wtAll ds ≤ _; omega⟩
        have bLr : Bent B d (.list ds.reverse) := ⟨okr, by show PyData.depthAll ds.reverse + 1 ≤ _; omega, by show 3 + wtAll ds.reverse ≤ _; rw [wt_rev]; omega⟩
        have bTr : Bent B d (.tuple ds.reverse) := ⟨okr, by show PyData.depthAll ds.reverse + 1 ≤ _; omega, by show 3 + wtAll ds.reverse ≤ _; rw [wt_rev]; omega⟩
        have fin : ∀ (Hf : Hp) (w1 w2 w3 : V) (x1 x2 x3 : PyData) (p p2 p3 : Addr), Same H4 Hf → DpAll K (off S Hf) [w1, w2, w3] [x1, x2, x3] → Bent B d x1 → Bent B d x2 → Bent B d x3 → Hf p2 = none → (upd Hf p2 (.lst (List.replicate (Int.toNat 3) [w1, w2, w3]).flatten)) p3 = none →
            Nx [some (.ref b), some (.ref a), none, some (.ref p3), none] (upd (upd Hf p2 (.lst (List.replicate (Int.toNat 3) [w1, w2, w3]).flatten)) p3 (.lst (ys ++ (List.replicate (Int.toNat 3) [w1, w2, w3]).flatten))) := fun Hf w1 w2 w3 x1 x2 x3 p p2 p3 sf dx b1 b2 b3 np2 np3 => by
          have sA := (same_new (o := .lst (List.replicate (Int.toNat 3) [w1, w2, w3]).flatten) np2).trans (same_new (o := .lst (ys ++ (List.replicate (Int.toNat 3) [w1, w2, w3]).flatten)) np3)
          have hSf := (hS4.same sf).same (same_new (o := .lst (List.replicate (Int.toNat 3) [w1, w2, w3]).flatten) np2)
          refine hNx _ _ ⟨p3, rfl, fun z => hSf.new np3 (z ▸ hSb), k4.trans (Keep.of_same (sf.trans sA)), hB4.same (sf.trans sA), _, es ++ ([x1, x2, x3] ++ ([x1, x2, x3] ++ ([x1, x2, x3] ++ []))), upd_same, ?_, fun y hy' => ?_, ?_, ?_⟩
          · exact dpa_app (dpa_same (off_same (sf.trans sA)) dy4) (dpa_same (off_same sA) (dpa_app dx (dpa_app dx (dpa_app dx .nil))))
          · rcases List.mem_append.mp hy' with z | z
            · exact hy y z
            · simp only [List.mem_append, List.mem_cons, List.not_mem_nil, or_false] at z
              rcases z with (z | z | z) | (z | z | z) | (z | z | z) <;> rw [z] <;> assumption
          · rw [List.length_append]; omega
          · rw [List.length_append]; show _ + 9 ≤ 40; omega
        rcases hdd with ⟨hq, rfl⟩ | ⟨hq, rfl⟩
        · have hqL := off_le.seq hq
          refine ⟨.ref l1, rfl, .ref a, rfl, a, _, rfl, .inl hqL, fun l2 nl2 => ?_⟩
          have sA := same_new (o := .lst xs) nl2
          refine ⟨.ref a, rfl, a, _, rfl, .inl ⟨sA.seq hqL, fun l3 nl3 => ?_⟩⟩
          have sB := same_new (o := .tup xs) nl3
          refine ⟨.ref a, rfl, a, xs, rfl, .inl ⟨(sA.trans sB).seq hqL, fun l4 nl4 => ?_⟩⟩
          have sC := same_new (o := .lst xs.reverse) nl4
          have i2 := off_get (hS4.new nl2) (upd_same (H := H4) (a := l2) (o := .lst xs))
          have i3 := off_get ((hS4.same sA).new nl3) (upd_same (H := upd H4 l2 (.lst xs)) (a := l3) (o := .tup xs))
          have i4 := off_get (((hS4.same sA).same sB).new nl4) (upd_same (H := upd (upd H4 l2 (.lst xs)) l3 (.tup xs)) (a := l4) (o := .lst xs.reverse))
          refine ⟨by show 3 ≤ sizeLine; decide, fun p np => ?_⟩
          have sD := same_new (o := .lst [.ref l2, .ref l3, .ref l4]) np
          refine ⟨p, 3, _, rfl, rfl, upd_same, by decide, by decide, by show 3 * 3 ≤ sizeLine; decide, fun p2 np2 => ?_⟩
          have sE := same_new (o := .lst (List.replicate (Int.toNat 3) [V.ref l2, V.ref l3, V.ref l4]).flatten) np2
          refine ⟨l1, p2, _, _, rfl, rfl, (sA.trans (sB.trans (sC.trans (sD.trans sE)))) _ _ ey4, upd_same, xsz (by show _ + 9 ≤ _; omega), fun p3 np3 => ?_⟩
          refine fin _ _ _ _ (.list ds) (.tuple ds) (.list ds.reverse) p p2 p3 (sA.trans (sB.trans (sC.trans sD))) (.cons ?_ (.cons ?_ (.cons ?_ .nil))) bL bT bLr np2 np3
          · exact .lst (.inl (.inl (off_same (sB.trans (sC.trans sD)) _ _ i2))) (dpa_same (off_same (sA.trans (sB.trans (sC.trans sD)))) hA)
          · exact .tup (.inl (.inl (off_same (sC.trans sD) _ _ i3))) (dpa_same (off_same (sA.trans (sB.trans (sC.trans sD)))) hA)
          · exact .lst (.inl (.inl (off_same sD _ _ i4))) (dpa_rev (dpa_same (off_same (sA.trans (sB.trans (sC.trans sD)))) hA))
        · have hqT := same_tup off_le hq
          refine ⟨.ref l1, rfl, .ref a, rfl, a, _, rfl, .inr hqT, fun l2 nl2 => ?_⟩
          have sA := same_new (o := .lst xs) nl2
          refine ⟨.ref a, rfl, a, _, rfl, .inr ⟨same_tup sA hqT, ?_⟩⟩
          refine ⟨.ref a, rfl, a, xs, rfl, .inr ⟨same_tup sA hqT, fun l4 nl4 => ?_⟩⟩
          have sC := same_new (o := .tup xs.reverse) nl4
          have i2 := off_get (hS4.new nl2) (upd_same (H := H4) (a := l2) (o := .lst xs))
          have i4 := off_get ((hS4.same sA).new nl4) (upd_same (H := upd H4 l2 (.lst xs)) (a := l4) (o := .tup xs.reverse))
          refine ⟨by show 3 ≤ sizeLine; decide, fun p np => ?_⟩
          have sD := same_new (o := .lst [.ref l2, .ref a, .ref l4]) np
          refine ⟨p, 3, _, rfl, rfl, upd_same, by decide, by decide, by show 3 * 3 ≤ sizeLine; decide, fun p2 np2 => ?_⟩
          have sE := same_new (o := .lst (List.replicate (Int.toNat 3) [V.ref l2, V.ref a, V.ref l4]).flatten) np2
          refine ⟨l1, p2, _, _, rfl, rfl, (sA.trans (sC.trans (sD.trans sE))) _ _ ey4, upd_same, xsz (by show _ + 9 ≤ _; omega), fun p3 np3 => ?_⟩
          refine fin _ _ _ _ (.list ds) (.tuple ds) (.tuple ds.reverse) p p2 p3 (sA.trans (sC.trans sD)) (.cons ?_ (.cons ?_ (.cons ?_ .nil))) bL bT bTr np2 np3
          · exact .lst (.inl (.inl (off_same (sC.trans sD) _ _ i2))) (dpa_same (off_same (sA.trans (sC.trans sD))) hA)
          · exact dp_same (off_same (sA.trans (sC.trans sD))) hd4
          · exact .tup (.inl (.inl (off_same sD _ _ i4))) (dpa_rev (dpa_same (off_same (sA.trans (sC.trans sD))) hA))
      · clear hO l1b k3 hB3
        obtain ⟨l, rfl, lb, k3, hB3, ys, es, ey, dy, hy, y0, y1⟩ := hJ
        have hd3 := dp_same (off_keep hSb k3) hd
        have he3 := dp_same off_le hd3
        have hS3 := hS.keep k3 hB3
        refine tjoinR (t := tIfS _ _ _) (fun σ' J => ∃ l : Addr, σ' = [some (.ref b), some v, none, some (.ref l), none] ∧ l ≠ b ∧ Keep b H J ∧ Box (n + 2) J b ∧ Opts K S B d J l 80) (fun Nx hNx => ?_) (fun σ' J3 hJ => ?_)
        · refine ⟨_, rfl, _, _, _, _, _, rfl, .ty _, dp_ty he3, k_int he3, _, rfl, ite2 (fun g => ?_) (fun g => hNx _ _ ⟨l, rfl, lb, k3, hB3, ys, es, ey, dy, hy, y0, by omega⟩)⟩
          obtain ⟨i, hi, hib⟩ : ∃ i : Int, numV d = some i ∧ i.natAbs ≤ B := by
            cases d with
            | int i => exact ⟨i, rfl, hok⟩
            | bool k => cases k <;> exact ⟨_, rfl, by show (_ : Nat) ≤ B; have : 1 ≤ 2 ^ 100 := by decide
                                                      first | exact Nat.zero_le _ | exact Nat.le_trans this hB1⟩
            | none => exact absurd (show false = true from g) Bool.false_ne_true
            | str _ => exact absurd (show false = true from g) Bool.false_ne_true
            | list _ => exact absurd (show false = true from g) Bool.false_ne_true
            | tuple _ => exact absurd (show false = true from g) Bool.false_ne_true
            | dict _ => exact absurd (show false = true from g) Bool.false_ne_true
          have h126 : B < 2 ^ 126 := Nat.lt_of_lt_of_le hB2 (by decide)
          have shw : 10 * d.shown.length + 2 ≤ 2 * wt d + 1100 ∧ PyData.strOk d.shown = true := by
            cases d with
            | int i =>
              refine ⟨?_, strOk_of (toString i)⟩
              have hlen : (Str.ofString (toString i)).length ≤ 126 := by
                rw [str_len]; exact int_text_length_le (k := 125) (by decide) (log_lt (show i.natAbs < _ by have : i.natAbs ≤ B := hok; omega) (by decide))
              show 10 * (Str.ofString (toString i)).length + 2 ≤ 2 * 130 + 1100
              omega
            | bool k => cases k <;> exact ⟨by decide, strOk_of _⟩
            | none => exact absurd (show false = true from g) Bool.false_ne_true
            | str _ => exact absurd (show false = true from g) Bool.false_ne_true
            | list _ => exact absurd (show false = true from g) Bool.false_ne_true
            | tuple _ => exact absurd (show false = true from g) Bool.false_ne_true
            | dict _ => exact absurd (show false = true from g) Bool.false_ne_true
          have hsh : SeqAt.shaped d = true := by
            unfold SeqAt.shaped
            rw [okD_lay hok]
            cases d with
            | int i => rfl
            | bool k => rfl
            | none => rfl
            | str _ => rfl
            | list _ => exact absurd (show false = true from g) Bool.false_ne_true
            | tuple _ => exact absurd (show false = true from g) Bool.false_ne_true
            | dict _ => exact absurd (show false = true from g) Bool.false_ne_true
          refine ⟨.ref l, rfl, _, rfl, d, i, 1, he3, hi, rfl, _, rfl, d, i, 1, he3, hi, rfl, _, rfl, d, .int 1, he3, .int 1, hsh, rfl, _, rfl, _, d, rfl, he3, g, okD_show h126 hok, by show 4 ≤ sizeLine; decide, fun p np => ?_⟩
          have sD := same_new (o := .lst [.int (i + 1), .int (i - 1), .bl (PyData.eqv d (.int 1)), .str d.shown]) np
          refine ⟨p, 3, _, rfl, rfl, upd_same, by decide, by decide, by show 4 * 3 ≤ sizeLine; decide, fun p2 np2 => ?_⟩
          have sE := same_new (o := .lst (List.replicate (Int.toNat 3) [V.int (i + 1), .int (i - 1), .bl (PyData.eqv d (.int 1)), .str d.shown]).flatten) np2
          refine ⟨l, p2, _, _, rfl, rfl, (sD.trans sE) _ _ ey, upd_same, xsz (by show _ + 12 ≤ _; omega), fun p3 np3 => ?_⟩
          have sF := same_new (o := .lst (ys ++ (List.replicate (Int.toNat 3) [V.int (i + 1), .int (i - 1), .bl (PyData.eqv d (.int 1)), .str d.shown]).flatten)) np3
          have sA := sD.trans (sE.trans sF)
          refine hNx _ _ ⟨p3, rfl, fun z => ((hS3.same sD).same sE).new np3 (z ▸ hSb), k3.trans (Keep.of_same sA), hB3.same sA, _, es ++ ([.int (i + 1), .int (i - 1), .bool (PyData.eqv d (.int 1)), .str d.shown] ++ ([.int (i + 1), .int (i - 1), .bool (PyData.eqv d (.int 1)), .str d.shown] ++ ([.int (i + 1), .int (i - 1), .bool (PyData.eqv d (.int 1)), .str d.shown] ++ []))), upd_same, ?_, fun y hy' => ?_, ?_, ?_⟩
          · have dx : ∀ {Hz : Hp}, DpAll K Hz [V.int (i + 1), .int (i - 1), .bl (PyData.eqv d (.int 1)), .str d.shown] [.int (i + 1), .int (i - 1), .bool (PyData.eqv d (.int 1)), .str d.shown] := .cons (.int _) (.cons (.int _) (.cons (.bl _) (.cons (.str _) .nil)))
            exact dpa_app (dpa_same (off_same sA) dy) (dpa_app dx (dpa_app dx (dpa_app dx .nil)))
          · have b1 : Bent B d (.int (i + 1)) := ⟨show (i + 1).natAbs ≤ B + 1 by omega, Nat.zero_le _, by show 130 ≤ _; omega⟩
            have b2 : Bent B d (.int (i - 1)) := ⟨show (i - 1).natAbs ≤ B + 1 by omega, Nat.zero_le _, by show 130 ≤ _; omega⟩
            have b3 : Bent B d (.bool (PyData.eqv d (.int 1))) := ⟨trivial, Nat.zero_le _, by show 5 ≤ _; omega⟩
            have b4 : Bent B d (.str d.shown) := ⟨shw.2, Nat.zero_le _, shw.1⟩
            rcases List.mem_append.mp hy' with z | z
            · exact hy y z
            · simp only [List.mem_append, List.mem_cons, List.not_mem_nil, or_false] at z
              rcases z with (z | z | z | z) | (z | z | z | z) | (z | z | z | z) <;> rw [z] <;> assumption
          · rw [List.length_append]; omega
          · rw [List.length_append]; show _ + 12 ≤ 80; omega
        · clear ey dy hy y0 y1 lb k3 hB3 hd3 he3 hS3
          obtain ⟨l, rfl, lb, k3, hB3, ys, es, ey, dy, hy, y0, y1⟩ := hJ
          refine ⟨.ref b, rfl, .ref l, rfl, b, l, n, _, rfl, hB3.mono (by omega), lb, ey, y0, by omega, fun H5 i v' hv k5 hB5 => ?_⟩
          obtain ⟨x, ex, hx⟩ := dpa_get dy hv
          exact q H5 v' x (k3.trans k5) hB5 (hy x (List.mem_of_getElem? ex)) (dp_same (off_keep hSb k5) hx)
theorem ok_bent (T : Env K mg) : ∀ k : Nat, FnOk P w K mg base CX0 (2 + k) T.f_bent T.d_bent ["_law_box_here", "_law_matter"] (spBent K k)
  | 0 => fn_never fun vs H Q E h => by
    obtain ⟨b, n, S, v, d, B, _, _, _, _, _, _, _, _, hd, _⟩ := h
    exact absurd hd (Nat.not_lt_zero _)
  | k + 1 => bent_step T k (ok_bent T k)
end
end Pc
namespace Pc
open PySem PySem.Spec PyProof.Rows L2 RZ
/-! ### 0 <= a < b < c as a test -/
def tLess3 (r r' r'' : R2) (ta tb tc td : TE) : TT := fun σ H Q => ta σ H fun x H1 => tb σ H1 fun y H2 => r x y H2 fun z H3 => ∃ k, z = .bl k ∧
  (if k = true then tc σ H3 fun u H4 => r' y u H4 fun z' H5 => ∃ k', z' = .bl k' ∧ (if k' = true then td σ H5 fun w H6 => r'' u w H6 fun z'' H7 => ∃ k'', z'' = .bl k'' ∧ Q k'' H7 else Q false H5) else Q false H3)
theorem pt_less3 {X : Cx} {a b c d : Expr} {pos : Pos} {ta tb tc td : TE} {o1 o2 o3 : CmpOp} {r r' r'' : R2} (g1 : OpR X (compareOp o1) r) (g2 : OpR X (compareOp o2) r') (g3 : OpR X (compareOp o3) r'') (ea : PE X a ta) (eb : PE X b tb) (ec : PE X c tc) (ed : PE X d td)
    (hm : lastMarks [o1, o2, o3] [b, c, d] = false := by with_unfolding_all rfl) : PT X (.Compare a [o1, o2, o3] [b, c, d] pos) (tLess3 r r' r'' ta tb tc td) := by
  constructor
  intro pins s0 σ H0 Q I0 h
  apply isTrue_chain (hm := hm)
  refine thn (ea.run pins s0 σ H0 _ I0 h) ?_
  rintro va s1 ⟨x, H1, I1, rx, q1⟩
  apply test_link
  refine thn (eb.run pins s1 σ H1 _ I1 q1) ?_
  rintro vb s2 ⟨y, H2, I2, ry, q2⟩
  refine thn (g1 pins s2 σ H2 x y va vb _ I2 rx ry q2) ?_
  rintro vz s3 ⟨z, H3, I3, rz, k, ek, q3⟩
  subst ek; cases rz
  refine wpAny_truthy_bool ?_
  cases k with
  | false => exact ite_ff ⟨H3, I3, q3⟩
  | true =>
    refine ite_tt ?_
    apply test_link
    refine thn (ec.run pins s3 σ H3 _ I3 q3) ?_
    rintro vc s4 ⟨u, H4, I4, ru, q4⟩
    refine thn (g2 pins s4 σ H4 y u vb vc _ I4 ry ru q4) ?_
    rintro vz' s5 ⟨z', H5, I5, rz', k', ek', q5⟩
    subst ek'; cases rz'
    refine wpAny_truthy_bool ?_
    cases k' with
    | false => exact ite_ff ⟨H5, I5, q5⟩
    | true =>
      refine ite_tt (test_last ?_)
      refine thn (ed.run pins s5 σ H5 _ I5 q5) ?_
      rintro vd s6 ⟨w, H6, I6, rw', q6⟩
      refine thn (g3 pins s6 σ H6 u w vc vd _ I6 ru rw' q6) ?_
      rintro vz2 s7 ⟨z2, H7, I7, rz2, k2, ek2, q7⟩
      subst ek2; cases rz2
      exact wpAny_truthy_bool ⟨H7, I7, q7⟩
/-! ### a call, whatever it is -/
def iOf : PyData → Int
  | .int i => i
  | _ => 0
def callB (n : Nat) : PyData → Bool
  | .tuple [x, y] => belowB n x && belowB n y && decide (iOf x < iOf y)
  | _ => false
def callOf : PyData → Nat × Nat
  | .tuple [x, y] => ((iOf x).toNat, (iOf y).toNat)
  | _ => (0, 0)
theorem callB_two {n : Nat} : ∀ {ds : List PyData}, ds.length ≠ 2 → callB n (.tuple ds) = false
  | [], _ => rfl
  | [_], _ => rfl
  | [_, _], h => absurd rfl h
  | _ :: _ :: _ :: _, _ => rfl
theorem below_int {n : Nat} {d : PyData} (h : belowB n d = true) : ∃ i : Int, d = .int i ∧ 0 ≤ i ∧ i < (n : Int) := by
  cases d with
  | int i =>
    have h' : (decide (0 ≤ i) && decide (i < (n : Int))) = true := h
    rw [Bool.and_eq_true, decide_eq_true_iff, decide_eq_true_iff] at h'
    exact ⟨i, rfl, h'.1, h'.2⟩
  | none => exact absurd (show false = true from h) Bool.false_ne_true
  | bool _ => exact absurd (show false = true from h) Bool.false_ne_true
  | str _ => exact absurd (show false = true from h) Bool.false_ne_true
  | list _ => exact absurd (show false = true from h) Bool.false_ne_true
  | tuple _ => exact absurd (show false = true from h) Bool.false_ne_true
  | dict _ => exact absurd (show false = true from h) Bool.false_ne_true
section
variable {K : PySem.W.Frag} {H : Hp}
/-- one value and the call that it is -/
def IsC (K : PySem.W.Frag) (H : Hp) (v : V) (p : Nat × Nat) : Prop := ∃ c : Addr, v = .ref c ∧ SqT K H c [.int p.1, .int p.2]
theorem call_dp {n : Nat} {v : V} {d : PyData} (hd : Dp K H v d) (h : callB n d = true) : IsC K H v (callOf d) ∧ (callOf d).1 < (callOf d).2 ∧ (callOf d).2 < n := by
  cases hd with
  | tup hS hA =>
    cases hA with
    | nil => exact absurd (show false = true from h) Bool.false_ne_true
    | cons h1 r1 =>
      cases r1 with
      | nil => exact absurd (show false = true from h) Bool.false_ne_true
      | cons h2 r2 =>
        cases r2 with
        | cons _ _ => exact absurd (show false = true from h) Bool.false_ne_true
        | nil =>
          rename_i d1 _ d2
          have h' : (belowB n d1 && belowB n d2 && decide (iOf d1 < iOf d2)) = true := h
          rw [Bool.and_eq_true, Bool.and_eq_true, decide_eq_true_iff] at h'
          obtain ⟨⟨a1, a2⟩, a3⟩ := h'
          obtain ⟨i, rfl, i0, i1⟩ := below_int a1
          obtain ⟨j, rfl, j0, j1⟩ := below_int a2
          cases h1; cases h2
          have a3' : i < j := a3
          refine ⟨⟨_, rfl, ?_⟩, show i.toNat < j.toNat by omega, show j.toNat < n by omega⟩
          show SqT K H _ [.int ((i.toNat : Nat) : Int), .int ((j.toNat : Nat) : Int)]
          rw [show ((i.toNat : Nat) : Int) = i by omega, show ((j.toNat : Nat) : Int) = j by omega]
          exact hS
  | non => exact absurd (show false = true from h) Bool.false_ne_true
  | bl => exact absurd (show false = true from h) Bool.false_ne_true
  | int => exact absurd (show false = true from h) Bool.false_ne_true
  | str => exact absurd (show false = true from h) Bool.false_ne_true
  | lst => exact absurd (show false = true from h) Bool.false_ne_true
def ItemsT (K : PySem.W.Frag) (H : Hp) (us : List V) (qs : List (Nat × Nat)) : Prop := us.length = qs.length ∧ ∀ (i : Nat) (v : V), us[i]? = some v → ∃ p : Nat × Nat, qs[i]? = some p ∧ IsC K H v p
theorem ItemsT.items {us : List V} {qs : List (Nat × Nat)} (h : ItemsT K H us qs) : Items K H us qs := ⟨h.1, fun i v hv => by
  obtain ⟨p, h1, c, h2, h3⟩ := h.2 i v hv
  exact ⟨c, p, h2, h1, .inr h3⟩⟩
theorem ItemsT.same {H' : Hp} {us : List V} {qs : List (Nat × Nat)} (h : ItemsT K H us qs) (e : Same H H') : ItemsT K H' us qs := ⟨h.1, fun i v hv => by
  obtain ⟨p, h1, c, h2, h3⟩ := h.2 i v hv
  exact ⟨p, h1, c, h2, same_tup e h3⟩⟩
theorem items_all {n : Nat} {us : List V} {ds : List PyData} (hA : DpAll K H us ds) (h : ds.all (callB n) = true) : ItemsT K H us (ds.map callOf) ∧ Calls n (ds.map callOf) := by
  refine ⟨⟨by rw [List.length_map]; exact dpa_len hA, fun i v hv => ?_⟩, fun p hp => ?_⟩
  · obtain ⟨d, ed, hd⟩ := dpa_get hA hv
    exact ⟨callOf d, by rw [List.getElem?_map, ed]; rfl, (call_dp hd (List.all_eq_true.mp h d (List.mem_of_getElem? ed))).1⟩
  · obtain ⟨d, hd, rfl⟩ := List.mem_map.mp hp
    obtain ⟨i, hi, e⟩ := List.mem_iff_getElem.mp hd
    have ed : ds[i]? = some d := by rw [List.getElem?_eq_getElem hi, e]
    obtain ⟨v, hv⟩ := get_some (l := us) (i := i) (by rw [dpa_len hA]; exact hi)
    obtain ⟨d', ed', hd'⟩ := dpa_get hA hv
    rw [ed] at ed'; cases ed'
    exact (call_dp hd' (List.all_eq_true.mp h d hd)).2
end
/-- a list of calls that leads from a to b -/
def oneB (n : Nat) (a b : List Nat) : PyData → Bool
  | .list ds => ds.all (callB n) && decide (runs (ds.map callOf) a = b)
  | _ => false
theorem oneB_kind {n : Nat} {a b : List Nat} {d : PyData} (h : ¬ isL d = true) : oneB n a b d = false := by
  cases d with
  | list _ => exact absurd rfl h
  | _ => rfl
theorem oneB_bad {n : Nat} {a b : List Nat} {ds : List PyData} {d : PyData} (hd : d ∈ ds) (h : callB n d = false) : oneB n a b (.list ds) = false := by
  show (ds.all (callB n) && decide (runs (ds.map callOf) a = b)) = false
  rw [Bool.and_eq_false_iff]
  exact .inl (List.all_eq_false.mpr ⟨d, hd, by rw [h]; decide⟩)
section
variable {P : Program} {w : World} {K : PySem.W.Frag} {mg : Str → Option Value} {base : Heap}
/-! ### the law's own calls over any data -/
def spTouredI (K : PySem.W.Frag) : Sp := fun vs H Q _ => ∃ (p wd : Addr) (us : List V) (qs : List (Nat × Nat)) (ps : List Nat) (n : Nat), vs = [.ref p, .ref wd] ∧ H p = some (.tup (nv ps)) ∧ SqL K H wd us ∧ ItemsT K H us qs ∧ IsPair n ps ∧ Calls n qs ∧
  ∀ (H' : Hp) (t : Addr), Same H H' → H' t = some (.tup (nv (runs qs ps))) → Q (.ref t) H'
theorem ok_touredI (T : Env K mg) : FnOk P w K mg base CX0 2 T.f_toured T.d_toured ["_law_tie", "_law_tour"] (spTouredI K) := by
  have GS : FnOk P w K mg base CX0 1 T.f_asked T.d_asked ["_law_tie", "_law_call"] (spAsked K) := ok_asked T
  refine T.F_toured.ok sc_toured (fun vs H Q E h => ?_) (fun cdv A outer s H vs Q E hr h => ?_)
  · obtain ⟨p, wd, us, qs, ps, n, rfl, _⟩ := h
    rfl
  · obtain ⟨p, wd, us, qs, ps, n, rfl, hp, hw, hA, hP, hc, q⟩ := h
    refine ⟨_, pss_cons (ps_for PassesOwn.never rfl (pi_list (pv 1)) (pg_name (i := 2) sc_toured.nd rfl (.inl rfl)) (pss_one (ps_set (i := 0) sc_toured.nd rfl (.inl rfl) (pe_call GS hr (by rfl) T.g_asked T.F_asked.kp T.b_asked .nil pass0 (pa_cons (pv 0) (pa_cons (pv 2) pa_nil)))))) <|
      pss_one (ps_ret (pv 0)), ?_⟩
    refine ⟨.ref wd, rfl, wd, rfl, ⟨_, hw⟩, for_list (xs := us) (fun i σ H' => Same H H' ∧ ∃ (y : Option V) (t : Addr), σ = [some (.ref t), some (.ref wd), y] ∧ H' t = some (.tup (nv (runs (qs.take i) ps)))) ⟨Same.refl _, none, p, rfl, hp⟩ (fun i σ H' _ h => h.1.seq hw) (fun i x σ H' hx h => ?_) (fun σ H' h => ?_)⟩
    · obtain ⟨sm, y, t, rfl, et⟩ := h
      obtain ⟨r, er, c, rfl, hcr⟩ := hA.2 i x hx
      have hq := hc r (List.mem_of_getElem? er)
      refine ⟨.ref t, rfl, .ref c, rfl, t, c, r.1, r.2, _, n, rfl, .inl (.inl et), same_tup sm hcr, runs_pair _ hP (hc.take i), hq.1, hq.2, fun H2 u s2 nu eu => ⟨sm.trans s2, _, u, rfl, ?_⟩⟩
      rw [runs_take er]
      exact eu
    · obtain ⟨sm, y, t, rfl, et⟩ := h
      rw [hA.1, List.take_length] at et
      exact ⟨.ref t, rfl, q H' t sm et⟩
end
end Pc
namespace Pc
open PySem PySem.Spec PyProof.Rows L2 RZ
section
variable {P : Program} {w : World} {K : PySem.W.Frag} {mg : Str → Option Value} {base : Heap}
/-! ### is it a call? whatever it is -/
def spIsCallD (K : PySem.W.Frag) : Sp := fun vs H Q _ => ∃ (v : V) (d : PyData) (n : Nat), vs = [v, .int n] ∧ Dp K H v d ∧ ∀ H', Same H H' → Q (.bl (callB n d)) H'
theorem ok_p_is_callD (T : Env K mg) : FnOk P w K mg base CX0 2 T.f_p_is_call T.d_p_is_call ["value", "size"] (spIsCallD K) := by
  have GB : FnOk P w K mg base CX0 1 T.f_p_is_integer_below T.d_p_is_integer_below ["value", "limit"] (spBelowD K) := ok_p_belowD T
  refine T.F_p_is_call.ok sc_p_is_call (fun vs H Q E h => ?_) (fun cdv A outer s H vs Q E hr h => ?_)
  · obtain ⟨v, d, n, rfl, _⟩ := h
    rfl
  · obtain ⟨v, d, n, rfl, hd, q⟩ := h
    refine ⟨_, pss_cons (ps_if (PW.pt (pw_or (pt_not (pt_val (pe_callB call_isi (by rfl) T.n_isinstance (by decide +kernel) (pa_cons (pv 0) (pa_cons (pe_bltn (v := .ty "tuple") (by rfl) T.n_tuple (by decide +kernel) rfl) pa_nil))))) (pw_or1 (pt_cmpR op_ne (pe_callB call_len_seq (by rfl) T.n_len PySem.boot_len (pa_cons (pv 0) pa_nil)) pe_int (nomark _))))) (pss_one (ps_ret pe_bl)) pss_nil) <|
      pss_one (ps_ret (pe_and (pe_callB (cr_all rfl) (by rfl) T.n_all (by decide +kernel) (pa_cons (pe_lc (own := [("person", 2)]) (g := gName 2) (tt := tYes) (te := tCall (spBelowD K) [] (fun _ _ _ => False) (tCons (tVar 2) (tCons (tVar 1) tNil))) rfl sc_p_is_call.nd (pi_tup (pv 0)) (blkOk_by (N := N_p_is_call) (sc := (defScope s_p_is_call)) (by decide +kernel)) (fun _ _ _ _ _ => (pg_name (i := 2) sc_p_is_call.nd rfl (.inl rfl))) (fun _ _ _ _ _ => pts_nil) (fun _ _ _ _ _ => (pe_call GB hr (by rfl) T.g_p_is_integer_below T.F_p_is_integer_below.kp T.b_p_is_integer_below .nil pass0 (pa_cons (pv 2) (pa_cons (pv 1) pa_nil))))) pa_nil)) (pe_one (pe_cmpR op_lt (pe_ix ix_tup (pv 0) pe_int (fun _ _ => rfl)) (pe_ix ix_tup (pv 0) pe_int (fun _ _ => rfl)) (nomark _))))), ?_⟩
    have fin : ∀ {k : Bool} (H' : Hp), Same H H' → k = callB n d → Q (.bl k) H' := fun H' sm e => by rw [e]; exact q H' sm
    refine ⟨_, rfl, _, _, _, _, _, rfl, .ty _, dp_ty hd, k_tuple hd, _, rfl, ite2 (fun g => fin _ (fun _ _ z => z) ?_) (fun g => ?_)⟩
    · cases hd with
      | tup => exact absurd (show false = true from g) Bool.false_ne_true
      | _ => rfl
    cases hd with
    | non => exact absurd rfl g
    | bl => exact absurd rfl g
    | int => exact absurd rfl g
    | str => exact absurd rfl g
    | lst => exact absurd rfl g
    | tup hS hA =>
      rename_i t xs ds
      have hl := dpa_len hA
      refine ⟨.ref t, rfl, t, _, rfl, .inr hS, rfl, _, rfl, ite2 (fun g2 => fin _ (fun _ _ z => z) ?_) (fun g2 => ?_)⟩
      · refine (callB_two fun z => ?_).symm
        have g' : (!decide (V.int (xs.length : Int) = V.int 2)) = true := g2
        rw [hl, z] at g'
        exact absurd g' (by decide)
      have g' : decide (V.int (xs.length : Int) = V.int 2) = true := by
        cases hh : decide (V.int (xs.length : Int) = V.int 2) with
        | true => rfl
        | false => exact absurd (show (!decide (V.int (xs.length : Int) = V.int 2)) = true by rw [hh]; rfl) g2
      have g3 : (xs.length : Int) = 2 := V.int.inj (of_decide_eq_true g')
      obtain ⟨x1, x2, y1, y2, rfl, rfl, h1, h2⟩ : ∃ x1 x2 y1 y2, xs = [x1, x2] ∧ ds = [y1, y2] ∧ Dp K H x1 y1 ∧ Dp K H x2 y2 := by
        cases hA with
        | nil => simp at g3
        | cons h1 r1 =>
          cases r1 with
          | nil => simp at g3
          | cons h2 r2 =>
            cases r2 with
            | nil => exact ⟨_, _, _, _, rfl, rfl, h1, h2⟩
            | cons h3 r3 =>
              simp only [List.length_cons] at g3
              omega
      refine ⟨_, rfl, t, rfl, ⟨_, hS⟩, fun D nD => ?_⟩
      refine lc_tup (xs := [x1, x2]) (fun i H' => Same H H' ∧ H' D = some (.lst ((([y1, y2].take i).map (belowB n)).map V.bl))) ⟨same_new nD, upd_same⟩ (fun i H' _ h => same_tup h.1 hS) (fun i v H' hv h => ?_) (fun H' h => ?_)
      · obtain ⟨sm, eD⟩ := h
        obtain ⟨y, ey, hy⟩ := dpa_get hA hv
        refine ⟨rfl, yes_if ⟨_, rfl, _, rfl, v, y, n, rfl, dp_same sm hy, ?_⟩⟩
        refine ⟨_, eD, ?_, fun z o hz => by rw [upd_ne (ne_of_none hz nD)]; exact sm _ _ hz, ?_⟩
        · rw [List.length_map, List.length_map, List.length_take]; exact small1000 (by show min i 2 ≤ _; omega)
        · rw [upd_same, all_take_bl (belowB n) ey]
      · obtain ⟨sm, eD⟩ := h
        refine ⟨D, [belowB n y1, belowB n y2], rfl, .inl (.inl eD), _, rfl, ite2 (fun g4 => ?_) (fun g4 => fin _ sm ?_)⟩
        · have g5 : (belowB n y1 && (belowB n y2 && true)) = true := g4
          rw [Bool.and_true, Bool.and_eq_true] at g5
          obtain ⟨i, rfl, i0, i1⟩ := below_int g5.1
          obtain ⟨j, rfl, j0, j1⟩ := below_int g5.2
          cases h1; cases h2
          have hS2 := same_tup sm hS
          refine ⟨_, rfl, t, _, 0, _, rfl, rfl, hS2, rfl, _, rfl, t, _, 1, _, rfl, rfl, hS2, rfl, _, _, rfl, rfl, fin _ sm ?_⟩
          show decide (i < j) = (belowB n (.int i) && belowB n (.int j) && decide (i < j))
          rw [g5.1, g5.2]; rfl
        · show false = (belowB n y1 && belowB n y2 && decide (iOf y1 < iOf y2))
          have g5 : ¬ (belowB n y1 && (belowB n y2 && true)) = true := g4
          rw [Bool.and_true] at g5
          cases hh : (belowB n y1 && belowB n y2) with
          | true => exact absurd hh g5
          | false => rfl
/-! ### a list that leads or not, whatever it is -/
def spLeadsD (K : PySem.W.Frag) : Sp := fun vs H Q _ => ∃ (x y : Addr) (v : V) (d : PyData) (a b : List Nat) (n : Nat), vs = [.ref x, .ref y, v] ∧ Sq K H x (nv a) ∧ Sq K H y (nv b) ∧ Dp K H v d ∧ wt d ≤ 20000 ∧ IsPair n a ∧ IsPair n b ∧ n ≤ 100 ∧ ∀ H', Same H H' → Q (.bl (oneB n a b d)) H'
theorem ok_p_leadsD (T : Env K mg) : FnOk P w K mg base CX0 5 T.f_p_leads T.d_p_leads ["one", "other", "value"] (spLeadsD K) := by
  have GZ : FnOk P w K mg base CX0 1 T.f_p_check_sizes T.d_p_check_sizes ["first", "second"] spCheckSizes := ok_p_check_sizes T
  have GI : FnOk P w K mg base CX0 2 T.f_p_is_call T.d_p_is_call ["value", "size"] (spIsCallD K) := ok_p_is_callD T
  have GA : FnOk P w K mg base CX0 4 T.f_p_called_all T.d_p_called_all ["pairing", "word"] (spCalledAll K) := ok_p_called_all T
  refine T.F_p_leads.ok sc_p_leads (fun vs H Q E h => ?_) (fun cdv A outer s H vs Q E hr h => ?_)
  · obtain ⟨x, y, v, d, a, b, n, rfl, _⟩ := h
    rfl
  · obtain ⟨x, y, v, d, a, b, n, rfl, hx, hy, hd, hwt, ha, hb, hn, q⟩ := h
    have h1 := hr.mono (show 1 ≤ 4 by decide)
    have h2 := hr.mono (show 2 ≤ 4 by decide)
    refine ⟨_, pss_cons (ps_expr (pe_call GZ h1 (by rfl) T.g_p_check_sizes T.F_p_check_sizes.kp T.b_p_check_sizes .nil pass0 (pa_cons (pe_callB call_len_seq (by rfl) T.n_len PySem.boot_len (pa_cons (pv 0) pa_nil)) (pa_cons (pe_callB call_len_seq (by rfl) T.n_len PySem.boot_len (pa_cons (pv 1) pa_nil)) pa_nil)))) <|
      pss_cons (ps_if (PW.pt (pw_or (pt_not (pt_val (pe_callB call_isi (by rfl) T.n_isinstance (by decide +kernel) (pa_cons (pv 2) (pa_cons (pe_bltn (v := .ty "list") (by rfl) T.n_list (by decide +kernel) rfl) pa_nil))))) (pw_or1 (pt_not (pt_val (pe_callB (cr_all rfl) (by rfl) T.n_all (by decide +kernel) (pa_cons (pe_lc (own := [("item", 3)]) (g := gName 3) (tt := tYes) (te := tCall (spIsCallD K) [] (fun _ _ _ => False) (tCons (tVar 3) (tCons (tCB (fun xs H Q => ∃ p ys, xs = [.ref p] ∧ (SqL K H p ys ∨ SqT K H p ys) ∧ Q (.int ys.length) H) (tCons (tVar 0) tNil)) tNil))) rfl sc_p_leads.nd (pi_list (pv 2)) (blkOk_by (N := N_p_leads) (sc := (defScope s_p_leads)) (by decide +kernel)) (fun _ _ _ _ _ => (pg_name (i := 3) sc_p_leads.nd rfl (.inl rfl))) (fun _ _ _ _ _ => pts_nil) (fun _ _ _ _ _ => (pe_call GI h2 (by rfl) T.g_p_is_call T.F_p_is_call.kp T.b_p_is_call .nil pass0 (pa_cons (pv 3) (pa_cons (pe_callB (r := fun xs H Q => ∃ p ys, xs = [.ref p] ∧ (SqL K H p ys ∨ SqT K H p ys) ∧ Q (.int ys.length) H) call_len_seq (by rfl) T.n_len PySem.boot_len (pa_cons (pv 0) pa_nil)) pa_nil))))) pa_nil))))))) (pss_one (ps_ret pe_bl)) pss_nil) <|
      pss_one (ps_ret (pe_cmpR (op_eqD hr.units) (pe_call GA hr (by rfl) T.g_p_called_all T.F_p_called_all.kp T.b_p_called_all .nil pass0 (pa_cons (pv 0) (pa_cons (pv 2) pa_nil))) (pe_callTy call_tuple_of (by rfl) T.n_tuple (by decide +kernel) (pa_cons (pv 1) pa_nil)) (nomark _))), ?_⟩
    have hal : (nv a).length = n := by rw [nv_length, ha.len]
    refine ⟨.ref x, rfl, x, _, rfl, hx, .ref y, rfl, y, _, rfl, hy, n, congrArg (fun z : Nat => [V.int z, V.int ((nv b).length : Nat)]) hal |>.trans (congrArg (fun z : Nat => [V.int n, V.int z]) (by rw [nv_length, hb.len])), ?_⟩
    have fin0 : ∀ {k : Bool} (H' : Hp), Same H H' → k = oneB n a b d → Q (.bl k) H' := fun H' sm e => by rw [e]; exact q H' sm
    refine ⟨_, rfl, _, _, _, _, _, rfl, .ty _, dp_ty hd, k_list hd, _, rfl, ite2 (fun g => fin0 _ (fun _ _ z => z) ?_) (fun g => ?_)⟩
    · refine (oneB_kind fun z => ?_).symm
      rw [z] at g; exact absurd g (by decide)
    cases hd with
    | non => exact absurd rfl g
    | bl => exact absurd rfl g
    | int => exact absurd rfl g
    | str => exact absurd rfl g
    | tup => exact absurd rfl g
    | lst hS hA =>
      rename_i wd us ds
      have hl := dpa_len hA
      have dlen := wtAll_len ds
      have hwt' : 3 + wtAll ds ≤ 20000 := hwt
      refine ⟨_, rfl, wd, rfl, ⟨_, hS⟩, fun D nD => ?_⟩
      refine lc_list (xs := us) (fun i H' => Same H H' ∧ H' D = some (.lst (((ds.take i).map (callB n)).map V.bl))) ⟨same_new nD, upd_same⟩ (fun i H' _ h => h.1.seq hS) (fun i v H' hv h => ?_) (fun H' h => ?_)
      · obtain ⟨sm, eD⟩ := h
        obtain ⟨y, ey, hy⟩ := dpa_get hA hv
        refine ⟨rfl, yes_if ⟨_, rfl, _, rfl, x, _, rfl, hx.same sm, v, y, n, congrArg (fun z : Nat => [v, V.int z]) hal, dp_same sm hy, fun H2 s2 => ?_⟩⟩
        refine ⟨_, s2 _ _ eD, ?_, fun z o hz => by rw [upd_ne (ne_of_none hz nD)]; exact s2 _ _ (sm _ _ hz), ?_⟩
        · rw [List.length_map, List.length_map, List.length_take]; exact line_big (by omega)
        · rw [upd_same, all_take_bl (callB n) ey]
      · obtain ⟨sm, eD⟩ := h
        rw [hl, List.take_length] at eD
        refine ⟨D, ds.map (callB n), rfl, .inl (.inl eD), ?_⟩
        rw [List.all_map]
        have e0 : ds.all ((fun x => x) ∘ callB n) = ds.all (callB n) := rfl
        refine ⟨_, rfl, ite2 (fun g2 => fin0 _ sm ?_) (fun g2 => ?_)⟩
        · have g3 : ds.all (callB n) = false := by
            cases hh : ds.all (callB n) with
            | false => rfl
            | true => exact absurd (show (!(ds.all (callB n))) = true from g2) (by rw [hh]; decide)
          show false = (ds.all (callB n) && decide (runs (ds.map callOf) a = b))
          rw [g3]; rfl
        have g3 : ds.all (callB n) = true := by
          cases hh : ds.all (callB n) with
          | true => rfl
          | false => exact absurd (show (!(ds.all (callB n))) = true by rw [hh]; rfl) g2
        obtain ⟨hI, hc⟩ := items_all (dpa_same sm hA) g3
        refine ⟨_, rfl, _, rfl, x, wd, _, ds.map callOf, a, n, rfl, hx.same sm, .inl (sm.seq hS), hI.items, ha, hc, by omega, fun H2 t s2 nt et => ?_⟩
        have hy2 := (hy.same sm).same s2
        have fin : ∀ (H3 : Hp) (z : Addr), Same H2 H3 → SqT K H3 z (nv b) → rEqD K (.ref t) (.ref z) H3 Q := fun H3 z s3 hz => by
          refine ⟨_, _, .tup (.inl (.inl (s3 _ _ et))) (dp_nats _), .tup hz (dp_nats _), (fi_tup (runs_pair _ ha hc) hn).sh, (fi_tup hb hn).sh, ?_⟩
          rw [show PyData.eqv (.tuple (nd (runs (ds.map callOf) a))) (.tuple (nd b)) = decide (runs (ds.map callOf) a = b) from eqv_td _ _]
          refine fin0 _ ((sm.trans s2).trans s3) ?_
          show _ = (ds.all (callB n) && decide (runs (ds.map callOf) a = b))
          rw [g3]; rfl
        rcases hy2 with g | g
        · exact ⟨_, rfl, y, _, rfl, .inl ⟨g, fun u nu => fin _ u (same_new nu) (.inl (.inl upd_same))⟩⟩
        · exact ⟨_, rfl, y, _, rfl, .inr ⟨g, fin _ y (fun _ _ h => h) g⟩⟩
/-! ### the law's own answer -/
def spIsOne (K : PySem.W.Frag) : Sp := fun vs H Q _ => ∃ (x y : Addr) (v : V) (d : PyData) (a b : List Nat) (n : Nat), vs = [.ref x, .ref y, v] ∧ H x = some (.tup (nv a)) ∧ H y = some (.tup (nv b)) ∧ Dp K H v d ∧ IsPair n a ∧ IsPair n b ∧ n ≤ 100 ∧ ∀ H', Same H H' → Q (.bl (oneB n a b d)) H'
theorem ok_is_one (T : Env K mg) : FnOk P w K mg base CX0 3 T.f_is_one T.d_is_one ["_law_tie", "_law_mate", "_law_matter"] (spIsOne K) := by
  have GU : FnOk P w K mg base CX0 2 T.f_toured T.d_toured ["_law_tie", "_law_tour"] (spTouredI K) := ok_touredI T
  refine T.F_is_one.ok sc_is_one (fun vs H Q E h => ?_) (fun cdv A outer s H vs Q E hr h => ?_)
  · obtain ⟨x, y, v, d, a, b, n, rfl, _⟩ := h
    rfl
  · obtain ⟨x, y, v, d, a, b, n, rfl, hx, hy, hd, ha, hb, hn, q⟩ := h
    refine ⟨_, pss_cons (ps_if (pt_not (pt_val (pe_callB call_isi (by rfl) T.n_isinstance (by decide +kernel) (pa_cons (pv 2) (pa_cons (pe_bltn (v := .ty "list") (by rfl) T.n_list (by decide +kernel) rfl) pa_nil))))) (pss_one (ps_ret pe_bl)) pss_nil) <|
      pss_cons (ps_for PassesOwn.never rfl (pi_list (pv 2)) (pg_name (i := 3) sc_is_one.nd rfl (.inl rfl))
        (pss_cons (ps_if (PW.pt (pw_or (pt_not (pt_val (pe_callB call_isi (by rfl) T.n_isinstance (by decide +kernel) (pa_cons (pv 3) (pa_cons (pe_bltn (v := .ty "tuple") (by rfl) T.n_tuple (by decide +kernel) rfl) pa_nil))))) (pw_or1 (pt_cmpR op_ne (pe_callB call_len_seq (by rfl) T.n_len PySem.boot_len (pa_cons (pv 3) pa_nil)) pe_int (nomark _))))) (pss_one (ps_ret pe_bl)) pss_nil) <|
        pss_cons (ps_if (pt_not (pt_val (pe_callB (cr_all rfl) (by rfl) T.n_all (by decide +kernel) (pa_cons (pe_lc (own := [("_law_who", 4)]) (g := gName 4) (tt := tYes) (te := tAndV (tCB (rIsi K) (tCons (tVar 4) (tCons (tC (.ty "int")) tNil))) (tNotV (tCB (rIsi K) (tCons (tVar 4) (tCons (tC (.ty "bool")) tNil))))) rfl sc_is_one.nd (pi_tup (pv 3)) (blkOk_by (N := N_is_one) (sc := (defScope s_is_one)) (by decide +kernel)) (fun _ _ _ _ _ => (pg_name (i := 4) sc_is_one.nd rfl (.inl rfl))) (fun _ _ _ _ _ => pts_nil) (fun _ _ _ _ _ => (pe_and (pe_callB (r := rIsi K) call_isi (by rfl) T.n_isinstance (by decide +kernel) (pa_cons (pv 4) (pa_cons (pe_bltn (v := .ty "int") (by rfl) T.n_int (by decide +kernel) rfl) pa_nil))) (pe_one (pe_not (pe_callB (r := rIsi K) call_isi (by rfl) T.n_isinstance (by decide +kernel) (pa_cons (pv 4) (pa_cons (pe_bltn (v := .ty "bool") (by rfl) T.n_bool (by decide +kernel) rfl) pa_nil)))))))) pa_nil)))) (pss_one (ps_ret pe_bl)) pss_nil) <|
        pss_one (ps_if (pt_not (pt_less3 op_le op_lt op_lt pe_int (pe_ix ix_tup (pv 3) pe_int (fun _ _ => rfl)) (pe_ix ix_tup (pv 3) pe_int (fun _ _ => rfl)) (pe_callB call_len_seq (by rfl) T.n_len PySem.boot_len (pa_cons (pv 0) pa_nil)))) (pss_one (ps_ret pe_bl)) pss_nil))) <|
      pss_one (ps_ret (pe_cmpR (op_eqD hr.units) (pe_call GU hr (by rfl) T.g_toured T.F_toured.kp T.b_toured .nil pass0 (pa_cons (pv 0) (pa_cons (pv 2) pa_nil))) (pv 1) (nomark _))), ?_⟩
    have fin0 : ∀ {k : Bool} (H' : Hp), Same H H' → k = oneB n a b d → Q (.bl k) H' := fun H' sm e => by rw [e]; exact q H' sm
    have hal : (nv a).length = n := by rw [nv_length, ha.len]
    refine ⟨_, rfl, _, _, _, _, _, rfl, .ty _, dp_ty hd, k_list hd, _, rfl, ite2 (fun g => fin0 _ (fun _ _ z => z) ?_) (fun g => ?_)⟩
    · refine (oneB_kind fun z => ?_).symm
      rw [z] at g; exact absurd g (by decide)
    cases hd with
    | non => exact absurd rfl g
    | bl => exact absurd rfl g
    | int => exact absurd rfl g
    | str => exact absurd rfl g
    | tup => exact absurd rfl g
    | lst hS hA =>
      rename_i wd us ds
      have hl := dpa_len hA
      refine ⟨.ref wd, rfl, wd, rfl, ⟨_, hS⟩, for_list (xs := us) (fun i σ H' => Same H H' ∧ (ds.take i).all (callB n) = true ∧ ∃ y3 y4 : Option V, σ = [some (.ref x), some (.ref y), some (.ref wd), y3, y4]) ⟨Same.refl _, rfl, none, none, rfl⟩ (fun i σ H' _ h => h.1.seq hS) (fun i v σ H' hv h => ?_) (fun σ H' h => ?_)⟩
      · obtain ⟨sm, hall, y3, y4, rfl⟩ := h
        obtain ⟨z, ez, hz0⟩ := dpa_get hA hv
        have hz := dp_same sm hz0
        have hm := List.mem_of_getElem? ez
        have bad : ∀ (H2 : Hp), Same H' H2 → callB n z = false → Q (.bl false) H2 := fun H2 s2 e => fin0 H2 (sm.trans s2) (oneB_bad hm e).symm
        refine ⟨_, rfl, _, _, _, _, _, rfl, .ty _, dp_ty hz, k_tuple hz, _, rfl, ite2 (fun g1 => bad _ (fun _ _ z => z) ?_) (fun g1 => ?_)⟩
        · cases hz with
          | tup => exact absurd (show false = true from g1) Bool.false_ne_true
          | _ => rfl
        cases hz with
        | non => exact absurd rfl g1
        | bl => exact absurd rfl g1
        | int => exact absurd rfl g1
        | str => exact absurd rfl g1
        | lst => exact absurd rfl g1
        | tup hT hB =>
          rename_i t xs es
          have hel := dpa_len hB
          refine ⟨.ref t, rfl, t, _, rfl, .inr hT, rfl, _, rfl, ite2 (fun g2 => bad _ (fun _ _ z => z) ?_) (fun g2 => ?_)⟩
          · refine callB_two fun z => ?_
            have g' : (!decide (V.int (xs.length : Int) = V.int 2)) = true := g2
            rw [hel, z] at g'
            exact absurd g' (by decide)
          have g' : decide (V.int (xs.length : Int) = V.int 2) = true := by
            cases hh : decide (V.int (xs.length : Int) = V.int 2) with
            | true => rfl
            | false => exact absurd (show (!decide (V.int (xs.length : Int) = V.int 2)) = true by rw [hh]; rfl) g2
          have g3 : (xs.length : Int) = 2 := V.int.inj (of_decide_eq_true g')
          obtain ⟨x1, x2, y1, y2, rfl, rfl, h1, h2⟩ : ∃ x1 x2 y1 y2, xs = [x1, x2] ∧ es = [y1, y2] ∧ Dp K H' x1 y1 ∧ Dp K H' x2 y2 := by
            cases hB with
            | nil => simp at g3
            | cons h1 r1 =>
              cases r1 with
              | nil => simp at g3
              | cons h2 r2 =>
                cases r2 with
                | nil => exact ⟨_, _, _, _, rfl, rfl, h1, h2⟩
                | cons h3 r3 =>
                  simp only [List.length_cons] at g3
                  omega
          refine ⟨_, rfl, t, rfl, ⟨_, hT⟩, fun D nD => ?_⟩
          refine lc_tup (xs := [x1, x2]) (fun i H2 => Same H' H2 ∧ H2 D = some (.lst ((([y1, y2].take i).map (fun e => isI e && !isB e)).map V.bl))) ⟨same_new nD, upd_same⟩ (fun i H2 _ h => same_tup h.1 hT) (fun i u H2 hu h => ?_) (fun H2 h => ?_)
          · obtain ⟨s2, eD⟩ := h
            obtain ⟨e, ee, he0⟩ := dpa_get hB hu
            have he := dp_same s2 he0
            have nxt : ∀ k : Bool, k = (isI e && !isB e) → ∃ acc, H2 D = some (.lst acc) ∧ acc.length < sizeLine ∧ Same H' (upd H2 D (.lst (acc ++ [.bl k]))) ∧ (upd H2 D (.lst (acc ++ [.bl k]))) D = some (.lst ((([y1, y2].take (i + 1)).map (fun e => isI e && !isB e)).map V.bl)) := fun k hk => by
              refine ⟨_, eD, ?_, fun z o hz => by rw [upd_ne (ne_of_none hz nD)]; exact s2 _ _ hz, ?_⟩
              · rw [List.length_map, List.length_map, List.length_take]; exact small1000 (by show min i 2 ≤ _; omega)
              · rw [upd_same, all_take_bl (fun e => isI e && !isB e) ee, hk]
            refine ⟨rfl, yes_if ⟨_, rfl, _, _, _, _, _, rfl, .ty _, dp_ty he, k_int he, _, rfl, ite2 (fun g4 => ?_) (fun g4 => ?_)⟩⟩
            · refine ⟨_, rfl, _, _, _, _, _, rfl, .ty _, dp_ty he, k_bool he, _, rfl, nxt _ ?_⟩
              rw [show isI e = true from g4]; rfl
            · refine nxt _ ?_
              rw [show isI e = false from Bool.eq_false_iff.mpr g4]; rfl
          · obtain ⟨s2, eD⟩ := h
            refine ⟨D, [isI y1 && !isB y1, isI y2 && !isB y2], rfl, .inl (.inl eD), _, rfl, ite2 (fun g4 => bad _ s2 ?_) (fun g4 => ?_)⟩
            · show (belowB n y1 && belowB n y2 && decide (iOf y1 < iOf y2)) = false
              have g5 : (!((isI y1 && !isB y1) && ((isI y2 && !isB y2) && true))) = true := g4
              cases b1 : belowB n y1 with
              | false => rfl
              | true =>
                cases b2 : belowB n y2 with
                | false => rfl
                | true =>
                  obtain ⟨i, rfl, _⟩ := below_int b1
                  obtain ⟨j, rfl, _⟩ := below_int b2
                  exact absurd (show false = true from g5) Bool.false_ne_true
            have g5 : ((isI y1 && !isB y1) && ((isI y2 && !isB y2) && true)) = true := by
              cases hh : ((isI y1 && !isB y1) && ((isI y2 && !isB y2) && true)) with
              | true => rfl
              | false => exact absurd (show (!((isI y1 && !isB y1) && ((isI y2 && !isB y2) && true))) = true by rw [hh]; rfl) g4
            rw [Bool.and_true, Bool.and_eq_true] at g5
            obtain ⟨ia, rfl⟩ : ∃ ia : Int, y1 = .int ia := by
              cases h1 with
              | int i => exact ⟨i, rfl⟩
              | _ => exact absurd (show false = true from g5.1) Bool.false_ne_true
            obtain ⟨jb, rfl⟩ : ∃ jb : Int, y2 = .int jb := by
              cases h2 with
              | int i => exact ⟨i, rfl⟩
              | _ => exact absurd (show false = true from g5.2) Bool.false_ne_true
            cases h1; cases h2
            have hT2 := same_tup s2 hT
            have eC : callB n (.tuple [.int ia, .int jb]) = ((decide (0 ≤ ia) && decide (ia < (n : Int))) && (decide (0 ≤ jb) && decide (jb < (n : Int))) && decide (ia < jb)) := rfl
            refine ⟨_, rfl, t, _, 0, _, rfl, rfl, hT2, rfl, _, _, rfl, rfl, _, rfl, ite2 (fun c1 => ?_) (fun c1 => ?_)⟩
            · refine ⟨_, rfl, t, _, 1, _, rfl, rfl, hT2, rfl, _, _, rfl, rfl, _, rfl, ite2 (fun c2 => ?_) (fun c2 => ?_)⟩
              · refine ⟨.ref x, rfl, x, _, rfl, .inr (.inl (.inl (s2 _ _ (sm _ _ hx)))), _, _, rfl, rfl, _, rfl, ite2 (fun c3 => bad _ s2 ?_) (fun c3 => ?_)⟩
                · rw [hal] at c3
                  have c4 : ¬ jb < (n : Int) := fun z => by rw [decide_eq_true z] at c3; exact absurd c3 (by decide)
                  rw [eC, decide_eq_false c4]
                  simp
                · rw [hal] at c3
                  have c4 : jb < (n : Int) := by
                    by_cases z : jb < (n : Int)
                    · exact z
                    · rw [decide_eq_false z] at c3; exact absurd rfl c3
                  have d1 := of_decide_eq_true c1
                  have d2 := of_decide_eq_true c2
                  have eT : callB n (.tuple [.int ia, .int jb]) = true := by
                    rw [eC, decide_eq_true d1, decide_eq_true d2, decide_eq_true c4, decide_eq_true (show ia < (n : Int) by omega), decide_eq_true (show 0 ≤ jb by omega)]; rfl
                  have hP : Same H H2 ∧ (ds.take (i + 1)).all (callB n) = true ∧ ∃ y3' y4' : Option V, [some (.ref x), some (.ref y), some (.ref wd), some (.ref t), y4] = [some (.ref x), some (.ref y), some (.ref wd), y3', y4'] := by
                    refine ⟨sm.trans s2, ?_, _, _, rfl⟩
                    rw [List.take_add_one, ez, List.all_append, hall]
                    show (true && (callB n (.tuple [.int ia, .int jb]) && true)) = true
                    rw [eT]; rfl
                  exact hP
              · refine iteY rfl (bad _ s2 ?_)
                have c4 : ¬ ia < jb := fun z => c2 (decide_eq_true z)
                rw [eC, decide_eq_false c4, Bool.and_false]
            · refine iteY rfl (bad _ s2 ?_)
              have c4 : ¬ 0 ≤ ia := fun z => c1 (decide_eq_true z)
              rw [eC, decide_eq_false c4]
              simp
      · obtain ⟨sm, hall, y3, y4, rfl⟩ := h
        rw [hl, List.take_length] at hall
        obtain ⟨hI, hc⟩ := items_all (dpa_same sm hA) hall
        refine ⟨_, rfl, _, rfl, x, wd, _, ds.map callOf, a, n, rfl, sm _ _ hx, sm.seq hS, hI, ha, hc, fun H2 t s2 et => ?_⟩
        refine ⟨_, rfl, _, _, .tup (.inl (.inl et)) (dp_nats _), .tup (.inl (.inl (s2 _ _ (sm _ _ hy)))) (dp_nats _), (fi_tup (runs_pair _ ha hc) hn).sh, (fi_tup hb hn).sh, ?_⟩
        rw [show PyData.eqv (.tuple (nd (runs (ds.map callOf) a))) (.tuple (nd b)) = decide (runs (ds.map callOf) a = b) from eqv_td _ _]
        refine fin0 _ (sm.trans s2) ?_
        show _ = (ds.all (callB n) && decide (runs (ds.map callOf) a = b))
        rw [hall]; rfl
end
end Pc
namespace Pc
open PySem PySem.Spec PyProof.Rows L2 RZ
/-! ### pm210 alone (never with lib50); calls as lists -/
def pm210 {α : Type} : List α → List α
  | [a, b, c] => [c, b, a]
  | l => l
theorem rel_pm210 {zs : List V} {ws : List Value} (_ : zs.length = 3) (r : Vals zs ws) : Vals (pm210 zs) (pm210 ws) := by
  match zs, ws, r with
  | [], _, .nil => exact .nil
  | [_], _, .cons h .nil => exact .cons h .nil
  | [_, _], _, .cons h1 (.cons h2 .nil) => exact .cons h1 (.cons h2 .nil)
  | [_, _, _], _, .cons h1 (.cons h2 (.cons h3 .nil)) => exact .cons h3 (.cons h2 (.cons h1 .nil))
  | _ :: _ :: _ :: _ :: _, _, .cons h1 (.cons h2 (.cons h3 (.cons h4 r))) => exact .cons h1 (.cons h2 (.cons h3 (.cons h4 r)))
def Lps (H : Hp) : List Addr → List (Nat × Nat) → Prop := Paired fun a p => H a = some (.lst [.int (p.1 : Nat), .int (p.2 : Nat)])
theorem lps_same {H H' : Hp} (s : Same H H') : ∀ {as : List Addr} {qs : List (Nat × Nat)}, Lps H as qs → Lps H' as qs
  | _, _, .nil => .nil
  | _, _, .cons e t => .cons (s _ _ e) (lps_same s t)
theorem lps_keep {b : Addr} {H H' : Hp} (k : Keep b H H') : ∀ {as : List Addr} {qs : List (Nat × Nat)}, b ∉ as → Lps H as qs → Lps H' as qs
  | _, _, _, .nil => .nil
  | _, _, n, .cons e t => .cons (k _ _ (fun z => n (by rw [z]; exact List.mem_cons_self)) e) (lps_keep k (fun z => n (List.mem_cons_of_mem _ z)) t)
theorem lps_len {H : Hp} {as : List Addr} {qs : List (Nat × Nat)} (h : Lps H as qs) : as.length = qs.length := Paired.length h
theorem lps_app {H : Hp} : ∀ {as bs : List Addr} {ls ms : List (Nat × Nat)}, Lps H as ls → Lps H bs ms → Lps H (as ++ bs) (ls ++ ms)
  | _, _, _, _, .nil, g => g
  | _, _, _, _, .cons e r, g => .cons e (lps_app r g)
theorem lps_get {H : Hp} : ∀ {as : List Addr} {qs : List (Nat × Nat)} {i : Nat} {a : Addr}, Lps H as qs → as[i]? = some a → ∃ p, qs[i]? = some p ∧ H a = some (.lst [.int (p.1 : Nat), .int (p.2 : Nat)])
  | _ :: _, _ :: _, 0, _, .cons e _, h => by cases h; exact ⟨_, rfl, e⟩
  | _ :: _, _ :: _, i + 1, _, .cons _ t, h => by
    obtain ⟨p, h1, h2⟩ := lps_get t (i := i) (by simpa using h)
    exact ⟨p, by simpa using h1, h2⟩
theorem lps_items {K : PySem.W.Frag} {H : Hp} {as : List Addr} {qs : List (Nat × Nat)} (h : Lps H as qs) : Items K H (as.map V.ref) qs := by
  refine ⟨by rw [List.length_map, lps_len h], fun i v hv => ?_⟩
  rw [List.getElem?_map] at hv
  obtain ⟨a, ha, rfl⟩ := Option.map_eq_some_iff.mp hv
  obtain ⟨p, hp, e⟩ := lps_get h ha
  exact ⟨a, p, rfl, hp, .inl (.inl (.inl e))⟩
theorem pick_six {v : V} {i : Nat} (h : [V.int 2, V.int 4, V.int 6, V.int 6, V.int 6, V.int 8][i]? = some v) : ∃ N : Nat, v = .int ((N : Nat) : Int) ∧ 2 ≤ N ∧ N ≤ 8 ∧ N % 2 = 0 := by
  match i, h with
  | 0, h => exact ⟨2, (Option.some.inj h).symm, by omega, by omega, rfl⟩
  | 1, h => exact ⟨4, (Option.some.inj h).symm, by omega, by omega, rfl⟩
  | 2, h => exact ⟨6, (Option.some.inj h).symm, by omega, by omega, rfl⟩
  | 3, h => exact ⟨6, (Option.some.inj h).symm, by omega, by omega, rfl⟩
  | 4, h => exact ⟨6, (Option.some.inj h).symm, by omega, by omega, rfl⟩
  | 5, h => exact ⟨8, (Option.some.inj h).symm, by omega, by omega, rfl⟩
  | i + 6, h => simp at h
end Pc
namespace Pc
open PySem PySem.Spec PyProof.Rows L2 RZ
/-- data as it is drawn here -/
structure Nice (d : PyData) : Prop where
  ok : okD (2 ^ 100 + 2) d
  dep : d.depth ≤ 5
  wt_ : wt d ≤ 20000
theorem Nice.fine {d : PyData} (h : Nice d) : Fine 5 20000 d := okD_fine (by decide) h.ok h.wt_ (by decide) h.dep
def NiceAll (K : PySem.W.Frag) (S : Addr → Prop) (H : Hp) (vs : List V) : Prop := ∀ v ∈ vs, ∃ d, Dp K (off S H) v d ∧ Nice d
theorem NiceAll.mono {K : PySem.W.Frag} {S : Addr → Prop} {H H' : Hp} {vs : List V} (h : NiceAll K S H vs) (s : Same (off S H) (off S H')) : NiceAll K S H' vs := fun v hv => by
  obtain ⟨d, h1, h2⟩ := h v hv
  exact ⟨d, dp_same s h1, h2⟩
theorem NiceAll.snoc {K : PySem.W.Frag} {S : Addr → Prop} {H : Hp} {vs : List V} {v : V} {d : PyData} (h : NiceAll K S H vs) (hd : Dp K (off S H) v d) (hn : Nice d) : NiceAll K S H (vs ++ [v]) := fun x hx => by
  rcases List.mem_append.mp hx with z | z
  · exact h x z
  · rw [List.mem_singleton.mp z]; exact ⟨d, hd, hn⟩
theorem nice_nd {l : List Nat} {n : Nat} (h : ∀ i ∈ l, i < n) (hl : l.length ≤ 100) (hn : n ≤ 1000) : okAll (2 ^ 100 + 2) (nd l) ∧ PyData.depthAll (nd l) ≤ 0 ∧ wtAll (nd l) ≤ 13200 := by
  refine ⟨okAll_iff.mpr fun x hx => ?_, all_depth fun d hd => ?_, ?_⟩
  · obtain ⟨i, hi, rfl⟩ := List.mem_map.mp hx
    have := h i hi
    show ((i : Int)).natAbs ≤ 2 ^ 100 + 2
    have e : ((i : Int)).natAbs = i := Int.natAbs_natCast i
    have : (1000 : Nat) ≤ 2 ^ 100 := by decide
    omega
  · obtain ⟨i, _, rfl⟩ := List.mem_map.mp hd
    exact Nat.le_refl _
  · rw [wtAll_nd]; omega
theorem nice_rg {i c : Int} {n : Nat} (h : ∀ k : Nat, k < n → (i + (k : Nat) * c).natAbs ≤ 100) (hn : n ≤ 60) : Nice (.tuple (rgCD i c n)) := by
  refine ⟨?_, ?_, ?_⟩
  · show okAll (2 ^ 100 + 2) (rgCD i c n)
    refine okAll_iff.mpr fun x hx => ?_
    obtain ⟨k, hk, rfl⟩ := List.mem_map.mp hx
    have := h k (List.mem_range.mp hk)
    exact Nat.le_trans this (by decide)
  · have := depth_rgCD i c n
    show PyData.depthAll (rgCD i c n) + 1 ≤ 5
    omega
  · show 3 + wtAll (rgCD i c n) ≤ 20000
    rw [wt_rgCD]; omega
/-- one value as it is drawn here, apart from the box -/
def NV (K : PySem.W.Frag) (b : Addr) (H : Hp) (v : V) : Prop := ∃ d, Dp K (off (fun x => x = b) H) v d ∧ Nice d
theorem NV.same {K : PySem.W.Frag} {b : Addr} {H H' : Hp} {v : V} (h : NV K b H v) (s : Same H H') : NV K b H' v := by
  obtain ⟨d, h1, h2⟩ := h
  exact ⟨d, dp_same (off_same s) h1, h2⟩
theorem NV.at {K : PySem.W.Frag} {b : Addr} {H H' : Hp} {v : V} {S : Addr → Prop} (h : NV K b H v) (s : Same (off (fun x => x = b) H) (off S H')) : ∃ d, Dp K (off S H') v d ∧ Nice d := by
  obtain ⟨d, h1, h2⟩ := h
  exact ⟨d, dp_same s h1, h2⟩
theorem NV.lst {K : PySem.W.Frag} {b a : Addr} {H : Hp} {l : List Nat} (hb : a ≠ b) (e : H a = some (.lst (nv l))) (hl : l.length ≤ 100) (h : ∀ x ∈ l, x < 1000) : NV K b H (.ref a) := by
  obtain ⟨n1, n2, n3⟩ := nice_nd h hl (Nat.le_refl _)
  exact ⟨.list (nd l), .lst (.inl (.inl (off_get hb e))) (dp_nats l), ⟨n1, by show PyData.depthAll (nd l) + 1 ≤ 5; omega, by show 3 + wtAll (nd l) ≤ 20000; omega⟩⟩
theorem NV.tup {K : PySem.W.Frag} {b a : Addr} {H : Hp} {l : List Nat} (hb : a ≠ b) (e : H a = some (.tup (nv l))) (hl : l.length ≤ 100) (h : ∀ x ∈ l, x < 1000) : NV K b H (.ref a) := by
  obtain ⟨n1, n2, n3⟩ := nice_nd h hl (Nat.le_refl _)
  exact ⟨.tuple (nd l), .tup (.inl (.inl (off_get hb e))) (dp_nats l), ⟨n1, by show PyData.depthAll (nd l) + 1 ≤ 5; omega, by show 3 + wtAll (nd l) ≤ 20000; omega⟩⟩
/-- 0 and 1 as booleans -/
def mixD (x : Nat) : PyData := if x < 2 then .bool (decide (V.int (x : Int) = V.int 1)) else .int (x : Int)
def mixV (x : Nat) : V := if x < 2 then .bl (decide (V.int (x : Int) = V.int 1)) else .int (x : Int)
theorem mix_dp {K : PySem.W.Frag} {H : Hp} (x : Nat) : Dp K H (mixV x) (mixD x) := by
  unfold mixV mixD
  by_cases h : x < 2
  · rw [if_pos h, if_pos h]; exact .bl _
  · rw [if_neg h, if_neg h]; exact .int _
theorem mix_all {K : PySem.W.Frag} {H : Hp} : ∀ l : List Nat, DpAll K H (l.map mixV) (l.map mixD)
  | [] => .nil
  | x :: r => .cons (mix_dp x) (mix_all r)
theorem mix_wt : ∀ l : List Nat, wtAll (l.map mixD) ≤ 132 * l.length
  | [] => Nat.le_refl _
  | x :: r => by
    have := mix_wt r
    have h : wt (mixD x) ≤ 130 := by
      unfold mixD
      by_cases h : x < 2
      · rw [if_pos h]; show 5 ≤ 130; decide
      · rw [if_neg h]; exact Nat.le_refl _
    show wt (mixD x) + 2 + wtAll (r.map mixD) ≤ 132 * (r.length + 1)
    omega
theorem NV.mix {K : PySem.W.Frag} {b a : Addr} {H : Hp} {l : List Nat} (hb : a ≠ b) (e : H a = some (.lst (l.map mixV))) (hl : l.length ≤ 100) (h : ∀ x ∈ l, x < 1000) : NV K b H (.ref a) := by
  refine ⟨.list (l.map mixD), .lst (.inl (.inl (off_get hb e))) (mix_all l), ⟨okAll_iff.mpr fun d hd => ?_, ?_, ?_⟩⟩
  · obtain ⟨x, hx, rfl⟩ := List.mem_map.mp hd
    have := h x hx
    unfold mixD
    by_cases c : x < 2
    · rw [if_pos c]; trivial
    · rw [if_neg c]
      show ((x : Int)).natAbs ≤ 2 ^ 100 + 2
      have e : ((x : Int)).natAbs = x := Int.natAbs_natCast x
      have : (1000 : Nat) ≤ 2 ^ 100 := by decide
      omega
  · have : PyData.depthAll (l.map mixD) ≤ 0 := all_depth fun d hd => by
      obtain ⟨x, hx, rfl⟩ := List.mem_map.mp hd
      unfold mixD
      by_cases c : x < 2
      · rw [if_pos c]; exact Nat.le_refl _
      · rw [if_neg c]; exact Nat.le_refl _
    show PyData.depthAll (l.map mixD) + 1 ≤ 5
    omega
  · have := mix_wt l
    show 3 + wtAll (l.map mixD) ≤ 20000
    omega
theorem NV.non {K : PySem.W.Frag} {b : Addr} {H : Hp} : NV K b H .non := ⟨.none, .non, ⟨trivial, by decide, by decide⟩⟩
theorem NV.str0 {K : PySem.W.Frag} {b : Addr} {H : Hp} : NV K b H (.str "") := ⟨.str "", .str _, ⟨strOk_of "", by decide, by decide⟩⟩
theorem NV.int0 {K : PySem.W.Frag} {b : Addr} {H : Hp} : NV K b H (.int 0) := ⟨.int 0, .int _, ⟨by show (0 : Int).natAbs ≤ 2 ^ 100 + 2; decide, by decide, by decide⟩⟩
end Pc
namespace L2
open PySem PySem.Spec PyProof.Rows
/-! ### x is True, x is not True -/
theorem op_isB {X : Cx} : OpR X (compareOp .Is) (fun x y H Q => ∃ c d, x = .bl c ∧ y = .bl d ∧ Q (.bl (decide (c = d))) H) := by
  intro pins s σ H x y v u Q I rx ry h
  obtain ⟨c, d, rfl, rfl, q⟩ := h
  cases (show v = Value.bool c from rx)
  cases (show u = Value.bool d from ry)
  exact wpAny_is_plain rfl (fin_bl I q (by cases c <;> cases d <;> rfl))
theorem op_notB {X : Cx} : OpR X (compareOp .IsNot) (fun x y H Q => ∃ c d, x = .bl c ∧ y = .bl d ∧ Q (.bl (!decide (c = d))) H) := by
  intro pins s σ H x y v u Q I rx ry h
  obtain ⟨c, d, rfl, rfl, q⟩ := h
  cases (show v = Value.bool c from rx)
  cases (show u = Value.bool d from ry)
  exact wpAny_isNot_plain rfl (fin_bl I q (by cases c <;> cases d <;> rfl))
end L2
namespace Pc
open PySem PySem.Spec PyProof.Rows L2 RZ
/-! ### lists of small things -/
def okP (d : PyData) : Prop := okD 1000 d ∧ d.depth ≤ 1 ∧ wt d ≤ 300
theorem wtAll_le {m : Nat} : ∀ {ds : List PyData}, (∀ d ∈ ds, wt d ≤ m) → wtAll ds ≤ (m + 2) * ds.length
  | [], _ => Nat.zero_le _
  | d :: r, h => by
    have h1 := h d List.mem_cons_self
    have h2 := wtAll_le (ds := r) fun x hx => h x (List.mem_cons_of_mem _ hx)
    show wt d + 2 + wtAll r ≤ (m + 2) * (r.length + 1)
    rw [Nat.mul_add]
    omega
theorem wt_ds {ds : List PyData} (h : ∀ d ∈ ds, okP d) : wtAll ds ≤ 302 * ds.length := wtAll_le fun d hd => (h d hd).2.2
theorem nice_ds {ds : List PyData} (h : ∀ d ∈ ds, okP d) (hl : ds.length ≤ 60) : Nice (.list ds) ∧ Nice (.tuple ds) := by
  have h1 : okAll (2 ^ 100 + 2) ds := okAll_iff.mpr fun d hd => okD_mono (by decide) (h d hd).1
  have h2 : PyData.depthAll ds ≤ 1 := all_depth fun d hd => (h d hd).2.1
  have h3 := wt_ds h
  exact ⟨⟨h1, by show PyData.depthAll ds + 1 ≤ 5; omega, by show 3 + wtAll ds ≤ 20000; omega⟩, ⟨h1, by show PyData.depthAll ds + 1 ≤ 5; omega, by show 3 + wtAll ds ≤ 20000; omega⟩⟩
theorem ok_two {i j : Nat} (hi : i < 1000) (hj : j < 1000) : okAll 1000 [.int (i : Int), .int (j : Int)] := ⟨show ((i : Int)).natAbs ≤ 1000 by rw [Int.natAbs_natCast]; omega, show ((j : Int)).natAbs ≤ 1000 by rw [Int.natAbs_natCast]; omega, trivial⟩
theorem okP_t {i j : Nat} (hi : i < 1000) (hj : j < 1000) : okP (.tuple [.int (i : Int), .int (j : Int)]) := ⟨ok_two hi hj, Nat.le_refl _, by show 3 + (130 + 2 + (130 + 2 + 0)) ≤ 300; decide⟩
theorem okP_l {i j : Nat} (hi : i < 1000) (hj : j < 1000) : okP (.list [.int (i : Int), .int (j : Int)]) := ⟨ok_two hi hj, Nat.le_refl _, by show 3 + (130 + 2 + (130 + 2 + 0)) ≤ 300; decide⟩
theorem okP_neg : okP (.tuple [.int (-1), .int 0]) := ⟨⟨by show (-1 : Int).natAbs ≤ 1000; decide, by show (0 : Int).natAbs ≤ 1000; decide, trivial⟩, Nat.le_refl _, by show 3 + (130 + 2 + (130 + 2 + 0)) ≤ 300; decide⟩
theorem okP_ft : okP (.tuple [.bool false, .bool true]) := ⟨⟨trivial, trivial, trivial⟩, Nat.le_refl _, by show 3 + (5 + 2 + (5 + 2 + 0)) ≤ 300; decide⟩
theorem okP_non : okP .none := ⟨trivial, Nat.zero_le _, by show 5 ≤ 300; decide⟩
theorem one_tour {N : Nat} {qs : List (Nat × Nat)} {a : List Nat} (hc : Calls N qs) : oneB N a (runs qs a) (.list (qs.map pd)) = true := by
  show ((qs.map pd).all (callB N) && decide (runs ((qs.map pd).map callOf) a = runs qs a)) = true
  have e1 : (qs.map pd).map callOf = qs := by
    rw [List.map_map]
    have : (callOf ∘ pd) = id := funext fun p => by
      show (((p.1 : Nat) : Int).toNat, ((p.2 : Nat) : Int).toNat) = p
      rw [Int.toNat_natCast, Int.toNat_natCast]
    rw [this, List.map_id]
  rw [e1, decide_eq_true rfl, Bool.and_true]
  refine List.all_eq_true.mpr fun d hd => ?_
  obtain ⟨p, hp, rfl⟩ := List.mem_map.mp hd
  obtain ⟨h1, h2⟩ := hc p hp
  show ((decide (0 ≤ ((p.1 : Nat) : Int)) && decide (((p.1 : Nat) : Int) < (N : Int))) && (decide (0 ≤ ((p.2 : Nat) : Int)) && decide (((p.2 : Nat) : Int) < (N : Int))) && decide (((p.1 : Nat) : Int) < ((p.2 : Nat) : Int))) = true
  rw [decide_eq_true (show (0 : Int) ≤ ((p.1 : Nat) : Int) by omega), decide_eq_true (show (0 : Int) ≤ ((p.2 : Nat) : Int) by omega), decide_eq_true (show ((p.1 : Nat) : Int) < (N : Int) by omega), decide_eq_true (show ((p.2 : Nat) : Int) < (N : Int) by omega), decide_eq_true (show ((p.1 : Nat) : Int) < ((p.2 : Nat) : Int) by omega)]
  rfl
/-! ### what stays while the law runs -/
structure St44 (b lt tie mt : Addr) (as : List Addr) (qs : List (Nat × Nat)) (a e : List Nat) (H0 : Hp) (m : Nat) (H : Hp) : Prop where
  k : Keep b H0 H
  B : Box m H b
  l : H lt = some (.lst (as.map V.ref))
  A : Prs H as qs
  t : H tie = some (.tup (nv a))
  e : H mt = some (.tup (nv e))
  lb : lt ≠ b
section
variable {b lt tie mt : Addr} {as : List Addr} {qs : List (Nat × Nat)} {a e : List Nat} {H0 H : Hp} {m : Nat}
theorem St44.same {H' : Hp} (z : St44 b lt tie mt as qs a e H0 m H) (s : Same H H') : St44 b lt tie mt as qs a e H0 m H' := ⟨z.k.trans (Keep.of_same s), z.B.same s, s _ _ z.l, prs_same s z.A, s _ _ z.t, s _ _ z.e, z.lb⟩
theorem St44.mono {m' : Nat} (z : St44 b lt tie mt as qs a e H0 m H) (h : m' ≤ m) : St44 b lt tie mt as qs a e H0 m' H := ⟨z.k, z.B.mono h, z.l, z.A, z.t, z.e, z.lb⟩
theorem St44.keep {H' : Hp} {m' : Nat} (z : St44 b lt tie mt as qs a e H0 m H) (k : Keep b H H') (hB : Box m' H' b) : St44 b lt tie mt as qs a e H0 m' H' := by
  obtain ⟨yb, hyb⟩ := z.B.lst
  exact ⟨z.k.trans k, hB, k _ _ z.lb z.l, prs_keep k hyb z.A, k.tup hyb z.t, k.tup hyb z.e, z.lb⟩
theorem St44.put {L : Addr} {xs ys : List V} (z : St44 b lt tie mt as qs a e H0 m H) (eL : H L = some (.lst xs)) (n0 : H0 L = none) (hl : lt ≠ L) (hb : L ≠ b) : St44 b lt tie mt as qs a e H0 m (upd H L (.lst ys)) := by
  have kL : Keep L H (upd H L (.lst ys)) := keep_upd
  exact ⟨fun x o xb hx => by rw [upd_ne (ne_of_none hx n0)]; exact z.k x o xb hx, z.B.keep (c := L) kL hb.symm, by rw [upd_ne hl]; exact z.l, prs_keep (b := L) kL eL z.A, kL.tup eL z.t, kL.tup eL z.e, z.lb⟩
end
theorem dlc {K : PySem.W.Frag} {b D : Addr} {H1 H' H2 : Hp} {vs : List V} {ds : List PyData} {v : V} {d : PyData} (nD : H1 D = none) (sm : Same H1 H') (eD : H' D = some (.lst vs)) (hA : DpAll K (off (fun x => x = b ∨ x = D) H') vs ds) (hl : vs.length ≤ 1000) (s2 : Same H' H2) (hv : Dp K (off (fun x => x = b ∨ x = D) H2) v d) :
    ∃ acc, H2 D = some (.lst acc) ∧ acc.length < sizeLine ∧ (Same H1 (upd H2 D (.lst (acc ++ [v]))) ∧ ∃ vs', (upd H2 D (.lst (acc ++ [v]))) D = some (.lst vs') ∧ vs'.length = vs.length + 1 ∧ DpAll K (off (fun x => x = b ∨ x = D) (upd H2 D (.lst (acc ++ [v])))) vs' (ds ++ [d])) := by
  have so : Same (off (fun x => x = b ∨ x = D) H2) (off (fun x => x = b ∨ x = D) (upd H2 D (.lst (vs ++ [v])))) := fun x o hx => by
    have hx2 := off_le _ _ hx
    have nS : ¬ (x = b ∨ x = D) := fun z => by unfold off at hx; rw [if_pos z] at hx; cases hx
    exact off_get nS (by rw [upd_ne (fun z => nS (.inr z))]; exact hx2)
  refine ⟨vs, s2 _ _ eD, line_big (by omega), fun x o hx => by rw [upd_ne (ne_of_none hx nD)]; exact s2 _ _ (sm _ _ hx), vs ++ [v], upd_same, by rw [List.length_append]; rfl, ?_⟩
  exact dpa_same so (dpa_app (dpa_same (off_same s2) hA) (.cons hv .nil))
theorem off_two {b D : Addr} {H : Hp} : Same (off (fun x => x = b ∨ x = D) H) (off (fun x => x = b) H) := off_more fun _ h => .inl h
theorem dpA {K : PySem.W.Frag} {S : Addr → Prop} {H : Hp} (h : ∀ x, S x → ∃ ys, H x = some (.lst ys)) : ∀ {as : List Addr} {qs : List (Nat × Nat)}, Prs H as qs → DpAll K (off S H) (as.map V.ref) (qs.map pd)
  | _, _, .nil => .nil
  | _, _, .cons e t => .cons (.tup (.inl (.inl (off_get (fun z => by obtain ⟨y, hy⟩ := h _ z; rw [hy] at e; cases e) e))) (.cons (.int _) (.cons (.int _) .nil))) (dpA h t)
theorem St44.one {b lt tie mt : Addr} {as : List Addr} {qs : List (Nat × Nat)} {a e : List Nat} {H0 H : Hp} {m : Nat} (z : St44 b lt tie mt as qs a e H0 m H) : ∀ x, x = b → ∃ ys, H x = some (.lst ys) := fun x hx => by rw [hx]; exact z.B.lst
end Pc
namespace Pc
open PySem PySem.Spec PyProof.Rows L2 RZ
section
variable {P : Program} {w : World} {K : PySem.W.Frag} {mg : Str → Option Value} {base : Heap}
/-! ### lists that lead or not -/
def spRight : Sp := fun vs H Q _ => ∃ (b : Addr) (n : Nat), vs = [.ref b] ∧ Box (n + 4000) H b ∧ ∀ H', Keep b H H' → Box n H' b → Q (.bl true) H'
abbrev rListOf (K : PySem.W.Frag) : List V → Hp → VK → Prop := fun xs H Q => ∃ p ys, xs = [.ref p] ∧ (SqL K H p ys ∨ SqT K H p ys) ∧ ∀ l, H l = none → Q (.ref l) (upd H l (.lst ys))
theorem kw_p_leads_210 (T : Env K mg) : ∀ (s : Shared) (ws : List Value), ws.length = (["value", "other", "one"] : List Str).length → BindsTo s T.d_p_leads ⟨[], (["value", "other", "one"] : List Str).zip ws⟩ ((["one", "other", "value"] : List Str).zip (pm210 ws)) :=
  kw_to T.F_p_leads fun _ _ _ _ _ _ ws hl => match ws, hl with | [_, _, _], _ => rfl
theorem ok_right (T : Env K mg) : FnG P w K mg base CX0 8 T.f_right T.d_right ["_law_box_here"] spRight := by
  have GT : FnOk P w K mg base CX0 1 T.f_take T.d_take ["_law_box_here", "_law_below"] spTake := ok_take T
  have GD : FnOk P w K mg base CX0 3 T.f_drawn_tie T.d_drawn_tie ["_law_box_here", "_law_size"] spTie := ok_drawn_tie T
  have GO : FnOk P w K mg base CX0 3 T.f_tour_of T.d_tour_of ["_law_box_here", "_law_size", "_law_most"] spTour := ok_tour_of T
  have GU : FnOk P w K mg base CX0 2 T.f_toured T.d_toured ["_law_tie", "_law_tour"] (spToured K) := ok_toured T
  have GB3 : FnOk P w K mg base CX0 5 T.f_bent T.d_bent ["_law_box_here", "_law_matter"] (spBent K 3) := ok_bent T 3
  have GB4 : FnOk P w K mg base CX0 6 T.f_bent T.d_bent ["_law_box_here", "_law_matter"] (spBent K 4) := ok_bent T 4
  have GI : FnOk P w K mg base CX0 3 T.f_is_one T.d_is_one ["_law_tie", "_law_mate", "_law_matter"] (spIsOne K) := ok_is_one T
  have GL : FnOk P w K mg base CX0 5 T.f_p_leads T.d_p_leads ["one", "other", "value"] (spLeadsD K) := ok_p_leadsD T
  have GE : FnOk P w K mg base CX0 4 T.f_same T.d_same ["_law_found", "_law_due"] (spSame K 4) := ok_same T 4
  refine fun_g T.F_right sc_right (fun vs H Q E h => ?_) (fun cdv A outer s H vs Q E hr hgd h => ?_)
  · obtain ⟨b, n, rfl, _⟩ := h
    rfl
  · obtain ⟨b, n, rfl, hB, q⟩ := h
    have h1 := hr.mono (show 1 ≤ 7 by decide)
    have h2 := hr.mono (show 2 ≤ 7 by decide)
    have h3 := hr.mono (show 3 ≤ 7 by decide)
    have h4 := hr.mono (show 4 ≤ 7 by decide)
    have h5 := hr.mono (show 5 ≤ 7 by decide)
    have h6 := hr.mono (show 6 ≤ 7 by decide)
    refine ⟨_, pss_cons (ps_set (i := 1) sc_right.nd rfl (.inl rfl) (pe_op op_add pe_int (pe_op op_mul pe_int (pe_call GT h1 (by rfl) T.g_take T.F_take.kp T.b_take .nil pass0 (pa_cons (pv 0) (pa_cons pe_int pa_nil)))))) <|
      pss_cons (ps_par (i := 2) (j := 3) (by rfl) sc_right.nd rfl rfl (by decide) rfl rfl (pa_cons (pe_call GD h3 (by rfl) T.g_drawn_tie T.F_drawn_tie.kp T.b_drawn_tie .nil pass0 (pa_cons (pv 0) (pa_cons (pv 1) pa_nil))) (pa_cons (pe_call GO h3 (by rfl) T.g_tour_of T.F_tour_of.kp T.b_tour_of .nil pass0 (pa_cons (pv 0) (pa_cons (pv 1) (pa_cons pe_int pa_nil)))) pa_nil)) (by rfl)) <|
      pss_cons (ps_set (i := 4) sc_right.nd rfl (.inl rfl) (pe_call GU h2 (by rfl) T.g_toured T.F_toured.kp T.b_toured .nil pass0 (pa_cons (pv 2) (pa_cons (pv 3) pa_nil)))) <|
      pss_cons (ps_set (i := 5) sc_right.nd rfl (.inl rfl) (pe_lst (pa_cons (pv 3) (pa_cons (pe_callTy call_tuple_of (by rfl) T.n_tuple (by decide +kernel) (pa_cons (pv 3) pa_nil)) (pa_cons (pe_lc (own := [("_law_call", 13)]) (g := gName 13) (tt := tYes) (te := tCB (rListOf K) (tCons (tVar 13) tNil)) rfl sc_right.nd (pi_list (pv 3)) (blkOk_by (N := N_right) (sc := (defScope s_right)) (by decide +kernel)) (fun _ _ _ _ _ => (pg_name (i := 13) sc_right.nd rfl (.inl rfl))) (fun _ _ _ _ _ => pts_nil) (fun _ _ _ _ _ => (pe_callTy (r := rListOf K) call_list_of (by rfl) T.n_list (by decide +kernel) (pa_cons (pv 13) pa_nil)))) (pa_cons (pe_lc (own := [("_law_call", 13)]) (g := gName 13) (tt := tYes) (te := tRevS K (tVar 13)) rfl sc_right.nd (pi_list (pv 3)) (blkOk_by (N := N_right) (sc := (defScope s_right)) (by decide +kernel)) (fun _ _ _ _ _ => (pg_name (i := 13) sc_right.nd rfl (.inl rfl))) (fun _ _ _ _ _ => pts_nil) (fun _ _ _ _ _ => (pe_revS (pv 13)))) (pa_cons (pe_revS (pv 3)) (pa_cons (pe_lst pa_nil) (pa_cons (pe_tup pa_nil) pa_nil))))))))) <|
      pss_cons (ps_set (i := 5) sc_right.nd rfl (.inl rfl) (pe_op op_cat (pv 5) (pe_lst (pa_cons pe_non (pa_cons pe_int (pa_cons (pe_tup (pa_cons (pe_tup (pa_cons pe_int (pa_cons pe_int pa_nil))) pa_nil)) (pa_cons (pe_op op_cat (pv 3) (pe_slice sl_list (pv 3) (po_some (pe_un un_neg pe_int)) po_none)) (pa_cons (pe_op op_cat (pv 3) (pe_lst (pa_cons (pe_tup (pa_cons pe_int (pa_cons (pv 1) pa_nil))) pa_nil))) (pa_cons (pe_op op_cat (pv 3) (pe_lst (pa_cons (pe_tup (pa_cons (pe_un un_neg pe_int) (pa_cons pe_int pa_nil))) pa_nil))) pa_nil))))))))) <|
      pss_cons (ps_set (i := 5) sc_right.nd rfl (.inl rfl) (pe_op op_cat (pv 5) (pe_lst (pa_cons (pe_lst (pa_cons (pe_tup (pa_cons pe_int (pa_cons pe_int pa_nil))) pa_nil)) (pa_cons (pe_lst (pa_cons (pe_tup (pa_cons pe_bl (pa_cons pe_bl pa_nil))) pa_nil)) (pa_cons pe_str (pa_cons (pe_lst (pa_cons pe_non pa_nil)) (pa_cons (pe_lst (pa_cons (pe_tup (pa_cons pe_int (pa_cons pe_int pa_nil))) pa_nil)) (pa_cons (pe_lst (pa_cons (pe_tup (pa_cons (pe_op op_sub (pv 1) pe_int) (pa_cons (pe_op op_sub (pv 1) pe_int) pa_nil))) pa_nil)) pa_nil))))))))) <|
      pss_cons (ps_for PassesOwn.never rfl (pi_range1 (by rfl) T.n_range (pa_cons pe_int pa_nil)) (pg_name (i := 6) sc_right.nd rfl (.inl rfl))
        (pss_cons (ps_set (i := 7) sc_right.nd rfl (.inl rfl) (pe_call GB3 h5 (by rfl) T.g_bent T.F_bent.kp T.b_bent .nil pass0 (pa_cons (pv 0) (pa_cons (pv 3) pa_nil)))) <|
      pss_one (ps_expr (pe_bm PySem.F.plainAttrs_list PySem.F.slot_list_append PySem.F.type_list_append mt_append (pv 5) (pa_cons (pe_ifExp (pt_cmpR op_eq (pe_call GT h1 (by rfl) T.g_take T.F_take.kp T.b_take .nil pass0 (pa_cons (pv 0) (pa_cons pe_int pa_nil))) pe_int (nomark _)) (pe_call GB4 h6 (by rfl) T.g_bent T.F_bent.kp T.b_bent .nil pass0 (pa_cons (pv 0) (pa_cons (pv 7) pa_nil))) (pv 7)) pa_nil))))) <|
      pss_cons (ps_for PassesOwn.never rfl (pi_list (pv 5)) (pg_name (i := 8) sc_right.nd rfl (.inl rfl))
        (pss_one (ps_for PassesOwn.never rfl (pi_tup (pe_tup (pa_cons (pv 4) (pa_cons (pv 2) pa_nil)))) (pg_name (i := 9) sc_right.nd rfl (.inl rfl))
        (pss_cons (ps_par (i := 10) (j := 11) (by rfl) sc_right.nd rfl rfl (by decide) rfl rfl (pa_cons (pe_callB (call_reprV hgd hr.units) (by rfl) T.n_repr (by decide +kernel) (pa_cons (pv 8) pa_nil)) (pa_cons (pe_call GI h3 (by rfl) T.g_is_one T.F_is_one.kp T.b_is_one .nil pass0 (pa_cons (pv 2) (pa_cons (pv 9) (pa_cons (pv 8) pa_nil)))) pa_nil)) (by rfl)) <|
      pss_cons (ps_set (i := 12) sc_right.nd rfl (.inl rfl) (pe_lst (pa_cons (pe_call GL h5 (by rfl) T.g_p_leads T.F_p_leads.kp T.b_p_leads .nil pass0 (pa_cons (pv 2) (pa_cons (pv 9) (pa_cons (pv 8) pa_nil)))) (pa_cons (pe_kw (gV := pm210) GL h5 (by rfl) T.g_p_leads T.F_p_leads.kp (kw_p_leads_210 T) (rel_pm210) pass0 (pk_cons (pv 8) (pk_cons (pe_callTy call_list_of (by rfl) T.n_list (by decide +kernel) (pa_cons (pv 9) pa_nil)) (pk_cons (pe_callTy call_list_of (by rfl) T.n_list (by decide +kernel) (pa_cons (pv 2) pa_nil)) pk_nil)))) pa_nil)))) <|
      pss_one (ps_if (PW.pt (pw_or (pt_not (pt_val (pe_call GE h4 (by rfl) T.g_same T.F_same.kp T.b_same .nil pass0 (pa_cons (pv 12) (pa_cons (pe_lst (pa_cons (pv 11) (pa_cons (pv 11) pa_nil))) pa_nil))))) (pw_or1 (pt_cmpR op_ne (pe_callB (call_reprV hgd hr.units) (by rfl) T.n_repr (by decide +kernel) (pa_cons (pv 8) pa_nil)) (pv 10) (nomark _))))) (pss_one (ps_ret pe_bl)) pss_nil))))) <|
      pss_one (ps_ret (pe_cmpR op_isB (pe_call GL h5 (by rfl) T.g_p_leads T.F_p_leads.kp T.b_p_leads .nil pass0 (pa_cons (pv 2) (pa_cons (pv 4) (pa_cons (pv 3) pa_nil)))) pe_bl (nomark _))), ?_⟩
    have xsz : ∀ {m : Nat}, m ≤ 50000 → m ≤ sizeLine := fun h => Nat.le_of_lt (line_big (by omega))
    refine ⟨.ref b, rfl, b, n + 3999, 6, rfl, hB, by decide, by decide, fun r Ha r0 r1 hBa ka => ?_⟩
    refine ⟨2, r, rfl, rfl, .inl ⟨by decide, by decide⟩, 2, _, rfl, rfl, ?_⟩
    have eN : (2 + 2 * r : Int) = ((2 + 2 * r.toNat : Nat) : Int) := by omega
    have hn : 2 + 2 * r.toNat ≤ 12 := by omega
    have hn2 : 2 ≤ 2 + 2 * r.toNat := by omega
    have hev : (2 + 2 * r.toNat) % 2 = 0 := by omega
    rw [show (fun i j => V.int (i + j)) 2 ((fun i j => i * j) 2 r) = V.int ((2 + 2 * r.toNat : Nat) : Int) from congrArg V.int eN]
    revert hn hn2 hev
    generalize 2 + 2 * r.toNat = N
    intro hn hn2 hev
    refine ⟨.ref b, rfl, _, rfl, b, n + 3900, N, rfl, hBa.mono (by omega), hev, by omega, fun Hb tie a ha kb hBb nt et => ?_⟩
    refine ⟨.ref b, rfl, _, rfl, b, n + 3800, N, 8, rfl, hBb.mono (by omega), hn2, by omega, by decide, fun Hc lt as qs hc hql nlt elt hA kc hBc => ⟨_, _, rfl, ?_⟩⟩
    obtain ⟨yb, hyb⟩ := hBb.lst
    have et2 := kc.tup hyb et
    refine ⟨.ref tie, rfl, .ref lt, rfl, tie, lt, as, qs, a, N, rfl, et2, .inl (.inl elt), hA, ha, hc, fun Hm mt sm em => ?_⟩
    have ltb : lt ≠ b := fun z => by rw [z, hyb] at nlt; cases nlt
    have Z : St44 b lt tie mt as qs a (runs qs a) H (n + 3800) Hm := (⟨(ka.trans kb).trans (kc.trans (Keep.of_same sm)), hBc.same sm, sm _ _ elt, prs_same sm hA, sm _ _ et2, em, ltb⟩ : St44 b lt tie mt as qs a (runs qs a) H (n + 3800) Hm)
    have hE := runs_pair qs ha hc
    have hq : ∀ d ∈ qs.map pd, okP d := fun d hd => by
      obtain ⟨p, hp, rfl⟩ := List.mem_map.mp hd
      obtain ⟨h1, h2⟩ := hc p hp
      exact okP_t (by omega) (by omega)
    have hone := one_tour (a := a) hc
    have hN : NiceAll K (fun x => x = b) Hm [] := fun v hv => by simp at hv
    clear et2 elt hA nlt hyb em sm kc hBc kb hBb ka hBa nt et hB
    generalize hee : runs qs a = e at *
    clear hee
    refine ⟨.ref lt, rfl, ?_⟩
    replace hN := hN.snoc (v := .ref lt) (d := .list (qs.map pd)) (.lst (.inl (.inl (off_get (S := fun x => x = b) Z.lb Z.l))) (dpA Z.one Z.A)) (nice_ds hq (by rw [List.length_map]; omega)).1
    refine ⟨.ref lt, rfl, lt, _, rfl, .inl ⟨.inl (.inl Z.l), fun p2 n_p2 => ?_⟩⟩
    have s_ := same_new (o := .tup (as.map V.ref)) n_p2
    have e_p2 : (upd Hm p2 (.tup (as.map V.ref))) p2 = some (.tup (as.map V.ref)) := upd_same
    have b_p2 : p2 ≠ b := (Z.B.ne_new n_p2).symm
    clear n_p2; revert s_ e_p2; generalize upd Hm p2 (.tup (as.map V.ref)) = G1; intro s_ e_p2
    replace Z := Z.same s_; replace hN := hN.mono (off_same s_)
    clear s_
    replace hN := hN.snoc (v := .ref p2) (d := .tuple (qs.map pd)) (.tup (.inl (.inl (off_get (S := fun x => x = b) b_p2 e_p2))) (dpA Z.one Z.A)) (nice_ds hq (by rw [List.length_map]; omega)).2
    refine ⟨_, rfl, lt, rfl, ⟨_, .inl (.inl Z.l)⟩, fun p3 n_p3 => ?_⟩
    have b_p3 : p3 ≠ b := (Z.B.ne_new n_p3).symm
    refine lc_list (xs := as.map V.ref) (fun i H' => Same G1 H' ∧ ∃ vs, H' p3 = some (.lst vs) ∧ vs.length = i ∧ DpAll K (off (fun x => x = b ∨ x = p3) H') vs ((qs.take i).map (fun p : Nat × Nat => PyData.list [.int (p.1 : Int), .int (p.2 : Int)]))) ⟨same_new n_p3, [], upd_same, rfl, .nil⟩ (fun i H' _ h => .inl (.inl (h.1 _ _ Z.l))) (fun i v H' hv h => ?_) (fun H' h => ?_)
    · obtain ⟨sm, vs, eD, hl, hA⟩ := h
      rw [List.getElem?_map] at hv
      obtain ⟨u, eu, rfl⟩ := Option.map_eq_some_iff.mp hv
      obtain ⟨p, ep, hu⟩ := prs_get (prs_same sm Z.A) eu
      have hi : i < as.length := (List.getElem?_eq_some_iff.mp eu).1
      rw [Z.A.length] at hi
      have nb : ∀ {l : Addr}, H' l = none → ¬ (l = b ∨ l = p3) := fun {l} h z => by
        rcases z with z | z
        · obtain ⟨yb, hyb⟩ := (Z.B.same sm).lst
          rw [z, hyb] at h; cases h
        · rw [z, eD] at h; cases h
      refine ⟨rfl, yes_if ⟨_, rfl, u, _, rfl, .inr (.inl (.inl hu)), fun l nl => ?_⟩⟩
      obtain ⟨acc, a1, a2, a3, vs', a4, a5, a6⟩ := dlc (K := K) (v := .ref l) (d := .list [.int (p.1 : Int), .int (p.2 : Int)]) n_p3 sm eD hA (by omega) (same_new nl) (.lst (.inl (.inl (off_get (nb nl) upd_same))) (.cons (.int _) (.cons (.int _) .nil)))
      refine ⟨acc, a1, a2, a3, vs', a4, by omega, ?_⟩
      rw [List.take_add_one, ep, List.map_append]; exact a6
    obtain ⟨s_, vs_p3, e_p3, hl_p3, hA_p3⟩ := h
    rw [List.length_map, Z.A.length, List.take_length] at hA_p3
    rw [List.length_map] at hl_p3
    revert s_ e_p3 hA_p3; generalize H' = G2; intro s_ e_p3 hA_p3
    replace Z := Z.same s_; replace hN := hN.mono (off_same s_)
    replace e_p2 := s_ _ _ e_p2
    clear s_
    clear n_p3
    replace hN := hN.snoc (v := .ref p3) (d := .list (qs.map (fun p : Nat × Nat => PyData.list [.int (p.1 : Int), .int (p.2 : Int)]))) (.lst (.inl (.inl (off_get (S := fun x => x = b) b_p3 e_p3))) (dpa_same off_two hA_p3)) (nice_ds (fun d hd => by obtain ⟨p, hp, rfl⟩ := List.mem_map.mp hd; obtain ⟨h1, h2⟩ := hc p hp; exact okP_l (by omega) (by omega)) (by rw [List.length_map]; omega)).1
    clear hA_p3 hl_p3
    refine ⟨_, rfl, lt, rfl, ⟨_, .inl (.inl Z.l)⟩, fun p4 n_p4 => ?_⟩
    have b_p4 : p4 ≠ b := (Z.B.ne_new n_p4).symm
    refine lc_list (xs := as.map V.ref) (fun i H' => Same G2 H' ∧ ∃ vs, H' p4 = some (.lst vs) ∧ vs.length = i ∧ DpAll K (off (fun x => x = b ∨ x = p4) H') vs ((qs.take i).map (fun p : Nat × Nat => PyData.tuple [.int (p.2 : Int), .int (p.1 : Int)]))) ⟨same_new n_p4, [], upd_same, rfl, .nil⟩ (fun i H' _ h => .inl (.inl (h.1 _ _ Z.l))) (fun i v H' hv h => ?_) (fun H' h => ?_)
    · obtain ⟨sm, vs, eD, hl, hA⟩ := h
      rw [List.getElem?_map] at hv
      obtain ⟨u, eu, rfl⟩ := Option.map_eq_some_iff.mp hv
      obtain ⟨p, ep, hu⟩ := prs_get (prs_same sm Z.A) eu
      have hi : i < as.length := (List.getElem?_eq_some_iff.mp eu).1
      rw [Z.A.length] at hi
      have nb : ∀ {l : Addr}, H' l = none → ¬ (l = b ∨ l = p4) := fun {l} h z => by
        rcases z with z | z
        · obtain ⟨yb, hyb⟩ := (Z.B.same sm).lst
          rw [z, hyb] at h; cases h
        · rw [z, eD] at h; cases h
      refine ⟨rfl, yes_if ⟨_, rfl, u, _, rfl, .inr ⟨.inl (.inl hu), fun l nl => ?_⟩⟩⟩
      obtain ⟨acc, a1, a2, a3, vs', a4, a5, a6⟩ := dlc (K := K) (v := .ref l) (d := .tuple [.int (p.2 : Int), .int (p.1 : Int)]) n_p4 sm eD hA (by omega) (same_new nl) (.tup (.inl (.inl (off_get (nb nl) upd_same))) (.cons (.int _) (.cons (.int _) .nil)))
      refine ⟨acc, a1, a2, a3, vs', a4, by omega, ?_⟩
      rw [List.take_add_one, ep, List.map_append]; exact a6
    obtain ⟨s_, vs_p4, e_p4, hl_p4, hA_p4⟩ := h
    rw [List.length_map, Z.A.length, List.take_length] at hA_p4
    rw [List.length_map] at hl_p4
    revert s_ e_p4 hA_p4; generalize H' = G3; intro s_ e_p4 hA_p4
    replace Z := Z.same s_; replace hN := hN.mono (off_same s_)
    replace e_p2 := s_ _ _ e_p2
    replace e_p3 := s_ _ _ e_p3
    clear s_
    clear n_p4
    replace hN := hN.snoc (v := .ref p4) (d := .list (qs.map (fun p : Nat × Nat => PyData.tuple [.int (p.2 : Int), .int (p.1 : Int)]))) (.lst (.inl (.inl (off_get (S := fun x => x = b) b_p4 e_p4))) (dpa_same off_two hA_p4)) (nice_ds (fun d hd => by obtain ⟨p, hp, rfl⟩ := List.mem_map.mp hd; obtain ⟨h1, h2⟩ := hc p hp; exact okP_t (by omega) (by omega)) (by rw [List.length_map]; omega)).1
    clear hA_p4 hl_p4
    refine ⟨_, rfl, lt, _, rfl, .inl ⟨.inl (.inl Z.l), fun p5 n_p5 => ?_⟩⟩
    have s_ := same_new (o := .lst (as.map V.ref).reverse) n_p5
    have e_p5 : (upd G3 p5 (.lst (as.map V.ref).reverse)) p5 = some (.lst (as.map V.ref).reverse) := upd_same
    have b_p5 : p5 ≠ b := (Z.B.ne_new n_p5).symm
    clear n_p5; revert s_ e_p5; generalize upd G3 p5 (.lst (as.map V.ref).reverse) = G4; intro s_ e_p5
    replace Z := Z.same s_; replace hN := hN.mono (off_same s_)
    replace e_p2 := s_ _ _ e_p2
    replace e_p3 := s_ _ _ e_p3
    replace e_p4 := s_ _ _ e_p4
    clear s_
    replace hN := hN.snoc (v := .ref p5) (d := .list (qs.map pd).reverse) (.lst (.inl (.inl (off_get (S := fun x => x = b) b_p5 e_p5))) (dpa_rev (dpA Z.one Z.A))) (nice_ds (fun d hd => hq d (List.mem_reverse.mp hd)) (by rw [List.length_reverse, List.length_map]; omega)).1
    refine ⟨by show 0 ≤ sizeLine; decide, fun p6 n_p6 => ?_⟩
    have s_ := same_new (o := .lst []) n_p6
    have e_p6 : (upd G4 p6 (.lst [])) p6 = some (.lst []) := upd_same
    have b_p6 : p6 ≠ b := (Z.B.ne_new n_p6).symm
    clear n_p6; revert s_ e_p6; generalize upd G4 p6 (.lst []) = G5; intro s_ e_p6
    replace Z := Z.same s_; replace hN := hN.mono (off_same s_)
    replace e_p2 := s_ _ _ e_p2
    replace e_p3 := s_ _ _ e_p3
    replace e_p4 := s_ _ _ e_p4
    replace e_p5 := s_ _ _ e_p5
    clear s_
    replace hN := hN.snoc (v := .ref p6) (d := .list []) (.lst (.inl (.inl (off_get (S := fun x => x = b) b_p6 e_p6))) .nil) (nice_ds (fun d hd => by simp at hd) (by decide)).1
    refine ⟨by show 0 ≤ sizeLine; decide, fun p7 n_p7 => ?_⟩
    have s_ := same_new (o := .tup []) n_p7
    have e_p7 : (upd G5 p7 (.tup [])) p7 = some (.tup []) := upd_same
    have b_p7 : p7 ≠ b := (Z.B.ne_new n_p7).symm
    clear n_p7; revert s_ e_p7; generalize upd G5 p7 (.tup []) = G6; intro s_ e_p7
    replace Z := Z.same s_; replace hN := hN.mono (off_same s_)
    replace e_p2 := s_ _ _ e_p2
    replace e_p3 := s_ _ _ e_p3
    replace e_p4 := s_ _ _ e_p4
    replace e_p5 := s_ _ _ e_p5
    replace e_p6 := s_ _ _ e_p6
    clear s_
    replace hN := hN.snoc (v := .ref p7) (d := .tuple []) (.tup (.inl (.inl (off_get (S := fun x => x = b) b_p7 e_p7))) .nil) (nice_ds (fun d hd => by simp at hd) (by decide)).2
    refine ⟨by show 7 ≤ sizeLine; decide, fun l7 n_l7 => ?_⟩
    have s_ := same_new (o := .lst [.ref lt, .ref p2, .ref p3, .ref p4, .ref p5, .ref p6, .ref p7]) n_l7
    have e_l7 : (upd G6 l7 (.lst [.ref lt, .ref p2, .ref p3, .ref p4, .ref p5, .ref p6, .ref p7])) l7 = some (.lst [.ref lt, .ref p2, .ref p3, .ref p4, .ref p5, .ref p6, .ref p7]) := upd_same
    have b_l7 : l7 ≠ b := (Z.B.ne_new n_l7).symm
    clear n_l7; revert s_ e_l7; generalize upd G6 l7 (.lst [.ref lt, .ref p2, .ref p3, .ref p4, .ref p5, .ref p6, .ref p7]) = G7; intro s_ e_l7
    replace Z := Z.same s_; replace hN := hN.mono (off_same s_)
    replace e_p2 := s_ _ _ e_p2
    replace e_p3 := s_ _ _ e_p3
    replace e_p4 := s_ _ _ e_p4
    replace e_p5 := s_ _ _ e_p5
    replace e_p6 := s_ _ _ e_p6
    replace e_p7 := s_ _ _ e_p7
    clear s_
    replace hN := hN.snoc (v := .non) (d := .none) (.non) ⟨trivial, by decide, by decide⟩
    replace hN := hN.snoc (v := .int 0) (d := .int 0) (.int 0) ⟨by show (0 : Int).natAbs ≤ 2 ^ 100 + 2; decide, by decide, by decide⟩
    refine ⟨.ref l7, rfl, ?_⟩
    refine ⟨by show 2 ≤ sizeLine; decide, fun q1 n_q1 => ?_⟩
    have s_ := same_new (o := .tup [.int 0, .int 1]) n_q1
    have e_q1 : (upd G7 q1 (.tup [.int 0, .int 1])) q1 = some (.tup [.int 0, .int 1]) := upd_same
    have b_q1 : q1 ≠ b := (Z.B.ne_new n_q1).symm
    clear n_q1; revert s_ e_q1; generalize upd G7 q1 (.tup [.int 0, .int 1]) = G8; intro s_ e_q1
    replace Z := Z.same s_; replace hN := hN.mono (off_same s_)
    replace e_p2 := s_ _ _ e_p2
    replace e_p3 := s_ _ _ e_p3
    replace e_p4 := s_ _ _ e_p4
    replace e_p5 := s_ _ _ e_p5
    replace e_p6 := s_ _ _ e_p6
    replace e_p7 := s_ _ _ e_p7
    replace e_l7 := s_ _ _ e_l7
    clear s_
    refine ⟨by show 1 ≤ sizeLine; decide, fun q2 n_q2 => ?_⟩
    have s_ := same_new (o := .tup [.ref q1]) n_q2
    have e_q2 : (upd G8 q2 (.tup [.ref q1])) q2 = some (.tup [.ref q1]) := upd_same
    have b_q2 : q2 ≠ b := (Z.B.ne_new n_q2).symm
    clear n_q2; revert s_ e_q2; generalize upd G8 q2 (.tup [.ref q1]) = G9; intro s_ e_q2
    replace Z := Z.same s_; replace hN := hN.mono (off_same s_)
    replace e_p2 := s_ _ _ e_p2
    replace e_p3 := s_ _ _ e_p3
    replace e_p4 := s_ _ _ e_p4
    replace e_p5 := s_ _ _ e_p5
    replace e_p6 := s_ _ _ e_p6
    replace e_p7 := s_ _ _ e_p7
    replace e_l7 := s_ _ _ e_l7
    replace e_q1 := s_ _ _ e_q1
    clear s_
    replace hN := hN.snoc (v := .ref q2) (d := .tuple [.tuple [.int 0, .int 1]]) (.tup (.inl (.inl (off_get (S := fun x => x = b) b_q2 e_q2))) (.cons (.tup (.inl (.inl (off_get (S := fun x => x = b) b_q1 e_q1))) (.cons (.int _) (.cons (.int _) .nil))) .nil)) (nice_ds (fun d hd => by rw [List.mem_singleton.mp hd]; exact okP_t (i := 0) (j := 1) (by decide) (by decide)) (by decide)).2
    obtain ⟨c1, c2, hcut⟩ : ∃ i j : Nat, cutV (as.map V.ref) (some (-1)) none = ((as.map V.ref).drop i).take j := ⟨_, _, rfl⟩
    refine ⟨.ref lt, rfl, .ref lt, rfl, 1, rfl, _, rfl, lt, _, rfl, .inl (.inl Z.l), ?_⟩
    rw [show (-(1 : Int)) = -1 from rfl, hcut]
    refine fun q3 n_q3 => ?_
    have s_ := same_new (o := .lst (((as.map V.ref).drop c1).take c2)) n_q3
    have e_q3 : (upd G9 q3 (.lst (((as.map V.ref).drop c1).take c2))) q3 = some (.lst (((as.map V.ref).drop c1).take c2)) := upd_same
    have b_q3 : q3 ≠ b := (Z.B.ne_new n_q3).symm
    clear n_q3; revert s_ e_q3; generalize upd G9 q3 (.lst (((as.map V.ref).drop c1).take c2)) = G10; intro s_ e_q3
    replace Z := Z.same s_; replace hN := hN.mono (off_same s_)
    replace e_p2 := s_ _ _ e_p2
    replace e_p3 := s_ _ _ e_p3
    replace e_p4 := s_ _ _ e_p4
    replace e_p5 := s_ _ _ e_p5
    replace e_p6 := s_ _ _ e_p6
    replace e_p7 := s_ _ _ e_p7
    replace e_l7 := s_ _ _ e_l7
    replace e_q1 := s_ _ _ e_q1
    replace e_q2 := s_ _ _ e_q2
    clear s_
    have h36 : (((as.map V.ref).drop c1).take c2).length ≤ 8 := by rw [List.length_take, List.length_drop, List.length_map, Z.A.length]; omega
    refine ⟨lt, q3, _, _, rfl, rfl, Z.l, e_q3, xsz (by rw [List.length_map, Z.A.length]; omega), fun q4 n_q4 => ?_⟩
    have s_ := same_new (o := .lst (as.map V.ref ++ ((as.map V.ref).drop c1).take c2)) n_q4
    have e_q4 : (upd G10 q4 (.lst (as.map V.ref ++ ((as.map V.ref).drop c1).take c2))) q4 = some (.lst (as.map V.ref ++ ((as.map V.ref).drop c1).take c2)) := upd_same
    have b_q4 : q4 ≠ b := (Z.B.ne_new n_q4).symm
    clear n_q4; revert s_ e_q4; generalize upd G10 q4 (.lst (as.map V.ref ++ ((as.map V.ref).drop c1).take c2)) = G11; intro s_ e_q4
    replace Z := Z.same s_; replace hN := hN.mono (off_same s_)
    replace e_p2 := s_ _ _ e_p2
    replace e_p3 := s_ _ _ e_p3
    replace e_p4 := s_ _ _ e_p4
    replace e_p5 := s_ _ _ e_p5
    replace e_p6 := s_ _ _ e_p6
    replace e_p7 := s_ _ _ e_p7
    replace e_l7 := s_ _ _ e_l7
    replace e_q1 := s_ _ _ e_q1
    replace e_q2 := s_ _ _ e_q2
    replace e_q3 := s_ _ _ e_q3
    clear s_
    replace hN := hN.snoc (v := .ref q4) (d := .list (qs.map pd ++ ((qs.map pd).drop c1).take c2)) (.lst (.inl (.inl (off_get (S := fun x => x = b) b_q4 e_q4))) (dpa_app (dpA Z.one Z.A) (dpa_take c2 (dpa_drop c1 (dpA Z.one Z.A))))) (nice_ds (fun d hd => (List.mem_append.mp hd).elim (hq d) fun z => hq d (List.mem_of_mem_drop (List.mem_of_mem_take z))) (by rw [List.length_append, List.length_take, List.length_drop, List.length_map]; omega)).1
    refine ⟨.ref lt, rfl, _, rfl, by show 2 ≤ sizeLine; decide, fun q5 n_q5 => ?_⟩
    have s_ := same_new (o := .tup [.int 0, .int (N : Nat)]) n_q5
    have e_q5 : (upd G11 q5 (.tup [.int 0, .int (N : Nat)])) q5 = some (.tup [.int 0, .int (N : Nat)]) := upd_same
    have b_q5 : q5 ≠ b := (Z.B.ne_new n_q5).symm
    clear n_q5; revert s_ e_q5; generalize upd G11 q5 (.tup [.int 0, .int (N : Nat)]) = G12; intro s_ e_q5
    replace Z := Z.same s_; replace hN := hN.mono (off_same s_)
    replace e_p2 := s_ _ _ e_p2
    replace e_p3 := s_ _ _ e_p3
    replace e_p4 := s_ _ _ e_p4
    replace e_p5 := s_ _ _ e_p5
    replace e_p6 := s_ _ _ e_p6
    replace e_p7 := s_ _ _ e_p7
    replace e_l7 := s_ _ _ e_l7
    replace e_q1 := s_ _ _ e_q1
    replace e_q2 := s_ _ _ e_q2
    replace e_q3 := s_ _ _ e_q3
    replace e_q4 := s_ _ _ e_q4
    clear s_
    refine ⟨by show 1 ≤ sizeLine; decide, fun q6 n_q6 => ?_⟩
    have s_ := same_new (o := .lst [.ref q5]) n_q6
    have e_q6 : (upd G12 q6 (.lst [.ref q5])) q6 = some (.lst [.ref q5]) := upd_same
    have b_q6 : q6 ≠ b := (Z.B.ne_new n_q6).symm
    clear n_q6; revert s_ e_q6; generalize upd G12 q6 (.lst [.ref q5]) = G13; intro s_ e_q6
    replace Z := Z.same s_; replace hN := hN.mono (off_same s_)
    replace e_p2 := s_ _ _ e_p2
    replace e_p3 := s_ _ _ e_p3
    replace e_p4 := s_ _ _ e_p4
    replace e_p5 := s_ _ _ e_p5
    replace e_p6 := s_ _ _ e_p6
    replace e_p7 := s_ _ _ e_p7
    replace e_l7 := s_ _ _ e_l7
    replace e_q1 := s_ _ _ e_q1
    replace e_q2 := s_ _ _ e_q2
    replace e_q3 := s_ _ _ e_q3
    replace e_q4 := s_ _ _ e_q4
    replace e_q5 := s_ _ _ e_q5
    clear s_
    refine ⟨lt, q6, _, _, rfl, rfl, Z.l, e_q6, xsz (by rw [List.length_map, Z.A.length]; show _ + 1 ≤ _; omega), fun q7 n_q7 => ?_⟩
    have s_ := same_new (o := .lst (as.map V.ref ++ [.ref q5])) n_q7
    have e_q7 : (upd G13 q7 (.lst (as.map V.ref ++ [.ref q5]))) q7 = some (.lst (as.map V.ref ++ [.ref q5])) := upd_same
    have b_q7 : q7 ≠ b := (Z.B.ne_new n_q7).symm
    clear n_q7; revert s_ e_q7; generalize upd G13 q7 (.lst (as.map V.ref ++ [.ref q5])) = G14; intro s_ e_q7
    replace Z := Z.same s_; replace hN := hN.mono (off_same s_)
    replace e_p2 := s_ _ _ e_p2
    replace e_p3 := s_ _ _ e_p3
    replace e_p4 := s_ _ _ e_p4
    replace e_p5 := s_ _ _ e_p5
    replace e_p6 := s_ _ _ e_p6
    replace e_p7 := s_ _ _ e_p7
    replace e_l7 := s_ _ _ e_l7
    replace e_q1 := s_ _ _ e_q1
    replace e_q2 := s_ _ _ e_q2
    replace e_q3 := s_ _ _ e_q3
    replace e_q4 := s_ _ _ e_q4
    replace e_q5 := s_ _ _ e_q5
    replace e_q6 := s_ _ _ e_q6
    clear s_
    replace hN := hN.snoc (v := .ref q7) (d := .list (qs.map pd ++ [.tuple [.int 0, .int (N : Nat)]])) (.lst (.inl (.inl (off_get (S := fun x => x = b) b_q7 e_q7))) (dpa_app (dpA Z.one Z.A) (.cons (.tup (.inl (.inl (off_get (S := fun x => x = b) b_q5 e_q5))) (.cons (.int _) (.cons (.int _) .nil))) .nil))) (nice_ds (fun d hd => (List.mem_append.mp hd).elim (hq d) fun z => by rw [List.mem_singleton.mp z]; exact okP_t (i := 0) (j := N) (by decide) (by omega)) (by rw [List.length_append, List.length_map]; show _ + 1 ≤ 60; omega)).1
    refine ⟨.ref lt, rfl, 1, rfl, by show 2 ≤ sizeLine; decide, fun q8 n_q8 => ?_⟩
    have s_ := same_new (o := .tup [.int (-1), .int 0]) n_q8
    have e_q8 : (upd G14 q8 (.tup [.int (-1), .int 0])) q8 = some (.tup [.int (-1), .int 0]) := upd_same
    have b_q8 : q8 ≠ b := (Z.B.ne_new n_q8).symm
    clear n_q8; revert s_ e_q8; generalize upd G14 q8 (.tup [.int (-1), .int 0]) = G15; intro s_ e_q8
    replace Z := Z.same s_; replace hN := hN.mono (off_same s_)
    replace e_p2 := s_ _ _ e_p2
    replace e_p3 := s_ _ _ e_p3
    replace e_p4 := s_ _ _ e_p4
    replace e_p5 := s_ _ _ e_p5
    replace e_p6 := s_ _ _ e_p6
    replace e_p7 := s_ _ _ e_p7
    replace e_l7 := s_ _ _ e_l7
    replace e_q1 := s_ _ _ e_q1
    replace e_q2 := s_ _ _ e_q2
    replace e_q3 := s_ _ _ e_q3
    replace e_q4 := s_ _ _ e_q4
    replace e_q5 := s_ _ _ e_q5
    replace e_q6 := s_ _ _ e_q6
    replace e_q7 := s_ _ _ e_q7
    clear s_
    refine ⟨by show 1 ≤ sizeLine; decide, fun q9 n_q9 => ?_⟩
    have s_ := same_new (o := .lst [.ref q8]) n_q9
    have e_q9 : (upd G15 q9 (.lst [.ref q8])) q9 = some (.lst [.ref q8]) := upd_same
    have b_q9 : q9 ≠ b := (Z.B.ne_new n_q9).symm
    clear n_q9; revert s_ e_q9; generalize upd G15 q9 (.lst [.ref q8]) = G16; intro s_ e_q9
    replace Z := Z.same s_; replace hN := hN.mono (off_same s_)
    replace e_p2 := s_ _ _ e_p2
    replace e_p3 := s_ _ _ e_p3
    replace e_p4 := s_ _ _ e_p4
    replace e_p5 := s_ _ _ e_p5
    replace e_p6 := s_ _ _ e_p6
    replace e_p7 := s_ _ _ e_p7
    replace e_l7 := s_ _ _ e_l7
    replace e_q1 := s_ _ _ e_q1
    replace e_q2 := s_ _ _ e_q2
    replace e_q3 := s_ _ _ e_q3
    replace e_q4 := s_ _ _ e_q4
    replace e_q5 := s_ _ _ e_q5
    replace e_q6 := s_ _ _ e_q6
    replace e_q7 := s_ _ _ e_q7
    replace e_q8 := s_ _ _ e_q8
    clear s_
    refine ⟨lt, q9, _, _, rfl, rfl, Z.l, e_q9, xsz (by rw [List.length_map, Z.A.length]; show _ + 1 ≤ _; omega), fun qa n_qa => ?_⟩
    have s_ := same_new (o := .lst (as.map V.ref ++ [.ref q8])) n_qa
    have e_qa : (upd G16 qa (.lst (as.map V.ref ++ [.ref q8]))) qa = some (.lst (as.map V.ref ++ [.ref q8])) := upd_same
    have b_qa : qa ≠ b := (Z.B.ne_new n_qa).symm
    clear n_qa; revert s_ e_qa; generalize upd G16 qa (.lst (as.map V.ref ++ [.ref q8])) = G17; intro s_ e_qa
    replace Z := Z.same s_; replace hN := hN.mono (off_same s_)
    replace e_p2 := s_ _ _ e_p2
    replace e_p3 := s_ _ _ e_p3
    replace e_p4 := s_ _ _ e_p4
    replace e_p5 := s_ _ _ e_p5
    replace e_p6 := s_ _ _ e_p6
    replace e_p7 := s_ _ _ e_p7
    replace e_l7 := s_ _ _ e_l7
    replace e_q1 := s_ _ _ e_q1
    replace e_q2 := s_ _ _ e_q2
    replace e_q3 := s_ _ _ e_q3
    replace e_q4 := s_ _ _ e_q4
    replace e_q5 := s_ _ _ e_q5
    replace e_q6 := s_ _ _ e_q6
    replace e_q7 := s_ _ _ e_q7
    replace e_q8 := s_ _ _ e_q8
    replace e_q9 := s_ _ _ e_q9
    clear s_
    replace hN := hN.snoc (v := .ref qa) (d := .list (qs.map pd ++ [.tuple [.int (-1), .int 0]])) (.lst (.inl (.inl (off_get (S := fun x => x = b) b_qa e_qa))) (dpa_app (dpA Z.one Z.A) (.cons (.tup (.inl (.inl (off_get (S := fun x => x = b) b_q8 e_q8))) (.cons (.int _) (.cons (.int _) .nil))) .nil))) (nice_ds (fun d hd => (List.mem_append.mp hd).elim (hq d) fun z => by rw [List.mem_singleton.mp z]; exact okP_neg) (by rw [List.length_append, List.length_map]; show _ + 1 ≤ 60; omega)).1
    refine ⟨by show 6 ≤ sizeLine; decide, fun l6 n_l6 => ?_⟩
    have s_ := same_new (o := .lst [.non, .int 0, .ref q2, .ref q4, .ref q7, .ref qa]) n_l6
    have e_l6 : (upd G17 l6 (.lst [.non, .int 0, .ref q2, .ref q4, .ref q7, .ref qa])) l6 = some (.lst [.non, .int 0, .ref q2, .ref q4, .ref q7, .ref qa]) := upd_same
    have b_l6 : l6 ≠ b := (Z.B.ne_new n_l6).symm
    clear n_l6; revert s_ e_l6; generalize upd G17 l6 (.lst [.non, .int 0, .ref q2, .ref q4, .ref q7, .ref qa]) = G18; intro s_ e_l6
    replace Z := Z.same s_; replace hN := hN.mono (off_same s_)
    replace e_p2 := s_ _ _ e_p2
    replace e_p3 := s_ _ _ e_p3
    replace e_p4 := s_ _ _ e_p4
    replace e_p5 := s_ _ _ e_p5
    replace e_p6 := s_ _ _ e_p6
    replace e_p7 := s_ _ _ e_p7
    replace e_l7 := s_ _ _ e_l7
    replace e_q1 := s_ _ _ e_q1
    replace e_q2 := s_ _ _ e_q2
    replace e_q3 := s_ _ _ e_q3
    replace e_q4 := s_ _ _ e_q4
    replace e_q5 := s_ _ _ e_q5
    replace e_q6 := s_ _ _ e_q6
    replace e_q7 := s_ _ _ e_q7
    replace e_q8 := s_ _ _ e_q8
    replace e_q9 := s_ _ _ e_q9
    replace e_qa := s_ _ _ e_qa
    clear s_
    refine ⟨l7, l6, _, _, rfl, rfl, e_l7, e_l6, xsz (by show 7 + 6 ≤ _; decide), fun l13 n_l13 => ?_⟩
    have s_ := same_new (o := .lst ([V.ref lt, V.ref p2, V.ref p3, V.ref p4, V.ref p5, V.ref p6, V.ref p7] ++ [V.non, V.int 0, V.ref q2, V.ref q4, V.ref q7, V.ref qa])) n_l13
    have e_l13 : (upd G18 l13 (.lst ([V.ref lt, V.ref p2, V.ref p3, V.ref p4, V.ref p5, V.ref p6, V.ref p7] ++ [V.non, V.int 0, V.ref q2, V.ref q4, V.ref q7, V.ref qa]))) l13 = some (.lst ([V.ref lt, V.ref p2, V.ref p3, V.ref p4, V.ref p5, V.ref p6, V.ref p7] ++ [V.non, V.int 0, V.ref q2, V.ref q4, V.ref q7, V.ref qa])) := upd_same
    have b_l13 : l13 ≠ b := (Z.B.ne_new n_l13).symm
    clear n_l13; revert s_ e_l13; generalize upd G18 l13 (.lst ([V.ref lt, V.ref p2, V.ref p3, V.ref p4, V.ref p5, V.ref p6, V.ref p7] ++ [V.non, V.int 0, V.ref q2, V.ref q4, V.ref q7, V.ref qa])) = G19; intro s_ e_l13
    replace Z := Z.same s_; replace hN := hN.mono (off_same s_)
    replace e_p2 := s_ _ _ e_p2
    replace e_p3 := s_ _ _ e_p3
    replace e_p4 := s_ _ _ e_p4
    replace e_p5 := s_ _ _ e_p5
    replace e_p6 := s_ _ _ e_p6
    replace e_p7 := s_ _ _ e_p7
    replace e_l7 := s_ _ _ e_l7
    replace e_q1 := s_ _ _ e_q1
    replace e_q2 := s_ _ _ e_q2
    replace e_q3 := s_ _ _ e_q3
    replace e_q4 := s_ _ _ e_q4
    replace e_q5 := s_ _ _ e_q5
    replace e_q6 := s_ _ _ e_q6
    replace e_q7 := s_ _ _ e_q7
    replace e_q8 := s_ _ _ e_q8
    replace e_q9 := s_ _ _ e_q9
    replace e_qa := s_ _ _ e_qa
    replace e_l6 := s_ _ _ e_l6
    clear s_
    refine ⟨.ref l13, rfl, ?_⟩
    refine ⟨by show 2 ≤ sizeLine; decide, fun r1 n_r1 => ?_⟩
    have s_ := same_new (o := .tup [.int 0, .int 1]) n_r1
    have e_r1 : (upd G19 r1 (.tup [.int 0, .int 1])) r1 = some (.tup [.int 0, .int 1]) := upd_same
    have b_r1 : r1 ≠ b := (Z.B.ne_new n_r1).symm
    clear n_r1; revert s_ e_r1; generalize upd G19 r1 (.tup [.int 0, .int 1]) = G20; intro s_ e_r1
    replace Z := Z.same s_; replace hN := hN.mono (off_same s_)
    replace e_p2 := s_ _ _ e_p2
    replace e_p3 := s_ _ _ e_p3
    replace e_p4 := s_ _ _ e_p4
    replace e_p5 := s_ _ _ e_p5
    replace e_p6 := s_ _ _ e_p6
    replace e_p7 := s_ _ _ e_p7
    replace e_l7 := s_ _ _ e_l7
    replace e_q1 := s_ _ _ e_q1
    replace e_q2 := s_ _ _ e_q2
    replace e_q3 := s_ _ _ e_q3
    replace e_q4 := s_ _ _ e_q4
    replace e_q5 := s_ _ _ e_q5
    replace e_q6 := s_ _ _ e_q6
    replace e_q7 := s_ _ _ e_q7
    replace e_q8 := s_ _ _ e_q8
    replace e_q9 := s_ _ _ e_q9
    replace e_qa := s_ _ _ e_qa
    replace e_l6 := s_ _ _ e_l6
    replace e_l13 := s_ _ _ e_l13
    clear s_
    refine ⟨by show 1 ≤ sizeLine; decide, fun r2 n_r2 => ?_⟩
    have s_ := same_new (o := .lst [.ref r1]) n_r2
    have e_r2 : (upd G20 r2 (.lst [.ref r1])) r2 = some (.lst [.ref r1]) := upd_same
    have b_r2 : r2 ≠ b := (Z.B.ne_new n_r2).symm
    clear n_r2; revert s_ e_r2; generalize upd G20 r2 (.lst [.ref r1]) = G21; intro s_ e_r2
    replace Z := Z.same s_; replace hN := hN.mono (off_same s_)
    replace e_p2 := s_ _ _ e_p2
    replace e_p3 := s_ _ _ e_p3
    replace e_p4 := s_ _ _ e_p4
    replace e_p5 := s_ _ _ e_p5
    replace e_p6 := s_ _ _ e_p6
    replace e_p7 := s_ _ _ e_p7
    replace e_l7 := s_ _ _ e_l7
    replace e_q1 := s_ _ _ e_q1
    replace e_q2 := s_ _ _ e_q2
    replace e_q3 := s_ _ _ e_q3
    replace e_q4 := s_ _ _ e_q4
    replace e_q5 := s_ _ _ e_q5
    replace e_q6 := s_ _ _ e_q6
    replace e_q7 := s_ _ _ e_q7
    replace e_q8 := s_ _ _ e_q8
    replace e_q9 := s_ _ _ e_q9
    replace e_qa := s_ _ _ e_qa
    replace e_l6 := s_ _ _ e_l6
    replace e_l13 := s_ _ _ e_l13
    replace e_r1 := s_ _ _ e_r1
    clear s_
    replace hN := hN.snoc (v := .ref r2) (d := .list [.tuple [.int 0, .int 1]]) (.lst (.inl (.inl (off_get (S := fun x => x = b) b_r2 e_r2))) (.cons (.tup (.inl (.inl (off_get (S := fun x => x = b) b_r1 e_r1))) (.cons (.int _) (.cons (.int _) .nil))) .nil)) (nice_ds (fun d hd => by rw [List.mem_singleton.mp hd]; exact okP_t (i := 0) (j := 1) (by decide) (by decide)) (by show 1 ≤ 60; decide)).1
    refine ⟨by show 2 ≤ sizeLine; decide, fun r3 n_r3 => ?_⟩
    have s_ := same_new (o := .tup [.bl false, .bl true]) n_r3
    have e_r3 : (upd G21 r3 (.tup [.bl false, .bl true])) r3 = some (.tup [.bl false, .bl true]) := upd_same
    have b_r3 : r3 ≠ b := (Z.B.ne_new n_r3).symm
    clear n_r3; revert s_ e_r3; generalize upd G21 r3 (.tup [.bl false, .bl true]) = G22; intro s_ e_r3
    replace Z := Z.same s_; replace hN := hN.mono (off_same s_)
    replace e_p2 := s_ _ _ e_p2
    replace e_p3 := s_ _ _ e_p3
    replace e_p4 := s_ _ _ e_p4
    replace e_p5 := s_ _ _ e_p5
    replace e_p6 := s_ _ _ e_p6
    replace e_p7 := s_ _ _ e_p7
    replace e_l7 := s_ _ _ e_l7
    replace e_q1 := s_ _ _ e_q1
    replace e_q2 := s_ _ _ e_q2
    replace e_q3 := s_ _ _ e_q3
    replace e_q4 := s_ _ _ e_q4
    replace e_q5 := s_ _ _ e_q5
    replace e_q6 := s_ _ _ e_q6
    replace e_q7 := s_ _ _ e_q7
    replace e_q8 := s_ _ _ e_q8
    replace e_q9 := s_ _ _ e_q9
    replace e_qa := s_ _ _ e_qa
    replace e_l6 := s_ _ _ e_l6
    replace e_l13 := s_ _ _ e_l13
    replace e_r1 := s_ _ _ e_r1
    replace e_r2 := s_ _ _ e_r2
    clear s_
    refine ⟨by show 1 ≤ sizeLine; decide, fun r4 n_r4 => ?_⟩
    have s_ := same_new (o := .lst [.ref r3]) n_r4
    have e_r4 : (upd G22 r4 (.lst [.ref r3])) r4 = some (.lst [.ref r3]) := upd_same
    have b_r4 : r4 ≠ b := (Z.B.ne_new n_r4).symm
    clear n_r4; revert s_ e_r4; generalize upd G22 r4 (.lst [.ref r3]) = G23; intro s_ e_r4
    replace Z := Z.same s_; replace hN := hN.mono (off_same s_)
    replace e_p2 := s_ _ _ e_p2
    replace e_p3 := s_ _ _ e_p3
    replace e_p4 := s_ _ _ e_p4
    replace e_p5 := s_ _ _ e_p5
    replace e_p6 := s_ _ _ e_p6
    replace e_p7 := s_ _ _ e_p7
    replace e_l7 := s_ _ _ e_l7
    replace e_q1 := s_ _ _ e_q1
    replace e_q2 := s_ _ _ e_q2
    replace e_q3 := s_ _ _ e_q3
    replace e_q4 := s_ _ _ e_q4
    replace e_q5 := s_ _ _ e_q5
    replace e_q6 := s_ _ _ e_q6
    replace e_q7 := s_ _ _ e_q7
    replace e_q8 := s_ _ _ e_q8
    replace e_q9 := s_ _ _ e_q9
    replace e_qa := s_ _ _ e_qa
    replace e_l6 := s_ _ _ e_l6
    replace e_l13 := s_ _ _ e_l13
    replace e_r1 := s_ _ _ e_r1
    replace e_r2 := s_ _ _ e_r2
    replace e_r3 := s_ _ _ e_r3
    clear s_
    replace hN := hN.snoc (v := .ref r4) (d := .list [.tuple [.bool false, .bool true]]) (.lst (.inl (.inl (off_get (S := fun x => x = b) b_r4 e_r4))) (.cons (.tup (.inl (.inl (off_get (S := fun x => x = b) b_r3 e_r3))) (.cons (.bl _) (.cons (.bl _) .nil))) .nil)) (nice_ds (fun d hd => by rw [List.mem_singleton.mp hd]; exact okP_ft) (by show 1 ≤ 60; decide)).1
    replace hN := hN.snoc (v := .str "") (d := .str "") (.str _) ⟨strOk_of "", by decide, by decide⟩
    refine ⟨by show 1 ≤ sizeLine; decide, fun r5 n_r5 => ?_⟩
    have s_ := same_new (o := .lst [.non]) n_r5
    have e_r5 : (upd G23 r5 (.lst [.non])) r5 = some (.lst [.non]) := upd_same
    have b_r5 : r5 ≠ b := (Z.B.ne_new n_r5).symm
    clear n_r5; revert s_ e_r5; generalize upd G23 r5 (.lst [.non]) = G24; intro s_ e_r5
    replace Z := Z.same s_; replace hN := hN.mono (off_same s_)
    replace e_p2 := s_ _ _ e_p2
    replace e_p3 := s_ _ _ e_p3
    replace e_p4 := s_ _ _ e_p4
    replace e_p5 := s_ _ _ e_p5
    replace e_p6 := s_ _ _ e_p6
    replace e_p7 := s_ _ _ e_p7
    replace e_l7 := s_ _ _ e_l7
    replace e_q1 := s_ _ _ e_q1
    replace e_q2 := s_ _ _ e_q2
    replace e_q3 := s_ _ _ e_q3
    replace e_q4 := s_ _ _ e_q4
    replace e_q5 := s_ _ _ e_q5
    replace e_q6 := s_ _ _ e_q6
    replace e_q7 := s_ _ _ e_q7
    replace e_q8 := s_ _ _ e_q8
    replace e_q9 := s_ _ _ e_q9
    replace e_qa := s_ _ _ e_qa
    replace e_l6 := s_ _ _ e_l6
    replace e_l13 := s_ _ _ e_l13
    replace e_r1 := s_ _ _ e_r1
    replace e_r2 := s_ _ _ e_r2
    replace e_r3 := s_ _ _ e_r3
    replace e_r4 := s_ _ _ e_r4
    clear s_
    replace hN := hN.snoc (v := .ref r5) (d := .list [.none]) (.lst (.inl (.inl (off_get (S := fun x => x = b) b_r5 e_r5))) (.cons .non .nil)) (nice_ds (fun d hd => by rw [List.mem_singleton.mp hd]; exact okP_non) (by decide)).1
    refine ⟨by show 2 ≤ sizeLine; decide, fun r6 n_r6 => ?_⟩
    have s_ := same_new (o := .tup [.int 0, .int 0]) n_r6
    have e_r6 : (upd G24 r6 (.tup [.int 0, .int 0])) r6 = some (.tup [.int 0, .int 0]) := upd_same
    have b_r6 : r6 ≠ b := (Z.B.ne_new n_r6).symm
    clear n_r6; revert s_ e_r6; generalize upd G24 r6 (.tup [.int 0, .int 0]) = G25; intro s_ e_r6
    replace Z := Z.same s_; replace hN := hN.mono (off_same s_)
    replace e_p2 := s_ _ _ e_p2
    replace e_p3 := s_ _ _ e_p3
    replace e_p4 := s_ _ _ e_p4
    replace e_p5 := s_ _ _ e_p5
    replace e_p6 := s_ _ _ e_p6
    replace e_p7 := s_ _ _ e_p7
    replace e_l7 := s_ _ _ e_l7
    replace e_q1 := s_ _ _ e_q1
    replace e_q2 := s_ _ _ e_q2
    replace e_q3 := s_ _ _ e_q3
    replace e_q4 := s_ _ _ e_q4
    replace e_q5 := s_ _ _ e_q5
    replace e_q6 := s_ _ _ e_q6
    replace e_q7 := s_ _ _ e_q7
    replace e_q8 := s_ _ _ e_q8
    replace e_q9 := s_ _ _ e_q9
    replace e_qa := s_ _ _ e_qa
    replace e_l6 := s_ _ _ e_l6
    replace e_l13 := s_ _ _ e_l13
    replace e_r1 := s_ _ _ e_r1
    replace e_r2 := s_ _ _ e_r2
    replace e_r3 := s_ _ _ e_r3
    replace e_r4 := s_ _ _ e_r4
    replace e_r5 := s_ _ _ e_r5
    clear s_
    refine ⟨by show 1 ≤ sizeLine; decide, fun r7 n_r7 => ?_⟩
    have s_ := same_new (o := .lst [.ref r6]) n_r7
    have e_r7 : (upd G25 r7 (.lst [.ref r6])) r7 = some (.lst [.ref r6]) := upd_same
    have b_r7 : r7 ≠ b := (Z.B.ne_new n_r7).symm
    clear n_r7; revert s_ e_r7; generalize upd G25 r7 (.lst [.ref r6]) = G26; intro s_ e_r7
    replace Z := Z.same s_; replace hN := hN.mono (off_same s_)
    replace e_p2 := s_ _ _ e_p2
    replace e_p3 := s_ _ _ e_p3
    replace e_p4 := s_ _ _ e_p4
    replace e_p5 := s_ _ _ e_p5
    replace e_p6 := s_ _ _ e_p6
    replace e_p7 := s_ _ _ e_p7
    replace e_l7 := s_ _ _ e_l7
    replace e_q1 := s_ _ _ e_q1
    replace e_q2 := s_ _ _ e_q2
    replace e_q3 := s_ _ _ e_q3
    replace e_q4 := s_ _ _ e_q4
    replace e_q5 := s_ _ _ e_q5
    replace e_q6 := s_ _ _ e_q6
    replace e_q7 := s_ _ _ e_q7
    replace e_q8 := s_ _ _ e_q8
    replace e_q9 := s_ _ _ e_q9
    replace e_qa := s_ _ _ e_qa
    replace e_l6 := s_ _ _ e_l6
    replace e_l13 := s_ _ _ e_l13
    replace e_r1 := s_ _ _ e_r1
    replace e_r2 := s_ _ _ e_r2
    replace e_r3 := s_ _ _ e_r3
    replace e_r4 := s_ _ _ e_r4
    replace e_r5 := s_ _ _ e_r5
    replace e_r6 := s_ _ _ e_r6
    clear s_
    replace hN := hN.snoc (v := .ref r7) (d := .list [.tuple [.int 0, .int 0]]) (.lst (.inl (.inl (off_get (S := fun x => x = b) b_r7 e_r7))) (.cons (.tup (.inl (.inl (off_get (S := fun x => x = b) b_r6 e_r6))) (.cons (.int _) (.cons (.int _) .nil))) .nil)) (nice_ds (fun d hd => by rw [List.mem_singleton.mp hd]; exact okP_t (i := 0) (j := 0) (by decide) (by decide)) (by show 1 ≤ 60; decide)).1
    refine ⟨_, rfl, _, _, rfl, rfl, ?_⟩
    rw [show (fun i j => V.int (i - j)) (N : Int) 1 = V.int ((N - 1 : Nat) : Int) from congrArg V.int (show (N : Int) - 1 = ((N - 1 : Nat) : Int) by omega)]
    refine ⟨_, rfl, _, _, rfl, rfl, ?_⟩
    rw [show (fun i j => V.int (i - j)) (N : Int) 1 = V.int ((N - 1 : Nat) : Int) from congrArg V.int (show (N : Int) - 1 = ((N - 1 : Nat) : Int) by omega)]
    refine ⟨by show 2 ≤ sizeLine; decide, fun r8 n_r8 => ?_⟩
    have s_ := same_new (o := .tup [.int ((N - 1 : Nat) : Int), .int ((N - 1 : Nat) : Int)]) n_r8
    have e_r8 : (upd G26 r8 (.tup [.int ((N - 1 : Nat) : Int), .int ((N - 1 : Nat) : Int)])) r8 = some (.tup [.int ((N - 1 : Nat) : Int), .int ((N - 1 : Nat) : Int)]) := upd_same
    have b_r8 : r8 ≠ b := (Z.B.ne_new n_r8).symm
    clear n_r8; revert s_ e_r8; generalize upd G26 r8 (.tup [.int ((N - 1 : Nat) : Int), .int ((N - 1 : Nat) : Int)]) = G27; intro s_ e_r8
    replace Z := Z.same s_; replace hN := hN.mono (off_same s_)
    replace e_p2 := s_ _ _ e_p2
    replace e_p3 := s_ _ _ e_p3
    replace e_p4 := s_ _ _ e_p4
    replace e_p5 := s_ _ _ e_p5
    replace e_p6 := s_ _ _ e_p6
    replace e_p7 := s_ _ _ e_p7
    replace e_l7 := s_ _ _ e_l7
    replace e_q1 := s_ _ _ e_q1
    replace e_q2 := s_ _ _ e_q2
    replace e_q3 := s_ _ _ e_q3
    replace e_q4 := s_ _ _ e_q4
    replace e_q5 := s_ _ _ e_q5
    replace e_q6 := s_ _ _ e_q6
    replace e_q7 := s_ _ _ e_q7
    replace e_q8 := s_ _ _ e_q8
    replace e_q9 := s_ _ _ e_q9
    replace e_qa := s_ _ _ e_qa
    replace e_l6 := s_ _ _ e_l6
    replace e_l13 := s_ _ _ e_l13
    replace e_r1 := s_ _ _ e_r1
    replace e_r2 := s_ _ _ e_r2
    replace e_r3 := s_ _ _ e_r3
    replace e_r4 := s_ _ _ e_r4
    replace e_r5 := s_ _ _ e_r5
    replace e_r6 := s_ _ _ e_r6
    replace e_r7 := s_ _ _ e_r7
    clear s_
    refine ⟨by show 1 ≤ sizeLine; decide, fun r9 n_r9 => ?_⟩
    have s_ := same_new (o := .lst [.ref r8]) n_r9
    have e_r9 : (upd G27 r9 (.lst [.ref r8])) r9 = some (.lst [.ref r8]) := upd_same
    have b_r9 : r9 ≠ b := (Z.B.ne_new n_r9).symm
    clear n_r9; revert s_ e_r9; generalize upd G27 r9 (.lst [.ref r8]) = G28; intro s_ e_r9
    replace Z := Z.same s_; replace hN := hN.mono (off_same s_)
    replace e_p2 := s_ _ _ e_p2
    replace e_p3 := s_ _ _ e_p3
    replace e_p4 := s_ _ _ e_p4
    replace e_p5 := s_ _ _ e_p5
    replace e_p6 := s_ _ _ e_p6
    replace e_p7 := s_ _ _ e_p7
    replace e_l7 := s_ _ _ e_l7
    replace e_q1 := s_ _ _ e_q1
    replace e_q2 := s_ _ _ e_q2
    replace e_q3 := s_ _ _ e_q3
    replace e_q4 := s_ _ _ e_q4
    replace e_q5 := s_ _ _ e_q5
    replace e_q6 := s_ _ _ e_q6
    replace e_q7 := s_ _ _ e_q7
    replace e_q8 := s_ _ _ e_q8
    replace e_q9 := s_ _ _ e_q9
    replace e_qa := s_ _ _ e_qa
    replace e_l6 := s_ _ _ e_l6
    replace e_l13 := s_ _ _ e_l13
    replace e_r1 := s_ _ _ e_r1
    replace e_r2 := s_ _ _ e_r2
    replace e_r3 := s_ _ _ e_r3
    replace e_r4 := s_ _ _ e_r4
    replace e_r5 := s_ _ _ e_r5
    replace e_r6 := s_ _ _ e_r6
    replace e_r7 := s_ _ _ e_r7
    replace e_r8 := s_ _ _ e_r8
    clear s_
    replace hN := hN.snoc (v := .ref r9) (d := .list [.tuple [.int ((N - 1 : Nat) : Int), .int ((N - 1 : Nat) : Int)]]) (.lst (.inl (.inl (off_get (S := fun x => x = b) b_r9 e_r9))) (.cons (.tup (.inl (.inl (off_get (S := fun x => x = b) b_r8 e_r8))) (.cons (.int _) (.cons (.int _) .nil))) .nil)) (nice_ds (fun d hd => by rw [List.mem_singleton.mp hd]; exact okP_t (i := N - 1) (j := N - 1) (by omega) (by omega)) (by show 1 ≤ 60; decide)).1
    refine ⟨by show 6 ≤ sizeLine; decide, fun l6b n_l6b => ?_⟩
    have s_ := same_new (o := .lst [.ref r2, .ref r4, .str "", .ref r5, .ref r7, .ref r9]) n_l6b
    have e_l6b : (upd G28 l6b (.lst [.ref r2, .ref r4, .str "", .ref r5, .ref r7, .ref r9])) l6b = some (.lst [.ref r2, .ref r4, .str "", .ref r5, .ref r7, .ref r9]) := upd_same
    have b_l6b : l6b ≠ b := (Z.B.ne_new n_l6b).symm
    clear n_l6b; revert s_ e_l6b; generalize upd G28 l6b (.lst [.ref r2, .ref r4, .str "", .ref r5, .ref r7, .ref r9]) = G29; intro s_ e_l6b
    replace Z := Z.same s_; replace hN := hN.mono (off_same s_)
    replace e_p2 := s_ _ _ e_p2
    replace e_p3 := s_ _ _ e_p3
    replace e_p4 := s_ _ _ e_p4
    replace e_p5 := s_ _ _ e_p5
    replace e_p6 := s_ _ _ e_p6
    replace e_p7 := s_ _ _ e_p7
    replace e_l7 := s_ _ _ e_l7
    replace e_q1 := s_ _ _ e_q1
    replace e_q2 := s_ _ _ e_q2
    replace e_q3 := s_ _ _ e_q3
    replace e_q4 := s_ _ _ e_q4
    replace e_q5 := s_ _ _ e_q5
    replace e_q6 := s_ _ _ e_q6
    replace e_q7 := s_ _ _ e_q7
    replace e_q8 := s_ _ _ e_q8
    replace e_q9 := s_ _ _ e_q9
    replace e_qa := s_ _ _ e_qa
    replace e_l6 := s_ _ _ e_l6
    replace e_l13 := s_ _ _ e_l13
    replace e_r1 := s_ _ _ e_r1
    replace e_r2 := s_ _ _ e_r2
    replace e_r3 := s_ _ _ e_r3
    replace e_r4 := s_ _ _ e_r4
    replace e_r5 := s_ _ _ e_r5
    replace e_r6 := s_ _ _ e_r6
    replace e_r7 := s_ _ _ e_r7
    replace e_r8 := s_ _ _ e_r8
    replace e_r9 := s_ _ _ e_r9
    clear s_
    refine ⟨l13, l6b, _, _, rfl, rfl, e_l13, e_l6b, xsz (by show 13 + 6 ≤ _; decide), fun L nL => ?_⟩
    obtain ⟨vs0, hvs0⟩ : ∃ vs0, vs0 = ([V.ref lt, V.ref p2, V.ref p3, V.ref p4, V.ref p5, V.ref p6, V.ref p7] ++ [V.non, V.int 0, V.ref q2, V.ref q4, V.ref q7, V.ref qa]) ++ [V.ref r2, V.ref r4, V.str "", V.ref r5, V.ref r7, V.ref r9] := ⟨_, rfl⟩
    have hl0 : vs0.length = 19 := by rw [hvs0]; rfl
    replace hN : NiceAll K (fun x => x = b) G29 vs0 := fun v hv => hN v (by rw [hvs0] at hv; simpa [or_assoc] using hv)
    rw [← hvs0]
    clear hvs0 e_p2 e_p3 e_p4 e_p5 e_p6 e_p7 e_l7 e_q1 e_q2 e_q3 e_q4 e_q5 e_q6 e_q7 e_q8 e_q9 e_qa e_l6 e_l13 e_r1 e_r2 e_r3 e_r4 e_r5 e_r6 e_r7 e_r8 e_r9 e_l6b
    generalize hHG : G29 = HG at *
    have Lb : L ≠ b := (Z.B.ne_new nL).symm
    have n0 : H L = none := by
      cases e0 : H L with
      | none => rfl
      | some o => rw [Z.k _ _ Lb e0] at nL; cases nL
    have lL : lt ≠ L := ne_of_none Z.l nL
    have hNL : NiceAll K (fun x => x = b ∨ x = L) (upd HG L (.lst vs0)) vs0 := fun v hv => by
      obtain ⟨d, g1, g2⟩ := hN v hv
      refine ⟨d, dp_same (fun x o hx => ?_) g1, g2⟩
      have hx2 := off_le _ _ hx
      have nS : ¬ x = b := fun z => by unfold off at hx; rw [if_pos z] at hx; cases hx
      have xl := ne_of_none hx2 nL
      exact off_get (fun z => z.elim nS xl) (by rw [upd_ne xl]; exact hx2)
    have ZL := Z.same (same_new (o := .lst vs0) nL)
    have eL : (upd HG L (.lst vs0)) L = some (.lst vs0) := upd_same
    revert ZL eL hNL
    clear Z hN nL
    generalize upd HG L (.lst vs0) = HL
    intro hNL ZL eL
    have okt : okD (2 ^ 100) (.list (qs.map pd)) := okAll_iff.mpr fun d hd => okD_mono (by decide) (hq d hd).1
    have wt0 : wt (.list (qs.map pd)) ≤ 2500 := by
      have := wt_ds hq
      rw [List.length_map] at this
      show 3 + wtAll (qs.map pd) ≤ 2500
      omega
    have dp0 : (PyData.list (qs.map pd)).depth ≤ 2 := by
      have : PyData.depthAll (qs.map pd) ≤ 1 := all_depth fun d hd => (hq d hd).2.1
      show PyData.depthAll (qs.map pd) + 1 ≤ 2
      omega
    -- fourteen more
    refine ⟨14, rfl, by decide, by decide, ?_⟩
    refine for_range (n := 14) (fun i σ H' => St44 b lt tie mt as qs a e H (n + 200 * (14 - i)) H' ∧ ∃ (vs : List V) (y6 y7 : Option V), σ = [some (.ref b), some (.int (N : Nat)), some (.ref tie), some (.ref lt), some (.ref mt), some (.ref L), y6, y7, none, none, none, none, none, none] ∧ H' L = some (.lst vs) ∧ vs.length = 19 + i ∧ NiceAll K (fun x => x = b ∨ x = L) H' vs)
      ⟨ZL.mono (by omega), vs0, none, none, rfl, eL, hl0, hNL⟩ (fun i σ H1 hi hPv => ?_) (fun σ Hg hPv => ?_)
    · clear ZL eL hNL
      obtain ⟨Z1, vs, y6, y7, rfl, el, hl, hN⟩ := hPv
      have has : ∀ {H' : Hp} {m : Nat}, Keep b H1 H' → Box m H' b → Has (fun x => x = b ∨ x = L) H' := fun {H' m} k hB' x hx => by
        rcases hx with z | z
        · rw [z]; obtain ⟨y, hy⟩ := hB'.lst; exact ⟨_, hy⟩
        · rw [z]; exact ⟨_, k _ _ Lb el⟩
      have hd1 : Dp K (off (fun x => x = b ∨ x = L) H1) (.ref lt) (.list (qs.map pd)) := .lst (.inl (.inl (off_get (fun z => z.elim Z1.lb lL) Z1.l))) (dpA (fun x hx => by
        rcases hx with z | z
        · rw [z]; exact Z1.B.lst
        · rw [z]; exact ⟨_, el⟩) Z1.A)
      have app : ∀ {H5 : Hp} {v' : V} {d' : PyData} {y6' y7' : Option V}, Keep b H1 H5 → Box (n + 200 * (14 - (i + 1))) H5 b → Dp K (off (fun x => x = b ∨ x = L) H5) v' d' → Nice d' →
          ∃ (a0 : Addr) (xs : List V) (v : V), V.ref L = .ref a0 ∧ [v'] = [v] ∧ H5 a0 = some (.lst xs) ∧ xs.length < sizeLine ∧ (St44 b lt tie mt as qs a e H (n + 200 * (14 - (i + 1))) (upd H5 a0 (.lst (xs ++ [v]))) ∧ ∃ (vs : List V) (y6 y7 : Option V), [some (.ref b), some (.int (N : Nat)), some (.ref tie), some (.ref lt), some (.ref mt), some (.ref L), y6', y7', none, none, none, none, none, none] = [some (.ref b), some (.int (N : Nat)), some (.ref tie), some (.ref lt), some (.ref mt), some (.ref L), y6, y7, none, none, none, none, none, none] ∧ (upd H5 a0 (.lst (xs ++ [v]))) L = some (.lst vs) ∧ vs.length = 19 + (i + 1) ∧ NiceAll K (fun x => x = b ∨ x = L) (upd H5 a0 (.lst (xs ++ [v]))) vs) := fun {H5 v' d' y6' y7'} k5 hB5 hd' hn' => by
        have el5 := k5 _ _ Lb el
        have so : Same (off (fun x => x = b ∨ x = L) H5) (off (fun x => x = b ∨ x = L) (upd H5 L (.lst (vs ++ [v'])))) := fun x o hx => by
          have hx2 := off_le _ _ hx
          have nS : ¬ (x = b ∨ x = L) := fun z => by unfold off at hx; rw [if_pos z] at hx; cases hx
          exact off_get nS (by rw [upd_ne (fun z => nS (.inr z))]; exact hx2)
        exact ⟨L, vs, v', rfl, rfl, el5, small1000 (by omega), (Z1.keep k5 hB5).put el5 n0 lL Lb, vs ++ [v'], y6', y7', rfl, upd_same, by rw [List.length_append, hl]; rfl, ((hN.mono (off_keep (.inl rfl) k5)).snoc hd' hn').mono so⟩
      refine ⟨.ref b, rfl, .ref lt, rfl, b, n + 200 * (14 - (i + 1)) + 130, (fun x => x = b ∨ x = L), .ref lt, .list (qs.map pd), 2 ^ 100, rfl, Z1.B.mono (by show _ + 60 ≤ _; omega), .inl rfl, has (Keep.refl b H1) Z1.B, hd1, okt, Nat.le_refl _, by decide, by omega, by omega, fun H2 v d k2 hB2 o1 o4 => ?_⟩
      obtain ⟨o1, o2, o3⟩ := o1
      refine ⟨.ref L, rfl, .inl ⟨rfl, _, .inl (.inl (k2 _ _ Lb el))⟩, .ref b, rfl, b, n + 200 * (14 - (i + 1)) + 129, 3, rfl, hB2, by decide, by decide, fun r3 H3 r30 r31 hB3 k3 => ⟨rfl, _, rfl, ite2 (fun g => ?_) (fun g => ?_)⟩⟩
      · refine ⟨.ref b, rfl, _, rfl, b, n + 200 * (14 - (i + 1)), (fun x => x = b ∨ x = L), v, d, 2 ^ 100 + 1, rfl, hB3.mono (by show _ + 124 ≤ _; omega), .inl rfl, has (k2.trans k3) hB3, dp_same (off_keep (.inl rfl) k3) o4, o1, by decide, by decide, by omega, by omega, fun H4 v' d' k4 hB4 p1 p4 => ?_⟩
        exact app (k2.trans (k3.trans k4)) hB4 p4 ⟨p1.1, by have := p1.2.1; omega, by have := p1.2.2; omega⟩
      · exact ⟨_, rfl, app (k2.trans k3) (hB3.mono (by omega)) (dp_same (off_keep (.inl rfl) k3) o4) ⟨okD_mono (by decide) o1, by omega, by omega⟩⟩
    -- all of them
    clear ZL eL hNL
    obtain ⟨Zg, vs, y6, y7, rfl, el, hl, hN⟩ := hPv
    refine ⟨.ref L, rfl, L, rfl, ⟨_, .inl (.inl el)⟩, ?_⟩
    refine for_list (xs := vs) (fun i σ H' => Same Hg H' ∧ ∃ (y8 y9 ya yb yc : Option V), σ = [some (.ref b), some (.int (N : Nat)), some (.ref tie), some (.ref lt), some (.ref mt), some (.ref L), y6, y7, y8, y9, ya, yb, yc, none]) ⟨fun _ _ h => h, none, none, none, none, none, rfl⟩ (fun i σ H' _ h => .inl (.inl (h.1 _ _ el))) (fun i x σ H1 hx h => ?_) (fun σ Hh h => ?_)
    · obtain ⟨sm, y8, y9, ya, yb, yc, rfl⟩ := h
      obtain ⟨d, hd0, hnice⟩ := hN x (List.mem_of_getElem? hx)
      have fd := hnice.fine
      have fz : d.shown.length ≤ sizeLine := Nat.le_trans fd.len (by decide)
      have f60 : d.depth ≤ 60 := Nat.le_trans fd.depth (by decide)
      have fw := hnice.wt_
      refine ⟨_, rfl, _, rfl, by show 2 ≤ sizeLine; decide, fun tp ntp => ?_⟩
      have stp := same_new (o := .tup [.ref mt, .ref tie]) ntp
      have etp : (upd H1 tp (.tup [.ref mt, .ref tie])) tp = some (.tup [.ref mt, .ref tie]) := upd_same
      have sm2 := sm.trans stp
      revert sm2 etp
      clear stp ntp
      generalize upd H1 tp (.tup [.ref mt, .ref tie]) = H2
      intro etp sm2
      refine ⟨tp, rfl, ⟨_, .inl (.inl etp)⟩, for_tup (xs := [.ref mt, .ref tie]) (fun j σ H' => Same H2 H' ∧ ∃ (y9 ya yb yc : Option V), σ = [some (.ref b), some (.int (N : Nat)), some (.ref tie), some (.ref lt), some (.ref mt), some (.ref L), y6, y7, some x, y9, ya, yb, yc, none]) ⟨fun _ _ h => h, _, _, _, _, rfl⟩ (fun j σ H' _ h => .inl (.inl (h.1 _ _ etp))) (fun j z σ H3 hz h => ?_) (fun σ H3 h => ?_)⟩
      · obtain ⟨s3, w9, wa, wb, wc, rfl⟩ := h
        have sm3 := sm2.trans s3
        obtain ⟨ez, es, rfl, hez, hes⟩ : ∃ (ez : Addr) (es : List Nat), z = .ref ez ∧ Hg ez = some (.tup (nv es)) ∧ IsPair N es := by
          have hj : j < 2 := get_lt hz
          rcases (show j = 0 ∨ j = 1 by omega) with y | y
          · subst y; exact ⟨mt, e, (Option.some.inj hz).symm, Zg.e, hE⟩
          · subst y; exact ⟨tie, a, (Option.some.inj hz).symm, Zg.t, ha⟩
        have hd : ∀ {H' : Hp}, Same H3 H' → Dp K H' x d := fun s' => dp_same s' (dp_same sm3 (dp_same off_le hd0))
        have ht3 := sm3 _ _ Zg.t
        have he3 := sm3 _ _ hez
        have hN100 : N ≤ 100 := by omega
        refine ⟨x, rfl, x, d, rfl, hd (fun _ _ h => h), fd.lay, fd.show_, f60, fz, _, rfl, _, rfl, x, rfl, tie, ez, x, d, a, es, N, rfl, ht3, he3, hd (fun _ _ h => h), ha, hes, hN100, fun H4 s4 => ⟨_, _, rfl, ?_⟩⟩
        refine ⟨_, rfl, _, rfl, x, rfl, tie, ez, x, d, a, es, N, rfl, .inr (.inl (.inl (s4 _ _ ht3))), .inr (.inl (.inl (s4 _ _ he3))), hd s4, fw, ha, hes, hN100, fun H5 s5 => ?_⟩
        have s45 := s4.trans s5
        refine ⟨x, rfl, _, rfl, ez, _, rfl, .inr (.inl (.inl (s45 _ _ he3))), fun l1 n1 => ?_⟩
        have s6 := same_new (o := .lst (nv es)) n1
        have s46 := s45.trans s6
        refine ⟨_, rfl, tie, _, rfl, .inr (.inl (.inl (s46 _ _ ht3))), fun l2 n2 => ?_⟩
        have s7 := same_new (o := .lst (nv a)) n2
        have s47 := s46.trans s7
        refine ⟨rfl, l2, l1, x, d, a, es, N, rfl, .inl (.inl (.inl upd_same)), .inl (.inl (.inl (s7 _ _ upd_same))), hd s47, fw, ha, hes, hN100, fun H8 s8 => ?_⟩
        have s48 := s47.trans s8
        refine ⟨by show 2 ≤ sizeLine; decide, fun a1 na1 => ⟨_, rfl, _, rfl, _, rfl, by show 2 ≤ sizeLine; decide, fun a2 na2 => ?_⟩⟩
        have u1 := same_new (o := .lst [.bl (oneB N a es d), .bl (oneB N a es d)]) na1
        have u2 := same_new (o := .lst [.bl (oneB N a es d), .bl (oneB N a es d)]) na2
        have sa := s48.trans (u1.trans u2)
        refine ⟨.ref a1, .ref a2, .list [.bool (oneB N a es d), .bool (oneB N a es d)], rfl, .lst (.inl (.inl (u2 _ _ upd_same))) (.cons (.bl _) (.cons (.bl _) .nil)), .lst (.inl (.inl upd_same)) (.cons (.bl _) (.cons (.bl _) .nil)), by show 1 < 4; decide, ⟨by show 2 ≤ 100000; decide, trivial, trivial, trivial⟩, fun H9 s9 => ⟨true, rfl, iteN ?_⟩⟩
        have sb := sa.trans s9
        refine ⟨x, rfl, x, d, rfl, hd sb, fd.lay, fd.show_, f60, fz, _, rfl, rfl, _, rfl, iteNS rfl ⟨s3.trans sb, _, _, _, _, rfl⟩⟩
      · obtain ⟨s3, w9, wa, wb, wc, rfl⟩ := h
        exact ⟨sm2.trans s3, _, _, _, _, _, rfl⟩
    · obtain ⟨sm, y8, y9, ya, yb, yc, rfl⟩ := h
      have Zh := Zg.same sm
      refine ⟨_, rfl, _, rfl, _, rfl, tie, mt, .ref lt, .list (qs.map pd), a, e, N, rfl, .inr (.inl (.inl Zh.t)), .inr (.inl (.inl Zh.e)), .lst (.inl (.inl Zh.l)) (prs_dp Zh.A), by omega, ha, hE, by omega, fun H' s' => ⟨_, _, rfl, rfl, ?_⟩⟩
      rw [hone]
      exact q _ (Zh.same s').k ((Zh.same s').B.mono (by omega))
end
end Pc
namespace Pc
open PySem PySem.Spec PyProof.Rows L2 RZ
theorem sqL_at {K : PySem.W.Frag} {H H' : Hp} {a : Addr} {xs : List V} (h : SqL K H a xs) (k : ∀ o, H a = some o → H' a = some o) : SqL K H' a xs := by
  rcases h with (h | ⟨o, h⟩) | h
  · exact .inl (.inl (k _ h))
  · exact .inl (.inr ⟨o, k _ h⟩)
  · exact .inr h
theorem sqL_ne {K : PySem.W.Frag} {H H' : Hp} {a : Addr} {xs : List V} (h : SqL K H a xs) (k : ∀ o, H a = some o → H' a = some o) : SqL K H' a xs := sqL_at h k
end Pc
namespace Pc
open PySem PySem.Spec PyProof.Rows L2 RZ
section
variable {P : Program} {w : World} {K : PySem.W.Frag} {mg : Str → Option Value} {base : Heap}
/-! ### the law -/
def spLaw (K : PySem.W.Frag) : Sp := fun vs H Q _ => ∃ (a : Addr) (ns : List Int), vs = [.ref a] ∧ SqL K H a (ns.map V.int) ∧ ns.length ≤ 63 ∧ ∀ H', Q (.bl true) H'
theorem ok_law (T : Env K mg) {f : Addr} {fd : FuncData} (F : Fun K "law" "law" s_law f fd) : FnG P w K mg base CX0 9 f fd ["_law_script"] (spLaw K) := by
  have GB : FnOk P w K mg base CX0 1 T.f_box T.d_box ["_law_script", "_law_k"] (spBox K) := ok_box T
  have GR : FnG P w K mg base CX0 8 T.f_right T.d_right ["_law_box_here"] spRight := ok_right T
  refine fun_g F sc_law (fun vs H Q E h => ?_) (fun cdv A outer s H vs Q E hr hgd h => ?_)
  · obtain ⟨a, ns, rfl, _⟩ := h
    rfl
  · obtain ⟨a, ns, rfl, hS, hn, q⟩ := h
    have h1 := hr.mono (show 1 ≤ 8 by decide)
    refine ⟨_, pss_one (ps_ret (pe_callB (cr_all rfl) (by rfl) T.n_all (by decide +kernel) (pa_cons
        (pe_lc (own := [("_law_k", 1)]) (g := gName 1) (tt := tYes) rfl sc_law.nd (pi_range1 (by rfl) T.n_range (pa_cons (pe_op op_add pe_int (pe_callB (call_min2 rfl) (by rfl) T.n_min (by decide +kernel) (pa_cons pe_int (pa_cons (pe_callB call_len_seq (by rfl) T.n_len PySem.boot_len (pa_cons (pv 0) pa_nil)) pa_nil)))) pa_nil)) (blkOk_by (N := N_law) (sc := defScope s_law) (by decide +kernel))
          (fun _ _ _ _ _ => pg_name (i := 1) sc_law.nd rfl (.inl rfl)) (fun _ _ _ _ _ => pts_nil)
          (fun _ _ _ _ _ => pe_callG GR hr hgd (by rfl) T.g_right T.F_right.kp T.b_right .nil pass0 (pa_cons (pe_call GB h1 (by rfl) T.g_box T.F_box.kp T.b_box .nil pass0 (pa_cons (pv 0) (pa_cons (pv 1) pa_nil))) pa_nil))) pa_nil))), ?_⟩
    have hm : ∃ m : Nat, (1 : Int) + (if ((ns.map V.int).length : Int) < 3 then ((ns.map V.int).length : Int) else 3) = (m : Int) ∧ m ≤ 4 := by
      split
      · exact ⟨1 + (ns.map V.int).length, by omega, by omega⟩
      · exact ⟨4, by omega, by omega⟩
    obtain ⟨m, em, hm4⟩ := hm
    refine ⟨_, rfl, a, _, rfl, .inl hS, 3, _, rfl, 1, _, rfl, rfl, ?_⟩
    rw [show (fun (i j : Int) => V.int (i + j)) 1 (if ((ns.map V.int).length : Int) < 3 then ((ns.map V.int).length : Int) else 3) = V.int (m : Int) from congrArg V.int em]
    refine ⟨_, rfl, by omega, by omega, fun D nD => ?_⟩
    rw [show ((m : Int)).toNat = m by omega]
    refine lc_range (n := m) (fun i H' => (∀ o, H a = some o → H' a = some o) ∧ H' D = some (.lst (List.replicate i (.bl true)))) ⟨fun o ho => same_new nD _ _ ho, upd_same⟩ (fun i H1 hi hPv => ?_) (fun H1 hPv => ?_)
    · obtain ⟨ha1, eD⟩ := hPv
      have hS1 : SqL K H1 a (ns.map V.int) := sqL_at hS ha1
      refine ⟨rfl, yes_if ⟨_, rfl, _, rfl, a, ns, i, ?_, hS1, by omega, fun H2 b s2 nb hB2 => ?_⟩⟩
      · show [V.ref a, V.int ((0 : Int) + (i : Nat))] = _
        rw [Int.zero_add]
      have eD2 := s2 _ _ eD
      have bD : D ≠ b := fun z => by
        obtain ⟨x, y, zz, ex, _⟩ := hB2
        rw [z] at eD; rw [nb] at eD; cases eD
      refine ⟨b, 0, rfl, hB2.mono (by decide), fun H3 k3 hB3 => ⟨_, k3 _ _ bD eD2, ?_, ?_, ?_⟩⟩
      · rw [List.length_replicate]; exact small1000 (by omega)
      · intro o ho
        have h1 := ha1 o ho
        rw [upd_ne (ne_of_none ho nD)]
        exact k3 _ _ (ne_of_none h1 nb) (s2 _ _ h1)
      · rw [upd_same, List.replicate_succ']
    · obtain ⟨_, eD⟩ := hPv
      refine ⟨D, List.replicate m true, rfl, by rw [List.map_replicate]; exact .inl (.inl eD), ?_⟩
      rw [all_rep]
      exact q _
end
end Pc
namespace Pc
open PySem PySem.Spec PyProof.Rows L2 RZ
theorem all_mk {l : PySem.W.OpenLaw} {w : World} {K : PySem.W.Frag} {h : Heap} {mg : Str → Option Value} {fa f_p_is_integer_below f_p_check_person f_p_check_call f_p_check_word f_p_is_call f_p_join_two f_p_called_all f_p_check_sizes f_p_leads f_box f_take f_pick f_same f_strewn f_drawn_tie f_calls f_tour_of f_asked f_toured f_bent f_is_one f_right f_law : Addr} (X : K.In h) (G : h.Ns mainGlobals mg) (hfa : mg "law" = some (.ref fa))
    {od_p_is_integer_below an_p_is_integer_below : Option Addr} {sl_p_is_integer_below : Array (Option Value)} {oc_p_is_integer_below kV_p_is_integer_below dc_p_is_integer_below pm_p_is_integer_below cd_p_is_integer_below ct_p_is_integer_below : Value}
    {od_p_check_person an_p_check_person : Option Addr} {sl_p_check_person : Array (Option Value)} {oc_p_check_person kV_p_check_person dc_p_check_person pm_p_check_person cd_p_check_person ct_p_check_person : Value}
    {od_p_check_call an_p_check_call : Option Addr} {sl_p_check_call : Array (Option Value)} {oc_p_check_call kV_p_check_call dc_p_check_call pm_p_check_call cd_p_check_call ct_p_check_call : Value}
    {od_p_check_word an_p_check_word : Option Addr} {sl_p_check_word : Array (Option Value)} {oc_p_check_word kV_p_check_word dc_p_check_word pm_p_check_word cd_p_check_word ct_p_check_word : Value}
    {od_p_is_call an_p_is_call : Option Addr} {sl_p_is_call : Array (Option Value)} {oc_p_is_call kV_p_is_call dc_p_is_call pm_p_is_call cd_p_is_call ct_p_is_call : Value}
    {od_p_join_two an_p_join_two : Option Addr} {sl_p_join_two : Array (Option Value)} {oc_p_join_two kV_p_join_two dc_p_join_two pm_p_join_two cd_p_join_two ct_p_join_two : Value}
    {od_p_called_all an_p_called_all : Option Addr} {sl_p_called_all : Array (Option Value)} {oc_p_called_all kV_p_called_all dc_p_called_all pm_p_called_all cd_p_called_all ct_p_called_all : Value}
    {od_p_check_sizes an_p_check_sizes : Option Addr} {sl_p_check_sizes : Array (Option Value)} {oc_p_check_sizes kV_p_check_sizes dc_p_check_sizes pm_p_check_sizes cd_p_check_sizes ct_p_check_sizes : Value}
    {od_p_leads an_p_leads : Option Addr} {sl_p_leads : Array (Option Value)} {oc_p_leads kV_p_leads dc_p_leads pm_p_leads cd_p_leads ct_p_leads : Value}
    {od_box an_box : Option Addr} {sl_box : Array (Option Value)} {oc_box kV_box dc_box pm_box cd_box ct_box : Value}
    {od_take an_take : Option Addr} {sl_take : Array (Option Value)} {oc_take kV_take dc_take pm_take cd_take ct_take : Value}
    {od_pick an_pick : Option Addr} {sl_pick : Array (Option Value)} {oc_pick kV_pick dc_pick pm_pick cd_pick ct_pick : Value}
    {od_same an_same : Option Addr} {sl_same : Array (Option Value)} {oc_same kV_same dc_same pm_same cd_same ct_same : Value}
    {od_strewn an_strewn : Option Addr} {sl_strewn : Array (Option Value)} {oc_strewn kV_strewn dc_strewn pm_strewn cd_strewn ct_strewn : Value}
    {od_drawn_tie an_drawn_tie : Option Addr} {sl_drawn_tie : Array (Option Value)} {oc_drawn_tie kV_drawn_tie dc_drawn_tie pm_drawn_tie cd_drawn_tie ct_drawn_tie : Value}
    {od_calls an_calls : Option Addr} {sl_calls : Array (Option Value)} {oc_calls kV_calls dc_calls pm_calls cd_calls ct_calls : Value}
    {od_tour_of an_tour_of : Option Addr} {sl_tour_of : Array (Option Value)} {oc_tour_of kV_tour_of dc_tour_of pm_tour_of cd_tour_of ct_tour_of : Value}
    {od_asked an_asked : Option Addr} {sl_asked : Array (Option Value)} {oc_asked kV_asked dc_asked pm_asked cd_asked ct_asked : Value}
    {od_toured an_toured : Option Addr} {sl_toured : Array (Option Value)} {oc_toured kV_toured dc_toured pm_toured cd_toured ct_toured : Value}
    {od_bent an_bent : Option Addr} {sl_bent : Array (Option Value)} {oc_bent kV_bent dc_bent pm_bent cd_bent ct_bent : Value}
    {od_is_one an_is_one : Option Addr} {sl_is_one : Array (Option Value)} {oc_is_one kV_is_one dc_is_one pm_is_one cd_is_one ct_is_one : Value}
    {od_right an_right : Option Addr} {sl_right : Array (Option Value)} {oc_right kV_right dc_right pm_right cd_right ct_right : Value}
    {od_law an_law : Option Addr} {sl_law : Array (Option Value)} {oc_law kV_law dc_law pm_law cd_law ct_law : Value}
    (a_p_is_integer_below : PySem.W.nsIn K mainGlobals "is_integer_below" = some (some (.ref f_p_is_integer_below))) (l_p_is_integer_below : K.lookup f_p_is_integer_below = some ⟨oc_p_is_integer_below, od_p_is_integer_below, .func (PySem.W.fnOf "is_integer_below" "is_integer_below" (defArgs s_p_is_integer_below) (defBody s_p_is_integer_below) (defScope s_p_is_integer_below) .none kV_p_is_integer_below dc_p_is_integer_below pm_p_is_integer_below an_p_is_integer_below cd_p_is_integer_below ct_p_is_integer_below), sl_p_is_integer_below⟩) (c_p_is_integer_below : PySem.W.codeIn K cd_p_is_integer_below "is_integer_below" = true) (k_p_is_integer_below : PySem.W.keepIn K (.ref f_p_is_integer_below) = true)
    (a_p_check_person : PySem.W.nsIn K mainGlobals "check_person" = some (some (.ref f_p_check_person))) (l_p_check_person : K.lookup f_p_check_person = some ⟨oc_p_check_person, od_p_check_person, .func (PySem.W.fnOf "check_person" "check_person" (defArgs s_p_check_person) (defBody s_p_check_person) (defScope s_p_check_person) .none kV_p_check_person dc_p_check_person pm_p_check_person an_p_check_person cd_p_check_person ct_p_check_person), sl_p_check_person⟩) (c_p_check_person : PySem.W.codeIn K cd_p_check_person "check_person" = true) (k_p_check_person : PySem.W.keepIn K (.ref f_p_check_person) = true)
    (a_p_check_call : PySem.W.nsIn K mainGlobals "check_call" = some (some (.ref f_p_check_call))) (l_p_check_call : K.lookup f_p_check_call = some ⟨oc_p_check_call, od_p_check_call, .func (PySem.W.fnOf "check_call" "check_call" (defArgs s_p_check_call) (defBody s_p_check_call) (defScope s_p_check_call) .none kV_p_check_call dc_p_check_call pm_p_check_call an_p_check_call cd_p_check_call ct_p_check_call), sl_p_check_call⟩) (c_p_check_call : PySem.W.codeIn K cd_p_check_call "check_call" = true) (k_p_check_call : PySem.W.keepIn K (.ref f_p_check_call) = true)
    (a_p_check_word : PySem.W.nsIn K mainGlobals "check_word" = some (some (.ref f_p_check_word))) (l_p_check_word : K.lookup f_p_check_word = some ⟨oc_p_check_word, od_p_check_word, .func (PySem.W.fnOf "check_word" "check_word" (defArgs s_p_check_word) (defBody s_p_check_word) (defScope s_p_check_word) .none kV_p_check_word dc_p_check_word pm_p_check_word an_p_check_word cd_p_check_word ct_p_check_word), sl_p_check_word⟩) (c_p_check_word : PySem.W.codeIn K cd_p_check_word "check_word" = true) (k_p_check_word : PySem.W.keepIn K (.ref f_p_check_word) = true)
    (a_p_is_call : PySem.W.nsIn K mainGlobals "is_call" = some (some (.ref f_p_is_call))) (l_p_is_call : K.lookup f_p_is_call = some ⟨oc_p_is_call, od_p_is_call, .func (PySem.W.fnOf "is_call" "is_call" (defArgs s_p_is_call) (defBody s_p_is_call) (defScope s_p_is_call) .none kV_p_is_call dc_p_is_call pm_p_is_call an_p_is_call cd_p_is_call ct_p_is_call), sl_p_is_call⟩) (c_p_is_call : PySem.W.codeIn K cd_p_is_call "is_call" = true) (k_p_is_call : PySem.W.keepIn K (.ref f_p_is_call) = true)
    (a_p_join_two : PySem.W.nsIn K mainGlobals "join_two" = some (some (.ref f_p_join_two))) (l_p_join_two : K.lookup f_p_join_two = some ⟨oc_p_join_two, od_p_join_two, .func (PySem.W.fnOf "join_two" "join_two" (defArgs s_p_join_two) (defBody s_p_join_two) (defScope s_p_join_two) .none kV_p_join_two dc_p_join_two pm_p_join_two an_p_join_two cd_p_join_two ct_p_join_two), sl_p_join_two⟩) (c_p_join_two : PySem.W.codeIn K cd_p_join_two "join_two" = true) (k_p_join_two : PySem.W.keepIn K (.ref f_p_join_two) = true)
    (a_p_called_all : PySem.W.nsIn K mainGlobals "called_all" = some (some (.ref f_p_called_all))) (l_p_called_all : K.lookup f_p_called_all = some ⟨oc_p_called_all, od_p_called_all, .func (PySem.W.fnOf "called_all" "called_all" (defArgs s_p_called_all) (defBody s_p_called_all) (defScope s_p_called_all) .none kV_p_called_all dc_p_called_all pm_p_called_all an_p_called_all cd_p_called_all ct_p_called_all), sl_p_called_all⟩) (c_p_called_all : PySem.W.codeIn K cd_p_called_all "called_all" = true) (k_p_called_all : PySem.W.keepIn K (.ref f_p_called_all) = true)
    (a_p_check_sizes : PySem.W.nsIn K mainGlobals "check_sizes" = some (some (.ref f_p_check_sizes))) (l_p_check_sizes : K.lookup f_p_check_sizes = some ⟨oc_p_check_sizes, od_p_check_sizes, .func (PySem.W.fnOf "check_sizes" "check_sizes" (defArgs s_p_check_sizes) (defBody s_p_check_sizes) (defScope s_p_check_sizes) .none kV_p_check_sizes dc_p_check_sizes pm_p_check_sizes an_p_check_sizes cd_p_check_sizes ct_p_check_sizes), sl_p_check_sizes⟩) (c_p_check_sizes : PySem.W.codeIn K cd_p_check_sizes "check_sizes" = true) (k_p_check_sizes : PySem.W.keepIn K (.ref f_p_check_sizes) = true)
    (a_p_leads : PySem.W.nsIn K mainGlobals "leads" = some (some (.ref f_p_leads))) (l_p_leads : K.lookup f_p_leads = some ⟨oc_p_leads, od_p_leads, .func (PySem.W.fnOf "leads" "leads" (defArgs s_p_leads) (defBody s_p_leads) (defScope s_p_leads) .none kV_p_leads dc_p_leads pm_p_leads an_p_leads cd_p_leads ct_p_leads), sl_p_leads⟩) (c_p_leads : PySem.W.codeIn K cd_p_leads "leads" = true) (k_p_leads : PySem.W.keepIn K (.ref f_p_leads) = true)
    (a_box : PySem.W.nsIn K mainGlobals "_law_box" = some (some (.ref f_box))) (l_box : K.lookup f_box = some ⟨oc_box, od_box, .func (PySem.W.fnOf "_law_box" "_law_box" (defArgs s_box) (defBody s_box) (defScope s_box) .none kV_box dc_box pm_box an_box cd_box ct_box), sl_box⟩) (c_box : PySem.W.codeIn K cd_box "_law_box" = true) (k_box : PySem.W.keepIn K (.ref f_box) = true)
    (a_take : PySem.W.nsIn K mainGlobals "_law_take" = some (some (.ref f_take))) (l_take : K.lookup f_take = some ⟨oc_take, od_take, .func (PySem.W.fnOf "_law_take" "_law_take" (defArgs s_take) (defBody s_take) (defScope s_take) .none kV_take dc_take pm_take an_take cd_take ct_take), sl_take⟩) (c_take : PySem.W.codeIn K cd_take "_law_take" = true) (k_take : PySem.W.keepIn K (.ref f_take) = true)
    (a_pick : PySem.W.nsIn K mainGlobals "_law_pick" = some (some (.ref f_pick))) (l_pick : K.lookup f_pick = some ⟨oc_pick, od_pick, .func (PySem.W.fnOf "_law_pick" "_law_pick" (defArgs s_pick) (defBody s_pick) (defScope s_pick) .none kV_pick dc_pick pm_pick an_pick cd_pick ct_pick), sl_pick⟩) (c_pick : PySem.W.codeIn K cd_pick "_law_pick" = true) (k_pick : PySem.W.keepIn K (.ref f_pick) = true)
    (a_same : PySem.W.nsIn K mainGlobals "_law_same" = some (some (.ref f_same))) (l_same : K.lookup f_same = some ⟨oc_same, od_same, .func (PySem.W.fnOf "_law_same" "_law_same" (defArgs s_same) (defBody s_same) (defScope s_same) .none kV_same dc_same pm_same an_same cd_same ct_same), sl_same⟩) (c_same : PySem.W.codeIn K cd_same "_law_same" = true) (k_same : PySem.W.keepIn K (.ref f_same) = true)
    (a_strewn : PySem.W.nsIn K mainGlobals "_law_strewn" = some (some (.ref f_strewn))) (l_strewn : K.lookup f_strewn = some ⟨oc_strewn, od_strewn, .func (PySem.W.fnOf "_law_strewn" "_law_strewn" (defArgs s_strewn) (defBody s_strewn) (defScope s_strewn) .none kV_strewn dc_strewn pm_strewn an_strewn cd_strewn ct_strewn), sl_strewn⟩) (c_strewn : PySem.W.codeIn K cd_strewn "_law_strewn" = true) (k_strewn : PySem.W.keepIn K (.ref f_strewn) = true)
    (a_drawn_tie : PySem.W.nsIn K mainGlobals "_law_drawn_tie" = some (some (.ref f_drawn_tie))) (l_drawn_tie : K.lookup f_drawn_tie = some ⟨oc_drawn_tie, od_drawn_tie, .func (PySem.W.fnOf "_law_drawn_tie" "_law_drawn_tie" (defArgs s_drawn_tie) (defBody s_drawn_tie) (defScope s_drawn_tie) .none kV_drawn_tie dc_drawn_tie pm_drawn_tie an_drawn_tie cd_drawn_tie ct_drawn_tie), sl_drawn_tie⟩) (c_drawn_tie : PySem.W.codeIn K cd_drawn_tie "_law_drawn_tie" = true) (k_drawn_tie : PySem.W.keepIn K (.ref f_drawn_tie) = true)
    (a_calls : PySem.W.nsIn K mainGlobals "_law_calls" = some (some (.ref f_calls))) (l_calls : K.lookup f_calls = some ⟨oc_calls, od_calls, .func (PySem.W.fnOf "_law_calls" "_law_calls" (defArgs s_calls) (defBody s_calls) (defScope s_calls) .none kV_calls dc_calls pm_calls an_calls cd_calls ct_calls), sl_calls⟩) (c_calls : PySem.W.codeIn K cd_calls "_law_calls" = true) (k_calls : PySem.W.keepIn K (.ref f_calls) = true)
    (a_tour_of : PySem.W.nsIn K mainGlobals "_law_tour_of" = some (some (.ref f_tour_of))) (l_tour_of : K.lookup f_tour_of = some ⟨oc_tour_of, od_tour_of, .func (PySem.W.fnOf "_law_tour_of" "_law_tour_of" (defArgs s_tour_of) (defBody s_tour_of) (defScope s_tour_of) .none kV_tour_of dc_tour_of pm_tour_of an_tour_of cd_tour_of ct_tour_of), sl_tour_of⟩) (c_tour_of : PySem.W.codeIn K cd_tour_of "_law_tour_of" = true) (k_tour_of : PySem.W.keepIn K (.ref f_tour_of) = true)
    (a_asked : PySem.W.nsIn K mainGlobals "_law_asked" = some (some (.ref f_asked))) (l_asked : K.lookup f_asked = some ⟨oc_asked, od_asked, .func (PySem.W.fnOf "_law_asked" "_law_asked" (defArgs s_asked) (defBody s_asked) (defScope s_asked) .none kV_asked dc_asked pm_asked an_asked cd_asked ct_asked), sl_asked⟩) (c_asked : PySem.W.codeIn K cd_asked "_law_asked" = true) (k_asked : PySem.W.keepIn K (.ref f_asked) = true)
    (a_toured : PySem.W.nsIn K mainGlobals "_law_toured" = some (some (.ref f_toured))) (l_toured : K.lookup f_toured = some ⟨oc_toured, od_toured, .func (PySem.W.fnOf "_law_toured" "_law_toured" (defArgs s_toured) (defBody s_toured) (defScope s_toured) .none kV_toured dc_toured pm_toured an_toured cd_toured ct_toured), sl_toured⟩) (c_toured : PySem.W.codeIn K cd_toured "_law_toured" = true) (k_toured : PySem.W.keepIn K (.ref f_toured) = true)
    (a_bent : PySem.W.nsIn K mainGlobals "_law_bent" = some (some (.ref f_bent))) (l_bent : K.lookup f_bent = some ⟨oc_bent, od_bent, .func (PySem.W.fnOf "_law_bent" "_law_bent" (defArgs s_bent) (defBody s_bent) (defScope s_bent) .none kV_bent dc_bent pm_bent an_bent cd_bent ct_bent), sl_bent⟩) (c_bent : PySem.W.codeIn K cd_bent "_law_bent" = true) (k_bent : PySem.W.keepIn K (.ref f_bent) = true)
    (a_is_one : PySem.W.nsIn K mainGlobals "_law_is_one" = some (some (.ref f_is_one))) (l_is_one : K.lookup f_is_one = some ⟨oc_is_one, od_is_one, .func (PySem.W.fnOf "_law_is_one" "_law_is_one" (defArgs s_is_one) (defBody s_is_one) (defScope s_is_one) .none kV_is_one dc_is_one pm_is_one an_is_one cd_is_one ct_is_one), sl_is_one⟩) (c_is_one : PySem.W.codeIn K cd_is_one "_law_is_one" = true) (k_is_one : PySem.W.keepIn K (.ref f_is_one) = true)
    (a_right : PySem.W.nsIn K mainGlobals "_law_right" = some (some (.ref f_right))) (l_right : K.lookup f_right = some ⟨oc_right, od_right, .func (PySem.W.fnOf "_law_right" "_law_right" (defArgs s_right) (defBody s_right) (defScope s_right) .none kV_right dc_right pm_right an_right cd_right ct_right), sl_right⟩) (c_right : PySem.W.codeIn K cd_right "_law_right" = true) (k_right : PySem.W.keepIn K (.ref f_right) = true)
    (a_law : PySem.W.nsIn K mainGlobals "law" = some (some (.ref f_law))) (l_law : K.lookup f_law = some ⟨oc_law, od_law, .func (PySem.W.fnOf "law" "law" (defArgs s_law) (defBody s_law) (defScope s_law) .none kV_law dc_law pm_law an_law cd_law ct_law), sl_law⟩) (c_law : PySem.W.codeIn K cd_law "law" = true) (k_law : PySem.W.keepIn K (.ref f_law) = true)
    (z_isinstance : PySem.W.nsIn K mainGlobals "isinstance" = some none) (z_int : PySem.W.nsIn K mainGlobals "int" = some none) (z_bool : PySem.W.nsIn K mainGlobals "bool" = some none) (z_tuple : PySem.W.nsIn K mainGlobals "tuple" = some none) (z_len : PySem.W.nsIn K mainGlobals "len" = some none) (z_all : PySem.W.nsIn K mainGlobals "all" = some none) (z_list : PySem.W.nsIn K mainGlobals "list" = some none) (z_abs : PySem.W.nsIn K mainGlobals "abs" = some none) (z_zip : PySem.W.nsIn K mainGlobals "zip" = some none) (z_str : PySem.W.nsIn K mainGlobals "str" = some none) (z_range : PySem.W.nsIn K mainGlobals "range" = some none) (z_repr : PySem.W.nsIn K mainGlobals "repr" = some none) (z_min : PySem.W.nsIn K mainGlobals "min" = some none) :
    ∃ fd : FuncData, (∀ (s : Shared) (v : Value), BindsTo s fd ⟨[v], []⟩ [("_law_script", v)]) ∧ ∀ base : Heap, K.In base → base.Ns mainGlobals mg → FnG l.prog w K mg base CX0 9 fa fd ["_law_script"] (spLaw K) := by
  have e := hfa.symm.trans (PySem.W.mg_of X G a_law)
  cases e
  let T : Env K mg := {
    n_isinstance := PySem.W.mg_none_of X G z_isinstance,
    n_int := PySem.W.mg_none_of X G z_int,
    n_bool := PySem.W.mg_none_of X G z_bool,
    n_tuple := PySem.W.mg_none_of X G z_tuple,
    n_len := PySem.W.mg_none_of X G z_len,
    n_all := PySem.W.mg_none_of X G z_all,
    n_list := PySem.W.mg_none_of X G z_list,
    n_abs := PySem.W.mg_none_of X G z_abs,
    n_zip := PySem.W.mg_none_of X G z_zip,
    n_str := PySem.W.mg_none_of X G z_str,
    n_range := PySem.W.mg_none_of X G z_range,
    n_repr := PySem.W.mg_none_of X G z_repr,
    n_min := PySem.W.mg_none_of X G z_min,
    f_p_is_integer_below := f_p_is_integer_below, d_p_is_integer_below := _, F_p_is_integer_below := fun_mk (st := s_p_is_integer_below) l_p_is_integer_below c_p_is_integer_below k_p_is_integer_below, g_p_is_integer_below := PySem.W.mg_of X G a_p_is_integer_below,
    f_p_check_person := f_p_check_person, d_p_check_person := _, F_p_check_person := fun_mk (st := s_p_check_person) l_p_check_person c_p_check_person k_p_check_person, g_p_check_person := PySem.W.mg_of X G a_p_check_person,
    f_p_check_call := f_p_check_call, d_p_check_call := _, F_p_check_call := fun_mk (st := s_p_check_call) l_p_check_call c_p_check_call k_p_check_call, g_p_check_call := PySem.W.mg_of X G a_p_check_call,
    f_p_check_word := f_p_check_word, d_p_check_word := _, F_p_check_word := fun_mk (st := s_p_check_word) l_p_check_word c_p_check_word k_p_check_word, g_p_check_word := PySem.W.mg_of X G a_p_check_word,
    f_p_is_call := f_p_is_call, d_p_is_call := _, F_p_is_call := fun_mk (st := s_p_is_call) l_p_is_call c_p_is_call k_p_is_call, g_p_is_call := PySem.W.mg_of X G a_p_is_call,
    f_p_join_two := f_p_join_two, d_p_join_two := _, F_p_join_two := fun_mk (st := s_p_join_two) l_p_join_two c_p_join_two k_p_join_two, g_p_join_two := PySem.W.mg_of X G a_p_join_two,
    f_p_called_all := f_p_called_all, d_p_called_all := _, F_p_called_all := fun_mk (st := s_p_called_all) l_p_called_all c_p_called_all k_p_called_all, g_p_called_all := PySem.W.mg_of X G a_p_called_all,
    f_p_check_sizes := f_p_check_sizes, d_p_check_sizes := _, F_p_check_sizes := fun_mk (st := s_p_check_sizes) l_p_check_sizes c_p_check_sizes k_p_check_sizes, g_p_check_sizes := PySem.W.mg_of X G a_p_check_sizes,
    f_p_leads := f_p_leads, d_p_leads := _, F_p_leads := fun_mk (st := s_p_leads) l_p_leads c_p_leads k_p_leads, g_p_leads := PySem.W.mg_of X G a_p_leads,
    f_box := f_box, d_box := _, F_box := fun_mk (st := s_box) l_box c_box k_box, g_box := PySem.W.mg_of X G a_box,
    f_take := f_take, d_take := _, F_take := fun_mk (st := s_take) l_take c_take k_take, g_take := PySem.W.mg_of X G a_take,
    f_pick := f_pick, d_pick := _, F_pick := fun_mk (st := s_pick) l_pick c_pick k_pick, g_pick := PySem.W.mg_of X G a_pick,
    f_same := f_same, d_same := _, F_same := fun_mk (st := s_same) l_same c_same k_same, g_same := PySem.W.mg_of X G a_same,
    f_strewn := f_strewn, d_strewn := _, F_strewn := fun_mk (st := s_strewn) l_strewn c_strewn k_strewn, g_strewn := PySem.W.mg_of X G a_strewn,
    f_drawn_tie := f_drawn_tie, d_drawn_tie := _, F_drawn_tie := fun_mk (st := s_drawn_tie) l_drawn_tie c_drawn_tie k_drawn_tie, g_drawn_tie := PySem.W.mg_of X G a_drawn_tie,
    f_calls := f_calls, d_calls := _, F_calls := fun_mk (st := s_calls) l_calls c_calls k_calls, g_calls := PySem.W.mg_of X G a_calls,
    f_tour_of := f_tour_of, d_tour_of := _, F_tour_of := fun_mk (st := s_tour_of) l_tour_of c_tour_of k_tour_of, g_tour_of := PySem.W.mg_of X G a_tour_of,
    f_asked := f_asked, d_asked := _, F_asked := fun_mk (st := s_asked) l_asked c_asked k_asked, g_asked := PySem.W.mg_of X G a_asked,
    f_toured := f_toured, d_toured := _, F_toured := fun_mk (st := s_toured) l_toured c_toured k_toured, g_toured := PySem.W.mg_of X G a_toured,
    f_bent := f_bent, d_bent := _, F_bent := fun_mk (st := s_bent) l_bent c_bent k_bent, g_bent := PySem.W.mg_of X G a_bent,
    f_is_one := f_is_one, d_is_one := _, F_is_one := fun_mk (st := s_is_one) l_is_one c_is_one k_is_one, g_is_one := PySem.W.mg_of X G a_is_one,
    f_right := f_right, d_right := _, F_right := fun_mk (st := s_right) l_right c_right k_right, g_right := PySem.W.mg_of X G a_right }
  exact ⟨PySem.W.fnOf "law" "law" (defArgs s_law) (defBody s_law) (defScope s_law) .none kV_law dc_law pm_law an_law cd_law ct_law, fun s v => .of_eq rfl, fun base _ _ => ok_law T (fun_mk (st := s_law) l_law c_law k_law)⟩
end Pc
open PySem PySem.W PyProof.Rows
set_option maxHeartbeats 0 in
theorem PySem.Challenge.cw_partnercall_k44_lists_that_lead_or_not_holds : PySem.Challenge.rw_partnercall_k44_lists_that_lead_or_not.Holds := by
  w_on; o_law; k_head; (case hw => w_witness2)
  k_fill
  refine Pc.walk_g (l := PySem.Challenge.rw_partnercall_k44_lists_that_lead_or_not) (n := 63) (k := 9) (x := "_law_script") (sp := fun w => Pc.spLaw _) rfl (by decide) rfl ⟨rfl, by decide, by decide⟩ (fun w h Y => PySem.W.kIn_of Y) ?F (fun _ _ a ns hl hS => ⟨a, ns, rfl, hS, hl, fun _ => rfl⟩)
  case F =>
    intro w mg fa h KX G hmg
    refine' Pc.all_mk KX G hmg ?a_p_is_integer_below ?l_p_is_integer_below ?c_p_is_integer_below ?k_p_is_integer_below ?a_p_check_person ?l_p_check_person ?c_p_check_person ?k_p_check_person ?a_p_check_call ?l_p_check_call ?c_p_check_call ?k_p_check_call ?a_p_check_word ?l_p_check_word ?c_p_check_word ?k_p_check_word ?a_p_is_call ?l_p_is_call ?c_p_is_call ?k_p_is_call ?a_p_join_two ?l_p_join_two ?c_p_join_two ?k_p_join_two ?a_p_called_all ?l_p_called_all ?c_p_called_all ?k_p_called_all ?a_p_check_sizes ?l_p_check_sizes ?c_p_check_sizes ?k_p_check_sizes ?a_p_leads ?l_p_leads ?c_p_leads ?k_p_leads ?a_box ?l_box ?c_box ?k_box ?a_take ?l_take ?c_take ?k_take ?a_pick ?l_pick ?c_pick ?k_pick ?a_same ?l_same ?c_same ?k_same ?a_strewn ?l_strewn ?c_strewn ?k_strewn ?a_drawn_tie ?l_drawn_tie ?c_drawn_tie ?k_drawn_tie ?a_calls ?l_calls ?c_calls ?k_calls ?a_tour_of ?l_tour_of ?c_tour_of ?k_tour_of ?a_asked ?l_asked ?c_asked ?k_asked ?a_toured ?l_toured ?c_toured ?k_toured ?a_bent ?l_bent ?c_bent ?k_bent ?a_is_one ?l_is_one ?c_is_one ?k_is_one ?a_right ?l_right ?c_right ?k_right ?a_law ?l_law ?c_law ?k_law ?z_isinstance ?z_int ?z_bool ?z_tuple ?z_len ?z_all ?z_list ?z_abs ?z_zip ?z_str ?z_range ?z_repr ?z_min
    (case a_p_is_integer_below => k_is); (case l_p_is_integer_below => k_is); (case c_p_is_integer_below => k_is); (case k_p_is_integer_below => k_is); (case a_p_check_person => k_is); (case l_p_check_person => k_is); (case c_p_check_person => k_is); (case k_p_check_person => k_is); (case a_p_check_call => k_is); (case l_p_check_call => k_is); (case c_p_check_call => k_is); (case k_p_check_call => k_is); (case a_p_check_word => k_is); (case l_p_check_word => k_is); (case c_p_check_word => k_is); (case k_p_check_word => k_is); (case a_p_is_call => k_is); (case l_p_is_call => k_is); (case c_p_is_call => k_is); (case k_p_is_call => k_is); (case a_p_join_two => k_is); (case l_p_join_two => k_is); (case c_p_join_two => k_is); (case k_p_join_two => k_is); (case a_p_called_all => k_is); (case l_p_called_all => k_is); (case c_p_called_all => k_is); (case k_p_called_all => k_is); (case a_p_check_sizes => k_is); (case l_p_check_sizes => k_is); (case c_p_check_sizes => k_is); (case k_p_check_sizes => k_is); (case a_p_leads => k_is); (case l_p_leads => k_is); (case c_p_leads => k_is); (case k_p_leads => k_is); (case a_box => k_is); (case l_box => k_is); (case c_box => k_is); (case k_box => k_is); (case a_take => k_is); (case l_take => k_is); (case c_take => k_is); (case k_take => k_is); (case a_pick => k_is); (case l_pick => k_is); (case c_pick => k_is); (case k_pick => k_is); (case a_same => k_is); (case l_same => k_is); (case c_same => k_is); (case k_same => k_is); (case a_strewn => k_is); (case l_strewn => k_is); (case c_strewn => k_is); (case k_strewn => k_is); (case a_drawn_tie => k_is); (case l_drawn_tie => k_is); (case c_drawn_tie => k_is); (case k_drawn_tie => k_is); (case a_calls => k_is); (case l_calls => k_is); (case c_calls => k_is); (case k_calls => k_is); (case a_tour_of => k_is); (case l_tour_of => k_is); (case c_tour_of => k_is); (case k_tour_of => k_is); (case a_asked => k_is); (case l_asked => k_is); (case c_asked => k_is); (case k_asked => k_is); (case a_toured => k_is); (case l_toured => k_is); (case c_toured => k_is); (case k_toured => k_is); (case a_bent => k_is); (case l_bent => k_is); (case c_bent => k_is); (case k_bent => k_is); (case a_is_one => k_is); (case l_is_one => k_is); (case c_is_one => k_is); (case k_is_one => k_is); (case a_right => k_is); (case l_right => k_is); (case c_right => k_is); (case k_right => k_is); (case a_law => k_is); (case l_law => k_is); (case c_law => k_is); (case k_law => k_is); (case z_isinstance => k_is); (case z_int => k_is); (case z_bool => k_is); (case z_tuple => k_is); (case z_len => k_is); (case z_all => k_is); (case z_list => k_is); (case z_abs => k_is); (case z_zip => k_is); (case z_str => k_is); (case z_range => k_is); (case z_repr => k_is); (case z_min => k_is)
