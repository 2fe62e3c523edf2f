import PyProof.Rows.All
import Wide.All
import OpenK.AllK
import Wide.FinOn
import HandS.ForMost
import HandS.IsInst
import HandS.Zip
import HandS.Style
import HandS.Walk
import HandS.Flow
import HandS.Conv
import HandS.RaiseMore
import HandS.NoneIn
import HandS.WordsList
import HandS.Deep
import HandS.Exc
import HandS.ExcOwn
import HandS.WordsExc
import HandS.ExcInit
import HandS.ExcIs
import KE.KExcIs
import KE.KExcInit
import KE.KTryMore
import HandS.SortRule
import HandS.SortInts
import HandS.Strs
import HandS.Wide
import HandS.DictComp
import HandS.SetFor
import HandS.TupSets
import HandS.SortOrd
import KE.SortData
import KE.DataCmp
import KE.KDictSum
import HandS.TupLen
import HandS.DictTup
import HandS.Small
import HandS.TryOnly
import KE.KMinBuiltin
import HandS.SortKw
import KE.KDictZip
import KE.GoesEnum
import KE.KDictDisplayH
import KE.DataFind
import PyProof.Rows.IntBool
import HandS.Text
import HandS.FStr
import PySem.Challenge.RW_partnercall_k73_texts_that_are_not_valid
set_option Elab.async false
set_option linter.all false
set_option maxRecDepth 100000
set_option maxHeartbeats 4000000
namespace RZ
end RZ
namespace Pc
open PySem PySem.Spec PyProof.Rows L2 RZ
/-! ### heaps -/
/-- all that was tracked, but for b, is as it was -/
def Keep (b : Addr) (H H' : Hp) : Prop := ∀ a o, a ≠ b → H a = some o → H' a = some o
theorem Keep.refl (b : Addr) (H : Hp) : Keep b H H := fun _ _ _ h => h
theorem Keep.trans {b : Addr} {H H1 H2 : Hp} (p : Keep b H H1) (q : Keep b H1 H2) : Keep b H H2 := fun a o n h => q a o n (p a o n h)
theorem Keep.of_same {b : Addr} {H H' : Hp} (s : Same H H') : Keep b H H' := fun a o _ h => s a o h
theorem same_new {H : Hp} {p : Addr} {o : HO} (h : H p = none) : Same H (upd H p o) := fun b x e => by
  rw [upd_ne (ne_of_none e h)]; exact e
theorem keep_upd {H : Hp} {b : Addr} {o : HO} : Keep b H (upd H b o) := fun a x n e => by
  rw [upd_ne n]; exact e
/-- a list, a tuple under Keep -/
theorem Keep.tup {b : Addr} {H H' : Hp} (k : Keep b H H') {a : Addr} {xs ys : List V} (hb : H b = some (.lst ys)) (h : H a = some (.tup xs)) : H' a = some (.tup xs) :=
  k a _ (fun e => by rw [e, hb] at h; cases h) h
/-! ### small numbers -/
theorem one0 (c : Prop) [Decidable c] : (0 : Int) ≤ (if c then 1 else 0) ∧ (if c then (1 : Int) else 0) ≤ 1 := by
  split <;> decide
theorem in64 {i : Int} (h : 0 ≤ i ∧ i ≤ 1) : -(2 ^ 64) < i ∧ i < 2 ^ 64 := ⟨by omega, by omega⟩
/-! ### the source of draws -/
/-- at b a source that serves n more draws -/
def Box (n : Nat) (H : Hp) (b : Addr) : Prop := ∃ x y z : Int, H b = some (.lst [.int x, .int y, .int z]) ∧ 0 ≤ x ∧ 0 ≤ y ∧ y < 2 ^ 62 ∧ 0 ≤ z ∧ z + n ≤ 1000000000
theorem Box.lst {n : Nat} {H : Hp} {b : Addr} (h : Box n H b) : ∃ ys, H b = some (.lst ys) := let ⟨_, _, _, e, _⟩ := h; ⟨_, e⟩
theorem Box.mono {n m : Nat} {H : Hp} {b : Addr} (h : Box n H b) (l : m ≤ n) : Box m H b := by
  obtain ⟨x, y, z, e, h1, h2, h3, h4, h5⟩ := h
  exact ⟨x, y, z, e, h1, h2, h3, h4, by omega⟩
theorem Box.same {n : Nat} {H H' : Hp} {b : Addr} (h : Box n H b) (s : Same H H') : Box n H' b := by
  obtain ⟨x, y, z, e, r⟩ := h
  exact ⟨x, y, z, s _ _ e, r⟩
theorem Box.keep {n : Nat} {H H' : Hp} {b c : Addr} (h : Box n H b) (k : Keep c H H') (d : b ≠ c) : Box n H' b := by
  obtain ⟨x, y, z, e, r⟩ := h
  exact ⟨x, y, z, k _ _ d e, r⟩
theorem Box.ne_new {n : Nat} {H : Hp} {b p : Addr} (h : Box n H b) (np : H p = none) : b ≠ p := by
  obtain ⟨x, y, z, e, r⟩ := h
  exact ne_of_none e np
theorem Box.ne_tup {n : Nat} {H : Hp} {b p : Addr} {xs : List V} (h : Box n H b) (e2 : H p = some (.tup xs)) : p ≠ b := by
  obtain ⟨x, y, z, e, r⟩ := h
  intro q; rw [q, e] at e2; cases e2
end Pc
namespace Pc
open PySem PySem.Spec PyProof.Rows L2 RZ
/-! ### errors of the program: made -/
section
open PySem.W Builtin Builtin.ObjectAttr
variable {prog : Program} {w : World} {A : Around} {R : Result → Shared → Prop} {hp : Heap} {g : Array GenState} {d : Drawn} {t : Nat} {os : OsState} {B : String} {bmB : List Value}
/-- the first field of an error that has no dict yet -/
theorem osa_first {K : Frag} {f : Str} {tk : Tok} {v : Value} {x C : Addr} {fv : Array Value} {cd : ClassData} (SF : StoreFacts B bmB "object.__setattr__" "object") (X : K.In hp)
    (hx : hp.get? x = some { cls := .ref C, data := .fields fv }) (hcd : clsIn K C = some cd) (ho : excOver K C bmB = true) (hh : cd.hasDict = true) (hf : takerIn K C f = some none)
    (hq : ∀ h' tk' dx, (∀ b o, b ≠ x → hp.get? b = some o → h'.get? b = some o) → hp.objs.size ≤ dx → dx ≠ x →
      h'.get? x = some { cls := .ref C, dict := some dx, data := .fields fv } → h'.Ns1 dx (fun y => if y = f then some v else none) → R (.ok (.ret .none)) ⟨h', g, d, tk', os⟩) :
    codeAny (model prog w) A (.call (.builtin "object.__setattr__") ⟨[.ref x, .str f tk, v], []⟩) R ⟨hp, g, d, t, os⟩ := by
  have hne : x ≠ hp.objs.size := fun e => absurd (Heap.lt_size hx) (by rw [← e]; exact Nat.lt_irrefl x)
  have LC : Looks (model prog w) hp (classData C) cd := looks_clsIn X hcd
  refine osa_openX (s := ⟨hp, g, d, t, os⟩) (od := none) SF X ⟨hx, rfl, rfl, trivial⟩ ho hf fun b => ?_
  obtain ⟨c1, c2, c3, c4, c5, c6, c7, c8, c9, c10, c11⟩ := cd
  dsimp only at hh; subst hh
  dsimp only
  unfold storeInOwnDict ownDictForStores
  repeat (first | with_reducible refine HandSPX.store_in_new ?_ ?_ | with_reducible refine wpAny_loadPart_at hx ?_ | with_reducible refine LC.at ?_ | wp_step)
  · exact ⟨_, #[], _, (Heap.get?_update_ne _ _ _ _ hne.symm).trans (Heap.get?_push_at rfl rfl), rfl, fun e he => absurd he (by simp), fun _ => rfl⟩
  · intro h' tk' n1 n2
    refine hq h' tk' hp.objs.size (fun b o q r => ?_) (Nat.le_refl _) hne.symm ?_ n1
    · exact (n2.2 b (Nat.ne_of_lt (Heap.lt_size r))).trans ((Heap.get?_update_ne _ _ _ _ q).trans (Heap.get?_push_of_some _ r))
    · exact (n2.2 x hne).trans (Heap.get?_update_self _ (Heap.get?_push_of_some _ hx) rfl)
end
/-- what is known of a built-in error class -/
structure Bs (B newId initId : String) (bmB : List Value) : Prop where
  fb : ExcBaseFacts B newId initId bmB
  sf : StoreFacts B bmB "object.__setattr__" "object"
theorem bsV : Bs "ValueError" "ValueError.__new__" "ValueError.__init__" [.type "ValueError", .type "Exception", .type "BaseException", .type "object"] := ⟨F.excBase_ValueError, F.store_ValueError⟩
theorem bsL : Bs "LookupError" "LookupError.__new__" "LookupError.__init__" [.type "LookupError", .type "Exception", .type "BaseException", .type "object"] := ⟨F.excBase_LookupError, F.store_LookupError⟩
theorem bsR : Bs "RuntimeError" "RuntimeError.__new__" "RuntimeError.__init__" [.type "RuntimeError", .type "Exception", .type "BaseException", .type "object"] := ⟨F.excBase_RuntimeError, F.store_RuntimeError⟩
theorem bsO : Bs "OverflowError" "OverflowError.__new__" "OverflowError.__init__" [.type "OverflowError", .type "ArithmeticError", .type "Exception", .type "BaseException", .type "object"] := ⟨F.excBase_OverflowError, F.store_OverflowError⟩
/-- an error class of the program, straight over a built-in one -/
structure Own (K : PySem.W.Frag) (newId : String) (bmB : List Value) (C : Addr) : Prop where
  cls : ∃ nm q N bs sn sub ab col dd k0 k1 k2 k3 k5, K.lookup C = some (excClassObj nm q C N bs bmB true sn sub ab col dd k0 k1 k2 k3 k5 newId)
  over : PySem.W.excOver K C bmB = true
  sa : PySem.W.findIn K (.ref C) "__setattr__" = some (some (.builtin "object.__setattr__"))
  ga : PySem.W.findIn K (.ref C) "__getattribute__" = some (some (.builtin "BaseException.__getattribute__"))
  gg : PySem.W.findIn K (.ref C) "__getattr__" = some none
  exC : PySem.W.subIn K (.ref C) (.type "BaseException") = some true
  tyC : PySem.W.typeIn K (.ref C) = some (.type "type")
  kC : PySem.W.keepIn K (.ref C) = true
  hdC : PySem.W.hasDictIn K C = true
  clC : PySem.W.findIn K (.ref C) "__class__" = some (some (.builtin "object.__class__"))
  mrO : PySem.W.mroIn K C (.type "object") = some true
theorem Own.data {K : PySem.W.Frag} {newId : String} {bmB : List Value} {C : Addr} (T : Own K newId bmB C) : ∃ cd, PySem.W.clsIn K C = some cd ∧ cd.hasDict = true := by
  obtain ⟨nm, q, N, bs, sn, sub, ab, col, dd, k0, k1, k2, k3, k5, e⟩ := T.cls
  refine ⟨{ name := nm, bases := bs, mro := .ref C :: bmB, ns := N, qualname := q, hasDict := true, slotNames := sn, subclasses := sub, abstract := ab, collection := col, hasDel := false }, ?_, rfl⟩
  unfold PySem.W.clsIn
  rw [e] <;> rfl
theorem taker_of {K : PySem.W.Frag} {C : Addr} {f : Str} (h : PySem.W.findIn K (.ref C) f = some none) : PySem.W.takerIn K C f = some none := by
  unfold PySem.W.takerIn
  rw [h]; rfl
section
variable {X : Cx} {pins : List (Addr × Obj)} {σ : L2.St} {H H1 H2 : Hp} {s : Shared} {a C dx : Addr} {f : Str} {newId initId B : String} {bmB : List Value}
/-- an object that stands in the heap, untracked and not of the entry, is tracked from now on -/
theorem adopt {o : HO} (I : Inv X pins σ H s) (hn : H a = none) (n0 : X.s_0.heap.get? a = none) (nL : a ≠ X.env.locals) (nC : ∀ x c, X.env.cells.lookup x = some c → c ≠ a) (nP : ∀ p ∈ X.pn ++ pins, p.1 ≠ a)
    (new : ObjOk X.prog X.w (upd H a o) s.heap a o) : Inv X pins σ (upd H a o) s := by
  have up : ∀ {b : Addr} {u : HO}, H b = some u → upd H a o b = some u := fun {b u} e => by rw [upd_ne (ne_of_none e hn)]; exact e
  refine ⟨I.ok, I.os, I.bare, ⟨I.base.keep, I.base.slot, fun b q e n x => ?_, I.base.there, fun b xs e => up (I.base.tups b xs e), fun b q u e => up (I.base.frzs b q u e), fun b ps e => ?_⟩, I.loc, I.cell, ?_, fun x c e => ?_, fun p hp => ?_, fun b u e => ?_, I.len⟩
  · rw [upd_ne (fun z => by rw [z, n0] at e; cases e)]
    exact I.base.free b q e n x
  · obtain ⟨m, z⟩ := I.base.tbls b ps e
    exact ⟨m, up z⟩
  · rw [upd_ne (Ne.symm nL)]; exact I.free
  · rw [upd_ne (nC x c e)]; exact I.freeC x c e
  · obtain ⟨e, n, r⟩ := I.pin p hp
    exact ⟨e, by rw [upd_ne (nP p hp)]; exact n, r⟩
  · by_cases hb : b = a
    · subst hb
      rw [upd_same] at e; cases e
      exact new
    · rw [upd_ne hb] at e
      exact (I.hok b u e).stay (fun _ _ _ z => z) (fun c z => up z) (fun c xs z => up z)
theorem low_ne {n : Nat} {b a : Addr} (h : b < n) (h' : n ≤ a) : b ≠ a := Nat.ne_of_lt (Nat.lt_of_lt_of_le h h')
theorem get_lt_size {h : Heap} {b : Addr} {o : Obj} (e : h.get? b = some o) : b < h.objs.size := Heap.lt_size e
/-- self.f = y -/
theorem ost_one {y : V} {u : Value} {Q : Unit → Shared → Prop} {E : Value → Shared → Prop} {A : Around} (T : Own X.K newId bmB C) (SF : StoreFacts B bmB "object.__setattr__" "object") (I : Inv X pins σ H s) (e : H a = some (exo a C none)) (hno : PySem.W.findIn X.K (.ref C) f = some none) (ry : RelV y u)
    (h : ∀ dx s', H dx = none → dx ≠ a → Inv X pins σ (upd (upd H a (exo a C (some dx))) dx (exd dx [(f, y)])) s' → Q () s') : wpAny (model X.prog X.w) A (setAttr (.ref a) f u) Q E s := by
  obtain ⟨cd, hcd, hh⟩ := T.data
  obtain ⟨t1, ho⟩ := exo_at I.hok e
  obtain ⟨hp, g, d, t, os⟩ := s
  refine PySem.W.set_plain I.kIn (ox := { cls := .ref C, dict := none, data := .fields #[.ref t1, .none, .none, .none, .bool false, .none] }) (od := none) ⟨ho, rfl, rfl, trivial⟩ T.sa ?_
  refine osa_first SF I.kIn ho hcd T.over hh (taker_of hno) fun h' tk' dx k dn dne hx hns => ?_
  have hnd : H dx = none := I.hok.fresh dn
  have J := I.write (t' := tk') (x := a) (e := a) (o := exo a C (some dx)) (by rw [e]; exact True.intro) (.inl rfl) k ⟨_, hx⟩ (exo_ok hx)
  refine h dx _ hnd dne (adopt J (by rw [upd_ne dne]; exact hnd) ?_ ?_ ?_ ?_ (exd_ok hns (relO_put (fs := []) ry fun _ => True.intro)))
  · cases z : X.s_0.heap.get? dx with
    | none => rfl
    | some o => exact absurd rfl (low_ne (Nat.lt_of_lt_of_le (Heap.lt_size z) I.sz) dn)
  · exact Ne.symm (low_ne I.lt dn)
  · intro x c ec
    obtain ⟨v, ob, eo, _⟩ := I.cell x c ec
    exact low_ne (Heap.lt_size eo) dn
  · intro p hp'
    exact low_ne (Heap.lt_size (I.pin p hp').1) dn
/-- B.__init__(self, ..) -/
theorem oinit_any {us : List Value} {Q : Value → Shared → Prop} {E : Value → Shared → Prop} {A : Around} (T : Own X.K newId bmB C) (F : ExcBaseFacts B newId initId bmB) (I : Inv X pins σ H s) (e : H a = some (exo a C none)) (hl : us.length ≤ sizeLine) (h : ∀ s', Inv X pins σ H s' → Q .none s') :
    wpAny (model X.prog X.w) A (call (.builtin initId) (.ref a :: us)) Q E s := by
  obtain ⟨nm, q, N, bs, sn, sub, ab, col, dd, k0, k1, k2, k3, k5, hC⟩ := T.cls
  obtain ⟨t1, ho⟩ := exo_at I.hok e
  obtain ⟨hp, g, d, t, os⟩ := s
  refine wpAny_call (HandSPX.init_base F (fun _ => rfl) (I.kIn _ _ hC) ho hl fun h' t2 k hx => ?_)
  have J := I.write (t' := t) (x := a) (e := a) (o := exo a C none) (by rw [e]; exact True.intro) (.inl rfl) k ⟨_, hx⟩ (exo_ok hx)
  have eu : upd H a (exo a C none) = H := by
    funext b
    unfold upd
    split
    · rename_i z; rw [z, e]
    · rfl
  rw [eu] at J
  exact h _ J
def tBi (K : PySem.W.Frag) (newId : String) (bmB : List Value) (ta : TA) : TE := fun σ H Q => ta σ H fun vs H1 => ∃ (a C : Addr) (ws : List V), vs = .ref a :: ws ∧ ws.length ≤ 1000 ∧ Own K newId bmB C ∧ H1 a = some (exo a C none) ∧ Q .non H1
def tOs (K : PySem.W.Frag) (newId : String) (bmB : List Value) (f : Str) (to te : TE) : TS := fun D σ H => te σ H fun y H1 => to σ H1 fun x H2 => ∃ a C : Addr, x = .ref a ∧ Own K newId bmB C ∧ PySem.W.findIn K (.ref C) f = some none ∧ H2 a = some (exo a C none) ∧
  ∀ dx, H2 dx = none → dx ≠ a → D.nx σ (upd (upd H2 a (exo a C (some dx))) dx (exd dx [(f, y)]))
theorem pe_binit {n : Str} {o e : Expr} {es : List Expr} {ta : TA} {p1 p2 pos : Pos} {pl : Sem Bool} (F : ExcBaseFacts B newId initId bmB) (hg : Gl X n) (hm : X.mg n = none) (hv : bootBuiltins n = some (.type B)) (hn : n ≠ "__name__") (hdb : (n == ("__debug__" : Str)) = false)
    (hty : typeOf (.type B) = pure (.type "type")) (hst : Manifest.isStub B = false) (hha : PySem.W.handedIn (.builtin initId) = true) (vV : PySem.W.findCls X.K (.type B) (.type "type") "__init__" = some (.val (.builtin initId))) (ha : PA X (e :: es) ta)
    (hc : eval (.Call (.Attribute (.Name n p1) "__init__" p2) (e :: es) [] pos) X.env = (do
      let ov ← eval (.Name n p1) X.env
      standAt p2.atName
      let (f, first) ← holding [ov] (getMethod ov "__init__" pl)
      callWith pos f first (backTo pos (starEach (e :: es) X.env)) (backToKw pos (keywordEach [] X.env))) := by rfl)
    (he : starEach (e :: es) X.env = (false, eval e X.env) :: starEach es X.env := by rfl) (hpl : (backTo pos (starEach es X.env)).any (·.1) = false := by rfl) :
    PE X (.Call (.Attribute (.Name n p1) "__init__" p2) (e :: es) [] pos) (tBi X.K newId bmB ta) := by
  refine ⟨fun pins s σ H Q I h => PySem.W.methodCall_KW (ld_blt I hg hm hv ?_ hn hdb) hc⟩
  obtain ⟨m, fr⟩ := I.fr
  refine PySem.W.method_type fr I.ok.mod.kin hty hst vV hha ?_
  show wpAny _ _ (callWith pos (Value.builtin initId) [] (backTo pos (starEach (e :: es) X.env)) []) _ _ _
  refine PyProof.Rows.callWith_method1 (thn (ha.run pos pins _ σ H _ (I.tok _) h) fun us s1 ⟨vs, H1, I1, r1, a, C, ws, ev, hl, T, ea, q⟩ => ?_) he hpl
  subst ev
  cases r1 with
  | @cons _ u0 _ ur ra rr =>
    obtain rfl : u0 = Value.ref a := ra
    exact oinit_any T F I1 ea (by rw [← Paired.length rr, sizeLine_eq]; omega) fun s' J => ⟨.non, H1, J, rfl, q⟩
theorem ps_os {o e : Expr} {to te : TE} {p' pos : Pos} (SF : StoreFacts B bmB "object.__setattr__" "object") (ho : PE X o to) (he : PE X e te) (hs : swapsWith e (some (.Attribute o f p')) pos.line X.env = pure false := by rfl) : PS X (.Assign [.Attribute o f p'] e pos) (tOs X.K newId bmB f to te) := by
  refine ⟨fun pins s σ H D I h => plainObj_wpAny_Assign_Attribute (thn (he.run pins s σ H _ I h) fun v s1 ⟨y, H1, I1, r1, q1⟩ => thn (ho.run pins s1 σ H1 _ I1 q1) fun u s2 ⟨x, H2, I2, r2, a, C, ex, T, hno, ea, q⟩ => ?_) hs⟩
  subst ex
  obtain rfl : u = Value.ref a := r2
  exact ost_one T SF I2 ea hno r1 fun dx s' n ne J => ⟨σ, _, J, q dx n ne⟩
/-- the new error is let go: the heap without it -/
theorem mk_gone {hp hp2 h2 : Heap} {g1 g2 : Array GenState} {d1 d2 : Drawn} {t1 t2 : Nat} {os1 os2 : OsState} {dv : Option Addr} (I1 : Inv X pins σ H1 ⟨hp, g1, d1, t1, os1⟩)
    (ha : hp.objs.size ≤ a) (k : ∀ b o, hp.get? b = some o → hp2.get? b = some o) (un : Un (frs X.stack) [] (upd H1 a (exo a C none)) H2 hp2 h2) (hok : HOk X.prog X.w H2 h2) (ho : os2 = os1) (hb : AllBare g2) (ea : H2 a = some (exo a C dv)) :
    ∃ (t0 : Addr) (G : Heap), Inv X pins σ (del H2 a) ⟨G, g2, d2, t2, os2⟩ ∧ (∀ b o, G.get? b = some o → h2.get? b = some o) ∧ G.get? a = none ∧
      h2.get? a = some ({ cls := .ref C, dict := dv, data := .fields #[.ref t0, .none, .none, .none, .bool false, .none] } : Obj) := by
  obtain ⟨t0, hoe⟩ := exo_at hok ea
  have hn : H1 a = none := I1.hok.fresh ha
  obtain ⟨G, g1', g2'⟩ := restrict h2 fun b => decide (b ≠ a)
  have gk : ∀ b, b ≠ a → G.get? b = h2.get? b := fun b q => g1' b (decide_eq_true q)
  have ga : G.get? a = none := g2' a (decide_eq_false (fun z => z rfl))
  have na : ∀ {b : Addr} {o : Obj}, hp.get? b = some o → b ≠ a := fun q => low_ne (Heap.lt_size q) ha
  have up : ∀ {b : Addr}, b ≠ a → H1 b = none → upd H1 a (exo a C none) b = none := fun q n => by rw [upd_ne q]; exact n
  have tr : ∀ {b : Addr} {u : HO}, H1 b = some u → upd H1 a (exo a C none) b = some u ∧ b ≠ a := fun q => ⟨by rw [upd_ne (ne_of_none q hn)]; exact q, ne_of_none q hn⟩
  have U : Un (frs X.stack) [] H1 (del H2 a) hp G := {
    keep := fun b o z n hf hx => by rw [gk b (na z)]; exact un.keep b o (k b o z) (up (na z) n) hf hx
    slot := fun b o z n hf hx => by rw [gk b (na z)]; exact un.slot b o (k b o z) (up (na z) n) hf hx
    free := fun b o z n hx => by rw [del_ne (na z)]; exact un.free b o (k b o z) (up (na z) n) hx
    there := fun b o z hx => by rw [gk b (na z)]; exact un.there b o (k b o z) hx
    tups := fun b xs z => by rw [del_ne (tr z).2]; exact un.tups b xs (tr z).1
    frzs := fun b o v z => by rw [del_ne (tr z).2]; exact un.frzs b o v (tr z).1
    tbls := fun b ps z => by rw [del_ne (tr z).2]; exact un.tbls b ps (tr z).1 }
  have hok3 : HOk X.prog X.w (del H2 a) G := fun b o z => by
    have hba : b ≠ a := fun e => by rw [e, del_same] at z; cases z
    rw [del_ne hba] at z
    have noa : ∀ {c : Addr}, H2 c = some (.own b) → c ≠ a := fun hc => at_ne ea hc exo_own
    refine (hok b o z).stay (fun c v hc y => ?_) (fun c hc => by rw [del_ne (noa hc)]; exact hc) (fun c xs hc => by rw [del_ne (at_ne ea hc exo_tup)]; exact hc)
    have hca : c ≠ a := hc.elim (fun q => by rw [q]; exact hba) noa
    rw [gk c hca]; exact y
  have J : Inv X pins σ (del H2 a) ⟨G, g2, d2, t2, os2⟩ := I1.call' (ch := []) ho U hok3 hb (fun b z => absurd z (by simp))
  refine ⟨t0, G, J, fun b o z => ?_, ga, hoe⟩
  by_cases hba : b = a
  · rw [hba, ga] at z; cases z
  · exact (gk b hba).symm.trans z
/-- C(e, ..), C's own __init__ keeping sp -/
def tMkE (C : Addr) (sp : Sp) (ta : TA) : L2.St → Hp → XK → Prop := fun σ H Q => ta σ H fun vs H1 => vs.length ≤ 1000 ∧ ∀ a, H1 a = none → sp (.ref a :: vs) (upd H1 a (exo a C none))
  (fun v H2 => v = .non ∧ ((H2 a = some (exo a C none) ∧ Q (.ref C) none (del H2 a)) ∨ ∃ (d : Addr) (fs : List (Str × V)), H2 a = some (exo a C (some d)) ∧ H2 d = some (exd d fs) ∧ Q (.ref C) (some d) (upd (del H2 a) d (.xd fs)))) (fun _ _ _ => False)
/-- what such a call leaves -/
theorem made_run {vs : List V} {us : List Value} {fI : Addr} {k : Nat} {fd : FuncData} {ps : List Str} {sp : Sp} {Q : XK} {CX : CXT} (T : Own X.K newId bmB C) (F : ExcBaseFacts B newId initId bmB) (iC : PySem.W.findIn X.K (.ref C) "__init__" = some (some (.ref fI))) (tI : PySem.W.typeIn X.K (.ref fI) = some (.type "function"))
    (F1 : FnOk X.prog X.w X.K X.mg X.base CX k fI fd ps sp) (hr : Room (k + 1) X.A) (hb : Binds X.K fd ps []) (hx : Passes CX X (fun _ _ _ => False)) (I1 : Inv X pins σ H1 s) (r1 : Vals vs us) (hz : vs.length ≤ 1000)
    (q1 : ∀ a, H1 a = none → sp (.ref a :: vs) (upd H1 a (exo a C none)) (fun v H2 => v = .non ∧ ((H2 a = some (exo a C none) ∧ Q (.ref C) none (del H2 a)) ∨ ∃ (d : Addr) (fs : List (Str × V)), H2 a = some (exo a C (some d)) ∧ H2 d = some (exd d fs) ∧ Q (.ref C) (some d) (upd (del H2 a) d (.xd fs)))) (fun _ _ _ => False)) :
    wpAny (model X.prog X.w) X.A (call (.ref C) us) (MkP X pins σ Q) X.xe s := by
  obtain ⟨nm, q, N, bs, sn, sub, ab, col, dd, k0, k1, k2, k3, k5, hC⟩ := T.cls
  obtain ⟨hp, g, dr, tk, os⟩ := s
  have hsz : hp.objs.size ≤ hp.objs.size + 1 := Nat.le_succ _
  have hq := q1 (hp.objs.size + 1) (I1.hok.fresh hsz)
  obtain ⟨hp2, ehp⟩ : ∃ hp2, hp2 = (hp.push (PySem.W.kdv_tup us)).push (HandSPX.excO C hp.objs.size) := ⟨_, rfl⟩
  have kk : ∀ b o, hp.get? b = some o → hp2.get? b = some o := fun b o e => by rw [ehp]; exact Heap.get?_push_of_some _ (Heap.get?_push_of_some _ e)
  have hget : hp2.get? (hp.objs.size + 1) = some (HandSPX.excO C hp.objs.size) := by rw [ehp]; heap_get
  have I2 : Inv X pins σ (upd H1 (hp.objs.size + 1) (exo (hp.objs.size + 1) C none)) ⟨hp2, g, dr, tk, os⟩ := I1.laid (t' := tk) kk hsz (exo_ok hget)
  have r2 : Vals (V.ref (hp.objs.size + 1) :: vs) (Value.ref (hp.objs.size + 1) :: us) := .cons rfl r1
  have hl : (Value.ref (hp.objs.size + 1) :: us ++ []).length = ps.length := by
    rw [List.append_nil, ← r2.length]; exact F1.len _ _ _ _ hq
  have hus : us.length ≤ sizeLine := by rw [← Paired.length r1, sizeLine_eq]; omega
  refine wpAny_call (HandSPX.call_own F (fun _ => rfl) (I1.kIn _ _ hC) (PySem.W.looks_findIn I1.kIn iC) (fun self => PySem.W.bind_fn I1.kIn self tI) hus ?_)
  rw [← ehp]
  refine codeAny_mono (F1.run _ X.stack _ _ ⟨Value.ref (hp.objs.size + 1) :: us, []⟩ (Value.ref (hp.objs.size + 1) :: us) _ _ (fun _ _ _ => False) (hr.make C us []) (I2.env0.make C us []) ?_ r2 hq) fun r s' hq' => ?_
  · have z := hb ⟨hp2, g, dr, tk, os⟩ (Value.ref (hp.objs.size + 1) :: us) I2.kIn hl
    rw [List.append_nil] at z; exact z
  cases r with
  | error er => exact hx pins σ _ _ er s' I2 hq'
  | ok fl =>
    cases fl with
    | ret u =>
      obtain ⟨v, H2, os2, bare2, un2, hok2, rv, ev, alt⟩ := hq'
      subst ev
      obtain ⟨h2, g2, d2, t2, os'⟩ := s'
      refine ⟨rv, ?_⟩
      rcases alt with ⟨ea, q2⟩ | ⟨d, fs, ea, ed, q2⟩
      · obtain ⟨t0, G, J, kG, ge, hoe⟩ := mk_gone (d2 := d2) (t2 := t2) I1 hsz kk un2 hok2 os2 bare2 ea
        exact ⟨_, _, _, ⟨G, g2, d2, t2, os'⟩, _, .ref C, none, rfl, J, kG, ge, hoe, ⟨rfl, rfl⟩, rfl, rfl, del_same, rfl, bare2, raises_own T.exC T.tyC, q2⟩
      · obtain ⟨t0, G, J, kG, ge, hoe⟩ := mk_gone (d2 := d2) (t2 := t2) I1 hsz kk un2 hok2 os2 bare2 ea
        have hda : d ≠ hp.objs.size + 1 := fun z => by
          rw [z] at ed
          obtain ⟨mA, ⟨ob, es, ep, e1, e2, _⟩, _⟩ := exd_at hok2 ed
          rw [hoe] at e1
          have z2 := Option.some.inj e1
          subst z2
          cases e2
        have ed' : del H2 (hp.objs.size + 1) d = some (exd d fs) := by rw [del_ne hda]; exact ed
        obtain ⟨mA, ns, rel⟩ := exd_at J.hok ed'
        have J2 := J.write (t' := t2) (h' := G) (x := d) (e := d) (o := .xd fs) (by rw [ed']; exact True.intro) (.inl rfl) (fun _ _ _ z => z) (by obtain ⟨ob, _, _, e1, _⟩ := ns; exact ⟨ob, e1⟩) ⟨mA, ns, rel⟩
        exact ⟨_, _, _, ⟨G, g2, d2, t2, os'⟩, _, .ref C, some d, rfl, J2, kG, ge, hoe, ⟨rfl, rfl⟩, rfl, rfl, by rw [upd_ne (Ne.symm hda)]; exact del_same, rfl, bare2, raises_own T.exC T.tyC, q2⟩
    | next => exact False.elim hq'
    | brk => exact False.elim hq'
    | cont => exact False.elim hq'
theorem pmk_e {x : Str} {fI : Addr} {k : Nat} {fd : FuncData} {ps : List Str} {sp : Sp} {CX : CXT} {e : Expr} {es : List Expr} {ta : TA} {p pos : Pos} (T : Own X.K newId bmB C) (F : ExcBaseFacts B newId initId bmB) (iC : PySem.W.findIn X.K (.ref C) "__init__" = some (some (.ref fI))) (tI : PySem.W.typeIn X.K (.ref fI) = some (.type "function"))
    (F1 : FnOk X.prog X.w X.K X.mg X.base CX k fI fd ps sp) (hr : Room (k + 1) X.A) (hb : Binds X.K fd ps []) (hx : Passes CX X (fun _ _ _ => False)) (hg : Gl X x) (hm : X.mg x = some (.ref C)) (ha : PA X (e :: es) ta)
    (hdb : (x == ("__debug__" : Str)) = false := by decide) (he : starEach (e :: es) X.env = (false, eval e X.env) :: starEach es X.env := by rfl) (hpl : (backTo pos (starEach es X.env)).any (·.1) = false := by rfl) :
    PMk X (.Call (.Name x p) (e :: es) [] pos) (tMkE C sp ta) := by
  intro pins s σ H Q I h
  refine wpAny_Call_Name_kw (ld_glob I hg hm ?_ hdb)
  exact PySem.W.callWith_K (h₀ := X.base) I.ok.mod.kin T.kC (thn (ha.run pos pins s σ H _ I h) fun us s1 ⟨vs, H1, I1, r1, hz, q1⟩ => ⟨I1.kIn, made_run T F iC tI F1 hr hb hx I1 r1 hz q1⟩) he hpl
end
end Pc
namespace Pc
open PySem PySem.Spec PyProof.Rows L2 RZ
/-! ### errors of the program: caught, kept, looked at -/
section
open PySem.W
variable {M : Model} {K : Frag} {h : Heap}
theorem Looks.bind' {α β : Type} {x : Sem α} {f : α → Sem β} {a : α} {b : β} (hx : Looks M h x a) (hf : Looks M h (f a) b) : Looks M h (x >>= f) b := fun A Q E s k q =>
  wpAny_bind (hx A _ E s k (hf A Q E s k q))
theorem loop_all {α β : Type} {f : α → β → Sem (ForInStep β)} {b : β} : ∀ cs : List α, (∀ c ∈ cs, Looks M h (f c b) (.yield b)) → Looks M h (forIn cs b f) b
  | [], _ => by rw [List.forIn_nil]; exact .now
  | c :: cs, hc => by
    rw [List.forIn_cons]
    exact Looks.bind' (hc c List.mem_cons_self) (loop_all cs fun c' h' => hc c' (List.mem_cons_of_mem _ h'))
theorem loop_any {α β : Type} {f : α → β → Sem (ForInStep β)} {b b1 : β} : ∀ (bs : List Bool) (cs : List α), bs.length = cs.length → bs.any id = true → (∀ (i : Nat) (c : α) (y : Bool), cs[i]? = some c → bs[i]? = some y → Looks M h (f c b) (if y = true then .done b1 else .yield b)) → Looks M h (forIn cs b f) b1
  | [], [], _, e, _ => absurd e (by decide)
  | y :: bs, c :: cs, hl, e, hc => by
    rw [List.forIn_cons]
    have h0 := hc 0 c y rfl rfl
    cases y with
    | true => exact Looks.bind' h0 .now
    | false => exact Looks.bind' h0 (loop_any bs cs (Nat.succ.inj hl) e fun i c' y' h1 h2 => hc (i + 1) c' y' h1 h2)
/-- an except clause with several classes, of which one is the error's -/
theorem exm_some {cls : Value} {cs : List Value} {tp e : Addr} {o : Obj} {n : Nat} (X : K.In h) (LT : Looks M h (typeOf (.ref e)) cls) (hp : h.get? tp = some o) (hc : o.cls = .type "tuple") (hd : o.data = .seq cs.toArray n) (bs : List Bool) (hl : bs.length = cs.length) (hb : bs.any id = true)
    (hx : ∀ (i : Nat) (c : Value) (y : Bool), cs[i]? = some c → bs[i]? = some y → exmOne K cls c = some y) : Looks M h (excMatches (.ref e) (.ref tp)) true := by
  have at_ : ∀ c ∈ cs, ∃ y, exmOne K cls c = some y := fun c hm => by
    obtain ⟨i, hi, rfl⟩ := List.getElem_of_mem hm
    exact ⟨bs[i]'(by omega), hx i _ _ (List.getElem?_eq_getElem hi) (List.getElem?_eq_getElem _)⟩
  have L0 : Looks M h (isInstance (.ref tp) (.type "tuple")) true := fun A Q E s k q => by
    refine wpAny_bind (wpAny_typeOf_ref (k _ _ hp) ?_)
    rw [hc]
    exact (Looks.of_pure isSubtype_tuple_tuple) A Q E s k q
  unfold excMatches
  refine Looks.bind' L0 ?_
  dsimp only
  rw [if_pos rfl]
  refine Looks.bind' (a := some cs.toArray) (fun A Q E s k q => wpAny_seqItems (k _ _ hp) hd q) ?_
  refine Looks.bind' (a := cs) .now ?_
  refine Looks.bind' (a := PUnit.unit) (loop_all cs fun c hm => ?_) ?_
  · obtain ⟨y, hy⟩ := at_ c hm
    refine Looks.bind' (exm_cls X hy).1 ?_
    exact .now
  refine Looks.bind' LT ?_
  refine Looks.bind' (loop_any (b1 := (some true, ())) bs cs hl hb fun i c y h1 h2 => Looks.bind' (exm_cls X (hx i c y h1 h2)).2 ?_) ?_
  · cases y <;> exact .now
  · exact .now
end
end Pc
namespace Pc
open PySem PySem.Spec PyProof.Rows L2 RZ
/-- an error that was caught and is kept: its class, its dict -/
def exk (a : Addr) (cls : Value) (d : Option Addr) : HO := .ext fun h => ∃ (oe : Obj) (vs : Array Value), h.get? a = some oe ∧ Zc cls d oe ∧ oe.data = .fields vs
theorem exk_ok {P : Program} {w : World} {H : Hp} {h : Heap} {a : Addr} {cls : Value} {d : Option Addr} {oe : Obj} {vs : Array Value} (e : h.get? a = some oe) (z : Zc cls d oe) (q : oe.data = .fields vs) : ObjOk P w H h a (exk a cls d) :=
  ⟨⟨oe, vs, e, z, q⟩, ⟨oe, e⟩, fun _ _ ⟨o, v, r, r'⟩ k => ⟨o, v, k o r, r'⟩⟩
theorem exk_at {P : Program} {w : World} {H : Hp} {h : Heap} {a : Addr} {cls : Value} {d : Option Addr} (hok : HOk P w H h) (e : H a = some (exk a cls d)) : ∃ (oe : Obj) (vs : Array Value), h.get? a = some oe ∧ Zc cls d oe ∧ oe.data = .fields vs := by
  have x : ObjOk P w H h a (.ext fun h => ∃ (oe : Obj) (vs : Array Value), h.get? a = some oe ∧ Zc cls d oe ∧ oe.data = .fields vs) := hok a _ e
  exact x.1
theorem fly_keeps {B h h' : Heap} {l : List PySem.Env} {e : Addr} {Z : Obj → Prop} (R : HandSPX.FlyingZ B l e Z h) (k : ∀ b o, h.get? b = some o → h'.get? b = some o) : HandSPX.FlyingZ B l e Z h' := by
  obtain ⟨f1, f2, f3, oe, ws, T, oT, ts, r1, r2, r3, r4, r5, r6, r7, r8⟩ := R
  exact ⟨fun b o q => k b o (f1 b o q), f2, f3.of_keeps fun b o q _ => ⟨o, k b o q, rfl⟩, oe, ws, T, oT, ts, k _ _ r1, r2, r3, r4, r5, r6, k _ _ r7, r8⟩
/-- names of classes, one by one -/
def NamesAll (X : Cx) (es : List Expr) (cs : List Value) : Prop := Paired (fun (e : Expr) c => ∃ (x : Str) (p : Pos), e = .Name x p ∧ Names X x c) es cs
theorem names_run {X : Cx} {pins : List (Addr × Obj)} {σ : L2.St} {H : Hp} {s : Shared} {E : Value → Shared → Prop} {pos : Pos} (I : Inv X pins σ H s) :
    ∀ {es : List Expr} {cs : List Value} {Q : List Value → Shared → Prop}, NamesAll X es cs → Q cs s → wpAny (model X.prog X.w) X.A (spliced (backTo pos (starEach es X.env))) Q E s := by
  intro es cs Q h
  revert Q
  induction h with
  | nil => intro Q q; exact wpAny_items_nil q
  | cons h1 _ ih =>
    intro Q q
    obtain ⟨x, p, rfl, hg, hdb, hm⟩ := h1
    refine wpAny_items_cons ?_
    rcases hm with hm | ⟨hm, hv, hn⟩
    · exact ld_glob I hg hm (ih q) hdb
    · exact ld_blt I hg hm hv (ih q) hn hdb
/-- of which classes the error is -/
def Hits (K : PySem.W.Frag) (cls : Value) (cs : List Value) : Prop := ∃ bs : List Bool, bs.length = cs.length ∧ bs.any id = true ∧ ∀ (i : Nat) (c : Value) (y : Bool), cs[i]? = some c → bs[i]? = some y → PySem.W.exmOne K cls c = some y
/-- what 'except (..) as n: suite' wishes of an error of the body (slot i is n's): the error is kept -/
def wKept (K : PySem.W.Frag) (cs : List Value) (i : Nat) (ts : Addr → TS) (D : Ends) : WX := fun cls d σ H => Hits K cls cs ∧ ∀ a, H a = none →
  ts a { nx := fun σ' H' => D.nx (σ'.set i none) (upd H' a (exk a cls d)), rt := fun _ _ => False } (σ.set i (some (.ref a))) H
section
variable {X : Cx} {n : Str} {i : Nat} {body suite : List Stmt} {b₀ : Stmt} {es : List Expr} {cs : List Value} {kk : Nat} {tpos pos pos' : Pos} {tb : WX → TS} {ts : Addr → TS}
theorem ps_try_kept (hex : X.ex = []) (hs : X.stack = X.env :: X.outer) (hf : X.env.frame = some X.env.locals) (hN : X.N.Nodup) (hi : X.N[i]? = some n) (hln : X.env.kindOf n = some .local) (hc : NamesAll X es cs) (hcl : cs.length ≤ 1000)
    (hb : ∀ (W : WX) (pn : List (Addr × Obj)) (xe : Value → Shared → Prop), Takes (X.tr pn xe) W → PassesOwn (model X.prog X.w) X.A X.env xe → PSs (X.tr pn xe) body (tb W))
    (hsu : ∀ (a : Addr) (oe : Obj) (pn : List (Addr × Obj)), PSs (X.suite a ((a, oe) :: pn)) (b₀ :: suite) (ts a)) :
    PS X (.Try body [.ExceptHandler (some (.Tuple es kk tpos)) (some n) (b₀ :: suite) pos'] [] [] pos) (fun D σ H => tb (wKept X.K cs i ts D) D σ H) := by
  refine ⟨fun pins s σ H D I h => ?_⟩
  have ok := I.ok
  have hfr : X.A.frames = some (X.env :: X.outer) := by rw [ok.frames, hs]
  refine wpAny_Try_except (wpAny_mono ((hb (wKept X.K cs i ts D) (X.pn ++ pins) (fun e s₁ => wpAny (model X.prog X.w) X.A (noteFrame e X.env) (fun _ s₂ => wpAny (model X.prog X.w) X.A (setFlight e none) (fun _ s₃ =>
    wpAny (model X.prog X.w) X.A (handleBy e X.env [.ExceptHandler (some (.Tuple es kk tpos)) (some n) (b₀ :: suite) pos']) (SP X pins D) X.xe s₃) X.xe s₂) X.xe s₁) (fun u s' xx => ?_) PassesOwn.looking).run [] s σ H D (I.toTry _) h) (fun f s1 hsp => ?_) (fun e s1 he => he))
  · obtain ⟨a, B, sI, pins', σ', H', cls, d, rfl, J', nb, up, sky, na, os, ag, ⟨bs, hbl, hba, hbx⟩, hyes⟩ := xx
    have J : Inv X pins σ' H' sI := J'.ofTry ok
    rw [hs] at sky
    show wpAny (model X.prog X.w) X.A (noteFrame (.ref a) X.env) _ _ _
    refine Sky.land Zc.steady hfr hf sky fun h3 fl3 up3 => ?_
    obtain ⟨oe3, vs3, he3, hz3, hd3⟩ := fl3.there
    have nfr : a ∉ frs (X.env :: X.outer) := fun hm => by
      obtain ⟨_, o', e', hnf⟩ := fl3.2.2.1.mem hm
      rw [he3] at e'; cases e'
      exact hnf _ hd3
    have nL : a ≠ X.env.locals := fun z => nfr (List.mem_filterMap.mpr ⟨X.env, List.mem_cons_self, by rw [hf, z]⟩)
    have nF : a ∉ X.fs := fun hm => by
      obtain ⟨e, he, q⟩ := List.mem_filterMap.mp hm
      exact nfr (List.mem_filterMap.mpr ⟨e, List.mem_cons_of_mem _ he, q⟩)
    have nI : sI.heap.get? a = none := by
      cases z : sI.heap.get? a with
      | none => rfl
      | some o =>
        have y := nb a o z (by rw [hs]; exact nfr)
        rw [fl3.2.1] at y; cases y
    have J3 : Inv X pins σ' H' { s' with heap := h3 } := J.landed nb fl3.1 (up.trans up3) os ag
    have S3 := J3.suite he3 hd3 na nL nF
    refine wpAny_handleBy_cons (codeAny_handlers_test (wpAny_Tuple_spliced (names_run (X := X.suite a ((a, oe3) :: (X.pn ++ pins))) (cs := cs) S3 (L2.Paired.mapP hc fun _ _ z => z) ⟨by rw [sizeLine_eq]; omega, ?_⟩))) (by intro q; cases q)
    dsimp only
    have kp : ∀ b o, h3.get? b = some o → (h3.push { cls := .type "tuple", data := .seq cs.toArray }).get? b = some o := fun _ _ z => Heap.get?_push_of_some _ z
    have LT : PySem.W.Looks (model X.prog X.w) (h3.push { cls := .type "tuple", data := .seq cs.toArray }) (typeOf (.ref a)) cls := fun A Q E s k q => wpAny_typeOf_ref (k _ _ (kp _ _ he3)) (by rw [hz3.1]; exact q)
    refine (exm_some (J3.kIn.keeps kp) LT (Heap.get?_push_size h3 rfl) rfl rfl bs hbl hba hbx).here ?_
    refine codeAny_handlers_suite_as (HandSPX.lands_againZ (fly_keeps fl3 kp) fun h4 fl4 up4 => ?_)
    have J4 : Inv X pins σ' H' { s' with heap := h4 } := J.landed nb fl4.1 (((up.trans up3).trans (Heap.UpToSlots.of_keeps kp)).trans up4) os ag
    obtain ⟨oe4, vs4, he4, hz4, hd4⟩ := fl4.there
    have S4 := J4.suite he4 hd4 na nL nF
    refine store_ok (X := X.suite a ((a, oe4) :: (X.pn ++ pins))) (v := .ref a) S4 hN hi (.inl hln) rfl (fun s5 S5 => ?_) (.inr hln)
    refine wpAny_mono ((hsu a oe4 (X.pn ++ pins)).run [] s5 _ H' _ S5 (hyes a na)) (fun f s6 hsp => ?_) (fun _ _ z => False.elim z)
    cases f with
    | next =>
      obtain ⟨σ6, H6, S6, q6⟩ := hsp
      refine gone_ok (X := X.suite a ((a, oe4) :: (X.pn ++ pins))) S6 hN hi hln fun s7 S7 => ⟨_, _, adopt (S7.unsuite ok) ?_ ?_ nL ?_ ?_ ?_, q6⟩
      · exact (S7.pin (a, oe4) (List.mem_append_left _ List.mem_cons_self)).2.1
      · cases z : X.s_0.heap.get? a with
        | none => rfl
        | some o =>
          obtain ⟨o', y⟩ := J.base.there a o z (by rw [hex]; exact fun q => nomatch q)
          rw [nI] at y; cases y
      · intro x c ec z
        obtain ⟨v, ob, eo, _⟩ := J.cell x c ec
        rw [z, nI] at eo; cases eo
      · intro p hp z
        have y := (J.pin p hp).1
        rw [z, nI] at y; cases y
      · exact exk_ok (S7.pin (a, oe4) (List.mem_append_left _ List.mem_cons_self)).1 hz4 hd4
    | brk => obtain ⟨σ6, H6, S6, q6⟩ := hsp; exact q6.elim
    | cont => obtain ⟨σ6, H6, S6, q6⟩ := hsp; exact q6.elim
    | ret u => obtain ⟨v6, σ6, H6, S6, r6, q6⟩ := hsp; exact q6.elim
  · cases f with
    | next => obtain ⟨σ', H', J', q⟩ := hsp; exact wpAny_execs_nil ⟨σ', H', J'.ofTry ok, q⟩
    | brk => obtain ⟨σ', H', J', q⟩ := hsp; exact ⟨σ', H', J'.ofTry ok, q⟩
    | cont => obtain ⟨σ', H', J', q⟩ := hsp; exact ⟨σ', H', J'.ofTry ok, q⟩
    | ret u => obtain ⟨v, σ', H', J', r, q⟩ := hsp; exact ⟨v, σ', H', J'.ofTry ok, r, q⟩
end
end Pc
namespace Pc
open PySem PySem.Spec PyProof.Rows L2 RZ
/-- what isinstance asks of the class of a kept error -/
structure KeptC (K : PySem.W.Frag) (C : Addr) : Prop where
  ga : PySem.W.findIn K (.ref C) "__getattribute__" = some (some (.builtin "BaseException.__getattribute__"))
  gg : PySem.W.findIn K (.ref C) "__getattr__" = some none
  exC : PySem.W.subIn K (.ref C) (.type "BaseException") = some true
  hdC : PySem.W.hasDictIn K C = true
  clC : PySem.W.findIn K (.ref C) "__class__" = some (some (.builtin "object.__class__"))
  mrO : PySem.W.mroIn K C (.type "object") = some true
  sp : PySem.W.specialIn K (.builtin "object.__class__") "__get__" = some (some (.builtin "getset_descriptor.__get__"))
  tk : PySem.W.takesIn K (.builtin "object.__class__") = some true
/-- a kept error with its dict -/
def Kept (H : Hp) (a C : Addr) (d : Option Addr) : Prop := H a = some (exk a (.ref C) d) ∧ (d = none ∨ ∃ dd fs, d = some dd ∧ H dd = some (.xd fs))
section
variable {X : Cx} {pins : List (Addr × Obj)} {σ : L2.St} {H : Hp} {s : Shared} {a C : Addr} {d : Option Addr}
theorem kept_inst (I : Inv X pins σ H s) (h : Kept H a C d) : ∃ (oe : Obj) (od : Option Obj), PySem.W.InstAt s.heap a oe C od := by
  obtain ⟨e, hd⟩ := h
  obtain ⟨oe, vs, ho, hz, hv⟩ := exk_at I.hok e
  have nc : PySem.W.notCls oe = true := by unfold PySem.W.notCls; rw [hv] <;> rfl
  rcases hd with rfl | ⟨dd, fs, rfl, ed⟩
  · exact ⟨oe, none, ho, hz.1, nc, by rw [hz.2]; trivial⟩
  · obtain ⟨mA, ⟨od, es, ep, q, _⟩, _⟩ := (show ObjOk X.prog X.w H s.heap dd (.xd fs) from I.hok dd _ ed)
    exact ⟨oe, some od, ho, hz.1, nc, by rw [hz.2]; exact q⟩
theorem kept_kit (T : KeptC X.K C) {oe : Obj} {od : Option Obj} : PySem.W.KitX X.K (.ref a) (.ref C) (fun h => PySem.W.InstAt h a oe C od) :=
  PySem.W.kitx_exc (by obtain ⟨cd, hc, _⟩ := PySem.W.any_some T.hdC; rw [hc]; rfl) T.ga T.gg T.exC T.clC T.sp T.tk T.mrO
/-- isinstance(e, c), e a kept error -/
def rIsk (K : PySem.W.Frag) : List V → Hp → VK → Prop := fun xs H Q => ∃ (a C : Addr) (d : Option Addr) (c : V) (u : Value) (b : Bool), xs = [.ref a, c] ∧ Kept H a C d ∧ KeptC K C ∧ ClsV c u ∧ PySem.W.kitOne K (.ref C) u = some b ∧ Q (.bl b) H
theorem call_isk : CallR X (.builtin "isinstance") (rIsk X.K) := by
  intro pins s σ H xs us Q I r h
  obtain ⟨a, C, d, c, u, b, rfl, hk, T, k, e, q⟩ := h
  obtain ⟨u1, u2, rfl, r1, r2⟩ := vals2 r
  cases (show u1 = Value.ref a from r1)
  have e2 := k.eq r2
  subst e2
  obtain ⟨oe, od, J⟩ := kept_inst I hk
  exact PySem.W.kia_one (kept_kit T) I.kIn J e (fun z => nomatch z) fun tk => ⟨.bl b, H, I.tok tk, rfl, q⟩
/-- isinstance(e, (c, ..)) -/
def rIskT (K : PySem.W.Frag) : List V → Hp → VK → Prop := fun xs H Q => ∃ (a C : Addr) (d : Option Addr) (tp : Addr) (cs : List V) (us : List Value) (b : Bool), xs = [.ref a, .ref tp] ∧ Kept H a C d ∧ KeptC K C ∧ H tp = some (.tup cs) ∧ Paired ClsV cs us ∧ PySem.W.kitAny K (.ref C) us = some b ∧ Q (.bl b) H
theorem call_iskT : CallR X (.builtin "isinstance") (rIskT X.K) := by
  intro pins s σ H xs us Q I r h
  obtain ⟨a, C, d, tp, cs, ws, b, rfl, hk, T, hT, k, e, q⟩ := h
  obtain ⟨u1, u2, rfl, r1, r2⟩ := vals2 r
  cases (show u1 = Value.ref a from r1)
  cases (show u2 = Value.ref tp from r2)
  obtain ⟨oe, od, J⟩ := kept_inst I hk
  obtain ⟨_, its, rv, o, h1, h2, n, h3⟩ := (show ObjOk X.prog X.w H s.heap tp (.tup cs) from I.hok tp _ hT)
  have e3 := ClsV.all k rv
  subst e3
  obtain ⟨oc, od', dt, sl⟩ := o
  simp only at h2 h3
  subst h2 h3
  exact PySem.W.kia_tup (kept_kit T) I.kIn J h1 e (fun z => nomatch z) fun tk => ⟨.bl b, H, I.tok tk, rfl, q⟩
/-- e.f, e a kept error -/
def tKf (K : PySem.W.Frag) (f : Str) (te : TE) : TE := fun σ H Q => te σ H fun x H1 => ∃ (a C dd : Addr) (fs : List (Str × V)) (v : V), x = .ref a ∧ H1 a = some (exk a (.ref C) (some dd)) ∧ KeptC K C ∧ PySem.W.findIn K (.ref C) f = some none ∧ H1 dd = some (.xd fs) ∧ fs.lookup f = some v ∧ Q v H1
theorem pe_kf {e : Expr} {te : TE} {f : Str} {pos : Pos} (he : PE X e te) (hb : attributeBase e f X.env (eval e X.env) = eval e X.env := by rfl) : PE X (.Attribute e f pos) (tKf X.K f te) := by
  refine ⟨fun pins s σ H Q I h => attr_of hb (thn (he.run pins s σ H _ I h) fun u s1 hh => ?_)⟩
  obtain ⟨x, H1, I1, rx, a, C, dd, fs, v, ex, ea, T, hno, ed, l, q⟩ := hh
  subst ex
  obtain rfl : u = Value.ref a := rx
  obtain ⟨oe, vs, ho, hz, hv⟩ := exk_at I1.hok ea
  obtain ⟨mA, hns, hr⟩ := (show ObjOk X.prog X.w H1 s1.heap dd (.xd fs) from I1.hok dd _ ed)
  obtain ⟨od, hod, hl⟩ := lookIn_ns hns
  obtain ⟨w', hw, rw'⟩ := RelO.some_of (v := v) (o := mA f) (by rw [← l]; exact hr f)
  have J : PySem.W.InstAt s1.heap a oe C (some od) := ⟨ho, hz.1, by unfold PySem.W.notCls; rw [hv] <;> rfl, by rw [hz.2]; exact hod⟩
  exact HandSPX.exc_get I1.kIn J T.ga T.gg T.exC (PySem.W.findObj_own T.hdC hno rfl (by rw [hl, hw])) (handed_of rw') ⟨v, H1, I1.tok _, rw', q⟩
end
end Pc
namespace Pc
open PySem PySem.Spec PyProof.Rows L2 RZ
/-! ### errors with one field: made, flying -/
/-- an error of the class at C with the field f flies, from the heap H on -/
def Flies (C : Addr) (f : Str) (v : V) (H : Hp) (E : XK) : Prop := ∀ d H', Same H H' → H d = none → H' d = some (.xd [(f, v)]) → E (.ref C) (some d) H'
theorem Flies.same {C : Addr} {f : Str} {v : V} {H H1 : Hp} {E : XK} (h : Flies C f v H E) (s : Same H H1) : Flies C f v H1 E := fun d H' s' n e => h d H' (s.trans s') (s.free n) e
def spInit1 (C : Addr) (f : Str) : Sp := fun vs H Q _ => ∃ (a : Addr) (v : V), vs = [.ref a, v] ∧ H a = some (exo a C none) ∧ ∀ dx, H dx = none → dx ≠ a → Q .non (upd (upd H a (exo a C (some dx))) dx (exd dx [(f, v)]))
theorem raised1 {C : Addr} {f : Str} {v : V} {H1 : Hp} {Q : XK} (h : Flies C f v H1 Q) : [v].length ≤ 1000 ∧ ∀ a, H1 a = none → spInit1 C f (.ref a :: [v]) (upd H1 a (exo a C none))
    (fun v' H2 => v' = .non ∧ ((H2 a = some (exo a C none) ∧ Q (.ref C) none (del H2 a)) ∨ ∃ (d : Addr) (fs : List (Str × V)), H2 a = some (exo a C (some d)) ∧ H2 d = some (exd d fs) ∧ Q (.ref C) (some d) (upd (del H2 a) d (.xd fs)))) (fun _ _ _ => False) := by
  refine ⟨(by show 1 ≤ 1000; decide), fun a na => ⟨a, v, rfl, upd_same, fun dx nd ne => ⟨rfl, .inr ⟨dx, [(f, v)], ?_, upd_same, h dx _ ?_ ?_ upd_same⟩⟩⟩⟩
  · rw [upd_ne (Ne.symm ne), upd_same]
  · intro b o hb
    have nd' : H1 dx = none := by rw [upd_ne ne] at nd; exact nd
    have hbd := ne_of_none hb nd'
    have hba := ne_of_none hb na
    rw [upd_ne hbd, del_ne hba, upd_ne hbd, upd_ne hba, upd_ne hba]
    exact hb
  · rw [upd_ne ne] at nd; exact nd
/-- the try's wish of such an error -/
theorem kept1 {K : PySem.W.Frag} {C : Addr} {f : Str} {v : V} {cs : List Value} {i : Nat} {ts : Addr → TS} {D : Ends} {σ : L2.St} {H : Hp} (hh : Hits K (.ref C) cs)
    (h : ∀ d H' a, Same H H' → H d = none → H' d = some (.xd [(f, v)]) → H' a = none → a ≠ d → ts a { nx := fun σ' H'' => D.nx (σ'.set i none) (upd H'' a (exk a (.ref C) (some d))), rt := fun _ _ => False } (σ.set i (some (.ref a))) H') :
    Flies C f v H (fun cls d H' => wKept K cs i ts D cls d σ H') := fun d H' s n e => ⟨hh, fun a na => h d H' a s n e na (fun z => by rw [z, e] at na; cases na)⟩
theorem Kept.mk1 {H' : Hp} {a d C : Addr} {fs : List (Str × V)} (e : H' d = some (.xd fs)) (n : H' a = none) : Kept (upd H' a (exk a (.ref C) (some d))) a C (some d) :=
  ⟨upd_same, .inr ⟨d, fs, rfl, by rw [upd_ne (ne_of_none e n)]; exact e⟩⟩
theorem Kept.same {H H' : Hp} {a C : Addr} {d : Option Addr} (h : Kept H a C d) (s : Same H H') : Kept H' a C d :=
  ⟨s _ _ h.1, h.2.imp id fun ⟨dd, fs, e, z⟩ => ⟨dd, fs, e, s _ _ z⟩⟩
theorem over_of {K : PySem.W.Frag} {C : Addr} {bmB : List Value} {newId : String} {nm q : Str} {N : Addr} {bs : List Value} {sn : List Str} {sub : List Value} {ab : Bool} {col : Option Bool} {dd : Option Addr} {k0 k1 k2 k3 k5 : Option Value}
    (h : K.lookup C = some (excClassObj nm q C N bs bmB true sn sub ab col dd k0 k1 k2 k3 k5 newId)) (ht : PySem.W.excTail bmB bmB = true) : PySem.W.excOver K C bmB = true := by
  have e : PySem.W.clsIn K C = some { name := nm, bases := bs, mro := .ref C :: bmB, ns := N, qualname := q, hasDict := true, slotNames := sn, subclasses := sub, abstract := ab, collection := col, hasDel := false } := by
    unfold PySem.W.clsIn
    rw [h] <;> rfl
  unfold PySem.W.excOver
  rw [e]
  show ((C == C) && PySem.W.excTail bmB bmB) = true
  rw [ht, beq_self_eq_true]; rfl
theorem kcls_of {K : PySem.W.Frag} {t : Value} {D : Addr} {b : Bool} (h2 : PySem.W.isClsIn K D = true) (h3 : PySem.W.typeIn K (.ref D) = some (.type "type")) (h4 : PySem.W.subIn K t (.ref D) = some b) : PySem.W.kitCls K t (.ref D) = some b := by
  have e2 : ((PySem.W.clsIn K D).isSome && PySem.W.typeIn K (.ref D) == some (.type "type")) = true := by
    have h2' : (PySem.W.clsIn K D).isSome = true := h2
    rw [h2', h3] <;> rfl
  show (if ((PySem.W.clsIn K D).isSome && PySem.W.typeIn K (.ref D) == some (.type "type")) = true then PySem.W.subIn K t (.ref D) else none) = some b
  rw [if_pos e2]
  exact h4
theorem exm_of' {K : PySem.W.Frag} {t : Value} {D : Addr} {b : Bool} (h1 : PySem.W.subIn K (.ref D) (.type "BaseException") = some true) (h2 : PySem.W.isClsIn K D = true) (h3 : PySem.W.typeIn K (.ref D) = some (.type "type")) (h4 : PySem.W.subIn K t (.ref D) = some b) : PySem.W.exmOne K t (.ref D) = some b := by
  have e1 : (PySem.W.subIn K (.ref D) (.type "BaseException") == some true) = true := by rw [h1] <;> rfl
  show (if (PySem.W.subIn K (.ref D) (.type "BaseException") == some true) = true then PySem.W.kitCls K t (.ref D) else none) = some b
  rw [if_pos e1]
  exact kcls_of h2 h3 h4
theorem kit_own {K : PySem.W.Frag} {C D : Addr} {b : Bool} (h0 : PySem.W.subIn K (.ref C) (.ref C) = some true) (h2 : PySem.W.isClsIn K D = true) (h3 : PySem.W.typeIn K (.ref D) = some (.type "type")) (h4 : PySem.W.subIn K (.ref C) (.ref D) = some b) : PySem.W.kitOne K (.ref C) (.ref D) = some b := by
  by_cases e : C = D
  · subst e
    rw [h0] at h4
    rw [← h4]
    show (if ((Value.ref C) == (Value.ref C)) = true then some true else _) = some true
    rw [if_pos (beq_self_eq_true _)]
  · have n : ((Value.ref C) == (Value.ref D)) = false := beq_false_of_ne (fun z => e (Value.ref.inj z))
    show (if ((Value.ref C) == (Value.ref D)) = true then some true else PySem.W.kitCls K (.ref C) (.ref D)) = some b
    rw [if_neg (by rw [n]; exact Bool.false_ne_true)]
    exact kcls_of h2 h3 h4
theorem kit_blt {K : PySem.W.Frag} {C : Addr} {T : String} {b : Bool} (hm : PySem.W.kitMeta T = true) (h4 : PySem.W.subIn K (.ref C) (.type T) = some b) : PySem.W.kitOne K (.ref C) (.type T) = some b := by
  have n : ((Value.ref C) == (Value.type T)) = false := beq_false_of_ne (fun z => nomatch z)
  show (if ((Value.ref C) == (Value.type T)) = true then some true else (if PySem.W.kitMeta T = true then PySem.W.subIn K (.ref C) (.type T) else none)) = some b
  rw [if_neg (by rw [n]; exact Bool.false_ne_true), if_pos hm]
  exact h4
theorem kit_all {K : PySem.W.Frag} {t : Value} : ∀ {us : List Value}, (∀ u ∈ us, PySem.W.kitOne K t u = some false) → PySem.W.kitAny K t us = some false
  | [], _ => rfl
  | u :: us, h => by
    show (match PySem.W.kitOne K t u with | some true => some true | some false => PySem.W.kitAny K t us | none => none) = some false
    rw [h u List.mem_cons_self]
    exact kit_all fun x hx => h x (List.mem_cons_of_mem _ hx)
end Pc
namespace Pc
open PySem PySem.Spec PyProof.Rows L2 RZ
theorem kit_nil {K : PySem.W.Frag} {t : Value} : PySem.W.kitAny K t [] = some false := rfl
theorem kit_cons {K : PySem.W.Frag} {t u : Value} {us : List Value} (h : PySem.W.kitOne K t u = some false) (r : PySem.W.kitAny K t us = some false) : PySem.W.kitAny K t (u :: us) = some false := by
  show (match PySem.W.kitOne K t u with | some true => some true | some false => PySem.W.kitAny K t us | none => none) = some false
  rw [h]
  exact r
theorem hits_of {K : PySem.W.Frag} {cls : Value} {cs : List Value} (bs : List Bool) (hb : bs.any id = true) (h : Paired (fun c b => PySem.W.exmOne K cls c = some b) cs bs) : Hits K cls cs :=
  ⟨bs, h.length.symm, hb, fun i c y hc hy => by
    obtain ⟨y', e, z⟩ := paired_get h hc
    rw [hy] at e; cases e
    exact z⟩
end Pc
namespace Pc
open PySem PySem.Spec PyProof.Rows L2 RZ
/-- two promises of one def -/
theorem FnOk.or {P : Program} {w : World} {K : PySem.W.Frag} {mg : Str → Option Value} {base : Heap} {CX : CXT} {k : Nat} {f : Addr} {fd : FuncData} {ps : List Str} {sp sp' : Sp} (F : FnOk P w K mg base CX k f fd ps sp) (G : FnOk P w K mg base CX k f fd ps sp') :
    FnOk P w K mg base CX k f fd ps (fun vs H Q E => sp vs H Q E ∨ sp' vs H Q E) where
  len vs H Q E h := h.elim (F.len vs H Q E) (G.len vs H Q E)
  run A outer s H args us vs Q E hr e0 hb r h := h.elim (F.run A outer s H args us vs Q E hr e0 hb r) (G.run A outer s H args us vs Q E hr e0 hb r)
end Pc
namespace Pc
open PySem PySem.Spec PyProof.Rows L2 RZ
def topS (i : Nat) : Stmt := PySem.Challenge.pw_partnercall_k73_texts_that_are_not_valid.main.body.getD i (.Pass ⟨0, 0, 0, 0⟩)
abbrev s_p_pairing_of : Stmt := topS 4
abbrev N_p_pairing_of : List Str := ["couples", "partners", "x", "y"]
theorem sc_p_pairing_of : FnScope ["couples", "partners", "x", "y"] ["couples"] (defScope s_p_pairing_of) := ⟨rfl, rfl, rfl, by decide +kernel, rfl, by decide +kernel, by decide +kernel⟩
abbrev s_p_number_in : Stmt := topS 8
abbrev N_p_number_in : List Str := ["text", "sign"]
theorem sc_p_number_in : FnScope ["text", "sign"] ["text"] (defScope s_p_number_in) := ⟨rfl, rfl, rfl, by decide +kernel, rfl, by decide +kernel, by decide +kernel⟩
abbrev s_p_call_in : Stmt := topS 9
abbrev N_p_call_in : List Str := ["text", "parts", "a", "b"]
theorem sc_p_call_in : FnScope ["text", "parts", "a", "b"] ["text"] (defScope s_p_call_in) := ⟨rfl, rfl, rfl, by decide +kernel, rfl, by decide +kernel, by decide +kernel⟩
abbrev s_p_pairing_in : Stmt := topS 10
abbrev N_p_pairing_in : List Str := ["text", "words", "found", "seen", "at", "word", "couple"]
theorem sc_p_pairing_in : FnScope ["text", "words", "found", "seen", "at", "word", "couple"] ["text"] (defScope s_p_pairing_in) := ⟨rfl, rfl, rfl, by decide +kernel, rfl, by decide +kernel, by decide +kernel⟩
abbrev s_p_word_in : Stmt := topS 11
abbrev N_p_word_in : List Str := ["text", "found", "at", "word", "call"]
theorem sc_p_word_in : FnScope ["text", "found", "at", "word", "call"] ["text"] (defScope s_p_word_in) := ⟨rfl, rfl, rfl, by decide +kernel, rfl, by decide +kernel, by decide +kernel⟩
abbrev s_stream : Stmt := topS 13
abbrev N_stream : List Str := ["_law_script", "_law_k", "_law_cell"]
theorem sc_stream : FnScope ["_law_script", "_law_k", "_law_cell"] ["_law_script", "_law_k"] (defScope s_stream) := ⟨rfl, rfl, rfl, by decide +kernel, rfl, by decide +kernel, by decide +kernel⟩
abbrev s_draw : Stmt := topS 14
abbrev N_draw : List Str := ["_law_source", "_law_bound", "_law_found", "_law_once", "_law_twice"]
theorem sc_draw : FnScope ["_law_source", "_law_bound", "_law_found", "_law_once", "_law_twice"] ["_law_source", "_law_bound"] (defScope s_draw) := ⟨rfl, rfl, rfl, by decide +kernel, rfl, by decide +kernel, by decide +kernel⟩
abbrev s_folded : Stmt := topS 15
abbrev N_folded : List Str := ["_law_script", "_law_most", "_law_cells", "_law_k", "_law_cell"]
theorem sc_folded : FnScope ["_law_script", "_law_most", "_law_cells", "_law_k", "_law_cell"] ["_law_script", "_law_most"] (defScope s_folded) := ⟨rfl, rfl, rfl, by decide +kernel, rfl, by decide +kernel, by decide +kernel⟩
abbrev s_pick : Stmt := topS 16
abbrev N_pick : List Str := ["_law_source", "_law_some"]
theorem sc_pick : FnScope ["_law_source", "_law_some"] ["_law_source", "_law_some"] (defScope s_pick) := ⟨rfl, rfl, rfl, by decide +kernel, rfl, by decide +kernel, by decide +kernel⟩
abbrev s_same : Stmt := topS 17
abbrev N_same : List Str := ["_law_found", "_law_due", "_law_mine", "_law_its"]
theorem sc_same : FnScope ["_law_found", "_law_due", "_law_mine", "_law_its"] ["_law_found", "_law_due"] (defScope s_same) := ⟨rfl, rfl, rfl, by decide +kernel, rfl, by decide +kernel, by decide +kernel⟩
abbrev s_shuffled : Stmt := topS 18
abbrev N_shuffled : List Str := ["_law_source", "_law_some", "_law_left", "_law_found"]
theorem sc_shuffled : FnScope ["_law_source", "_law_some", "_law_left", "_law_found"] ["_law_source", "_law_some"] (defScope s_shuffled) := ⟨rfl, rfl, rfl, by decide +kernel, rfl, by decide +kernel, by decide +kernel⟩
abbrev s_is_number : Stmt := topS 19
abbrev N_is_number : List Str := ["_law_piece", "_law_sign"]
theorem sc_is_number : FnScope ["_law_piece", "_law_sign"] ["_law_piece"] (defScope s_is_number) := ⟨rfl, rfl, rfl, by decide +kernel, rfl, by decide +kernel, by decide +kernel⟩
abbrev s_duo : Stmt := topS 20
abbrev N_duo : List Str := ["_law_piece", "_law_parts", "_law_part"]
theorem sc_duo : FnScope ["_law_piece", "_law_parts", "_law_part"] ["_law_piece"] (defScope s_duo) := ⟨rfl, rfl, rfl, by decide +kernel, rfl, by decide +kernel, by decide +kernel⟩
abbrev s_read_text : Stmt := topS 21
abbrev N_read_text : List Str := ["_law_kind", "_law_message", "_law_pieces", "_law_found", "_law_met", "_law_at", "_law_piece", "_law_duo_here", "_law_is_seen", "_law_start", "_law_left", "_law_right_here"]
theorem sc_read_text : FnScope ["_law_kind", "_law_message", "_law_pieces", "_law_found", "_law_met", "_law_at", "_law_piece", "_law_duo_here", "_law_is_seen", "_law_start", "_law_left", "_law_right_here"] ["_law_kind", "_law_message"] (defScope s_read_text) := ⟨rfl, rfl, rfl, by decide +kernel, rfl, by decide +kernel, by decide +kernel⟩
abbrev s_told : Stmt := topS 22
abbrev N_told : List Str := ["_law_kind", "_law_message", "_law_found", "_law_caught", "error", "_law_fine"]
theorem sc_told : FnScope ["_law_kind", "_law_message", "_law_found", "_law_caught", "error", "_law_fine"] ["_law_kind", "_law_message"] (defScope s_told) := ⟨rfl, rfl, rfl, by decide +kernel, rfl, by decide +kernel, by decide +kernel⟩
abbrev s_bent : Stmt := topS 23
abbrev N_bent : List Str := ["_law_source", "_law_message", "_law_at", "_law_sign"]
theorem sc_bent : FnScope ["_law_source", "_law_message", "_law_at", "_law_sign"] ["_law_source", "_law_message"] (defScope s_bent) := ⟨rfl, rfl, rfl, by decide +kernel, rfl, by decide +kernel, by decide +kernel⟩
abbrev s_right : Stmt := topS 24
abbrev N_right : List Str := ["_law_source", "_law_fixed", "_law_row", "_law_duos", "_law_message", "_law_some", "_law_turn", "_law_bent_here", "_law_text_now", "_law_kind", "_law_at", "_law_left", "_law_right_here"]
theorem sc_right : FnScope ["_law_source", "_law_fixed", "_law_row", "_law_duos", "_law_message", "_law_some", "_law_turn", "_law_bent_here", "_law_text_now", "_law_kind", "_law_at", "_law_left", "_law_right_here"] ["_law_source"] (defScope s_right) := ⟨rfl, rfl, rfl, by decide +kernel, rfl, by decide +kernel, by decide +kernel⟩
abbrev s_law : Stmt := topS 25
abbrev N_law : List Str := ["_law_script", "_law_cells", "_law_k", "_law_source", "_law_turn"]
theorem sc_law : FnScope ["_law_script", "_law_cells", "_law_k", "_law_source", "_law_turn"] ["_law_script"] (defScope s_law) := ⟨rfl, rfl, rfl, by decide +kernel, rfl, by decide +kernel, by decide +kernel⟩
abbrev s_i_BadText : Stmt := inClass (topS 1) 0
abbrev N_i_BadText : List Str := ["self", "at"]
theorem sc_i_BadText : FnScope ["self", "at"] ["self", "at"] (defScope s_i_BadText) := ⟨rfl, rfl, rfl, by decide +kernel, rfl, by decide +kernel, by decide +kernel⟩
set_option genInjectivity false in
set_option genSizeOf false in
structure Env (K : PySem.W.Frag) (mg : Str → Option Value) where
  n_len : mg "len" = none
  n_tuple : mg "tuple" = none
  n_all : mg "all" = none
  n_int : mg "int" = none
  n_set : mg "set" = none
  n_enumerate : mg "enumerate" = none
  n_abs : mg "abs" = none
  n_list : mg "list" = none
  n_isinstance : mg "isinstance" = none
  n_zip : mg "zip" = none
  n_bool : mg "bool" = none
  n_str : mg "str" = none
  n_ValueError : mg "ValueError" = none
  n_sorted : mg "sorted" = none
  n_range : mg "range" = none
  f_p_pairing_of : Addr
  d_p_pairing_of : FuncData
  F_p_pairing_of : Fun K "pairing_of" "pairing_of" s_p_pairing_of f_p_pairing_of d_p_pairing_of
  g_p_pairing_of : mg "pairing_of" = some (.ref f_p_pairing_of)
  f_p_number_in : Addr
  d_p_number_in : FuncData
  F_p_number_in : Fun K "number_in" "number_in" s_p_number_in f_p_number_in d_p_number_in
  g_p_number_in : mg "number_in" = some (.ref f_p_number_in)
  f_p_call_in : Addr
  d_p_call_in : FuncData
  F_p_call_in : Fun K "call_in" "call_in" s_p_call_in f_p_call_in d_p_call_in
  g_p_call_in : mg "call_in" = some (.ref f_p_call_in)
  f_p_pairing_in : Addr
  d_p_pairing_in : FuncData
  F_p_pairing_in : Fun K "pairing_in" "pairing_in" s_p_pairing_in f_p_pairing_in d_p_pairing_in
  g_p_pairing_in : mg "pairing_in" = some (.ref f_p_pairing_in)
  f_p_word_in : Addr
  d_p_word_in : FuncData
  F_p_word_in : Fun K "word_in" "word_in" s_p_word_in f_p_word_in d_p_word_in
  g_p_word_in : mg "word_in" = some (.ref f_p_word_in)
  f_stream : Addr
  d_stream : FuncData
  F_stream : Fun K "_law_stream" "_law_stream" s_stream f_stream d_stream
  g_stream : mg "_law_stream" = some (.ref f_stream)
  f_draw : Addr
  d_draw : FuncData
  F_draw : Fun K "_law_draw" "_law_draw" s_draw f_draw d_draw
  g_draw : mg "_law_draw" = some (.ref f_draw)
  f_folded : Addr
  d_folded : FuncData
  F_folded : Fun K "_law_folded" "_law_folded" s_folded f_folded d_folded
  g_folded : mg "_law_folded" = some (.ref f_folded)
  f_pick : Addr
  d_pick : FuncData
  F_pick : Fun K "_law_pick" "_law_pick" s_pick f_pick d_pick
  g_pick : mg "_law_pick" = some (.ref f_pick)
  f_same : Addr
  d_same : FuncData
  F_same : Fun K "_law_same" "_law_same" s_same f_same d_same
  g_same : mg "_law_same" = some (.ref f_same)
  f_shuffled : Addr
  d_shuffled : FuncData
  F_shuffled : Fun K "_law_shuffled" "_law_shuffled" s_shuffled f_shuffled d_shuffled
  g_shuffled : mg "_law_shuffled" = some (.ref f_shuffled)
  f_is_number : Addr
  d_is_number : FuncData
  F_is_number : Fun K "_law_is_number" "_law_is_number" s_is_number f_is_number d_is_number
  g_is_number : mg "_law_is_number" = some (.ref f_is_number)
  f_duo : Addr
  d_duo : FuncData
  F_duo : Fun K "_law_duo" "_law_duo" s_duo f_duo d_duo
  g_duo : mg "_law_duo" = some (.ref f_duo)
  f_read_text : Addr
  d_read_text : FuncData
  F_read_text : Fun K "_law_read_text" "_law_read_text" s_read_text f_read_text d_read_text
  g_read_text : mg "_law_read_text" = some (.ref f_read_text)
  f_told : Addr
  d_told : FuncData
  F_told : Fun K "_law_told" "_law_told" s_told f_told d_told
  g_told : mg "_law_told" = some (.ref f_told)
  f_bent : Addr
  d_bent : FuncData
  F_bent : Fun K "_law_bent" "_law_bent" s_bent f_bent d_bent
  g_bent : mg "_law_bent" = some (.ref f_bent)
  f_right : Addr
  d_right : FuncData
  F_right : Fun K "_law_right" "_law_right" s_right f_right d_right
  g_right : mg "_law_right" = some (.ref f_right)
  tk_MOST_DIGITS : Tok
  k_MOST_DIGITS : mg "MOST_DIGITS" = some (.int 13 tk_MOST_DIGITS)
  tk_DIGITS : Tok
  k_DIGITS : mg "DIGITS" = some (.str "0123456789" tk_DIGITS)
  C_BadText : Addr
  gC_BadText : mg "BadText" = some (.ref C_BadText)
  C_BadLine : Addr
  gC_BadLine : mg "BadLine" = some (.ref C_BadLine)
  own_BadText : Own K "ValueError.__new__" [.type "ValueError", .type "Exception", .type "BaseException", .type "object"] C_BadText
  kpt_BadText : KeptC K C_BadText
  no_BadText : PySem.W.findIn K (.ref C_BadText) "at" = some none
  f_i_BadText : Addr
  d_i_BadText : FuncData
  F_i_BadText : Fun K "__init__" "BadText.__init__" s_i_BadText f_i_BadText d_i_BadText
  iC_BadText : PySem.W.findIn K (.ref C_BadText) "__init__" = some (some (.ref f_i_BadText))
  tI_BadText : PySem.W.typeIn K (.ref f_i_BadText) = some (.type "function")
  ee_BadText : PySem.W.exmOne K (.ref C_BadText) (.ref C_BadText) = some true
  kk_BadText : PySem.W.kitOne K (.ref C_BadText) (.ref C_BadText) = some true
  ex_BadText_BadLine : PySem.W.exmOne K (.ref C_BadText) (.ref C_BadLine) = some false
  ki_BadText_BadLine : PySem.W.kitOne K (.ref C_BadText) (.ref C_BadLine) = some false
  kb_BadText_ValueError : PySem.W.kitOne K (.ref C_BadText) (.type "ValueError") = some true
  vV_ValueError : PySem.W.findCls K (.type "ValueError") (.type "type") "__init__" = some (.val (.builtin "ValueError.__init__"))
theorem Env.b_i_BadText {K : PySem.W.Frag} {mg : Str → Option Value} (T : Env K mg) : Binds K T.d_i_BadText ["self", "at"] [] := T.F_i_BadText.binds fun _ _ _ _ _ _ us hl => match us, hl with | [_, _], _ => rfl
theorem Env.b_p_pairing_of {K : PySem.W.Frag} {mg : Str → Option Value} (T : Env K mg) : Binds K T.d_p_pairing_of ["couples"] [] := T.F_p_pairing_of.binds fun _ _ _ _ _ _ us hl => match us, hl with | [_], _ => rfl
theorem Env.b_p_number_in {K : PySem.W.Frag} {mg : Str → Option Value} (T : Env K mg) : Binds K T.d_p_number_in ["text"] [] := T.F_p_number_in.binds fun _ _ _ _ _ _ us hl => match us, hl with | [_], _ => rfl
theorem Env.b_p_call_in {K : PySem.W.Frag} {mg : Str → Option Value} (T : Env K mg) : Binds K T.d_p_call_in ["text"] [] := T.F_p_call_in.binds fun _ _ _ _ _ _ us hl => match us, hl with | [_], _ => rfl
theorem Env.b_p_pairing_in {K : PySem.W.Frag} {mg : Str → Option Value} (T : Env K mg) : Binds K T.d_p_pairing_in ["text"] [] := T.F_p_pairing_in.binds fun _ _ _ _ _ _ us hl => match us, hl with | [_], _ => rfl
theorem Env.b_p_word_in {K : PySem.W.Frag} {mg : Str → Option Value} (T : Env K mg) : Binds K T.d_p_word_in ["text"] [] := T.F_p_word_in.binds fun _ _ _ _ _ _ us hl => match us, hl with | [_], _ => rfl
theorem Env.b_stream {K : PySem.W.Frag} {mg : Str → Option Value} (T : Env K mg) : Binds K T.d_stream ["_law_script", "_law_k"] [] := T.F_stream.binds fun _ _ _ _ _ _ us hl => match us, hl with | [_, _], _ => rfl
theorem Env.b_draw {K : PySem.W.Frag} {mg : Str → Option Value} (T : Env K mg) : Binds K T.d_draw ["_law_source", "_law_bound"] [] := T.F_draw.binds fun _ _ _ _ _ _ us hl => match us, hl with | [_, _], _ => rfl
theorem Env.b_folded {K : PySem.W.Frag} {mg : Str → Option Value} (T : Env K mg) : Binds K T.d_folded ["_law_script", "_law_most"] [] := T.F_folded.binds fun _ _ _ _ _ _ us hl => match us, hl with | [_, _], _ => rfl
theorem Env.b_pick {K : PySem.W.Frag} {mg : Str → Option Value} (T : Env K mg) : Binds K T.d_pick ["_law_source", "_law_some"] [] := T.F_pick.binds fun _ _ _ _ _ _ us hl => match us, hl with | [_, _], _ => rfl
theorem Env.b_same {K : PySem.W.Frag} {mg : Str → Option Value} (T : Env K mg) : Binds K T.d_same ["_law_found", "_law_due"] [] := T.F_same.binds fun _ _ _ _ _ _ us hl => match us, hl with | [_, _], _ => rfl
theorem Env.b_shuffled {K : PySem.W.Frag} {mg : Str → Option Value} (T : Env K mg) : Binds K T.d_shuffled ["_law_source", "_law_some"] [] := T.F_shuffled.binds fun _ _ _ _ _ _ us hl => match us, hl with | [_, _], _ => rfl
theorem Env.b_is_number {K : PySem.W.Frag} {mg : Str → Option Value} (T : Env K mg) : Binds K T.d_is_number ["_law_piece"] [] := T.F_is_number.binds fun _ _ _ _ _ _ us hl => match us, hl with | [_], _ => rfl
theorem Env.b_duo {K : PySem.W.Frag} {mg : Str → Option Value} (T : Env K mg) : Binds K T.d_duo ["_law_piece"] [] := T.F_duo.binds fun _ _ _ _ _ _ us hl => match us, hl with | [_], _ => rfl
theorem Env.b_read_text {K : PySem.W.Frag} {mg : Str → Option Value} (T : Env K mg) : Binds K T.d_read_text ["_law_kind", "_law_message"] [] := T.F_read_text.binds fun _ _ _ _ _ _ us hl => match us, hl with | [_, _], _ => rfl
theorem Env.b_told {K : PySem.W.Frag} {mg : Str → Option Value} (T : Env K mg) : Binds K T.d_told ["_law_kind", "_law_message"] [] := T.F_told.binds fun _ _ _ _ _ _ us hl => match us, hl with | [_, _], _ => rfl
theorem Env.b_bent {K : PySem.W.Frag} {mg : Str → Option Value} (T : Env K mg) : Binds K T.d_bent ["_law_source", "_law_message"] [] := T.F_bent.binds fun _ _ _ _ _ _ us hl => match us, hl with | [_, _], _ => rfl
theorem Env.b_right {K : PySem.W.Frag} {mg : Str → Option Value} (T : Env K mg) : Binds K T.d_right ["_law_source"] [] := T.F_right.binds fun _ _ _ _ _ _ us hl => match us, hl with | [_], _ => rfl
end Pc
namespace Pc
open PySem PySem.Spec PyProof.Rows L2 RZ
section
variable {P : Program} {w : World} {K : PySem.W.Frag} {mg : Str → Option Value} {base : Heap}
theorem ok_i_BadText (T : Env K mg) : FnOk P w K mg base CX0 1 T.f_i_BadText T.d_i_BadText ["self", "at"] (spInit1 T.C_BadText "at") := by
  refine T.F_i_BadText.ok sc_i_BadText (fun vs H Q E h => ?_) (fun cdv A outer s H vs Q E hr h => ?_)
  · obtain ⟨a, v, rfl, _⟩ := h
    rfl
  · obtain ⟨a, v, rfl, ha, q⟩ := h
    refine ⟨_, pss_cons (ps_expr (pe_binit (o := .Constant .none 0 ⟨0, 0, 0, 0⟩) bsV.fb (by rfl) T.n_ValueError (by decide +kernel) (by decide) (by decide) (by kernel_rfl) (by decide +kernel) (by decide +kernel) T.vV_ValueError (pa_cons (pv 0) (pa_cons pe_str pa_nil)))) (pss_one (ps_os (newId := "ValueError.__new__") bsV.sf (pv 0) (pv 1))), ?_⟩
    exact ⟨.ref a, rfl, a, _, [.str _], rfl, (by show 1 ≤ 1000; decide), T.own_BadText, ha, v, rfl, .ref a, rfl, a, _, rfl, T.own_BadText, T.no_BadText, ha, fun dx n ne => q dx n ne⟩
end
end Pc
namespace Pc
open PySem PySem.Spec PyProof.Rows L2 RZ
/-! ### errors without a field -/
def Flies0 (C : Addr) (H : Hp) (E : XK) : Prop := ∀ H', Same H H' → E (.ref C) none H'
theorem Flies0.same {C : Addr} {H H1 : Hp} {E : XK} (h : Flies0 C H E) (s : Same H H1) : Flies0 C H1 E := fun H' s' => h H' (s.trans s')
def spInit0 (C : Addr) : Sp := fun vs H Q _ => ∃ a : Addr, vs = [.ref a] ∧ H a = some (exo a C none) ∧ Q .non H
theorem raised0 {C : Addr} {H1 : Hp} {Q : XK} (h : Flies0 C H1 Q) : ([] : List V).length ≤ 1000 ∧ ∀ a, H1 a = none → spInit0 C (.ref a :: []) (upd H1 a (exo a C none))
    (fun v' H2 => v' = .non ∧ ((H2 a = some (exo a C none) ∧ Q (.ref C) none (del H2 a)) ∨ ∃ (d : Addr) (fs : List (Str × V)), H2 a = some (exo a C (some d)) ∧ H2 d = some (exd d fs) ∧ Q (.ref C) (some d) (upd (del H2 a) d (.xd fs)))) (fun _ _ _ => False) := by
  refine ⟨Nat.zero_le _, fun a na => ⟨a, rfl, upd_same, rfl, .inl ⟨upd_same, h _ fun b o hb => ?_⟩⟩⟩
  have hba := ne_of_none hb na
  rw [del_ne hba, upd_ne hba]; exact hb
theorem kept0 {K : PySem.W.Frag} {C : Addr} {cs : List Value} {i : Nat} {ts : Addr → TS} {D : Ends} {σ : L2.St} {H : Hp} (hh : Hits K (.ref C) cs)
    (h : ∀ H' a, Same H H' → H' a = none → ts a { nx := fun σ' H'' => D.nx (σ'.set i none) (upd H'' a (exk a (.ref C) none)), rt := fun _ _ => False } (σ.set i (some (.ref a))) H') :
    Flies0 C H (fun cls d H' => wKept K cs i ts D cls d σ H') := fun H' s => ⟨hh, fun a na => h H' a s na⟩
theorem Kept.mk0 {H' : Hp} {a C : Addr} : Kept (upd H' a (exk a (.ref C) none)) a C none := ⟨upd_same, .inl rfl⟩
theorem st_kept0 {D : L2.Ends} {i : Nat} {a C : Addr} {σ1 : L2.St} {H : Hp} (σ' : L2.St) (h : D.nx σ' (upd H a (exk a (.ref C) none))) (e : σ1.set i none = σ') :
    ({ nx := fun σ'' H'' => D.nx (σ''.set i none) (upd H'' a (exk a (.ref C) none)), rt := fun _ _ => False } : L2.Ends).nx σ1 H := by
  show D.nx (σ1.set i none) _
  rw [e]; exact h
section
variable {X : Cx} {C : Addr} {B newId initId : String} {bmB : List Value}
theorem pmk_e0 {x : Str} {fI : Addr} {k : Nat} {fd : FuncData} {ps : List Str} {sp : Sp} {CX : CXT} {p pos : Pos} (T : Own X.K newId bmB C) (F : ExcBaseFacts B newId initId bmB) (iC : PySem.W.findIn X.K (.ref C) "__init__" = some (some (.ref fI))) (tI : PySem.W.typeIn X.K (.ref fI) = some (.type "function"))
    (F1 : FnOk X.prog X.w X.K X.mg X.base CX k fI fd ps sp) (hr : Room (k + 1) X.A) (hb : Binds X.K fd ps []) (hx : Passes CX X (fun _ _ _ => False)) (hg : Gl X x) (hm : X.mg x = some (.ref C)) (hdb : (x == ("__debug__" : Str)) = false := by decide) :
    PMk X (.Call (.Name x p) [] [] pos) (tMkE C sp tNil) := by
  intro pins s σ H Q I h
  refine wpAny_Call_Name_kw (ld_glob I hg hm ?_ hdb)
  exact PySem.W.callWith_K0 I.kIn T.kC (made_run (us := []) (vs := []) T F iC tI F1 hr hb hx I .nil h.1 h.2)
end
end Pc
namespace Pc
open PySem PySem.Spec PyProof.Rows L2 RZ
section
variable {P : Program} {w : World} {K : PySem.W.Frag} {mg : Str → Option Value} {base : Heap}
/-! ### a source -/
def spBox (K : PySem.W.Frag) : Sp := fun vs H Q _ => ∃ (a : Addr) (ns : List Int) (k : Nat), vs = [.ref a, .int k] ∧ SqL K H a (ns.map V.int) ∧ k ≤ 100 ∧
  ∀ H' b, Same H H' → H b = none → Box 1000000000 H' b → Q (.ref b) H'
theorem ok_box (T : Env K mg) : FnOk P w K mg base CX0 1 T.f_stream T.d_stream ["_law_script", "_law_k"] (spBox K) := by
  refine T.F_stream.ok sc_stream (fun vs H Q E h => ?_) (fun cdv A outer s H vs Q E hr h => ?_)
  · obtain ⟨a, ns, k, rfl, _⟩ := h
    rfl
  · obtain ⟨a, ns, k, rfl, hS, hk, q⟩ := h
    refine ⟨_, pss_cons (ps_set (i := 2) sc_stream.nd rfl (.inl rfl) pe_int) <| pss_cons (ps_if (pt_cmpR op_lt (pv 1) (pe_callB call_len_seq (by rfl) T.n_len PySem.boot_len (pa_cons (pv 0) pa_nil)) (nomark _)) (pss_one (ps_set (i := 2) sc_stream.nd rfl (.inl rfl) (pe_ix ix_list (pv 0) (pv 1) (fun _ _ => rfl)))) pss_nil)
      (pss_one (ps_ret (pe_lst (pa_cons
          (pe_op op_mul (pe_callB call_abs (by rfl) T.n_abs (by decide +kernel) (pa_cons (pv 2) pa_nil))
            (pe_callTy call_int1 (by rfl) T.n_int (by decide +kernel) (pa_cons (pe_cmpR op_ge (pe_callB call_abs (by rfl) T.n_abs (by decide +kernel) (pa_cons (pv 2) pa_nil)) (pe_op op_pow pe_int pe_int) (nomark _)) pa_nil)))
        (pa_cons (pe_op op_add (pe_op op_add (pe_op op_mod (pv 2) pe_int) (pe_op op_mul pe_int (pv 1))) pe_int)
        (pa_cons pe_int pa_nil)))))), ?_⟩
    refine ⟨.int k, rfl, .ref a, rfl, a, ns.map V.int, rfl, .inl hS, _, _, rfl, rfl, _, rfl, ite2 (fun e => ?_) (fun e => ?_)⟩
    · have e1 : k < ns.length := by
        have := of_decide_eq_true e
        rw [List.length_map] at this
        omega
      refine ⟨.ref a, rfl, .int k, rfl, a, _, _, _, rfl, rfl, hS, atI_nat (v := .int ns[k]) (by rw [List.getElem?_map, List.getElem?_eq_getElem e1]; rfl), ?_⟩
      revert e; generalize ns[k] = c; intro _
      refine ⟨_, rfl, _, rfl, _, rfl, _, rfl, 10, 18, rfl, rfl, ⟨by decide, by decide, by decide⟩, _, _, rfl, rfl, .inr ⟨_, rfl, _, _, rfl, rfl, .inr (in64 (one0 _)), _, rfl, _, _, rfl, rfl, (show (0 : Int) < 2305843009213693951 by decide), _, rfl, _, _, rfl, rfl, .inl ⟨by decide, by decide⟩, _, _, rfl, rfl, _, _, rfl, rfl, ?_⟩⟩
      refine ⟨by show 3 ≤ sizeLine; decide, fun b nb => q _ b (same_new nb) nb ⟨_, _, 0, upd_same, Int.mul_nonneg ?_ (one0 _).1, ?_, ?_, by decide, by decide⟩⟩
      · split <;> omega
      · omega
      · omega
    · refine ⟨_, rfl, _, rfl, _, rfl, _, rfl, 10, 18, rfl, rfl, ⟨by decide, by decide, by decide⟩, _, _, rfl, rfl, .inr ⟨_, rfl, _, _, rfl, rfl, .inr (in64 (one0 _)), _, rfl, _, _, rfl, rfl, (show (0 : Int) < 2305843009213693951 by decide), _, rfl, _, _, rfl, rfl, .inl ⟨by decide, by decide⟩, _, _, rfl, rfl, _, _, rfl, rfl, ?_⟩⟩
      refine ⟨by show 3 ≤ sizeLine; decide, fun b nb => q _ b (same_new nb) nb ⟨_, _, 0, upd_same, Int.mul_nonneg ?_ (one0 _).1, ?_, ?_, by decide, by decide⟩⟩
      · split <;> omega
      · omega
      · omega
end
end Pc
namespace Pc
open PySem PySem.Spec PyProof.Rows L2 RZ
section
variable {P : Program} {w : World} {K : PySem.W.Frag} {mg : Str → Option Value} {base : Heap}
/-! ### a draw below a span of at most ten million -/
def spTake : Sp := fun vs H Q _ => ∃ (b : Addr) (n : Nat) (s : Int), vs = [.ref b, .int s] ∧ Box (n + 1) H b ∧ 0 < s ∧ s ≤ 10000000 ∧
  ∀ (r : Int) (H' : Hp), 0 ≤ r → r < s → Box n H' b → Keep b H H' → Q (.int r) H'
theorem ok_take (T : Env K mg) : FnOk P w K mg base CX0 1 T.f_draw T.d_draw ["_law_source", "_law_bound"] spTake := by
  refine T.F_draw.ok sc_draw (fun vs H Q E h => ?_) (fun cdv A outer s H vs Q E hr h => ?_)
  · obtain ⟨b, n, s, rfl, _⟩ := h
    rfl
  · obtain ⟨b, n, s, rfl, ⟨x, y, z, hb, hx, hy, hy2, hz, hz2⟩, hs, hs2, q⟩ := h
    refine ⟨_, pss_cons (ps_if (pt_cmpR op_gt (pe_ix ix_list (pv 0) pe_int (fun _ _ => rfl)) pe_int (nomark _))
        (pss_cons (ps_set (i := 2) sc_draw.nd rfl (.inl rfl) (pe_op op_mod (pe_ix ix_list (pv 0) pe_int (fun _ _ => rfl)) (pv 1)))
        (pss_cons (ps_asg (pe_op op_fdiv (pe_ix ix_list (pv 0) pe_int (fun _ _ => rfl)) (pv 1)) (pg_sub (pv 0) pe_int set_list))
        (pss_one (ps_ret (pv 2))))) pss_nil)
      (pss_cons (ps_if (pt_cmpR op_gt (pv 1) (pe_op op_pow pe_int pe_int) (nomark _)) pss_never pss_nil)
      (pss_cons (ps_asg (pe_op op_add (pe_ix ix_list (pv 0) pe_int (fun _ _ => rfl)) pe_int) (pg_sub (pv 0) pe_int set_list))
      (pss_cons (ps_set (i := 3) sc_draw.nd rfl (.inl rfl) (pe_op op_mod (pe_op op_mul (pe_op op_add (pe_ix ix_list (pv 0) pe_int (fun _ _ => rfl)) (pe_op op_mul pe_int (pe_ix ix_list (pv 0) pe_int (fun _ _ => rfl)))) (pe_op op_add pe_int (pe_ix ix_list (pv 0) pe_int (fun _ _ => rfl)))) pe_int))
      (pss_cons (ps_set (i := 4) sc_draw.nd rfl (.inl rfl) (pe_op op_mod (pe_op op_mul (pe_op op_add (pe_op op_add (pv 3) (pe_ix ix_list (pv 0) pe_int (fun _ _ => rfl))) (pe_op op_fdiv (pe_ix ix_list (pv 0) pe_int (fun _ _ => rfl)) pe_int)) (pe_op op_add (pe_op op_mod (pv 3) pe_int) pe_int)) pe_int))
      (pss_one (ps_ret (pe_op op_mod (pe_op op_fdiv (pe_op op_mod (pe_op op_add (pe_op op_mul (pv 4) pe_int) (pv 3)) pe_int) pe_int) (pv 1)))))))), ?_⟩
    have hS : SqL K H b [.int x, .int y, .int z] := .inl (.inl hb)
    refine ⟨.ref b, rfl, b, _, 0, .int x, rfl, rfl, hS, atI_nat (j := 0) rfl, x, 0, rfl, rfl, _, rfl, ite2 (fun e => ?_) (fun e => ?_)⟩
    · -- the number itself serves
      refine ⟨.ref b, rfl, b, _, 0, .int x, rfl, rfl, hS, atI_nat (j := 0) rfl, .int s, rfl, x, s, rfl, rfl, hs, ?_⟩
      refine ⟨.ref b, rfl, b, _, 0, .int x, rfl, rfl, hS, atI_nat (j := 0) rfl, .int s, rfl, x, s, rfl, rfl, ⟨hs, by omega⟩, .ref b, rfl, b, _, 0, 0, rfl, rfl, hb, rfl, ?_⟩
      refine ⟨_, rfl, q _ _ (Int.emod_nonneg _ (by omega)) (Int.emod_lt_of_pos _ hs) ⟨_, y, z, upd_same, ?_, hy, hy2, hz, by omega⟩ keep_upd⟩
      exact Int.ediv_nonneg hx (by omega)
    · refine ⟨.int s, rfl, 10, 7, rfl, rfl, ⟨by decide, by decide, by decide⟩, s, _, rfl, rfl, _, rfl, ite2 (fun e2 => ?_) (fun _ => ?_)⟩
      · have e3 := of_decide_eq_true e2
        have e4 : (10 : Int) ^ Int.toNat 7 = 10000000 := by decide
        rw [e4] at e3
        omega
      refine ⟨.ref b, rfl, b, _, 2, .int z, rfl, rfl, hS, atI_nat (j := 2) rfl, z, 1, rfl, rfl, .ref b, rfl, b, _, 2, 2, rfl, rfl, hb, rfl, ?_⟩
      have h2 : upd H b (.lst ([V.int x, V.int y, V.int z].set 2 (.int (z + 1)))) b = some (.lst [.int x, .int y, .int (z + 1)]) := upd_same
      have hS2 : SqL K (upd H b (.lst ([V.int x, V.int y, V.int z].set 2 (.int (z + 1))))) b [.int x, .int y, .int (z + 1)] := .inl (.inl h2)
      refine ⟨.ref b, rfl, b, _, 1, .int y, rfl, rfl, hS2, atI_nat (j := 1) rfl, .ref b, rfl, b, _, 2, .int (z + 1), rfl, rfl, hS2, atI_nat (j := 2) rfl, 48271, z + 1, rfl, rfl, .inl ⟨by decide, by decide⟩, y, _, rfl, rfl, .ref b, rfl, b, _, 2, .int (z + 1), rfl, rfl, hS2, atI_nat (j := 2) rfl, 39373, z + 1, rfl, rfl, _, _, rfl, rfl, .inr ⟨by omega, by omega⟩, _, 2147483647, rfl, rfl, (show (0 : Int) < 2147483647 by decide), ?_⟩
      have o1 : 0 ≤ (y + 48271 * (z + 1)) * (39373 + (z + 1)) % 2147483647 := Int.emod_nonneg _ (by decide)
      have o2 : (y + 48271 * (z + 1)) * (39373 + (z + 1)) % 2147483647 < 2147483647 := Int.emod_lt_of_pos _ (by decide)
      have o3 : 0 ≤ (y + 48271 * (z + 1)) * (39373 + (z + 1)) % 2147483647 % 40009 := Int.emod_nonneg _ (by decide)
      have o4 : (y + 48271 * (z + 1)) * (39373 + (z + 1)) % 2147483647 % 40009 < 40009 := Int.emod_lt_of_pos _ (by decide)
      refine ⟨_, rfl, .ref b, rfl, b, _, 2, .int (z + 1), rfl, rfl, hS2, atI_nat (j := 2) rfl, _, z + 1, rfl, rfl, .ref b, rfl, b, _, 1, .int y, rfl, rfl, hS2, atI_nat (j := 1) rfl, y, 1000003, rfl, rfl, ⟨by decide, by decide⟩, _, _, rfl, rfl, _, rfl, _, 40009, rfl, rfl, (show (0 : Int) < 40009 by decide), _, 7, rfl, rfl, _, _, rfl, rfl, .inr ⟨Int.lt_of_lt_of_le (by decide) (Int.add_le_add_right o3 7), Int.lt_trans (Int.add_lt_add_right o4 7) (by decide)⟩, _, 2147483629, rfl, rfl, (show (0 : Int) < 2147483629 by decide), ?_⟩
      refine ⟨_, rfl, _, 48271, rfl, rfl, .inr ⟨by decide, by decide⟩, _, rfl, _, _, rfl, rfl, _, 2147483587, rfl, rfl, (show (0 : Int) < 2147483587 by decide), _, 64, rfl, rfl, ⟨by decide, by decide⟩, .int s, rfl, _, s, rfl, rfl, hs, ?_⟩
      exact q _ _ (Int.emod_nonneg _ (by omega)) (Int.emod_lt_of_pos _ hs) ⟨x, y, z + 1, h2, hx, hy, hy2, by omega, by omega⟩ keep_upd
end
end Pc
namespace Pc
open PySem PySem.Spec PyProof.Rows L2 RZ
/-! ### data -/
theorem dp_ints {K : PySem.W.Frag} {H : Hp} : ∀ ns : List Int, DpAll K H (ns.map V.int) (ns.map PyData.int)
  | [] => .nil
  | n :: r => .cons (.int n) (dp_ints r)
theorem lay_ints : ∀ ns : List Int, PyData.canLayAll0 (ns.map PyData.int) = true
  | [] => rfl
  | n :: r => by
    show (PyData.canLay0 (.int n) && PyData.canLayAll0 (r.map PyData.int)) = true
    rw [lay_ints r]; rfl
theorem depth_ints : ∀ ns : List Int, PyData.depthAll (ns.map PyData.int) = 0
  | [] => rfl
  | n :: r => by
    show max (PyData.depth (.int n)) (PyData.depthAll (r.map PyData.int)) = 0
    rw [depth_ints r]; rfl
theorem shaped_list {ds : List PyData} (h : PyData.canLayAll0 ds = true) (d : PyData.depthAll ds ≤ 63) : SeqAt.shaped (.list ds) = true := by
  unfold SeqAt.shaped
  rw [Bool.and_eq_true]
  exact ⟨h, decide_eq_true (show PyData.depthAll ds + 1 ≤ 64 by omega)⟩
theorem shaped_tuple {ds : List PyData} (h : PyData.canLayAll0 ds = true) (d : PyData.depthAll ds ≤ 63) : SeqAt.shaped (.tuple ds) = true := by
  unfold SeqAt.shaped
  rw [Bool.and_eq_true]
  exact ⟨h, decide_eq_true (show PyData.depthAll ds + 1 ≤ 64 by omega)⟩
theorem shaped_ints (ns : List Int) : SeqAt.shaped (.list (ns.map PyData.int)) = true := shaped_list (lay_ints ns) (by rw [depth_ints]; decide)
theorem shaped_intsT (ns : List Int) : SeqAt.shaped (.tuple (ns.map PyData.int)) = true := shaped_tuple (lay_ints ns) (by rw [depth_ints]; decide)
/-- what a slice of a list of ints is -/
theorem cut_ints (ns : List Int) (lo hi : Option Int) : ∃ ms : List Int, cutV (ns.map V.int) lo hi = ms.map V.int ∧ ms = (ns.drop (HT.sIx ns.length 0 lo)).take (HT.sIx ns.length ns.length hi - HT.sIx ns.length 0 lo) := by
  refine ⟨_, ?_, rfl⟩
  unfold cutV
  rw [List.length_map, List.map_take, List.map_drop]
theorem map_set_int (cs : List Int) (j : Nat) (v : Int) : (cs.map V.int).set j (.int v) = (cs.set j v).map V.int := by
  rw [List.map_set]
theorem small63 {n : Nat} (h : n ≤ 63) : n ≤ sizeLine := Nat.le_trans h (by decide)
end Pc
namespace Pc
open PySem PySem.Spec PyProof.Rows L2 RZ
section
variable {P : Program} {w : World} {K : PySem.W.Frag} {mg : Str → Option Value} {base : Heap}
/-! ### the numbers of the script, the later ones added to the first -/
def spCells (K : PySem.W.Frag) : Sp := fun vs H Q _ => ∃ (a : Addr) (ns : List Int) (m : Nat), vs = [.ref a, .int m] ∧ SqL K H a (ns.map V.int) ∧ ns.length ≤ 63 ∧ 0 < m ∧ m ≤ 60 ∧
  ∀ H' p (cs : List Int), Same H H' → H p = none → H' p = some (.lst (cs.map V.int)) → 1 ≤ cs.length → cs.length ≤ m → Q (.ref p) H'
theorem ok_cells (T : Env K mg) : FnOk P w K mg base CX0 1 T.f_folded T.d_folded ["_law_script", "_law_most"] (spCells K) := by
  refine T.F_folded.ok sc_folded (fun vs H Q E h => ?_) (fun cdv A outer s H vs Q E hr h => ?_)
  · obtain ⟨a, ns, m, rfl, _⟩ := h
    rfl
  · obtain ⟨a, ns, m, rfl, hS, hn, hm, hm2, q⟩ := h
    refine ⟨_, pss_cons (ps_set (i := 2) sc_folded.nd rfl (.inl rfl) (pe_orT (pe_callTy call_list_of (by rfl) T.n_list (by decide +kernel) (pa_cons (pe_slice sl_list (pv 0) po_none (po_some (pv 1))) pa_nil)) (pe_one (pe_lst (pa_cons pe_int pa_nil)))))
      (pss_cons (ps_for PassesOwn.never rfl (pi_enum (by rfl) T.n_enumerate (pa_cons (pe_slice sl_list (pv 0) (po_some (pv 1)) (po_some pe_int)) pa_nil))
          (pg_tup rfl (pgs_cons (pg_name (i := 3) sc_folded.nd rfl (.inl rfl)) (pgs_cons (pg_name (i := 4) sc_folded.nd rfl (.inl rfl)) pgs_nil)))
        (pss_one (ps_asg (pe_op op_add (pe_ix ix_list (pv 2) (pe_op op_mod (pv 3) (pv 1)) (fun _ _ => rfl)) (pe_op op_mul (pv 4) (pe_op op_add (pv 3) pe_int)))
          (pg_sub (pv 2) (pe_op op_mod (pv 3) (pv 1)) set_list))))
      (pss_one (ps_ret (pv 2)))), ?_⟩
    obtain ⟨ms, e1, e2⟩ := cut_ints ns none (some (m : Int))
    obtain ⟨ls, e3, e4⟩ := cut_ints ns (some (m : Int)) (some 63)
    have f2 : ms.length = min m ns.length := by
      rw [e2, HT.sIx_none, HT.sIx_nat, List.length_take, List.drop_zero]
      omega
    have f4 : ls.length = ns.length - m := by
      rw [e4, HT.sIx_nat, show (63 : Int) = ((63 : Nat) : Int) from rfl, HT.sIx_nat, List.length_take, List.length_drop]
      omega
    -- the copy of the first ones
    refine ⟨.ref a, rfl, .int m, rfl, m, rfl, a, ns.map V.int, rfl, hS, fun c nc => ⟨c, _, rfl, .inl (.inl (.inl upd_same)), fun l nl => ?_⟩⟩
    rw [e1] at nl ⊢
    have s1 : Same H (upd (upd H c (.lst (ms.map V.int))) l (.lst (ms.map V.int))) := (same_new nc).trans (same_new nl)
    have nl0 : H l = none := (same_new nc).free nl
    have el0 : (upd (upd H c (.lst (ms.map V.int))) l (.lst (ms.map V.int))) l = some (.lst (ms.map V.int)) := upd_same
    revert s1 el0
    generalize upd (upd H c (.lst (ms.map V.int))) l (.lst (ms.map V.int)) = H0
    intro s1 el0
    refine ⟨!(ms.map V.int).isEmpty, .inl ⟨_, .inl (.inl el0), rfl⟩, ite2 (fun k => ?wa) (fun k => ?wb)⟩
    case' wa =>
      obtain ⟨cs0, g3, g4, g5, g6⟩ : ∃ cs0 : List Int, H0 l = some (.lst (cs0.map V.int)) ∧ 1 ≤ cs0.length ∧ cs0.length ≤ m ∧ (0 < ls.length → cs0.length = m) := by
        refine ⟨ms, el0, ?_, by omega, by omega⟩
        cases ms with
        | nil => exact absurd (show false = true from k) Bool.false_ne_true
        | cons x r => simp
      clear el0
    case' wb =>
      have hm0 : ms.length = 0 := by
        cases ms with
        | nil => rfl
        | cons x r => exact absurd rfl k
      refine ⟨by show 1 ≤ sizeLine; decide, fun l2 nl2 => ?_⟩
      have s3 := s1.trans (same_new (o := .lst [.int 0]) nl2)
      have nl3 := s1.free nl2
      have g3' : (upd H0 l2 (.lst [.int 0])) l2 = some (.lst [.int 0]) := upd_same
      clear nl0 s1 el0
      revert s3 g3'
      generalize upd H0 l2 (.lst [.int 0]) = H3
      intro s3 g3'
      clear nl2
      clear H0
      revert l2 nl3 H3 s3 g3'
      intro l nl0 H0 s1 g3'
      obtain ⟨cs0, g3, g4, g5, g6⟩ : ∃ cs0 : List Int, H0 l = some (.lst (cs0.map V.int)) ∧ 1 ≤ cs0.length ∧ cs0.length ≤ m ∧ (0 < ls.length → cs0.length = m) := ⟨[0], g3', by decide, hm, by omega⟩
    all_goals
      refine ⟨.ref a, rfl, .int m, rfl, m, rfl, _, rfl, a, ns.map V.int, rfl, s1.seq hS, fun d nd => ?_⟩
      rw [e3]
      refine ⟨d, ls.map V.int, rfl, .inl (.inl upd_same), ?_⟩
      have s2 : Same H _ := s1.trans (same_new (o := .lst (ls.map V.int)) nd)
      have ldd : l ≠ d := ne_of_none g3 nd
      refine for_it walk_enum (fun i σ H' => Same H H' ∧ H' d = some (.lst (ls.map V.int)) ∧ ∃ (y3 y4 : Option V) (cs : List Int), σ = [some (.ref a), some (.int m), some (.ref l), y3, y4] ∧ H' l = some (.lst (cs.map V.int)) ∧ cs.length = cs0.length)
        ⟨s2, upd_same, none, none, cs0, rfl, by rw [upd_ne ldd]; exact g3, rfl⟩ (fun i σ H' _ h => .inl (.inl h.2.1)) (fun i x σ H1 H2 hi h y => ?_) (fun σ H' h => ?_)
      · obtain ⟨sm, ed, y3, y4, cs, rfl, el, ecl⟩ := h
        obtain ⟨t, v1, v2, rfl, nt, rfl, g1, g2⟩ := y
        rw [List.length_map] at hi
        have ev1 : v1 = .int (i : Nat) := (Option.some.inj g1).symm
        have ev2 : v2 = .int ls[i] := by
          have g3 : (ls.map V.int)[i]? = some v2 := g2
          rw [List.getElem?_map, List.getElem?_eq_getElem hi] at g3
          exact (Option.some.inj g3).symm
        subst ev1 ev2
        have hml : cs.length = m := by omega
        have hlt : l ≠ t := ne_of_none el nt
        have hdt : d ≠ t := ne_of_none ed nt
        have elt : (upd H1 t (.tup [.int (i : Nat), .int ls[i]])) l = some (.lst (cs.map V.int)) := by rw [upd_ne hlt]; exact el
        have him : ((i : Int) % (m : Int)) = ((i % m : Nat) : Int) := by omega
        have hjm : i % m < cs.length := by rw [hml]; exact Nat.mod_lt _ hm
        have hix : ixN (cs.map V.int).length ((i : Int) % (m : Int)) = some (i % m) := by
          rw [him]
          unfold ixN
          rw [List.length_map, if_pos (by omega), if_pos (by omega)]; rfl
        refine ⟨t, _, rfl, .inl (.inl upd_same), rfl, _, _, rfl, _, _, rfl, rfl, ?_⟩
        refine ⟨.ref l, rfl, .int (i : Nat), rfl, .int m, rfl, (i : Nat), m, rfl, rfl, (show (0 : Int) < m by omega), l, _, _, .int cs[i % m], rfl, rfl, .inl (.inl elt), ?_, ?_⟩
        · unfold atI
          show (ixN (cs.map V.int).length ((i : Int) % (m : Int))).bind _ = _
          rw [hix]
          show (cs.map V.int)[i % m]? = _
          rw [List.getElem?_map, List.getElem?_eq_getElem hjm]; rfl
        refine ⟨.int ls[i], rfl, .int (i : Nat), rfl, (i : Nat), 2, rfl, rfl, ls[i], _, rfl, rfl, .inr ⟨by omega, by omega⟩, cs[i % m], _, rfl, rfl, .ref l, rfl, .int (i : Nat), rfl, .int m, rfl, (i : Nat), m, rfl, rfl, (show (0 : Int) < m by omega), l, _, _, i % m, rfl, rfl, elt, hix, ?_⟩
        refine ⟨?_, ?_, _, _, cs.set (i % m) (cs[i % m] + ls[i] * ((i : Nat) + 2)), rfl, ?_, ?_⟩
        · intro b o hb
          have nb : b ≠ l := ne_of_none hb nl0
          rw [upd_ne nb]
          exact same_new nt _ _ (sm b o hb)
        · rw [upd_ne ldd.symm, upd_ne hdt]; exact ed
        · rw [upd_same, ← map_set_int]
        · rw [List.length_set]; exact ecl
      · obtain ⟨sm, ed, y3, y4, cs, rfl, el, ecl⟩ := h
        exact ⟨.ref l, rfl, q _ l cs sm nl0 el (by omega) (by omega)⟩
end
end Pc
namespace Pc
open PySem PySem.Spec PyProof.Rows L2 RZ
/-! ### xs != [] for any items -/
def rNeNil (K : PySem.W.Frag) : R2 := fun x y H Q => ∃ a b xs, x = .ref a ∧ y = .ref b ∧ SqL K H a xs ∧ SqL K H b [] ∧ Q (.bl (!xs.isEmpty)) H
theorem op_neNil {X : Cx} (hu : X.A.units + 64 < cLine) : OpR X (compareOp .NotEq) (rNeNil X.K) := by
  intro pins s σ H x y v u Q I rx ry h
  obtain ⟨a, b, xs, rfl, rfl, h1, h2, q⟩ := h
  cases rx; cases ry
  obtain ⟨its, rv, p1, _⟩ := I.list h1
  obtain ⟨its2, rv2, p2, _⟩ := I.list h2
  have l1 := rv.length
  have l2 := rv2.length
  have hu0 : X.A.units < cLine := by omega
  cases xs with
  | nil =>
    have z1 : its.length = 0 := l1.symm
    have z2 : its2.length = 0 := l2.symm
    refine SeqAt.RcNeAt.lists (e := fun _ => true) p1.isList p2.isList (by simp [z1, z2]) hu0 (fun j j1 _ => ?_) X.prog X.w X.xe _ ?_
    · rw [List.size_toArray] at j1; omega
    · rw [List.size_toArray, z1]
      exact ⟨.bl false, H, I, rfl, q⟩
  | cons z r =>
    have z1 : its.length ≠ 0 := by rw [← l1]; simp
    have z2 : its2.length = 0 := l2.symm
    refine SeqAt.RcNeAt.lists_lengths p1.isList p2.isList (by simp [z2, z1]) hu0 X.prog X.w X.xe _ ?_
    exact ⟨.bl true, H, I, rfl, q⟩
theorem perm_erase {α : Type} : ∀ {l : List α} {i : Nat} (h : i < l.length), (l[i] :: l.eraseIdx i).Perm l
  | a :: r, 0, _ => List.Perm.refl _
  | a :: r, i + 1, h => (List.Perm.swap a (r[i]'(Nat.lt_of_succ_lt_succ h)) (r.eraseIdx i)).trans ((perm_erase (l := r) (i := i) (Nat.lt_of_succ_lt_succ h)).cons a)
/-- the place of an index that is not negative -/
theorem seq_ix {i : Int} {n : Nat} (h0 : 0 ≤ i) (h : i < n) : seqIndex? i n = some i.toNat := seqIndex_of h0 h
end Pc
namespace Pc
open PySem PySem.Spec PyProof.Rows L2 RZ
section
variable {P : Program} {w : World} {K : PySem.W.Frag} {mg : Str → Option Value} {base : Heap}
/-! ### some things in drawn order -/
def spStrewn (K : PySem.W.Frag) : Sp := fun vs H Q _ => ∃ (b a : Addr) (n : Nat) (xs : List V), vs = [.ref b, .ref a] ∧ Box (n + xs.length) H b ∧ SqL K H a xs ∧ xs.length ≤ 1000 ∧
  ∀ (H' : Hp) (p : Addr) (ys : List V), ys.Perm xs → Keep b H H' → Box n H' b → H p = none → H' p = some (.lst ys) → Q (.ref p) H'
theorem ok_strewn (T : Env K mg) : FnOk P w K mg base CX0 2 T.f_shuffled T.d_shuffled ["_law_source", "_law_some"] (spStrewn K) := by
  have GT : FnOk P w K mg base CX0 1 T.f_draw T.d_draw ["_law_source", "_law_bound"] spTake := ok_take T
  refine T.F_shuffled.ok sc_shuffled (fun vs H Q E h => ?_) (fun cdv A outer s H vs Q E hr h => ?_)
  · obtain ⟨b, a, n, xs, rfl, _⟩ := h
    rfl
  · obtain ⟨b, a, n, xs, rfl, hB, hS, hlen, q⟩ := h
    refine ⟨_, pss_cons (ps_par (by rfl) sc_shuffled.nd (i := 2) (j := 3) rfl rfl (by decide) rfl rfl (pa_cons (pe_callTy call_list_of (by rfl) T.n_list (by decide +kernel) (pa_cons (pv 1) pa_nil)) (pa_cons (pe_lst pa_nil) pa_nil)) (by rfl))
      (pss_cons (ps_while PassesOwn.never (pt_cmpR (op_neNil hr.units) (pv 2) (pe_lst pa_nil) (nomark _))
        (pss_one (ps_expr (pe_bm PySem.F.plainAttrs_list PySem.F.slot_list_append PySem.F.type_list_append mt_append (pv 3) (pa_cons
          (pe_bm PySem.F.plainAttrs_list PySem.F.slot_list_pop PySem.F.type_list_pop mt_popAt (pv 2) (pa_cons
            (pe_call GT hr (by rfl) T.g_draw T.F_draw.kp T.b_draw .nil pass0 (pa_cons (pv 0) (pa_cons (pe_callB call_len_seq (by rfl) T.n_len PySem.boot_len (pa_cons (pv 2) pa_nil)) pa_nil))) pa_nil)) pa_nil)))))
      (pss_one (ps_ret (pv 3)))), ?_⟩
    refine ⟨.ref a, rfl, a, xs, rfl, .inl hS, fun l nl => ⟨Nat.zero_le _, fun f nf => ⟨_, _, rfl, ?_⟩⟩⟩
    have s1 : Same H (upd (upd H l (.lst xs)) f (.lst [])) := (same_new nl).trans (same_new nf)
    have nf0 : H f = none := (same_new nl).free nf
    have hlf : l ≠ f := ne_of_none upd_same nf
    have hbl : b ≠ l := hB.ne_new nl
    have hbf : b ≠ f := hB.ne_new nf0
    refine ⟨fun m σ H' => ∃ left found : List V, σ = [some (.ref b), some (.ref a), some (.ref l), some (.ref f)] ∧ H' l = some (.lst left) ∧ H' f = some (.lst found) ∧ (left ++ found).Perm xs ∧ Box (n + left.length) H' b ∧ Keep b H H' ∧ left.length = m,
      ⟨xs.length, xs, [], rfl, by rw [upd_ne hlf, upd_same], upd_same, by rw [List.append_nil], hB.same s1, Keep.of_same s1, rfl⟩, fun m σ H' hW => ?_⟩
    obtain ⟨left, found, rfl, el, ef, hp, hb', hk, hm⟩ := hW
    refine ⟨.ref l, rfl, Nat.zero_le _, fun e ne => ⟨l, e, left, rfl, rfl, .inl (.inl ?_), .inl (.inl upd_same), _, rfl, ite2 (fun c => ?_) (fun c => ?_)⟩⟩
    · rw [upd_ne (ne_of_none el ne)]; exact el
    · -- one more is drawn
      have hl0 : 0 < left.length := by
        cases left with
        | nil => exact absurd c (by decide)
        | cons x r => exact Nat.succ_pos _
      have hll : left.length ≤ 1000 := by
        have := hp.length_eq
        rw [List.length_append] at this
        omega
      have el2 : (upd H' e (.lst [])) l = some (.lst left) := by rw [upd_ne (ne_of_none el ne)]; exact el
      have ef2 : (upd H' e (.lst [])) f = some (.lst found) := by rw [upd_ne (ne_of_none ef ne)]; exact ef
      refine ⟨fun σ' H2 => ∃ left' found' : List V, σ' = [some (.ref b), some (.ref a), some (.ref l), some (.ref f)] ∧ H2 l = some (.lst left') ∧ H2 f = some (.lst found') ∧ (left' ++ found').Perm xs ∧ Box (n + left'.length) H2 b ∧ Keep b H H2 ∧ left'.length + 1 = m,
        fun σ' H2 h2 => ?_, ?_⟩
      · obtain ⟨left', found', g1, g2, g3, g4, g5, g6, g7⟩ := h2
        exact ⟨left'.length, by omega, left', found', g1, g2, g3, g4, g5, g6, rfl⟩
      · refine ⟨.ref f, rfl, .inl ⟨rfl, _, .inl (.inl ef2)⟩, .ref l, rfl, .inl ⟨rfl, _, .inl (.inl el2)⟩, .ref b, rfl, .ref l, rfl, l, left, rfl, .inl (.inl (.inl el2)), ?_⟩
        refine ⟨b, n + (left.length - 1), left.length, rfl, (hb'.same (same_new ne)).mono (by omega), by omega, by omega, fun r H2 r0 r1 hb2 k2 => ?_⟩
        have el3 : H2 l = some (.lst left) := k2 l _ hbl.symm el2
        have ef3 : H2 f = some (.lst found) := k2 f _ hbf.symm ef2
        have hj : r.toNat < left.length := by omega
        refine ⟨l, left, r, r.toNat, left[r.toNat], rfl, rfl, el3, by omega, by omega, seq_ix r0 r1, List.getElem?_eq_getElem hj, ?_⟩
        have ef4 : (upd H2 l (.lst (left.eraseIdx r.toNat))) f = some (.lst found) := by rw [upd_ne hlf.symm]; exact ef3
        have hfl : found.length ≤ 1000 := by
          have := hp.length_eq
          rw [List.length_append] at this
          omega
        refine ⟨f, found, _, rfl, rfl, ef4, small1000 hfl, left.eraseIdx r.toNat, found ++ [left[r.toNat]], rfl, ?_, upd_same, ?_, ?_, ?_, ?_⟩
        · rw [upd_ne hlf, upd_same]
        · refine List.Perm.trans ?_ hp
          have p1 : (left[r.toNat] :: left.eraseIdx r.toNat).Perm left := perm_erase hj
          have p2 : (left.eraseIdx r.toNat ++ (found ++ [left[r.toNat]])).Perm (left[r.toNat] :: left.eraseIdx r.toNat ++ found) := by
            rw [← List.append_assoc]
            exact List.perm_append_comm.trans (by rw [List.singleton_append, List.cons_append])
          exact p2.trans (p1.append_right found)
        · have : (left.eraseIdx r.toNat).length = left.length - 1 := List.length_eraseIdx_of_lt hj
          rw [this]
          refine (hb2.keep (c := l) keep_upd hbl).keep (c := f) keep_upd hbf
        · intro x o nx hx
          have nxl : x ≠ l := ne_of_none hx nl
          have nxf : x ≠ f := ne_of_none hx nf0
          rw [upd_ne nxf, upd_ne nxl]
          exact k2 x o nx (same_new ne _ _ (hk x o nx hx))
        · rw [List.length_eraseIdx_of_lt hj]; omega
    · have hl0 : left = [] := by
        cases left with
        | nil => rfl
        | cons x r => exact absurd rfl c
      subst hl0
      have ef2 : (upd H' e (.lst [])) f = some (.lst found) := by rw [upd_ne (ne_of_none ef ne)]; exact ef
      exact ⟨.ref f, rfl, q _ f found hp (hk.trans (Keep.of_same (same_new ne))) (hb'.same (same_new ne)) nf0 ef2⟩
end
end Pc
namespace Pc
open PySem PySem.Spec PyProof.Rows L2 RZ
/-! ### pairings as lists of natural numbers -/
/-- the numbers as values -/
def nv (l : List Nat) : List V := l.map fun (i : Nat) => V.int (i : Int)
theorem nv_length (l : List Nat) : (nv l).length = l.length := List.length_map _
theorem nv_get {l : List Nat} {i x : Nat} (h : l[i]? = some x) : (nv l)[i]? = some (.int x) := by
  unfold nv; rw [List.getElem?_map, h]; rfl
theorem nv_at {l : List Nat} {i x : Nat} (h : l[i]? = some x) : atI (nv l) (i : Int) = some (.int x) := atI_nat (nv_get h)
theorem nv_set (l : List Nat) (i x : Nat) : (nv l).set i (.int (x : Int)) = nv (l.set i x) := by
  unfold nv; rw [List.map_set]
theorem nv_get' {l : List Nat} {i : Nat} {v : V} (h : (nv l)[i]? = some v) : ∃ x, l[i]? = some x ∧ v = .int (x : Int) := by
  unfold nv at h
  rw [List.getElem?_map] at h
  cases e : l[i]? with
  | none => rw [e] at h; cases h
  | some x => rw [e] at h; exact ⟨x, rfl, (Option.some.inj h).symm⟩
theorem ixN_nat {n i : Nat} (h : i < n) : ixN n (i : Int) = some i := by
  unfold ixN
  rw [if_pos (by omega), if_pos (by omega)]; rfl
theorem get_some {α : Type} {l : List α} {i : Nat} (h : i < l.length) : ∃ x, l[i]? = some x := ⟨_, List.getElem?_eq_getElem h⟩
theorem get_lt {α : Type} {l : List α} {i : Nat} {x : α} (h : l[i]? = some x) : i < l.length := (List.getElem?_eq_some_iff.mp h).1
/-- a pairing of n people -/
structure IsPair (n : Nat) (ps : List Nat) : Prop where
  len : ps.length = n
  par : ∀ x, x < n → ∃ y, ps[x]? = some y ∧ y < n ∧ y ≠ x ∧ ps[y]? = some x
/-- after t turns: the first t pairs are joined -/
def PInv (os fs : List Nat) (t : Nat) : Prop := fs.length = os.length ∧ ∀ j, j < t → ∀ x y, os[2 * j]? = some x → os[2 * j + 1]? = some y → fs[x]? = some y ∧ fs[y]? = some x
theorem PInv.step {os fs : List Nat} {t x y : Nat} (hnd : os.Nodup) (hlt : ∀ z ∈ os, z < os.length) (h : PInv os fs t) (hx : os[2 * t]? = some x) (hy : os[2 * t + 1]? = some y) :
    PInv os ((fs.set x y).set y x) (t + 1) := by
  obtain ⟨hl, hp⟩ := h
  have xl : x < fs.length := by rw [hl]; exact hlt x (List.mem_of_getElem? hx)
  have yl : y < fs.length := by rw [hl]; exact hlt y (List.mem_of_getElem? hy)
  have xy : x ≠ y := fun e => by
    subst e
    have := nd_ix hnd hx hy
    omega
  refine ⟨by rw [List.length_set, List.length_set, hl], fun j hj u v hu hv => ?_⟩
  by_cases e : j = t
  · subst e
    have e1 : u = x := Option.some.inj (hu.symm.trans hx)
    have e2 : v = y := Option.some.inj (hv.symm.trans hy)
    subst e1 e2
    refine ⟨?_, ?_⟩
    · rw [List.getElem?_set_ne (Ne.symm xy), List.getElem?_set_self xl]
    · rw [List.getElem?_set_self (by rw [List.length_set]; exact yl)]
  · obtain ⟨h1, h2⟩ := hp j (by omega) u v hu hv
    have a1 : x ≠ u := fun z => by subst z; have := nd_ix hnd hx hu; omega
    have a2 : y ≠ u := fun z => by subst z; have := nd_ix hnd hy hu; omega
    have a3 : x ≠ v := fun z => by subst z; have := nd_ix hnd hx hv; omega
    have a4 : y ≠ v := fun z => by subst z; have := nd_ix hnd hy hv; omega
    refine ⟨?_, ?_⟩
    · rw [List.getElem?_set_ne a2, List.getElem?_set_ne a1]; exact h1
    · rw [List.getElem?_set_ne a4, List.getElem?_set_ne a3]; exact h2
theorem PInv.done {os fs : List Nat} {n : Nat} (hp : os.Perm (List.range n)) (he : n % 2 = 0) (h : PInv os fs (n / 2)) : IsPair n fs := by
  have hl : os.length = n := by rw [hp.length_eq, List.length_range]
  have hnd : os.Nodup := hp.nodup_iff.mpr List.nodup_range
  refine ⟨by rw [h.1, hl], fun x hx => ?_⟩
  have hm : x ∈ os := hp.mem_iff.mpr (List.mem_range.mpr hx)
  obtain ⟨i, hi, ei⟩ := List.mem_iff_getElem.mp hm
  have gi : os[i]? = some x := by rw [List.getElem?_eq_getElem hi, ei]
  have lt_n : ∀ {k z : Nat}, os[k]? = some z → z < n := fun {k z} hz => List.mem_range.mp (hp.mem_iff.mp (List.mem_of_getElem? hz))
  by_cases hq : i % 2 = 0
  · have i1 : i + 1 < os.length := by omega
    obtain ⟨y, gy⟩ := get_some i1
    have g1 : os[2 * (i / 2)]? = some x := by rw [show 2 * (i / 2) = i by omega]; exact gi
    have g2 : os[2 * (i / 2) + 1]? = some y := by rw [show 2 * (i / 2) + 1 = i + 1 by omega]; exact gy
    obtain ⟨r1, r2⟩ := h.2 (i / 2) (by omega) x y g1 g2
    exact ⟨y, r1, lt_n gy, fun e => by subst e; have := nd_ix hnd gi gy; omega, r2⟩
  · have i1 : i - 1 < os.length := by omega
    obtain ⟨y, gy⟩ := get_some i1
    have g1 : os[2 * (i / 2)]? = some y := by rw [show 2 * (i / 2) = i - 1 by omega]; exact gy
    have g2 : os[2 * (i / 2) + 1]? = some x := by rw [show 2 * (i / 2) + 1 = i by omega]; exact gi
    obtain ⟨r1, r2⟩ := h.2 (i / 2) (by omega) y x g1 g2
    exact ⟨y, r2, lt_n gy, fun e => by subst e; have := nd_ix hnd gi gy; omega, r1⟩
/-- range(0, n, 2) -/
theorem fits_long {i : Int} (h1 : -(2 ^ 62) ≤ i) (h2 : i < 2 ^ 62) : Builtin.Range.rangeFitsLong i = true := by
  unfold Builtin.Range.rangeFitsLong
  rw [Bool.and_eq_true]
  exact ⟨decide_eq_true (by omega), decide_eq_true (by omega)⟩
theorem rgc_two {n : Nat} (h : n ≤ 1000000) : RgC 0 (n : Int) 2 ((n + 1) / 2) := by
  have e : Builtin.Range.rangeSize 0 (n : Int) 2 = (((n + 1) / 2 : Nat) : Int) := by
    unfold Builtin.Range.rangeSize
    rw [if_pos (by decide)]
    split <;> omega
  refine ⟨by decide, by decide, ?_, e⟩
  unfold Builtin.Range.small
  rw [e, fits_long (i := 0) (by decide) (by decide), fits_long (i := (n : Int)) (by omega) (by omega), fits_long (i := 2) (by decide) (by decide), fits_long (i := (((n + 1) / 2 : Nat) : Int)) (by omega) (by omega), if_pos (by decide), fits_long (i := (n : Int) + (2 - 1)) (by omega) (by omega), Bool.or_true]
  rfl
theorem rep_flat {α : Type} (n : Nat) (x : α) : (List.replicate n [x]).flatten = List.replicate n x := by
  induction n with
  | zero => rfl
  | succ n ih => rw [List.replicate_succ, List.flatten_cons, ih, List.replicate_succ]; rfl
end Pc
namespace Pc
open PySem PySem.Spec PyProof.Rows L2 RZ
section
variable {P : Program} {w : World} {K : PySem.W.Frag} {mg : Str → Option Value} {base : Heap}
/-! ### one of some -/
def spOf (K : PySem.W.Frag) : Sp := fun vs H Q _ => ∃ (b a : Addr) (n : Nat) (xs : List V), vs = [.ref b, .ref a] ∧ Box (n + 1) H b ∧ a ≠ b ∧ H a = some (.lst xs) ∧ 0 < xs.length ∧ xs.length ≤ 1000 ∧
  ∀ (H' : Hp) (i : Nat) (v : V), xs[i]? = some v → Keep b H H' → Box n H' b → Q v H'
theorem ok_of (T : Env K mg) : FnOk P w K mg base CX0 2 T.f_pick T.d_pick ["_law_source", "_law_some"] (spOf K) := by
  have GT : FnOk P w K mg base CX0 1 T.f_draw T.d_draw ["_law_source", "_law_bound"] spTake := ok_take T
  refine T.F_pick.ok sc_pick (fun vs H Q E h => ?_) (fun cdv A outer s H vs Q E hr h => ?_)
  · obtain ⟨b, a, n, xs, rfl, _⟩ := h
    rfl
  · obtain ⟨b, a, n, xs, rfl, hB, hab, ha, h0, hl, q⟩ := h
    refine ⟨_, pss_one (ps_ret (pe_ix ix_list (pv 1) (pe_call GT hr (by rfl) T.g_draw T.F_draw.kp T.b_draw .nil pass0 (pa_cons (pv 0) (pa_cons (pe_callB call_len_seq (by rfl) T.n_len PySem.boot_len (pa_cons (pv 1) pa_nil)) pa_nil))) (fun _ _ => rfl))), ?_⟩
    refine ⟨.ref a, rfl, .ref b, rfl, .ref a, rfl, a, xs, rfl, .inl (.inl (.inl ha)), b, n, xs.length, rfl, hB, by omega, by omega, fun r H' r0 r1 hB' k => ?_⟩
    obtain ⟨v, hv⟩ := get_some (l := xs) (i := r.toNat) (by omega)
    refine ⟨a, xs, r, v, rfl, rfl, .inl (.inl (k _ _ hab ha)), ?_, q H' r.toNat v hv k hB'⟩
    have := atI_nat hv
    rw [show ((r.toNat : Nat) : Int) = r by omega] at this
    exact this
end
end Pc
namespace Pc
open PySem PySem.Spec PyProof.Rows L2 RZ
theorem perm_map_inv {α β : Type} (f : α → β) {zs ys : List β} (h : zs.Perm ys) : ∀ l : List α, zs = l.map f → ∃ l' : List α, ys = l'.map f ∧ l'.Perm l := by
  induction h with
  | nil => exact fun l e => ⟨l, e, List.Perm.refl _⟩
  | cons x _ ih =>
    intro l e
    cases l with
    | nil => cases e
    | cons a r =>
      injection e with e1 e2
      obtain ⟨l', h1, h2⟩ := ih r e2
      exact ⟨a :: l', by rw [h1, e1]; rfl, h2.cons a⟩
  | swap x y t =>
    intro l e
    cases l with
    | nil => cases e
    | cons a r =>
      cases r with
      | nil => injection e with _ e2; cases e2
      | cons b r =>
        injection e with e1 e2
        injection e2 with e2 e3
        exact ⟨b :: a :: r, by rw [e1, e2, e3]; rfl, List.Perm.swap _ _ _⟩
  | trans _ _ ih1 ih2 =>
    intro l e
    obtain ⟨l1, h1, h2⟩ := ih1 l e
    obtain ⟨l2, h3, h4⟩ := ih2 l1 h1
    exact ⟨l2, h3, h4.trans h2⟩
theorem rg_nv (n : Nat) : rgV 0 (n : Int) = nv (List.range n) := by
  unfold rgV nv
  rw [Int.sub_zero, Int.toNat_natCast]
  refine List.map_congr_left fun i _ => ?_
  rw [Int.zero_add]
end Pc
namespace Pc
open PySem PySem.Spec PyProof.Rows L2 RZ
/-! ### data where more is tracked -/
theorem same_tup {K : PySem.W.Frag} {H H' : Hp} {a : Addr} {xs : List V} (e : Same H H') (h : SqT K H a xs) : SqT K H' a xs := by
  rcases h with (h | ⟨o, h⟩) | h
  · exact .inl (.inl (e _ _ h))
  · exact .inl (.inr ⟨o, e _ _ h⟩)
  · exact .inr h
mutual
theorem dp_same {K : PySem.W.Frag} {H H' : Hp} (e : Same H H') : ∀ {v : V} {d : PyData}, Dp K H v d → Dp K H' v d
  | _, _, .non => .non
  | _, _, .bl b => .bl b
  | _, _, .int i => .int i
  | _, _, .str x => .str x
  | _, _, .lst h a => .lst (e.seq h) (dpa_same e a)
  | _, _, .tup h a => .tup (same_tup e h) (dpa_same e a)
theorem dpa_same {K : PySem.W.Frag} {H H' : Hp} (e : Same H H') : ∀ {vs : List V} {ds : List PyData}, DpAll K H vs ds → DpAll K H' vs ds
  | _, _, .nil => .nil
  | _, _, .cons h a => .cons (dp_same e h) (dpa_same e a)
end
theorem dpa_len {K : PySem.W.Frag} {H : Hp} : ∀ {vs : List V} {ds : List PyData}, DpAll K H vs ds → vs.length = ds.length
  | _, _, .nil => rfl
  | _, _, .cons _ a => by rw [List.length_cons, List.length_cons, dpa_len a]
theorem dpa_get {K : PySem.W.Frag} {H : Hp} : ∀ {vs : List V} {ds : List PyData} {i : Nat} {v : V}, DpAll K H vs ds → vs[i]? = some v → ∃ d, ds[i]? = some d ∧ Dp K H v d
  | _, _, _, _, .nil, h => by simp at h
  | _, _, 0, _, .cons (d := d) h _, e => by
    cases Option.some.inj e
    exact ⟨d, rfl, h⟩
  | _, _, i + 1, v, .cons _ a, e => dpa_get (i := i) a e
theorem depth_get : ∀ {ds : List PyData} {i : Nat} {d : PyData}, ds[i]? = some d → d.depth ≤ PyData.depthAll ds
  | [], _, _, h => by simp at h
  | d :: r, 0, _, h => by
    cases Option.some.inj h
    exact Nat.le_max_left _ _
  | d :: r, i + 1, x, h => Nat.le_trans (depth_get (i := i) (ds := r) h) (Nat.le_max_right _ _)
mutual
/-- no list in it is longer than a hundred thousand -/
def narrow : PyData → Prop
  | .list xs => xs.length ≤ 100000 ∧ narrowAll xs
  | .tuple xs => xs.length ≤ 100000 ∧ narrowAll xs
  | _ => True
def narrowAll : List PyData → Prop
  | [] => True
  | x :: xs => narrow x ∧ narrowAll xs
end
theorem narrow_get : ∀ {ds : List PyData} {i : Nat} {d : PyData}, narrowAll ds → ds[i]? = some d → narrow d
  | [], _, _, _, h => by simp at h
  | d :: r, 0, _, n, h => by
    cases Option.some.inj h
    exact n.1
  | d :: r, i + 1, x, n, h => narrow_get (i := i) (ds := r) n.2 h
theorem narrow_of : ∀ {ds : List PyData}, (∀ d ∈ ds, narrow d) → narrowAll ds
  | [], _ => trivial
  | d :: r, h => ⟨h d List.mem_cons_self, narrow_of fun x hx => h x (List.mem_cons_of_mem _ hx)⟩
theorem narrow_ints (ns : List Int) : narrowAll (ns.map PyData.int) := narrow_of fun d hd => by
  obtain ⟨i, _, rfl⟩ := List.mem_map.mp hd
  exact trivial
theorem line_big {n : Nat} (h : n ≤ 100000) : n < sizeLine := Nat.lt_of_le_of_lt h (by decide)
theorem ty_lst {K : PySem.W.Frag} {H : Hp} {a : Addr} {xs : List V} (h : SqL K H a xs) : TyX K H (.ref a) (.type "list") := by
  rcases h with (h | ⟨o, h⟩) | ⟨o, its, n, h, c, _⟩
  · exact .base (.lst h)
  · exact .base (.frz h)
  · exact .kList h c
theorem ty_tup {K : PySem.W.Frag} {H : Hp} {a : Addr} {xs : List V} (h : SqT K H a xs) : TyX K H (.ref a) (.type "tuple") := by
  rcases h with (h | ⟨o, h⟩) | ⟨o, its, n, h, c, _⟩
  · exact .base (.tup h)
  · exact .fTuple h
  · exact .kTuple h c
theorem kit2 {K : PySem.W.Frag} {t a b : String} {p q : Bool} (h1 : kitB t a = some p) (h2 : kitB t b = some q) : PySem.W.kitAny K (.type t) [.type a, .type b] = some (p || q) := by
  refine kitAny_cons (kit_ty h1) (fun e => kitAny_cons (kit_ty h2) (fun e2 => ?_) (fun e2 => ?_)) (fun e => ?_)
  · subst e e2; rfl
  · subst e e2; rfl
  · subst e; rfl
section
variable {K : PySem.W.Frag}
theorem any_lt_int : PySem.W.kitAny K (.type "int") [.type "list", .type "tuple"] = some false := kit2 (p := false) (q := false) (by decide +kernel) (by decide +kernel)
theorem any_sb_int : PySem.W.kitAny K (.type "int") [.type "str", .type "bool"] = some false := kit2 (p := false) (q := false) (by decide +kernel) (by decide +kernel)
theorem any_bs_int : PySem.W.kitAny K (.type "int") [.type "bool", .type "str"] = some false := kit2 (p := false) (q := false) (by decide +kernel) (by decide +kernel)
theorem one_int_int : PySem.W.kitOne K (.type "int") (.type "int") = some true := kit_ty (by decide +kernel)
theorem one_int_bool : PySem.W.kitOne K (.type "int") (.type "bool") = some false := kit_ty (by decide +kernel)
theorem one_int_list : PySem.W.kitOne K (.type "int") (.type "list") = some false := kit_ty (by decide +kernel)
theorem one_int_tuple : PySem.W.kitOne K (.type "int") (.type "tuple") = some false := kit_ty (by decide +kernel)
theorem any_lt_none : PySem.W.kitAny K (.type "NoneType") [.type "list", .type "tuple"] = some false := kit2 (p := false) (q := false) (by decide +kernel) (by decide +kernel)
theorem any_sb_none : PySem.W.kitAny K (.type "NoneType") [.type "str", .type "bool"] = some false := kit2 (p := false) (q := false) (by decide +kernel) (by decide +kernel)
theorem any_bs_none : PySem.W.kitAny K (.type "NoneType") [.type "bool", .type "str"] = some false := kit2 (p := false) (q := false) (by decide +kernel) (by decide +kernel)
theorem one_none_int : PySem.W.kitOne K (.type "NoneType") (.type "int") = some false := kit_ty (by decide +kernel)
theorem one_none_bool : PySem.W.kitOne K (.type "NoneType") (.type "bool") = some false := kit_ty (by decide +kernel)
theorem one_none_list : PySem.W.kitOne K (.type "NoneType") (.type "list") = some false := kit_ty (by decide +kernel)
theorem one_none_tuple : PySem.W.kitOne K (.type "NoneType") (.type "tuple") = some false := kit_ty (by decide +kernel)
theorem any_lt_bool : PySem.W.kitAny K (.type "bool") [.type "list", .type "tuple"] = some false := kit2 (p := false) (q := false) (by decide +kernel) (by decide +kernel)
theorem any_sb_bool : PySem.W.kitAny K (.type "bool") [.type "str", .type "bool"] = some true := kit2 (p := false) (q := true) (by decide +kernel) (by decide +kernel)
theorem any_bs_bool : PySem.W.kitAny K (.type "bool") [.type "bool", .type "str"] = some true := kit2 (p := true) (q := false) (by decide +kernel) (by decide +kernel)
theorem one_bool_int : PySem.W.kitOne K (.type "bool") (.type "int") = some true := kit_ty (by decide +kernel)
theorem one_bool_bool : PySem.W.kitOne K (.type "bool") (.type "bool") = some true := kit_ty (by decide +kernel)
theorem one_bool_list : PySem.W.kitOne K (.type "bool") (.type "list") = some false := kit_ty (by decide +kernel)
theorem one_bool_tuple : PySem.W.kitOne K (.type "bool") (.type "tuple") = some false := kit_ty (by decide +kernel)
theorem any_lt_str : PySem.W.kitAny K (.type "str") [.type "list", .type "tuple"] = some false := kit2 (p := false) (q := false) (by decide +kernel) (by decide +kernel)
theorem any_sb_str : PySem.W.kitAny K (.type "str") [.type "str", .type "bool"] = some true := kit2 (p := true) (q := false) (by decide +kernel) (by decide +kernel)
theorem any_bs_str : PySem.W.kitAny K (.type "str") [.type "bool", .type "str"] = some true := kit2 (p := false) (q := true) (by decide +kernel) (by decide +kernel)
theorem one_str_int : PySem.W.kitOne K (.type "str") (.type "int") = some false := kit_ty (by decide +kernel)
theorem one_str_bool : PySem.W.kitOne K (.type "str") (.type "bool") = some false := kit_ty (by decide +kernel)
theorem one_str_list : PySem.W.kitOne K (.type "str") (.type "list") = some false := kit_ty (by decide +kernel)
theorem one_str_tuple : PySem.W.kitOne K (.type "str") (.type "tuple") = some false := kit_ty (by decide +kernel)
theorem any_lt_list : PySem.W.kitAny K (.type "list") [.type "list", .type "tuple"] = some true := kit2 (p := true) (q := false) (by decide +kernel) (by decide +kernel)
theorem any_sb_list : PySem.W.kitAny K (.type "list") [.type "str", .type "bool"] = some false := kit2 (p := false) (q := false) (by decide +kernel) (by decide +kernel)
theorem any_bs_list : PySem.W.kitAny K (.type "list") [.type "bool", .type "str"] = some false := kit2 (p := false) (q := false) (by decide +kernel) (by decide +kernel)
theorem one_list_int : PySem.W.kitOne K (.type "list") (.type "int") = some false := kit_ty (by decide +kernel)
theorem one_list_bool : PySem.W.kitOne K (.type "list") (.type "bool") = some false := kit_ty (by decide +kernel)
theorem one_list_list : PySem.W.kitOne K (.type "list") (.type "list") = some true := kit_ty (by decide +kernel)
theorem one_list_tuple : PySem.W.kitOne K (.type "list") (.type "tuple") = some false := kit_ty (by decide +kernel)
theorem any_lt_tuple : PySem.W.kitAny K (.type "tuple") [.type "list", .type "tuple"] = some true := kit2 (p := false) (q := true) (by decide +kernel) (by decide +kernel)
theorem any_sb_tuple : PySem.W.kitAny K (.type "tuple") [.type "str", .type "bool"] = some false := kit2 (p := false) (q := false) (by decide +kernel) (by decide +kernel)
theorem any_bs_tuple : PySem.W.kitAny K (.type "tuple") [.type "bool", .type "str"] = some false := kit2 (p := false) (q := false) (by decide +kernel) (by decide +kernel)
theorem one_tuple_int : PySem.W.kitOne K (.type "tuple") (.type "int") = some false := kit_ty (by decide +kernel)
theorem one_tuple_bool : PySem.W.kitOne K (.type "tuple") (.type "bool") = some false := kit_ty (by decide +kernel)
theorem one_tuple_list : PySem.W.kitOne K (.type "tuple") (.type "list") = some false := kit_ty (by decide +kernel)
theorem one_tuple_tuple : PySem.W.kitOne K (.type "tuple") (.type "tuple") = some true := kit_ty (by decide +kernel)
end
theorem cls2 (a b : String) : Paired ClsV [.ty a, .ty b] [.type a, .type b] := .cons (.ty a) (.cons (.ty b) .nil)
/-- zip of two tuples -/
theorem walk_zipT {K : PySem.W.Frag} {a b : Addr} {xs ys : List V} {n : Nat} (hn : n = min xs.length ys.length) : Walk (ItzT K a b) n (fun H => SqT K H a xs ∧ SqT K H b ys) (YPair (fun i => xs[i]?) (fun i => ys[i]?)) := by
  subst hn
  refine ⟨fun i _ hi q => ?_, fun _ q => ⟨xs, ys, q.1, q.2, by omega⟩, fun i H v H' _ q y => ?_⟩
  · obtain ⟨x, hx⟩ := get_some (l := xs) (i := i) (by omega)
    obtain ⟨z, hz⟩ := get_some (l := ys) (i := i) (by omega)
    exact ⟨xs, ys, x, z, q.1, q.2, hx, hz⟩
  · obtain ⟨T, x, z, h1, h2, h3, h4, h5⟩ := y
    exact ⟨T, x, z, h1, h2, h3, h4 xs q.1, h5 ys q.2⟩
theorem fn_never {P : Program} {w : World} {K : PySem.W.Frag} {mg : Str → Option Value} {base : Heap} {CX : CXT} {k : Nat} {f : Addr} {fd : FuncData} {ps : List Str} {sp : Sp} (h : ∀ vs H Q E, ¬ sp vs H Q E) : FnOk P w K mg base CX k f fd ps sp :=
  ⟨fun vs H Q E q => absurd q (h vs H Q E), fun _ _ _ H _ _ vs Q E _ _ _ _ q => absurd q (h vs H Q E)⟩
/-- a comprehension without a test -/
theorem yes_if {σ : L2.St} {H : Hp} {A B : Hp → Prop} (h : A H) : tYes σ H (fun b H3 => if b = true then A H3 else B H3) := by
  show if true = true then A H else B H
  exact iteT h
theorem all_rep : ∀ n : Nat, (List.replicate n true).all id = true
  | 0 => rfl
  | n + 1 => by rw [List.replicate_succ, List.all_cons, all_rep n]; rfl
end Pc
namespace Pc
open PySem PySem.Spec PyProof.Rows L2 RZ
section
variable {P : Program} {w : World} {K : PySem.W.Frag} {mg : Str → Option Value} {base : Heap}
/-! ### the same data twice -/
def spSame (K : PySem.W.Frag) (n : Nat) : Sp := fun vs H Q _ => ∃ (x y : V) (d : PyData), vs = [x, y] ∧ Dp K H x d ∧ Dp K H y d ∧ d.depth < n ∧ narrow d ∧ ∀ H', Same H H' → Q (.bl true) H'
theorem same_step (T : Env K mg) (n : Nat) (G : FnOk P w K mg base CX0 n T.f_same T.d_same ["_law_found", "_law_due"] (spSame K n)) : FnOk P w K mg base CX0 (n + 1) T.f_same T.d_same ["_law_found", "_law_due"] (spSame K (n + 1)) := by
  refine T.F_same.ok sc_same (fun vs H Q E h => ?_) (fun cdv A outer s H vs Q E hr h => ?_)
  · obtain ⟨x, y, d, rfl, _⟩ := h
    rfl
  · obtain ⟨x, y, d, rfl, hx, hy, hd, hw, q⟩ := h
    refine ⟨_, pss_cons (ps_if (pt_val (pe_callB call_isiT (by rfl) T.n_isinstance (by decide +kernel) (pa_cons (pv 1) (pa_cons (pe_tup (pa_cons (pe_bltn (v := .ty "list") (by rfl) T.n_list (by decide +kernel) rfl) (pa_cons (pe_bltn (v := .ty "tuple") (by rfl) T.n_tuple (by decide +kernel) rfl) pa_nil))) pa_nil))))
        (pss_cons (ps_if (PW.pt (pw_or (pt_cmpR op_ne (pe_callB call_isi (by rfl) T.n_isinstance (by decide +kernel) (pa_cons (pv 0) (pa_cons (pe_bltn (v := .ty "list") (by rfl) T.n_list (by decide +kernel) rfl) pa_nil))) (pe_callB call_isi (by rfl) T.n_isinstance (by decide +kernel) (pa_cons (pv 1) (pa_cons (pe_bltn (v := .ty "list") (by rfl) T.n_list (by decide +kernel) rfl) pa_nil))) (nomark _))
            (pw_or1 (pt_cmpR op_ne (pe_callB call_isi (by rfl) T.n_isinstance (by decide +kernel) (pa_cons (pv 0) (pa_cons (pe_bltn (v := .ty "tuple") (by rfl) T.n_tuple (by decide +kernel) rfl) pa_nil))) (pe_callB call_isi (by rfl) T.n_isinstance (by decide +kernel) (pa_cons (pv 1) (pa_cons (pe_bltn (v := .ty "tuple") (by rfl) T.n_tuple (by decide +kernel) rfl) pa_nil))) (nomark _)))))
          (pss_one (ps_ret pe_bl)) pss_nil)
        (pss_one (ps_ret (pe_and (pe_cmpR op_eq (pe_callB call_len_seq (by rfl) T.n_len PySem.boot_len (pa_cons (pv 0) pa_nil)) (pe_callB call_len_seq (by rfl) T.n_len PySem.boot_len (pa_cons (pv 1) pa_nil)) (nomark _))
          (pe_one (pe_callB (cr_all rfl) (by rfl) T.n_all (by decide +kernel) (pa_cons
            (pe_lc (own := [("_law_mine", 2), ("_law_its", 3)]) (g := gTup K 2 (gCons (gName 2) (gCons (gName 3) gNil))) (tt := tYes) (by rfl) sc_same.nd (pi_zipA (by rfl) T.n_zip (pa_cons (pv 0) (pa_cons (pv 1) pa_nil)))
              (blkOk_by (N := N_same) (sc := defScope s_same) (by decide +kernel))
              (fun _ _ _ _ _ => pg_tup (by rfl) (pgs_cons (pg_name (i := 2) sc_same.nd rfl (.inl rfl)) (pgs_cons (pg_name (i := 3) sc_same.nd rfl (.inl rfl)) pgs_nil)))
              (fun _ _ _ _ _ => pts_nil)
              (fun _ _ _ _ _ => pe_call G hr (by rfl) T.g_same T.F_same.kp T.b_same .nil pass0 (pa_cons (pv 2) (pa_cons (pv 3) pa_nil)))) pa_nil))))))) pss_nil)
      (pss_cons (ps_if (PW.pt (pw_or (pt_cmpR op_isN (pv 1) pe_non (nomark _)) (pw_or1 (pt_val (pe_callB call_isiT (by rfl) T.n_isinstance (by decide +kernel) (pa_cons (pv 1) (pa_cons (pe_tup (pa_cons (pe_bltn (v := .ty "bool") (by rfl) T.n_bool (by decide +kernel) rfl) (pa_cons (pe_bltn (v := .ty "str") (by rfl) T.n_str (by decide +kernel) rfl) pa_nil))) pa_nil)))))))
        (pss_one (ps_ret (pe_and (pe_cmpR op_eq (pv 0) (pv 1) (nomark _))
          (pe_and (pe_cmpR op_eq (pe_callB call_isi (by rfl) T.n_isinstance (by decide +kernel) (pa_cons (pv 0) (pa_cons (pe_bltn (v := .ty "bool") (by rfl) T.n_bool (by decide +kernel) rfl) pa_nil))) (pe_callB call_isi (by rfl) T.n_isinstance (by decide +kernel) (pa_cons (pv 1) (pa_cons (pe_bltn (v := .ty "bool") (by rfl) T.n_bool (by decide +kernel) rfl) pa_nil))) (nomark _))
          (pe_one (pe_cmpR op_eq (pe_cmpR op_isN (pv 0) pe_non (nomark _)) (pe_cmpR op_isN (pv 1) pe_non (nomark _)) (nomark _))))))) pss_nil)
      (pss_one (ps_ret (pe_and (pe_callB call_isi (by rfl) T.n_isinstance (by decide +kernel) (pa_cons (pv 0) (pa_cons (pe_bltn (v := .ty "int") (by rfl) T.n_int (by decide +kernel) rfl) pa_nil)))
        (pe_and (pe_not (pe_callB call_isi (by rfl) T.n_isinstance (by decide +kernel) (pa_cons (pv 0) (pa_cons (pe_bltn (v := .ty "bool") (by rfl) T.n_bool (by decide +kernel) rfl) pa_nil)))) (pe_one (pe_cmpR op_eq (pv 0) (pv 1) (nomark _)))))))), ?_⟩
    cases d with
    | dict _ => cases hx
    | int i =>
      cases hx; cases hy
      refine ⟨_, rfl, by show 2 ≤ sizeLine; decide, fun t nt => ⟨_, t, _, _, _, _, rfl, upd_same, cls2 _ _, .base (.int i), any_lt_int, _, rfl, iteF ?_⟩⟩
      refine ⟨_, rfl, rfl, _, rfl, iteF ⟨_, rfl, by show 2 ≤ sizeLine; decide, fun u nu => ⟨_, u, _, _, _, _, rfl, upd_same, cls2 _ _, .base (.int i), any_bs_int, _, rfl, iteF ?_⟩⟩⟩
      refine ⟨_, rfl, _, _, _, _, _, rfl, .ty _, .base (.int i), one_int_int, _, rfl, iteT ⟨_, rfl, _, _, _, _, _, rfl, .ty _, .base (.int i), one_int_bool, _, rfl, _, rfl, iteT ⟨_, rfl, _, rfl, rfl, ?_⟩⟩⟩
      rw [decide_eq_true rfl]
      exact q _ ((same_new nt).trans (same_new nu))
    | none =>
      cases hx; cases hy
      refine ⟨_, rfl, by show 2 ≤ sizeLine; decide, fun t nt => ⟨_, t, _, _, _, _, rfl, upd_same, cls2 _ _, .base .non, any_lt_none, _, rfl, iteF ?_⟩⟩
      refine ⟨_, rfl, rfl, _, rfl, iteT ?_⟩
      refine ⟨_, rfl, _, rfl, rfl, _, rfl, iteT ⟨_, rfl, _, _, _, _, _, rfl, .ty _, .base .non, one_none_bool, _, rfl, _, _, _, _, _, rfl, .ty _, .base .non, one_none_bool, rfl, _, rfl, iteT ⟨_, rfl, rfl, _, rfl, rfl, rfl, ?_⟩⟩⟩
      exact q _ (same_new nt)
    | bool b =>
      cases hx; cases hy
      refine ⟨_, rfl, by show 2 ≤ sizeLine; decide, fun t nt => ⟨_, t, _, _, _, _, rfl, upd_same, cls2 _ _, .base (.bl b), any_lt_bool, _, rfl, iteF ?_⟩⟩
      refine ⟨_, rfl, rfl, _, rfl, iteF ⟨_, rfl, by show 2 ≤ sizeLine; decide, fun u nu => ⟨_, u, _, _, _, _, rfl, upd_same, cls2 _ _, .base (.bl b), any_bs_bool, _, rfl, iteT ?_⟩⟩⟩
      refine ⟨_, rfl, _, rfl, rfl, _, rfl, ?_⟩
      rw [decide_eq_true rfl]
      refine iteT ⟨_, rfl, _, _, _, _, _, rfl, .ty _, .base (.bl b), one_bool_bool, _, rfl, _, _, _, _, _, rfl, .ty _, .base (.bl b), one_bool_bool, rfl, _, rfl, iteT ⟨_, rfl, rfl, _, rfl, rfl, rfl, ?_⟩⟩
      rw [decide_eq_true rfl]
      exact q _ ((same_new nt).trans (same_new nu))
    | str z =>
      cases hx; cases hy
      refine ⟨_, rfl, by show 2 ≤ sizeLine; decide, fun t nt => ⟨_, t, _, _, _, _, rfl, upd_same, cls2 _ _, .base (.str z), any_lt_str, _, rfl, iteF ?_⟩⟩
      refine ⟨_, rfl, rfl, _, rfl, iteF ⟨_, rfl, by show 2 ≤ sizeLine; decide, fun u nu => ⟨_, u, _, _, _, _, rfl, upd_same, cls2 _ _, .base (.str z), any_bs_str, _, rfl, iteT ?_⟩⟩⟩
      refine ⟨_, rfl, _, rfl, rfl, _, rfl, ?_⟩
      rw [decide_eq_true rfl]
      refine iteT ⟨_, rfl, _, _, _, _, _, rfl, .ty _, .base (.str z), one_str_bool, _, rfl, _, _, _, _, _, rfl, .ty _, .base (.str z), one_str_bool, rfl, _, rfl, iteT ⟨_, rfl, rfl, _, rfl, rfl, rfl, ?_⟩⟩
      rw [decide_eq_true rfl]
      exact q _ ((same_new nt).trans (same_new nu))
    | list ds =>
      cases hx with
      | lst hsx hax =>
      cases hy with
      | lst hsy hay =>
      rename_i a xs b ys
      have hlx := dpa_len hax
      have hly := dpa_len hay
      obtain ⟨hw1, hw2⟩ := hw
      refine ⟨_, rfl, by show 2 ≤ sizeLine; decide, fun t nt => ?_⟩
      have s1 : Same H (upd H t (.tup [.ty "list", .ty "tuple"])) := same_new nt
      have hsx1 := Same.seq s1 hsx
      have hsy1 := Same.seq s1 hsy
      refine ⟨_, t, _, _, _, _, rfl, upd_same, cls2 _ _, ty_lst hsy1, any_lt_list, _, rfl, iteT ?_⟩
      refine ⟨_, rfl, _, _, _, _, _, rfl, .ty _, ty_lst hsx1, one_list_list, _, rfl, _, _, _, _, _, rfl, .ty _, ty_lst hsy1, one_list_list, rfl, _, rfl, iteNS rfl ?_⟩
      refine ⟨_, rfl, _, _, _, _, _, rfl, .ty _, ty_lst hsx1, one_list_tuple, _, rfl, _, _, _, _, _, rfl, .ty _, ty_lst hsy1, one_list_tuple, rfl, _, rfl, iteNS rfl ?_⟩
      refine ⟨_, rfl, a, xs, rfl, .inl hsx1, _, rfl, b, ys, rfl, .inl hsy1, rfl, _, rfl, ?_⟩
      rw [decide_eq_true (show V.int (xs.length : Int) = V.int (ys.length : Int) by rw [hlx, hly])]
      refine iteT ⟨_, rfl, _, rfl, a, b, xs, ys, rfl, .inl ⟨hsx1, hsy1, fun D nD => ?_⟩⟩
      have nD0 : H D = none := s1.free nD
      refine lc_it (walk_zip (n := xs.length) (by omega)) (fun i H' => Same H H' ∧ H' D = some (.lst (List.replicate i (.bl true)))) ⟨s1.trans (same_new nD), upd_same⟩ (fun i H' _ h => ⟨Same.seq h.1 hsx, Same.seq h.1 hsy⟩) (fun i v H1 H2 hi h yy => ?_) (fun H' h => ?_)
      · obtain ⟨sm, eD⟩ := h
        obtain ⟨tp, u, v, rfl, nT, rfl, g1, g2⟩ := yy
        obtain ⟨d1, e1, f1⟩ := dpa_get hax g1
        obtain ⟨d2, e2, f2⟩ := dpa_get hay g2
        cases Option.some.inj (e1.symm.trans e2)
        have st : Same H (upd H1 tp (.tup [u, v])) := sm.trans (same_new nT)
        refine ⟨tp, _, rfl, .inl (.inl upd_same), rfl, _, _, rfl, _, _, rfl, rfl, rfl, yes_if ?_⟩
        refine ⟨_, rfl, _, rfl, u, v, d1, rfl, dp_same st f1, dp_same st f2, ?_, narrow_get hw2 e1, fun H3 s3 => ⟨_, s3 _ _ (same_new nT _ _ eD), ?_, ?_, ?_⟩⟩
        · have := depth_get e1
          have hd' : PyData.depthAll ds + 1 < n + 1 := hd
          omega
        · rw [List.length_replicate]
          exact line_big (by omega)
        · intro c o hc
          rw [upd_ne (ne_of_none hc nD0)]
          exact s3 _ _ (st _ _ hc)
        · rw [upd_same, List.replicate_succ']
      · obtain ⟨sm, eD⟩ := h
        refine ⟨D, List.replicate xs.length true, rfl, ?_, ?_⟩
        · rw [List.map_replicate]
          exact .inl (.inl eD)
        · rw [all_rep]
          exact q _ sm
    | tuple ds =>
      cases hx with
      | tup hsx hax =>
      cases hy with
      | tup hsy hay =>
      rename_i a xs b ys
      have hlx := dpa_len hax
      have hly := dpa_len hay
      obtain ⟨hw1, hw2⟩ := hw
      refine ⟨_, rfl, by show 2 ≤ sizeLine; decide, fun t nt => ?_⟩
      have s1 : Same H (upd H t (.tup [.ty "list", .ty "tuple"])) := same_new nt
      have hsx1 := same_tup s1 hsx
      have hsy1 := same_tup s1 hsy
      refine ⟨_, t, _, _, _, _, rfl, upd_same, cls2 _ _, ty_tup hsy1, any_lt_tuple, _, rfl, iteT ?_⟩
      refine ⟨_, rfl, _, _, _, _, _, rfl, .ty _, ty_tup hsx1, one_tuple_list, _, rfl, _, _, _, _, _, rfl, .ty _, ty_tup hsy1, one_tuple_list, rfl, _, rfl, iteNS rfl ?_⟩
      refine ⟨_, rfl, _, _, _, _, _, rfl, .ty _, ty_tup hsx1, one_tuple_tuple, _, rfl, _, _, _, _, _, rfl, .ty _, ty_tup hsy1, one_tuple_tuple, rfl, _, rfl, iteNS rfl ?_⟩
      refine ⟨_, rfl, a, xs, rfl, .inr hsx1, _, rfl, b, ys, rfl, .inr hsy1, rfl, _, rfl, ?_⟩
      rw [decide_eq_true (show V.int (xs.length : Int) = V.int (ys.length : Int) by rw [hlx, hly])]
      refine iteT ⟨_, rfl, _, rfl, a, b, xs, ys, rfl, .inr ⟨hsx1, hsy1, fun D nD => ?_⟩⟩
      have nD0 : H D = none := s1.free nD
      refine lc_it (walk_zipT (n := xs.length) (by omega)) (fun i H' => Same H H' ∧ H' D = some (.lst (List.replicate i (.bl true)))) ⟨s1.trans (same_new nD), upd_same⟩ (fun i H' _ h => ⟨same_tup h.1 hsx, same_tup h.1 hsy⟩) (fun i v H1 H2 hi h yy => ?_) (fun H' h => ?_)
      · obtain ⟨sm, eD⟩ := h
        obtain ⟨tp, u, v, rfl, nT, rfl, g1, g2⟩ := yy
        obtain ⟨d1, e1, f1⟩ := dpa_get hax g1
        obtain ⟨d2, e2, f2⟩ := dpa_get hay g2
        cases Option.some.inj (e1.symm.trans e2)
        have st : Same H (upd H1 tp (.tup [u, v])) := sm.trans (same_new nT)
        refine ⟨tp, _, rfl, .inl (.inl upd_same), rfl, _, _, rfl, _, _, rfl, rfl, rfl, yes_if ?_⟩
        refine ⟨_, rfl, _, rfl, u, v, d1, rfl, dp_same st f1, dp_same st f2, ?_, narrow_get hw2 e1, fun H3 s3 => ⟨_, s3 _ _ (same_new nT _ _ eD), ?_, ?_, ?_⟩⟩
        · have := depth_get e1
          have hd' : PyData.depthAll ds + 1 < n + 1 := hd
          omega
        · rw [List.length_replicate]
          exact line_big (by omega)
        · intro c o hc
          rw [upd_ne (ne_of_none hc nD0)]
          exact s3 _ _ (st _ _ hc)
        · rw [upd_same, List.replicate_succ']
      · obtain ⟨sm, eD⟩ := h
        refine ⟨D, List.replicate xs.length true, rfl, ?_, ?_⟩
        · rw [List.map_replicate]
          exact .inl (.inl eD)
        · rw [all_rep]
          exact q _ sm
theorem ok_same (T : Env K mg) : ∀ n : Nat, FnOk P w K mg base CX0 n T.f_same T.d_same ["_law_found", "_law_due"] (spSame K n)
  | 0 => fn_never fun vs H Q E h => by
    obtain ⟨x, y, d, _, _, _, hd, _⟩ := h
    exact absurd hd (Nat.not_lt_zero _)
  | n + 1 => same_step T n (ok_same T n)
end
end Pc
namespace Pc
open PySem PySem.Spec PyProof.Rows L2 RZ
/-! ### enumerate of a tuple -/
theorem draws_tuple {prog : Program} {w : World} {A : Around} (hh : A.handled = none) (it l : Addr) (hne : l ≠ it) (items : Array Value) :
    Draws prog w A it [it, l] items.size (fun i v => items[i]? = some v) (fun i h => h.IsTupleIter it l i ∧ h.IsTuple l items) where
  live i h st := by
    obtain ⟨⟨o, ho, _⟩, _⟩ := st
    exact ⟨o, ho⟩
  frame i h h' st hk := ⟨Heap.IsTupleIter.at st.1 (hk it (by simp)), Heap.IsTuple.at st.2 (hk l (by simp))⟩
  item i s Q E hi st hQ := by
    have hx : items[i]? = some items[i] := by simp [hi]
    exact nextOf_tuple_item st.1 st.2 hx fun h' hit' hs' => hQ _ h' s.toks hx ⟨hit', st.2.extBut hs'.extBut hne⟩ hs'
  done s Q E st hE := nextOf_tuple_end hh st.1 st.2 (by simp) hE
set_option maxHeartbeats 4000000 in
theorem enum_newT (l : Addr) (items : Array Value) (n : Nat) (dct : Option Addr) (sl : Array (Option Value)) :
    Meets (Builtin.«enumerate.__new__» ⟨[.type "enumerate", .ref l], []⟩) (fun _ R s =>
      s.heap.get? l = some { cls := .type "tuple", dict := dct, data := .seq items n, slots := sl } ∧
      R (.ok (.ret (.ref (s.heap.push { cls := .type "tuple_iterator", data := .fields #[.ref l, .int 0 0] }).objs.size)))
        { s with heap := Heap.push (s.heap.push { cls := .type "tuple_iterator", data := .fields #[.ref l, .int 0 0] }) { cls := .type "enumerate", data := .fields #[.none, .bool false, .ref s.heap.objs.size, rawInt 0, .none, .none] } }) := by
  refine .of_wp fun prog w A R s h => ?_
  obtain ⟨hp, g, d, tk, os⟩ := s
  obtain ⟨hl, h⟩ := h
  have subE := sub_enumerate
  have isT : Heap.IsTuple (Shared.heap ⟨hp, g, d, tk, os⟩) l items := ⟨_, hl, rfl, n, rfl⟩
  wp_walk using AutoSeq1.wpAny_loadPart' hl
  refine wpAny_stack_any fun st => wpAny_pure ?_
  split
  · rename_i c _ _ _ _ _
    cases (c == Value.type "enumerate") <;> (wp_walk using AutoSeq1.wpAny_loadPart' hl, wpAny_pyIter_tuple isT; exact ⟨_, rfl, h⟩)
  · wp_walk using AutoSeq1.wpAny_loadPart' hl, wpAny_pyIter_tuple isT
    exact ⟨_, rfl, h⟩
theorem call_enumT {prog : Program} {w : World} {A : Around} {E : Value → Shared → Prop} {s : Shared} {l : Addr} {items : Array Value} {Q : Value → Shared → Prop} (hL : s.heap.IsTuple l items)
    (h : ∀ h', IsEnum h' (s.heap.objs.size + 1) s.heap.objs.size 0 .none → h'.IsTupleIter s.heap.objs.size l 0 →
      (∀ b o, s.heap.get? b = some o → h'.get? b = some o) → Q (.ref (s.heap.objs.size + 1)) { s with heap := h' }) :
    wpAny (model prog w) A (call (.type "enumerate") [.ref l]) Q E s := by
  obtain ⟨⟨c, dct, dt, sl⟩, hl, hc, n, hd⟩ := hL
  have hc' : c = .type "tuple" := hc
  have hd' : dt = .seq items n := hd
  subst hc' hd'
  refine callType_new F.called_enumerate (by decide) (F.typeCall_enumerate_1 _) (F.newCall_enumerate_1 _) (fun obj => F.args_object_init_2 obj _) F.entry_enumerate_new (enum_newT l items n dct sl) ⟨hl, ?_⟩
  have hz : (s.heap.push { cls := .type "tuple_iterator", data := .fields #[.ref l, .int 0 0] }).objs.size = s.heap.objs.size + 1 := Heap.size_push ..
  have he := Heap.get?_push_size (s.heap.push { cls := .type "tuple_iterator", data := .fields #[.ref l, .int 0 0] })
    (o := { cls := .type "enumerate", data := .fields #[.none, .bool false, .ref s.heap.objs.size, rawInt 0, .none, .none] }) rfl
  rw [hz] at he
  show _ ∧ _
  rw [hz]
  exact ⟨⟨_, he, rfl⟩, h _ he ⟨{ cls := .type "tuple_iterator", data := .fields #[.ref l, .int 0 0] }, Heap.get?_push_of_some _ (Heap.get?_push_size _ rfl), rfl, rfl⟩ fun b o x => Heap.get?_push_of_some _ (Heap.get?_push_of_some _ x)⟩
/-- the tuple at a, its items in new pairs with their places -/
def IteT (K : PySem.W.Frag) (a : Addr) : It where
  go i H := ∃ (xs : List V) (x : V), SqT K H a xs ∧ xs[i]? = some x
  yld i H v H' := ∃ T x, v = .ref T ∧ H T = none ∧ H' = upd H T (.tup [.int (i : Nat), x]) ∧ ∀ xs, SqT K H a xs → xs[i]? = some x
  stop i H := ∃ xs : List V, SqT K H a xs ∧ xs.length ≤ i
theorem turn_enumT {P : Program} {w : World} {K : PySem.W.Frag} {elts : List Expr} {kk : Nat} {tpos : Pos} (a e it : Addr) (hei : e ≠ it) (hae : a ≠ e) (hai : a ≠ it) :
    Turn P w K (.Tuple elts kk tpos) (IteT K a) [e, it] e (fun i h => (∃ old, IsEnum h e it ((i : Nat) : Int) old) ∧ h.IsTupleIter it a i) where
  mem := by simp
  obj i h st b hb := by
    obtain ⟨⟨old, he⟩, ⟨o, ho, hc, hd⟩⟩ := st
    rcases (show b = e ∨ b = it by simpa using hb) with z | z
    · rw [z]; exact ⟨_, he, fun v q => nomatch q⟩
    · rw [z]; exact ⟨o, ho, fun v q => by rw [hd] at q; cases q⟩
  keep i h h' st k := by
    obtain ⟨⟨old, he⟩, hi⟩ := st
    exact ⟨⟨old, k e (by simp) _ he⟩, hi.at fun o q => k it (by simp) o q⟩
  item := by
    intro X hP hw hK hc i pins s σ H E I hf st hg
    subst hP hw hK
    obtain ⟨⟨old, he⟩, hit⟩ := st
    obtain ⟨xs, x, hq, hx⟩ := hg
    obtain ⟨its, rv, p, hz⟩ := I.tuple hq
    have p2 : s.heap.IsTuple a its.toArray := p
    obtain ⟨u, hu, ru⟩ := rv.get hx
    have hlt : i < its.toArray.size := by
      rw [List.size_toArray]
      exact get_lt hu
    have D := draws_tuple (prog := X.prog) (w := X.w) (A := X.A.in1) (show X.A.in1.handled = none from I.ok.hd hc) it a hai its.toArray
    have hel : e < s.heap.objs.size := Heap.lt_size he
    have hil : it < s.heap.objs.size := by obtain ⟨_, q, _⟩ := hit; exact Heap.lt_size q
    refine wpAny_pyNext_enum_itemD D he ⟨hit, p2⟩ hlt hei (by simp [hei, hae.symm]) fun y h' tk hy ho hst hT hsz hk => ?_
    have ey : y = u := by
      have : its.toArray[i]? = some y := hy
      rw [List.getElem?_toArray, hu] at this
      exact (Option.some.inj this).symm
    subst ey
    refine ⟨_, rfl, wpAny_letOwnedTupleGo_enum (s := { s with heap := h', toks := tk + 1 }) ho fun h'' he' sb => ?_⟩
    have hT2 : h''.get? s.heap.objs.size = some { cls := .type "tuple", data := .seq #[.int i tk, y] } := (sb.2 _ (Nat.ne_of_gt hel)).trans hT
    have new : ObjOk X.prog X.w (upd H s.heap.objs.size (.tup [.int (i : Nat), x])) h'' s.heap.objs.size (.tup [.int (i : Nat), x]) :=
      ⟨by show 2 ≤ sizeLine; decide, [.int i tk, y], .cons ⟨_, rfl⟩ (.cons ru .nil), ⟨_, hT2, rfl, _, rfl⟩⟩
    have I1 := I.turnedNew (t' := tk + 1) (h' := h'') (ch := [e, it]) (fun b ob hb q => (sb.2 b (fun z => hb (by simp [z]))).trans (hk b ob (fun z => hb (by simp [z])) (fun z => hb (by simp [z])) q)) hf (Nat.le_refl _) new
    refine ⟨.ref s.heap.objs.size, _, I1, rfl, ⟨_, x, rfl, I.hok.fresh (Nat.le_refl _), rfl, fun ys hy => by rw [I.tuple_inj hy hq]; exact hx⟩, ⟨⟨y, ?_⟩, hst.1.at fun o q => (sb.2 it hei.symm).trans q⟩, fun b hb => ?_⟩
    · rw [show ((i + 1 : Nat) : Int) = (i : Int) + 1 by omega]; exact he'
    · have hb' : b < s.heap.objs.size := by
        rcases (show b = e ∨ b = it by simpa using hb) with z | z
        · rw [z]; exact hel
        · rw [z]; exact hil
      rw [upd_ne (Nat.ne_of_lt hb')]
      exact (hf b hb).1
  done := by
    intro X hP hw hK hc i pins s σ H E I hf st hg
    subst hP hw hK
    obtain ⟨⟨old, he⟩, hit⟩ := st
    obtain ⟨xs, hq, hx⟩ := hg
    obtain ⟨its, rv, p, hz⟩ := I.tuple hq
    have p2 : s.heap.IsTuple a its.toArray := p
    obtain ⟨f0, f1, f2, f3, f4, f5⟩ := hf it (by simp)
    have hl := rv.length
    have hT : s.TypeIs (.ref e) "enumerate" := ⟨_, he, rfl⟩
    unfold pyNext
    refine wpAny_bind (wpAny_attempt (wpAny_callSpecial?_slot (name := Str.ofString "__next__") hT F.slot_enumerate_next (wpAny_call_entry F.slot_enumerate_next hT F.entry_enumerate_next ?_ (F.args_enumerate_next_1 _))))
    show wpAny _ _ (field (.ref e) 2 >>= _) _ _ _
    refine wpAny_bind (wpAny_field he rfl (x := .ref it) rfl ?_)
    refine wpAny_bind (nextOf_tuple_end (show X.A.in1.handled = none from I.ok.hd hc) hit p2 (by simp; omega) fun h' x he' hx' => ?_)
    obtain ⟨o, ho, hcl⟩ := hx'
    refine wpAny_bind (wpAny_isInstance (T := "StopIteration") (b := true) ⟨o, ho, hcl⟩ isSubtype_stop ?_)
    exact wpAny_pure ⟨rfl, I.turned (t' := s.toks) (fun b o hb q => he' b o hb q) f0 f1 f3 f4 f5⟩
  self A i s Q E st h := by
    obtain ⟨⟨_, he⟩, _⟩ := st
    exact wpAny_pyIter_enum he h
/-- enumerate of a list or a tuple -/
def iEnumA (K : PySem.W.Frag) (ta : TA) : TI := fun σ H R => ta σ H fun vs H1 => ∃ a xs, vs = [.ref a] ∧ ((SqL K H1 a xs ∧ R (Ite K a) H1) ∨ (SqT K H1 a xs ∧ R (IteT K a) H1))
theorem pi_enumA {X : Cx} {e : Expr} {ta : TA} {p pos tpos : Pos} {elts : List Expr} {kk : Nat} (hg : Gl X "enumerate") (hm : X.mg "enumerate" = none) (ha : PA X [e] ta) (hs : starEach [e] X.env = [(false, eval e X.env)] := by rfl) :
    PI X (.Tuple elts kk tpos) (.Call (.Name "enumerate" p) [e] [] pos) (iEnumA X.K ta) := by
  constructor
  intro pins s σ H R I h
  refine Call_ (ld_blt I hg hm boot_enumerate (callWith_type1 (thn (ha.run pos pins s σ H _ I h) fun us s1 r => ?_) hs rfl))
  obtain ⟨vs, H1, I1, r1, a, xs, ex, q1⟩ := r
  subst ex
  cases r1 with
  | cons r rr =>
    cases rr
    cases r
    have fr : ∀ b, b ∈ [s1.heap.objs.size + 1, s1.heap.objs.size] → FpOk X pins H1 b := fun b hb => by
      have hle : s1.heap.objs.size ≤ b := by
        rcases (show b = s1.heap.objs.size + 1 ∨ b = s1.heap.objs.size by simpa using hb) with z | z <;> omega
      exact I1.fpOk hle (I1.hok.fresh hle)
    rcases q1 with ⟨hq, q⟩ | ⟨hq, q⟩
    · obtain ⟨its, rv, p', hz⟩ := I1.list hq
      refine call_enumerate_list p'.isList fun h' he hit _ hk => wpAny_pyIter_enum he ?_
      exact ⟨_, _, _, _, H1, rfl, I1.kept (t' := s1.toks) hk, turn_enum a (s1.heap.objs.size + 1) s1.heap.objs.size, ⟨⟨.none, he⟩, hit, Nat.succ_ne_self _⟩, fr, q⟩
    · obtain ⟨its, rv, p', hz⟩ := I1.tuple hq
      have p2 : s1.heap.IsTuple a its.toArray := p'
      have hlt : a < s1.heap.objs.size := by obtain ⟨o, ho, _⟩ := p2; exact Heap.lt_size ho
      refine call_enumT p2 fun h' he hit hk => wpAny_pyIter_enum he ?_
      exact ⟨_, _, _, _, H1, rfl, I1.kept (t' := s1.toks) hk, turn_enumT a (s1.heap.objs.size + 1) s1.heap.objs.size (Nat.succ_ne_self _) (Nat.ne_of_lt (Nat.lt_succ_of_lt hlt)) (Nat.ne_of_lt hlt), ⟨⟨.none, he⟩, hit⟩, fr, q⟩
theorem walk_enumT {K : PySem.W.Frag} {a : Addr} {xs : List V} : Walk (IteT K a) xs.length (fun H => SqT K H a xs) (YPair (fun i => some (.int (i : Nat))) (fun i => xs[i]?)) where
  goes i H hi q := by
    obtain ⟨x, hx⟩ := get_some hi
    exact ⟨xs, x, q, hx⟩
  stops H q := ⟨xs, q, Nat.le_refl _⟩
  yields i H v H' hi q y := by
    obtain ⟨T, x, h1, h2, h3, h4⟩ := y
    exact ⟨T, .int (i : Nat), x, h1, h2, h3, rfl, h4 xs q⟩
end Pc
namespace Pc
open PySem PySem.Spec PyProof.Rows L2 RZ
/-! ### t[::-1] of a pair -/
section
variable {prog : Program} {w : World} {A : Around} {E : Value → Shared → Prop} {s : Shared}
theorem applied_rev2 {sl : Addr} {vk : Value} {Q : Int × Int × Nat → Shared → Prop} (hs : s.heap.IsSliceOf sl .none .none vk) (pk : IsPart vk (some (-1))) (h : Q (1, -1, 2) s) :
    wpAny (model prog w) A (Builtin.Slice.sliceApplied (.ref sl) (pure (2 : Int))) Q E s := by
  obtain ⟨os, hos, hcs, hds⟩ := id hs
  unfold Builtin.Slice.sliceApplied Builtin.Slice.sliceFields
  refine wpAny_bind (wpAny_bind (wpAny_field hos hds (x := .none) rfl ?_))
  refine wpAny_bind (wpAny_field hos hds (x := .none) rfl ?_)
  refine wpAny_bind (wpAny_field hos hds (x := vk) rfl (wpAny_pure ?_))
  refine wpAny_bind (HT.slicePart_ pk ?_)
  show wpAny _ _ (if ((-1 : Int) == 0) = true then _ else _) _ _ s
  rw [if_neg (by decide)]
  refine wpAny_bind (HT.slicePart_ .none (wpAny_bind (HT.slicePart_ .none (wpAny_bind (wpAny_pure ?_)))))
  exact wpAny_pure h
theorem item_rev2 {t sl : Addr} {u v vk : Value} {Q : Value → Shared → Prop} (ht : IsTup s.heap t #[u, v]) (hs : s.heap.IsSliceOf sl .none .none vk) (pk : IsPart vk (some (-1)))
    (h : Q (.ref s.heap.objs.size) { s with heap := s.heap.push { cls := .type "tuple", data := .seq #[v, u] } }) : wpAny (model prog w) A (getItem (.ref t) (.ref sl)) Q E s := by
  obtain ⟨os, hos, hcs, hds⟩ := id hs
  have hTs : s.TypeIs (.ref sl) "slice" := ⟨os, hos, hcs⟩
  unfold getItem
  try with_reducible refine wpAny_holding ?_
  first | refine wpAny_bind (wpAny_pure ?_) | skip
  refine wpAny_bind (wpAny_sequenceKey ht.typeIs (by decide) ?_)
  refine wpAny_bind (wpAny_callSpecial?_slot (name := Str.ofString "__getitem__") ht.typeIs PyProof.Rows.slot_tuple_getitem (wpAny_call_entry PyProof.Rows.slot_tuple_getitem ht.typeIs entry_tuple_getitem ?_ (args_tuple_getitem _ _)))
  show wpAny _ _ (Builtin.Tuple.tupleItemsOf (.ref t) >>= _) _ _ s
  refine wpAny_bind (tupleItemsOf_ ht ?_)
  refine wpAny_bind (wpAny_typeOf hTs ?_)
  rw [if_pos (by decide)]
  refine wpAny_bind (applied_rev2 hs pk ?_)
  show wpAny _ _ (if ((1 : Int) == 0 && (-1 : Int) == 1 && (2 : Nat) == 2) = true then _ else _) _ _ s
  rw [if_neg (by decide)]
  have e : ((List.range 2).filterMap fun (k : Nat) => (#[u, v] : Array Value)[((1 : Int) + (k : Int) * -1).toNat]?).toArray = #[v, u] := rfl
  rw [e]
  have hz : sizeOk (.seq (#[v, u] : Array Value)) := by show 2 ≤ sizeLine; decide
  first
    | exact wpAny_bind (m := Builtin.Tuple.tupleExact _) (wpAny_newObj_type (wpAny_pure ⟨_, rfl, wpAny_pure h⟩) hz)
    | exact wpAny_bind (wpAny_bind (m := Builtin.Tuple.tupleExact _) (wpAny_newObj_type (wpAny_pure (wpAny_pure ⟨_, rfl, wpAny_pure h⟩)) hz))
    | exact wpAny_bind (wpAny_bind (m := Builtin.Tuple.tupleExact _) (wpAny_newObj_type (wpAny_pure ⟨_, rfl, wpAny_pure h⟩) hz))
    | exact wpAny_bind (m := Builtin.Tuple.tupleExact _) (wpAny_newObj_type (wpAny_bind (wpAny_pure (wpAny_pure ⟨_, rfl, wpAny_pure h⟩))) hz)
end
def tRev2 (K : PySem.W.Frag) (te : TE) : TE := fun σ H Q => te σ H fun x H1 => ∃ a y z, x = .ref a ∧ SqT K H1 a [y, z] ∧ ∀ p, H1 p = none → Q (.ref p) (upd H1 p (.tup [z, y]))
theorem pe_rev2 {X : Cx} {e : Expr} {te : TE} {k : Nat} {p1 p2 p3 pos : Pos} (he : PE X e te) : PE X (.Subscript e (.Slice none none (some (.UnaryOp .USub (.Constant (.int 1) k p1) p2)) p3) pos) (tRev2 X.K te) := by
  constructor
  intro pins s σ H Q I h
  refine Subscript_ (thn (he.run pins s σ H _ I h) fun v s1 r => ?_)
  obtain ⟨x, H1, I1, r1, a, y, z, ex, hx, q⟩ := r
  subst ex
  cases r1
  have hst : PO X (some (.UnaryOp .USub (.Constant (.int 1) k p1) p2)) (tPart (tUn (rU fun i => .int (-i)) (tC (.int 1)))) := po_some (pe_un un_neg pe_int)
  refine wpAny_Slice (thn (po_none.run pins s1 σ H1 (fun o H2 => o = none ∧ H2 = H1) I1 ⟨rfl, rfl⟩) fun vl s2 ⟨l, H2, I2, pl, el, e2⟩ => ?_)
  subst el e2
  refine thn (po_none.run pins s2 σ H2 (fun o H3 => o = none ∧ H3 = H2) I2 ⟨rfl, rfl⟩) fun vu s3 ⟨u, H3, I3, pu, eu, e3⟩ => ?_
  subst eu e3
  refine thn (hst.run pins s3 σ H3 (fun o H4 => o = some (-1) ∧ H4 = H3) I3 ⟨1, rfl, -1, rfl, rfl, rfl⟩) fun vs s4 ⟨o, H4, I4, ps, eo, e4⟩ => ?_
  subst eo e4
  cases pl
  cases pu
  have I5 : Inv X pins σ H4 { s4 with heap := s4.heap.push { cls := .type "slice", data := .fields #[.none, .none, vs] } } := I4.kept (t' := s4.toks) fun b ob q => Heap.get?_push_of_some _ q
  obtain ⟨its, r, ht, hz⟩ := I5.tuple hx
  obtain ⟨w1, w2, ei, r1, r2⟩ := vals2 r
  subst ei
  show wpAny (model X.prog X.w) X.A (subscriptTail e (.Slice none none (some (.UnaryOp .USub (.Constant (.int 1) k p1) p2)) p3) (.ref a) (.ref s4.heap.objs.size)) (EP X pins σ Q) X.xe _
  refine tail_any (ops := [.ref a, .ref s4.heap.objs.size]) ht.typeIs PyProof.Rows.slot_tuple_getitem.lookup ?_ (by with_unfolding_all rfl)
  refine item_rev2 ht (Heap.IsSliceOf.new _ .none .none vs) ps ?_
  refine ⟨.ref _, _, I5.laid (t' := s4.toks) (o := .tup [z, y]) (fun b ob q => Heap.get?_push_of_some _ q) (Nat.le_refl _) ?_, rfl, q _ (I5.hok.fresh (Nat.le_refl _))⟩
  exact ⟨by show 2 ≤ sizeLine; decide, [w2, w1], .cons r2 (.cons r1 .nil), IsTup.new _ _⟩
end Pc
namespace Pc
open PySem PySem.Spec PyProof.Rows L2 RZ
/-! ### defs that run where no repr is under way (repr asks for that) -/
structure FnG (P : Program) (w : World) (K : PySem.W.Frag) (mg : Str → Option Value) (base : Heap) (CX : CXT) (k : Nat) (f : Addr) (fd : FuncData) (ps : List Str) (sp : Sp) : Prop where
  len : ∀ vs H Q E, sp vs H Q E → vs.length = ps.length
  run : ∀ (A : Around) (outer : List PySem.Env) (s : Shared) (H : Hp) (args : Args) (us : List Value) (vs : List V) (Q : VK) (E : XK), Room k A → A.guards = some [] → Env0 P w K mg base A outer s H →
    BindsTo s fd args (ps.zip us) → Vals vs us → sp vs H Q E → codeAny (model P w) A (.call (.ref f) args) (CR CX outer P w H s Q E) s
section
variable {P : Program} {w : World} {K : PySem.W.Frag} {mg : Str → Option Value} {base : Heap}
theorem fun_g {x qual : Str} {st : Stmt} {f : Addr} {fd : FuncData} {N ps : List Str} {k : Nat} {sp : Sp} (F : Fun K x qual st f fd) (S : FnScope N ps (defScope st)) (len : ∀ vs H Q E, sp vs H Q E → vs.length = ps.length)
    (hbody : ∀ (cdv : Value) (A : Around) (outer : List PySem.Env) (s : Shared) (H : Hp) (vs : List V) (Q : VK) (E : XK), Room k (A.deeper (envOfC qual (defScope st) s.heap.objs.size f cdv)) → A.guards = some [] → sp vs H Q E →
      ∃ t, PSs (cxOf CX0 P w K mg base N qual (defScope st) f cdv A outer s H E).nox (defBody st) t ∧ t { nx := fun _ H' => Q .non H', rt := Q } (start N vs) H) : FnG P w K mg base CX0 (k + 1) f fd ps sp := by
  obtain ⟨oc, od, kV, doc, pm, an, cdv, ct, osl, rfl, lk, hcd⟩ := F.ex
  constructor
  · exact len
  intro A outer s H args us vs Q E hr hgd e0 hb r hsp
  have hl := len _ _ _ _ hsp
  have up : ∀ b o, base.get? b = some o → s.heap.get? b = some o := fun b o e => (e0.bs b o e).1
  have KX : K.In s.heap := e0.mod.kin.keeps up
  have lim : s.heap.NoLimit := e0.mod.nolimit.keeps up
  obtain ⟨t, ht, hq⟩ := hbody cdv A outer s H vs Q E (hr.deeper _) hgd hsp
  refine codeAny_call_function hr.depth (KX _ _ lk) rfl S.co S.gen rfl (PySem.W.codeRec_of KX hcd) (hb _ _ _ _ ?_)
  refine wpAny_newFunctionEnv_cells S.kind ?_ ?_
  · rintro ⟨n, v⟩ hy
    rcases S.par n (List.of_mem_zip hy).1 with z | z
    · exact Or.inl z
    · exact Or.inr ⟨z, PySem.W.cellsFrom_some _ _ _ (Or.inl z)⟩
  intro env he s1 x
  subst he
  refine ⟨lim.keeps x.toInCall.keep, codeAny_func ?_⟩
  have I := inv_start (CX := CX0) (E := E) S hr.hd e0 hl r x
  refine wpAny_mono (ht.nox.run [] s1 (start N vs) H _ I hq) ?_ (fun _ _ z => z)
  intro fl s' hs
  cases fl with
  | brk => obtain ⟨_, _, _, z⟩ := hs; exact z.elim
  | cont => obtain ⟨_, _, _, z⟩ := hs; exact z.elim
  | next =>
    obtain ⟨σ', H', J, z⟩ := hs
    exact ⟨V.non, H', J.os, J.bare, J.base, J.hok, rfl, z⟩
  | ret u =>
    obtain ⟨v, σ', H', J, rv, z⟩ := hs
    exact ⟨v, H', J.os, J.bare, J.base, J.hok, rv, z⟩
end
section
variable {X : Cx} {CX : CXT} {k : Nat} {f : Addr} {fd : FuncData} {ps : List Str} {sp : Sp} {x : Str} {e : Expr} {es : List Expr} {ds : List Value} {dvs : List V} {E : XK} {t : TA} {p pos : Pos}
theorem pe_callG (F : FnG X.prog X.w X.K X.mg X.base CX k f fd ps sp) (hr : Room k X.A) (hgd : X.A.guards = some []) (hg : Gl X x) (hm : X.mg x = some (.ref f)) (hk : PySem.W.keepIn X.K (.ref f) = true) (hb : Binds X.K fd ps ds) (hd : Vals dvs ds) (hx : Passes CX X E)
    (ha : PA X (e :: es) t) (hdb : (x == ("__debug__" : Str)) = false := by decide) (he : starEach (e :: es) X.env = (false, eval e X.env) :: starEach es X.env := by rfl) (hpl : (backTo pos (starEach es X.env)).any (·.1) = false := by rfl) :
    PE X (.Call (.Name x p) (e :: es) [] pos) (tCall sp dvs E t) := by
  constructor
  intro pins s σ H Q I h
  refine wpAny_Call_Name_kw (ld_glob I hg hm ?_ hdb)
  refine PySem.W.callWith_K (h₀ := X.base) I.ok.mod.kin hk (thn (ha.run pos pins s σ H _ I h) ?_) he hpl
  rintro us s1 ⟨vs, H1, I1, r, q⟩
  refine ⟨I1.kIn, ?_⟩
  have r2 : Vals (vs ++ dvs) (us ++ ds) := r.append hd
  have hl : (us ++ ds).length = ps.length := by
    rw [← r2.length]
    exact F.len _ _ _ _ q
  refine wpAny_call (codeAny_mono (F.run X.A X.stack s1 H1 ⟨us, []⟩ (us ++ ds) (vs ++ dvs) Q E hr hgd I1.env0 (hb s1 us I1.kIn hl) r2 q) ?_)
  intro res s' hq
  cases res with
  | error e => exact hx pins σ H1 s1 e s' I1 hq
  | ok fl =>
    cases fl with
    | ret u => exact I1.after hq
    | next => exact hq.elim
    | brk => exact hq.elim
    | cont => exact hq.elim
end
/-! ### the law's own call, where no repr is under way -/
theorem law_g {P : Program} {w : World} {K : PySem.W.Frag} {mg mb : Str → Option Value} {CX : CXT} {k : Nat} {fa a : Addr} {fd : FuncData} {x : Str} {sp : Sp} {s₁ : Shared} {vs : List Value} {ns : List Int}
    (KX : K.In s₁.heap) (hns : s₁.heap.Ns mainGlobals mg) (hb : s₁.heap.Ns builtinsNs mb) (hbb : ∀ x : Str, x ≠ "__name__" → mb x = bootBuiltins x) (hlim : s₁.heap.NoLimit) (hg : s₁.gens = #[])
    (ha : s₁.heap.get? a = some { cls := .type "list", data := .seq vs.toArray }) (hi : IntsAre vs ns) (hl : ns.length ≤ sizeLine) (hr : Room k callerA)
    (F : ∀ base : Heap, K.In base → base.Ns mainGlobals mg → FnG P w K mg base CX k fa fd [x] sp) (hbind : ∀ (s : Shared) (u : Value), BindsTo s fd ⟨[u], []⟩ [(x, u)])
    (hsp : ∀ H : Hp, SqL K H a (ns.map V.int) → sp [.ref a] H (fun v _ => v = .bl true) fun _ _ _ => False)
    (hCX : ∀ H e s', CX [] H s₁ (fun _ _ _ => False) e s' → False) :
    codeAny (model P w) callerA (.call (.ref fa) ⟨[.ref a], []⟩) (fun r s' => r = .ok (.ret (.bool true)) ∧ OldK s₁.heap s'.heap ∧ s'.os = s₁.os ∧ AllBare s'.gens) s₁ := by
  have rv := vals_ints hi
  have len0 := hi.length
  let lo : Obj := { cls := .type "list", data := .seq vs.toArray }
  have main : ∀ H : Hp, SqL K H a (ns.map V.int) → HOk P w H s₁.heap → (∀ b u, H b = some u → b = a ∧ u = .frz lo (.lst (ns.map V.int)) ∧ K.lookup a = none) →
      codeAny (model P w) callerA (.call (.ref fa) ⟨[.ref a], []⟩) (fun r s' => r = .ok (.ret (.bool true)) ∧ OldK s₁.heap s'.heap ∧ s'.os = s₁.os ∧ AllBare s'.gens) s₁ := by
    intro H hS hok hA
    have free : ∀ {b : Addr} {o : Obj}, s₁.heap.get? b = some o → (∀ n, o.data ≠ .seq vs.toArray n) → H b = none := by
      intro b o e d
      cases z : H b with
      | none => rfl
      | some u =>
        obtain ⟨rfl, _⟩ := hA b u z
        rw [ha] at e
        cases e
        exact absurd rfl (d _)
    have nsK : ∀ {b : Addr} {m : Str → Option Value}, s₁.heap.Ns b m → (hidT s₁.heap H).Ns b m := by
      rintro b m ⟨o, es, ep, e, d, r⟩
      exact ⟨o, es, ep, hidT_get e (free e fun n => by rw [d]; exact fun z => nomatch z), d, r⟩
    have hKb : K.In (hidT s₁.heap H) := by
      intro b o e
      refine hidT_get (KX b o e) ?_
      cases z : H b with
      | none => rfl
      | some u =>
        obtain ⟨rfl, _, hn⟩ := hA b u z
        rw [hn] at e
        cases e
    obtain ⟨mc, l1, l2⟩ := hlim
    have e0 : Env0 P w K mg (hidT s₁.heap H) callerA [] s₁ H :=
      { frames := rfl, mod := ⟨hKb, nsK hns, ⟨mb, nsK hb, hbb⟩, ⟨mc, nsK l1, l2⟩⟩, bs := fun b o e => of_hidT e, bsz := Nat.le_of_eq (hidT_size _ _), funs := trivial, frf := fun b hb => absurd (show b ∈ ([] : List Addr) from hb) (by simp), hok := hok, bare := .of_eq hg }
    have R := (F _ hKb (nsK hns)).run callerA [] s₁ H ⟨[.ref a], []⟩ [.ref a] [.ref a] _ _ hr rfl e0 (hbind s₁ (.ref a)) (.cons rfl .nil) (hsp H hS)
    refine codeAny_mono R ?_
    intro res s' h
    cases res with
    | error e => exact (hCX H e s' h).elim
    | ok fl =>
      cases fl with
      | next => exact h.elim
      | brk => exact h.elim
      | cont => exact h.elim
      | ret u =>
        obtain ⟨v, H', os, bare, un, hok', r', q⟩ := h
        have q' : v = .bl true := q
        subst q'
        obtain rfl : u = Value.bool true := r'
        refine ⟨rfl, OldK.of_keep ?_, os, bare⟩
        intro b o e
        cases z : H b with
        | none => exact un.keep b o e z (fun y => absurd (show b ∈ ([] : List Addr) from y) (by simp)) (by simp)
        | some u =>
          obtain ⟨rfl, rfl, _⟩ := hA b u z
          obtain ⟨g1, _⟩ := hok _ _ z
          obtain ⟨g2, _⟩ := hok' _ _ (un.frzs _ lo _ z)
          rw [e] at g1
          cases g1
          exact g2
  cases hk : K.lookup a with
  | some o =>
    have e := KX a o hk
    rw [ha] at e
    cases e
    refine main (fun _ => none) ?_ (fun b u z => nomatch z) (fun b u z => nomatch z)
    exact Or.inr ⟨_, vs.toArray, _, hk, rfl, rfl, rfl, by rw [List.size_toArray, len0]; exact hl, by simpa using rv⟩
  | none =>
    have sp1 : ∀ b u, (upd (fun _ => none) a (.frz lo (.lst (ns.map V.int)))) b = some u → b = a ∧ u = .frz lo (.lst (ns.map V.int)) ∧ K.lookup a = none := by
      intro b u z
      by_cases hba : b = a
      · subst hba
        rw [upd_same] at z
        exact ⟨rfl, (Option.some.inj z).symm, hk⟩
      · rw [upd_ne hba] at z
        cases z
    refine main (upd (fun _ => none) a (.frz lo (.lst (ns.map V.int)))) (Or.inl (Or.inr ⟨lo, upd_same⟩)) ?_ sp1
    intro b u z
    obtain ⟨rfl, rfl, _⟩ := sp1 b u z
    exact ⟨ha, by rw [List.length_map]; exact hl, vs, _, rv, ha⟩
theorem walk_g {l : PySem.W.OpenLaw} {n k : Nat} {q : Program} {loose : List Str} {XP : (Str → Option Value) → Heap → Prop} {YP : World → Heap → Prop} {d : DefRec} {K : Params → PySem.W.Frag} {sp : World → Sp} {x : Str}
    (hn : l.most = some n) (hn2 : n ≤ sizeLine) (hdf : d.params.defaults = []) (hr : Room k callerA) (hY : ∀ (w : World) (h : Heap), YP w h → (K w.params).In h)
    (F : ∀ (w : World) (mg : Str → Option Value) (fa : Addr) (h : Heap), (K w.params).In h → h.Ns mainGlobals mg → mg d.name = some (.ref fa) →
      ∃ fd : FuncData, (∀ (s : Shared) (u : Value), BindsTo s fd ⟨[u], []⟩ [(x, u)]) ∧ ∀ base : Heap, (K w.params).In base → base.Ns mainGlobals mg → FnG l.prog w (K w.params) mg base CX0 k fa fd [x] (sp w))
    (hsp : ∀ (w : World) (H : Hp) (a : Addr) (ns : List Int), ns.length ≤ n → SqL (K w.params) H a (ns.map V.int) → sp w [.ref a] H (fun v _ => v = .bl true) fun _ _ _ => False) :
    PySem.W.WalkO q loose XP YP l.row.toRowW d [] (fun f vs => PySem.call f vs) := by
  refine Att.attach_call hn hdf ?_
  intro w s₀ s₁ mg mb fa o pm cd doc a vs ns G Y ho hd hcd hmg hobj hints hlen hg
  obtain ⟨fd, hb, hF⟩ := F w mg fa _ (hY w _ Y) G.T.g hmg
  exact law_g (hY w _ Y) G.T.g G.T.b G.T.builtins G.T.nolimit hg hobj hints (Nat.le_trans hlen hn2) hr hF hb (fun H hS => hsp w H a ns hlen hS) fun _ _ _ z => z
/-! ### repr of data -/
theorem call_reprD {X : Cx} (hgd : X.A.guards = some []) (hu : X.A.units + 64 < cLine) : CallR X (.builtin "repr") (fun xs H Q => ∃ (a : Addr) (d : PyData), xs = [.ref a] ∧ Dp X.K H (.ref a) d ∧ d.canLay0 = true ∧ d.showable = true ∧ d.depth ≤ 60 ∧ d.shown.length ≤ sizeLine ∧ Q (.str d.shown) H) := by
  intro pins s σ H xs us Q I r h
  obtain ⟨a, d, rfl, hd, hl, hs, hdp, hz, q⟩ := h
  obtain ⟨u, rfl, ru⟩ := vals1 r
  cases ru
  obtain ⟨as, rd⟩ := Dp.reads I d (.ref a) (.ref a) hd rfl
  refine repr_of_reads' rd hs (PyData.noDict_hsm (PyData.hasDict_of_canLay d hl)) hgd (by omega) (fun _ _ e => e) ?_ hz
  intro h' u tk hk
  exact ⟨.str d.shown, H, I.kept (t' := tk) hk, ⟨u, rfl⟩, q⟩
end Pc
namespace Pc
open PySem PySem.Spec PyProof.Rows L2 RZ
/-! ### data of small size: its depth is at most k, its text has at most m signs -/
structure Fine (k m : Nat) (d : PyData) : Prop where
  lay : d.canLay0 = true
  show_ : d.showable = true
  depth : d.depth ≤ k
  nar : narrow d
  len : d.shown.length ≤ m
theorem Fine.mono {k m k' m' : Nat} {d : PyData} (h : Fine k m d) (hk : k ≤ k') (hm : m ≤ m') : Fine k' m' d := ⟨h.lay, h.show_, Nat.le_trans h.depth hk, h.nar, Nat.le_trans h.len hm⟩
theorem Fine.shaped {k m : Nat} {d : PyData} (h : Fine k m d) (hk : k ≤ 64) : SeqAt.shaped d = true := by
  unfold SeqAt.shaped
  rw [Bool.and_eq_true]
  exact ⟨h.lay, decide_eq_true (Nat.le_trans h.depth hk)⟩
theorem str_len (t : String) : (Str.ofString t).length = t.length := by
  rw [Str.ofString_eq_toList]
  show (t.toList.map Char.toNat).toArray.size = t.length
  rw [List.size_toArray, List.length_map, String.length_toList]
theorem log_lt {i : Int} {k : Nat} (h : i.natAbs < 2 ^ k) (hk : 0 < k) : i.natAbs.log2 < k := by
  by_cases h0 : i.natAbs = 0
  · rw [h0]; exact hk
  · exact (Nat.log2_lt h0).mpr h
theorem fine_int {i : Int} (h : i.natAbs < 2 ^ 60) : Fine 0 61 (.int i) := by
  have hl := log_lt h (by decide)
  refine ⟨rfl, decide_eq_true (Nat.lt_of_lt_of_le hl (by decide)), Nat.le_refl _, trivial, ?_⟩
  show (Str.ofString (toString i)).length ≤ 61
  rw [str_len]
  exact int_text_length_le (by decide) hl
theorem fine_nat {i : Nat} (h : i < 2 ^ 60) : Fine 0 61 (.int (i : Int)) := fine_int (by rw [Int.natAbs_natCast]; exact h)
theorem all_lay {ds : List PyData} (h : ∀ d ∈ ds, d.canLay0 = true) : PyData.canLayAll0 ds = true := by
  induction ds with
  | nil => rfl
  | cons d r ih =>
    show (d.canLay0 && PyData.canLayAll0 r) = true
    rw [h d List.mem_cons_self, ih fun x hx => h x (List.mem_cons_of_mem _ hx)]; rfl
theorem all_showable {ds : List PyData} (h : ∀ d ∈ ds, d.showable = true) : PyData.showableAll ds = true := by
  induction ds with
  | nil => rfl
  | cons d r ih =>
    show (d.showable && PyData.showableAll r) = true
    rw [h d List.mem_cons_self, ih fun x hx => h x (List.mem_cons_of_mem _ hx)]; rfl
theorem all_depth {ds : List PyData} {k : Nat} (h : ∀ d ∈ ds, d.depth ≤ k) : PyData.depthAll ds ≤ k := by
  induction ds with
  | nil => exact Nat.zero_le _
  | cons d r ih => exact Nat.max_le.mpr ⟨h d List.mem_cons_self, ih fun x hx => h x (List.mem_cons_of_mem _ hx)⟩
theorem all_shown {ds : List PyData} {m : Nat} (h : ∀ d ∈ ds, d.shown.length ≤ m) : ((PyData.shownAll ds).map (·.length)).sum ≤ ds.length * m ∧ (PyData.shownAll ds).length = ds.length := by
  induction ds with
  | nil => exact ⟨Nat.zero_le _, rfl⟩
  | cons d r ih =>
    obtain ⟨h1, h2⟩ := ih fun x hx => h x (List.mem_cons_of_mem _ hx)
    have h3 := h d List.mem_cons_self
    refine ⟨?_, congrArg (· + 1) h2⟩
    show ((d.shown :: PyData.shownAll r).map (·.length)).sum ≤ (r.length + 1) * m
    rw [List.map_cons, List.sum_cons, Nat.add_mul, Nat.one_mul]
    omega
theorem fine_list {ds : List PyData} {k m n : Nat} (h : ∀ d ∈ ds, Fine k m d) (hn : ds.length ≤ n) (hb : n ≤ 100000) : Fine (k + 1) (n * (m + 2) + 3) (.list ds) := by
  refine ⟨all_lay fun d hd => (h d hd).lay, all_showable fun d hd => (h d hd).show_, Nat.succ_le_succ (all_depth fun d hd => (h d hd).depth), ⟨Nat.le_trans hn hb, narrow_of fun d hd => (h d hd).nar⟩, ?_⟩
  obtain ⟨h1, h2⟩ := all_shown fun d hd => (h d hd).len
  have h3 := listText_len_le (PyData.shownAll ds)
  have h4 : ds.length * m ≤ n * m := Nat.mul_le_mul_right _ hn
  show (listText (PyData.shownAll ds)).length ≤ _
  rw [Nat.mul_add]
  omega
theorem fine_tuple {ds : List PyData} {k m n : Nat} (h : ∀ d ∈ ds, Fine k m d) (hn : ds.length ≤ n) (hb : n ≤ 100000) : Fine (k + 1) (n * (m + 2) + 3) (.tuple ds) := by
  refine ⟨all_lay fun d hd => (h d hd).lay, all_showable fun d hd => (h d hd).show_, Nat.succ_le_succ (all_depth fun d hd => (h d hd).depth), ⟨Nat.le_trans hn hb, narrow_of fun d hd => (h d hd).nar⟩, ?_⟩
  obtain ⟨h1, h2⟩ := all_shown fun d hd => (h d hd).len
  have h3 := tupleText_len_le (PyData.shownAll ds)
  have h4 : ds.length * m ≤ n * m := Nat.mul_le_mul_right _ hn
  show (tupleText (PyData.shownAll ds)).length ≤ _
  rw [Nat.mul_add]
  omega
/-- numbers as data -/
def nd (l : List Nat) : List PyData := l.map fun (i : Nat) => PyData.int (i : Int)
theorem nd_length (l : List Nat) : (nd l).length = l.length := List.length_map _
theorem dp_nats {K : PySem.W.Frag} {H : Hp} : ∀ l : List Nat, DpAll K H (nv l) (nd l)
  | [] => .nil
  | i :: r => .cons (.int i) (dp_nats r)
theorem fine_nd {l : List Nat} (h : ∀ i ∈ l, i < 2 ^ 60) : ∀ d ∈ nd l, Fine 0 61 d := fun d hd => by
  obtain ⟨i, hi, rfl⟩ := List.mem_map.mp hd
  exact fine_nat (h i hi)
/-- a tuple of numbers -/
theorem fine_tup {l : List Nat} {n : Nat} (h : ∀ i ∈ l, i < 2 ^ 60) (hn : l.length ≤ n) (hb : n ≤ 100000) : Fine 1 (n * 63 + 3) (.tuple (nd l)) := fine_tuple (fine_nd h) (by rw [nd_length]; exact hn) hb
/-! ### lists of pairs of numbers -/
/-- at the places as stand the pairs ps -/
def Prs (H : Hp) (as : List Addr) (ps : List (Nat × Nat)) : Prop := Paired (fun a (p : Nat × Nat) => H a = some (.tup [.int p.1, .int p.2])) as ps
theorem Prs.length {H : Hp} {as : List Addr} {ps : List (Nat × Nat)} (h : Prs H as ps) : as.length = ps.length := Paired.length h
theorem prs_same {H H' : Hp} (e : Same H H') : ∀ {as : List Addr} {ps : List (Nat × Nat)}, Prs H as ps → Prs H' as ps
  | _, _, .nil => .nil
  | _, _, .cons h r => .cons (e _ _ h) (prs_same e r)
theorem prs_keep {b : Addr} {H H' : Hp} {ys : List V} (k : Keep b H H') (hb : H b = some (.lst ys)) : ∀ {as : List Addr} {ps : List (Nat × Nat)}, Prs H as ps → Prs H' as ps
  | _, _, .nil => .nil
  | _, _, .cons h r => .cons (k.tup hb h) (prs_keep k hb r)
theorem prs_get {H : Hp} : ∀ {as : List Addr} {ps : List (Nat × Nat)} {i : Nat} {a : Addr}, Prs H as ps → as[i]? = some a → ∃ p, ps[i]? = some p ∧ H a = some (.tup [.int p.1, .int p.2])
  | _, _, _, _, .nil, h => by simp at h
  | _, _, 0, _, .cons (b := p) h _, e => by
    cases Option.some.inj e
    exact ⟨p, rfl, h⟩
  | _, _, i + 1, a, .cons _ r, e => prs_get (i := i) r e
theorem prs_append {H : Hp} : ∀ {as bs : List Addr} {ps qs : List (Nat × Nat)}, Prs H as ps → Prs H bs qs → Prs H (as ++ bs) (ps ++ qs)
  | _, _, _, _, .nil, s => s
  | _, _, _, _, .cons h r, s => .cons h (prs_append r s)
def pd (p : Nat × Nat) : PyData := .tuple [.int (p.1 : Int), .int (p.2 : Int)]
theorem prs_dp {K : PySem.W.Frag} {H : Hp} : ∀ {as : List Addr} {ps : List (Nat × Nat)}, Prs H as ps → DpAll K H (as.map V.ref) (ps.map pd)
  | _, _, .nil => .nil
  | _, _, .cons h r => .cons (.tup (.inl (.inl h)) (.cons (.int _) (.cons (.int _) .nil))) (prs_dp r)
theorem fine_pd {p : Nat × Nat} (h1 : p.1 < 2 ^ 60) (h2 : p.2 < 2 ^ 60) : Fine 1 129 (pd p) := fine_tuple (n := 2) (fun d hd => by
  rcases List.mem_cons.mp hd with z | z
  · rw [z]; exact fine_nat h1
  · rw [List.mem_singleton.mp z]; exact fine_nat h2) (Nat.le_refl _) (by decide)
/-- a list of pairs -/
theorem fine_pds {ps : List (Nat × Nat)} {n : Nat} (h : ∀ p ∈ ps, p.1 < 2 ^ 60 ∧ p.2 < 2 ^ 60) (hn : ps.length ≤ n) (hb : n ≤ 100000) : Fine 2 (n * 131 + 3) (.list (ps.map pd)) :=
  fine_list (fun d hd => by
    obtain ⟨p, hp, rfl⟩ := List.mem_map.mp hd
    exact fine_pd (h p hp).1 (h p hp).2) (by rw [List.length_map]; exact hn) hb
end Pc
namespace Pc
open PySem PySem.Spec PyProof.Rows L2 RZ
/-! ### a list or a tuple: walked, unpacked -/
/-- a list or a tuple is read -/
def Sq (K : PySem.W.Frag) (H : Hp) (a : Addr) (xs : List V) : Prop := SqL K H a xs ∨ SqT K H a xs
theorem Sq.same {K : PySem.W.Frag} {H H' : Hp} {a : Addr} {xs : List V} (h : Sq K H a xs) (e : Same H H') : Sq K H' a xs := h.imp (fun z => e.seq z) (fun z => same_tup e z)
def iSeq (K : PySem.W.Frag) (tl : TE) : TI := fun σ H R => tl σ H fun x H1 => ∃ a, x = .ref a ∧ (((∃ xs, SqL K H1 a xs) ∧ R (Itl K a) H1) ∨ ((∃ xs, SqT K H1 a xs) ∧ R (Itt K a) H1))
section
variable {X : Cx}
theorem pi_seq {tg l : Expr} {tl : TE} (hl : PE X l tl) : PI X tg l (iSeq X.K tl) := by
  constructor
  intro pins s σ H R I h
  refine thn (hl.run pins s σ H _ I h) ?_
  rintro v s1 ⟨x, H1, I1, r1, a, ex, q⟩
  subst ex
  cases r1
  rcases q with ⟨⟨xs, hx⟩, q⟩ | ⟨⟨xs, hx⟩, q⟩
  · obtain ⟨its, _, p, _⟩ := I1.list hx
    refine wpAny_pyIter_list p.isList ?_
    exact pi_one (tk := s1.toks) I1 _ (turn_list _ _) ⟨_, Heap.get?_push_size _ rfl, rfl, rfl⟩ q
  · obtain ⟨its, _, p, _⟩ := I1.tuple hx
    refine wpAny_pyIter_tuple p ?_
    exact pi_one (tk := s1.toks) I1 _ (turn_tuple _ _) ⟨_, Heap.get?_push_size _ rfl, rfl, rfl⟩ q
/-- names unpacked from a tuple or a list -/
def gSeq (K : PySem.W.Frag) (n : Nat) (t : TGs) : TG := fun v σ H Q => ∃ a xs, v = .ref a ∧ Sq K H a xs ∧ xs.length = n ∧ t xs σ H Q
theorem pg_seq {es : List Expr} {k : Nat} {t : TGs} {n : Nat} {pos : Pos} (hc : X.calm = true) (h : PGs X es t)
    (hn : (assignEach es X.env).length = n := by rfl) (hst : (assignEach es X.env).findIdx? (·.1) = none := by rfl) : PG X (.Tuple es k pos) (gSeq X.K n t) := by
  constructor
  intro pins s σ H v u Q I r hw
  obtain ⟨a, xs, e, hq, hl, hw⟩ := hw
  rcases hq with hq | hq
  · exact (pg_unl (pos := pos) (k := k) hc h hn hst).run pins s σ H v u Q I r ⟨a, xs, e, hq, hl, hw⟩
  · exact (pg_tup (pos := pos) (k := k) hc h hn hst).run pins s σ H v u Q I r ⟨a, xs, e, hq, hl, hw⟩
/-! ### a call with keywords alone -/
def tKw (n : Nat) (sp : Sp) (gV : List V → List V) (E : XK) (tk : TA) : TE := fun σ H Q => tk σ H fun zs H1 => zs.length = n ∧ sp (gV zs) H1 Q E
theorem pe_kw {CX : CXT} {k : Nat} {f : Addr} {fd : FuncData} {ps ks : List Str} {sp : Sp} {E : XK} {x : Str} {p pos : Pos} {kws : List Keyword} {tk : TA} {g : List Value → List Value} {gV : List V → List V}
    (F : FnOk X.prog X.w X.K X.mg X.base CX k f fd ps sp) (hr : Room k X.A) (hg : Gl X x) (hm : X.mg x = some (.ref f)) (hk : PySem.W.keepIn X.K (.ref f) = true)
    (hb : ∀ (s : Shared) (ws : List Value), ws.length = ks.length → BindsTo s fd ⟨[], ks.zip ws⟩ (ps.zip (g ws))) (rel : ∀ {zs : List V} {ws : List Value}, zs.length = ks.length → Vals zs ws → Vals (gV zs) (g ws)) (hx : Passes CX X E) (hkw : PK X kws tk)
    (hall : (backToKw pos (keywordEach kws X.env)).all (·.1.isSome) = true := by rfl) (hks : (backToKw pos (keywordEach kws X.env)).filterMap (·.1) = ks := by rfl) (hdb : (x == ("__debug__" : Str)) = false := by decide)
    (hpl : ((backTo pos (starEach [] X.env)).any (·.1) || (backToKw pos (keywordEach kws X.env)).any (·.1.isNone)) = false := by rfl) :
    PE X (.Call (.Name x p) [] kws pos) (tKw ks.length sp gV E tk) := by
  constructor
  intro pins s σ H Q I h
  refine wpAny_Call_Name_kw (ld_glob I hg hm ?_ hdb)
  refine PySem.W.callWith_KW0 (h₀ := X.base) I.ok.mod.kin hk hall (thn (hkw.run pos pins s σ H _ I h) ?_) hpl
  rintro ws s2 ⟨zs, H2, I2, rz, hz, q⟩
  refine ⟨I2.kIn, ?_⟩
  rw [hks]
  refine wpAny_call (codeAny_mono (F.run X.A X.stack s2 H2 ⟨[], ks.zip ws⟩ (g ws) (gV zs) Q E hr I2.env0 (hb s2 ws (by rw [← rz.length, hz])) (rel hz rz) q) ?_)
  intro res s' hq
  cases res with
  | error e => exact hx pins σ H2 s2 e s' I2 hq
  | ok fl =>
    cases fl with
    | ret u => exact I2.after hq
    | next => exact hq.elim
    | brk => exact hq.elim
    | cont => exact hq.elim
end
theorem kw_to {K : PySem.W.Frag} {x qual : Str} {st : Stmt} {f : Addr} {fd : FuncData} {ps ks : List Str} {g : List Value → List Value} (F : Fun K x qual st f fd)
    (h : ∀ (kV doc pm : Value) (an : Option Addr) (cdv ct : Value) (ws : List Value), ws.length = ks.length → bindArgs (PySem.W.fnOf x qual (defArgs st) (defBody st) (defScope st) .none kV doc pm an cdv ct) ⟨[], ks.zip ws⟩ = pure (ps.zip (g ws))) :
    ∀ (s : Shared) (ws : List Value), ws.length = ks.length → BindsTo s fd ⟨[], ks.zip ws⟩ (ps.zip (g ws)) := by
  obtain ⟨oc, od, kV, doc, pm, an, cdv, ct, osl, rfl, lk, hcd⟩ := F.ex
  intro s ws hl
  exact .of_eq (h kV doc pm an cdv ct ws hl)
end Pc
namespace Pc
open PySem PySem.Spec PyProof.Rows L2 RZ
/-! ### the couples of a pairing -/
/-- the couples whose first person is below i -/
def cplN (ps : List Nat) (i : Nat) : List (Nat × Nat) := ((List.range i).filter fun x => decide (x < ps.getD x 0)).map fun x => (x, ps.getD x 0)
def cpl (ps : List Nat) : List (Nat × Nat) := cplN ps ps.length
theorem getD_of {ps : List Nat} {x y : Nat} (h : ps[x]? = some y) : ps.getD x 0 = y := by
  rw [List.getD_eq_getElem?_getD, h]; rfl
theorem cplN_yes {ps : List Nat} {i y : Nat} (h : ps[i]? = some y) (hl : i < y) : cplN ps (i + 1) = cplN ps i ++ [(i, y)] := by
  unfold cplN
  rw [List.range_succ, List.filter_append, List.map_append]
  congr 1
  rw [List.filter_cons_of_pos (by rw [getD_of h]; exact decide_eq_true hl), List.filter_nil, List.map_cons, List.map_nil, getD_of h]
theorem cplN_no {ps : List Nat} {i y : Nat} (h : ps[i]? = some y) (hl : ¬ i < y) : cplN ps (i + 1) = cplN ps i := by
  unfold cplN
  rw [List.range_succ, List.filter_append, List.map_append, List.filter_cons_of_neg (by rw [getD_of h]; simpa using hl), List.filter_nil, List.map_nil, List.append_nil]
theorem cplN_len (ps : List Nat) (i : Nat) : (cplN ps i).length ≤ i := by
  unfold cplN
  rw [List.length_map]
  exact Nat.le_trans (List.length_filter_le _ _) (by rw [List.length_range]; exact Nat.le_refl _)
theorem mem_cpl {n : Nat} {ps : List Nat} (h : IsPair n ps) {p : Nat × Nat} : p ∈ cpl ps ↔ ps[p.1]? = some p.2 ∧ p.1 < p.2 := by
  unfold cpl cplN
  rw [h.len]
  constructor
  · intro hp
    obtain ⟨x, hx, rfl⟩ := List.mem_map.mp hp
    obtain ⟨h1, h2⟩ := List.mem_filter.mp hx
    obtain ⟨y, e, _⟩ := h.par x (List.mem_range.mp h1)
    rw [getD_of e] at h2 ⊢
    exact ⟨e, of_decide_eq_true h2⟩
  · rintro ⟨e, hl⟩
    refine List.mem_map.mpr ⟨p.1, List.mem_filter.mpr ⟨List.mem_range.mpr ?_, ?_⟩, ?_⟩
    · rw [← h.len]; exact get_lt e
    · rw [getD_of e]; exact decide_eq_true hl
    · rw [getD_of e]
theorem IsPair.back {n : Nat} {ps : List Nat} (h : IsPair n ps) {x y : Nat} (e : ps[x]? = some y) : ps[y]? = some x ∧ y < n ∧ x < n ∧ y ≠ x := by
  have hx : x < n := by rw [← h.len]; exact get_lt e
  obtain ⟨z, e1, e2, e3, e4⟩ := h.par x hx
  cases Option.some.inj (e.symm.trans e1)
  exact ⟨e4, e2, hx, e3⟩
theorem cpl_cover {n : Nat} {ps : List Nat} (h : IsPair n ps) {z : Nat} (hz : z < n) : ∃ p ∈ cpl ps, p.1 = z ∨ p.2 = z := by
  obtain ⟨y, e1, e2, e3, e4⟩ := h.par z hz
  rcases Nat.lt_or_gt_of_ne e3 with l | l
  · exact ⟨(y, z), (mem_cpl h).mpr ⟨e4, l⟩, .inr rfl⟩
  · exact ⟨(z, y), (mem_cpl h).mpr ⟨e1, l⟩, .inl rfl⟩
theorem filter_split {α : Type} (f : α → Bool) : ∀ l : List α, (l.filter f).length + (l.filter fun x => !f x).length = l.length
  | [] => rfl
  | a :: r => by
    have ih := filter_split f r
    cases e : f a with
    | true => rw [List.filter_cons_of_pos e, List.filter_cons_of_neg (by rw [e]; decide), List.length_cons, List.length_cons]; omega
    | false => rw [List.filter_cons_of_neg (by rw [e]; decide), List.filter_cons_of_pos (by rw [e]; rfl), List.length_cons, List.length_cons]; omega
theorem cpl_half {n : Nat} {ps : List Nat} (h : IsPair n ps) : 2 * (cpl ps).length = n := by
  have e1 : (cpl ps).length = ((List.range n).filter fun x => decide (x < ps.getD x 0)).length := by
    unfold cpl cplN; rw [List.length_map, h.len]
  have inj : ∀ x y, x < n → y < n → ps.getD x 0 = ps.getD y 0 → x = y := fun x y hx hy e => by
    obtain ⟨u, a1, _, _, a4⟩ := h.par x hx
    obtain ⟨v, b1, _, _, b4⟩ := h.par y hy
    rw [getD_of a1, getD_of b1] at e
    subst e
    exact Option.some.inj (a4.symm.trans b4)
  have nd0 : (List.range n).Nodup := List.nodup_range
  have p1 : (((List.range n).filter fun x => decide (x < ps.getD x 0)).map fun x => ps.getD x 0).Perm ((List.range n).filter fun x => !decide (x < ps.getD x 0)) := by
    refine (List.perm_ext_iff_of_nodup ?_ (nd0.filter _)).mpr fun z => ?_
    · refine List.Pairwise.map _ (fun a b hab => hab) ?_
      refine List.Pairwise.imp_of_mem (fun {a b} ha hb hab => ?_) (nd0.filter fun x => decide (x < ps.getD x 0))
      exact fun e => hab (inj a b (List.mem_range.mp (List.mem_filter.mp ha).1) (List.mem_range.mp (List.mem_filter.mp hb).1) e)
    · constructor
      · intro hz
        obtain ⟨x, hx, rfl⟩ := List.mem_map.mp hz
        obtain ⟨h1, h2⟩ := List.mem_filter.mp hx
        obtain ⟨y, a1, a2, a3, a4⟩ := h.par x (List.mem_range.mp h1)
        rw [getD_of a1] at h2 ⊢
        have h3 := of_decide_eq_true h2
        refine List.mem_filter.mpr ⟨List.mem_range.mpr a2, ?_⟩
        rw [getD_of a4, decide_eq_false (by omega)]; rfl
      · intro hz
        obtain ⟨h1, h2⟩ := List.mem_filter.mp hz
        obtain ⟨y, a1, a2, a3, a4⟩ := h.par z (List.mem_range.mp h1)
        rw [getD_of a1] at h2
        have h3 : ¬ z < y := by simpa using h2
        refine List.mem_map.mpr ⟨y, List.mem_filter.mpr ⟨List.mem_range.mpr a2, ?_⟩, getD_of a4⟩
        rw [getD_of a4]
        exact decide_eq_true (by omega)
  have e2 := p1.length_eq
  rw [List.length_map] at e2
  have e3 := filter_split (fun x => decide (x < ps.getD x 0)) (List.range n)
  rw [List.length_range] at e3
  omega
/-- what pairs must be so that they make the pairing ps -/
structure Makes (qs : List (Nat × Nat)) (ps : List Nat) : Prop where
  half : 2 * qs.length = ps.length
  ok : ∀ p ∈ qs, ps[p.1]? = some p.2 ∧ ps[p.2]? = some p.1
  all : ∀ z, z < ps.length → ∃ p ∈ qs, p.1 = z ∨ p.2 = z
theorem makes_cpl {n : Nat} {ps : List Nat} (h : IsPair n ps) : Makes (cpl ps) ps where
  half := by rw [cpl_half h, h.len]
  ok p hp := by
    obtain ⟨e, _⟩ := (mem_cpl h).mp hp
    exact ⟨e, (h.back e).1⟩
  all z hz := cpl_cover h (by rw [← h.len]; exact hz)
/-- the pairs of qs in any order, turned or not -/
theorem Makes.turned {qs rs : List (Nat × Nat)} {ps : List Nat} (h : Makes qs ps) (hl : rs.length = qs.length) (h1 : ∀ p ∈ rs, p ∈ qs ∨ (p.2, p.1) ∈ qs) (h2 : ∀ p ∈ qs, p ∈ rs ∨ (p.2, p.1) ∈ rs) : Makes rs ps where
  half := by rw [hl]; exact h.half
  ok p hp := by
    rcases h1 p hp with z | z
    · exact h.ok p z
    · obtain ⟨a, b⟩ := h.ok _ z
      exact ⟨b, a⟩
  all z hz := by
    obtain ⟨p, hp, e⟩ := h.all z hz
    rcases h2 p hp with q | q
    · exact ⟨p, q, e⟩
    · exact ⟨_, q, e.symm⟩
def CInv (ps : List Nat) (qs : List (Nat × Nat)) (fs : List Nat) (i : Nat) : Prop := fs.length = ps.length ∧ ∀ j, j < i → ∀ p, qs[j]? = some p → fs[p.1]? = ps[p.1]? ∧ fs[p.2]? = ps[p.2]?
theorem set_keeps {ps fs : List Nat} {x y z : Nat} (hy : ps[x]? = some y) (hx : x < fs.length) (h : fs[z]? = ps[z]?) : (fs.set x y)[z]? = ps[z]? := by
  by_cases e : x = z
  · subst e
    rw [List.getElem?_set_self hx, hy]
  · rw [List.getElem?_set_ne e]; exact h
theorem CInv.step {ps fs : List Nat} {qs : List (Nat × Nat)} {i : Nat} {p : Nat × Nat} (m : Makes qs ps) (h : CInv ps qs fs i) (hp : qs[i]? = some p) : CInv ps qs ((fs.set p.1 p.2).set p.2 p.1) (i + 1) := by
  obtain ⟨hl, hj⟩ := h
  obtain ⟨o1, o2⟩ := m.ok p (List.mem_of_getElem? hp)
  have l1 : p.1 < fs.length := by rw [hl]; exact get_lt o1
  have l2 : p.2 < (fs.set p.1 p.2).length := by rw [List.length_set, hl]; exact get_lt o2
  refine ⟨by rw [List.length_set, List.length_set, hl], fun j hj2 r hr => ?_⟩
  by_cases e : j = i
  · subst e
    cases Option.some.inj (hp.symm.trans hr)
    refine ⟨set_keeps o2 l2 ?_, ?_⟩
    · rw [List.getElem?_set_self l1, o1]
    · rw [List.getElem?_set_self l2, o2]
  · obtain ⟨a, b⟩ := hj j (by omega) r hr
    exact ⟨set_keeps o2 l2 (set_keeps o1 l1 a), set_keeps o2 l2 (set_keeps o1 l1 b)⟩
theorem CInv.done {ps fs : List Nat} {qs : List (Nat × Nat)} (m : Makes qs ps) (h : CInv ps qs fs qs.length) : fs = ps := by
  refine List.ext_getElem? fun z => ?_
  by_cases hz : z < ps.length
  · obtain ⟨p, hp, e⟩ := m.all z hz
    obtain ⟨i, hi, ei⟩ := List.mem_iff_getElem.mp hp
    obtain ⟨a, b⟩ := h.2 i hi p (by rw [List.getElem?_eq_getElem hi, ei])
    rcases e with e | e
    · rw [← e]; exact a
    · rw [← e]; exact b
  · rw [List.getElem?_eq_none (by rw [h.1]; omega), List.getElem?_eq_none (by omega)]
end Pc
namespace Pc
open PySem PySem.Spec PyProof.Rows L2 RZ
section
variable {K : PySem.W.Frag}
/-- the values us are the pairs qs, each a tuple or a list -/
def Items (K : PySem.W.Frag) (H : Hp) (us : List V) (qs : List (Nat × Nat)) : Prop := us.length = qs.length ∧ ∀ (i : Nat) (v : V), us[i]? = some v → ∃ (c : Addr) (p : Nat × Nat), v = .ref c ∧ qs[i]? = some p ∧ Sq K H c [.int p.1, .int p.2]
theorem Items.same {H H' : Hp} {us : List V} {qs : List (Nat × Nat)} (h : Items K H us qs) (e : Same H H') : Items K H' us qs := ⟨h.1, fun i v hv => by
  obtain ⟨c, p, h1, h2, h3⟩ := h.2 i v hv
  exact ⟨c, p, h1, h2, h3.same e⟩⟩
theorem items_of {H : Hp} {as : List Addr} {qs : List (Nat × Nat)} (h : Prs H as qs) : Items K H (as.map V.ref) qs := ⟨by rw [List.length_map]; exact h.length, fun i v hv => by
  rw [List.getElem?_map] at hv
  cases e : as[i]? with
  | none => rw [e] at hv; cases hv
  | some c =>
    rw [e] at hv
    obtain ⟨p, h1, h2⟩ := prs_get h e
    exact ⟨c, p, (Option.some.inj hv).symm, h1, .inr (.inl (.inl h2))⟩⟩
end
end Pc
namespace Pc
open PySem PySem.Spec PyProof.Rows L2 RZ
theorem paired_perm {α β : Type} {R : α → β → Prop} {as bs : List α} (h : as.Perm bs) : ∀ ps : List β, Paired R as ps → ∃ qs : List β, qs.Perm ps ∧ Paired R bs qs := by
  induction h with
  | nil => exact fun ps h => ⟨ps, List.Perm.refl _, h⟩
  | cons x _ ih =>
    intro ps h
    cases h with
    | cons r t =>
      obtain ⟨qs, h1, h2⟩ := ih _ t
      exact ⟨_ :: qs, h1.cons _, .cons r h2⟩
  | swap x y l =>
    intro ps h
    cases h with
    | cons r t =>
      cases t with
      | cons r2 t2 => exact ⟨_, List.Perm.swap _ _ _, .cons r2 (.cons r t2)⟩
  | trans _ _ ih1 ih2 =>
    intro ps h
    obtain ⟨qs, h1, h2⟩ := ih1 ps h
    obtain ⟨rs, h3, h4⟩ := ih2 qs h2
    exact ⟨rs, h3.trans h1, h4⟩
/-- the same pairs, some turned -/
def Turned (qs rs : List (Nat × Nat)) : Prop := rs.length = qs.length ∧ ∀ (j : Nat) (p q : Nat × Nat), qs[j]? = some p → rs[j]? = some q → q = p ∨ q = (p.2, p.1)
theorem Turned.mem1 {qs rs : List (Nat × Nat)} (h : Turned qs rs) : ∀ p ∈ rs, p ∈ qs ∨ (p.2, p.1) ∈ qs := fun p hp => by
  obtain ⟨j, hj, e⟩ := List.mem_iff_getElem.mp hp
  obtain ⟨q, hq⟩ := get_some (l := qs) (i := j) (by rw [← h.1]; exact hj)
  rcases h.2 j q p hq (by rw [List.getElem?_eq_getElem hj, e]) with z | z
  · exact .inl (z ▸ List.mem_of_getElem? hq)
  · refine .inr ?_
    rw [z]
    exact List.mem_of_getElem? hq
theorem Turned.mem2 {qs rs : List (Nat × Nat)} (h : Turned qs rs) : ∀ p ∈ qs, p ∈ rs ∨ (p.2, p.1) ∈ rs := fun p hp => by
  obtain ⟨j, hj, e⟩ := List.mem_iff_getElem.mp hp
  obtain ⟨q, hq⟩ := get_some (l := rs) (i := j) (by rw [h.1]; exact hj)
  rcases h.2 j p q (by rw [List.getElem?_eq_getElem hj, e]) hq with z | z
  · exact .inl (z ▸ List.mem_of_getElem? hq)
  · exact .inr (z ▸ List.mem_of_getElem? hq)
theorem Makes.perm {qs rs : List (Nat × Nat)} {ps : List Nat} (h : Makes qs ps) (e : rs.Perm qs) : Makes rs ps := h.turned e.length_eq (fun p hp => .inl (e.mem_iff.mp hp)) (fun p hp => .inl (e.mem_iff.mpr hp))
theorem IsPair.lt {n : Nat} {ps : List Nat} (h : IsPair n ps) : ∀ i ∈ ps, i < n := fun i hi => by
  obtain ⟨x, hx, e⟩ := List.mem_iff_getElem.mp hi
  obtain ⟨y, e1, e2, _⟩ := h.par x (by rw [← h.len]; exact hx)
  rw [List.getElem?_eq_getElem hx, e] at e1
  cases Option.some.inj e1
  exact e2
theorem Makes.lt {qs : List (Nat × Nat)} {ps : List Nat} (h : Makes qs ps) : ∀ p ∈ qs, p.1 < ps.length ∧ p.2 < ps.length := fun p hp => ⟨get_lt (h.ok p hp).1, get_lt (h.ok p hp).2⟩
theorem iteN {A B : Prop} (h : B) : if (!true) = true then A else B := by
  rw [if_neg (by decide)]
  exact h
end Pc
namespace Pc
open PySem PySem.Spec PyProof.Rows L2 RZ
/-! ### a loop over a list or a tuple that stays as it is -/
theorem for_seq {K : PySem.W.Frag} {a : Addr} {xs : List V} {g : TG} {tb : TS} {D : Ends} {σ : L2.St} {H0 H : Hp} (hS : Sq K H0 a xs) (Pv : Nat → L2.St → Hp → Prop) (h0 : Pv 0 σ H) (hst : ∀ i σ H', Pv i σ H' → Same H0 H')
    (hs : ∀ i x σ H', xs[i]? = some x → Pv i σ H' → g x σ H' fun σ2 H2 => tb { D with nx := Pv (i + 1), ct := Pv (i + 1), bk := D.nx } σ2 H2) (hd : ∀ σ H', Pv xs.length σ H' → D.nx σ H') :
    ((∃ ys, SqL K H a ys) ∧ ∃ W : Nat → Nat → L2.St → Hp → Prop, (∃ m, W 0 m σ H) ∧ ∀ i m σ H, W i m σ H → ((Itl K a).stop i H ∧ D.nx σ H) ∨ ((Itl K a).go i H ∧ ∃ N : L2.St → Hp → Prop, (∀ σ' H', N σ' H' → ∃ m', m' < m ∧ W (i + 1) m' σ' H') ∧ ∀ x H', (Itl K a).yld i H x H' → g x σ H' fun σ2 H2 => tb { D with nx := N, ct := N, bk := D.nx } σ2 H2)) ∨
    ((∃ ys, SqT K H a ys) ∧ ∃ W : Nat → Nat → L2.St → Hp → Prop, (∃ m, W 0 m σ H) ∧ ∀ i m σ H, W i m σ H → ((Itt K a).stop i H ∧ D.nx σ H) ∨ ((Itt K a).go i H ∧ ∃ N : L2.St → Hp → Prop, (∀ σ' H', N σ' H' → ∃ m', m' < m ∧ W (i + 1) m' σ' H') ∧ ∀ x H', (Itt K a).yld i H x H' → g x σ H' fun σ2 H2 => tb { D with nx := N, ct := N, bk := D.nx } σ2 H2)) := by
  rcases hS with h | h
  · exact .inl ⟨⟨_, (hst 0 σ H h0).seq h⟩, for_list Pv h0 (fun i σ H' _ p => (hst i σ H' p).seq h) hs hd⟩
  · exact .inr ⟨⟨_, same_tup (hst 0 σ H h0) h⟩, for_tup Pv h0 (fun i σ H' _ p => same_tup (hst i σ H' p) h) hs hd⟩
/-! ### two are joined, and the two that are left -/
def jn (fs : List Nat) (a b : Nat) : List Nat := if fs.getD a 0 = b then fs else (((fs.set a b).set b a).set (fs.getD a 0) (fs.getD b 0)).set (fs.getD b 0) (fs.getD a 0)
theorem jn_len (fs : List Nat) (a b : Nat) : (jn fs a b).length = fs.length := by
  unfold jn
  split
  · rfl
  · simp only [List.length_set]
/-- the four are different -/
theorem four {n : Nat} {fs : List Nat} (h : IsPair n fs) {a b c d : Nat} (hab : a ≠ b) (ea : fs[a]? = some c) (eb : fs[b]? = some d) (hcb : c ≠ b) : c ≠ a ∧ d ≠ b ∧ d ≠ a ∧ c ≠ d ∧ a < n ∧ b < n ∧ c < n ∧ d < n := by
  obtain ⟨a1, a2, a3, a4⟩ := h.back ea
  obtain ⟨b1, b2, b3, b4⟩ := h.back eb
  refine ⟨a4, b4, fun e => ?_, fun e => ?_, a3, b3, a2, b2⟩
  · rw [e, ea] at b1; exact hcb (Option.some.inj b1)
  · rw [e, b1] at a1; exact hab (Option.some.inj a1).symm
theorem jn_same {fs : List Nat} {a b : Nat} (e : fs[a]? = some b) : jn fs a b = fs := by
  unfold jn
  rw [getD_of e, if_pos rfl]
theorem jn_get {n : Nat} {fs : List Nat} (h : IsPair n fs) {a b c d : Nat} (hab : a ≠ b) (ea : fs[a]? = some c) (eb : fs[b]? = some d) (hcb : c ≠ b) (z : Nat) :
    (jn fs a b)[z]? = if z = a then some b else if z = b then some a else if z = c then some d else if z = d then some c else fs[z]? := by
  obtain ⟨x1, x2, x3, x4, l1, l2, l3, l4⟩ := four h hab ea eb hcb
  unfold jn
  rw [getD_of ea, getD_of eb, if_neg hcb]
  have hl := h.len
  by_cases z4 : z = d
  · subst z4
    rw [List.getElem?_set_self (by simp only [List.length_set]; omega), if_neg x3, if_neg x2, if_neg (Ne.symm x4), if_pos rfl]
  · rw [List.getElem?_set_ne (Ne.symm z4)]
    by_cases z3 : z = c
    · subst z3
      rw [List.getElem?_set_self (by simp only [List.length_set]; omega), if_neg x1, if_neg hcb, if_pos rfl]
    · rw [List.getElem?_set_ne (Ne.symm z3)]
      by_cases z2 : z = b
      · subst z2
        rw [List.getElem?_set_self (by simp only [List.length_set]; omega), if_neg (Ne.symm hab), if_pos rfl]
      · rw [List.getElem?_set_ne (Ne.symm z2)]
        by_cases z1 : z = a
        · subst z1
          rw [List.getElem?_set_self (by omega), if_pos rfl]
        · rw [List.getElem?_set_ne (Ne.symm z1), if_neg z1, if_neg z2, if_neg z3, if_neg z4]
theorem jn_pair {n : Nat} {fs : List Nat} (h : IsPair n fs) {a b : Nat} (hab : a ≠ b) (ha : a < n) (hb : b < n) : IsPair n (jn fs a b) := by
  obtain ⟨c, ea, _⟩ := h.par a ha
  obtain ⟨d, eb, _⟩ := h.par b hb
  by_cases hcb : c = b
  · subst hcb; rw [jn_same ea]; exact h
  · have G := jn_get h hab ea eb hcb
    obtain ⟨x1, x2, x3, x4, _, _, l3, l4⟩ := four h hab ea eb hcb
    refine ⟨by rw [jn_len]; exact h.len, fun x hx => ?_⟩
    by_cases z1 : x = a
    · subst z1
      exact ⟨b, by rw [G, if_pos rfl], hb, hab.symm, by rw [G, if_neg hab.symm, if_pos rfl]⟩
    · by_cases z2 : x = b
      · subst z2
        exact ⟨a, by rw [G, if_neg z1, if_pos rfl], ha, hab, by rw [G, if_pos rfl]⟩
      · by_cases z3 : x = c
        · subst z3
          exact ⟨d, by rw [G, if_neg z1, if_neg z2, if_pos rfl], l4, x4.symm, by rw [G, if_neg x3, if_neg x2, if_neg x4.symm, if_pos rfl]⟩
        · by_cases z4 : x = d
          · subst z4
            exact ⟨c, by rw [G, if_neg z1, if_neg z2, if_neg z3, if_pos rfl], l3, x4, by rw [G, if_neg x1, if_neg hcb, if_pos rfl]⟩
          · obtain ⟨y, e1, e2, e3, e4⟩ := h.par x hx
            have back : ∀ {u : Nat}, y = u → fs[u]? = some x := fun e => by rw [← e]; exact e4
            refine ⟨y, by rw [G, if_neg z1, if_neg z2, if_neg z3, if_neg z4]; exact e1, e2, e3, ?_⟩
            rw [G, if_neg, if_neg, if_neg, if_neg]
            · exact e4
            · intro e; have q := back e; rw [(h.back eb).1] at q; exact z2 (Option.some.inj q).symm
            · intro e; have q := back e; rw [(h.back ea).1] at q; exact z1 (Option.some.inj q).symm
            · intro e; have q := back e; rw [eb] at q; exact z4 (Option.some.inj q).symm
            · intro e; have q := back e; rw [ea] at q; exact z3 (Option.some.inj q).symm
/-- all pairs are calls of n people -/
def Calls (n : Nat) (qs : List (Nat × Nat)) : Prop := ∀ q ∈ qs, q.1 < q.2 ∧ q.2 < n
/-- the calls done one after another -/
def runs (qs : List (Nat × Nat)) (ps : List Nat) : List Nat := qs.foldl (fun fs q => jn fs q.1 q.2) ps
theorem runs_take {qs : List (Nat × Nat)} {ps : List Nat} {i : Nat} {q : Nat × Nat} (h : qs[i]? = some q) : runs (qs.take (i + 1)) ps = jn (runs (qs.take i) ps) q.1 q.2 := by
  unfold runs
  rw [List.take_add_one, h, List.foldl_append]
  rfl
theorem runs_pair {n : Nat} : ∀ (qs : List (Nat × Nat)) {ps : List Nat}, IsPair n ps → Calls n qs → IsPair n (runs qs ps)
  | [], _, h, _ => h
  | q :: r, ps, h, hc => by
    have h1 := hc q List.mem_cons_self
    exact runs_pair r (jn_pair h (by omega) (by omega) h1.2) (fun x hx => hc x (List.mem_cons_of_mem _ hx))
theorem Calls.take {n : Nat} {qs : List (Nat × Nat)} (h : Calls n qs) (i : Nat) : Calls n (qs.take i) := fun q hq => h q (List.mem_of_mem_take hq)
end Pc
namespace Pc
open PySem PySem.Spec PyProof.Rows L2 RZ
/-! ### lists of tuples of numbers -/
def Tups (H : Hp) (as : List Addr) (ls : List (List Nat)) : Prop := Paired (fun a l => H a = some (.tup (nv l))) as ls
theorem Tups.length {H : Hp} {as : List Addr} {ls : List (List Nat)} (h : Tups H as ls) : as.length = ls.length := Paired.length h
theorem tups_same {H H' : Hp} (e : Same H H') : ∀ {as : List Addr} {ls : List (List Nat)}, Tups H as ls → Tups H' as ls
  | _, _, .nil => .nil
  | _, _, .cons h r => .cons (e _ _ h) (tups_same e r)
theorem tups_keep {b : Addr} {H H' : Hp} {ys : List V} (k : Keep b H H') (hb : H b = some (.lst ys)) : ∀ {as : List Addr} {ls : List (List Nat)}, Tups H as ls → Tups H' as ls
  | _, _, .nil => .nil
  | _, _, .cons h r => .cons (k.tup hb h) (tups_keep k hb r)
theorem tups_append {H : Hp} : ∀ {as bs : List Addr} {ls ms : List (List Nat)}, Tups H as ls → Tups H bs ms → Tups H (as ++ bs) (ls ++ ms)
  | _, _, _, _, .nil, s => s
  | _, _, _, _, .cons h r, s => .cons h (tups_append r s)
theorem tups_get {H : Hp} : ∀ {as : List Addr} {ls : List (List Nat)} {i : Nat} {a : Addr}, Tups H as ls → as[i]? = some a → ∃ l, ls[i]? = some l ∧ H a = some (.tup (nv l))
  | _, _, _, _, .nil, h => by simp at h
  | _, _, 0, _, .cons (b := p) h _, e => by
    cases Option.some.inj e
    exact ⟨p, rfl, h⟩
  | _, _, i + 1, a, .cons _ r, e => tups_get (i := i) r e
def td (l : List Nat) : PyData := .tuple (nd l)
theorem tups_dp {K : PySem.W.Frag} {H : Hp} : ∀ {as : List Addr} {ls : List (List Nat)}, Tups H as ls → DpAll K H (as.map V.ref) (ls.map td)
  | _, _, .nil => .nil
  | _, _, .cons (b := l) h r => .cons (.tup (.inl (.inl h)) (dp_nats l)) (tups_dp r)
theorem fine_tds {ls : List (List Nat)} {n m : Nat} (h : ∀ l ∈ ls, l.length ≤ m ∧ ∀ i ∈ l, i < 2 ^ 60) (hn : ls.length ≤ n) (hb : n ≤ 100000) (hm : m ≤ 100000) : Fine 2 (n * (m * 63 + 5) + 3) (.list (ls.map td)) :=
  fine_list (fun d hd => by
    obtain ⟨l, hl, rfl⟩ := List.mem_map.mp hd
    exact fine_tup (h l hl).2 (h l hl).1 hm) (by rw [List.length_map]; exact hn) hb
/-- the pairings before the first call and behind each -/
def alongs (qs : List (Nat × Nat)) (ps : List Nat) (i : Nat) : List (List Nat) := (List.range (i + 1)).map fun j => runs (qs.take j) ps
theorem alongs_zero (qs : List (Nat × Nat)) (ps : List Nat) : alongs qs ps 0 = [ps] := rfl
theorem alongs_succ (qs : List (Nat × Nat)) (ps : List Nat) (i : Nat) : alongs qs ps (i + 1) = alongs qs ps i ++ [runs (qs.take (i + 1)) ps] := by
  unfold alongs
  rw [List.range_succ, List.map_append]
  rfl
theorem alongs_len (qs : List (Nat × Nat)) (ps : List Nat) (i : Nat) : (alongs qs ps i).length = i + 1 := by
  unfold alongs
  rw [List.length_map, List.length_range]
theorem alongs_mem {n i : Nat} {qs : List (Nat × Nat)} {ps l : List Nat} (hP : IsPair n ps) (hc : Calls n qs) (h : l ∈ alongs qs ps i) : IsPair n l := by
  obtain ⟨j, _, rfl⟩ := List.mem_map.mp h
  exact runs_pair _ hP (hc.take j)
end Pc
namespace Pc
open PySem PySem.Spec PyProof.Rows L2 RZ
/-! ### sheets as lists of natural numbers -/
/-- the empty sheet of n people -/
def emp (n : Nat) : List Nat := (List.range (2 * n)).map fun e => (e + n) % (2 * n)
theorem emp_len (n : Nat) : (emp n).length = 2 * n := by unfold emp; rw [List.length_map, List.length_range]
theorem emp_get {n e : Nat} (h : e < 2 * n) : (emp n)[e]? = some ((e + n) % (2 * n)) := by
  unfold emp
  rw [List.getElem?_map, List.getElem?_range h]
  rfl
theorem emp_lo {n e : Nat} (h : e < n) : (emp n)[e]? = some (n + e) := by
  rw [emp_get (by omega), Nat.mod_eq_of_lt (by omega), Nat.add_comm]
theorem emp_hi {n e : Nat} (h : e < n) : (emp n)[n + e]? = some e := by
  rw [emp_get (by omega), show n + e + n = e + 1 * (2 * n) by omega, Nat.add_mul_mod_self_right, Nat.mod_eq_of_lt (by omega)]
theorem emp_pair {n : Nat} (hn : 0 < n) : IsPair (2 * n) (emp n) := by
  refine ⟨emp_len n, fun x hx => ?_⟩
  by_cases h : x < n
  · exact ⟨n + x, emp_lo h, by omega, by omega, emp_hi h⟩
  · have e : x = n + (x - n) := by omega
    refine ⟨x - n, ?_, by omega, by omega, ?_⟩
    · have := emp_hi (n := n) (e := x - n) (by omega)
      rw [← e] at this; exact this
    · have := emp_lo (n := n) (e := x - n) (by omega)
      rw [← e] at this; exact this
/-- the calls at the lower ends -/
def low (n : Nat) (qs : List (Nat × Nat)) : List (Nat × Nat) := qs.map fun q => (n + q.1, n + q.2)
theorem low_calls {n : Nat} {qs : List (Nat × Nat)} (h : Calls n qs) : Calls (2 * n) (low n qs) := fun q hq => by
  obtain ⟨r, hr, rfl⟩ := List.mem_map.mp hq
  have := h r hr
  exact ⟨by show n + r.1 < n + r.2; omega, by show n + r.2 < 2 * n; omega⟩
theorem low_take (n : Nat) (qs : List (Nat × Nat)) (i : Nat) : (low n qs).take i = low n (qs.take i) := by unfold low; rw [List.map_take]
theorem low_get {n i : Nat} {qs : List (Nat × Nat)} {q : Nat × Nat} (h : qs[i]? = some q) : (low n qs)[i]? = some (n + q.1, n + q.2) := by
  unfold low; rw [List.getElem?_map, h]; rfl
/-- the sheet with calls added -/
def shw (n : Nat) (qs : List (Nat × Nat)) (fs : List Nat) : List Nat := runs (low n qs) fs
theorem shw_take {n i : Nat} {qs : List (Nat × Nat)} {fs : List Nat} {q : Nat × Nat} (h : qs[i]? = some q) : shw n (qs.take (i + 1)) fs = jn (shw n (qs.take i) fs) (n + q.1) (n + q.2) := by
  unfold shw
  rw [← low_take, ← low_take, runs_take (low_get h)]
theorem shw_pair {n : Nat} {qs : List (Nat × Nat)} {fs : List Nat} (hP : IsPair (2 * n) fs) (h : Calls n qs) : IsPair (2 * n) (shw n qs fs) := runs_pair _ hP (low_calls h)
/-- the other order of the stores -/
theorem jn_alt {n : Nat} {fs : List Nat} (h : IsPair n fs) {a b c d : Nat} (hab : a ≠ b) (ea : fs[a]? = some c) (eb : fs[b]? = some d) (hcb : c ≠ b) : (((fs.set c d).set d c).set a b).set b a = jn fs a b := by
  obtain ⟨x1, x2, x3, x4, l1, l2, l3, l4⟩ := four h hab ea eb hcb
  have hl := h.len
  refine List.ext_getElem? fun z => ?_
  rw [jn_get h hab ea eb hcb]
  by_cases z2 : z = b
  · subst z2
    rw [List.getElem?_set_self (by simp only [List.length_set]; omega), if_neg hab.symm, if_pos rfl]
  · rw [List.getElem?_set_ne (Ne.symm z2)]
    by_cases z1 : z = a
    · subst z1
      rw [List.getElem?_set_self (by simp only [List.length_set]; omega), if_pos rfl]
    · rw [List.getElem?_set_ne (Ne.symm z1), if_neg z1, if_neg z2]
      by_cases z4 : z = d
      · subst z4
        rw [List.getElem?_set_self (by simp only [List.length_set]; omega), if_neg (Ne.symm x4), if_pos rfl]
      · rw [List.getElem?_set_ne (Ne.symm z4)]
        by_cases z3 : z = c
        · subst z3
          rw [List.getElem?_set_self (by omega), if_pos rfl]
        · rw [List.getElem?_set_ne (Ne.symm z3), if_neg z3, if_neg z4]
theorem range_shift (n : Nat) : rgV (n : Int) (2 * (n : Int)) = nv ((List.range n).map fun i => n + i) := by
  unfold rgV nv
  rw [show (2 * (n : Int) - (n : Int)).toNat = n by omega, List.map_map]
  refine List.map_congr_left fun i _ => ?_
  show V.int ((n : Int) + (i : Nat)) = V.int (((n + i : Nat) : Int))
  rw [show (((n + i : Nat) : Int)) = (n : Int) + (i : Nat) by omega]
/-- strands in any order: the upper ends in turn, the lower ends as drawn -/
def SInv (n : Nat) (ls fs : List Nat) (t : Nat) : Prop := fs.length = 2 * n ∧ ∀ j, j < t → ∀ l, ls[j]? = some l → fs[j]? = some l ∧ fs[l]? = some j
theorem SInv.step {n : Nat} {ls fs : List Nat} {t l : Nat} (hp : ls.Perm ((List.range n).map fun i => n + i)) (h : SInv n ls fs t) (hl : ls[t]? = some l) : SInv n ls ((fs.set t l).set l t) (t + 1) := by
  have hln : ls.length = n := by rw [hp.length_eq, List.length_map, List.length_range]
  have hnd : ls.Nodup := hp.nodup_iff.mpr (List.Pairwise.map _ (fun a b (hab : a ≠ b) => show n + a ≠ n + b by omega) List.nodup_range)
  have big : ∀ {j x : Nat}, ls[j]? = some x → n ≤ x ∧ x < 2 * n := fun hx => by
    obtain ⟨i, hi, e⟩ := List.mem_map.mp (hp.mem_iff.mp (List.mem_of_getElem? hx))
    have := List.mem_range.mp hi
    omega
  have ht : t < n := by rw [← hln]; exact get_lt hl
  have hb := big hl
  obtain ⟨h1, h2⟩ := h
  refine ⟨by simp only [List.length_set]; exact h1, fun j hj x hx => ?_⟩
  have hjn : j < n := by rw [← hln]; exact get_lt hx
  have hbx := big hx
  by_cases e : j = t
  · subst e
    cases Option.some.inj (hl.symm.trans hx)
    exact ⟨by rw [List.getElem?_set_ne (by omega), List.getElem?_set_self (by omega)], by rw [List.getElem?_set_self (by simp only [List.length_set]; omega)]⟩
  · obtain ⟨g1, g2⟩ := h2 j (by omega) x hx
    have xl : l ≠ x := fun z => by subst z; exact e (nd_ix hnd hx hl)
    exact ⟨by rw [List.getElem?_set_ne (by omega), List.getElem?_set_ne (by omega)]; exact g1, by rw [List.getElem?_set_ne xl, List.getElem?_set_ne (by omega)]; exact g2⟩
theorem SInv.done {n : Nat} {ls fs : List Nat} (hp : ls.Perm ((List.range n).map fun i => n + i)) (h : SInv n ls fs n) : IsPair (2 * n) fs := by
  have hln : ls.length = n := by rw [hp.length_eq, List.length_map, List.length_range]
  refine ⟨h.1, fun x hx => ?_⟩
  by_cases e : x < n
  · obtain ⟨l, hl⟩ := get_some (l := ls) (i := x) (by omega)
    obtain ⟨i, hi, e'⟩ := List.mem_map.mp (hp.mem_iff.mp (List.mem_of_getElem? hl))
    have := List.mem_range.mp hi
    obtain ⟨g1, g2⟩ := h.2 x e l hl
    exact ⟨l, g1, by omega, by omega, g2⟩
  · have hm : x ∈ ls := hp.mem_iff.mpr (List.mem_map.mpr ⟨x - n, List.mem_range.mpr (by omega), by omega⟩)
    obtain ⟨j, hj, ej⟩ := List.mem_iff_getElem.mp hm
    obtain ⟨g1, g2⟩ := h.2 j (by omega) x (by rw [List.getElem?_eq_getElem hj, ej])
    exact ⟨j, g2, by omega, by omega, g1⟩
theorem emp_step (n i : Nat) (h : i < 2 * n) : (emp n).take (i + 1) = (emp n).take i ++ [(i + n) % (2 * n)] := by
  rw [List.take_add_one, emp_get h]
  rfl
theorem nv_snoc' (l : List Nat) (x : Nat) : nv l ++ [.int (x : Int)] = nv (l ++ [x]) := by
  unfold nv
  rw [List.map_append]; rfl
theorem mod_cast_n (i n : Nat) : ((0 : Int) + (i : Nat) + (n : Int)) % (2 * (n : Int)) = (((i + n) % (2 * n) : Nat) : Int) := by
  have h : (((i + n) % (2 * n) : Nat) : Int) = ((i + n : Nat) : Int) % ((2 * n : Nat) : Int) := Int.natCast_emod _ _
  rw [h, Int.natCast_add, Int.natCast_mul, Int.zero_add]
  rfl
end Pc
namespace Pc
open PySem PySem.Spec PyProof.Rows L2 RZ
/-! ### pairs that are chosen from a range -/
def selN (c : Nat → Bool) (g : Nat → Nat × Nat) (i : Nat) : List (Nat × Nat) := ((List.range i).filter c).map g
theorem selN_yes {c : Nat → Bool} {g : Nat → Nat × Nat} {i : Nat} (h : c i = true) : selN c g (i + 1) = selN c g i ++ [g i] := by
  unfold selN
  rw [List.range_succ, List.filter_append, List.map_append, List.filter_cons_of_pos h, List.filter_nil, List.map_cons, List.map_nil]
theorem selN_no {c : Nat → Bool} {g : Nat → Nat × Nat} {i : Nat} (h : c i = false) : selN c g (i + 1) = selN c g i := by
  unfold selN
  rw [List.range_succ, List.filter_append, List.map_append, List.filter_cons_of_neg (by rw [h]; decide), List.filter_nil, List.map_nil, List.append_nil]
theorem selN_len (c : Nat → Bool) (g : Nat → Nat × Nat) (i : Nat) : (selN c g i).length ≤ i := by
  unfold selN
  rw [List.length_map]
  exact Nat.le_trans (List.length_filter_le _ _) (by rw [List.length_range]; exact Nat.le_refl _)
theorem selN_mem {c : Nat → Bool} {g : Nat → Nat × Nat} {i : Nat} {p : Nat × Nat} : p ∈ selN c g i ↔ ∃ x, x < i ∧ c x = true ∧ g x = p := by
  unfold selN
  rw [List.mem_map]
  constructor
  · rintro ⟨x, hx, e⟩
    have := List.mem_filter.mp hx
    exact ⟨x, List.mem_range.mp this.1, this.2, e⟩
  · rintro ⟨x, h1, h2, e⟩
    exact ⟨x, List.mem_filter.mpr ⟨List.mem_range.mpr h1, h2⟩, e⟩
/-- one more pair is put to the list -/
theorem sel_step {H H1 : Hp} {D u : Addr} {as : List Addr} {c : Nat → Bool} {g : Nat → Nat × Nat} {i : Nat} {v1 v2 : V} (nD : H D = none) (sm : Same H H1) (eD : H1 D = some (.lst (as.map V.ref))) (hA : Prs H1 as (selN c g i)) (hc : c i = true) (nu : H1 u = none)
    (hv : [v1, v2] = [V.int ((g i).1 : Int), V.int ((g i).2 : Int)]) (hi : i ≤ 999) : ∃ acc, (upd H1 u (.tup [v1, v2])) D = some (.lst acc) ∧ acc.length < sizeLine ∧
      (Same H (upd (upd H1 u (.tup [v1, v2])) D (.lst (acc ++ [.ref u]))) ∧ ∃ as' : List Addr, (upd (upd H1 u (.tup [v1, v2])) D (.lst (acc ++ [.ref u]))) D = some (.lst (as'.map V.ref)) ∧ Prs (upd (upd H1 u (.tup [v1, v2])) D (.lst (acc ++ [.ref u]))) as' (selN c g (i + 1))) := by
  have su : Same H1 (upd H1 u (.tup [v1, v2])) := same_new nu
  have nuD : u ≠ D := fun e => by rw [e, eD] at nu; cases nu
  refine ⟨_, su _ _ eD, ?_, fun b' o hb => ?_, as ++ [u], ?_, ?_⟩
  · rw [List.length_map, hA.length]
    have := selN_len c g i
    exact small1000 (by omega)
  · rw [upd_ne (ne_of_none hb nD)]; exact su _ _ (sm _ _ hb)
  · rw [upd_same, List.map_append]; rfl
  · rw [selN_yes hc]
    refine prs_append (prs_keep (b := D) (ys := as.map V.ref) keep_upd (su _ _ eD) (prs_same su hA)) (.cons ?_ .nil)
    rw [upd_ne nuD, upd_same, hv]
theorem ix_sq {K : PySem.W.Frag} {H : Hp} {a : Addr} {xs : List V} {i : Int} {v : V} {Q : VK} (h : Sq K H a xs) (e : atI xs i = some v) (q : Q v H) : rIx K (.ref a) (.int i) H Q :=
  h.elim (fun z => .inl ⟨a, xs, i, v, rfl, rfl, z, e, q⟩) (fun z => .inr (.inl ⟨a, xs, i, v, rfl, rfl, z, e, q⟩))
/-! ### upper pairs, lower pairs, strands -/
def upC (fs : List Nat) (n x : Nat) : Bool := decide (x < fs.getD x 0) && decide (fs.getD x 0 < n)
def upG (fs : List Nat) (x : Nat) : Nat × Nat := (x, fs.getD x 0)
def loC (fs : List Nat) (n x : Nat) : Bool := decide (n + x < fs.getD (n + x) 0)
def loG (fs : List Nat) (n x : Nat) : Nat × Nat := (x, fs.getD (n + x) 0 - n)
def stC (fs : List Nat) (n x : Nat) : Bool := decide (n ≤ fs.getD x 0)
def stG (fs : List Nat) (n x : Nat) : Nat × Nat := (x, fs.getD x 0 - n)
def ups (fs : List Nat) (n : Nat) : List (Nat × Nat) := selN (upC fs n) (upG fs) n
def los (fs : List Nat) (n : Nat) : List (Nat × Nat) := selN (loC fs n) (loG fs n) n
def sts (fs : List Nat) (n : Nat) : List (Nat × Nat) := selN (stC fs n) (stG fs n) n
theorem ups_mem {n : Nat} {fs : List Nat} (h : IsPair (2 * n) fs) {p : Nat × Nat} (hp : p ∈ ups fs n) : fs[p.1]? = some p.2 ∧ p.1 < p.2 ∧ p.2 < n := by
  obtain ⟨x, hx, hc, e⟩ := selN_mem.mp hp
  obtain ⟨y, ey, _⟩ := h.par x (by omega)
  unfold upC at hc
  rw [getD_of ey, Bool.and_eq_true, decide_eq_true_iff, decide_eq_true_iff] at hc
  subst e
  show fs[x]? = some (fs.getD x 0) ∧ x < fs.getD x 0 ∧ fs.getD x 0 < n
  rw [getD_of ey]
  exact ⟨ey, hc.1, hc.2⟩
theorem los_mem {n : Nat} {fs : List Nat} (h : IsPair (2 * n) fs) {p : Nat × Nat} (hp : p ∈ los fs n) : fs[n + p.1]? = some (n + p.2) ∧ p.1 < p.2 ∧ p.2 < n := by
  obtain ⟨x, hx, hc, e⟩ := selN_mem.mp hp
  obtain ⟨y, ey, hy, _⟩ := h.par (n + x) (by omega)
  unfold loC at hc
  rw [getD_of ey, decide_eq_true_iff] at hc
  subst e
  show fs[n + x]? = some (n + (fs.getD (n + x) 0 - n)) ∧ x < fs.getD (n + x) 0 - n ∧ fs.getD (n + x) 0 - n < n
  rw [getD_of ey, show n + (y - n) = y by omega]
  exact ⟨ey, by omega, by omega⟩
theorem sts_mem {n : Nat} {fs : List Nat} (h : IsPair (2 * n) fs) {p : Nat × Nat} (hp : p ∈ sts fs n) : fs[p.1]? = some (n + p.2) ∧ p.1 < n ∧ p.2 < n := by
  obtain ⟨x, hx, hc, e⟩ := selN_mem.mp hp
  obtain ⟨y, ey, hy, _⟩ := h.par x (by omega)
  unfold stC at hc
  rw [getD_of ey, decide_eq_true_iff] at hc
  subst e
  show fs[x]? = some (n + (fs.getD x 0 - n)) ∧ x < n ∧ fs.getD x 0 - n < n
  rw [getD_of ey, show n + (y - n) = y by omega]
  exact ⟨ey, by omega, by omega⟩
/-- all joins of a sheet, as pairs of ends -/
def jns (fs : List Nat) (n : Nat) : List (Nat × Nat) := ups fs n ++ ((los fs n).map (fun p => (n + p.1, n + p.2)) ++ (sts fs n).map (fun p => (p.1, n + p.2)))
theorem jns_ok {n : Nat} {fs : List Nat} (h : IsPair (2 * n) fs) : ∀ p ∈ jns fs n, fs[p.1]? = some p.2 ∧ p.1 < p.2 := fun p hp => by
  rcases List.mem_append.mp hp with z | z
  · have := ups_mem h z; exact ⟨this.1, this.2.1⟩
  · rcases List.mem_append.mp z with z | z
    · obtain ⟨r, hr, rfl⟩ := List.mem_map.mp z
      have := los_mem h hr
      exact ⟨this.1, by show n + r.1 < n + r.2; omega⟩
    · obtain ⟨r, hr, rfl⟩ := List.mem_map.mp z
      have := sts_mem h hr
      exact ⟨this.1, by show r.1 < n + r.2; omega⟩
theorem sel_fst {c : Nat → Bool} {g : Nat → Nat × Nat} {i : Nat} (h : ∀ x, (g x).1 = x) : (selN c g i).map Prod.fst = (List.range i).filter c := by
  unfold selN
  rw [List.map_map]
  conv => rhs; rw [← List.map_id ((List.range i).filter c)]
  exact List.map_congr_left fun x _ => h x
theorem jns_nodup {n : Nat} {fs : List Nat} (h : IsPair (2 * n) fs) : ((jns fs n).map Prod.fst).Nodup := by
  have e1 : (ups fs n).map Prod.fst = (List.range n).filter (upC fs n) := sel_fst fun _ => rfl
  have e2 : ((los fs n).map (fun p => (n + p.1, n + p.2))).map Prod.fst = ((List.range n).filter (loC fs n)).map (fun x => n + x) := by
    rw [← sel_fst (c := loC fs n) (g := loG fs n) (i := n) fun _ => rfl, List.map_map, List.map_map]; rfl
  have e3 : ((sts fs n).map (fun p => (p.1, n + p.2))).map Prod.fst = (List.range n).filter (stC fs n) := by
    rw [← sel_fst (c := stC fs n) (g := stG fs n) (i := n) fun _ => rfl, List.map_map]; rfl
  unfold jns
  rw [List.map_append, List.map_append, e1, e2, e3]
  have nr : (List.range n).Nodup := List.nodup_range
  refine List.nodup_append.mpr ⟨nr.filter _, List.nodup_append.mpr ⟨?_, nr.filter _, fun a ha b hb => ?_⟩, fun a ha b hb => ?_⟩
  · exact List.Pairwise.map _ (fun a b (hab : a ≠ b) => show n + a ≠ n + b by omega) (nr.filter _)
  · obtain ⟨x, _, rfl⟩ := List.mem_map.mp ha
    have := List.mem_range.mp (List.mem_filter.mp hb).1
    omega
  · have ha1 := List.mem_range.mp (List.mem_filter.mp ha).1
    have ha2 := (List.mem_filter.mp ha).2
    unfold upC at ha2
    rw [Bool.and_eq_true, decide_eq_true_iff, decide_eq_true_iff] at ha2
    rcases List.mem_append.mp hb with z | z
    · obtain ⟨x, _, rfl⟩ := List.mem_map.mp z; omega
    · have hb2 := (List.mem_filter.mp z).2
      unfold stC at hb2
      rw [decide_eq_true_iff] at hb2
      intro e; subst e; omega
theorem jns_all {n : Nat} {fs : List Nat} (h : IsPair (2 * n) fs) {z y : Nat} (e : fs[z]? = some y) (hz : z < y) : (z, y) ∈ jns fs n := by
  obtain ⟨_, hy, hz2, _⟩ := h.back e
  unfold jns
  by_cases c : z < n
  · by_cases d : y < n
    · refine List.mem_append.mpr (.inl (selN_mem.mpr ⟨z, c, ?_, ?_⟩))
      · unfold upC; rw [getD_of e, decide_eq_true hz, decide_eq_true d]; rfl
      · unfold upG; rw [getD_of e]
    · refine List.mem_append.mpr (.inr (List.mem_append.mpr (.inr (List.mem_map.mpr ⟨(z, y - n), selN_mem.mpr ⟨z, c, ?_, ?_⟩, ?_⟩))))
      · unfold stC; rw [getD_of e]; exact decide_eq_true (by omega)
      · unfold stG; rw [getD_of e]
      · show (z, n + (y - n)) = (z, y); rw [show n + (y - n) = y by omega]
  · have e' : fs[n + (z - n)]? = some y := by rw [show n + (z - n) = z by omega]; exact e
    refine List.mem_append.mpr (.inr (List.mem_append.mpr (.inl (List.mem_map.mpr ⟨(z - n, y - n), selN_mem.mpr ⟨z - n, by omega, ?_, ?_⟩, ?_⟩))))
    · unfold loC; rw [getD_of e']; exact decide_eq_true (by omega)
    · unfold loG; rw [getD_of e']
    · show (n + (z - n), n + (y - n)) = (z, y); rw [show n + (z - n) = z by omega, show n + (y - n) = y by omega]
/-- the ends of joins in a row -/
def flat : List (Nat × Nat) → List Nat
  | [] => []
  | p :: r => p.1 :: p.2 :: flat r
theorem flat_app : ∀ a b : List (Nat × Nat), flat (a ++ b) = flat a ++ flat b
  | [], _ => rfl
  | p :: r, b => by show p.1 :: p.2 :: flat (r ++ b) = _; rw [flat_app r b]; rfl
theorem flat_mem : ∀ {l : List (Nat × Nat)} {z : Nat}, z ∈ flat l ↔ ∃ p ∈ l, z = p.1 ∨ z = p.2
  | [], z => by simp [flat]
  | p :: r, z => by
    show z ∈ p.1 :: p.2 :: flat r ↔ _
    rw [List.mem_cons, List.mem_cons, flat_mem (l := r)]
    constructor
    · rintro (e | e | ⟨q, hq, e⟩)
      · exact ⟨p, List.mem_cons_self, .inl e⟩
      · exact ⟨p, List.mem_cons_self, .inr e⟩
      · exact ⟨q, List.mem_cons_of_mem _ hq, e⟩
    · rintro ⟨q, hq, e⟩
      rcases List.mem_cons.mp hq with z | z
      · subst z; exact e.elim .inl (fun e => .inr (.inl e))
      · exact .inr (.inr ⟨q, z, e⟩)
theorem flat_len : ∀ l : List (Nat × Nat), (flat l).length = 2 * l.length
  | [] => rfl
  | p :: r => by show (flat r).length + 1 + 1 = 2 * (r.length + 1); rw [flat_len r]; omega
theorem flat_nodup {n : Nat} {fs : List Nat} (h : IsPair n fs) : ∀ {l : List (Nat × Nat)}, (∀ p ∈ l, fs[p.1]? = some p.2 ∧ p.1 < p.2) → (l.map Prod.fst).Nodup → (flat l).Nodup
  | [], _, _ => List.nodup_nil
  | p :: r, ho, hd => by
    have hp := ho p List.mem_cons_self
    obtain ⟨n1, n2⟩ := List.nodup_cons.mp (show (p.1 :: r.map Prod.fst).Nodup from hd)
    have hr : ∀ q ∈ r, fs[q.1]? = some q.2 ∧ q.1 < q.2 := fun q hq => ho q (List.mem_cons_of_mem _ hq)
    have ih := flat_nodup h hr n2
    have bp := (h.back hp.1).1
    have ne1 : ∀ q ∈ r, p.1 ≠ q.1 := fun q hq e => n1 (List.mem_map.mpr ⟨q, hq, e.symm⟩)
    show (p.1 :: p.2 :: flat r).Nodup
    refine List.nodup_cons.mpr ⟨fun hm => ?_, List.nodup_cons.mpr ⟨fun hm => ?_, ih⟩⟩
    · rcases List.mem_cons.mp hm with e | e
      · omega
      · obtain ⟨q, hq, e⟩ := flat_mem.mp e
        have hq' := hr q hq
        rcases e with e | e
        · exact ne1 q hq e
        · have bq := (h.back hq'.1).1
          rw [← e, hp.1] at bq
          have := Option.some.inj bq
          omega
    · obtain ⟨q, hq, e⟩ := flat_mem.mp hm
      have hq' := hr q hq
      rcases e with e | e
      · have e1 := hq'.1
        rw [← e, bp] at e1
        have := Option.some.inj e1
        omega
      · have bq := (h.back hq'.1).1
        rw [← e, bp] at bq
        exact ne1 q hq (Option.some.inj bq)
theorem jns_perm {n : Nat} {fs : List Nat} (h : IsPair (2 * n) fs) : (flat (jns fs n)).Perm (List.range (2 * n)) := by
  refine (List.perm_ext_iff_of_nodup (flat_nodup h (jns_ok h) (jns_nodup h)) List.nodup_range).mpr fun z => ?_
  rw [flat_mem, List.mem_range]
  constructor
  · rintro ⟨p, hp, e⟩
    obtain ⟨b1, b2, b3, _⟩ := h.back (jns_ok h p hp).1
    rcases e with e | e <;> omega
  · intro hz
    obtain ⟨y, ey, hy, hne, eb⟩ := h.par z hz
    by_cases c : z < y
    · exact ⟨_, jns_all h ey c, .inl rfl⟩
    · exact ⟨_, jns_all h eb (by omega), .inr rfl⟩
theorem flat_two {f : Nat → Bool} : ∀ {l : List (Nat × Nat)}, (∀ p ∈ l, f p.1 = true ∧ f p.2 = true) → (flat l).countP f = 2 * l.length
  | [], _ => rfl
  | p :: r, h => by
    have hp := h p List.mem_cons_self
    show (p.1 :: p.2 :: flat r).countP f = _
    rw [List.countP_cons_of_pos hp.1, List.countP_cons_of_pos hp.2, flat_two fun q hq => h q (List.mem_cons_of_mem _ hq), List.length_cons]
    omega
theorem flat_none {f : Nat → Bool} : ∀ {l : List (Nat × Nat)}, (∀ p ∈ l, f p.1 = false ∧ f p.2 = false) → (flat l).countP f = 0
  | [], _ => rfl
  | p :: r, h => by
    have hp := h p List.mem_cons_self
    show (p.1 :: p.2 :: flat r).countP f = _
    rw [List.countP_cons_of_neg (by rw [hp.1]; decide), List.countP_cons_of_neg (by rw [hp.2]; decide), flat_none fun q hq => h q (List.mem_cons_of_mem _ hq)]
theorem flat_one {f : Nat → Bool} : ∀ {l : List (Nat × Nat)}, (∀ p ∈ l, f p.1 = true ∧ f p.2 = false) → (flat l).countP f = l.length
  | [], _ => rfl
  | p :: r, h => by
    have hp := h p List.mem_cons_self
    show (p.1 :: p.2 :: flat r).countP f = _
    rw [List.countP_cons_of_pos hp.1, List.countP_cons_of_neg (by rw [hp.2]; decide), flat_one fun q hq => h q (List.mem_cons_of_mem _ hq), List.length_cons]
theorem range_low (n : Nat) : (List.range (2 * n)).countP (fun z => decide (z < n)) = n := by
  rw [show 2 * n = n + n by omega, List.range_add, List.countP_append, List.countP_eq_length.mpr (fun a ha => decide_eq_true (List.mem_range.mp ha)), List.countP_eq_zero.mpr (fun a ha => ?_), List.length_range, Nat.add_zero]
  obtain ⟨x, _, rfl⟩ := List.mem_map.mp ha
  rw [decide_eq_true_iff]; omega
theorem ups_los {n : Nat} {fs : List Nat} (h : IsPair (2 * n) fs) : (ups fs n).length = (los fs n).length := by
  have hp := jns_perm h
  have hl := hp.length_eq
  have hc := hp.countP_eq (fun z => decide (z < n))
  rw [range_low] at hc
  rw [flat_len, List.length_range] at hl
  unfold jns at hc hl
  rw [List.length_append, List.length_append, List.length_map, List.length_map] at hl
  have x1 : (flat (ups fs n)).countP (fun z => decide (z < n)) = 2 * (ups fs n).length := flat_two fun p hp => by
    have := ups_mem h hp
    exact ⟨decide_eq_true (by omega), decide_eq_true (by omega)⟩
  have x2 : (flat ((los fs n).map (fun p => (n + p.1, n + p.2)))).countP (fun z => decide (z < n)) = 0 := flat_none fun p hp => by
    obtain ⟨r, hr, rfl⟩ := List.mem_map.mp hp
    exact ⟨decide_eq_false (by show ¬ n + r.1 < n; omega), decide_eq_false (by show ¬ n + r.2 < n; omega)⟩
  have x3 : (flat ((sts fs n).map (fun p => (p.1, n + p.2)))).countP (fun z => decide (z < n)) = ((sts fs n).map (fun p => (p.1, n + p.2))).length := flat_one fun p hp => by
    obtain ⟨r, hr, rfl⟩ := List.mem_map.mp hp
    have := sts_mem h hr
    exact ⟨decide_eq_true (by show r.1 < n; omega), decide_eq_false (by show ¬ n + r.2 < n; omega)⟩
  rw [flat_app, flat_app, List.countP_append, List.countP_append, x1, x2, x3, List.length_map] at hc
  omega
end Pc
namespace Pc
open PySem PySem.Spec PyProof.Rows L2 RZ
/-! ### data of small size, by its depth -/
def Sz : Nat → Nat
  | 0 => 61
  | 1 => 6303
  | 2 => 630503
  | _ => 15762628
abbrev Fi (j : Nat) (d : PyData) : Prop := Fine j (Sz j) d
theorem Sz_le : ∀ j, Sz j ≤ Sz (j + 1)
  | 0 => by decide
  | 1 => by decide
  | 2 => by decide
  | _ + 3 => Nat.le_refl _
theorem Fine.up {j : Nat} {d : PyData} (h : Fi j d) : Fi (j + 1) d := h.mono (Nat.le_succ _) (Sz_le j)
theorem Fine.sh {j : Nat} {d : PyData} (h : Fi j d) (hj : j ≤ 60 := by decide) : SeqAt.shaped d = true := Fine.shaped h (by omega)
theorem fi_int {i : Int} (h : i.natAbs < 2 ^ 60) : Fi 0 (.int i) := fine_int h
theorem fi_bl {b : Bool} : Fi 0 (.bool b) := ⟨rfl, rfl, Nat.le_refl _, trivial, by cases b <;> decide⟩
theorem fi_non : Fi 0 .none := ⟨rfl, rfl, Nat.le_refl _, trivial, by decide⟩
theorem fi_tup {l : List Nat} {m : Nat} (hl : IsPair m l) (hm : m ≤ 100) : Fi 1 (td l) := (fine_tup (n := 100) (fun i hi => by have := hl.lt i hi; omega) (by rw [hl.len]; omega) (by decide)).mono (Nat.le_refl _) (by decide)
/-- numbers of small size, not many -/
def Fw (l : List Nat) : Prop := l.length ≤ 100 ∧ ∀ i ∈ l, i < 2 ^ 60
theorem fb {l : List Nat} {m : Nat} (hl : IsPair m l) (hm : m ≤ 100) : Fw l := ⟨by rw [hl.len]; exact hm, fun i hi => by have := hl.lt i hi; omega⟩
theorem fi_tup' {l : List Nat} (h : Fw l) : Fi 1 (td l) := (fine_tup (n := 100) h.2 h.1 (by decide)).mono (Nat.le_refl _) (by decide)
theorem fi_lst {l : List Nat} (h : Fw l) : Fi 1 (.list (nd l)) := (fine_list (k := 0) (m := 61) (n := 100) (fine_nd h.2) (by rw [nd_length]; exact h.1) (by decide)).mono (Nat.le_refl _) (by decide)
theorem fi_prs {qs : List (Nat × Nat)} (h : qs.length ≤ 1000 ∧ ∀ p ∈ qs, p.1 < 2 ^ 60 ∧ p.2 < 2 ^ 60) : Fi 2 (.list (qs.map pd)) := (fine_pds (n := 1000) h.2 h.1 (by decide)).mono (Nat.le_refl _) (by decide)
theorem fa_nil {j : Nat} : ∀ d ∈ ([] : List PyData), Fi j d := fun _ h => absurd h List.not_mem_nil
theorem fa_cons {j : Nat} {d : PyData} {ds : List PyData} (h : Fi j d) (r : ∀ x ∈ ds, Fi j x) : ∀ x ∈ d :: ds, Fi j x := fun x hx => (List.mem_cons.mp hx).elim (fun e => by rw [e]; exact h) (r x)
def Few (j n : Nat) : Prop := n * (Sz j + 2) + 3 ≤ Sz (j + 1) ∧ n ≤ 100000
instance (j n : Nat) : Decidable (Few j n) := by unfold Few; infer_instance
theorem fi_list {j : Nat} {ds : List PyData} (h : ∀ d ∈ ds, Fi j d) (hn : n = ds.length := by rfl) (hf : Few j n := by decide) : Fi (j + 1) (.list ds) := (fine_list (k := j) (m := Sz j) (n := n) h (by rw [hn]; exact Nat.le_refl _) hf.2).mono (Nat.le_refl _) hf.1
theorem fi_tuple {j : Nat} {ds : List PyData} (h : ∀ d ∈ ds, Fi j d) (hn : n = ds.length := by rfl) (hf : Few j n := by decide) : Fi (j + 1) (.tuple ds) := (fine_tuple (k := j) (m := Sz j) (n := n) h (by rw [hn]; exact Nat.le_refl _) hf.2).mono (Nat.le_refl _) hf.1
theorem fi_ne {j : Nat} {d : PyData} (h : Fi j d) : (!PyData.eqv d d) = false := by
  rw [PySem.SeqAt.eqv_refl _ h.lay]; rfl
theorem fi_eq {j : Nat} {d : PyData} (h : Fi j d) : PyData.eqv d d = true := PySem.SeqAt.eqv_refl _ h.lay
/-! ### arguments by name, in another order -/
def pm10 {α : Type} : List α → List α
  | [a, b] => [b, a]
  | l => l
theorem rel_pm10 {zs : List V} {ws : List Value} (_ : zs.length = 2) (r : Vals zs ws) : Vals (pm10 zs) (pm10 ws) := by
  match zs, ws, r with
  | [], _, .nil => exact .nil
  | [_], _, .cons h .nil => exact .cons h .nil
  | [_, _], _, .cons h1 (.cons h2 .nil) => exact .cons h2 (.cons h1 .nil)
  | _ :: _ :: _ :: _, _, .cons h1 (.cons h2 (.cons h3 r)) => exact .cons h1 (.cons h2 (.cons h3 r))
def pm0 {α : Type} (l : List α) : List α := l
theorem rel_pm0 {zs : List V} {ws : List Value} (_ : zs.length = 1) (r : Vals zs ws) : Vals (pm0 zs) (pm0 ws) := r
end Pc
namespace Pc
open PySem PySem.Spec PyProof.Rows L2 RZ
theorem calls_app {n : Nat} {qs rs : List (Nat × Nat)} (h : Calls n qs) (g : Calls n rs) : Calls n (qs ++ rs) := fun q hq => (List.mem_append.mp hq).elim (h q) (g q)
end Pc
namespace Pc
open PySem PySem.Spec PyProof.Rows L2 RZ
/-- the slots, written out -/
theorem st_eq {t : TS} {D : L2.Ends} {σ : L2.St} {H : Hp} (σ' : L2.St) (h : t D σ' H) (e : σ = σ') : t D σ H := by rw [e]; exact h
end Pc
namespace Pc
open PySem PySem.Spec PyProof.Rows L2 RZ
theorem st_set {i : Nat} {v : V} {σ : L2.St} {H : Hp} {Q : L2.St → Hp → Prop} (σ' : L2.St) (h : Q σ' H) (e : σ.set i (some v) = σ') : gName i v σ H Q := by
  unfold gName
  rw [e]; exact h
end Pc
namespace Pc
open PySem PySem.Spec PyProof.Rows L2 RZ
theorem fi_same {x y : V} (e : x = y) : (!decide (x = y)) = false := by rw [decide_eq_true e]; rfl
theorem fi_is {x y : V} (e : x = y) : decide (x = y) = true := decide_eq_true e
end Pc
namespace Pc
open PySem PySem.Spec PyProof.Rows L2 RZ
theorem st_kept {D : L2.Ends} {i : Nat} {a C d : Addr} {σ1 : L2.St} {H : Hp} (σ' : L2.St) (h : D.nx σ' (upd H a (exk a (.ref C) (some d)))) (e : σ1.set i none = σ') :
    ({ nx := fun σ'' H'' => D.nx (σ''.set i none) (upd H'' a (exk a (.ref C) (some d))), rt := fun _ _ => False } : L2.Ends).nx σ1 H := by
  show D.nx (σ1.set i none) _
  rw [e]; exact h
end Pc
namespace Pc
open PySem PySem.Spec PyProof.Rows L2 RZ
theorem st_setH {i : Nat} {v : V} {σ : L2.St} {H : Hp} {Q : L2.St → Hp → Prop} (σ' : L2.St) (H' : Hp) (h : Q σ' H') (e : σ.set i (some v) = σ') (eh : H = H') : gName i v σ H Q := by
  unfold gName
  rw [e, eh]; exact h
end Pc
namespace Pc
open PySem PySem.Spec PyProof.Rows L2 RZ
/-! ### one of some defs, called -/
def FOk (X : Cx) (CX : CXT) (f : Addr) (sp : Sp) : Prop := ∃ (k : Nat) (fd : FuncData) (ps : List Str), FnOk X.prog X.w X.K X.mg X.base CX k f fd ps sp ∧ Room k X.A ∧ PySem.W.keepIn X.K (.ref f) = true ∧ Binds X.K fd ps []
def tCallF (cs : List (Addr × Sp)) (E : L2.St → XK) (tf : TE) (t : TA) : TE := fun σ H Q => tf σ H fun v H1 => ∃ (f : Addr) (sp : Sp), (f, sp) ∈ cs ∧ v = .ref f ∧ t σ H1 fun vs H2 => sp vs H2 Q (E σ)
theorem fall_nil {X : Cx} {CX : CXT} : ∀ c ∈ ([] : List (Addr × Sp)), FOk X CX c.1 c.2 := fun _ h => absurd h List.not_mem_nil
theorem fall_cons {X : Cx} {CX : CXT} {f : Addr} {sp : Sp} {cs : List (Addr × Sp)} (h : FOk X CX f sp) (r : ∀ c ∈ cs, FOk X CX c.1 c.2) : ∀ c ∈ (f, sp) :: cs, FOk X CX c.1 c.2 := fun c hc => (List.mem_cons.mp hc).elim (fun e => by rw [e]; exact h) (r c)
theorem pe_callF {X : Cx} {CX : CXT} {cs : List (Addr × Sp)} {E : L2.St → XK} {fe e : Expr} {es : List Expr} {tf : TE} {t : TA} {pos : Pos} (hall : ∀ c ∈ cs, FOk X CX c.1 c.2) (hx : ∀ σ, PassesAt CX X σ (E σ)) (hf : PE X fe tf) (ha : PA X (e :: es) t)
    (ht : eval (.Call fe (e :: es) [] pos) X.env = (do callWith pos (← eval fe X.env) [] (backTo pos (starEach (e :: es) X.env)) (backToKw pos (keywordEach [] X.env))) := by rfl)
    (he : starEach (e :: es) X.env = (false, eval e X.env) :: starEach es X.env := by rfl) (hpl : (backTo pos (starEach es X.env)).any (·.1) = false := by rfl) : PE X (.Call fe (e :: es) [] pos) (tCallF cs E tf t) := by
  refine ⟨fun pins s σ H Q I h => ?_⟩
  refine Call_ (thn (hf.run pins s σ H _ I h) fun u s1 ⟨y, H1, I1, ry, f, sp, hm, ey, q⟩ => ?_) ht
  subst ey
  obtain rfl : u = Value.ref f := ry
  obtain ⟨k, fd, ps, F, hr, hk, hb⟩ := hall _ hm
  refine PySem.W.callWith_K (h₀ := X.base) I1.ok.mod.kin hk (thn (ha.run pos pins s1 σ H1 _ I1 q) fun us s2 ⟨vs, H2, I2, r, q2⟩ => ⟨I2.kIn, ?_⟩) he hpl
  exact run_fnS F hr hb (hx σ) I2 r q2
/-- C(e, ..), the arguments never come -/
theorem pe_callN {X : Cx} {f : Addr} {x : Str} {p pos : Pos} {e : Expr} {es : List Expr} {t : TA} (hg : Gl X x) (hm : X.mg x = some (.ref f)) (hk : PySem.W.keepIn X.K (.ref f) = true) (ha : PA X (e :: es) t) (hdb : (x == ("__debug__" : Str)) = false := by decide)
    (he : starEach (e :: es) X.env = (false, eval e X.env) :: starEach es X.env := by rfl) (hpl : (backTo pos (starEach es X.env)).any (·.1) = false := by rfl) :
    PE X (.Call (.Name x p) (e :: es) [] pos) (fun σ H _ => t σ H fun _ _ => False) := by
  refine ⟨fun pins s σ H Q I h => ?_⟩
  refine wpAny_Call_Name_kw (ld_glob I hg hm ?_ hdb)
  exact PySem.W.callWith_K (h₀ := X.base) I.ok.mod.kin hk (thn (ha.run pos pins s σ H _ I h) fun us s1 ⟨vs, H1, I1, r, q⟩ => q.elim) he hpl
end Pc
namespace Pc
theorem iteY {b : Bool} {A B : Prop} (h : b = true) (a : A) : if b = true then A else B := by rw [if_pos h]; exact a
theorem iteX {b : Bool} {A B : Prop} (h : b = false) (a : B) : if b = true then A else B := by rw [h, if_neg Bool.false_ne_true]; exact a
end Pc
namespace Pc
open PySem PySem.Spec PyProof.Rows L2 RZ
open TL (tl len_tl ext_tl tl_append tl_num numL numL_lt numL_step numL_digits numL_ne numL_free numL_len int_num split_join join_eq tl_join joinL)
/-! ### texts of numbers, of calls and of words -/
def nT (n : Nat) : Str := Str.ofString (toString ((n : Nat) : Int))
def cT (p : Nat × Nat) : Str := nT p.1 ++ "-" ++ nT p.2
def wT (qs : List (Nat × Nat)) : Str := Txt.join " " (qs.map cT)
theorem tl_nT (n : Nat) : tl (nT n) = numL n := tl_num n
theorem tl_dash : tl ("-" : Str) = [45] := by decide +kernel
theorem tl_gap : tl (" " : Str) = [32] := by decide +kernel
theorem app_len (x y : Str) : (x ++ y).length = x.length + y.length := by rw [len_tl, len_tl, len_tl, tl_append, List.length_append]
theorem nil_app (x : Str) : Str.empty ++ x = x := ext_tl (by rw [tl_append]; rfl)
theorem nT_len {n : Nat} (h : n < 10 ^ 13) : (nT n).length ≤ 13 := by rw [len_tl, tl_nT]; exact numL_len (by decide) h
theorem nT_pos (n : Nat) : 1 ≤ (nT n).length := by
  rw [len_tl, tl_nT]
  exact List.length_pos_iff.mpr (numL_ne n)
theorem nT_int {n : Nat} (h : n < 10 ^ 13) : intText? (nT n) = some ((n : Nat) : Int) := int_num (by have := nT_len h; rw [len_tl, tl_nT] at this; omega)
theorem numL_head {n : Nat} : 0 < n → ∃ d r, numL n = d :: r ∧ d ≠ 48 := by
  induction n using Nat.strongRecOn with
  | _ n ih =>
    intro h0
    by_cases h : n < 10
    · exact ⟨48 + n, [], numL_lt h, by omega⟩
    · obtain ⟨d, r, e, hd⟩ := ih (n / 10) (by omega) (by omega)
      exact ⟨d, r ++ [48 + n % 10], by rw [numL_step (by omega), e]; rfl, hd⟩
/-- no zero at the head, unless it is zero itself -/
theorem nT_lead {n d : Nat} {r : List Nat} (e : numL n = d :: r) (hd : d = 48) : r = [] := by
  by_cases h : n = 0
  · subst h
    rw [numL_lt (by decide)] at e
    exact (List.cons.inj e).2.symm
  · obtain ⟨d', r', e', hd'⟩ := numL_head (n := n) (by omega)
    rw [e] at e'
    exact absurd ((List.cons.inj e').1 ▸ hd) hd'
theorem tl_cT (p : Nat × Nat) : tl (cT p) = numL p.1 ++ [45] ++ numL p.2 := by
  unfold cT; rw [tl_append, tl_append, tl_nT, tl_nT, tl_dash]
theorem cT_len {p : Nat × Nat} (h1 : p.1 < 10 ^ 13) (h2 : p.2 < 10 ^ 13) : (cT p).length ≤ 27 := by
  unfold cT
  rw [app_len, app_len]
  have := nT_len h1
  have := nT_len h2
  have : ("-" : Str).length = 1 := by decide +kernel
  omega
theorem split_cT (p : Nat × Nat) : Txt.split (cT p) "-" = [nT p.1, nT p.2] := by
  have e : cT p = Txt.join "-" [nT p.1, nT p.2] := by rw [join_eq]; rfl
  rw [e]
  refine split_join (s := 45) (S := []) tl_dash (by decide +kernel) (by simp) fun x hx => ?_
  rcases List.mem_cons.mp hx with z | z
  · rw [z, tl_nT]; exact numL_free (by decide)
  · rw [List.mem_singleton.mp z, tl_nT]; exact numL_free (by decide)
theorem split_wT {qs : List (Nat × Nat)} (h : qs ≠ []) : Txt.split (wT qs) " " = qs.map cT := by
  refine split_join (s := 32) (S := []) tl_gap (by decide +kernel) (fun e => h (List.map_eq_nil_iff.mp e)) fun x hx => ?_
  obtain ⟨p, _, rfl⟩ := List.mem_map.mp hx
  rw [tl_cT]
  intro hm
  rcases List.mem_append.mp hm with z | z
  · rcases List.mem_append.mp z with z | z
    · exact numL_free (by decide) z
    · exact absurd (List.mem_singleton.mp z) (by decide)
  · exact numL_free (by decide) z
theorem joinL_len {s : Nat} : ∀ ps : List (List Nat), (joinL [s] ps).length ≤ (ps.map (·.length)).sum + ps.length
  | [] => Nat.le_refl _
  | [p] => by show p.length ≤ p.length + 0 + 1; omega
  | p :: q :: r => by
    have := joinL_len (s := s) (q :: r)
    show (p ++ ([s] ++ joinL [s] (q :: r))).length ≤ p.length + ((q :: r).map (·.length)).sum + ((q :: r).length + 1)
    rw [List.length_append, List.length_append]
    show p.length + (1 + _) ≤ _
    omega
theorem sum_le {m : Nat} : ∀ {l : List Nat}, (∀ x ∈ l, x ≤ m) → l.sum ≤ m * l.length
  | [], _ => Nat.zero_le _
  | x :: r, h => by
    have h1 := h x List.mem_cons_self
    have h2 := sum_le (l := r) fun y hy => h y (List.mem_cons_of_mem _ hy)
    rw [List.sum_cons, List.length_cons, Nat.mul_add]
    omega
/-- numbers of at most thirteen digits -/
def Small (qs : List (Nat × Nat)) : Prop := ∀ p ∈ qs, p.1 < 10 ^ 13 ∧ p.2 < 10 ^ 13
theorem texts_len {qs : List (Nat × Nat)} (h : Small qs) : (((qs.map cT).map (·.length))).sum ≤ 27 * qs.length := by
  have := sum_le (m := 27) (l := (qs.map cT).map (·.length)) fun x hx => by
    obtain ⟨y, hy, rfl⟩ := List.mem_map.mp hx
    obtain ⟨p, hp, rfl⟩ := List.mem_map.mp hy
    exact cT_len (h p hp).1 (h p hp).2
  rw [List.length_map, List.length_map] at this
  exact this
theorem wT_len {qs : List (Nat × Nat)} (h : Small qs) : (wT qs).length ≤ 28 * qs.length := by
  have e : tl (wT qs) = joinL [32] ((qs.map cT).map tl) := by unfold wT; rw [join_eq, tl_join, tl_gap]
  have h1 := joinL_len (s := 32) ((qs.map cT).map tl)
  have h2 := texts_len h
  have h3 : ((qs.map cT).map tl).map (·.length) = (qs.map cT).map (·.length) := by
    rw [List.map_map]
    exact List.map_congr_left fun x _ => (len_tl x).symm
  rw [h3, List.length_map, List.length_map] at h1
  rw [len_tl, e]
  omega
theorem wT_dot {qs : List (Nat × Nat)} (h : qs ≠ []) : wT qs ≠ "." := fun e => by
  have h1 := split_wT h
  rw [e] at h1
  have h2 : Txt.split "." " " = [("." : Str)] := by
    have := split_join (y := (" " : Str)) (s := 32) (S := []) tl_gap (by decide +kernel) (parts := [("." : Str)]) (by simp) fun x hx => by rw [List.mem_singleton.mp hx]; decide +kernel
    rw [join_eq] at this
    exact this
  rw [h2] at h1
  obtain ⟨p, r, rfl⟩ := List.exists_cons_of_ne_nil h
  have h3 : ("." : Str) = cT p := (List.cons.inj h1).1
  have h4 : (45 : Nat) ∈ tl (cT p) := by rw [tl_cT]; simp
  rw [← h3] at h4
  exact absurd h4 (by decide +kernel)
theorem cpl_small {n : Nat} {ps : List Nat} (h : IsPair n ps) {p : Nat × Nat} (hp : p ∈ cpl ps) : p.1 < n ∧ p.2 < n := by
  unfold cpl cplN at hp
  obtain ⟨x, hx, rfl⟩ := List.mem_map.mp hp
  have hx2 := List.mem_range.mp (List.mem_filter.mp hx).1
  refine ⟨by rw [← h.len]; exact hx2, ?_⟩
  obtain ⟨y, ey⟩ := get_some (l := ps) (i := x) hx2
  show ps.getD x 0 < n
  rw [getD_of ey]
  exact h.lt y (List.mem_of_getElem? ey)
theorem cpl_mem {ps : List Nat} {p : Nat × Nat} (hp : p ∈ cpl ps) : p.1 < p.2 ∧ ps.getD p.1 0 = p.2 := by
  unfold cpl cplN at hp
  obtain ⟨x, hx, rfl⟩ := List.mem_map.mp hp
  exact ⟨of_decide_eq_true (List.mem_filter.mp hx).2, rfl⟩
theorem cpl_ascT (ps : List Nat) : (cpl ps).Pairwise (fun p q => p.1 < q.1) := by
  unfold cpl cplN
  rw [List.pairwise_map]
  exact (List.pairwise_lt_range.filter _).imp fun {a b} hab => hab
/-- an earlier couple and a later one have nobody in common -/
theorem cpl_apart {n : Nat} {ps : List Nat} (h : IsPair n ps) {p q : Nat × Nat} (hp : p ∈ cpl ps) (hq : q ∈ cpl ps) (hlt : q.1 < p.1) : q.1 ≠ p.1 ∧ q.1 ≠ p.2 ∧ q.2 ≠ p.1 ∧ q.2 ≠ p.2 := by
  obtain ⟨p1, p2⟩ := cpl_mem hp
  obtain ⟨q1, q2⟩ := cpl_mem hq
  obtain ⟨l1, l2⟩ := cpl_small h hp
  obtain ⟨m1, m2⟩ := cpl_small h hq
  obtain ⟨y, ey, _, _, hy⟩ := h.par p.1 l1
  obtain ⟨z, ez, _, _, hz⟩ := h.par q.1 m1
  rw [getD_of ey] at p2
  rw [getD_of ez] at q2
  subst p2 q2
  refine ⟨by omega, by omega, fun e => ?_, fun e => ?_⟩
  · rw [e] at hz
    rw [hz] at ey
    have := Option.some.inj ey
    omega
  · rw [e, hy] at hz
    have := Option.some.inj hz
    omega
theorem asc_take {qs : List (Nat × Nat)} (h : qs.Pairwise (fun p q => p.1 < q.1)) {i : Nat} {p q : Nat × Nat} (hp : qs[i]? = some p) (hq : q ∈ qs.take i) : q.1 < p.1 := by
  obtain ⟨j, hj, e⟩ := List.mem_iff_getElem.mp hq
  have hj2 : j < i ∧ j < qs.length := by rw [List.length_take] at hj; omega
  obtain ⟨hi, ei⟩ := List.getElem?_eq_some_iff.mp hp
  rw [List.getElem_take] at e
  rw [← e, ← ei]
  exact List.pairwise_iff_getElem.mp h j i hj2.2 hi hj2.1
theorem prs_ne {g : Addr} {H : Hp} {o : HO} (hg : ∀ xs, H g ≠ some (.tup xs)) : ∀ {as : List Addr} {qs : List (Nat × Nat)}, Prs H as qs → Prs (upd H g o) as qs
  | _, _, .nil => .nil
  | _, _, .cons h r => .cons (by rw [upd_ne (fun z => by rw [z] at h; exact hg _ h)]; exact h) (prs_ne hg r)
end Pc
namespace Pc
open PySem PySem.Spec PyProof.Rows L2 RZ
/-- a comprehension over a list or a tuple that stays as it is -/
theorem lc_seq' {K : PySem.W.Frag} {a : Addr} {xs : List V} {g : TG} {tt : TT} {te : TE} {vs : List Nat} {σ : L2.St} {H0 H1 : Hp} {Qd : Addr → Hp → Prop} (hS : Sq K H0 a xs) (s0 : Same H0 H1)
    (step : ∀ D, H1 D = none → ∃ Pv : Nat → Hp → Prop, Pv 0 (upd H1 D (.lst [])) ∧ (∀ i H', Pv i H' → Same H0 H') ∧ (∀ i x H', xs[i]? = some x → Pv i H' → g x (wipe σ vs) H' fun σ2 H2 => wipe σ2 vs = wipe σ vs ∧ tt σ2 H2 fun b H3 =>
      if b = true then te σ2 H3 fun y H4 => ∃ acc, H4 D = some (.lst acc) ∧ acc.length < sizeLine ∧ Pv (i + 1) (upd H4 D (.lst (acc ++ [y]))) else Pv (i + 1) H3) ∧ ∀ H', Pv xs.length H' → Qd D H') :
    ((∃ ys, SqL K H1 a ys) ∧ ∀ D, H1 D = none → ∃ W : Nat → Nat → Hp → Prop, (∃ m, W 0 m (upd H1 D (.lst []))) ∧ ∀ i m H, W i m H → ((Itl K a).stop i H ∧ Qd D H) ∨ ((Itl K a).go i H ∧ ∃ Nx : Hp → Prop, (∀ H', Nx H' → ∃ m', m' < m ∧ W (i + 1) m' H') ∧ ∀ x H', (Itl K a).yld i H x H' → g x (wipe σ vs) H' fun σ2 H2 => wipe σ2 vs = wipe σ vs ∧ tt σ2 H2 fun b H3 =>
        if b = true then te σ2 H3 fun y H4 => ∃ acc, H4 D = some (.lst acc) ∧ acc.length < sizeLine ∧ Nx (upd H4 D (.lst (acc ++ [y]))) else Nx H3)) ∨
    ((∃ ys, SqT K H1 a ys) ∧ ∀ D, H1 D = none → ∃ W : Nat → Nat → Hp → Prop, (∃ m, W 0 m (upd H1 D (.lst []))) ∧ ∀ i m H, W i m H → ((Itt K a).stop i H ∧ Qd D H) ∨ ((Itt K a).go i H ∧ ∃ Nx : Hp → Prop, (∀ H', Nx H' → ∃ m', m' < m ∧ W (i + 1) m' H') ∧ ∀ x H', (Itt K a).yld i H x H' → g x (wipe σ vs) H' fun σ2 H2 => wipe σ2 vs = wipe σ vs ∧ tt σ2 H2 fun b H3 =>
        if b = true then te σ2 H3 fun y H4 => ∃ acc, H4 D = some (.lst acc) ∧ acc.length < sizeLine ∧ Nx (upd H4 D (.lst (acc ++ [y]))) else Nx H3)) := by
  rcases hS with h | h
  · refine .inl ⟨⟨_, s0.seq h⟩, fun D nD => ?_⟩
    obtain ⟨Pv, h0, hst, hs, hd⟩ := step D nD
    exact lc_list Pv h0 (fun i H' _ p => (hst i H' p).seq h) hs hd
  · refine .inr ⟨⟨_, same_tup s0 h⟩, fun D nD => ?_⟩
    obtain ⟨Pv, h0, hst, hs, hd⟩ := step D nD
    exact lc_tup Pv h0 (fun i H' _ p => same_tup (hst i H' p) h) hs hd
end Pc
namespace Pc
open PySem PySem.Spec PyProof.Rows L2 RZ
open TL (tl len_tl ext_tl tl_append)
/-! ### any text, read as a number or as a call -/
def digB (c : Nat) : Bool := decide (48 ≤ c) && decide (c ≤ 57)
theorem digB_in (c : Nat) : decide (c ∈ (("0123456789" : Str)).cps.toList) = digB c := by
  have e : (("0123456789" : Str)).cps.toList = [48, 49, 50, 51, 52, 53, 54, 55, 56, 57] := by decide +kernel
  rw [e]
  unfold digB
  by_cases h : 48 ≤ c ∧ c ≤ 57
  · rw [decide_eq_true h.1, decide_eq_true h.2]
    exact decide_eq_true (by simp only [List.mem_cons, List.not_mem_nil, or_false]; omega)
  · rw [show (decide (48 ≤ c) && decide (c ≤ 57)) = false by
      rw [Bool.and_eq_false_iff, decide_eq_false_iff_not, decide_eq_false_iff_not]; omega]
    exact decide_eq_false (by simp only [List.mem_cons, List.not_mem_nil, or_false]; omega)
def zeroB : List Nat → Bool
  | 48 :: _ :: _ => true
  | _ => false
def numB (s : Str) : Bool := decide (1 ≤ s.length) && decide (s.length ≤ 13) && (tl s).all digB && !zeroB (tl s)
def txtV (s : Str) : Nat := NumText.digitsVal (tl s)
theorem numB_int {s : Str} (h1 : 1 ≤ s.length) (h2 : s.length ≤ 13) (h3 : (tl s).all digB = true) : intText? s = some ((txtV s : Nat) : Int) := by
  refine intText_digits (x := s) (fun c hc => ?_) (fun e => ?_) (by omega)
  · have := List.all_eq_true.mp h3 c hc
    unfold digB at this
    rw [Bool.and_eq_true, decide_eq_true_iff, decide_eq_true_iff] at this
    exact this
  · rw [len_tl] at h1
    have e' : tl s = [] := e
    rw [e'] at h1
    exact absurd h1 (by decide)
def numO (s : Str) : Option Nat := if numB s = true then some (txtV s) else none
def oV : Option Nat → V
  | some n => .int (n : Nat)
  | none => .non
def duoO (s : Str) : Option (Nat × Nat) :=
  match Txt.split s "-" with
  | [x, y] => if (numB x && numB y && decide (txtV x < txtV y)) = true then some (txtV x, txtV y) else none
  | _ => none
end Pc
namespace Pc
open PySem PySem.Spec PyProof.Rows L2 RZ
open TL (tl len_tl ext_tl tl_append)
theorem all_take_blX {α : Type} (f : α → Bool) {l : List α} {i : Nat} {x : α} (h : l[i]? = some x) : ((l.take (i + 1)).map f).map V.bl = ((l.take i).map f).map V.bl ++ [V.bl (f x)] := by
  rw [List.take_add_one, h, List.map_append, List.map_append]
  rfl
/-- a part of a text is no longer than the text -/
theorem spl_le (S : List Nat) : ∀ (l : List Nat) (k : Nat) (acc : List Nat), ∀ x ∈ TL.spl S k acc l, x.length ≤ acc.length + l.length
  | [], k, acc, x, hx => by
    rw [TL.spl_nil] at hx
    rw [List.mem_singleton.mp hx]
    exact Nat.le_add_right _ _
  | c :: r, 0, acc, x, hx => by
    unfold TL.spl at hx
    split at hx
    · rcases List.mem_cons.mp hx with z | z
      · rw [z]; exact Nat.le_add_right _ _
      · have := spl_le S r _ _ x z
        simp only [List.length_nil, List.length_cons] at this ⊢
        omega
    · have := spl_le S r _ _ x hx
      simp only [List.length_append, List.length_cons, List.length_nil] at this ⊢
      omega
  | c :: r, k + 1, acc, x, hx => by
    have hx' : x ∈ TL.spl S k acc r := hx
    have := spl_le S r _ _ x hx'
    simp only [List.length_cons] at this ⊢
    omega
theorem split_le (s y : Str) (hy : tl y ≠ []) (hk : y.cps.all (· < 256) = true) : ∀ x ∈ Txt.split s y, x.length ≤ s.length := fun x hx => by
  have e := TL.split_spl s y hy (TL.kind_ok hk)
  have h1 : tl x ∈ (Txt.split s y).map tl := List.mem_map_of_mem hx
  rw [e] at h1
  have := spl_le _ _ _ _ _ h1
  rw [len_tl, len_tl]
  simpa using this
theorem spl_many (S : List Nat) : ∀ (l : List Nat) (k : Nat) (acc : List Nat), (TL.spl S k acc l).length ≤ l.length + 1
  | [], k, acc => by rw [TL.spl_nil]; exact Nat.le_refl _
  | c :: r, 0, acc => by
    unfold TL.spl
    split
    · have := spl_many S r (S.length - 1) []
      simp only [List.length_cons]; omega
    · have := spl_many S r 0 (acc ++ [c])
      simp only [List.length_cons]; omega
  | c :: r, k + 1, acc => by
    show (TL.spl S k acc r).length ≤ _
    have := spl_many S r k acc
    simp only [List.length_cons]; omega
theorem split_many (s y : Str) (hy : tl y ≠ []) (hk : y.cps.all (· < 256) = true) : (Txt.split s y).length ≤ s.length + 1 := by
  have e := congrArg List.length (TL.split_spl s y hy (TL.kind_ok hk))
  rw [List.length_map] at e
  rw [e, len_tl]
  exact spl_many _ _ _ _
end Pc
namespace Pc
open PySem PySem.Spec PyProof.Rows L2 RZ
open TL (tl len_tl ext_tl tl_append tl_num numL numL_lt numL_step numL_digits numL_ne numL_free numL_len int_num split_join join_eq tl_join joinL)
section
variable {P : Program} {w : World} {K : PySem.W.Frag} {mg : Str → Option Value} {base : Heap}
/-! ### any text, read as a number -/
def spNumInG : Sp := fun vs H Q _ => ∃ s : Str, vs = [.str s] ∧ s.length ≤ 10000 ∧ ∀ H', Same H H' → Q (oV (numO s)) H'
theorem ok_p_number_inG (T : Env K mg) : FnOk P w K mg base CX0 1 T.f_p_number_in T.d_p_number_in ["text"] spNumInG := by

  refine T.F_p_number_in.ok sc_p_number_in (fun vs H Q E h => ?_) (fun cdv A outer s H vs Q E hr h => ?_)
  · obtain ⟨s, rfl, _⟩ := h
    rfl
  · obtain ⟨s, rfl, hs, q⟩ := h

    refine ⟨_, pss_cons (ps_if (pt_not (pt_chain op_le op_le pe_int (pe_callB call_len_str (by rfl) T.n_len PySem.boot_len (pa_cons (pv 0) pa_nil)) (pe_glob (v := .int 13) (by rfl) T.k_MOST_DIGITS ⟨_, rfl⟩))) (pss_one (ps_ret pe_non)) pss_nil) <|
      pss_cons (ps_if (pt_not (pt_val (pe_callB (cr_all rfl) (by rfl) T.n_all (by decide +kernel) (pa_cons (pe_lc (own := [("sign", 1)]) (g := gName 1) (tt := tYes) (te := tOp (fun x y H Q => ∃ (c : Nat) (z : Str), x = .str ⟨#[c]⟩ ∧ y = .str z ∧ Q (.bl (decide (c ∈ z.cps.toList))) H) (tVar 1) (tC (.str "0123456789"))) rfl sc_p_number_in.nd (pi_str (pv 0)) (blkOk_by (N := N_p_number_in) (sc := (defScope s_p_number_in)) (by decide +kernel)) (fun _ _ _ _ _ => (pg_name (i := 1) sc_p_number_in.nd rfl (.inl rfl))) (fun _ _ _ _ _ => pts_nil) (fun _ _ _ _ _ => (pe_cmpR op_in_sign (pv 1) (pe_glob (v := .str "0123456789") (by rfl) T.k_DIGITS ⟨_, rfl⟩) (by rfl)))) pa_nil)))) (pss_one (ps_ret pe_non)) pss_nil) <|
      pss_cons (ps_if (PW.pt (pw_and (pt_cmpR op_eq (pe_ix ix_str (pv 0) pe_int (fun _ _ => rfl)) pe_str (nomark _)) (pw_and1 (pt_cmpR op_gt (pe_callB call_len_str (by rfl) T.n_len PySem.boot_len (pa_cons (pv 0) pa_nil)) pe_int (nomark _))))) (pss_one (ps_ret pe_non)) pss_nil) <|
      pss_one (ps_ret (pe_callTy call_int_str (by rfl) T.n_int (by decide +kernel) (pa_cons (pv 0) pa_nil))), ?_⟩
    have lz : s.length ≤ sizeLine := Nat.le_of_lt (line_big (by omega))
    have no : ∀ {H' : Hp}, Same H H' → numB s = false → Q .non H' := fun {H'} sm e => by
      have := q H' sm
      unfold numO at this
      rw [if_neg (by rw [e]; decide)] at this
      exact this
    have e0 : numB s = (decide (1 ≤ s.length) && decide (s.length ≤ 13) && (tl s).all digB && !zeroB (tl s)) := rfl
    refine ⟨_, rfl, _, rfl, lz, _, _, rfl, rfl, _, rfl, ite2 (fun c1 => ?_) (fun c1 => ?_)⟩
    · have h1 : 1 ≤ s.length := by have := of_decide_eq_true c1; omega
      refine ⟨_, _, rfl, rfl, _, rfl, ite2 (fun c2 => ?_) (fun c2 => ?_)⟩
      · refine no (fun _ _ z => z) ?_
        have h2 : ¬ s.length ≤ 13 := fun z => by
          have c2' : (!decide ((s.length : Int) ≤ 13)) = true := c2
          rw [decide_eq_true (by omega)] at c2'
          exact absurd c2' (by decide)
        rw [e0, decide_eq_false h2, Bool.and_false, Bool.false_and, Bool.false_and]
      have h2 : s.length ≤ 13 := by
        by_cases z : s.length ≤ 13
        · exact z
        · refine absurd ?_ c2
          show (!decide ((s.length : Int) ≤ 13)) = true
          rw [decide_eq_false (by omega)]; rfl
      refine ⟨_, rfl, _, rfl, fun D nD => ?_⟩
      refine lc_it (walk_str (z := s)) (fun i H' => Same H H' ∧ H' D = some (.lst ((((tl s).take i).map digB).map V.bl))) ⟨same_new nD, upd_same⟩ (fun i H' _ h => trivial) (fun i x H1 H2 hi h y => ?_) (fun H' h => ?_)
      · obtain ⟨sm, eD⟩ := h
        obtain ⟨rfl, c, ec, rfl⟩ := y
        have ec2 : (tl s)[i]? = some c := by
          show s.cps.toList[i]? = some c
          rw [Array.getElem?_toList]; exact ec
        refine ⟨rfl, yes_if ⟨_, rfl, c, _, rfl, rfl, _, eD, ?_, fun z o hz => by rw [upd_ne (ne_of_none hz nD)]; exact sm _ _ hz, ?_⟩⟩
        · rw [List.length_map, List.length_map, List.length_take]; exact small1000 (by have := len_tl s; omega)
        · rw [upd_same, all_take_blX digB ec2, digB_in]
      · obtain ⟨sm, eD⟩ := h
        have hsz : s.cps.size = (tl s).length := by show _ = s.cps.toList.length; rw [Array.length_toList]
        rw [hsz, List.take_length] at eD
        refine ⟨D, (tl s).map digB, rfl, .inl (.inl eD), ?_⟩
        rw [List.all_map]
        refine ⟨_, rfl, ite2 (fun c3 => ?_) (fun c3 => ?_)⟩
        · refine no sm ?_
          have c3' : (!((tl s).all digB)) = true := c3
          have h3 : (tl s).all digB = false := by
            cases e : (tl s).all digB with
            | false => rfl
            | true => rw [e] at c3'; exact absurd c3' (by decide)
          rw [e0, h3, Bool.and_false, Bool.false_and]
        have h3 : (tl s).all digB = true := by
          cases e : (tl s).all digB with
          | true => rfl
          | false => exact absurd (show (!((tl s).all digB)) = true by rw [e]; rfl) c3
        have yes : zeroB (tl s) = false → Q (.int ((txtV s : Nat) : Int)) H' := fun e4 => by
          have := q H' sm
          have e5 : numB s = true := by rw [e0, decide_eq_true h1, decide_eq_true h2, h3, e4]; rfl
          unfold numO at this
          rw [if_pos e5] at this
          exact this
        obtain ⟨d, r, e⟩ : ∃ d r, tl s = d :: r := by
          cases e : tl s with
          | nil => rw [len_tl, e] at h1; exact absurd h1 (by decide)
          | cons d r => exact ⟨d, r, rfl⟩
        have e2 : s.cps.toList = d :: r := e
        refine ⟨_, rfl, _, 0, d, rfl, rfl, lz, by rw [e2]; exact atI_nat (j := 0) rfl, rfl, _, rfl, ite2 (fun g => ?_) (fun g => ?_)⟩
        · have hd : d = 48 := by
            have g1 := of_decide_eq_true g
            have g2 : (⟨#[d]⟩ : Str) = ("0" : Str) := V.str.inj g1
            have g3 : tl (⟨#[d]⟩ : Str) = tl ("0" : Str) := by rw [g2]
            rw [show tl ("0" : Str) = [48] by decide +kernel] at g3
            exact (List.cons.inj g3).1
          refine ⟨_, rfl, _, rfl, lz, _, _, rfl, rfl, _, rfl, ite2 (fun c4 => ?_) (fun c4 => ?_)⟩
          · have h4 : 1 < s.length := by have := of_decide_eq_true c4; omega
            refine no sm ?_
            have e4 : zeroB (tl s) = true := by
              rw [len_tl, e] at h4
              cases r with
              | nil => simp at h4
              | cons x r => rw [e, hd]; rfl
            rw [e0, e4, Bool.not_true, Bool.and_false]
          · refine ⟨_, rfl, _, _, rfl, numB_int h1 h2 h3, by omega, yes ?_⟩
            have h4 : ¬ 1 < s.length := fun z => c4 (decide_eq_true (by omega))
            rw [len_tl, e] at h4
            cases r with
            | nil => rw [e, hd]; rfl
            | cons x r => simp only [List.length_cons] at h4; omega
        · refine ⟨_, rfl, _, _, rfl, numB_int h1 h2 h3, by omega, yes ?_⟩
          have hd : d ≠ 48 := fun z => by
            refine g (decide_eq_true ?_)
            show V.str (⟨#[d]⟩ : Str) = V.str "0"
            rw [z]
            exact congrArg V.str (by decide +kernel)
          rw [e]
          unfold zeroB
          split
          · rename_i h; exact absurd (List.cons.inj h).1 hd
          · rfl
    · refine ⟨_, rfl, iteY rfl (no (fun _ _ z => z) ?_)⟩
      have h1 : ¬ 1 ≤ s.length := fun z => c1 (decide_eq_true (by omega))
      rw [e0, decide_eq_false h1, Bool.false_and, Bool.false_and, Bool.false_and]
end
end Pc
namespace Pc
open PySem PySem.Spec PyProof.Rows L2 RZ
open TL (tl len_tl ext_tl tl_append tl_num numL numL_lt numL_step numL_digits numL_ne numL_free numL_len int_num split_join join_eq tl_join joinL)
section
variable {P : Program} {w : World} {K : PySem.W.Frag} {mg : Str → Option Value} {base : Heap}
/-! ### any text, read as a call -/
def spCallInG : Sp := fun vs H Q _ => ∃ s : Str, vs = [.str s] ∧ s.length ≤ 10000 ∧ (duoO s = none → ∀ H', Same H H' → Q .non H') ∧ ∀ p, duoO s = some p → ∀ (H' : Hp) (t : Addr), Same H H' → H t = none → H' t = some (.tup [.int (p.1 : Nat), .int (p.2 : Nat)]) → Q (.ref t) H'
theorem ok_p_call_inG (T : Env K mg) : FnOk P w K mg base CX0 2 T.f_p_call_in T.d_p_call_in ["text"] spCallInG := by
  have GN : FnOk P w K mg base CX0 1 T.f_p_number_in T.d_p_number_in ["text"] spNumInG := ok_p_number_inG T
  refine T.F_p_call_in.ok sc_p_call_in (fun vs H Q E h => ?_) (fun cdv A outer s H vs Q E hr h => ?_)
  · obtain ⟨s, rfl, _⟩ := h
    rfl
  · obtain ⟨s, rfl, hs, q0, q⟩ := h

    refine ⟨_, pss_cons (ps_set (i := 1) sc_p_call_in.nd rfl (.inl rfl) (pe_split (pv 0) pe_str)) <|
      pss_cons (ps_if (pt_cmpR op_ne (pe_callB call_len_seq (by rfl) T.n_len PySem.boot_len (pa_cons (pv 1) pa_nil)) pe_int (nomark _)) (pss_one (ps_ret pe_non)) pss_nil) <|
      pss_cons (ps_set (i := 2) sc_p_call_in.nd rfl (.inl rfl) (pe_call GN hr (by rfl) T.g_p_number_in T.F_p_number_in.kp T.b_p_number_in .nil pass0 (pa_cons (pe_ix ix_list (pv 1) pe_int (fun _ _ => rfl)) pa_nil))) <|
      pss_cons (ps_set (i := 3) sc_p_call_in.nd rfl (.inl rfl) (pe_call GN hr (by rfl) T.g_p_number_in T.F_p_number_in.kp T.b_p_number_in .nil pass0 (pa_cons (pe_ix ix_list (pv 1) pe_int (fun _ _ => rfl)) pa_nil))) <|
      pss_cons (ps_if (PW.pt (pw_or (pt_cmpR op_isN (pv 2) pe_non (nomark _)) (pw_or (pt_cmpR op_isN (pv 3) pe_non (nomark _)) (pw_or1 (pt_cmpR op_ge (pv 2) (pv 3) (nomark _)))))) (pss_one (ps_ret pe_non)) pss_nil) <|
      pss_one (ps_ret (pe_tup (pa_cons (pv 2) (pa_cons (pv 3) pa_nil)))), ?_⟩
    have lparts : ∀ x ∈ Txt.split s "-", x.length ≤ 10000 := fun x hx => by
      have := split_le s "-" (by rw [tl_dash]; simp) (by decide +kernel) x hx
      omega
    refine ⟨_, rfl, ⟨_, rfl⟩, _, _, rfl, rfl, by decide +kernel, by show _ + 2 ≤ sizeLine; exact Nat.le_of_lt (line_big (by omega)), fun l nl => ?_⟩
    have ed : duoO s = (match Txt.split s "-" with | [x, y] => if (numB x && numB y && decide (txtV x < txtV y)) = true then some (txtV x, txtV y) else none | _ => none) := rfl
    revert lparts ed
    generalize Txt.split s "-" = xs
    intro lparts ed
    have s1 := same_new (o := .lst (xs.map V.str)) nl
    have e1 : (upd H l (.lst (xs.map V.str))) l = some (.lst (xs.map V.str)) := upd_same
    revert s1 e1
    generalize upd H l (.lst (xs.map V.str)) = H1
    intro s1 e1
    have no : ∀ {H' : Hp}, Same H H' → duoO s = none → Q .non H' := fun {H'} sm e => q0 e H' sm
    refine ⟨_, rfl, l, _, rfl, .inl (.inl (.inl e1)), rfl, _, rfl, ite2 (fun g => ?_) (fun g => ?_)⟩
    · refine no s1 ?_
      have g' : (!decide (V.int ((xs.map V.str).length : Int) = V.int 2)) = true := g
      rw [List.length_map] at g'
      rw [ed]
      match xs, g' with
      | [], _ => rfl
      | [_], _ => rfl
      | [_, _], g' => simp at g'
      | _ :: _ :: _ :: _, _ => rfl
    obtain ⟨x, y, rfl⟩ : ∃ x y, xs = [x, y] := by
      have g' : (xs.map V.str).length = 2 := by
        cases hh : decide (V.int ((xs.map V.str).length : Int) = V.int 2) with
        | true => have := V.int.inj (of_decide_eq_true hh); omega
        | false => exact absurd (show (!decide (V.int ((xs.map V.str).length : Int) = V.int 2)) = true by rw [hh]; rfl) g
      rw [List.length_map] at g'
      match xs, g' with
      | [x, y], _ => exact ⟨x, y, rfl⟩
    have ed2 : duoO s = if (numB x && numB y && decide (txtV x < txtV y)) = true then some (txtV x, txtV y) else none := ed
    refine ⟨_, rfl, l, _, 0, _, rfl, rfl, .inl (.inl e1), rfl, x, rfl, lparts x (by simp), fun H2 s2 => ?_⟩
    refine ⟨_, rfl, l, _, 1, _, rfl, rfl, .inl (.inl (s2 _ _ e1)), rfl, y, rfl, lparts y (by simp), fun H3 s3 => ?_⟩
    have s13 := s1.trans (s2.trans s3)
    have isN : ∀ z : Str, decide (oV (numO z) = V.non) = !numB z := fun z => by
      unfold numO
      cases e : numB z with
      | true => rfl
      | false => rfl
    refine ⟨_, rfl, rfl, _, rfl, ite2 (fun g1 => ?_) (fun g1 => ?_)⟩
    · refine no s13 ?_
      rw [isN] at g1
      have : numB x = false := by
        cases e : numB x with
        | false => rfl
        | true => rw [e] at g1; exact absurd g1 (by decide)
      rw [ed2, this]; rfl
    have b1 : numB x = true := by
      cases e : numB x with
      | true => rfl
      | false => exact absurd (by rw [isN, e]; rfl) g1
    refine ⟨_, rfl, rfl, _, rfl, ite2 (fun g2 => ?_) (fun g2 => ?_)⟩
    · refine no s13 ?_
      rw [isN] at g2
      have : numB y = false := by
        cases e : numB y with
        | false => rfl
        | true => rw [e] at g2; exact absurd g2 (by decide)
      rw [ed2, b1, this]; rfl
    have b2 : numB y = true := by
      cases e : numB y with
      | true => rfl
      | false => exact absurd (by rw [isN, e]; rfl) g2
    have ex : oV (numO x) = .int ((txtV x : Nat) : Int) := by unfold numO; rw [if_pos b1]; rfl
    have ey : oV (numO y) = .int ((txtV y : Nat) : Int) := by unfold numO; rw [if_pos b2]; rfl
    rw [ex, ey]
    refine ⟨_, rfl, _, rfl, _, _, rfl, rfl, _, rfl, ite2 (fun g3 => ?_) (fun g3 => ?_)⟩
    · refine no s13 ?_
      have : ¬ txtV x < txtV y := by have := of_decide_eq_true g3; omega
      rw [ed2, b1, b2, decide_eq_false this]; rfl
    have hlt : txtV x < txtV y := by
      by_cases z : txtV x < txtV y
      · exact z
      · exact absurd (decide_eq_true (by omega)) g3
    refine ⟨_, rfl, _, rfl, by show 2 ≤ sizeLine; decide, fun t nt => ?_⟩
    have n0 : H t = none := s13.free nt
    exact q (txtV x, txtV y) (by rw [ed2, b1, b2, decide_eq_true hlt]; rfl) _ t (s13.trans (same_new nt)) n0 upd_same
end
end Pc
namespace Pc
open PySem PySem.Spec PyProof.Rows L2 RZ
open TL (tl len_tl ext_tl tl_append)
/-! ### a text read word by word: where it goes wrong, or what it says -/
def badB (n : Nat) (qs : List (Nat × Nat)) (p : Nat × Nat) : Bool :=
  decide (2 * n ≤ p.2) || (qs.any (fun q => decide (q.1 = p.1) || decide (q.2 = p.1)) || qs.any (fun q => decide (q.1 = p.2) || decide (q.2 = p.2))) ||
    (match qs.getLast? with
     | none => false
     | some r => HT.lexLt [(p.1 : Int), (p.2 : Int)] [(r.1 : Int), (r.2 : Int)])
def scan (k n : Nat) : List Str → Nat → List (Nat × Nat) → Sum Nat (List (Nat × Nat))
  | [], _, qs => .inr qs
  | w :: r, i, qs => match duoO w with
    | none => .inl i
    | some p => if (decide (k = 0) && badB n qs p) = true then .inl i else scan k n r (i + 1) (qs ++ [p])
theorem scan_end {k n i : Nat} {qs : List (Nat × Nat)} : scan k n [] i qs = .inr qs := rfl
theorem scan_none {k n i : Nat} {qs : List (Nat × Nat)} {w : Str} {r : List Str} (h : duoO w = none) : scan k n (w :: r) i qs = .inl i := by
  unfold scan; rw [h]
theorem scan_some {k n i : Nat} {qs : List (Nat × Nat)} {w : Str} {r : List Str} {p : Nat × Nat} (h : duoO w = some p) : scan k n (w :: r) i qs = if (decide (k = 0) && badB n qs p) = true then .inl i else scan k n r (i + 1) (qs ++ [p]) := by
  conv => lhs; unfold scan
  rw [h]
theorem drop_at {α : Type} {l : List α} {i : Nat} {x : α} (h : l[i]? = some x) : l.drop i = x :: l.drop (i + 1) := by
  obtain ⟨hi, e⟩ := List.getElem?_eq_some_iff.mp h
  rw [List.drop_eq_getElem_cons hi, e]
theorem numB_num {s : Str} (h : numB s = true) : intText? s = some ((txtV s : Nat) : Int) ∧ s.length ≤ 13 := by
  have e0 : numB s = (decide (1 ≤ s.length) && decide (s.length ≤ 13) && (tl s).all digB && !zeroB (tl s)) := rfl
  rw [e0, Bool.and_eq_true, Bool.and_eq_true, Bool.and_eq_true, decide_eq_true_iff, decide_eq_true_iff] at h
  exact ⟨numB_int h.1.1.1 h.1.1.2 h.1.2, h.1.1.2⟩
theorem duo_lt {s : Str} {p : Nat × Nat} (h : duoO s = some p) : p.1 < p.2 := by
  unfold duoO at h
  split at h
  · split at h
    · rename_i x y _ c
      rw [Bool.and_eq_true, decide_eq_true_iff] at c
      rw [← Option.some.inj h]
      exact c.2
    · cases h
  · cases h
/-- the couples written into a row -/
def rowOf (qs : List (Nat × Nat)) (fs : List Nat) : List Nat := qs.foldl (fun fs p => (fs.set p.1 p.2).set p.2 p.1) fs
theorem rowOf_len : ∀ (qs : List (Nat × Nat)) (fs : List Nat), (rowOf qs fs).length = fs.length
  | [], _ => rfl
  | p :: r, fs => by
    show (rowOf r ((fs.set p.1 p.2).set p.2 p.1)).length = _
    rw [rowOf_len r, List.length_set, List.length_set]
theorem rowOf_snoc (qs : List (Nat × Nat)) (p : Nat × Nat) (fs : List Nat) : rowOf (qs ++ [p]) fs = ((rowOf qs fs).set p.1 p.2).set p.2 p.1 := by
  unfold rowOf
  rw [List.foldl_append]; rfl
section
variable {P : Program} {w : World} {K : PySem.W.Frag} {mg : Str → Option Value} {base : Heap}
def spPairRow (K : PySem.W.Frag) : Sp := fun vs H Q _ => ∃ (a : Addr) (as : List Addr) (qs : List (Nat × Nat)), vs = [.ref a] ∧ H a = some (.lst (as.map V.ref)) ∧ Prs H as qs ∧ (∀ p ∈ qs, p.1 < 2 * qs.length ∧ p.2 < 2 * qs.length) ∧ qs.length ≤ 20000 ∧
  ∀ (H' : Hp) (t : Addr), Same H H' → H t = none → H' t = some (.tup (nv (rowOf qs (List.replicate (2 * qs.length) 0)))) → Q (.ref t) H'
theorem ok_p_pairing_row (T : Env K mg) : FnOk P w K mg base CX0 1 T.f_p_pairing_of T.d_p_pairing_of ["couples"] (spPairRow K) := by
  refine T.F_p_pairing_of.ok sc_p_pairing_of (fun vs H Q E h => ?_) (fun cdv A outer s H vs Q E hr h => ?_)
  · obtain ⟨a, as, qs, rfl, _⟩ := h
    rfl
  · obtain ⟨a, as, qs, rfl, ha, hA, hb, hn, q⟩ := h
    refine ⟨_, pss_cons (ps_set (i := 1) sc_p_pairing_of.nd rfl (.inl rfl) (pe_op op_rep (pe_lst (pa_cons pe_int pa_nil)) (pe_op op_mul pe_int (pe_callB call_len_seq (by rfl) T.n_len PySem.boot_len (pa_cons (pv 0) pa_nil)))))
      (pss_cons (ps_for PassesOwn.never rfl (pi_list (pv 0)) (pg_tup (by rfl) (pgs_cons (pg_name (i := 2) sc_p_pairing_of.nd rfl (.inl rfl)) (pgs_cons (pg_name (i := 3) sc_p_pairing_of.nd rfl (.inl rfl)) pgs_nil)))
        (pss_cons (ps_asg (pv 3) (pg_sub (pv 1) (pv 2) set_list)) (pss_one (ps_asg (pv 2) (pg_sub (pv 1) (pv 3) set_list)))))
      (pss_one (ps_ret (pe_callTy call_tuple_of (by rfl) T.n_tuple (by decide +kernel) (pa_cons (pv 1) pa_nil))))), ?_⟩
    have hal : (as.map V.ref).length = qs.length := by rw [List.length_map]; exact hA.length
    refine ⟨by show 1 ≤ sizeLine; decide, fun e ne => ?_⟩
    have s0 := same_new (o := .lst [.int 0]) ne
    refine ⟨.ref a, rfl, a, _, rfl, .inl (.inl (.inl (s0 _ _ ha))), 2, _, rfl, rfl, .inl ⟨by decide, by decide⟩, e, _, [.int 0], rfl, rfl, upd_same, by omega, by omega, ?_, fun f nf => ?_⟩
    · show 1 * Int.toNat (2 * ((as.map V.ref).length : Int)) ≤ sizeLine
      exact Nat.le_of_lt (line_big (by omega))
    have e0 : (List.replicate (2 * ((as.map V.ref).length : Int)).toNat [V.int 0]).flatten = nv (List.replicate (2 * qs.length) 0) := by
      rw [rep_flat, show (2 * ((as.map V.ref).length : Int)).toNat = 2 * qs.length by omega]
      unfold nv
      rw [List.map_replicate]; rfl
    have nf0 : H f = none := s0.free nf
    have s1 := s0.trans (same_new (o := .lst (List.replicate (2 * ((as.map V.ref).length : Int)).toNat [V.int 0]).flatten) nf)
    have ef : (upd (upd H e (.lst [.int 0])) f (.lst (List.replicate (2 * ((as.map V.ref).length : Int)).toNat [V.int 0]).flatten)) f = some (.lst (nv (List.replicate (2 * qs.length) 0))) := by rw [upd_same, e0]
    revert s1 ef
    generalize upd (upd H e (.lst [.int 0])) f (.lst (List.replicate (2 * ((as.map V.ref).length : Int)).toNat [V.int 0]).flatten) = H1
    intro s1 ef
    refine ⟨.ref a, rfl, a, rfl, ⟨_, .inl (.inl (s1 _ _ ha))⟩, for_list (xs := as.map V.ref) (fun i σ H' => Same H H' ∧ ∃ y2 y3 : Option V, σ = [some (.ref a), some (.ref f), y2, y3] ∧ H' f = some (.lst (nv (rowOf (qs.take i) (List.replicate (2 * qs.length) 0))))) ⟨s1, none, none, rfl, ef⟩ (fun i σ H' _ h => .inl (.inl (h.1 _ _ ha))) (fun i x σ H2 hx h => ?_) (fun σ H2 h => ?_)⟩
    · obtain ⟨sm, y2, y3, rfl, ef2⟩ := h
      rw [List.getElem?_map] at hx
      obtain ⟨u, eu, rfl⟩ := Option.map_eq_some_iff.mp hx
      obtain ⟨p, ep, hu⟩ := prs_get (prs_same sm hA) eu
      obtain ⟨l1, l2⟩ := hb p (List.mem_of_getElem? ep)
      have hl : (nv (rowOf (qs.take i) (List.replicate (2 * qs.length) 0))).length = 2 * qs.length := by rw [nv_length, rowOf_len, List.length_replicate]
      refine ⟨u, _, rfl, .inl (.inl hu), rfl, _, _, rfl, _, _, rfl, rfl, _, rfl, _, rfl, _, rfl, f, _, _, p.1, rfl, rfl, ef2, ixN_nat (by omega), _, rfl, _, rfl, _, rfl, f, _, _, p.2, rfl, rfl, upd_same, ?_, fun b o hb => ?_, _, _, rfl, ?_⟩
      · rw [List.length_set]; exact ixN_nat (by omega)
      · rw [upd_ne (ne_of_none hb nf0), upd_ne (ne_of_none hb nf0)]; exact sm _ _ hb
      · rw [upd_same, List.take_add_one, ep, nv_set, nv_set]
        show _ = some (HO.lst (nv (rowOf (qs.take i ++ [p]) _)))
        rw [rowOf_snoc]
    · obtain ⟨sm, y2, y3, rfl, ef2⟩ := h
      rw [hal, List.take_length] at ef2
      exact ⟨_, rfl, f, _, rfl, .inl ⟨.inl (.inl ef2), fun l nl => q _ l (sm.trans (same_new nl)) (sm.free nl) upd_same⟩⟩
end
end Pc
namespace Pc
open PySem PySem.Spec PyProof.Rows L2 RZ
open TL (tl len_tl ext_tl tl_append tl_num numL numL_lt numL_step numL_digits numL_ne numL_free numL_len int_num split_join join_eq tl_join joinL)
section
variable {P : Program} {w : World} {K : PySem.W.Frag} {mg : Str → Option Value} {base : Heap}
/-! ### any text, read as a word -/
def spWordInG (C : Addr) : Sp := fun vs H Q E => ∃ s : Str, vs = [.str s] ∧ s.length ≤ 10000 ∧ (s = "." → ∀ (H' : Hp) (l : Addr), Same H H' → H l = none → H' l = some (.lst []) → Q (.ref l) H') ∧
  (s ≠ "." → ∀ (qs : List (Nat × Nat)), scan 1 (Txt.split s " ").length (Txt.split s " ") 0 [] = .inr qs → ∀ (H' : Hp) (l : Addr) (as : List Addr), Same H H' → H l = none → H' l = some (.lst (as.map V.ref)) → Prs H' as qs → Q (.ref l) H') ∧
  (s ≠ "." → ∀ i : Nat, scan 1 (Txt.split s " ").length (Txt.split s " ") 0 [] = .inl i → Flies C "at" (.int (i : Nat)) H E)
theorem okx_p_word_in (T : Env K mg) : FnOk P w K mg base (L2.CX P w) 4 T.f_p_word_in T.d_p_word_in ["text"] (spWordInG T.C_BadText) := by
  have GC : FnOk P w K mg base CX0 2 T.f_p_call_in T.d_p_call_in ["text"] spCallInG := ok_p_call_inG T
  refine T.F_p_word_in.okX sc_p_word_in (fun vs H Q E h => ?_) (fun cdv A outer s H vs Q E hr h => ?_)
  · obtain ⟨s, rfl, _⟩ := h
    rfl
  · obtain ⟨s, rfl, hs, qd, qg, qb⟩ := h
    have h2 := hr.mono (show 2 ≤ 3 by decide)
    refine ⟨_, pss_cons (ps_if (pt_cmpR op_eq (pv 0) pe_str (nomark _)) (pss_one (ps_ret (pe_lst pa_nil))) pss_nil) <|
      pss_cons (ps_set (i := 1) sc_p_word_in.nd rfl (.inl rfl) (pe_lst pa_nil)) <|
      pss_cons (ps_for (passes_of rfl) rfl (pi_enum (by rfl) T.n_enumerate (pa_cons (pe_split (pv 0) pe_str) pa_nil)) (pg_tup (by rfl) (pgs_cons (pg_name (i := 2) sc_p_word_in.nd rfl (.inl rfl)) (pgs_cons (pg_name (i := 3) sc_p_word_in.nd rfl (.inl rfl)) (pgs_nil))))
        (pss_cons (ps_set (i := 4) sc_p_word_in.nd rfl (.inl rfl) (pe_call GC h2 (by rfl) T.g_p_call_in T.F_p_call_in.kp T.b_p_call_in .nil pass0 (pa_cons (pv 3) pa_nil))) <|
      pss_cons (ps_if (pt_cmpR op_isN (pv 4) pe_non (nomark _)) (pss_one (ps_raise rfl (takes_of rfl rfl rfl rfl) (pmk_e T.own_BadText bsV.fb T.iC_BadText T.tI_BadText (ok_i_BadText T) h2 T.b_i_BadText pass0 (by rfl) T.gC_BadText (pa_cons (pv 2) pa_nil)))) pss_nil) <|
      pss_one (ps_expr (pe_bm PySem.F.plainAttrs_list PySem.F.slot_list_append PySem.F.type_list_append mt_append (pv 1) (pa_cons (pv 4) pa_nil))))) <|
      pss_one (ps_ret (pv 1)), ?_⟩
    by_cases hd : s = "."
    · refine ⟨_, rfl, rfl, _, rfl, iteY (decide_eq_true (congrArg V.str hd)) ⟨by show 0 ≤ sizeLine; decide, fun l nl => ?_⟩⟩
      exact qd hd _ l (same_new nl) nl upd_same
    replace qg := qg hd
    replace qb := qb hd
    have lparts : ∀ x ∈ Txt.split s " ", x.length ≤ 10000 := fun x hx => by
      have := split_le s " " (by rw [tl_gap]; simp) (by decide +kernel) x hx
      omega
    have hdb : decide (V.str s = V.str ".") = false := decide_eq_false fun z => hd (V.str.inj z)
    refine ⟨_, rfl, rfl, _, rfl, iteX hdb ?_⟩
    refine ⟨by show 0 ≤ sizeLine; decide, fun f nf => ?_⟩
    have s1 := same_new (o := .lst []) nf
    refine ⟨_, rfl, ⟨_, rfl⟩, _, _, rfl, rfl, by decide +kernel, by exact Nat.le_of_lt (line_big (by omega)), fun l nl => ?_⟩
    have lws : (Txt.split s " ").length ≤ 20000 := by have := split_many s " " (by rw [tl_gap]; simp) (by decide +kernel); omega
    revert lparts lws qg qb nl
    generalize Txt.split s " " = ws
    intro qg qb lparts nl lws
    have s2 := same_new (o := .lst (ws.map V.str)) nl
    have sm0 : Same H (upd (upd H f (.lst [])) l (.lst (ws.map V.str))) := s1.trans s2
    have el : (upd (upd H f (.lst [])) l (.lst (ws.map V.str))) l = some (.lst (ws.map V.str)) := upd_same
    have ef : (upd (upd H f (.lst [])) l (.lst (ws.map V.str))) f = some (.lst []) := s2 _ _ upd_same
    have lf : l ≠ f := fun z => by rw [z, upd_same] at nl; cases nl
    revert sm0 el ef
    clear s1 s2 nl
    generalize upd (upd H f (.lst [])) l (.lst (ws.map V.str)) = H1
    intro sm0 el ef
    refine ⟨l, _, rfl, .inl (.inl el), ?_⟩
    refine for_it (walk_enum (xs := ws.map V.str)) (fun i σ H' => Same H H' ∧ H' l = some (.lst (ws.map V.str)) ∧ ∃ (y2 y3 y4 : Option V) (as : List Addr) (qs : List (Nat × Nat)), σ = [some (.str s), some (.ref f), y2, y3, y4] ∧ H' f = some (.lst (as.map V.ref)) ∧ Prs H' as qs ∧ scan 1 ws.length (ws.drop i) i qs = scan 1 ws.length ws 0 [] ∧ qs.length ≤ i)
      ⟨sm0, el, none, none, none, [], [], rfl, ef, .nil, rfl, Nat.le_refl _⟩ (fun i σ H' _ h => .inl (.inl h.2.1)) (fun i x σ H3 H4 hi h y => ?_) (fun σ H' h => ?_)
    · obtain ⟨sm, el3, y2, y3, y4, as, qs, rfl, ef3, hA, hQ, hql⟩ := h
      obtain ⟨tp, v1, v2, rfl, ntp, rfl, g1, g2⟩ := y
      have ev1 : v1 = .int (i : Nat) := (Option.some.inj g1).symm
      replace g2 := (show (List.map V.str ws)[i]? = some v2 from g2)
      rw [List.getElem?_map] at g2
      obtain ⟨u, eu, rfl⟩ := Option.map_eq_some_iff.mp g2
      subst ev1
      have hm := List.mem_of_getElem? eu
      rw [drop_at eu] at hQ
      have hil : i < ws.length := (List.getElem?_eq_some_iff.mp eu).1
      have st := same_new (o := .tup [.int (i : Nat), .str u]) ntp
      refine ⟨tp, _, rfl, .inl (.inl upd_same), rfl, _, _, rfl, _, _, rfl, rfl, ?_⟩
      refine ⟨_, rfl, u, rfl, lparts u hm, fun e0 H5 s5 => ?_, fun p e0 H5 t s5 nt et => ?_⟩
      · refine ⟨_, rfl, rfl, _, rfl, iteY rfl ⟨_, rfl, raised1 ?_⟩⟩
        exact (qb i (by rw [← hQ, scan_none e0])).same (sm.trans (st.trans s5))
      · have s35 := st.trans s5
        refine ⟨_, rfl, rfl, _, rfl, iteX rfl ?_⟩
        have ef5 := s35 _ _ ef3
        have tf : t ≠ f := fun z => by rw [z, ef5] at et; cases et
        have hAl : as.length ≤ 20000 := by rw [hA.length]; omega
        refine ⟨_, rfl, .inl ⟨rfl, _, .inl (.inl ef5)⟩, _, rfl, f, as.map V.ref, _, rfl, rfl, ef5, by rw [List.length_map]; exact line_big (by omega), ?_⟩
        refine ⟨fun y o hy => by rw [upd_ne (ne_of_none hy nf)]; exact s35 _ _ (sm _ _ hy), by rw [upd_ne lf]; exact s35 _ _ el3, _, _, _, as ++ [t], qs ++ [p], rfl, by rw [upd_same, List.map_append]; rfl, ?_, ?_, by rw [List.length_append]; show _ + 1 ≤ _; omega⟩
        · exact prs_append (prs_keep (b := f) keep_upd ef5 (prs_same s35 hA)) (.cons (by rw [upd_ne tf]; exact et) .nil)
        · rw [← hQ, scan_some e0]
          rfl
    · obtain ⟨sm, el3, y2, y3, y4, as, qs, rfl, ef3, hA, hQ, hql⟩ := h
      rw [List.length_map, List.drop_length, scan_end] at hQ
      exact ⟨_, rfl, qg qs hQ.symm _ f as sm nf ef3 hA⟩
end
end Pc
namespace Pc
open PySem PySem.Spec PyProof.Rows L2 RZ
open TL (tl len_tl ext_tl tl_append tl_num numL numL_lt numL_step numL_digits numL_ne numL_free numL_len int_num split_join join_eq tl_join joinL)
section
variable {P : Program} {w : World} {K : PySem.W.Frag} {mg : Str → Option Value} {base : Heap}
/-! ### any text, read as a pairing -/
def spPairingInG (C : Addr) : Sp := fun vs H Q E => ∃ s : Str, vs = [.str s] ∧ s.length ≤ 1000 ∧
  (∀ (qs : List (Nat × Nat)), scan 0 (Txt.split s " ").length (Txt.split s " ") 0 [] = .inr qs → ∀ (H' : Hp) (t : Addr), Same H H' → H t = none → H' t = some (.tup (nv (rowOf qs (List.replicate (2 * qs.length) 0)))) → Q (.ref t) H') ∧
  (∀ i : Nat, scan 0 (Txt.split s " ").length (Txt.split s " ") 0 [] = .inl i → Flies C "at" (.int (i : Nat)) H E)
theorem okx_p_pairing_in (T : Env K mg) : FnOk P w K mg base (L2.CX P w) 4 T.f_p_pairing_in T.d_p_pairing_in ["text"] (spPairingInG T.C_BadText) := by
  have GC : FnOk P w K mg base CX0 2 T.f_p_call_in T.d_p_call_in ["text"] spCallInG := ok_p_call_inG T
  have GP : FnOk P w K mg base CX0 1 T.f_p_pairing_of T.d_p_pairing_of ["couples"] (spPairRow K) := ok_p_pairing_row T
  refine T.F_p_pairing_in.okX sc_p_pairing_in (fun vs H Q E h => ?_) (fun cdv A outer s H vs Q E hr h => ?_)
  · obtain ⟨s, rfl, _⟩ := h
    rfl
  · obtain ⟨s, rfl, hs, qg, qb⟩ := h
    have h1 := hr.mono (show 1 ≤ 3 by decide)
    have h2 := hr.mono (show 2 ≤ 3 by decide)
    refine ⟨_, pss_cons (ps_set (i := 1) sc_p_pairing_in.nd rfl (.inl rfl) (pe_split (pv 0) pe_str)) <|
      pss_cons (ps_set (i := 2) sc_p_pairing_in.nd rfl (.inl rfl) (pe_lst pa_nil)) <|
      pss_cons (ps_set (i := 3) sc_p_pairing_in.nd rfl (.inl rfl) (pe_callTy0 cr_set0 (by rfl) T.n_set (by decide +kernel))) <|
      pss_cons (ps_for (passes_of rfl) rfl (pi_enum (by rfl) T.n_enumerate (pa_cons (pv 1) pa_nil)) (pg_tup (by rfl) (pgs_cons (pg_name (i := 4) sc_p_pairing_in.nd rfl (.inl rfl)) (pgs_cons (pg_name (i := 5) sc_p_pairing_in.nd rfl (.inl rfl)) (pgs_nil))))
        (pss_cons (ps_set (i := 6) sc_p_pairing_in.nd rfl (.inl rfl) (pe_call GC h2 (by rfl) T.g_p_call_in T.F_p_call_in.kp T.b_p_call_in .nil pass0 (pa_cons (pv 5) pa_nil))) <|
      pss_cons (ps_if (PW.pt (pw_or (pt_cmpR op_isN (pv 6) pe_non (nomark _)) (pw_or1 (pt_cmpR op_ge (pe_ix ix_tup (pv 6) pe_int (fun _ _ => rfl)) (pe_op op_mul pe_int (pe_callB call_len_seq (by rfl) T.n_len PySem.boot_len (pa_cons (pv 1) pa_nil))) (nomark _))))) (pss_one (ps_raise rfl (takes_of rfl rfl rfl rfl) (pmk_e T.own_BadText bsV.fb T.iC_BadText T.tI_BadText (ok_i_BadText T) h2 T.b_i_BadText pass0 (by rfl) T.gC_BadText (pa_cons (pv 4) pa_nil)))) pss_nil) <|
      pss_cons (ps_if (PW.pt (pw_or (pt_cmpR or_sin (pe_ix ix_tup (pv 6) pe_int (fun _ _ => rfl)) (pv 3) (by rfl)) (pw_or1 (pt_cmpR or_sin (pe_ix ix_tup (pv 6) pe_int (fun _ _ => rfl)) (pv 3) (by rfl))))) (pss_one (ps_raise rfl (takes_of rfl rfl rfl rfl) (pmk_e T.own_BadText bsV.fb T.iC_BadText T.tI_BadText (ok_i_BadText T) h2 T.b_i_BadText pass0 (by rfl) T.gC_BadText (pa_cons (pv 4) pa_nil)))) pss_nil) <|
      pss_cons (ps_if (PW.pt (pw_and (pt_cmpR op_gt (pv 4) pe_int (nomark _)) (pw_and1 (pt_cmpR (op_ltT (Nat.lt_of_le_of_lt (Nat.le_add_right _ 64) hr.units)) (pv 6) (pe_ix ix_list (pv 2) (pe_un un_neg pe_int) (fun _ _ => rfl)) (nomark _))))) (pss_one (ps_raise rfl (takes_of rfl rfl rfl rfl) (pmk_e T.own_BadText bsV.fb T.iC_BadText T.tI_BadText (ok_i_BadText T) h2 T.b_i_BadText pass0 (by rfl) T.gC_BadText (pa_cons (pv 4) pa_nil)))) pss_nil) <|
      pss_cons (ps_expr (pe_bm PySem.F.plainAttrs_list PySem.F.slot_list_append PySem.F.type_list_append mt_append (pv 2) (pa_cons (pv 6) pa_nil))) <|
      pss_cons (ps_expr (pe_sadd (pv 3) (pa_cons (pe_ix ix_tup (pv 6) pe_int (fun _ _ => rfl)) pa_nil))) <|
      pss_one (ps_expr (pe_sadd (pv 3) (pa_cons (pe_ix ix_tup (pv 6) pe_int (fun _ _ => rfl)) pa_nil))))) <|
      pss_one (ps_ret (pe_call GP h1 (by rfl) T.g_p_pairing_of T.F_p_pairing_of.kp T.b_p_pairing_of .nil pass0 (pa_cons (pv 2) pa_nil))), ?_⟩
    have lparts : ∀ x ∈ Txt.split s " ", x.length ≤ 10000 := fun x hx => by
      have := split_le s " " (by rw [tl_gap]; simp) (by decide +kernel) x hx
      omega
    have lws : (Txt.split s " ").length ≤ 1001 := by have := split_many s " " (by rw [tl_gap]; simp) (by decide +kernel); omega
    refine ⟨_, rfl, ⟨_, rfl⟩, _, _, rfl, rfl, by decide +kernel, by exact Nat.le_of_lt (line_big (by omega)), fun l nl => ?_⟩
    revert lparts lws qg qb
    generalize Txt.split s " " = ws
    intro qg qb lparts lws
    have s1 := same_new (o := .lst (ws.map V.str)) nl
    refine ⟨by show 0 ≤ sizeLine; decide, fun f nf => ?_⟩
    have s2 := same_new (o := .lst []) nf
    have lf : l ≠ f := fun z => by rw [← z, upd_same] at nf; cases nf
    have nf0 : H f = none := s1.free nf
    have s12 : Same H _ := s1.trans s2
    have el0 := s2 _ _ (upd_same (H := H) (a := l) (o := .lst (ws.map V.str)))
    have ef0 : (upd (upd H l (.lst (ws.map V.str))) f (.lst [])) f = some (.lst []) := upd_same
    revert s12 el0 ef0
    clear s2 s1 nf nl
    generalize upd (upd H l (.lst (ws.map V.str))) f (.lst []) = H0
    intro s12 el0 ef0
    refine st_set [some (.str s), some (.ref l), some (.ref f), none, none, none, none] ?_ rfl
    refine ⟨rfl, fun g ng => ?_⟩
    have s3 : Same H0 (upd H0 g (SetO w g (fun _ => false) 0)) := same_new ng
    have lg : l ≠ g := ne_of_none el0 ng
    have fg : f ≠ g := ne_of_none ef0 ng
    have ng0 : H g = none := s12.free ng
    have sm0 : Same H _ := s12.trans s3
    have el := s3 _ _ el0
    have ef := s3 _ _ ef0
    have eg : (upd H0 g (SetO w g (fun _ => false) 0)) g = some (SetO w g (fun _ => false) 0) := upd_same
    refine st_set [some (.str s), some (.ref l), some (.ref f), some (.ref g), none, none, none] ?_ rfl
    refine ⟨.ref l, rfl, l, _, rfl, .inl (.inl el), ?_⟩
    refine for_it (walk_enum (xs := ws.map V.str)) (fun i σ H' => Same H H' ∧ H' l = some (.lst (ws.map V.str)) ∧ ∃ (y4 y5 y6 : Option V) (as : List Addr) (qs : List (Nat × Nat)) (S : Int → Bool) (k : Nat), σ = [some (.str s), some (.ref l), some (.ref f), some (.ref g), y4, y5, y6] ∧ H' f = some (.lst (as.map V.ref)) ∧ Prs H' as qs ∧ H' g = some (SetO w g S k) ∧ k ≤ 2 * i ∧ (∀ y : Nat, S (y : Int) = qs.any (fun q => decide (q.1 = y) || decide (q.2 = y))) ∧ scan 0 ws.length (ws.drop i) i qs = scan 0 ws.length ws 0 [] ∧ qs.length = i ∧ ∀ p ∈ qs, p.1 < 2 * ws.length ∧ p.2 < 2 * ws.length)
      ⟨sm0, el, none, none, none, [], [], _, 0, rfl, ef, .nil, eg, Nat.le_refl _, fun y => rfl, rfl, rfl, fun p hp => by simp at hp⟩ (fun i σ H' _ h => .inl (.inl h.2.1)) (fun i x σ H3 H4 hi h y => ?_) (fun σ H' h => ?_)
    · obtain ⟨sm, el3, y4, y5, y6, as, qs, S, k, rfl, ef3, hA, eg3, hk, hS, hQ, hql, hqb⟩ := h
      obtain ⟨tp, v1, v2, rfl, ntp, rfl, g1, g2⟩ := y
      have ev1 : v1 = .int (i : Nat) := (Option.some.inj g1).symm
      replace g2 := (show (List.map V.str ws)[i]? = some v2 from g2)
      rw [List.getElem?_map] at g2
      obtain ⟨u, eu, rfl⟩ := Option.map_eq_some_iff.mp g2
      subst ev1
      have hm := List.mem_of_getElem? eu
      rw [drop_at eu] at hQ
      have hil : i < ws.length := (List.getElem?_eq_some_iff.mp eu).1
      have st := same_new (o := .tup [.int (i : Nat), .str u]) ntp
      refine ⟨tp, _, rfl, .inl (.inl upd_same), rfl, _, _, rfl, _, _, rfl, rfl, ?_⟩
      refine ⟨_, rfl, u, rfl, lparts u hm, fun e0 H5 s5 => ?_, fun p e0 H5 t s5 nt et => ?_⟩
      · refine ⟨_, rfl, rfl, _, rfl, iteY rfl ⟨_, rfl, raised1 ?_⟩⟩
        exact (qb i (by rw [← hQ, scan_none e0])).same (sm.trans (st.trans s5))
      have s35 := st.trans s5
      have bad : ∀ {H6 : Hp}, Same H5 H6 → badB ws.length qs p = true → Flies T.C_BadText "at" (.int (i : Nat)) H6 E := fun {H6} s6 hb => (qb i (by rw [← hQ, scan_some e0, hb]; rfl)).same (sm.trans (s35.trans s6))
      have ef5 := s35 _ _ ef3
      have eg5 := s35 _ _ eg3
      have el5 := s35 _ _ el3
      have hA5 := prs_same s35 hA
      have tf : t ≠ f := fun z => by rw [z, ef5] at et; cases et
      have tg : t ≠ g := fun z => by rw [z, eg5] at et; cases et
      have hAl : as.length = i := by rw [hA.length, hql]
      have ht5 : SqT K H5 t [.int (p.1 : Nat), .int (p.2 : Nat)] := .inl (.inl et)
      have hw : (ws.map V.str).length = ws.length := List.length_map _
      have eB : badB ws.length qs p = (decide (2 * ws.length ≤ p.2) || (S (p.1 : Int) || S (p.2 : Int)) || (match qs.getLast? with
     | none => false
     | some r => HT.lexLt [(p.1 : Int), (p.2 : Int)] [(r.1 : Int), (r.2 : Int)])) := by rw [hS, hS]; rfl
      refine ⟨_, rfl, rfl, _, rfl, iteX rfl ⟨_, rfl, t, _, 1, _, rfl, rfl, ht5, rfl, .ref l, rfl, l, _, rfl, .inl (.inl (.inl el5)), 2, _, rfl, rfl, .inl ⟨by decide, by decide⟩, _, _, rfl, rfl, _, rfl, ite2 (fun c1 => ?_) (fun c1 => ?_)⟩⟩
      · refine ⟨_, rfl, raised1 (bad (fun _ _ z => z) ?_)⟩
        have h1 := of_decide_eq_true c1
        rw [hw] at h1
        rw [eB, decide_eq_true (show 2 * ws.length ≤ p.2 by omega)]; rfl
      have h1 : ¬ 2 * ws.length ≤ p.2 := fun z => c1 (decide_eq_true (by rw [hw]; omega))
      refine ⟨_, rfl, t, _, 0, _, rfl, rfl, ht5, rfl, .ref g, rfl, _, g, S, k, rfl, rfl, eg5, _, rfl, ite2 (fun c2 => ?_) (fun c2 => ?_)⟩
      · refine ⟨_, rfl, raised1 (bad (fun _ _ z => z) ?_)⟩
        rw [eB, c2]; simp
      refine ⟨_, rfl, t, _, 1, _, rfl, rfl, ht5, rfl, .ref g, rfl, _, g, S, k, rfl, rfl, eg5, _, rfl, ite2 (fun c3 => ?_) (fun c3 => ?_)⟩
      · refine ⟨_, rfl, raised1 (bad (fun _ _ z => z) ?_)⟩
        rw [eB, c3]; simp
      have c2' : S (p.1 : Int) = false := Bool.eq_false_iff.mpr c2
      have c3' : S (p.2 : Int) = false := Bool.eq_false_iff.mpr c3
      have hplt : p.1 < p.2 := duo_lt e0
      refine ⟨_, rfl, _, _, rfl, rfl, _, rfl, ite2 (fun c => ?w1) (fun c => ?w2)⟩
      case' w1 =>
        have i0 : (0 : Int) < (i : Int) := of_decide_eq_true c
        obtain ⟨as0, tl0, eas⟩ : ∃ (as0 : List Addr) (tl0 : Addr), as = as0 ++ [tl0] := by
          have hne2 : as ≠ [] := fun e => by rw [e] at hAl; simp at hAl; omega
          exact ⟨as.dropLast, as.getLast hne2, (List.dropLast_concat_getLast hne2).symm⟩
        obtain ⟨r, er, hr0⟩ := prs_get (i := as0.length) hA5 (show as[as0.length]? = some tl0 by rw [eas]; simp)
        have hlast : qs.getLast? = some r := by
          rw [List.getLast?_eq_getElem?, ← er]
          congr 1
          have : as.length = as0.length + 1 := by rw [eas]; simp
          omega
        refine ⟨_, rfl, _, rfl, 1, rfl, f, _, _, .ref tl0, rfl, rfl, .inl (.inl ef5), by rw [eas, List.map_append]; exact atI_last _ _, t, tl0, [(p.1 : Int), (p.2 : Int)], [(r.1 : Int), (r.2 : Int)], rfl, rfl, ht5, .inl (.inl hr0), _, rfl, ite2 (fun c4 => ?bad) (fun c4 => ?w3)⟩
        case bad =>
          refine ⟨_, rfl, raised1 (bad (fun _ _ z => z) ?_)⟩
          rw [eB, hlast]
          show (_ || HT.lexLt [(p.1 : Int), (p.2 : Int)] [(r.1 : Int), (r.2 : Int)]) = true
          rw [c4, Bool.or_true]
        have eF : badB ws.length qs p = false := by
          rw [eB, decide_eq_false h1, c2', c3', hlast]
          exact Bool.eq_false_iff.mpr c4
      case' w2 =>
        have eF : badB ws.length qs p = false := by
          have hi0 : i = 0 := by
            rcases Nat.eq_zero_or_pos i with z | z
            · exact z
            · exact absurd (decide_eq_true (by omega)) c
          have hq0 : qs = [] := List.eq_nil_of_length_eq_zero (by omega)
          rw [eB, decide_eq_false h1, c2', c3', hq0]; rfl
      all_goals
        refine ⟨_, rfl, .inl ⟨rfl, _, .inl (.inl ef5)⟩, _, rfl, f, as.map V.ref, _, rfl, rfl, ef5, by rw [List.length_map]; exact line_big (by omega), ?_⟩
        have sm6 : Same H (upd H5 f (.lst (as.map V.ref ++ [.ref t]))) := fun y o hy => by rw [upd_ne (ne_of_none hy nf0)]; exact s35 _ _ (sm _ _ hy)
        have el6 : (upd H5 f (.lst (as.map V.ref ++ [.ref t]))) l = some (.lst (ws.map V.str)) := by rw [upd_ne lf]; exact el5
        have ef6 : (upd H5 f (.lst (as.map V.ref ++ [.ref t]))) f = some (.lst ((as ++ [t]).map V.ref)) := by rw [upd_same, List.map_append]; rfl
        have eg6 : (upd H5 f (.lst (as.map V.ref ++ [.ref t]))) g = some (SetO w g S k) := by rw [upd_ne fg.symm]; exact eg5
        have et6 : (upd H5 f (.lst (as.map V.ref ++ [.ref t]))) t = some (.tup [.int (p.1 : Nat), .int (p.2 : Nat)]) := by rw [upd_ne tf]; exact et
        have hA6 : Prs (upd H5 f (.lst (as.map V.ref ++ [.ref t]))) (as ++ [t]) (qs ++ [p]) := prs_append (prs_keep (b := f) keep_upd ef5 hA5) (.cons et6 .nil)
        revert sm6 el6 ef6 eg6 et6 hA6
        generalize upd H5 f (.lst (as.map V.ref ++ [.ref t])) = H6
        intro sm6 el6 ef6 eg6 et6 hA6
        refine ⟨.ref g, rfl, ⟨g, S, k, rfl, eg6⟩, _, rfl, t, _, 0, _, rfl, rfl, .inl (.inl et6), rfl, g, (p.1 : Int), S, k, rfl, rfl, eg6, by show k + 1 < 4096; omega, ?_⟩
        refine ⟨.ref g, rfl, ⟨g, _, _, rfl, upd_same⟩, _, rfl, t, _, 1, _, rfl, rfl, .inl (.inl (by rw [upd_ne tg]; exact et6)), rfl, g, (p.2 : Int), _, _, rfl, rfl, upd_same, ?_, ?_⟩
        · show (if S (p.1 : Int) = true then k else k + 1) + 1 < 4096
          split <;> omega
        refine ⟨fun y o hy => by rw [upd_ne (ne_of_none hy ng0), upd_ne (ne_of_none hy ng0)]; exact sm6 _ _ hy, by rw [upd_ne lg, upd_ne lg]; exact el6, _, _, _, as ++ [t], qs ++ [p], _, _, rfl, by rw [upd_ne fg, upd_ne fg]; exact ef6, ?_, upd_same, ?_, fun y => ?_, ?_, by rw [List.length_append, hql]; rfl, fun p' hp' => ?_⟩
        · exact prs_ne (fun xs z => by rw [upd_same] at z; cases z) (prs_ne (fun xs z => by rw [eg6] at z; cases z) hA6)
        · rw [c2']
          split <;> split <;> omega
        · show ((S (y : Int) || decide ((y : Int) = (p.1 : Int))) || decide ((y : Int) = (p.2 : Int))) = _
          rw [hS, List.any_append]
          show _ = (_ || ((decide (p.1 = y) || decide (p.2 = y)) || false))
          rw [Bool.or_false, Bool.or_assoc]
          congr 1
          congr 1
          · exact decide_eq_decide.mpr (by omega)
          · exact decide_eq_decide.mpr (by omega)
        · rw [← hQ, scan_some e0, eF]; rfl
        · rcases List.mem_append.mp hp' with z | z
          · exact hqb p' z
          · rw [List.mem_singleton.mp z]; omega
    · obtain ⟨sm, el3, y4, y5, y6, as, qs, S, k, rfl, ef3, hA, eg3, hk, hS, hQ, hql, hqb⟩ := h
      rw [List.length_map] at hql
      rw [List.length_map, List.drop_length, scan_end] at hQ
      refine ⟨_, rfl, f, as, qs, rfl, ef3, hA, by rw [hql]; exact hqb, by omega, fun H2 t s2 nt et => ?_⟩
      exact qg qs hQ.symm H2 t (sm.trans s2) (sm.free nt) et
end
end Pc
namespace Pc
open PySem PySem.Spec PyProof.Rows L2 RZ
open TL (tl len_tl ext_tl tl_append tl_num numL numL_lt numL_step numL_digits numL_ne numL_free numL_len int_num split_join join_eq tl_join joinL)
section
variable {P : Program} {w : World} {K : PySem.W.Frag} {mg : Str → Option Value} {base : Heap}
/-! ### is it a number's text? -/
def spIsNum : Sp := fun vs H Q _ => ∃ s : Str, vs = [.str s] ∧ s.length ≤ 10000 ∧ ∀ H', Same H H' → Q (.bl (numB s)) H'
theorem ok_is_number (T : Env K mg) : FnOk P w K mg base CX0 1 T.f_is_number T.d_is_number ["_law_piece"] spIsNum := by

  refine T.F_is_number.ok sc_is_number (fun vs H Q E h => ?_) (fun cdv A outer s H vs Q E hr h => ?_)
  · obtain ⟨s, rfl, _⟩ := h
    rfl
  · obtain ⟨s, rfl, hs, q⟩ := h

    refine ⟨_, pss_cons (ps_if (PW.pt (pw_or (pt_not (pt_chain op_lt op_lt pe_int (pe_callB call_len_str (by rfl) T.n_len PySem.boot_len (pa_cons (pv 0) pa_nil)) pe_int)) (pw_or1 (pt_not (pt_val (pe_callB (cr_all rfl) (by rfl) T.n_all (by decide +kernel) (pa_cons (pe_lc (own := [("_law_sign", 1)]) (g := gName 1) (tt := tYes) (te := tOp (fun x y H Q => ∃ (c : Nat) (z : Str), x = .str ⟨#[c]⟩ ∧ y = .str z ∧ Q (.bl (decide (c ∈ z.cps.toList))) H) (tVar 1) (tC (.str "0123456789"))) rfl sc_is_number.nd (pi_str (pv 0)) (blkOk_by (N := N_is_number) (sc := (defScope s_is_number)) (by decide +kernel)) (fun _ _ _ _ _ => (pg_name (i := 1) sc_is_number.nd rfl (.inl rfl))) (fun _ _ _ _ _ => pts_nil) (fun _ _ _ _ _ => (pe_cmpR op_in_sign (pv 1) pe_str (by rfl)))) pa_nil))))))) (pss_one (ps_ret pe_bl)) pss_nil) <|
      pss_one (ps_ret (pe_or (pe_cmpR op_eq (pv 0) pe_str (nomark _)) (pe_one (pe_cmpR op_ne (pe_ix ix_str (pv 0) pe_int (fun _ _ => rfl)) pe_str (nomark _))))), ?_⟩
    have lz : s.length ≤ sizeLine := Nat.le_of_lt (line_big (by omega))
    have fin : ∀ {k : Bool} {H' : Hp}, Same H H' → k = numB s → Q (.bl k) H' := fun {k H'} sm e => by rw [e]; exact q H' sm
    have e0 : numB s = (decide (1 ≤ s.length) && decide (s.length ≤ 13) && (tl s).all digB && !zeroB (tl s)) := rfl
    refine ⟨_, rfl, _, rfl, lz, _, _, rfl, rfl, _, rfl, ite2 (fun c1 => ?_) (fun c1 => ?_)⟩
    · have h1 : 1 ≤ s.length := by have := of_decide_eq_true c1; omega
      refine ⟨_, _, rfl, rfl, _, rfl, ite2 (fun c2 => ?_) (fun c2 => ?_)⟩
      · refine fin (fun _ _ z => z) ?_
        have h2 : ¬ s.length ≤ 13 := fun z => by
          have c2' : (!decide ((s.length : Int) < 14)) = true := c2
          rw [decide_eq_true (by omega)] at c2'
          exact absurd c2' (by decide)
        rw [e0, decide_eq_false h2, Bool.and_false, Bool.false_and, Bool.false_and]
      have h2 : s.length ≤ 13 := by
        by_cases z : s.length ≤ 13
        · exact z
        · refine absurd ?_ c2
          show (!decide ((s.length : Int) < 14)) = true
          rw [decide_eq_false (by omega)]; rfl
      refine ⟨_, rfl, _, rfl, fun D nD => ?_⟩
      refine lc_it (walk_str (z := s)) (fun i H' => Same H H' ∧ H' D = some (.lst ((((tl s).take i).map digB).map V.bl))) ⟨same_new nD, upd_same⟩ (fun i H' _ h => trivial) (fun i x H1 H2 hi h y => ?_) (fun H' h => ?_)
      · obtain ⟨sm, eD⟩ := h
        obtain ⟨rfl, c, ec, rfl⟩ := y
        have ec2 : (tl s)[i]? = some c := by
          show s.cps.toList[i]? = some c
          rw [Array.getElem?_toList]; exact ec
        refine ⟨rfl, yes_if ⟨_, rfl, c, _, rfl, rfl, _, eD, ?_, fun z o hz => by rw [upd_ne (ne_of_none hz nD)]; exact sm _ _ hz, ?_⟩⟩
        · rw [List.length_map, List.length_map, List.length_take]; exact small1000 (by have := len_tl s; omega)
        · rw [upd_same, all_take_blX digB ec2, digB_in]
      · obtain ⟨sm, eD⟩ := h
        have hsz : s.cps.size = (tl s).length := by show _ = s.cps.toList.length; rw [Array.length_toList]
        rw [hsz, List.take_length] at eD
        refine ⟨D, (tl s).map digB, rfl, .inl (.inl eD), ?_⟩
        rw [List.all_map]
        refine ⟨_, rfl, ite2 (fun c3 => ?_) (fun c3 => ?_)⟩
        · refine fin sm ?_
          have c3' : (!((tl s).all digB)) = true := c3
          have h3 : (tl s).all digB = false := by
            cases e : (tl s).all digB with
            | false => rfl
            | true => rw [e] at c3'; exact absurd c3' (by decide)
          rw [e0, h3, Bool.and_false, Bool.false_and]
        have h3 : (tl s).all digB = true := by
          cases e : (tl s).all digB with
          | true => rfl
          | false => exact absurd (show (!((tl s).all digB)) = true by rw [e]; rfl) c3
        have e5 : numB s = !zeroB (tl s) := by rw [e0, decide_eq_true h1, decide_eq_true h2, h3]; rfl
        obtain ⟨d, r, e⟩ : ∃ d r, tl s = d :: r := by
          cases e : tl s with
          | nil => rw [len_tl, e] at h1; exact absurd h1 (by decide)
          | cons d r => exact ⟨d, r, rfl⟩
        have e2 : s.cps.toList = d :: r := e
        have t0 : tl ("0" : Str) = [48] := by decide +kernel
        refine ⟨_, rfl, rfl, _, rfl, ite2 (fun g => ?_) (fun g => ?_)⟩
        · refine fin sm ?_
          have g1 : s = "0" := V.str.inj (of_decide_eq_true g)
          rw [e5, g1, t0]; rfl
        · refine ⟨_, rfl, _, 0, d, rfl, rfl, lz, by rw [e2]; exact atI_nat (j := 0) rfl, rfl, fin sm ?_⟩
          have gs : s ≠ "0" := fun z => g (decide_eq_true (congrArg V.str z))
          rw [e5, e]
          by_cases hd : d = 48
          · subst hd
            have hr : r ≠ [] := fun z => gs (ext_tl (by rw [e, t0, z]))
            obtain ⟨x, r', rfl⟩ := List.exists_cons_of_ne_nil hr
            show (!decide (V.str (⟨#[48]⟩ : Str) = V.str "0")) = (!true)
            rw [decide_eq_true (show V.str (⟨#[48]⟩ : Str) = V.str "0" from congrArg V.str (by decide +kernel))]
          · have hz : zeroB (d :: r) = false := by
              unfold zeroB
              split
              · rename_i h; exact absurd (List.cons.inj h).1 hd
              · rfl
            rw [hz]
            have hne : ¬ V.str (⟨#[d]⟩ : Str) = V.str "0" := fun z => hd (by
              have g3 : tl (⟨#[d]⟩ : Str) = tl ("0" : Str) := by rw [V.str.inj z]
              rw [t0] at g3
              exact (List.cons.inj g3).1)
            show (!decide (V.str (⟨#[d]⟩ : Str) = V.str "0")) = true
            rw [decide_eq_false hne]; rfl
    · refine ⟨_, rfl, iteY rfl (fin (fun _ _ z => z) ?_)⟩
      have h1 : ¬ 1 ≤ s.length := fun z => c1 (decide_eq_true (by omega))
      rw [e0, decide_eq_false h1, Bool.false_and, Bool.false_and, Bool.false_and]
end
end Pc
namespace Pc
open PySem PySem.Spec PyProof.Rows L2 RZ
open TL (tl len_tl ext_tl tl_append tl_num numL numL_lt numL_step numL_digits numL_ne numL_free numL_len int_num split_join join_eq tl_join joinL)
section
variable {P : Program} {w : World} {K : PySem.W.Frag} {mg : Str → Option Value} {base : Heap}
/-! ### the law's own reading of a call -/
def spDuo : Sp := fun vs H Q _ => ∃ s : Str, vs = [.str s] ∧ s.length ≤ 10000 ∧ (duoO s = none → ∀ H', Same H H' → Q .non H') ∧ ∀ p, duoO s = some p → ∀ (H' : Hp) (t : Addr), Same H H' → H t = none → H' t = some (.tup [.int (p.1 : Nat), .int (p.2 : Nat)]) → Q (.ref t) H'
theorem ok_duo (T : Env K mg) : FnOk P w K mg base CX0 2 T.f_duo T.d_duo ["_law_piece"] spDuo := by
  have GN : FnOk P w K mg base CX0 1 T.f_is_number T.d_is_number ["_law_piece"] spIsNum := ok_is_number T
  refine T.F_duo.ok sc_duo (fun vs H Q E h => ?_) (fun cdv A outer s H vs Q E hr h => ?_)
  · obtain ⟨s, rfl, _⟩ := h
    rfl
  · obtain ⟨s, rfl, hs, q0, q⟩ := h

    refine ⟨_, pss_cons (ps_set (i := 1) sc_duo.nd rfl (.inl rfl) (pe_split (pv 0) pe_str)) <|
      pss_cons (ps_if (PW.pt (pw_or (pt_cmpR op_ne (pe_callB call_len_seq (by rfl) T.n_len PySem.boot_len (pa_cons (pv 1) pa_nil)) pe_int (nomark _)) (pw_or1 (pt_not (pt_val (pe_callB (cr_all rfl) (by rfl) T.n_all (by decide +kernel) (pa_cons (pe_lc (own := [("_law_part", 2)]) (g := gName 2) (tt := tYes) (te := tCall spIsNum [] (fun _ _ _ => False) (tCons (tVar 2) tNil)) rfl sc_duo.nd (pi_list (pv 1)) (blkOk_by (N := N_duo) (sc := (defScope s_duo)) (by decide +kernel)) (fun _ _ _ _ _ => (pg_name (i := 2) sc_duo.nd rfl (.inl rfl))) (fun _ _ _ _ _ => pts_nil) (fun _ _ _ _ _ => (pe_call GN hr (by rfl) T.g_is_number T.F_is_number.kp T.b_is_number .nil pass0 (pa_cons (pv 2) pa_nil)))) pa_nil))))))) (pss_one (ps_ret pe_non)) pss_nil) <|
      pss_one (ps_ret (pe_ifExp (pt_cmpR op_lt (pe_callTy call_int_str (by rfl) T.n_int (by decide +kernel) (pa_cons (pe_ix ix_list (pv 1) pe_int (fun _ _ => rfl)) pa_nil)) (pe_callTy call_int_str (by rfl) T.n_int (by decide +kernel) (pa_cons (pe_ix ix_list (pv 1) pe_int (fun _ _ => rfl)) pa_nil)) (nomark _)) (pe_tup (pa_cons (pe_callTy call_int_str (by rfl) T.n_int (by decide +kernel) (pa_cons (pe_ix ix_list (pv 1) pe_int (fun _ _ => rfl)) pa_nil)) (pa_cons (pe_callTy call_int_str (by rfl) T.n_int (by decide +kernel) (pa_cons (pe_ix ix_list (pv 1) pe_int (fun _ _ => rfl)) pa_nil)) pa_nil))) pe_non)), ?_⟩
    have lparts : ∀ x ∈ Txt.split s "-", x.length ≤ 10000 := fun x hx => by
      have := split_le s "-" (by rw [tl_dash]; simp) (by decide +kernel) x hx
      omega
    have lws : (Txt.split s "-").length ≤ 20000 := by have := split_many s "-" (by rw [tl_dash]; simp) (by decide +kernel); omega
    refine ⟨_, rfl, ⟨_, rfl⟩, _, _, rfl, rfl, by decide +kernel, by show _ + 2 ≤ sizeLine; exact Nat.le_of_lt (line_big (by omega)), fun l nl => ?_⟩
    have ed : duoO s = (match Txt.split s "-" with | [x, y] => if (numB x && numB y && decide (txtV x < txtV y)) = true then some (txtV x, txtV y) else none | _ => none) := rfl
    revert lparts ed lws
    generalize Txt.split s "-" = xs
    intro lparts lws ed
    have s1 := same_new (o := .lst (xs.map V.str)) nl
    have e1 : (upd H l (.lst (xs.map V.str))) l = some (.lst (xs.map V.str)) := upd_same
    revert s1 e1
    generalize upd H l (.lst (xs.map V.str)) = H1
    intro s1 e1
    have no : ∀ {H' : Hp}, Same H H' → duoO s = none → Q .non H' := fun {H'} sm e => q0 e H' sm
    refine ⟨_, rfl, l, _, rfl, .inl (.inl (.inl e1)), rfl, _, rfl, ite2 (fun g => ?_) (fun g => ?_)⟩
    · refine no s1 ?_
      have g' : (!decide (V.int ((xs.map V.str).length : Int) = V.int 2)) = true := g
      rw [List.length_map] at g'
      rw [ed]
      match xs, g' with
      | [], _ => rfl
      | [_], _ => rfl
      | [_, _], g' => simp at g'
      | _ :: _ :: _ :: _, _ => rfl
    obtain ⟨x, y, rfl⟩ : ∃ x y, xs = [x, y] := by
      have g' : (xs.map V.str).length = 2 := by
        cases hh : decide (V.int ((xs.map V.str).length : Int) = V.int 2) with
        | true => have := V.int.inj (of_decide_eq_true hh); omega
        | false => exact absurd (show (!decide (V.int ((xs.map V.str).length : Int) = V.int 2)) = true by rw [hh]; rfl) g
      rw [List.length_map] at g'
      match xs, g' with
      | [x, y], _ => exact ⟨x, y, rfl⟩
    have ed2 : duoO s = if (numB x && numB y && decide (txtV x < txtV y)) = true then some (txtV x, txtV y) else none := ed
    refine ⟨_, rfl, l, rfl, ⟨_, .inl (.inl e1)⟩, fun D nD => ?_⟩
    refine lc_list (xs := [V.str x, V.str y]) (fun i H' => Same H1 H' ∧ H' D = some (.lst ((([x, y].take i).map numB).map V.bl))) ⟨same_new nD, upd_same⟩ (fun i H' _ h => .inl (.inl (h.1 _ _ e1))) (fun i v H' hv h => ?_) (fun H' h => ?_)
    · obtain ⟨sm, eD⟩ := h
      obtain ⟨z, ez, rfl⟩ : ∃ z, [x, y][i]? = some z ∧ v = .str z := by
        have hv' : ([x, y].map V.str)[i]? = some v := hv
        rw [List.getElem?_map] at hv'
        obtain ⟨z, e, rfl⟩ := Option.map_eq_some_iff.mp hv'
        exact ⟨z, e, rfl⟩
      refine ⟨rfl, yes_if ⟨_, rfl, z, rfl, lparts z (List.mem_of_getElem? ez), fun H2 s2 => ⟨_, s2 _ _ eD, ?_, fun z' o hz => by rw [upd_ne (ne_of_none hz nD)]; exact s2 _ _ (sm _ _ hz), ?_⟩⟩⟩
      · rw [List.length_map, List.length_map, List.length_take]; exact small1000 (by show min i 2 ≤ _; omega)
      · rw [upd_same, all_take_blX numB ez]
    · obtain ⟨sm, eD⟩ := h
      have s12 := s1.trans sm
      have e1' := sm _ _ e1
      refine ⟨D, [numB x, numB y], rfl, .inl (.inl eD), _, rfl, ite2 (fun c => ?_) (fun c => ?_)⟩
      · refine no s12 ?_
        have c' : (!(numB x && (numB y && true))) = true := c
        rw [ed2]
        cases b1 : numB x with
        | false => rfl
        | true =>
          cases b2 : numB y with
          | false => rfl
          | true => rw [b1, b2] at c'; exact absurd c' (by decide)
      have hxy : numB x = true ∧ numB y = true := by
        cases b1 : numB x with
        | false => exact absurd (show (!(numB x && (numB y && true))) = true by rw [b1]; rfl) c
        | true =>
          cases b2 : numB y with
          | false => exact absurd (show (!(numB x && (numB y && true))) = true by rw [b1, b2]; rfl) c
          | true => exact ⟨rfl, rfl⟩
      obtain ⟨b1, b2⟩ := hxy
      obtain ⟨ix, lx⟩ := numB_num b1
      obtain ⟨iy, ly⟩ := numB_num b2
      refine ⟨_, rfl, l, _, 0, _, rfl, rfl, .inl (.inl e1'), rfl, x, _, rfl, ix, by omega, _, rfl, l, _, 1, _, rfl, rfl, .inl (.inl e1'), rfl, y, _, rfl, iy, by omega, _, _, rfl, rfl, _, rfl, ite2 (fun g3 => ?_) (fun g3 => no s12 ?_)⟩
      · have hlt : txtV x < txtV y := by have := of_decide_eq_true g3; omega
        refine ⟨_, rfl, l, _, 0, _, rfl, rfl, .inl (.inl e1'), rfl, x, _, rfl, ix, by omega, _, rfl, l, _, 1, _, rfl, rfl, .inl (.inl e1'), rfl, y, _, rfl, iy, by omega, by show 2 ≤ sizeLine; decide, fun t nt => ?_⟩
        exact q (txtV x, txtV y) (by rw [ed2, b1, b2, decide_eq_true hlt]; rfl) _ t (s12.trans (same_new nt)) (s12.free nt) upd_same
      · have : ¬ txtV x < txtV y := fun z => g3 (decide_eq_true (by omega))
        rw [ed2, b1, b2, decide_eq_false this]; rfl
end
end Pc
namespace Pc
open PySem PySem.Spec PyProof.Rows L2 RZ
/-- two statements in a row that come to one state, whatever way they go -/
theorem tjoin2 {t u v : TS} {D : L2.Ends} {σ : L2.St} {H : Hp} (J : L2.St → Hp → Prop) (k : ∀ σ' H', J σ' H' → v D σ' H') (h : ∀ N : L2.St → Hp → Prop, (∀ σ' H', J σ' H' → N σ' H') → tSeq t u { D with nx := N } σ H) : tSeq t (tSeq u v) D σ H := h (v D) k
theorem tjoin1 {t v : TS} {D : L2.Ends} {σ : L2.St} {H : Hp} (J : L2.St → Hp → Prop) (k : ∀ σ' H', J σ' H' → v D σ' H') (h : ∀ N : L2.St → Hp → Prop, (∀ σ' H', J σ' H' → N σ' H') → t { D with nx := N } σ H) : tSeq t v D σ H := h (v D) k
theorem st_at {u : L2.St → Hp → Prop} {r : VK} {bk ct : L2.St → Hp → Prop} {σ : L2.St} {H : Hp} (σ' : L2.St) (e : σ = σ') (h : u σ' H) : (L2.Ends.mk u r bk ct).nx σ H := by rw [e]; exact h
theorem st_nx {u : TS} {D : L2.Ends} {σ : L2.St} {H : Hp} (h : u D σ H) : tNext { D with nx := u D } σ H := h
theorem keep_freeR {b p : Addr} {k : Nat} {H H' : Hp} (hk : Keep b H H') (hB : Box k H' b) (h : H' p = none) : H p = none := by
  cases e : H p with
  | none => rfl
  | some o =>
    by_cases hb : p = b
    · subst hb
      obtain ⟨y, hy⟩ := hB.lst
      rw [hy] at h; cases h
    · rw [hk p o hb e] at h; cases h
end Pc
namespace Pc
open PySem PySem.Spec PyProof.Rows L2 RZ
/-! ### ways that come together (of lib222, alone: never with lib222, lib259) -/
theorem tjoinR {t v : TS} {D : L2.Ends} {σ : L2.St} {H : Hp} (J : L2.St → Hp → Prop) (h : ∀ N : L2.St → Hp → Prop, (∀ σ' H', J σ' H' → N σ' H') → t { D with nx := N } σ H) (k : ∀ σ' H', J σ' H' → v D σ' H') : tSeq t v D σ H := h (v D) k
end Pc
namespace Pc
open PySem PySem.Spec PyProof.Rows L2 RZ
theorem in_nat (i : Nat) (l : List Nat) : inV (.int (i : Int)) (nv l) = decide (i ∈ l) := by
  unfold inV nv
  rw [List.any_map, Bool.eq_iff_iff, List.any_eq_true, decide_eq_true_iff]
  constructor
  · rintro ⟨x, hx, e⟩
    have e' : eqV (.int (x : Int)) (.int (i : Int)) = true := e
    have : (x : Int) = (i : Int) := by simpa [eqV] using e'
    have : x = i := by omega
    exact this ▸ hx
  · intro h
    exact ⟨i, h, by show eqV (.int (i : Int)) (.int (i : Int)) = true; simp [eqV]⟩
theorem flat_nat (l : List Nat) : (nv l).all flatV = true := by
  unfold nv
  rw [List.all_map, List.all_eq_true]
  exact fun x _ => rfl
end Pc
namespace Pc
open PySem PySem.Spec PyProof.Rows L2 RZ
open TL (tl len_tl ext_tl tl_append tl_num numL numL_lt numL_step numL_digits numL_ne numL_free numL_len int_num split_join join_eq tl_join joinL)
section
variable {P : Program} {w : World} {K : PySem.W.Frag} {mg : Str → Option Value} {base : Heap}
/-! ### the law's own reading -/
def rdD (k : Nat) (s : Str) : PyData := if k = 1 ∧ s = "." then .list [] else match scan k (Txt.split s " ").length (Txt.split s " ") 0 [] with
  | .inl i => .tuple [.str "bad", .int (i : Nat)]
  | .inr qs => if k = 1 then .list (qs.map pd) else .tuple (nd (rowOf qs (List.replicate (2 * qs.length) 0)))
def spRead (K : PySem.W.Frag) : Sp := fun vs H Q _ => ∃ (k : Nat) (s : Str), vs = [.int k, .str s] ∧ k ≤ 1 ∧ s.length ≤ 1000 ∧ ∀ (H' : Hp) (v : V), Same H H' → Dp K H' v (rdD k s) → Q v H'
theorem ok_read_text (T : Env K mg) : FnOk P w K mg base CX0 3 T.f_read_text T.d_read_text ["_law_kind", "_law_message"] (spRead K) := by
  have GD : FnOk P w K mg base CX0 2 T.f_duo T.d_duo ["_law_piece"] spDuo := ok_duo T
  refine T.F_read_text.ok sc_read_text (fun vs H Q E h => ?_) (fun cdv A outer s H vs Q E hr h => ?_)
  · obtain ⟨k, s, rfl, _⟩ := h
    rfl
  · obtain ⟨k, s, rfl, hk, hs, q⟩ := h

    refine ⟨_, pss_cons (ps_par3 (i := 2) (j := 3) (l := 4) (by rfl) sc_read_text.nd rfl rfl rfl (by decide) (by decide) (by decide) rfl rfl rfl (pa_cons (pe_split (pv 1) pe_str) (pa_cons (pe_lst pa_nil) (pa_cons (pe_lst pa_nil) pa_nil))) (by rfl)) <|
      pss_cons (ps_if (PW.pt (pw_and (pt_cmpR op_eq (pv 0) pe_int (nomark _)) (pw_and1 (pt_cmpR op_eq (pv 1) pe_str (nomark _))))) (pss_one (ps_ret (pe_lst pa_nil))) pss_nil) <|
      pss_cons (ps_for PassesOwn.never rfl (pi_enum (by rfl) T.n_enumerate (pa_cons (pv 2) pa_nil)) (pg_tup (by rfl) (pgs_cons (pg_name (i := 5) sc_read_text.nd rfl (.inl rfl)) (pgs_cons (pg_name (i := 6) sc_read_text.nd rfl (.inl rfl)) (pgs_nil))))
        (pss_cons (ps_set (i := 7) sc_read_text.nd rfl (.inl rfl) (pe_call GD hr (by rfl) T.g_duo T.F_duo.kp T.b_duo .nil pass0 (pa_cons (pv 6) pa_nil))) <|
      pss_cons (ps_if (pt_cmpR op_isN (pv 7) pe_non (nomark _)) (pss_one (ps_ret (pe_tup (pa_cons pe_str (pa_cons (pv 5) pa_nil))))) pss_nil) <|
      pss_cons (ps_set (i := 8) sc_read_text.nd rfl (.inl rfl) (pe_or (pe_cmpR op_in_seq (pe_ix ix_tup (pv 7) pe_int (fun _ _ => rfl)) (pv 4) (by rfl)) (pe_one (pe_cmpR op_in_seq (pe_ix ix_tup (pv 7) pe_int (fun _ _ => rfl)) (pv 4) (by rfl))))) <|
      pss_cons (ps_if (PW.pt (pw_and (pt_cmpR op_eq (pv 0) pe_int (nomark _)) (pw_and1 (PW.pt (pw_or (pt_cmpR op_ge (pe_ix ix_tup (pv 7) pe_int (fun _ _ => rfl)) (pe_op op_mul pe_int (pe_callB call_len_seq (by rfl) T.n_len PySem.boot_len (pa_cons (pv 2) pa_nil))) (nomark _)) (pw_or1 (pt_val (pv 8)))))))) (pss_one (ps_ret (pe_tup (pa_cons pe_str (pa_cons (pv 5) pa_nil))))) pss_nil) <|
      pss_cons (ps_if (PW.pt (pw_and (pt_cmpR op_eq (pv 0) pe_int (nomark _)) (pw_and (pt_cmpR (op_neNil hr.units) (pv 3) (pe_lst pa_nil) (nomark _)) (pw_and1 (pt_cmpR (op_ltT (Nat.lt_of_le_of_lt (Nat.le_add_right _ 64) hr.units)) (pv 7) (pe_ix ix_list (pv 3) (pe_un un_neg pe_int) (fun _ _ => rfl)) (nomark _)))))) (pss_one (ps_ret (pe_tup (pa_cons pe_str (pa_cons (pv 5) pa_nil))))) pss_nil) <|
      pss_cons (ps_expr (pe_bm PySem.F.plainAttrs_list PySem.F.slot_list_append PySem.F.type_list_append mt_append (pv 3) (pa_cons (pv 7) pa_nil))) <|
      pss_one (ps_set (i := 4) sc_read_text.nd rfl (.inl rfl) (pe_op op_cat (pv 4) (pe_callTy call_list_of (by rfl) T.n_list (by decide +kernel) (pa_cons (pv 7) pa_nil)))))) <|
      pss_cons (ps_if (pt_cmpR op_eq (pv 0) pe_int (nomark _)) (pss_one (ps_ret (pv 3))) pss_nil) <|
      pss_cons (ps_set (i := 9) sc_read_text.nd rfl (.inl rfl) (pe_op op_rep (pe_lst (pa_cons pe_int pa_nil)) (pe_op op_mul pe_int (pe_callB call_len_seq (by rfl) T.n_len PySem.boot_len (pa_cons (pv 3) pa_nil))))) <|
      pss_cons (ps_for PassesOwn.never rfl (pi_list (pv 3)) (pg_tup (by rfl) (pgs_cons (pg_name (i := 10) sc_read_text.nd rfl (.inl rfl)) (pgs_cons (pg_name (i := 11) sc_read_text.nd rfl (.inl rfl)) (pgs_nil))))
        (pss_one (ps_asg (pe_tup (pa_cons (pv 11) (pa_cons (pv 10) pa_nil))) (pg_tup rfl (pgs_cons (pg_sub (pv 9) (pv 10) set_list) (pgs_cons (pg_sub (pv 9) (pv 11) set_list) pgs_nil)))))) <|
      pss_one (ps_ret (pe_callTy call_tuple_of (by rfl) T.n_tuple (by decide +kernel) (pa_cons (pv 9) pa_nil))), ?_⟩
    have lparts : ∀ x ∈ Txt.split s " ", x.length ≤ 10000 := fun x hx => by
      have := split_le s " " (by rw [tl_gap]; simp) (by decide +kernel) x hx
      omega
    have lws : (Txt.split s " ").length ≤ 1001 := by have := split_many s " " (by rw [tl_gap]; simp) (by decide +kernel); omega
    have eR : rdD k s = if k = 1 ∧ s = "." then .list [] else match scan k (Txt.split s " ").length (Txt.split s " ") 0 [] with
      | .inl i => .tuple [.str "bad", .int (i : Nat)]
      | .inr qs => if k = 1 then .list (qs.map pd) else .tuple (nd (rowOf qs (List.replicate (2 * qs.length) 0))) := rfl
    refine ⟨_, rfl, ⟨_, rfl⟩, _, _, rfl, rfl, by decide +kernel, by exact Nat.le_of_lt (line_big (by omega)), fun l nl => ?_⟩
    revert lparts lws eR
    generalize Txt.split s " " = ws
    intro lparts lws eR
    have s1 := same_new (o := .lst (ws.map V.str)) nl
    refine ⟨by show 0 ≤ sizeLine; decide, fun f nf => ?_⟩
    have s2 := same_new (o := .lst []) nf
    refine ⟨by show 0 ≤ sizeLine; decide, fun m0 nm => ⟨_, _, _, rfl, ?_⟩⟩
    have s3 := same_new (o := .lst []) nm
    have lf : l ≠ f := fun z => by rw [← z, upd_same] at nf; cases nf
    have fm0 : f ≠ m0 := fun z => by rw [← z, upd_same] at nm; cases nm
    have nf0 : H f = none := s1.free nf
    have sm0 : Same H _ := s1.trans (s2.trans s3)
    have el := (s2.trans s3) _ _ (upd_same (H := H) (a := l) (o := .lst (ws.map V.str)))
    have ef := s3 _ _ (upd_same (H := upd H l (.lst (ws.map V.str))) (a := f) (o := .lst []))
    have em : (upd (upd (upd H l (.lst (ws.map V.str))) f (.lst [])) m0 (.lst [])) m0 = some (.lst []) := upd_same
    revert sm0 el ef em
    clear s1 s2 s3 nl nf nm
    generalize upd (upd (upd H l (.lst (ws.map V.str))) f (.lst [])) m0 (.lst []) = H1
    intro sm0 el ef em
    first | refine st_nx ?_ | refine st_at [some (.int (k : Nat)), some (.str s), some (.ref l), some (.ref f), some (.ref m0), none, none, none, none, none, none, none] rfl ?_
    refine tjoinR (t := tIfS _ _ _) (fun σ' J => σ' = [some (.int (k : Nat)), some (.str s), some (.ref l), some (.ref f), some (.ref m0), none, none, none, none, none, none, none] ∧ J = H1 ∧ ¬ (k = 1 ∧ s = ".")) (fun Nx hNx => ?_) (fun σ' J hJ => ?_)
    · refine ⟨_, rfl, rfl, _, rfl, ite2 (fun a1 => ?_) (fun a1 => hNx _ _ ⟨rfl, rfl, fun z => a1 (decide_eq_true (by rw [z.1]; rfl))⟩)⟩
      refine ⟨_, rfl, rfl, _, rfl, ite2 (fun a2 => ?_) (fun a2 => hNx _ _ ⟨rfl, rfl, fun z => a2 (decide_eq_true (congrArg V.str z.2))⟩)⟩
      have k1 : k = 1 := by have := V.int.inj (of_decide_eq_true a1); omega
      have sd : s = "." := V.str.inj (of_decide_eq_true a2)
      refine ⟨by show 0 ≤ sizeLine; decide, fun r nr => q _ _ (sm0.trans (same_new nr)) ?_⟩
      rw [eR, if_pos ⟨k1, sd⟩]
      exact .lst (.inl (.inl upd_same)) .nil
    obtain ⟨rfl, rfl, hnd⟩ := hJ
    rw [if_neg hnd] at eR
    refine ⟨.ref l, rfl, l, _, rfl, .inl (.inl el), ?_⟩
    refine for_it (walk_enum (xs := ws.map V.str)) (fun i σ H' => Same H H' ∧ H' l = some (.lst (ws.map V.str)) ∧ ∃ (y5 y6 y7 y8 : Option V) (m : Addr) (as : List Addr) (qs : List (Nat × Nat)) (ms : List Nat), σ = [some (.int (k : Nat)), some (.str s), some (.ref l), some (.ref f), some (.ref m), y5, y6, y7, y8, none, none, none] ∧ H' f = some (.lst (as.map V.ref)) ∧ Prs H' as qs ∧ f ≠ m ∧ H' m = some (.lst (nv ms)) ∧ ms.length = 2 * i ∧ (∀ y : Nat, decide (y ∈ ms) = qs.any (fun q => decide (q.1 = y) || decide (q.2 = y))) ∧ scan k ws.length (ws.drop i) i qs = scan k ws.length ws 0 [] ∧ qs.length = i ∧ (k = 0 → ∀ p ∈ qs, p.1 < 2 * ws.length ∧ p.2 < 2 * ws.length))
      ⟨sm0, el, none, none, none, none, m0, [], [], [], rfl, ef, .nil, fm0, em, rfl, fun y => rfl, rfl, rfl, fun _ p hp => by simp at hp⟩ (fun i σ H' _ h => .inl (.inl h.2.1)) (fun i x σ H3 H4 hi h y => ?_) (fun σ H' h => ?_)
    · obtain ⟨sm, el3, y5, y6, y7, y8, m, as, qs, ms, rfl, ef3, hA, fm, em3, hml, hM, hQ, hql, hqb⟩ := h
      obtain ⟨tp, v1, v2, rfl, ntp, rfl, g1, g2⟩ := y
      have ev1 : v1 = .int (i : Nat) := (Option.some.inj g1).symm
      replace g2 := (show (List.map V.str ws)[i]? = some v2 from g2)
      rw [List.getElem?_map] at g2
      obtain ⟨u, eu, rfl⟩ := Option.map_eq_some_iff.mp g2
      subst ev1
      have hm := List.mem_of_getElem? eu
      rw [drop_at eu] at hQ
      have hil : i < ws.length := (List.getElem?_eq_some_iff.mp eu).1
      have st := same_new (o := .tup [.int (i : Nat), .str u]) ntp
      have badr : ∀ {H6 : Hp} {t : Addr}, Same H H6 → H6 t = some (.tup [.str "bad", .int (i : Nat)]) → scan k ws.length ws 0 [] = .inl i → Q (.ref t) H6 := fun {H6 t} s6 e6 eS => q _ _ s6 (by
        rw [eR, eS]
        exact .tup (.inl (.inl e6)) (.cons (.str _) (.cons (.int _) .nil)))
      refine ⟨tp, _, rfl, .inl (.inl upd_same), rfl, _, _, rfl, _, _, rfl, rfl, ?_⟩
      refine ⟨_, rfl, u, rfl, lparts u hm, fun e0 H5 s5 => ?_, fun p e0 H5 t s5 nt et => ?_⟩
      · refine ⟨_, rfl, rfl, _, rfl, iteY rfl ⟨_, rfl, by show 2 ≤ sizeLine; decide, fun t nt => ?_⟩⟩
        exact badr ((sm.trans (st.trans s5)).trans (same_new nt)) upd_same (by rw [← hQ, scan_none e0])
      have s35 := st.trans s5
      have ef5 := s35 _ _ ef3
      have em5 := s35 _ _ em3
      have el5 := s35 _ _ el3
      have hA5 := prs_same s35 hA
      have sm5 := sm.trans s35
      have tf : t ≠ f := fun z => by rw [z, ef5] at et; cases et
      have hAl : as.length = i := by rw [hA.length, hql]
      have hplt : p.1 < p.2 := duo_lt e0
      have hw : (ws.map V.str).length = ws.length := List.length_map _
      have ht5 : SqT K H5 t [.int (p.1 : Nat), .int (p.2 : Nat)] := .inl (.inl et)
      have flat : (nv ms).all flatV = true := List.all_eq_true.mpr fun v hv => by obtain ⟨z, _, rfl⟩ := List.mem_map.mp hv; rfl
      have eB : badB ws.length qs p = (decide (2 * ws.length ≤ p.2) || (decide (p.1 ∈ ms) || decide (p.2 ∈ ms)) || (match qs.getLast? with
     | none => false
     | some r => HT.lexLt [(p.1 : Int), (p.2 : Int)] [(r.1 : Int), (r.2 : Int)])) := by rw [hM, hM]; rfl
      refine ⟨_, rfl, rfl, _, rfl, iteX rfl ?_⟩
      -- seen?
      first | refine st_nx ?_ | refine st_at [some (.int (k : Nat)), some (.str s), some (.ref l), some (.ref f), some (.ref m), some (.int (i : Nat)), some (.str u), some (.ref t), y8, none, none, none] rfl ?_
      refine tjoinR (t := tAsg _ _) (fun σ' J => σ' = [some (.int (k : Nat)), some (.str s), some (.ref l), some (.ref f), some (.ref m), some (.int (i : Nat)), some (.str u), some (.ref t), some (.bl (decide (p.1 ∈ ms) || decide (p.2 ∈ ms))), none, none, none] ∧ J = H5) (fun Nx hNx => ?_) (fun σ' J hJ => ?_)
      · refine ⟨_, rfl, t, _, 0, _, rfl, rfl, ht5, rfl, _, rfl, m, nv ms, rfl, .inl (.inl (.inl em5)), rfl, flat, _, rfl, ?_⟩
        show if inV (V.int (p.1 : Nat)) (nv ms) = true then _ else _
        rw [in_nat]
        refine ite2 (fun c => ?_) (fun c => ?_)
        · refine st_set [some (.int (k : Nat)), some (.str s), some (.ref l), some (.ref f), some (.ref m), some (.int (i : Nat)), some (.str u), some (.ref t), some (.bl (decide (p.1 ∈ ms) || decide (p.2 ∈ ms))), none, none, none] ?_ (by rw [show decide (p.1 ∈ ms) = true from c, Bool.true_or]; rfl)
          exact hNx _ _ ⟨rfl, rfl⟩
        · refine ⟨_, rfl, t, _, 1, _, rfl, rfl, ht5, rfl, _, rfl, m, nv ms, rfl, .inl (.inl (.inl em5)), rfl, flat, ?_⟩
          refine st_set [some (.int (k : Nat)), some (.str s), some (.ref l), some (.ref f), some (.ref m), some (.int (i : Nat)), some (.str u), some (.ref t), some (.bl (decide (p.1 ∈ ms) || decide (p.2 ∈ ms))), none, none, none] ?_ (by
            rw [show decide (p.1 ∈ ms) = false from Bool.eq_false_iff.mpr c, Bool.false_or, ← in_nat]; rfl)
          exact hNx _ _ ⟨rfl, rfl⟩
      obtain ⟨rfl, rfl⟩ := hJ
      have badT : ∀ {H6 : Hp} {t' : Addr}, Same J H6 → H6 t' = some (.tup [.str "bad", .int (i : Nat)]) → k = 0 → badB ws.length qs p = true → Q (.ref t') H6 := fun {H6 t'} s6 e6 k0 hb => badr (sm5.trans s6) e6 (by rw [← hQ, scan_some e0, k0, hb]; rfl)
      refine tjoinR (t := tIfS _ _ _) (fun σ' J' => σ' = [some (.int (k : Nat)), some (.str s), some (.ref l), some (.ref f), some (.ref m), some (.int (i : Nat)), some (.str u), some (.ref t), some (.bl (decide (p.1 ∈ ms) || decide (p.2 ∈ ms))), none, none, none] ∧ J' = J ∧ (k = 0 → ¬ 2 * ws.length ≤ p.2 ∧ (decide (p.1 ∈ ms) || decide (p.2 ∈ ms)) = false)) (fun Nx hNx => ?_) (fun σ' J' hJ => ?_)
      · refine ⟨_, rfl, rfl, _, rfl, ite2 (fun a1 => ?_) (fun a1 => hNx _ _ ⟨rfl, rfl, fun z => absurd (decide_eq_true (by rw [z]; rfl)) a1⟩)⟩
        have k0 : k = 0 := by have := V.int.inj (of_decide_eq_true a1); omega
        refine ⟨_, rfl, t, _, 1, _, rfl, rfl, ht5, rfl, .ref l, rfl, l, _, rfl, .inl (.inl (.inl el5)), 2, _, rfl, rfl, .inl ⟨by decide, by decide⟩, _, _, rfl, rfl, _, rfl, ite2 (fun c1 => ?_) (fun c1 => ?_)⟩
        · refine ⟨_, rfl, by show 2 ≤ sizeLine; decide, fun t' nt' => badT (same_new nt') upd_same k0 ?_⟩
          have h1 := of_decide_eq_true c1
          rw [hw] at h1
          rw [eB, decide_eq_true (show 2 * ws.length ≤ p.2 by omega)]; rfl
        · have h1 : ¬ 2 * ws.length ≤ p.2 := fun z => c1 (decide_eq_true (by rw [hw]; omega))
          refine ⟨_, rfl, _, rfl, ite2 (fun c2 => ?_) (fun c2 => hNx _ _ ⟨rfl, rfl, fun _ => ⟨h1, Bool.eq_false_iff.mpr c2⟩⟩)⟩
          refine ⟨_, rfl, by show 2 ≤ sizeLine; decide, fun t' nt' => badT (same_new nt') upd_same k0 ?_⟩
          rw [eB, c2]; simp
      obtain ⟨rfl, rfl, hgood⟩ := hJ
      refine tjoinR (t := tIfS _ _ _) (fun σ' J1 => σ' = [some (.int (k : Nat)), some (.str s), some (.ref l), some (.ref f), some (.ref m), some (.int (i : Nat)), some (.str u), some (.ref t), some (.bl (decide (p.1 ∈ ms) || decide (p.2 ∈ ms))), none, none, none] ∧ Same J' J1 ∧ (k = 0 → badB ws.length qs p = false)) (fun Nx hNx => ?_) (fun σ' J1 hJ => ?_)
      · refine ⟨_, rfl, rfl, _, rfl, ite2 (fun a1 => ?_) (fun a1 => hNx _ _ ⟨rfl, Same.refl _, fun z => absurd (decide_eq_true (by rw [z]; rfl)) a1⟩)⟩
        have k0 : k = 0 := by have := V.int.inj (of_decide_eq_true a1); omega
        obtain ⟨h1, h2⟩ := hgood k0
        refine ⟨_, rfl, by show 0 ≤ sizeLine; decide, fun e ne => ?_⟩
        have se := same_new (o := .lst []) ne
        refine ⟨f, e, as.map V.ref, rfl, rfl, .inl (.inl (se _ _ ef5)), .inl (.inl upd_same), _, rfl, ite2 (fun c => ?_) (fun c => hNx _ _ ⟨rfl, se, fun _ => ?_⟩)⟩
        · obtain ⟨as0, tl0, eas⟩ : ∃ (as0 : List Addr) (tl0 : Addr), as = as0 ++ [tl0] := by
            have hne2 : as ≠ [] := fun e => by rw [e] at c; exact absurd c (by decide)
            exact ⟨as.dropLast, as.getLast hne2, (List.dropLast_concat_getLast hne2).symm⟩
          obtain ⟨r, er, hr0⟩ := prs_get (i := as0.length) hA5 (show as[as0.length]? = some tl0 by rw [eas]; simp)
          have hlast : qs.getLast? = some r := by
            rw [List.getLast?_eq_getElem?, ← er]
            congr 1
            have : as.length = as0.length + 1 := by rw [eas]; simp
            omega
          refine ⟨_, rfl, _, rfl, 1, rfl, f, _, _, .ref tl0, rfl, rfl, .inl (.inl (se _ _ ef5)), by rw [eas, List.map_append]; exact atI_last _ _, t, tl0, [(p.1 : Int), (p.2 : Int)], [(r.1 : Int), (r.2 : Int)], rfl, rfl, same_tup se ht5, .inl (.inl (se _ _ hr0)), _, rfl, ite2 (fun c4 => ?_) (fun c4 => hNx _ _ ⟨rfl, se, fun _ => ?_⟩)⟩
          · refine ⟨_, rfl, by show 2 ≤ sizeLine; decide, fun t' nt' => badT (se.trans (same_new nt')) upd_same k0 ?_⟩
            rw [eB, hlast]
            show (_ || HT.lexLt [(p.1 : Int), (p.2 : Int)] [(r.1 : Int), (r.2 : Int)]) = true
            rw [c4, Bool.or_true]
          · rw [eB, decide_eq_false h1, h2, hlast]
            exact Bool.eq_false_iff.mpr c4
        · have has : as = [] := by
            cases as with
            | nil => rfl
            | cons x r => exact absurd rfl c
          have hq0 : qs = [] := List.eq_nil_of_length_eq_zero (by rw [hql, ← hAl, has]; rfl)
          rw [eB, decide_eq_false h1, h2, hq0]; rfl
      obtain ⟨rfl, sJ, hok⟩ := hJ
      have ef6 := sJ _ _ ef5
      have em6 := sJ _ _ em5
      have el6 := sJ _ _ el5
      have et6 := sJ _ _ et
      have hA6 := prs_same sJ hA5
      have sm6 := sm5.trans sJ
      refine ⟨_, rfl, .inl ⟨rfl, _, .inl (.inl ef6)⟩, _, rfl, f, as.map V.ref, _, rfl, rfl, ef6, by rw [List.length_map]; exact line_big (by omega), ?_⟩
      have sm7 : Same H (upd J1 f (.lst (as.map V.ref ++ [.ref t]))) := fun y o hy => by rw [upd_ne (ne_of_none hy nf0)]; exact sm6 _ _ hy
      have el7 : (upd J1 f (.lst (as.map V.ref ++ [.ref t]))) l = some (.lst (ws.map V.str)) := by rw [upd_ne lf]; exact el6
      have ef7 : (upd J1 f (.lst (as.map V.ref ++ [.ref t]))) f = some (.lst ((as ++ [t]).map V.ref)) := by rw [upd_same, List.map_append]; rfl
      have em7 : (upd J1 f (.lst (as.map V.ref ++ [.ref t]))) m = some (.lst (nv ms)) := by rw [upd_ne fm.symm]; exact em6
      have et7 : (upd J1 f (.lst (as.map V.ref ++ [.ref t]))) t = some (.tup [.int (p.1 : Nat), .int (p.2 : Nat)]) := by rw [upd_ne tf]; exact et6
      have hA7 : Prs (upd J1 f (.lst (as.map V.ref ++ [.ref t]))) (as ++ [t]) (qs ++ [p]) := prs_append (prs_keep (b := f) keep_upd ef6 hA6) (.cons et7 .nil)
      revert sm7 el7 ef7 em7 et7 hA7
      generalize upd J1 f (.lst (as.map V.ref ++ [.ref t])) = J2
      intro sm7 el7 ef7 em7 et7 hA7
      refine ⟨_, rfl, _, rfl, t, _, rfl, .inr (.inl (.inl et7)), fun l2 nl2 => ?_⟩
      have sa := same_new (o := .lst [.int (p.1 : Nat), .int (p.2 : Nat)]) nl2
      refine ⟨m, l2, _, _, rfl, rfl, sa _ _ em7, upd_same, by rw [nv_length]; exact Nat.le_of_lt (line_big (by show _ + 2 ≤ _; omega)), fun m2 nm2 => ?_⟩
      have sb := same_new (o := .lst (nv ms ++ [.int (p.1 : Nat), .int (p.2 : Nat)])) nm2
      have sab := sa.trans sb
      refine ⟨sm7.trans sab, sab _ _ el7, _, _, _, _, m2, as ++ [t], qs ++ [p], ms ++ [p.1, p.2], rfl, sab _ _ ef7, prs_same sab hA7, ne_of_none (sa _ _ ef7) nm2, ?_, by rw [List.length_append, hml]; show 2 * i + 2 = _; omega, fun y => ?_, ?_, by rw [List.length_append, hql]; rfl, fun k0 p' hp' => ?_⟩
      · rw [upd_same]; unfold nv; rw [List.map_append]; rfl
      · rw [List.any_append, ← hM y]
        show decide (y ∈ ms ++ [p.1, p.2]) = (decide (y ∈ ms) || ((decide (p.1 = y) || decide (p.2 = y)) || false))
        rw [Bool.or_false, ← Bool.decide_or, ← Bool.decide_or]
        refine decide_eq_decide.mpr ?_
        simp only [List.mem_append, List.mem_cons, List.not_mem_nil, or_false]
        constructor <;> rintro (z | z | z) <;> first | exact .inl z | exact .inr (.inl z.symm) | exact .inr (.inr z.symm)
      · rw [← hQ, scan_some e0]
        by_cases k0 : k = 0
        · rw [hok k0, Bool.and_false]; rfl
        · rw [decide_eq_false k0, Bool.false_and]; rfl
      · rcases List.mem_append.mp hp' with z | z
        · exact hqb k0 p' z
        · have := (hgood k0).1
          rw [List.mem_singleton.mp z]; omega
    · obtain ⟨sm, el3, y5, y6, y7, y8, m, as, qs, ms, rfl, ef3, hA, fm, em3, hml, hM, hQ, hql, hqb⟩ := h
      rw [List.length_map] at hql
      rw [List.length_map, List.drop_length, scan_end] at hQ
      rw [← hQ] at eR
      refine ⟨_, rfl, rfl, _, rfl, ite2 (fun a1 => ?_) (fun a1 => ?_)⟩
      · have k1 : k = 1 := by have := V.int.inj (of_decide_eq_true a1); omega
        refine ⟨_, rfl, q _ _ sm ?_⟩
        rw [eR]
        show Dp K H' (.ref f) (if k = 1 then .list (qs.map pd) else _)
        rw [if_pos k1]
        exact .lst (.inl (.inl ef3)) (prs_dp hA)
      have k1 : ¬ k = 1 := fun z => a1 (decide_eq_true (by rw [z]; rfl))
      have k0 : k = 0 := by omega
      have hal : (as.map V.ref).length = qs.length := by rw [List.length_map]; exact hA.length
      refine ⟨by show 1 ≤ sizeLine; decide, fun e ne => ?_⟩
      have s0 := same_new (o := .lst [.int 0]) ne
      refine ⟨_, rfl, f, _, rfl, .inl (.inl (.inl (s0 _ _ ef3))), 2, _, rfl, rfl, .inl ⟨by decide, by decide⟩, e, _, [.int 0], rfl, rfl, upd_same, by omega, by omega, ?_, fun g ng => ?_⟩
      · show 1 * Int.toNat (2 * ((as.map V.ref).length : Int)) ≤ sizeLine
        exact Nat.le_of_lt (line_big (by omega))
      have e0 : (List.replicate (2 * ((as.map V.ref).length : Int)).toNat [V.int 0]).flatten = nv (List.replicate (2 * qs.length) 0) := by
        rw [rep_flat, show (2 * ((as.map V.ref).length : Int)).toNat = 2 * qs.length by omega]
        unfold nv
        rw [List.map_replicate]; rfl
      have ng0 : H g = none := sm.free (s0.free ng)
      have s1 := s0.trans (same_new (o := .lst (List.replicate (2 * ((as.map V.ref).length : Int)).toNat [V.int 0]).flatten) ng)
      have eg : (upd (upd H' e (.lst [.int 0])) g (.lst (List.replicate (2 * ((as.map V.ref).length : Int)).toNat [V.int 0]).flatten)) g = some (.lst (nv (List.replicate (2 * qs.length) 0))) := by rw [upd_same, e0]
      have fg : f ≠ g := ne_of_none (s0 _ _ ef3) ng
      revert s1 eg
      generalize upd (upd H' e (.lst [.int 0])) g (.lst (List.replicate (2 * ((as.map V.ref).length : Int)).toNat [V.int 0]).flatten) = HA
      intro s1 eg
      have smA := sm.trans s1
      have efA := s1 _ _ ef3
      have hAA := prs_same s1 hA
      refine ⟨_, rfl, f, rfl, ⟨_, .inl (.inl efA)⟩, for_list (xs := as.map V.ref) (fun i σ H2 => Same H H2 ∧ H2 f = some (.lst (as.map V.ref)) ∧ Prs H2 as qs ∧ ∃ y5 y6 y7 y8 y10 y11 : Option V, σ = [some (.int (k : Nat)), some (.str s), some (.ref l), some (.ref f), some (.ref m), y5, y6, y7, y8, some (.ref g), y10, y11] ∧ H2 g = some (.lst (nv (rowOf (qs.take i) (List.replicate (2 * qs.length) 0))))) ⟨smA, efA, hAA, _, _, _, _, _, _, rfl, eg⟩ (fun i σ H2 _ h => .inl (.inl h.2.1)) (fun i x σ H2 hx h => ?_) (fun σ H2 h => ?_)⟩
      · obtain ⟨sm2, ef2, hA2, w5, w6, w7, w8, w10, w11, rfl, eg2⟩ := h
        rw [List.getElem?_map] at hx
        obtain ⟨u, eu, rfl⟩ := Option.map_eq_some_iff.mp hx
        obtain ⟨p, ep, hu⟩ := prs_get hA2 eu
        obtain ⟨l1, l2⟩ := hqb k0 p (List.mem_of_getElem? ep)
        have hl : (nv (rowOf (qs.take i) (List.replicate (2 * qs.length) 0))).length = 2 * qs.length := by rw [nv_length, rowOf_len, List.length_replicate]
        refine ⟨u, _, rfl, .inl (.inl hu), rfl, _, _, rfl, _, _, rfl, rfl, _, rfl, _, rfl, by show 2 ≤ sizeLine; decide, fun tt ntt => ?_⟩
        have stt := same_new (o := .tup [.int (p.2 : Nat), .int (p.1 : Nat)]) ntt
        refine ⟨tt, _, rfl, .inl (.inl upd_same), rfl, _, _, rfl, _, rfl, _, rfl, g, _, _, p.1, rfl, rfl, stt _ _ eg2, ixN_nat (by omega), _, _, rfl, _, rfl, _, rfl, g, _, _, p.2, rfl, rfl, upd_same, ?_, rfl, fun b o hb => ?_, by rw [upd_ne fg, upd_ne fg]; exact stt _ _ ef2, prs_keep (b := g) keep_upd upd_same (prs_keep (b := g) keep_upd (stt _ _ eg2) (prs_same stt hA2)), _, _, _, _, _, _, rfl, ?_⟩
        · rw [List.length_set]; exact ixN_nat (by omega)
        · rw [upd_ne (ne_of_none hb ng0), upd_ne (ne_of_none hb ng0)]; exact stt _ _ (sm2 _ _ hb)
        · rw [upd_same, List.take_add_one, ep, nv_set, nv_set]
          show _ = some (HO.lst (nv (rowOf (qs.take i ++ [p]) _)))
          rw [rowOf_snoc]
      · obtain ⟨sm2, ef2, hA2, w5, w6, w7, w8, w10, w11, rfl, eg2⟩ := h
        rw [hal, List.take_length] at eg2
        refine ⟨_, rfl, g, _, rfl, .inl ⟨.inl (.inl eg2), fun l' nl' => q _ _ (sm2.trans (same_new nl')) ?_⟩⟩
        rw [eR]
        show Dp K _ (.ref l') (if k = 1 then _ else .tuple (nd (rowOf qs (List.replicate (2 * qs.length) 0))))
        rw [if_neg k1]
        exact .tup (.inl (.inl upd_same)) (dp_nats _)
end
end Pc
namespace Pc
open PySem PySem.Spec PyProof.Rows L2 RZ
section
variable {P : Program} {w : World} {K : PySem.W.Frag} {mg : Str → Option Value} {base : Heap}
/-! ### what the program reads, or says -/
theorem ok_told (T : Env K mg) : FnOk P w K mg base CX0 5 T.f_told T.d_told ["_law_kind", "_law_message"] (spRead K) := by
  have GW : FnOk P w K mg base (L2.CX P w) 4 T.f_p_word_in T.d_p_word_in ["text"] (spWordInG T.C_BadText) := okx_p_word_in T
  have GP : FnOk P w K mg base (L2.CX P w) 4 T.f_p_pairing_in T.d_p_pairing_in ["text"] (spPairingInG T.C_BadText) := okx_p_pairing_in T
  refine T.F_told.ok sc_told (fun vs H Q E h => ?_) (fun cdv A outer s H vs Q E hr h => ?_)
  · obtain ⟨k, x, rfl, _⟩ := h
    rfl
  · obtain ⟨k, x, rfl, hk, hx, q⟩ := h
    refine ⟨_, pss_cons (ps_asg (pe_tup (pa_cons pe_non (pa_cons pe_non pa_nil))) (pg_tup rfl (pgs_cons (pg_name (i := 2) sc_told.nd rfl (.inl rfl)) (pgs_cons (pg_name (i := 3) sc_told.nd rfl (.inl rfl)) pgs_nil)))) <|
      pss_cons (ps_try_kept (i := 4) (cs := [.ref T.C_BadLine, .ref T.C_BadText]) rfl rfl rfl sc_told.nd rfl rfl (.cons ⟨_, _, rfl, by rfl, by decide, .inl T.gC_BadLine⟩ (.cons ⟨_, _, rfl, by rfl, by decide, .inl T.gC_BadText⟩ .nil)) (by show 2 ≤ 1000; decide)
        (fun W pn xe tk _ => pss_one (ps_set (i := 2) sc_told.nd rfl (.inl rfl) (pe_ifExp (pt_cmpR op_eq (pv 0) pe_int (nomark _)) (pe_callS GP hr (by rfl) T.g_p_pairing_in T.F_p_pairing_in.kp T.b_p_pairing_in (fun σ => passAt tk σ) (pa_cons (pv 1) pa_nil)) (pe_callS GW hr (by rfl) T.g_p_word_in T.F_p_word_in.kp T.b_p_word_in (fun σ => passAt tk σ) (pa_cons (pv 1) pa_nil)))))
        (fun a oe pn => pss_one (ps_set (i := 3) sc_told.nd rfl (.inl rfl) (pv 4)))) <|
      pss_cons (ps_if (pt_cmpR op_isN (pv 3) pe_non (nomark _)) (pss_one (ps_ret (pv 2))) pss_nil) <|
      pss_cons (ps_set (i := 5) sc_told.nd rfl (.inl rfl) (pe_and (pe_callB call_isk (by rfl) T.n_isinstance (by decide +kernel) (pa_cons (pv 3) (pa_cons (pe_glob (v := .ref T.C_BadText) (by rfl) T.gC_BadText rfl) pa_nil))) (pe_and (pe_callB call_isk (by rfl) T.n_isinstance (by decide +kernel) (pa_cons (pv 3) (pa_cons (pe_bltn (v := .ty "ValueError") (by rfl) T.n_ValueError (by decide +kernel) rfl) pa_nil))) (pe_one (pe_not (pe_callB call_isk (by rfl) T.n_isinstance (by decide +kernel) (pa_cons (pv 3) (pa_cons (pe_glob (v := .ref T.C_BadLine) (by rfl) T.gC_BadLine rfl) pa_nil)))))))) <|
      pss_one (ps_ret (pe_ifExp (pt_val (pv 5)) (pe_tup (pa_cons pe_str (pa_cons (pe_kf (pv 3)) pa_nil))) pe_non)), ?_⟩
    refine ⟨by show 2 ≤ sizeLine; decide, fun t0 nt0 => ⟨t0, _, rfl, .inl (.inl upd_same), rfl, _, _, rfl, _, _, rfl, rfl, ?_⟩⟩
    have s0 : Same H (upd H t0 (.tup [.non, .non])) := same_new nt0
    revert s0
    generalize upd H t0 (.tup [.non, .non]) = H0
    intro s0
    refine st_eq (t := tSeq _ _) [some (.int (k : Nat)), some (.str x), some .non, some .non, none, none] ?_ rfl
    have e1 : rdD k x = if k = 1 ∧ x = "." then .list [] else match scan k (Txt.split x " ").length (Txt.split x " ") 0 [] with
      | .inl i => .tuple [.str "bad", .int (i : Nat)]
      | .inr qs => if k = 1 then .list (qs.map pd) else .tuple (nd (rowOf qs (List.replicate (2 * qs.length) 0))) := rfl
    refine ⟨_, rfl, rfl, _, rfl, ite2 (fun c => ?_) (fun c => ?_)⟩
    · have k0 : k = 0 := by have := V.int.inj (of_decide_eq_true c); omega
      subst k0
      rw [if_neg (by omega)] at e1
      refine ⟨_, rfl, x, rfl, hx, fun qs e H1 t s1 nt et => ?_, fun i e => ?_⟩
      · refine st_set [some (.int 0), some (.str x), some (.ref t), some .non, none, none] ?_ rfl
        refine ⟨_, rfl, rfl, _, rfl, iteY rfl ⟨_, rfl, q H1 _ (s0.trans s1) ?_⟩⟩
        rw [e1, e]
        exact .tup (.inl (.inl et)) (dp_nats _)
      · refine kept1 (hits_of [false, true] rfl (.cons T.ex_BadText_BadLine (.cons T.ee_BadText .nil))) fun d1 H2 x3 s4 n5 ed6 n7 ne8 => ⟨_, rfl, ?_⟩
        have hK : Kept (upd H2 x3 (exk x3 (.ref T.C_BadText) (some d1))) x3 T.C_BadText (some d1) := .mk1 ed6 n7
        have sH : Same H0 (upd H2 x3 (exk x3 (.ref T.C_BadText) (some d1))) := s4.trans (same_new n7)
        replace ed6 : upd H2 x3 (exk x3 (.ref T.C_BadText) (some d1)) d1 = _ := same_new n7 _ _ ed6
        refine st_set [some (.int 0), some (.str x), some .non, some (.ref x3), some (.ref x3), none] ?_ rfl
        refine st_kept [some (.int 0), some (.str x), some .non, some (.ref x3), none, none] ?_ rfl
        refine ⟨_, rfl, rfl, _, rfl, iteX (decide_eq_false (fun y => by cases y)) ?_⟩
        refine ⟨_, rfl, x3, _, _, _, _, _, rfl, hK, T.kpt_BadText, .own _, T.kk_BadText, _, rfl, iteY rfl ?_⟩
        refine ⟨_, rfl, x3, _, _, _, _, _, rfl, hK, T.kpt_BadText, .ty _, T.kb_BadText_ValueError, _, rfl, iteY rfl ?_⟩
        refine ⟨_, rfl, x3, _, _, _, _, _, rfl, hK, T.kpt_BadText, .own _, T.ki_BadText_BadLine, _, rfl, ?_⟩
        refine ⟨_, rfl, _, rfl, iteY rfl ?_⟩
        refine ⟨_, rfl, x3, _, _, _, _, rfl, hK.1, T.kpt_BadText, T.no_BadText, ed6, rfl, by show 2 ≤ sizeLine; decide, fun tz nz => q _ _ (s0.trans (sH.trans (same_new nz))) ?_⟩
        rw [e1, e]
        exact .tup (.inl (.inl upd_same)) (.cons (.str _) (.cons (.int _) .nil))
    · have k1 : k = 1 := by
        rcases (show k = 0 ∨ k = 1 by omega) with z | z
        · subst z; exact absurd rfl c
        · exact z
      subst k1
      refine ⟨_, rfl, x, rfl, by omega, fun hd H1 l s1 nl el => ?_, fun hd qs e H1 l as s1 nl el hA => ?_, fun hd i e => ?_⟩
      · refine st_set [some (.int 1), some (.str x), some (.ref l), some .non, none, none] ?_ rfl
        refine ⟨_, rfl, rfl, _, rfl, iteY rfl ⟨_, rfl, q H1 _ (s0.trans s1) ?_⟩⟩
        rw [e1, if_pos ⟨rfl, hd⟩]
        exact .lst (.inl (.inl el)) .nil
      · refine st_set [some (.int 1), some (.str x), some (.ref l), some .non, none, none] ?_ rfl
        refine ⟨_, rfl, rfl, _, rfl, iteY rfl ⟨_, rfl, q H1 _ (s0.trans s1) ?_⟩⟩
        rw [e1, if_neg (fun z => hd z.2), e]
        exact .lst (.inl (.inl el)) (prs_dp hA)
      · refine kept1 (hits_of [false, true] rfl (.cons T.ex_BadText_BadLine (.cons T.ee_BadText .nil))) fun d1 H2 x3 s4 n5 ed6 n7 ne8 => ⟨_, rfl, ?_⟩
        have hK : Kept (upd H2 x3 (exk x3 (.ref T.C_BadText) (some d1))) x3 T.C_BadText (some d1) := .mk1 ed6 n7
        have sH : Same H0 (upd H2 x3 (exk x3 (.ref T.C_BadText) (some d1))) := s4.trans (same_new n7)
        replace ed6 : upd H2 x3 (exk x3 (.ref T.C_BadText) (some d1)) d1 = _ := same_new n7 _ _ ed6
        refine st_set [some (.int 1), some (.str x), some .non, some (.ref x3), some (.ref x3), none] ?_ rfl
        refine st_kept [some (.int 1), some (.str x), some .non, some (.ref x3), none, none] ?_ rfl
        refine ⟨_, rfl, rfl, _, rfl, iteX (decide_eq_false (fun y => by cases y)) ?_⟩
        refine ⟨_, rfl, x3, _, _, _, _, _, rfl, hK, T.kpt_BadText, .own _, T.kk_BadText, _, rfl, iteY rfl ?_⟩
        refine ⟨_, rfl, x3, _, _, _, _, _, rfl, hK, T.kpt_BadText, .ty _, T.kb_BadText_ValueError, _, rfl, iteY rfl ?_⟩
        refine ⟨_, rfl, x3, _, _, _, _, _, rfl, hK, T.kpt_BadText, .own _, T.ki_BadText_BadLine, _, rfl, ?_⟩
        refine ⟨_, rfl, _, rfl, iteY rfl ?_⟩
        refine ⟨_, rfl, x3, _, _, _, _, rfl, hK.1, T.kpt_BadText, T.no_BadText, ed6, rfl, by show 2 ≤ sizeLine; decide, fun tz nz => q _ _ (s0.trans (sH.trans (same_new nz))) ?_⟩
        rw [e1, if_neg (fun z => hd z.2), e]
        exact .tup (.inl (.inl upd_same)) (.cons (.str _) (.cons (.int _) .nil))
end
end Pc
namespace Pc
open PySem PySem.Spec PyProof.Rows L2 RZ
/-! ### list(a text) -/
theorem cr_listStr {X : Cx} (hc : X.calm = true) : CallR X (.type "list") (fun xs H Q => ∃ a : Str, xs = [.str a] ∧ a.length ≤ sizeLine ∧ ∀ p, H p = none → Q (.ref p) (upd H p (.lst (a.cps.toList.map fun c => V.str ⟨#[c]⟩)))) := by
  intro pins s σ H xs us Q I r h
  obtain ⟨a, rfl, hz, q⟩ := h
  obtain ⟨u, rfl, t, rfl⟩ := vals1 r
  refine call_list_str (I.ok.hd hc) a t (hn := hz) fun h' tk acc' c' hk hS' hacc => ?_
  refine ⟨.ref _, _, I.laid (t' := tk) (o := .lst (a.cps.toList.map fun c => V.str ⟨#[c]⟩)) hk (Nat.le_refl _) ?_, rfl, q _ (I.hok.fresh (Nat.le_refl _))⟩
  refine ⟨by rw [List.length_map, Array.length_toList]; exact hz, acc'.toList, c', ?_, by simpa using hS'⟩
  have e : acc'.toList.length = a.cps.toList.length := by rw [Array.length_toList, Array.length_toList]; exact hacc.1
  have e2 : (a.cps.toList.map fun c => V.str (⟨#[c]⟩ : Str)) = (List.range acc'.toList.length).map fun j => V.str (⟨#[a.cps.toList.getD j 0]⟩ : Str) := by
    rw [e]
    refine List.ext_getElem? fun j => ?_
    rw [List.getElem?_map, List.getElem?_map]
    by_cases hj : j < a.cps.toList.length
    · rw [List.getElem?_range hj, List.getElem?_eq_getElem hj]
      show some (V.str (⟨#[a.cps.toList[j]]⟩ : Str)) = some (V.str (⟨#[a.cps.toList.getD j 0]⟩ : Str))
      rw [List.getD_eq_getElem?_getD, List.getElem?_eq_getElem hj]; rfl
    · rw [List.getElem?_eq_none (by omega), List.getElem?_eq_none (by rw [List.length_range]; omega)]; rfl
  rw [e2]
  refine vals_of_get _ _ fun j u hj => ?_
  obtain ⟨c, u', hcc, rfl⟩ := hacc.2 j u (by rw [← hj, Array.getElem?_toList])
  have ec : a.cps.toList.getD j 0 = c := by
    rw [List.getD_eq_getElem?_getD, Array.getElem?_toList, hcc]; rfl
  rw [ec]
  exact ⟨u', rfl⟩
end Pc
namespace Pc
open PySem PySem.Spec PyProof.Rows L2 RZ
open TL (tl len_tl ext_tl tl_append)
section
variable {P : Program} {w : World} {K : PySem.W.Frag} {mg : Str → Option Value} {base : Heap}
/-! ### a text bent -/
def spBentT : Sp := fun vs H Q _ => ∃ (b : Addr) (n : Nat) (s : Str), vs = [.ref b, .str s] ∧ Box (n + 4) H b ∧ s.length ≤ 500 ∧ ∀ (H' : Hp) (s' : Str), Keep b H H' → Box n H' b → s'.length ≤ 2 * s.length + 4 → Q (.str s') H'
theorem ok_bentT (T : Env K mg) : FnOk P w K mg base CX0 3 T.f_bent T.d_bent ["_law_source", "_law_message"] spBentT := by
  have GT : FnOk P w K mg base CX0 1 T.f_draw T.d_draw ["_law_source", "_law_bound"] spTake := ok_take T
  have GK : FnOk P w K mg base CX0 2 T.f_pick T.d_pick ["_law_source", "_law_some"] (spOf K) := ok_of T
  refine T.F_bent.ok sc_bent (fun vs H Q E h => ?_) (fun cdv A outer s H vs Q E hr h => ?_)
  · obtain ⟨b, n, x, rfl, _⟩ := h
    rfl
  · obtain ⟨b, n, x, rfl, hB, hx, q⟩ := h
    have h1 := hr.mono (show 1 ≤ 2 by decide)
    refine ⟨_, pss_cons (ps_set (i := 2) sc_bent.nd rfl (.inl rfl) (pe_call GT h1 (by rfl) T.g_draw T.F_draw.kp T.b_draw .nil pass0 (pa_cons (pv 0) (pa_cons (pe_op op_add (pe_callB call_len_str (by rfl) T.n_len PySem.boot_len (pa_cons (pv 1) pa_nil)) pe_int) pa_nil)))) <|
      pss_cons (ps_set (i := 3) sc_bent.nd rfl (.inl rfl) (pe_call GK hr (by rfl) T.g_pick T.F_pick.kp T.b_pick .nil pass0 (pa_cons (pv 0) (pa_cons (pe_op op_cat (pe_callTy (cr_listStr rfl) (by rfl) T.n_list (by decide +kernel) (pa_cons pe_str pa_nil)) (pe_lst (pa_cons pe_str (pa_cons pe_str (pa_cons pe_str (pa_cons pe_str pa_nil)))))) pa_nil)))) <|
      pss_one (ps_ret (pe_op op_add_str (pe_op op_add_str (pe_slice sl_str (pv 1) po_none (po_some (pv 2))) (pe_ix ix_list (pe_lst (pa_cons (pv 3) (pa_cons pe_str (pa_cons (pv 3) pa_nil)))) (pe_call GT h1 (by rfl) T.g_draw T.F_draw.kp T.b_draw .nil pass0 (pa_cons (pv 0) (pa_cons pe_int pa_nil))) (fun _ _ => rfl)))
        (pe_slice sl_str (pv 1) (po_some (pe_op op_add (pv 2) (pe_call GT h1 (by rfl) T.g_draw T.F_draw.kp T.b_draw .nil pass0 (pa_cons (pv 0) (pa_cons pe_int pa_nil))))) po_none))), ?_⟩
    have lz : x.length ≤ sizeLine := Nat.le_of_lt (line_big (by omega))
    refine ⟨.ref b, rfl, _, rfl, _, rfl, lz, _, _, rfl, rfl, b, n + 3, _, rfl, hB, by omega, by omega, fun r Ha r0 r1 hBa ka => ?_⟩
    refine ⟨.ref b, rfl, _, rfl, by decide +kernel, fun l1 n1 => ?_⟩
    have s1 := same_new (o := .lst ((" 01234-+._,a" : Str).cps.toList.map fun c => V.str (⟨#[c]⟩ : Str))) n1
    refine ⟨by show 4 ≤ sizeLine; decide, fun l2 n2 => ?_⟩
    have s2 := same_new (o := .lst [.str "  ", .str "00", .str "0-1 ", .str " 2-3"]) n2
    have hlen : ((" 01234-+._,a" : Str).cps.toList.map fun c => V.str (⟨#[c]⟩ : Str)).length = 12 := by rw [List.length_map]; decide +kernel
    refine ⟨l1, l2, _, _, rfl, rfl, s2 _ _ upd_same, upd_same, by rw [hlen]; show 12 + 4 ≤ sizeLine; decide, fun l3 n3 => ?_⟩
    have s3 := same_new (o := .lst (((" 01234-+._,a" : Str).cps.toList.map fun c => V.str (⟨#[c]⟩ : Str)) ++ [.str "  ", .str "00", .str "0-1 ", .str " 2-3"])) n3
    have hB3 := hBa.same (s1.trans (s2.trans s3))
    have l3b : l3 ≠ b := ((hBa.same (s1.trans s2)).ne_new n3).symm
    refine ⟨b, l3, n + 2, _, rfl, hB3, l3b, upd_same, by rw [List.length_append]; show 0 < _ + 4; omega, by rw [List.length_append, hlen]; show 12 + 4 ≤ 1000; decide, fun Hb j v hv kb hBb => ?_⟩
    obtain ⟨z, rfl, hz⟩ : ∃ z : Str, v = .str z ∧ z.length ≤ 4 := by
      rcases List.mem_append.mp (List.mem_of_getElem? hv) with y | y
      · obtain ⟨c, _, rfl⟩ := List.mem_map.mp y
        exact ⟨_, rfl, by show 1 ≤ 4; decide⟩
      · simp only [List.mem_cons, List.not_mem_nil, or_false] at y
        rcases y with y | y | y | y <;> rw [y] <;> exact ⟨_, rfl, by decide +kernel⟩
    have k2 := ka.trans ((Keep.of_same (s1.trans (s2.trans s3))).trans kb)
    refine ⟨_, rfl, _, rfl, _, rfl, x, rfl, lz, ?_⟩
    have c1 := cutS_length x none (some r)
    refine ⟨_, rfl, _, rfl, by show 3 ≤ sizeLine; decide, fun l4 n4 => ?_⟩
    have s4 := same_new (o := .lst [.str z, .str "", .str z]) n4
    have l4b : l4 ≠ b := (hBb.ne_new n4).symm
    refine ⟨.ref b, rfl, b, n + 1, 3, rfl, hBb.same s4, by decide, by decide, fun r2 Hc q0 q1 hBc kc => ?_⟩
    obtain ⟨y, hy, hyl⟩ : ∃ y : Str, atI [V.str z, .str "", .str z] r2 = some (.str y) ∧ y.length ≤ 4 := by
      rcases (show r2 = 0 ∨ r2 = 1 ∨ r2 = 2 by omega) with e | e | e
      · subst e; exact ⟨z, rfl, hz⟩
      · subst e; exact ⟨"", rfl, by decide +kernel⟩
      · subst e; exact ⟨z, rfl, hz⟩
    refine ⟨l4, _, r2, .str y, rfl, rfl, .inl (.inl (kc _ _ l4b upd_same)), hy, ?_⟩
    refine ⟨_, _, rfl, rfl, Nat.le_of_lt (line_big (by omega)), ?_⟩
    refine ⟨_, rfl, _, rfl, .ref b, rfl, b, n, 2, rfl, hBc, by decide, by decide, fun r3 Hd p0 p1 hBd kd => ?_⟩
    refine ⟨_, _, rfl, rfl, _, rfl, x, rfl, lz, ?_⟩
    have c2 := cutS_length x (some (r + r3)) none
    refine ⟨_, _, rfl, rfl, ?_, q Hd _ (k2.trans ((Keep.of_same s4).trans (kc.trans kd))) hBd ?_⟩
    · rw [app_len]; exact Nat.le_of_lt (line_big (by omega))
    · rw [app_len, app_len]; omega
end
end Pc
namespace Pc
open PySem PySem.Spec PyProof.Rows L2 RZ
/-! ### a text times an int -/
def repT (a : Str) (n : Nat) : Str := ⟨(List.replicate n a.cps).foldl (· ++ ·) #[]⟩
theorem rep_size (x : Array Nat) : ∀ (n : Nat) (acc : Array Nat), ((List.replicate n x).foldl (· ++ ·) acc).size = acc.size + n * x.size
  | 0, acc => by simp
  | n + 1, acc => by
    rw [List.replicate_succ, List.foldl_cons, rep_size x n, Array.size_append, Nat.add_mul]
    omega
theorem repT_len (a : Str) (n : Nat) : (repT a n).length = n * a.length := by
  show ((List.replicate n a.cps).foldl (· ++ ·) #[]).size = n * a.cps.size
  rw [rep_size]; simp
section
variable {X : Cx}
theorem op_repS : OpR X (binaryOp .Mult) (fun x y H Q => ∃ (a : Str) (i : Nat), x = .str a ∧ y = .int (i : Nat) ∧ 1 < i ∧ i < 100 ∧ 1 ≤ a.length ∧ a.length ≤ 100 ∧ Q (.str (repT a i)) H) := by
  intro pins s σ H x y v u Q I rx ry h
  obtain ⟨a, i, rfl, rfl, h1, h2, l1, l2, q⟩ := h
  obtain ⟨t, rfl⟩ := rx
  obtain ⟨t', rfl⟩ := ry
  have hb : ¬ (i : Int) < 1 := by omega
  have hc : ((i : Int) == 1 || a.length == 0) = false := by
    rw [Bool.or_eq_false_iff]
    exact ⟨beq_false_of_ne (by omega), beq_false_of_ne (by omega)⟩
  have hm : i * a.length ≤ 99 * 100 := Nat.mul_le_mul (by omega) l2
  refine PySem.P.mul_str (by rw [decide_eq_false (by omega), decide_eq_false (by omega)]; rfl) (fun _ _ => ?_) (fun _ _ => ?_) ?_
  · have : (100 : Int) ≤ (2 ^ 63 - 1) / i := Int.le_ediv_of_mul_le (by omega) (by omega)
    omega
  · rw [Int.toNat_natCast, Nat.mul_comm]
    have hs : 99 * 100 ≤ sizeLine := by decide
    exact decide_eq_false (by omega)
  · rw [if_neg hb, hc, if_neg Bool.false_ne_true, Int.toNat_natCast]
    have hl := repT_len a i
    exact ⟨by show (repT a i).length ≤ _; rw [hl]; exact Nat.le_trans hm (by decide), ⟨.str _, H, I.tok _, ⟨_, rfl⟩, q⟩⟩
end
end Pc
namespace Pc
open PySem PySem.Spec PyProof.Rows L2 RZ
/-- what stays while a turn runs -/
structure St72 (b tS lt : Addr) (ps : List Nat) (as : List Addr) (qs : List (Nat × Nat)) (H0 : Hp) (m : Nat) (H : Hp) : Prop where
  k : Keep b H0 H
  B : Box m H b
  t : H tS = some (.tup (nv ps))
  l : H lt = some (.lst (as.map V.ref))
  A : Prs H as qs
section
variable {b tS lt : Addr} {ps : List Nat} {as : List Addr} {qs : List (Nat × Nat)} {H0 H : Hp} {m : Nat}
theorem St72.same {H' : Hp} (z : St72 b tS lt ps as qs H0 m H) (s : Same H H') : St72 b tS lt ps as qs H0 m H' := ⟨z.k.trans (Keep.of_same s), z.B.same s, s _ _ z.t, s _ _ z.l, prs_same s z.A⟩
theorem St72.put {L : Addr} {xs ys : List V} (z : St72 b tS lt ps as qs H0 m H) (eL : H L = some (.lst xs)) (n0 : H0 L = none) (hl : lt ≠ L) (hb : L ≠ b) : St72 b tS lt ps as qs H0 m (upd H L (.lst ys)) := by
  have kL : Keep L H (upd H L (.lst ys)) := keep_upd
  exact ⟨fun x o xb hx => by rw [upd_ne (ne_of_none hx n0)]; exact z.k x o xb hx, z.B.keep (c := L) kL hb.symm, kL.tup eL z.t, by rw [upd_ne hl]; exact z.l, prs_keep (b := L) kL eL z.A⟩
end
theorem dp_prs {K : PySem.W.Frag} {H : Hp} {l : Addr} {as : List Addr} {qs : List (Nat × Nat)} (e : H l = some (.lst (as.map V.ref))) (h : Prs H as qs) : Dp K H (.ref l) (.list (qs.map pd)) := .lst (.inl (.inl e)) (prs_dp h)
theorem dp_nvT {K : PySem.W.Frag} {H : Hp} {t : Addr} {ps : List Nat} (e : H t = some (.tup (nv ps))) : Dp K H (.ref t) (.tuple (nd ps)) := .tup (.inl (.inl e)) (dp_nats ps)
theorem nar_nd {ps : List Nat} (h : ps.length ≤ 1000) : narrow (.tuple (nd ps)) := ⟨by show (nd ps).length ≤ 100000; unfold nd; rw [List.length_map]; omega, narrow_of fun d hd => by obtain ⟨i, _, rfl⟩ := List.mem_map.mp hd; exact trivial⟩
theorem nar_prs {qs : List (Nat × Nat)} (h : qs.length ≤ 1000) : narrow (.list (qs.map pd)) := ⟨by rw [List.length_map]; omega, narrow_of fun d hd => by obtain ⟨i, _, rfl⟩ := List.mem_map.mp hd; exact ⟨by show 2 ≤ 100000; decide, trivial, trivial, trivial⟩⟩
theorem dep_nd (ps : List Nat) : PyData.depthAll (nd ps) ≤ 0 := all_depth fun d hd => by obtain ⟨i, _, rfl⟩ := List.mem_map.mp hd; exact Nat.le_refl _
theorem dep_prs (qs : List (Nat × Nat)) : PyData.depthAll (qs.map pd) ≤ 1 := all_depth fun d hd => by obtain ⟨i, _, rfl⟩ := List.mem_map.mp hd; exact Nat.le_refl _
/-- a pairing and a word side by side -/
theorem dep_two (ps : List Nat) (qs : List (Nat × Nat)) : (PyData.list [.tuple (nd ps), .list (qs.map pd)]).depth < 4 := by
  have h1 := dep_nd ps
  have h2 := dep_prs qs
  show max (PyData.depthAll (nd ps) + 1) (max (PyData.depthAll (qs.map pd) + 1) 0) + 1 < 4
  omega
end Pc
/-! ### sorted(xs) of tuples of ints of one length, any number of them -/
namespace SrtO
open PySem PySem.Spec PyProof.Rows
theorem swo_code (k : Value → Int) : Swo fun v u => decide (k v < k u) :=
  ⟨fun x y h => decide_eq_false (by have := of_decide_eq_true h; omega), fun x y z h1 h2 => decide_eq_false (by have a := of_decide_eq_false h1; have b := of_decide_eq_false h2; omega)⟩
section
variable {prog : Program} {w : World} {A : Around} {E : Value → Shared → Prop} {s : Shared}
theorem tup_cmp {vs : List Value} {d : Nat} {B : Int} {c : Value → List Int} (hp : ∀ v ∈ vs, TS.TupInts s.heap v (c v) ∧ (c v).length = d ∧ TS.Bd B (c v)) :
    Cmp prog w A s (tuples' true) (fun p => p.1 ∈ vs) (lt2 fun v u => decide (TS.code B (c v) < TS.code B (c u))) := by
  intro p q hm hm'
  obtain ⟨h1, l1, b1⟩ := hp _ hm
  obtain ⟨h2, l2, b2⟩ := hp _ hm'
  show wpAny (model prog w) A (keyLt' (tuples' true) p.1 q.1) (fun r s' => s' = s ∧ r = decide (TS.code B (c p.1) < TS.code B (c q.1))) (fun _ _ => False) s
  generalize c p.1 = ns at h1 l1 b1 ⊢
  generalize c q.1 = ms at h2 l2 b2 ⊢
  obtain ⟨a, xs, e, ⟨o, ho, hc, n, hd⟩, i⟩ := h1
  obtain ⟨a', xs', e', ⟨o', ho', hc', n', hd'⟩, i'⟩ := h2
  rw [e, e']
  refine PySem.W.kat_lt ho hd ho' hd' ?_
  have hsz : decide (xs.size < xs'.size) = false := decide_eq_false (by
    have x1 := i.length
    have x2 := i'.length
    rw [Array.length_toList] at x1 x2
    omega)
  rw [hsz]
  exact TS.lex_ints 0 i i' (by omega) b1 b2 ⟨rfl, rfl⟩
theorem tups_sortableO {a : Addr} {vs : List Value} {d : Nat} {B : Int} {c : Value → List Int} (hd : 1 ≤ d) (h0 : 0 < vs.length) (hp : ∀ v ∈ vs, TS.TupInts s.heap v (c v) ∧ (c v).length = d ∧ TS.Bd B (c v)) (ha : ∀ o, s.heap.get? a = some o → o.cls ≠ .type "tuple") :
    SortableO prog w A s a vs fun v u => decide (TS.code B (c v) < TS.code B (c u)) := by
  intro h' keep
  have hp' : ∀ v ∈ vs, TS.TupInts h' v (c v) ∧ (c v).length = d ∧ TS.Bd B (c v) := fun v hm => ⟨(hp v hm).1.keeps fun b o e c => keep b o (fun z => by subst z; exact ha o e c) e, (hp v hm).2⟩
  obtain ⟨fs, h1, h2, h3⟩ := TS.firsts_of hd vs (fun v hm => ⟨_, (hp' v hm).1, (hp' v hm).2⟩ : TS.TupsOk h' d B vs)
  refine ⟨tuples' true, fun Q E hq => ?_, tup_cmp hp'⟩
  refine PySem.W.kat_kind (T := .type "int") h1 (by omega) (fun f hm => ?_) (by rfl) ?_
  · obtain ⟨x, t, rfl⟩ := h3 f hm
    exact PySem.W.Looks.now
  · have e : (Value.type "int" != Value.type "tuple") = true := by first | decide +kernel | rfl | decide
    rw [e]
    exact hq
theorem sorted_tupsO {l : Addr} {vs : List Value} {d : Nat} {B : Int} {c : Value → List Int} {Q : Value → Shared → Prop} (hd : 1 ≤ d) (hl : s.heap.IsList l vs.toArray) (hz : vs.length ≤ sizeLine) (hp : ∀ v ∈ vs, TS.TupInts s.heap v (c v) ∧ (c v).length = d ∧ TS.Bd B (c v))
    (h : ∀ (h' : Heap) (e : Addr) (out : List Value), Srtd (fun v u => decide (TS.code B (c v) < TS.code B (c u))) out → out.Perm vs → (∀ b o, s.heap.get? b = some o → h'.get? b = some o) → s.heap.objs.size ≤ e → (∃ n, h'.get? e = some (seqObj "list" out.toArray n)) → Q (.ref e) { s with heap := h' }) :
    wpAny (model prog w) A (call (.builtin "sorted") [.ref l]) Q E s := by
  refine sorted_ord (swo_code fun v => TS.code B (c v)) hl hz (fun h2 h₁ a ha kk => ?_) fun out hs hb => ?_
  · refine tups_sortableO (s := { s with heap := h₁ }) hd (by omega) (fun v hm => ⟨(hp v hm).1.keeps fun b o e _ => (kk b o e).2, (hp v hm).2⟩) fun o e => ?_
    have e' : some o = some (seqObj "list" vs.toArray 0) := e.symm.trans ha
    cases e'
    intro c
    exact absurd (Value.type.inj c) (by decide)
  · exact h _ _ out hs hb.perm (fun b o e => sortedAll_old e) (Nat.le_succ _) (sortedAll_at s.heap vs out.toArray)
end
end SrtO
namespace L2
open PySem PySem.Spec PyProof.Rows
def rSortTL (K : PySem.W.Frag) (d : Nat) (B : Int) : List V → Hp → VK → Prop := fun vs H Q => ∃ (a : Addr) (xs : List V), vs = [V.ref a] ∧ SqL K H a xs ∧ (∀ x ∈ xs, ∃ ns, TupI K H x ns ∧ ns.length = d ∧ TS.Bd B ns) ∧
  ∀ (ys : List V) (p : Addr), ys.Perm xs → ys.Pairwise (fun x y => ∀ n m, TupI K H x n → TupI K H y m → TS.code B n ≤ TS.code B m) → H p = none → Q (.ref p) (upd H p (.lst ys))
/-- sorted(xs), xs a list of tuples of d ints in [0, B), any number of them: a new list of the same, ascending by code B -/
theorem cr_sortTL {X : Cx} {d : Nat} {B : Int} (hd : 1 ≤ d) : CallR X (.builtin "sorted") (rSortTL X.K d B) := by
  intro pins s σ H vs us Q I r h
  obtain ⟨a, xs, rfl, hs, hx, q⟩ := h
  obtain ⟨its, rv, hl, hz⟩ := I.list hs
  rw [Vals.ref1 r]
  obtain ⟨e1, e2⟩ := bkV_refs rv fun x m => by
    obtain ⟨ns, ⟨t, e, _⟩, _⟩ := hx x m
    exact ⟨t, e⟩
  refine SrtO.sorted_tupsO (d := d) (B := B) (c := TS.intsOf s.heap) hd hl.isList (by rw [← rv.length]; exact hz) (fun v hv => ?_) fun h' e out h1 h2 kp hge hn => ?_
  · obtain ⟨t, rfl⟩ := e2 v hv
    have hm : V.ref t ∈ xs := by
      rw [e1]
      exact List.mem_map.mpr ⟨_, hv, rfl⟩
    obtain ⟨ns, ⟨t', e, ht⟩, hn, hb⟩ := hx _ hm
    cases e
    have k := tupI_raw I ht
    rw [k.ints]
    exact ⟨k, hn, hb⟩
  · have h3 : ∀ u ∈ out, ∃ a, u = Value.ref a := fun u hu => e2 u (h2.mem_iff.mp hu)
    have hp : (out.map bkV).Perm xs := by
      rw [e1]
      exact h2.map bkV
    obtain ⟨n, hn⟩ := hn
    refine ⟨.ref e, upd H e (.lst (out.map bkV)), I.laid (t' := s.toks) kp hge ⟨by rw [hp.length_eq]; exact hz, out, n, bkV_vals h3, hn⟩, rfl, q _ e hp ?_ (I.hok.fresh hge)⟩
    rw [List.pairwise_map]
    refine List.Pairwise.imp (fun {u v} huv n m hn hm => ?_) h1
    obtain ⟨t, et, ht⟩ := hn
    obtain ⟨t', et', ht'⟩ := hm
    have eu := bkV_ref et
    have ev := bkV_ref et'
    have i1 : TS.intsOf s.heap u = n := by
      rw [eu]
      exact (tupI_raw I ht).ints
    have i2 : TS.intsOf s.heap v = m := by
      rw [ev]
      exact (tupI_raw I ht').ints
    rw [← i1, ← i2]
    have := of_decide_eq_false huv
    omega
end L2
namespace Pc
open PySem PySem.Spec PyProof.Rows L2 RZ
open TL (tl len_tl ext_tl tl_append)
/-! ### lists of texts; what is read from a text is shallow -/
def TxtL (m : Nat) (xs : List V) : Prop := ∀ v ∈ xs, ∃ s : Str, v = .str s ∧ s.length ≤ m
def txtB (m : Nat) (xs : List V) : Bool := xs.all fun v => match v with | .str s => decide (s.length ≤ m) | _ => false
theorem txtB_all {m : Nat} {xs : List V} (h : txtB m xs = true) : TxtL m xs := fun v hv => by
  have h2 := List.all_eq_true.mp h v hv
  cases v with
  | str s => exact ⟨s, rfl, of_decide_eq_true h2⟩
  | _ => cases h2
theorem fxs_ok : TxtL 560 (([.str "", .str " ", .str "-", .str ".", .str "0", .str "0-0", .str "1-0", .str "0-1", .str "00-1", .str "0-01", .str "0--1", .str "0-1-2", .str "-0-1", .str "0-1 ", .str " 0-1"] : List V) ++ ([.str "0-1  2-3", .str "0-2 1-2", .str "0-1 0-1", .str "2-3 0-1", .str "0-1 2-4", .str "0-1 .", .str ". 0-1", .str ". .", .str "0-3 1-2"] : List V) ++ ([.str ("0-" ++ repT "9" 13), .str ("0-" ++ repT "9" 14), .str "0 - 1", .str "a-b", .str "0-1,2-3", .str "0_1", .str "0-1 2-3 4-5", .str "0-1 3-2"] : List V)) := txtB_all (by decide +kernel)
theorem prs_permX {H : Hp} {as bs : List Addr} {qs : List (Nat × Nat)} (h : Prs H as qs) (p : bs.Perm as) : ∃ ds, ds.Perm qs ∧ Prs H bs ds := by
  induction p generalizing qs with
  | nil => cases h; exact ⟨[], List.Perm.refl _, .nil⟩
  | cons x _ ih =>
    cases h with
    | cons e t =>
      obtain ⟨ds, p1, p2⟩ := ih t
      exact ⟨_ :: ds, p1.cons _, .cons e p2⟩
  | swap x y l =>
    cases h with
    | cons e t =>
      cases t with
      | cons e2 t2 => exact ⟨_, List.Perm.swap _ _ _, .cons e2 (.cons e t2)⟩
  | trans _ _ ih1 ih2 =>
    obtain ⟨ds, p1, h1⟩ := ih2 h
    obtain ⟨es, p2, h2⟩ := ih1 h1
    exact ⟨es, p2.trans p1, h2⟩
theorem scan_len {k n : Nat} : ∀ {ws : List Str} {i : Nat} {qs rs : List (Nat × Nat)}, scan k n ws i qs = .inr rs → rs.length = qs.length + ws.length
  | [], i, qs, rs, h => by
    rw [scan_end] at h
    rw [← Sum.inr.inj h]; rfl
  | w :: r, i, qs, rs, h => by
    cases hw : duoO w with
    | none => rw [scan_none hw] at h; cases h
    | some p =>
      rw [scan_some hw] at h
      split at h
      · cases h
      · have := scan_len h
        rw [List.length_append] at this
        rw [this, List.length_cons]
        show qs.length + 1 + r.length = qs.length + (r.length + 1)
        omega
theorem rdD_ok (k : Nat) (s : Str) (h : s.length ≤ 900) : (rdD k s).depth < 5 ∧ narrow (rdD k s) := by
  unfold rdD
  split
  · exact ⟨by show 0 + 1 < 5; decide, ⟨by show 0 ≤ 100000; decide, trivial⟩⟩
  · split
    · exact ⟨by show max 0 (max 0 0) + 1 < 5; decide, ⟨by show 2 ≤ 100000; decide, trivial, trivial, trivial⟩⟩
    · rename_i qs hq
      have hl := scan_len hq
      have hw := split_many s " " (by decide +kernel) (by decide +kernel)
      have hql : qs.length ≤ 1000 := by rw [hl]; show 0 + _ ≤ _; omega
      split
      · refine ⟨?_, nar_prs hql⟩
        have := dep_prs qs
        show PyData.depthAll (qs.map pd) + 1 < 5
        omega
      · refine ⟨?_, ?_⟩
        · have := dep_nd (rowOf qs (List.replicate (2 * qs.length) 0))
          show PyData.depthAll (nd _) + 1 < 5
          omega
        · refine ⟨?_, narrow_of fun d hd => by obtain ⟨i, _, rfl⟩ := List.mem_map.mp hd; exact trivial⟩
          show (nd _).length ≤ 100000
          unfold nd
          rw [List.length_map, rowOf_len, List.length_replicate]
          omega
section
theorem cut_two {l : List Nat} {i : Nat} (h : 2 * i + 1 < l.length) : cutV (nv l) (some ((0 : Int) + (i : Nat) * 2)) (some ((0 : Int) + (i : Nat) * 2 + 2)) = nv [l.getD (2 * i) 0, l.getD (2 * i + 1) 0] := by
  unfold cutV
  rw [show (0 : Int) + (i : Nat) * 2 = ((2 * i : Nat) : Int) by omega, show ((2 * i : Nat) : Int) + 2 = ((2 * i + 2 : Nat) : Int) by omega, HT.sIx_nat, HT.sIx_nat, nv_length, Nat.min_eq_left (by omega), Nat.min_eq_left (by omega), show 2 * i + 2 - 2 * i = 2 by omega]
  unfold nv
  rw [← List.map_drop, ← List.map_take]
  refine congrArg (List.map _) ?_
  have e1 : l.drop (2 * i) = l.getD (2 * i) 0 :: l.drop (2 * i + 1) := by rw [List.drop_eq_getElem_cons (by omega), List.getD_eq_getElem?_getD, List.getElem?_eq_getElem (by omega)]; rfl
  have e2 : l.drop (2 * i + 1) = l.getD (2 * i + 1) 0 :: l.drop (2 * i + 1 + 1) := by rw [List.drop_eq_getElem_cons (by omega), List.getD_eq_getElem?_getD, List.getElem?_eq_getElem (by omega)]; rfl
  rw [e1, e2]; rfl
theorem two_srt {x y : Nat} {ns : List Int} (hp : ns.Perm [(x : Int), (y : Int)]) (hs : ns.Pairwise (· ≤ ·)) : ns.map V.int = [((min x y : Nat) : Int), ((max x y : Nat) : Int)].map V.int := by
  refine congrArg (List.map V.int) ?_
  have hl := hp.length_eq
  match ns, hl, hp, hs with
  | [u, v], _, hp, hs =>
    have h1 := List.rel_of_pairwise_cons hs (List.mem_cons_self : v ∈ [v])
    have hu := hp.mem_iff.mp (List.mem_cons_self : u ∈ [u, v])
    have hv := hp.mem_iff.mp (List.mem_cons_of_mem u (List.mem_cons_self : v ∈ [v]))
    have hx := hp.mem_iff.mpr (List.mem_cons_self : (x : Int) ∈ [(x : Int), (y : Int)])
    have hy := hp.mem_iff.mpr (List.mem_cons_of_mem (x : Int) (List.mem_cons_self : (y : Int) ∈ [(y : Int)]))
    simp only [List.mem_cons, List.not_mem_nil, or_false] at hu hv hx hy
    have e1 : u = ((min x y : Nat) : Int) := by omega
    have e2 : v = ((max x y : Nat) : Int) := by omega
    rw [e1, e2]
end
end Pc
namespace Pc
open PySem PySem.Spec PyProof.Rows L2 RZ
section
variable {P : Program} {w : World} {K : PySem.W.Frag} {mg : Str → Option Value} {base : Heap}
/-! ### texts that are not valid -/
def spRight : Sp := fun vs H Q _ => ∃ (b : Addr) (n : Nat), vs = [.ref b] ∧ Box (n + 4000) H b ∧ ∀ H', Keep b H H' → Box n H' b → Q (.bl true) H'
abbrev rStrI : List V → Hp → VK → Prop := fun xs H Q => ∃ i, xs = [.int i] ∧ i.natAbs.log2 < 1920 ∧ Q (.str (toString i)) H
abbrev rAddS : R2 := fun x y H Q => ∃ a b, x = .str a ∧ y = .str b ∧ a.length + b.length ≤ sizeLine ∧ Q (.str (a ++ b)) H
theorem ok_right (T : Env K mg) : FnOk P w K mg base CX0 6 T.f_right T.d_right ["_law_source"] spRight := by
  have GT : FnOk P w K mg base CX0 1 T.f_draw T.d_draw ["_law_source", "_law_bound"] spTake := ok_take T
  have GS : FnOk P w K mg base CX0 2 T.f_shuffled T.d_shuffled ["_law_source", "_law_some"] (spStrewn K) := ok_strewn T
  have GB : FnOk P w K mg base CX0 3 T.f_bent T.d_bent ["_law_source", "_law_message"] spBentT := ok_bentT T
  have GTo : FnOk P w K mg base CX0 5 T.f_told T.d_told ["_law_kind", "_law_message"] (spRead K) := ok_told T
  have GRe : FnOk P w K mg base CX0 3 T.f_read_text T.d_read_text ["_law_kind", "_law_message"] (spRead K) := ok_read_text T
  have GE : FnOk P w K mg base CX0 5 T.f_same T.d_same ["_law_found", "_law_due"] (spSame K 5) := ok_same T 5
  refine T.F_right.ok sc_right (fun vs H Q E h => ?_) (fun cdv A outer s H vs Q E hr h => ?_)
  · obtain ⟨b, n, rfl, _⟩ := h
    rfl
  · obtain ⟨b, n, rfl, hB, q⟩ := h
    have h1 := hr.mono (show 1 ≤ 5 by decide)
    have h2 := hr.mono (show 2 ≤ 5 by decide)
    have h3 := hr.mono (show 3 ≤ 5 by decide)
    have h5 := hr.mono (show 5 ≤ 5 by decide)
    refine ⟨_, pss_cons (ps_set (i := 1) sc_right.nd rfl (.inl rfl) (pe_lst (pa_cons pe_str (pa_cons pe_str (pa_cons pe_str (pa_cons pe_str (pa_cons pe_str (pa_cons pe_str (pa_cons pe_str (pa_cons pe_str (pa_cons pe_str (pa_cons pe_str (pa_cons pe_str (pa_cons pe_str (pa_cons pe_str (pa_cons pe_str (pa_cons pe_str pa_nil))))))))))))))))) <|
      pss_cons (ps_set (i := 1) sc_right.nd rfl (.inl rfl) (pe_op op_cat (pv 1) (pe_lst (pa_cons pe_str (pa_cons pe_str (pa_cons pe_str (pa_cons pe_str (pa_cons pe_str (pa_cons pe_str (pa_cons pe_str (pa_cons pe_str (pa_cons pe_str pa_nil)))))))))))) <|
      pss_cons (ps_set (i := 1) sc_right.nd rfl (.inl rfl) (pe_op op_cat (pv 1) (pe_lst (pa_cons (pe_op op_add_str pe_str (pe_op op_repS pe_str pe_int)) (pa_cons (pe_op op_add_str pe_str (pe_op op_repS pe_str pe_int)) (pa_cons pe_str (pa_cons pe_str (pa_cons pe_str (pa_cons pe_str (pa_cons pe_str (pa_cons pe_str pa_nil))))))))))) <|
      pss_cons (ps_set (i := 2) sc_right.nd rfl (.inr rfl) (pe_call GS h2 (by rfl) T.g_shuffled T.F_shuffled.kp T.b_shuffled .nil pass0 (pa_cons (pv 0) (pa_cons (pe_listRg rfl (by rfl) T.n_list (prg_1 (by rfl) T.n_range (pe_op op_add pe_int (pe_op op_mul pe_int (pe_call GT h1 (by rfl) T.g_draw T.F_draw.kp T.b_draw .nil pass0 (pa_cons (pv 0) (pa_cons pe_int pa_nil))))))) pa_nil)))) <|
      pss_cons (ps_set (i := 3) sc_right.nd rfl (.inl rfl) (pe_callB (cr_sortTL (d := 2) (B := 64) (by decide)) (by rfl) T.n_sorted (by decide +kernel) (pa_cons (pe_lc (own := [("_law_at", 10)]) (g := gName 10) (tt := tYes) (te := tCB (fun xs H Q => ∃ p ys, xs = [.ref p] ∧ ((SqL K H p ys ∧ ∀ l, H l = none → Q (.ref l) (upd H l (.tup ys))) ∨ (SqT K H p ys ∧ Q (.ref p) H))) (tCons (tCB (rSorted K) (tCons (tSl (rSlL K) (tVar 2) (tPart (tVar 10)) (tPart (tOp (rI0 fun i j => .int (i + j)) (tVar 10) (tC (.int 2))))) tNil)) tNil)) rfl sc_right.nd (pi_range3 (by rfl) T.n_range (pa_cons pe_int (pa_cons (pe_callB call_len_seq (by rfl) T.n_len PySem.boot_len (pa_cons (pv 2) pa_nil)) (pa_cons pe_int pa_nil)))) (blkOk_by (N := N_right) (sc := (defScope s_right)) (by decide +kernel)) (fun _ _ _ _ _ => (pg_name (i := 10) sc_right.nd rfl (.inl rfl))) (fun _ _ _ _ _ => pts_nil) (fun _ _ _ _ _ => (pe_callTy call_tuple_of (by rfl) T.n_tuple (by decide +kernel) (pa_cons (pe_callB cr_sorted (by rfl) T.n_sorted (by decide +kernel) (pa_cons (pe_slice sl_list (pv 2) (po_some (pv 10)) (po_some (pe_op op_add (pv 10) pe_int))) pa_nil)) pa_nil)))) pa_nil))) <|
      pss_cons (ps_set (i := 4) sc_right.nd rfl (.inl rfl) (pe_join pe_str (pe_lc (own := [("_law_left", 11), ("_law_right_here", 12)]) (g := gTup K 2 (gCons (gName 11) (gCons (gName 12) (gNil)))) (tt := tYes) (by rfl) sc_right.nd (pi_list (pv 3)) (blkOk_by (N := N_right) (sc := (defScope s_right)) (by decide +kernel)) (fun _ _ _ _ _ => pg_tup (by rfl) (pgs_cons (pg_name (i := 11) sc_right.nd rfl (.inl rfl)) (pgs_cons (pg_name (i := 12) sc_right.nd rfl (.inl rfl)) (pgs_nil)))) (fun _ _ _ _ _ => pts_nil) (fun _ _ _ _ _ => (pe_op (r := rAddS) op_add_str (pe_op (r := rAddS) op_add_str (pe_callTy (r := rStrI) call_str_int (by rfl) T.n_str (by decide +kernel) (pa_cons (pv 11) pa_nil)) pe_str) (pe_callTy (r := rStrI) call_str_int (by rfl) T.n_str (by decide +kernel) (pa_cons (pv 12) pa_nil))))))) <|
      pss_cons (ps_set (i := 5) sc_right.nd rfl (.inl rfl) (pe_lst (pa_cons (pv 4) (pa_cons pe_str pa_nil)))) <|
      pss_cons (ps_for PassesOwn.never rfl (pi_range1 (by rfl) T.n_range (pa_cons pe_int pa_nil)) (pg_name (i := 6) sc_right.nd rfl (.inl rfl))
        (pss_cons (ps_set (i := 7) sc_right.nd rfl (.inl rfl) (pe_call GB h3 (by rfl) T.g_bent T.F_bent.kp T.b_bent .nil pass0 (pa_cons (pv 0) (pa_cons (pv 4) pa_nil)))) <|
      pss_one (ps_expr (pe_bm PySem.F.plainAttrs_list PySem.F.slot_list_append PySem.F.type_list_append mt_append (pv 5) (pa_cons (pe_ifExp (pt_cmpR op_eq (pe_call GT h1 (by rfl) T.g_draw T.F_draw.kp T.b_draw .nil pass0 (pa_cons (pv 0) (pa_cons pe_int pa_nil))) pe_int (nomark _)) (pe_call GB h3 (by rfl) T.g_bent T.F_bent.kp T.b_bent .nil pass0 (pa_cons (pv 0) (pa_cons (pv 7) pa_nil))) (pv 7)) pa_nil))))) <|
      pss_cons (ps_for PassesOwn.never rfl (pi_list (pe_op op_cat (pv 1) (pv 5))) (pg_name (i := 8) sc_right.nd rfl (.inl rfl))
        (pss_one (ps_for PassesOwn.never rfl (pi_range1 (by rfl) T.n_range (pa_cons pe_int pa_nil)) (pg_name (i := 9) sc_right.nd rfl (.inl rfl))
        (pss_one (ps_if (pt_not (pt_val (pe_call GE h5 (by rfl) T.g_same T.F_same.kp T.b_same .nil pass0 (pa_cons (pe_call GTo h5 (by rfl) T.g_told T.F_told.kp T.b_told .nil pass0 (pa_cons (pv 9) (pa_cons (pv 8) pa_nil))) (pa_cons (pe_call GRe h3 (by rfl) T.g_read_text T.F_read_text.kp T.b_read_text .nil pass0 (pa_cons (pv 9) (pa_cons (pv 8) pa_nil))) pa_nil))))) (pss_one (ps_ret pe_bl)) pss_nil))))) <|
      pss_one (ps_ret pe_bl), ?_⟩
    have lz : ∀ {m : Nat}, m ≤ 50000 → m ≤ sizeLine := fun h => Nat.le_of_lt (line_big (by omega))
    have d1 : ("-" : Str).length = 1 := by decide +kernel
    have dg : (" " : Str).length = 1 := by decide +kernel
    -- the fixed texts
    refine ⟨by show 15 ≤ sizeLine; decide, fun l1 n1 => ?_⟩
    have s1 : Same H (upd H l1 (.lst ([.str "", .str " ", .str "-", .str ".", .str "0", .str "0-0", .str "1-0", .str "0-1", .str "00-1", .str "0-01", .str "0--1", .str "0-1-2", .str "-0-1", .str "0-1 ", .str " 0-1"] : List V))) := same_new n1
    have e1 : (upd H l1 (.lst ([.str "", .str " ", .str "-", .str ".", .str "0", .str "0-0", .str "1-0", .str "0-1", .str "00-1", .str "0-01", .str "0--1", .str "0-1-2", .str "-0-1", .str "0-1 ", .str " 0-1"] : List V))) l1 = some (.lst ([.str "", .str " ", .str "-", .str ".", .str "0", .str "0-0", .str "1-0", .str "0-1", .str "00-1", .str "0-01", .str "0--1", .str "0-1-2", .str "-0-1", .str "0-1 ", .str " 0-1"] : List V)) := upd_same
    revert s1 e1
    generalize upd H l1 (.lst ([.str "", .str " ", .str "-", .str ".", .str "0", .str "0-0", .str "1-0", .str "0-1", .str "00-1", .str "0-01", .str "0--1", .str "0-1-2", .str "-0-1", .str "0-1 ", .str " 0-1"] : List V)) = H1
    intro s1 e1
    refine st_set [some (.ref b), some (.ref l1), none, none, none, none, none, none, none, none, none, none, none] ?_ rfl
    refine ⟨_, rfl, by show 9 ≤ sizeLine; decide, fun l2 n2 => ?_⟩
    have s2 : Same H1 (upd H1 l2 (.lst ([.str "0-1  2-3", .str "0-2 1-2", .str "0-1 0-1", .str "2-3 0-1", .str "0-1 2-4", .str "0-1 .", .str ". 0-1", .str ". .", .str "0-3 1-2"] : List V))) := same_new n2
    have e2 : (upd H1 l2 (.lst ([.str "0-1  2-3", .str "0-2 1-2", .str "0-1 0-1", .str "2-3 0-1", .str "0-1 2-4", .str "0-1 .", .str ". 0-1", .str ". .", .str "0-3 1-2"] : List V))) l2 = some (.lst ([.str "0-1  2-3", .str "0-2 1-2", .str "0-1 0-1", .str "2-3 0-1", .str "0-1 2-4", .str "0-1 .", .str ". 0-1", .str ". .", .str "0-3 1-2"] : List V)) := upd_same
    revert s2 e2
    generalize upd H1 l2 (.lst ([.str "0-1  2-3", .str "0-2 1-2", .str "0-1 0-1", .str "2-3 0-1", .str "0-1 2-4", .str "0-1 .", .str ". 0-1", .str ". .", .str "0-3 1-2"] : List V)) = H2
    intro s2 e2
    refine ⟨l1, l2, _, _, rfl, rfl, s2 _ _ e1, e2, by show 15 + 9 ≤ sizeLine; decide, fun l3 n3 => ?_⟩
    have s3 : Same H2 (upd H2 l3 (.lst (([.str "", .str " ", .str "-", .str ".", .str "0", .str "0-0", .str "1-0", .str "0-1", .str "00-1", .str "0-01", .str "0--1", .str "0-1-2", .str "-0-1", .str "0-1 ", .str " 0-1"] : List V) ++ ([.str "0-1  2-3", .str "0-2 1-2", .str "0-1 0-1", .str "2-3 0-1", .str "0-1 2-4", .str "0-1 .", .str ". 0-1", .str ". .", .str "0-3 1-2"] : List V)))) := same_new n3
    have e3 : (upd H2 l3 (.lst (([.str "", .str " ", .str "-", .str ".", .str "0", .str "0-0", .str "1-0", .str "0-1", .str "00-1", .str "0-01", .str "0--1", .str "0-1-2", .str "-0-1", .str "0-1 ", .str " 0-1"] : List V) ++ ([.str "0-1  2-3", .str "0-2 1-2", .str "0-1 0-1", .str "2-3 0-1", .str "0-1 2-4", .str "0-1 .", .str ". 0-1", .str ". .", .str "0-3 1-2"] : List V)))) l3 = some (.lst (([.str "", .str " ", .str "-", .str ".", .str "0", .str "0-0", .str "1-0", .str "0-1", .str "00-1", .str "0-01", .str "0--1", .str "0-1-2", .str "-0-1", .str "0-1 ", .str " 0-1"] : List V) ++ ([.str "0-1  2-3", .str "0-2 1-2", .str "0-1 0-1", .str "2-3 0-1", .str "0-1 2-4", .str "0-1 .", .str ". 0-1", .str ". .", .str "0-3 1-2"] : List V))) := upd_same
    revert s3 e3
    generalize upd H2 l3 (.lst (([.str "", .str " ", .str "-", .str ".", .str "0", .str "0-0", .str "1-0", .str "0-1", .str "00-1", .str "0-01", .str "0--1", .str "0-1-2", .str "-0-1", .str "0-1 ", .str " 0-1"] : List V) ++ ([.str "0-1  2-3", .str "0-2 1-2", .str "0-1 0-1", .str "2-3 0-1", .str "0-1 2-4", .str "0-1 .", .str ". 0-1", .str ". .", .str "0-3 1-2"] : List V))) = H3
    intro s3 e3
    refine st_set [some (.ref b), some (.ref l3), none, none, none, none, none, none, none, none, none, none, none] ?_ rfl
    refine ⟨_, rfl, "9", 13, rfl, rfl, by decide, by decide, by decide +kernel, by decide +kernel, "0-", repT "9" 13, rfl, rfl, lz (by rw [repT_len]; decide +kernel), "9", 14, rfl, rfl, by decide, by decide, by decide +kernel, by decide +kernel, "0-", repT "9" 14, rfl, rfl, lz (by rw [repT_len]; decide +kernel), by show 8 ≤ sizeLine; decide, fun l4 n4 => ?_⟩
    have s4 : Same H3 (upd H3 l4 (.lst ([.str ("0-" ++ repT "9" 13), .str ("0-" ++ repT "9" 14), .str "0 - 1", .str "a-b", .str "0-1,2-3", .str "0_1", .str "0-1 2-3 4-5", .str "0-1 3-2"] : List V))) := same_new n4
    have e4 : (upd H3 l4 (.lst ([.str ("0-" ++ repT "9" 13), .str ("0-" ++ repT "9" 14), .str "0 - 1", .str "a-b", .str "0-1,2-3", .str "0_1", .str "0-1 2-3 4-5", .str "0-1 3-2"] : List V))) l4 = some (.lst ([.str ("0-" ++ repT "9" 13), .str ("0-" ++ repT "9" 14), .str "0 - 1", .str "a-b", .str "0-1,2-3", .str "0_1", .str "0-1 2-3 4-5", .str "0-1 3-2"] : List V)) := upd_same
    revert s4 e4
    generalize upd H3 l4 (.lst ([.str ("0-" ++ repT "9" 13), .str ("0-" ++ repT "9" 14), .str "0 - 1", .str "a-b", .str "0-1,2-3", .str "0_1", .str "0-1 2-3 4-5", .str "0-1 3-2"] : List V)) = H4
    intro s4 e4
    refine ⟨l3, l4, _, _, rfl, rfl, s4 _ _ e3, e4, by show 24 + 8 ≤ sizeLine; decide, fun lf nf => ?_⟩
    have s5 : Same H4 (upd H4 lf (.lst (([.str "", .str " ", .str "-", .str ".", .str "0", .str "0-0", .str "1-0", .str "0-1", .str "00-1", .str "0-01", .str "0--1", .str "0-1-2", .str "-0-1", .str "0-1 ", .str " 0-1"] : List V) ++ ([.str "0-1  2-3", .str "0-2 1-2", .str "0-1 0-1", .str "2-3 0-1", .str "0-1 2-4", .str "0-1 .", .str ". 0-1", .str ". .", .str "0-3 1-2"] : List V) ++ ([.str ("0-" ++ repT "9" 13), .str ("0-" ++ repT "9" 14), .str "0 - 1", .str "a-b", .str "0-1,2-3", .str "0_1", .str "0-1 2-3 4-5", .str "0-1 3-2"] : List V)))) := same_new nf
    have ef : (upd H4 lf (.lst (([.str "", .str " ", .str "-", .str ".", .str "0", .str "0-0", .str "1-0", .str "0-1", .str "00-1", .str "0-01", .str "0--1", .str "0-1-2", .str "-0-1", .str "0-1 ", .str " 0-1"] : List V) ++ ([.str "0-1  2-3", .str "0-2 1-2", .str "0-1 0-1", .str "2-3 0-1", .str "0-1 2-4", .str "0-1 .", .str ". 0-1", .str ". .", .str "0-3 1-2"] : List V) ++ ([.str ("0-" ++ repT "9" 13), .str ("0-" ++ repT "9" 14), .str "0 - 1", .str "a-b", .str "0-1,2-3", .str "0_1", .str "0-1 2-3 4-5", .str "0-1 3-2"] : List V)))) lf = some (.lst (([.str "", .str " ", .str "-", .str ".", .str "0", .str "0-0", .str "1-0", .str "0-1", .str "00-1", .str "0-01", .str "0--1", .str "0-1-2", .str "-0-1", .str "0-1 ", .str " 0-1"] : List V) ++ ([.str "0-1  2-3", .str "0-2 1-2", .str "0-1 0-1", .str "2-3 0-1", .str "0-1 2-4", .str "0-1 .", .str ". 0-1", .str ". .", .str "0-3 1-2"] : List V) ++ ([.str ("0-" ++ repT "9" 13), .str ("0-" ++ repT "9" 14), .str "0 - 1", .str "a-b", .str "0-1,2-3", .str "0_1", .str "0-1 2-3 4-5", .str "0-1 3-2"] : List V))) := upd_same
    have sf : Same H (upd H4 lf (.lst (([.str "", .str " ", .str "-", .str ".", .str "0", .str "0-0", .str "1-0", .str "0-1", .str "00-1", .str "0-01", .str "0--1", .str "0-1-2", .str "-0-1", .str "0-1 ", .str " 0-1"] : List V) ++ ([.str "0-1  2-3", .str "0-2 1-2", .str "0-1 0-1", .str "2-3 0-1", .str "0-1 2-4", .str "0-1 .", .str ". 0-1", .str ". .", .str "0-3 1-2"] : List V) ++ ([.str ("0-" ++ repT "9" 13), .str ("0-" ++ repT "9" 14), .str "0 - 1", .str "a-b", .str "0-1,2-3", .str "0_1", .str "0-1 2-3 4-5", .str "0-1 3-2"] : List V)))) := s1.trans (s2.trans (s3.trans (s4.trans s5)))
    have lfb : lf ≠ b := ((hB.same (s1.trans (s2.trans (s3.trans s4)))).ne_new nf).symm
    obtain ⟨xf, hxf⟩ : ∃ xs, xs = ([.str "", .str " ", .str "-", .str ".", .str "0", .str "0-0", .str "1-0", .str "0-1", .str "00-1", .str "0-01", .str "0--1", .str "0-1-2", .str "-0-1", .str "0-1 ", .str " 0-1"] : List V) ++ ([.str "0-1  2-3", .str "0-2 1-2", .str "0-1 0-1", .str "2-3 0-1", .str "0-1 2-4", .str "0-1 .", .str ". 0-1", .str ". .", .str "0-3 1-2"] : List V) ++ ([.str ("0-" ++ repT "9" 13), .str ("0-" ++ repT "9" 14), .str "0 - 1", .str "a-b", .str "0-1,2-3", .str "0_1", .str "0-1 2-3 4-5", .str "0-1 3-2"] : List V) := ⟨_, rfl⟩
    have txf : TxtL 560 xf := by rw [hxf]; exact fxs_ok
    have lxf : xf.length = 32 := by rw [hxf]; rfl
    revert sf ef
    generalize upd H4 lf (.lst (([.str "", .str " ", .str "-", .str ".", .str "0", .str "0-0", .str "1-0", .str "0-1", .str "00-1", .str "0-01", .str "0--1", .str "0-1-2", .str "-0-1", .str "0-1 ", .str " 0-1"] : List V) ++ ([.str "0-1  2-3", .str "0-2 1-2", .str "0-1 0-1", .str "2-3 0-1", .str "0-1 2-4", .str "0-1 .", .str ". 0-1", .str ". .", .str "0-3 1-2"] : List V) ++ ([.str ("0-" ++ repT "9" 13), .str ("0-" ++ repT "9" 14), .str "0 - 1", .str "a-b", .str "0-1,2-3", .str "0_1", .str "0-1 2-3 4-5", .str "0-1 3-2"] : List V))) = H5
    intro ef sf
    rw [← hxf] at ef
    have hB5 := hB.same sf
    have k5 : Keep b H H5 := Keep.of_same sf
    clear s1 s2 s3 s4 s5 e1 e2 e3 e4 n1 n2 n3 n4 nf hB sf hxf
    refine st_set [some (.ref b), some (.ref lf), none, none, none, none, none, none, none, none, none, none, none] ?_ rfl
    -- a row
    refine ⟨.ref b, rfl, .ref b, rfl, b, n + 3900, 5, rfl, hB5.mono (by omega), by decide, by decide, fun r Ha r0 r1 hBa ka => ?_⟩
    refine ⟨2, r, rfl, rfl, .inl ⟨by decide, by decide⟩, 2, _, rfl, rfl, ?_⟩
    have eN : (2 + 2 * r : Int) = ((2 * (r.toNat + 1) : Nat) : Int) := by omega
    have hM1 : r.toNat + 1 ≤ 5 := by omega
    rw [show (fun i j => V.int (i + j)) 2 ((fun i j => i * j) 2 r) = V.int ((2 * (r.toNat + 1) : Nat) : Int) from congrArg V.int eN]
    revert hM1
    generalize r.toNat + 1 = M
    intro hM1
    clear eN r0 r1
    refine ⟨_, rfl, RgOk.of_le (by decide) (by omega) (by decide) (by omega), fun rl nrl => ?_⟩
    rw [rg_nv]
    have sr : Same Ha (upd Ha rl (.lst (nv (List.range (2 * M))))) := same_new nrl
    refine ⟨b, rl, n + 3000, _, rfl, (hBa.same sr).mono (by rw [nv_length, List.length_range]; omega), .inl (.inl upd_same), by rw [nv_length, List.length_range]; omega, fun Hb p ys hpy kb hBb np ep => ?_⟩
    obtain ⟨os, eo, hp⟩ := perm_map_inv (fun (i : Nat) => V.int (i : Int)) hpy.symm (List.range (2 * M)) rfl
    replace ep : Hb p = some (.lst (nv os)) := by rw [ep, eo]; rfl
    have kHb : Keep b H Hb := k5.trans (ka.trans ((Keep.of_same sr).trans kb))
    have efb : Hb lf = some (.lst xf) := kb _ _ lfb (sr _ _ (ka _ _ lfb ef))
    have hol : os.length = 2 * M := by rw [hp.length_eq, List.length_range]
    have hos : ∀ j, os.getD j 0 < 11 := fun j => by
      rw [List.getD_eq_getElem?_getD]
      cases hj : os[j]? with
      | none => decide
      | some x => have := List.mem_range.mp (hp.mem_iff.mp (List.mem_of_getElem? hj)); show x < 11; omega
    clear eo hpy ka sr kb hBa nrl ef k5 hB5 np
    refine st_set [some (.ref b), some (.ref lf), some (.ref p), none, none, none, none, none, none, none, none, none, none] ?_ rfl
    -- its pairs
    refine ⟨_, rfl, p, _, rfl, .inl (.inl (.inl ep)), 0, _, 2, M, rfl, by have := rgc_two (n := 2 * M) (by omega); rw [show (2 * M + 1) / 2 = M by omega] at this; rw [nv_length, hol]; exact this, fun D nD => ?_⟩
    refine lc_it (walk_rangeC (n := M)) (fun i H' => Same Hb H' ∧ ∃ (as : List Addr) (qs : List (Nat × Nat)), H' D = some (.lst (as.map V.ref)) ∧ Prs H' as qs ∧ qs.length = i ∧ ∀ p ∈ qs, p.1 < 11 ∧ p.2 < 11) ⟨same_new nD, [], [], upd_same, .nil, rfl, fun p hp => by simp at hp⟩ (fun _ _ _ _ => trivial) (fun i x' H2 H3 hi hPv yy => ?_) (fun Hc hPv => ?_)
    · obtain ⟨sm, as, qs, eD, hA, hql, hqs⟩ := hPv
      obtain ⟨rfl, rfl⟩ := yy
      have eo := sm _ _ ep
      refine ⟨rfl, yes_if ⟨_, rfl, _, rfl, _, rfl, _, rfl, _, _, rfl, rfl, _, rfl, p, _, rfl, .inl (.inl eo), fun l nl => ?_⟩⟩
      rw [show cutV (nv os) (some ((0 : Int) + (i : Nat) * 2)) (some ((0 : Int) + (i : Nat) * 2 + 2)) = nv [os.getD (2 * i) 0, os.getD (2 * i + 1) 0] from cut_two (by omega)]
      have s1 := same_new (o := .lst (nv [os.getD (2 * i) 0, os.getD (2 * i + 1) 0])) nl
      refine ⟨l, [((os.getD (2 * i) 0 : Nat) : Int), ((os.getD (2 * i + 1) 0 : Nat) : Int)], rfl, .inl (.inl upd_same), by show 2 < 64; decide, fun ns' p' hpp hps np => ?_⟩
      rw [two_srt hpp hps]
      obtain ⟨x, y, hxy, hx, hy⟩ : ∃ x y : Nat, [((min (os.getD (2 * i) 0) (os.getD (2 * i + 1) 0) : Nat) : Int), ((max (os.getD (2 * i) 0) (os.getD (2 * i + 1) 0) : Nat) : Int)].map V.int = [V.int (x : Nat), V.int (y : Nat)] ∧ x < 11 ∧ y < 11 := ⟨_, _, rfl, by have := hos (2 * i); omega, by have := hos (2 * i); have := hos (2 * i + 1); omega⟩
      rw [hxy]
      have s2 := s1.trans (same_new (o := .lst [V.int (x : Nat), V.int (y : Nat)]) np)
      refine ⟨p', _, rfl, .inl ⟨.inl (.inl upd_same), fun u nu => ?_⟩⟩
      have s3 := s2.trans (same_new (o := .tup [V.int (x : Nat), V.int (y : Nat)]) nu)
      have eD3 := s3 _ _ eD
      have uD : u ≠ D := fun z => by rw [z, s2 _ _ eD] at nu; cases nu
      refine ⟨_, eD3, ?_, fun z o hz => ?_, as ++ [u], qs ++ [(x, y)], ?_, ?_, ?_, ?_⟩
      · rw [List.length_map, hA.length]; exact small1000 (by omega)
      · rw [upd_ne (ne_of_none hz nD)]; exact s3 _ _ (sm _ _ hz)
      · rw [upd_same, List.map_append]; rfl
      · refine prs_append (prs_keep (b := D) keep_upd eD3 (prs_same s3 hA)) (.cons ?_ .nil)
        rw [upd_ne uD]; exact upd_same
      · rw [List.length_append, hql]; rfl
      · intro z hz
        rcases List.mem_append.mp hz with c | c
        · exact hqs z c
        · rw [List.mem_singleton.mp c]; exact ⟨hx, hy⟩
    obtain ⟨sc, as, qs, eD, hA, hql, hqs⟩ := hPv
    refine ⟨D, as.map V.ref, rfl, .inl (.inl eD), fun x hx => ?_, fun ys' D2 pm _ nD2 => ?_⟩
    · obtain ⟨a, ha, rfl⟩ := List.mem_map.mp hx
      obtain ⟨i, hi⟩ := List.getElem?_of_mem ha
      obtain ⟨z, hz, e⟩ := prs_get hA hi
      have := hqs z (List.mem_of_getElem? hz)
      refine ⟨[(z.1 : Int), (z.2 : Int)], ⟨_, rfl, .inl (.inl e)⟩, rfl, fun i hi => ?_⟩
      simp only [List.mem_cons, List.not_mem_nil, or_false] at hi
      omega
    obtain ⟨bs, rfl, hbs⟩ := perm_map_inv V.ref pm.symm as rfl
    obtain ⟨ds, pds, hD⟩ := prs_permX hA hbs
    have sd := same_new (o := .lst (bs.map V.ref)) nD2
    have e2 : (upd Hc D2 (.lst (bs.map V.ref))) D2 = some (.lst (bs.map V.ref)) := upd_same
    have hD' := prs_same sd hD
    revert sd e2 hD'
    generalize upd Hc D2 (.lst (bs.map V.ref)) = Hd
    intro sd e2 hD'
    have hs : Small ds := fun z hz => by have := hqs z (pds.mem_iff.mp hz); exact ⟨by omega, by omega⟩
    have hdl : ds.length ≤ 5 := by rw [pds.length_eq, hql]; exact hM1
    have hBd : Box (n + 3000) Hd b := (hBb.same sc).same sd
    have kHd : Keep b H Hd := kHb.trans (Keep.of_same (sc.trans sd))
    have efd := sd _ _ (sc _ _ efb)
    clear hD hA eD pm hbs sc sd nD nD2 hBb kHb efb ep hp hos hql hqs
    refine st_set [some (.ref b), some (.ref lf), some (.ref p), some (.ref D2), none, none, none, none, none, none, none, none, none] ?_ rfl
    -- the text
    refine ⟨⟨_, rfl⟩, _, rfl, D2, rfl, ⟨_, .inl (.inl e2)⟩, fun G nG => ?_⟩
    refine lc_list (xs := bs.map V.ref) (fun i H' => Same Hd H' ∧ H' G = some (.lst (((ds.take i).map cT).map V.str))) ⟨same_new nG, upd_same⟩ (fun i H' _ h => .inl (.inl (h.1 _ _ e2))) (fun i v H' hv h => ?_) (fun He h => ?_)
    · obtain ⟨sm, eG⟩ := h
      rw [List.getElem?_map] at hv
      obtain ⟨u, eu, rfl⟩ := Option.map_eq_some_iff.mp hv
      obtain ⟨z, ez, hu⟩ := prs_get (prs_same sm hD') eu
      obtain ⟨h1', h2'⟩ := hs z (List.mem_of_getElem? ez)
      have l1 := nT_len h1'
      have l2 := nT_len h2'
      have hz : ∀ {n : Nat}, n < 10 ^ 13 → ((n : Nat) : Int).natAbs.log2 < 1920 := fun {n} h => Nat.lt_of_lt_of_le (log_lt (k := 60) (by rw [Int.natAbs_natCast]; omega) (by decide)) (by decide)
      refine ⟨u, _, rfl, .inl (.inl hu), rfl, _, _, rfl, _, _, rfl, rfl, rfl, yes_if ⟨_, rfl, _, rfl, hz h1', nT z.1, _, rfl, rfl, lz (by omega), _, rfl, _, rfl, hz h2', nT z.1 ++ "-", nT z.2, rfl, rfl, lz (by rw [app_len]; omega), ?_⟩⟩
      refine ⟨_, eG, ?_, fun y o hy => by rw [upd_ne (ne_of_none hy nG)]; exact sm _ _ hy, ?_⟩
      · rw [List.length_map, List.length_map, List.length_take]; exact line_big (by omega)
      · rw [upd_same, List.take_add_one, ez, List.map_append, List.map_append]; rfl
    obtain ⟨se, eG⟩ := h
    rw [List.length_map, hD'.length, List.take_length] at eG
    refine ⟨_, G, ds.map cT, rfl, rfl, .inl (.inl (.inl eG)), ?_, ?_⟩
    · have := texts_len hs
      rw [List.length_map, dg]; omega
    have hml : (wT ds).length ≤ 140 := by have := wT_len hs; omega
    show gName 4 (.str (wT ds)) _ _ _
    revert hml
    generalize wT ds = msg
    intro hml
    have hBe := hBd.same se
    have kHe := kHd.trans (Keep.of_same se)
    have efe := se _ _ efd
    clear hBd kHd efd se eG nG hs hdl hD' e2 pds
    refine st_set [some (.ref b), some (.ref lf), some (.ref p), some (.ref D2), some (.str msg), none, none, none, none, none, none, none, none] ?_ rfl
    refine ⟨_, rfl, by show 2 ≤ sizeLine; decide, fun L nL => ?_⟩
    have sL : Same He (upd He L (.lst [.str msg, .str "0-2 1-3"])) := same_new nL
    have eL : (upd He L (.lst [.str msg, .str "0-2 1-3"])) L = some (.lst [.str msg, .str "0-2 1-3"]) := upd_same
    have Lb : L ≠ b := (hBe.ne_new nL).symm
    have HL : H L = none := keep_freeR kHe hBe nL
    have lfL : lf ≠ L := ne_of_none efe nL
    revert sL eL
    generalize upd He L (.lst [.str msg, .str "0-2 1-3"]) = Hg
    intro sL eL
    have hBg := hBe.same sL
    have kHg := kHe.trans (Keep.of_same sL)
    have efg := sL _ _ efe
    clear hBe kHe efe sL nL
    refine st_set [some (.ref b), some (.ref lf), some (.ref p), some (.ref D2), some (.str msg), some (.ref L), none, none, none, none, none, none, none] ?_ rfl
    -- bent ones
    refine ⟨24, rfl, by decide, by decide, ?_⟩
    refine for_range (n := 24) (fun i σ H' => Keep b H H' ∧ Box (n + (100 + 50 * (24 - i))) H' b ∧ H' lf = some (.lst xf) ∧ (∃ xs, H' L = some (.lst xs) ∧ xs.length ≤ 2 + i ∧ TxtL 580 xs) ∧ ∃ y1 y2 : Option V, σ = [some (.ref b), some (.ref lf), some (.ref p), some (.ref D2), some (.str msg), some (.ref L), y1, y2, none, none, none, none, none])
      ⟨kHg, hBg.mono (by omega), efg, ⟨_, eL, Nat.le_refl _, fun v hv => ?_⟩, none, none, rfl⟩ (fun i σ Hi hi hPv => ?_) (fun σ Hz hPv => ?_)
    · simp only [List.mem_cons, List.not_mem_nil, or_false] at hv
      rcases hv with e | e
      · exact ⟨_, e, by omega⟩
      · exact ⟨_, e, by decide +kernel⟩
    · obtain ⟨kI, hBi, efi, ⟨xs, eLi, hxl, hxt⟩, y1, y2, rfl⟩ := hPv
      obtain ⟨m, hm⟩ : ∃ m, m = n + (100 + 50 * (24 - (i + 1))) := ⟨_, rfl⟩
      replace hBi : Box (m + 50) Hi b := hBi.mono (by omega)
      refine st_set [some (.ref b), some (.ref lf), some (.ref p), some (.ref D2), some (.str msg), some (.ref L), some (.int ((0 : Int) + (i : Nat))), y2, none, none, none, none, none] ?_ rfl
      refine ⟨.ref b, rfl, _, rfl, b, m + 40, msg, rfl, hBi.mono (by omega), by omega, fun Hj s' kj hBj ls' => ?_⟩
      refine st_set [some (.ref b), some (.ref lf), some (.ref p), some (.ref D2), some (.str msg), some (.ref L), some (.int ((0 : Int) + (i : Nat))), some (.str s'), none, none, none, none, none] ?_ rfl
      have eLj := kj _ _ Lb eLi
      have efj := kj _ _ lfb efi
      have add : ∀ (J : Hp) (s2 : Str), Keep b Hj J → Box m J b → s2.length ≤ 580 → J L = some (.lst xs) ∧ xs.length < sizeLine ∧ (Keep b H (upd J L (.lst (xs ++ [.str s2]))) ∧ Box (n + (100 + 50 * (24 - (i + 1)))) (upd J L (.lst (xs ++ [.str s2]))) b ∧ (upd J L (.lst (xs ++ [.str s2]))) lf = some (.lst xf) ∧ (∃ zs, (upd J L (.lst (xs ++ [.str s2]))) L = some (.lst zs) ∧ zs.length ≤ 2 + (i + 1) ∧ TxtL 580 zs) ∧ ∃ z1 z2 : Option V, [some (.ref b), some (.ref lf), some (.ref p), some (.ref D2), some (.str msg), some (.ref L), some (.int ((0 : Int) + (i : Nat))), some (.str s'), none, none, none, none, none] = [some (.ref b), some (.ref lf), some (.ref p), some (.ref D2), some (.str msg), some (.ref L), z1, z2, none, none, none, none, none]) := fun J s2 kJ hBJ l2 => by
        have eLJ := kJ _ _ Lb eLj
        refine ⟨eLJ, line_big (by omega), fun x o xb hx => by rw [upd_ne (ne_of_none hx HL)]; exact kJ _ _ xb (kj _ _ xb (kI _ _ xb hx)), by rw [← hm]; exact hBJ.keep (c := L) keep_upd Lb.symm, by rw [upd_ne lfL]; exact kJ _ _ lfb efj, ⟨_, upd_same, by rw [List.length_append]; show xs.length + 1 ≤ _; omega, fun v hv => ?_⟩, _, _, rfl⟩
        rcases List.mem_append.mp hv with c | c
        · exact hxt v c
        · exact ⟨s2, List.mem_singleton.mp c, l2⟩
      refine ⟨_, rfl, .inl ⟨rfl, _, .inl (.inl eLj)⟩, .ref b, rfl, b, m + 30, 3, rfl, hBj.mono (by omega), by decide, by decide, fun r3 Hk r30 r31 hBk kk => ⟨rfl, _, rfl, ite2 (fun c => ?_) (fun c => ?_)⟩⟩
      · refine ⟨.ref b, rfl, _, rfl, b, m + 20, s', rfl, hBk.mono (by omega), by omega, fun Hl s2 kl hBl ls2 => ?_⟩
        obtain ⟨a1, a2, a3⟩ := add Hl s2 (kk.trans kl) (hBl.mono (by omega)) (by omega)
        exact ⟨L, _, _, rfl, rfl, a1, a2, a3⟩
      · obtain ⟨a1, a2, a3⟩ := add Hk s' kk (hBk.mono (by omega)) (by omega)
        exact ⟨_, rfl, L, _, _, rfl, rfl, a1, a2, a3⟩
    obtain ⟨kz, hBz, efz, ⟨xs, eLz, hxl, hxt⟩, y1, y2, rfl⟩ := hPv
    -- all of them
    refine ⟨_, rfl, _, rfl, lf, L, _, _, rfl, rfl, efz, eLz, lz (by omega), fun lx nx => ?_⟩
    have sx : Same Hz (upd Hz lx (.lst (xf ++ xs))) := same_new nx
    have ex : (upd Hz lx (.lst (xf ++ xs))) lx = some (.lst (xf ++ xs)) := upd_same
    revert sx ex
    generalize upd Hz lx (.lst (xf ++ xs)) = Hx
    intro sx ex
    have txs : TxtL 580 (xf ++ xs) := fun v hv => by
      rcases List.mem_append.mp hv with c | c
      · obtain ⟨s, e, l⟩ := txf v c
        exact ⟨s, e, by omega⟩
      · exact hxt v c
    have kx := kz.trans (Keep.of_same sx)
    have hBx := hBz.same sx
    refine ⟨lx, rfl, ⟨_, .inl (.inl ex)⟩, ?_⟩
    refine for_list (xs := xf ++ xs) (fun i σ H' => Same Hx H' ∧ ∃ y3 y4 : Option V, σ = [some (.ref b), some (.ref lf), some (.ref p), some (.ref D2), some (.str msg), some (.ref L), y1, y2, y3, y4, none, none, none]) ⟨fun _ _ h => h, none, none, rfl⟩ (fun i σ H' _ h => .inl (.inl (h.1 _ _ ex))) (fun i x σ H1 hx h => ?_) (fun σ Hh h => ?_)
    · obtain ⟨sm, y3, y4, rfl⟩ := h
      obtain ⟨s, rfl, ls⟩ := txs x (List.mem_of_getElem? hx)
      refine st_set [some (.ref b), some (.ref lf), some (.ref p), some (.ref D2), some (.str msg), some (.ref L), y1, y2, some (.str s), y4, none, none, none] ?_ rfl
      refine ⟨2, rfl, by decide, by decide, ?_⟩
      refine for_range (n := 2) (fun j σ H' => Same Hx H' ∧ ∃ y4 : Option V, σ = [some (.ref b), some (.ref lf), some (.ref p), some (.ref D2), some (.str msg), some (.ref L), y1, y2, some (.str s), y4, none, none, none]) ⟨sm, y4, rfl⟩ (fun j σ H2 hj h => ?_) (fun σ Hh h => ?_)
      · obtain ⟨sm2, y5, rfl⟩ := h
        refine st_set [some (.ref b), some (.ref lf), some (.ref p), some (.ref D2), some (.str msg), some (.ref L), y1, y2, some (.str s), some (.int ((0 : Int) + (j : Nat))), none, none, none] ?_ rfl
        obtain ⟨r1, r2⟩ := rdD_ok j s (by omega)
        refine ⟨_, rfl, _, rfl, j, s, by rw [Int.zero_add]; rfl, by omega, by omega, fun H3 v s3 d3 => ?_⟩
        refine ⟨_, rfl, _, rfl, j, s, by rw [Int.zero_add]; rfl, by omega, by omega, fun H4 u s4 d4 => ?_⟩
        exact ⟨v, u, _, rfl, dp_same s4 d3, d4, r1, r2, fun H5 s5 => ⟨true, rfl, iteN ⟨sm2.trans (s3.trans (s4.trans s5)), _, rfl⟩⟩⟩
      · obtain ⟨sm2, y5, rfl⟩ := h
        exact ⟨sm2, _, _, rfl⟩
    obtain ⟨sm, y3, y4, rfl⟩ := h
    exact q _ (kx.trans (Keep.of_same sm)) ((hBx.same sm).mono (by omega))
end
end Pc
namespace Pc
open PySem PySem.Spec PyProof.Rows L2 RZ
section
variable {P : Program} {w : World} {K : PySem.W.Frag} {mg : Str → Option Value} {base : Heap}
/-! ### the law -/
def spLaw (K : PySem.W.Frag) : Sp := fun vs H Q _ => ∃ (a : Addr) (ns : List Int), vs = [.ref a] ∧ SqL K H a (ns.map V.int) ∧ ns.length ≤ 63 ∧ ∀ H', Q (.bl true) H'
theorem ok_law (T : Env K mg) {f : Addr} {fd : FuncData} (F : Fun K "law" "law" s_law f fd) : FnOk P w K mg base CX0 7 f fd ["_law_script"] (spLaw K) := by
  have GC : FnOk P w K mg base CX0 1 T.f_folded T.d_folded ["_law_script", "_law_most"] (spCells K) := ok_cells T
  have GB : FnOk P w K mg base CX0 1 T.f_stream T.d_stream ["_law_script", "_law_k"] (spBox K) := ok_box T
  have GR : FnOk P w K mg base CX0 6 T.f_right T.d_right ["_law_source"] spRight := ok_right T
  refine F.ok sc_law (fun vs H Q E h => ?_) (fun cdv A outer s H vs Q E hr h => ?_)
  · obtain ⟨a, ns, rfl, _⟩ := h
    rfl
  · obtain ⟨a, ns, rfl, hS, hn, q⟩ := h
    have h1 := hr.mono (show 1 ≤ 6 by decide)
    refine ⟨_, pss_cons (ps_set (i := 1) sc_law.nd rfl (.inl rfl) (pe_call GC h1 (by rfl) T.g_folded T.F_folded.kp T.b_folded .nil pass0 (pa_cons (pv 0) (pa_cons pe_int pa_nil)))) <|
      pss_cons (ps_for PassesOwn.never rfl (pi_range1 (by rfl) T.n_range (pa_cons (pe_callB call_len_seq (by rfl) T.n_len PySem.boot_len (pa_cons (pv 1) pa_nil)) pa_nil)) (pg_name (i := 2) sc_law.nd rfl (.inl rfl))
        (pss_cons (ps_set (i := 3) sc_law.nd rfl (.inr rfl) (pe_call GB h1 (by rfl) T.g_stream T.F_stream.kp T.b_stream .nil pass0 (pa_cons (pv 1) (pa_cons (pv 2) pa_nil))))
        (pss_one (ps_if (pt_not (pt_val (pe_callB (cr_all rfl) (by rfl) T.n_all (by decide +kernel) (pa_cons
          (pe_lc (own := [("_law_turn", 4)]) (g := gName 4) (tt := tYes) rfl sc_law.nd (pi_range1 (by rfl) T.n_range (pa_cons pe_int pa_nil)) (blkOk_by (N := N_law) (sc := defScope s_law) (by decide +kernel))
            (fun _ _ _ _ _ => pg_name (i := 4) sc_law.nd rfl (.inl rfl)) (fun _ _ _ _ _ => pts_nil)
            (fun _ _ _ _ _ => pe_call GR hr (by rfl) T.g_right T.F_right.kp T.b_right .nil pass0 (pa_cons (pv 3) pa_nil))) pa_nil)))) (pss_one (ps_ret pe_bl)) pss_nil)))) <|
      pss_one (ps_ret pe_bl), ?_⟩
    refine ⟨.ref a, rfl, a, ns, 3, rfl, hS, hn, by decide, by decide, fun Hc p cs sc np ep hc1 hc2 => ?_⟩
    have hlen : (cs.map V.int).length = cs.length := List.length_map _
    refine ⟨.ref p, rfl, p, _, rfl, .inl (.inl (.inl ep)), _, rfl, by omega, by omega, ?_⟩
    have hj : ((cs.map V.int).length : Int).toNat = cs.length := by rw [hlen]; rfl
    rw [hj]
    refine for_range (fun i σ H' => H' p = some (.lst (cs.map V.int)) ∧ ∃ (y2 y3 y4 : Option V), σ = [some (.ref a), some (.ref p), y2, y3, y4]) ⟨ep, none, none, none, rfl⟩ (fun i σ H1 hi hPv => ?_) (fun σ H' hPv => q _)
    obtain ⟨ep1, y2, y3, y4, rfl⟩ := hPv
    refine ⟨.ref p, rfl, _, rfl, p, cs, i, ?_, .inl (.inl ep1), by omega, fun Hb b sb nb hBb => ?_⟩
    · show [V.ref p, V.int ((0 : Int) + (i : Nat))] = _
      rw [Int.zero_add]
    have epb := sb _ _ ep1
    have pb : p ≠ b := ne_of_none ep1 nb
    refine ⟨2, rfl, by decide, by decide, fun D nD => ?_⟩
    have bD : b ≠ D := hBb.ne_new nD
    have pD : p ≠ D := ne_of_none epb nD
    refine lc_range (n := 2) (fun j H' => H' p = some (.lst (cs.map V.int)) ∧ Box (4000 * (2 - j)) H' b ∧ H' D = some (.lst (List.replicate j (.bl true))))
      ⟨same_new nD _ _ epb, (hBb.same (same_new nD)).mono (by decide), upd_same⟩ (fun j H' hj hPv => ?_) (fun H' hPv => ?_)
    · obtain ⟨ep', hB', eD⟩ := hPv
      refine ⟨rfl, yes_if ⟨_, rfl, b, 4000 * (2 - (j + 1)), rfl, hB'.mono (by omega), fun H2 k2 hB2 => ⟨_, k2 _ _ bD.symm eD, ?_, ?_, ?_, ?_⟩⟩⟩
      · rw [List.length_replicate]; exact small1000 (by omega)
      · rw [upd_ne pD]; exact k2 _ _ pb ep'
      · exact hB2.keep (c := D) keep_upd bD
      · rw [upd_same, List.replicate_succ']
    · obtain ⟨ep', hB', eD⟩ := hPv
      refine ⟨D, List.replicate 2 true, rfl, by rw [List.map_replicate]; exact .inl (.inl eD), _, rfl, ?_⟩
      rw [all_rep]
      exact iteN ⟨ep', _, _, _, rfl⟩
end
end Pc
namespace Pc
open PySem PySem.Spec PyProof.Rows L2 RZ
theorem all_mk {l : PySem.W.OpenLaw} {w : World} {K : PySem.W.Frag} {h : Heap} {mg : Str → Option Value} {fa f_p_pairing_of f_p_number_in f_p_call_in f_p_pairing_in f_p_word_in f_stream f_draw f_folded f_pick f_same f_shuffled f_is_number f_duo f_read_text f_told f_bent f_right f_law C_BadText C_BadLine f_i_BadText : Addr} (X : K.In h) (G : h.Ns mainGlobals mg) (hfa : mg "law" = some (.ref fa))
    {od_p_pairing_of an_p_pairing_of : Option Addr} {sl_p_pairing_of : Array (Option Value)} {oc_p_pairing_of kV_p_pairing_of dc_p_pairing_of pm_p_pairing_of cd_p_pairing_of ct_p_pairing_of : Value}
    {od_p_number_in an_p_number_in : Option Addr} {sl_p_number_in : Array (Option Value)} {oc_p_number_in kV_p_number_in dc_p_number_in pm_p_number_in cd_p_number_in ct_p_number_in : Value}
    {od_p_call_in an_p_call_in : Option Addr} {sl_p_call_in : Array (Option Value)} {oc_p_call_in kV_p_call_in dc_p_call_in pm_p_call_in cd_p_call_in ct_p_call_in : Value}
    {od_p_pairing_in an_p_pairing_in : Option Addr} {sl_p_pairing_in : Array (Option Value)} {oc_p_pairing_in kV_p_pairing_in dc_p_pairing_in pm_p_pairing_in cd_p_pairing_in ct_p_pairing_in : Value}
    {od_p_word_in an_p_word_in : Option Addr} {sl_p_word_in : Array (Option Value)} {oc_p_word_in kV_p_word_in dc_p_word_in pm_p_word_in cd_p_word_in ct_p_word_in : Value}
    {od_stream an_stream : Option Addr} {sl_stream : Array (Option Value)} {oc_stream kV_stream dc_stream pm_stream cd_stream ct_stream : Value}
    {od_draw an_draw : Option Addr} {sl_draw : Array (Option Value)} {oc_draw kV_draw dc_draw pm_draw cd_draw ct_draw : Value}
    {od_folded an_folded : Option Addr} {sl_folded : Array (Option Value)} {oc_folded kV_folded dc_folded pm_folded cd_folded ct_folded : Value}
    {od_pick an_pick : Option Addr} {sl_pick : Array (Option Value)} {oc_pick kV_pick dc_pick pm_pick cd_pick ct_pick : Value}
    {od_same an_same : Option Addr} {sl_same : Array (Option Value)} {oc_same kV_same dc_same pm_same cd_same ct_same : Value}
    {od_shuffled an_shuffled : Option Addr} {sl_shuffled : Array (Option Value)} {oc_shuffled kV_shuffled dc_shuffled pm_shuffled cd_shuffled ct_shuffled : Value}
    {od_is_number an_is_number : Option Addr} {sl_is_number : Array (Option Value)} {oc_is_number kV_is_number dc_is_number pm_is_number cd_is_number ct_is_number : Value}
    {od_duo an_duo : Option Addr} {sl_duo : Array (Option Value)} {oc_duo kV_duo dc_duo pm_duo cd_duo ct_duo : Value}
    {od_read_text an_read_text : Option Addr} {sl_read_text : Array (Option Value)} {oc_read_text kV_read_text dc_read_text pm_read_text cd_read_text ct_read_text : Value}
    {od_told an_told : Option Addr} {sl_told : Array (Option Value)} {oc_told kV_told dc_told pm_told cd_told ct_told : Value}
    {od_bent an_bent : Option Addr} {sl_bent : Array (Option Value)} {oc_bent kV_bent dc_bent pm_bent cd_bent ct_bent : Value}
    {od_right an_right : Option Addr} {sl_right : Array (Option Value)} {oc_right kV_right dc_right pm_right cd_right ct_right : Value}
    {od_law an_law : Option Addr} {sl_law : Array (Option Value)} {oc_law kV_law dc_law pm_law cd_law ct_law : Value}
    {tk_MOST_DIGITS : Tok}
    {tk_DIGITS : Tok}
    {nm_BadText qn_BadText : Str} {Nn_BadText : Addr} {bs_BadText : List Value} {sn_BadText : List Str} {sub_BadText : List Value} {ab_BadText : Bool} {col_BadText : Option Bool} {dd_BadText : Option Addr} {m0_BadText m1_BadText m2_BadText m3_BadText m5_BadText : Option Value} {od_i_BadText an_i_BadText : Option Addr} {sl_i_BadText : Array (Option Value)} {oc_i_BadText kV_i_BadText dc_i_BadText pm_i_BadText cd_i_BadText ct_i_BadText : Value}
    (a_p_pairing_of : PySem.W.nsIn K mainGlobals "pairing_of" = some (some (.ref f_p_pairing_of))) (l_p_pairing_of : K.lookup f_p_pairing_of = some ⟨oc_p_pairing_of, od_p_pairing_of, .func (PySem.W.fnOf "pairing_of" "pairing_of" (defArgs s_p_pairing_of) (defBody s_p_pairing_of) (defScope s_p_pairing_of) .none kV_p_pairing_of dc_p_pairing_of pm_p_pairing_of an_p_pairing_of cd_p_pairing_of ct_p_pairing_of), sl_p_pairing_of⟩) (c_p_pairing_of : PySem.W.codeIn K cd_p_pairing_of "pairing_of" = true) (k_p_pairing_of : PySem.W.keepIn K (.ref f_p_pairing_of) = true)
    (a_p_number_in : PySem.W.nsIn K mainGlobals "number_in" = some (some (.ref f_p_number_in))) (l_p_number_in : K.lookup f_p_number_in = some ⟨oc_p_number_in, od_p_number_in, .func (PySem.W.fnOf "number_in" "number_in" (defArgs s_p_number_in) (defBody s_p_number_in) (defScope s_p_number_in) .none kV_p_number_in dc_p_number_in pm_p_number_in an_p_number_in cd_p_number_in ct_p_number_in), sl_p_number_in⟩) (c_p_number_in : PySem.W.codeIn K cd_p_number_in "number_in" = true) (k_p_number_in : PySem.W.keepIn K (.ref f_p_number_in) = true)
    (a_p_call_in : PySem.W.nsIn K mainGlobals "call_in" = some (some (.ref f_p_call_in))) (l_p_call_in : K.lookup f_p_call_in = some ⟨oc_p_call_in, od_p_call_in, .func (PySem.W.fnOf "call_in" "call_in" (defArgs s_p_call_in) (defBody s_p_call_in) (defScope s_p_call_in) .none kV_p_call_in dc_p_call_in pm_p_call_in an_p_call_in cd_p_call_in ct_p_call_in), sl_p_call_in⟩) (c_p_call_in : PySem.W.codeIn K cd_p_call_in "call_in" = true) (k_p_call_in : PySem.W.keepIn K (.ref f_p_call_in) = true)
    (a_p_pairing_in : PySem.W.nsIn K mainGlobals "pairing_in" = some (some (.ref f_p_pairing_in))) (l_p_pairing_in : K.lookup f_p_pairing_in = some ⟨oc_p_pairing_in, od_p_pairing_in, .func (PySem.W.fnOf "pairing_in" "pairing_in" (defArgs s_p_pairing_in) (defBody s_p_pairing_in) (defScope s_p_pairing_in) .none kV_p_pairing_in dc_p_pairing_in pm_p_pairing_in an_p_pairing_in cd_p_pairing_in ct_p_pairing_in), sl_p_pairing_in⟩) (c_p_pairing_in : PySem.W.codeIn K cd_p_pairing_in "pairing_in" = true) (k_p_pairing_in : PySem.W.keepIn K (.ref f_p_pairing_in) = true)
    (a_p_word_in : PySem.W.nsIn K mainGlobals "word_in" = some (some (.ref f_p_word_in))) (l_p_word_in : K.lookup f_p_word_in = some ⟨oc_p_word_in, od_p_word_in, .func (PySem.W.fnOf "word_in" "word_in" (defArgs s_p_word_in) (defBody s_p_word_in) (defScope s_p_word_in) .none kV_p_word_in dc_p_word_in pm_p_word_in an_p_word_in cd_p_word_in ct_p_word_in), sl_p_word_in⟩) (c_p_word_in : PySem.W.codeIn K cd_p_word_in "word_in" = true) (k_p_word_in : PySem.W.keepIn K (.ref f_p_word_in) = true)
    (a_stream : PySem.W.nsIn K mainGlobals "_law_stream" = some (some (.ref f_stream))) (l_stream : K.lookup f_stream = some ⟨oc_stream, od_stream, .func (PySem.W.fnOf "_law_stream" "_law_stream" (defArgs s_stream) (defBody s_stream) (defScope s_stream) .none kV_stream dc_stream pm_stream an_stream cd_stream ct_stream), sl_stream⟩) (c_stream : PySem.W.codeIn K cd_stream "_law_stream" = true) (k_stream : PySem.W.keepIn K (.ref f_stream) = true)
    (a_draw : PySem.W.nsIn K mainGlobals "_law_draw" = some (some (.ref f_draw))) (l_draw : K.lookup f_draw = some ⟨oc_draw, od_draw, .func (PySem.W.fnOf "_law_draw" "_law_draw" (defArgs s_draw) (defBody s_draw) (defScope s_draw) .none kV_draw dc_draw pm_draw an_draw cd_draw ct_draw), sl_draw⟩) (c_draw : PySem.W.codeIn K cd_draw "_law_draw" = true) (k_draw : PySem.W.keepIn K (.ref f_draw) = true)
    (a_folded : PySem.W.nsIn K mainGlobals "_law_folded" = some (some (.ref f_folded))) (l_folded : K.lookup f_folded = some ⟨oc_folded, od_folded, .func (PySem.W.fnOf "_law_folded" "_law_folded" (defArgs s_folded) (defBody s_folded) (defScope s_folded) .none kV_folded dc_folded pm_folded an_folded cd_folded ct_folded), sl_folded⟩) (c_folded : PySem.W.codeIn K cd_folded "_law_folded" = true) (k_folded : PySem.W.keepIn K (.ref f_folded) = true)
    (a_pick : PySem.W.nsIn K mainGlobals "_law_pick" = some (some (.ref f_pick))) (l_pick : K.lookup f_pick = some ⟨oc_pick, od_pick, .func (PySem.W.fnOf "_law_pick" "_law_pick" (defArgs s_pick) (defBody s_pick) (defScope s_pick) .none kV_pick dc_pick pm_pick an_pick cd_pick ct_pick), sl_pick⟩) (c_pick : PySem.W.codeIn K cd_pick "_law_pick" = true) (k_pick : PySem.W.keepIn K (.ref f_pick) = true)
    (a_same : PySem.W.nsIn K mainGlobals "_law_same" = some (some (.ref f_same))) (l_same : K.lookup f_same = some ⟨oc_same, od_same, .func (PySem.W.fnOf "_law_same" "_law_same" (defArgs s_same) (defBody s_same) (defScope s_same) .none kV_same dc_same pm_same an_same cd_same ct_same), sl_same⟩) (c_same : PySem.W.codeIn K cd_same "_law_same" = true) (k_same : PySem.W.keepIn K (.ref f_same) = true)
    (a_shuffled : PySem.W.nsIn K mainGlobals "_law_shuffled" = some (some (.ref f_shuffled))) (l_shuffled : K.lookup f_shuffled = some ⟨oc_shuffled, od_shuffled, .func (PySem.W.fnOf "_law_shuffled" "_law_shuffled" (defArgs s_shuffled) (defBody s_shuffled) (defScope s_shuffled) .none kV_shuffled dc_shuffled pm_shuffled an_shuffled cd_shuffled ct_shuffled), sl_shuffled⟩) (c_shuffled : PySem.W.codeIn K cd_shuffled "_law_shuffled" = true) (k_shuffled : PySem.W.keepIn K (.ref f_shuffled) = true)
    (a_is_number : PySem.W.nsIn K mainGlobals "_law_is_number" = some (some (.ref f_is_number))) (l_is_number : K.lookup f_is_number = some ⟨oc_is_number, od_is_number, .func (PySem.W.fnOf "_law_is_number" "_law_is_number" (defArgs s_is_number) (defBody s_is_number) (defScope s_is_number) .none kV_is_number dc_is_number pm_is_number an_is_number cd_is_number ct_is_number), sl_is_number⟩) (c_is_number : PySem.W.codeIn K cd_is_number "_law_is_number" = true) (k_is_number : PySem.W.keepIn K (.ref f_is_number) = true)
    (a_duo : PySem.W.nsIn K mainGlobals "_law_duo" = some (some (.ref f_duo))) (l_duo : K.lookup f_duo = some ⟨oc_duo, od_duo, .func (PySem.W.fnOf "_law_duo" "_law_duo" (defArgs s_duo) (defBody s_duo) (defScope s_duo) .none kV_duo dc_duo pm_duo an_duo cd_duo ct_duo), sl_duo⟩) (c_duo : PySem.W.codeIn K cd_duo "_law_duo" = true) (k_duo : PySem.W.keepIn K (.ref f_duo) = true)
    (a_read_text : PySem.W.nsIn K mainGlobals "_law_read_text" = some (some (.ref f_read_text))) (l_read_text : K.lookup f_read_text = some ⟨oc_read_text, od_read_text, .func (PySem.W.fnOf "_law_read_text" "_law_read_text" (defArgs s_read_text) (defBody s_read_text) (defScope s_read_text) .none kV_read_text dc_read_text pm_read_text an_read_text cd_read_text ct_read_text), sl_read_text⟩) (c_read_text : PySem.W.codeIn K cd_read_text "_law_read_text" = true) (k_read_text : PySem.W.keepIn K (.ref f_read_text) = true)
    (a_told : PySem.W.nsIn K mainGlobals "_law_told" = some (some (.ref f_told))) (l_told : K.lookup f_told = some ⟨oc_told, od_told, .func (PySem.W.fnOf "_law_told" "_law_told" (defArgs s_told) (defBody s_told) (defScope s_told) .none kV_told dc_told pm_told an_told cd_told ct_told), sl_told⟩) (c_told : PySem.W.codeIn K cd_told "_law_told" = true) (k_told : PySem.W.keepIn K (.ref f_told) = true)
    (a_bent : PySem.W.nsIn K mainGlobals "_law_bent" = some (some (.ref f_bent))) (l_bent : K.lookup f_bent = some ⟨oc_bent, od_bent, .func (PySem.W.fnOf "_law_bent" "_law_bent" (defArgs s_bent) (defBody s_bent) (defScope s_bent) .none kV_bent dc_bent pm_bent an_bent cd_bent ct_bent), sl_bent⟩) (c_bent : PySem.W.codeIn K cd_bent "_law_bent" = true) (k_bent : PySem.W.keepIn K (.ref f_bent) = true)
    (a_right : PySem.W.nsIn K mainGlobals "_law_right" = some (some (.ref f_right))) (l_right : K.lookup f_right = some ⟨oc_right, od_right, .func (PySem.W.fnOf "_law_right" "_law_right" (defArgs s_right) (defBody s_right) (defScope s_right) .none kV_right dc_right pm_right an_right cd_right ct_right), sl_right⟩) (c_right : PySem.W.codeIn K cd_right "_law_right" = true) (k_right : PySem.W.keepIn K (.ref f_right) = true)
    (a_law : PySem.W.nsIn K mainGlobals "law" = some (some (.ref f_law))) (l_law : K.lookup f_law = some ⟨oc_law, od_law, .func (PySem.W.fnOf "law" "law" (defArgs s_law) (defBody s_law) (defScope s_law) .none kV_law dc_law pm_law an_law cd_law ct_law), sl_law⟩) (c_law : PySem.W.codeIn K cd_law "law" = true) (k_law : PySem.W.keepIn K (.ref f_law) = true)
    (ak_MOST_DIGITS : PySem.W.nsIn K mainGlobals "MOST_DIGITS" = some (some (.int 13 tk_MOST_DIGITS)))
    (ak_DIGITS : PySem.W.nsIn K mainGlobals "DIGITS" = some (some (.str "0123456789" tk_DIGITS)))
    (aC_BadText : PySem.W.nsIn K mainGlobals "BadText" = some (some (.ref C_BadText)))
    (eC_BadText : PySem.W.subIn K (.ref C_BadText) (.type "BaseException") = some true)
    (tC_BadText : PySem.W.typeIn K (.ref C_BadText) = some (.type "type"))
    (is_BadText : PySem.W.isClsIn K C_BadText = true)
    (aC_BadLine : PySem.W.nsIn K mainGlobals "BadLine" = some (some (.ref C_BadLine)))
    (eC_BadLine : PySem.W.subIn K (.ref C_BadLine) (.type "BaseException") = some true)
    (tC_BadLine : PySem.W.typeIn K (.ref C_BadLine) = some (.type "type"))
    (is_BadLine : PySem.W.isClsIn K C_BadLine = true)
    (xC_BadText : K.lookup C_BadText = some (excClassObj nm_BadText qn_BadText C_BadText Nn_BadText bs_BadText [.type "ValueError", .type "Exception", .type "BaseException", .type "object"] true sn_BadText sub_BadText ab_BadText col_BadText dd_BadText m0_BadText m1_BadText m2_BadText m3_BadText m5_BadText "ValueError.__new__"))
    (sa_BadText : PySem.W.findIn K (.ref C_BadText) "__setattr__" = some (some (.builtin "object.__setattr__")))
    (ga_BadText : PySem.W.findIn K (.ref C_BadText) "__getattribute__" = some (some (.builtin "BaseException.__getattribute__")))
    (gg_BadText : PySem.W.findIn K (.ref C_BadText) "__getattr__" = some none)
    (kC_BadText : PySem.W.keepIn K (.ref C_BadText) = true)
    (hC_BadText : PySem.W.hasDictIn K C_BadText = true)
    (cl_BadText : PySem.W.findIn K (.ref C_BadText) "__class__" = some (some (.builtin "object.__class__")))
    (mr_BadText : PySem.W.mroIn K C_BadText (.type "object") = some true)
    (iC_BadText : PySem.W.findIn K (.ref C_BadText) "__init__" = some (some (.ref f_i_BadText)))
    (tI_BadText : PySem.W.typeIn K (.ref f_i_BadText) = some (.type "function"))
    (lI_BadText : K.lookup f_i_BadText = some ⟨oc_i_BadText, od_i_BadText, .func (PySem.W.fnOf "__init__" "BadText.__init__" (defArgs s_i_BadText) (defBody s_i_BadText) (defScope s_i_BadText) .none kV_i_BadText dc_i_BadText pm_i_BadText an_i_BadText cd_i_BadText ct_i_BadText), sl_i_BadText⟩)
    (cI_BadText : PySem.W.codeIn K cd_i_BadText "BadText.__init__" = true)
    (kI_BadText : PySem.W.keepIn K (.ref f_i_BadText) = true)
    (su_BadText : PySem.W.subIn K (.ref C_BadText) (.ref C_BadText) = some true)
    (no_BadText : PySem.W.findIn K (.ref C_BadText) "at" = some none)
    (su_BadText_BadLine : PySem.W.subIn K (.ref C_BadText) (.ref C_BadLine) = some false)
    (sb_BadText_ValueError : PySem.W.subIn K (.ref C_BadText) (.type "ValueError") = some true)
    (vV_ValueError : PySem.W.findCls K (.type "ValueError") (.type "type") "__init__" = some (.val (.builtin "ValueError.__init__")))
    (spG : PySem.W.specialIn K (.builtin "object.__class__") "__get__" = some (some (.builtin "getset_descriptor.__get__")))
    (tkG : PySem.W.takesIn K (.builtin "object.__class__") = some true)
    (z_len : PySem.W.nsIn K mainGlobals "len" = some none) (z_tuple : PySem.W.nsIn K mainGlobals "tuple" = some none) (z_all : PySem.W.nsIn K mainGlobals "all" = some none) (z_int : PySem.W.nsIn K mainGlobals "int" = some none) (z_set : PySem.W.nsIn K mainGlobals "set" = some none) (z_enumerate : PySem.W.nsIn K mainGlobals "enumerate" = some none) (z_abs : PySem.W.nsIn K mainGlobals "abs" = some none) (z_list : PySem.W.nsIn K mainGlobals "list" = some none) (z_isinstance : PySem.W.nsIn K mainGlobals "isinstance" = some none) (z_zip : PySem.W.nsIn K mainGlobals "zip" = some none) (z_bool : PySem.W.nsIn K mainGlobals "bool" = some none) (z_str : PySem.W.nsIn K mainGlobals "str" = some none) (z_ValueError : PySem.W.nsIn K mainGlobals "ValueError" = some none) (z_sorted : PySem.W.nsIn K mainGlobals "sorted" = some none) (z_range : PySem.W.nsIn K mainGlobals "range" = some none) :
    ∃ fd : FuncData, (∀ (s : Shared) (v : Value), BindsTo s fd ⟨[v], []⟩ [("_law_script", v)]) ∧ ∀ base : Heap, K.In base → base.Ns mainGlobals mg → FnOk l.prog w K mg base CX0 7 fa fd ["_law_script"] (spLaw K) := by
  have e := hfa.symm.trans (PySem.W.mg_of X G a_law)
  cases e
  let T : Env K mg := {
    n_len := PySem.W.mg_none_of X G z_len,
    n_tuple := PySem.W.mg_none_of X G z_tuple,
    n_all := PySem.W.mg_none_of X G z_all,
    n_int := PySem.W.mg_none_of X G z_int,
    n_set := PySem.W.mg_none_of X G z_set,
    n_enumerate := PySem.W.mg_none_of X G z_enumerate,
    n_abs := PySem.W.mg_none_of X G z_abs,
    n_list := PySem.W.mg_none_of X G z_list,
    n_isinstance := PySem.W.mg_none_of X G z_isinstance,
    n_zip := PySem.W.mg_none_of X G z_zip,
    n_bool := PySem.W.mg_none_of X G z_bool,
    n_str := PySem.W.mg_none_of X G z_str,
    n_ValueError := PySem.W.mg_none_of X G z_ValueError,
    n_sorted := PySem.W.mg_none_of X G z_sorted,
    n_range := PySem.W.mg_none_of X G z_range,
    f_p_pairing_of := f_p_pairing_of, d_p_pairing_of := _, F_p_pairing_of := fun_mk (st := s_p_pairing_of) l_p_pairing_of c_p_pairing_of k_p_pairing_of, g_p_pairing_of := PySem.W.mg_of X G a_p_pairing_of,
    f_p_number_in := f_p_number_in, d_p_number_in := _, F_p_number_in := fun_mk (st := s_p_number_in) l_p_number_in c_p_number_in k_p_number_in, g_p_number_in := PySem.W.mg_of X G a_p_number_in,
    f_p_call_in := f_p_call_in, d_p_call_in := _, F_p_call_in := fun_mk (st := s_p_call_in) l_p_call_in c_p_call_in k_p_call_in, g_p_call_in := PySem.W.mg_of X G a_p_call_in,
    f_p_pairing_in := f_p_pairing_in, d_p_pairing_in := _, F_p_pairing_in := fun_mk (st := s_p_pairing_in) l_p_pairing_in c_p_pairing_in k_p_pairing_in, g_p_pairing_in := PySem.W.mg_of X G a_p_pairing_in,
    f_p_word_in := f_p_word_in, d_p_word_in := _, F_p_word_in := fun_mk (st := s_p_word_in) l_p_word_in c_p_word_in k_p_word_in, g_p_word_in := PySem.W.mg_of X G a_p_word_in,
    f_stream := f_stream, d_stream := _, F_stream := fun_mk (st := s_stream) l_stream c_stream k_stream, g_stream := PySem.W.mg_of X G a_stream,
    f_draw := f_draw, d_draw := _, F_draw := fun_mk (st := s_draw) l_draw c_draw k_draw, g_draw := PySem.W.mg_of X G a_draw,
    f_folded := f_folded, d_folded := _, F_folded := fun_mk (st := s_folded) l_folded c_folded k_folded, g_folded := PySem.W.mg_of X G a_folded,
    f_pick := f_pick, d_pick := _, F_pick := fun_mk (st := s_pick) l_pick c_pick k_pick, g_pick := PySem.W.mg_of X G a_pick,
    f_same := f_same, d_same := _, F_same := fun_mk (st := s_same) l_same c_same k_same, g_same := PySem.W.mg_of X G a_same,
    f_shuffled := f_shuffled, d_shuffled := _, F_shuffled := fun_mk (st := s_shuffled) l_shuffled c_shuffled k_shuffled, g_shuffled := PySem.W.mg_of X G a_shuffled,
    f_is_number := f_is_number, d_is_number := _, F_is_number := fun_mk (st := s_is_number) l_is_number c_is_number k_is_number, g_is_number := PySem.W.mg_of X G a_is_number,
    f_duo := f_duo, d_duo := _, F_duo := fun_mk (st := s_duo) l_duo c_duo k_duo, g_duo := PySem.W.mg_of X G a_duo,
    f_read_text := f_read_text, d_read_text := _, F_read_text := fun_mk (st := s_read_text) l_read_text c_read_text k_read_text, g_read_text := PySem.W.mg_of X G a_read_text,
    f_told := f_told, d_told := _, F_told := fun_mk (st := s_told) l_told c_told k_told, g_told := PySem.W.mg_of X G a_told,
    f_bent := f_bent, d_bent := _, F_bent := fun_mk (st := s_bent) l_bent c_bent k_bent, g_bent := PySem.W.mg_of X G a_bent,
    f_right := f_right, d_right := _, F_right := fun_mk (st := s_right) l_right c_right k_right, g_right := PySem.W.mg_of X G a_right,
    tk_MOST_DIGITS := tk_MOST_DIGITS, k_MOST_DIGITS := PySem.W.mg_of X G ak_MOST_DIGITS,
    tk_DIGITS := tk_DIGITS, k_DIGITS := PySem.W.mg_of X G ak_DIGITS,
    C_BadText := C_BadText, gC_BadText := PySem.W.mg_of X G aC_BadText,
    C_BadLine := C_BadLine, gC_BadLine := PySem.W.mg_of X G aC_BadLine,
    own_BadText := ⟨⟨nm_BadText, qn_BadText, Nn_BadText, bs_BadText, sn_BadText, sub_BadText, ab_BadText, col_BadText, dd_BadText, m0_BadText, m1_BadText, m2_BadText, m3_BadText, m5_BadText, xC_BadText⟩, over_of xC_BadText (by decide +kernel), sa_BadText, ga_BadText, gg_BadText, eC_BadText, tC_BadText, kC_BadText, hC_BadText, cl_BadText, mr_BadText⟩,
    kpt_BadText := ⟨ga_BadText, gg_BadText, eC_BadText, hC_BadText, cl_BadText, mr_BadText, spG, tkG⟩,
    f_i_BadText := f_i_BadText, d_i_BadText := _, F_i_BadText := fun_mk (st := s_i_BadText) lI_BadText cI_BadText kI_BadText, iC_BadText := iC_BadText, tI_BadText := tI_BadText, ee_BadText := exm_of' eC_BadText is_BadText tC_BadText su_BadText, kk_BadText := kit_own su_BadText is_BadText tC_BadText su_BadText,
    no_BadText := no_BadText,
    ex_BadText_BadLine := exm_of' eC_BadLine is_BadLine tC_BadLine su_BadText_BadLine, ki_BadText_BadLine := kit_own su_BadText is_BadLine tC_BadLine su_BadText_BadLine,
    kb_BadText_ValueError := kit_blt (by decide +kernel) sb_BadText_ValueError,
    vV_ValueError := vV_ValueError }
  exact ⟨PySem.W.fnOf "law" "law" (defArgs s_law) (defBody s_law) (defScope s_law) .none kV_law dc_law pm_law an_law cd_law ct_law, fun s v => .of_eq rfl, fun base _ _ => ok_law T (fun_mk (st := s_law) l_law c_law k_law)⟩
end Pc
open PySem PySem.W PyProof.Rows
set_option maxHeartbeats 0 in
theorem PySem.Challenge.cw_partnercall_k73_texts_that_are_not_valid_holds : PySem.Challenge.rw_partnercall_k73_texts_that_are_not_valid.Holds := by
  w_on; o_law; k_head; (case hw => w_witness2)
  k_fill
  refine L2.walk_of (l := PySem.Challenge.rw_partnercall_k73_texts_that_are_not_valid) (n := 63) (k := 7) (x := "_law_script") (CX := fun _ => L2.CX0) (sp := fun w => Pc.spLaw _) rfl (by decide) rfl ⟨rfl, by decide, by decide⟩ (fun w h Y => PySem.W.kIn_of Y) ?F (fun _ _ a ns hl _ hS => ⟨a, ns, rfl, hS, hl, fun _ => rfl⟩) (fun _ _ _ _ _ h => h)
  case F =>
    intro w mg fa h KX G hmg
    refine' Pc.all_mk KX G hmg ?a_p_pairing_of ?l_p_pairing_of ?c_p_pairing_of ?k_p_pairing_of ?a_p_number_in ?l_p_number_in ?c_p_number_in ?k_p_number_in ?a_p_call_in ?l_p_call_in ?c_p_call_in ?k_p_call_in ?a_p_pairing_in ?l_p_pairing_in ?c_p_pairing_in ?k_p_pairing_in ?a_p_word_in ?l_p_word_in ?c_p_word_in ?k_p_word_in ?a_stream ?l_stream ?c_stream ?k_stream ?a_draw ?l_draw ?c_draw ?k_draw ?a_folded ?l_folded ?c_folded ?k_folded ?a_pick ?l_pick ?c_pick ?k_pick ?a_same ?l_same ?c_same ?k_same ?a_shuffled ?l_shuffled ?c_shuffled ?k_shuffled ?a_is_number ?l_is_number ?c_is_number ?k_is_number ?a_duo ?l_duo ?c_duo ?k_duo ?a_read_text ?l_read_text ?c_read_text ?k_read_text ?a_told ?l_told ?c_told ?k_told ?a_bent ?l_bent ?c_bent ?k_bent ?a_right ?l_right ?c_right ?k_right ?a_law ?l_law ?c_law ?k_law ?ak_MOST_DIGITS ?ak_DIGITS ?aC_BadText ?eC_BadText ?tC_BadText ?is_BadText ?aC_BadLine ?eC_BadLine ?tC_BadLine ?is_BadLine ?xC_BadText ?sa_BadText ?ga_BadText ?gg_BadText ?kC_BadText ?hC_BadText ?cl_BadText ?mr_BadText ?iC_BadText ?tI_BadText ?lI_BadText ?cI_BadText ?kI_BadText ?su_BadText ?no_BadText ?su_BadText_BadLine ?sb_BadText_ValueError ?vV_ValueError ?spG ?tkG ?z_len ?z_tuple ?z_all ?z_int ?z_set ?z_enumerate ?z_abs ?z_list ?z_isinstance ?z_zip ?z_bool ?z_str ?z_ValueError ?z_sorted ?z_range
    (case a_p_pairing_of => k_is); (case l_p_pairing_of => k_is); (case c_p_pairing_of => k_is); (case k_p_pairing_of => k_is); (case a_p_number_in => k_is); (case l_p_number_in => k_is); (case c_p_number_in => k_is); (case k_p_number_in => k_is); (case a_p_call_in => k_is); (case l_p_call_in => k_is); (case c_p_call_in => k_is); (case k_p_call_in => k_is); (case a_p_pairing_in => k_is); (case l_p_pairing_in => k_is); (case c_p_pairing_in => k_is); (case k_p_pairing_in => k_is); (case a_p_word_in => k_is); (case l_p_word_in => k_is); (case c_p_word_in => k_is); (case k_p_word_in => k_is); (case a_stream => k_is); (case l_stream => k_is); (case c_stream => k_is); (case k_stream => k_is); (case a_draw => k_is); (case l_draw => k_is); (case c_draw => k_is); (case k_draw => k_is); (case a_folded => k_is); (case l_folded => k_is); (case c_folded => k_is); (case k_folded => k_is); (case a_pick => k_is); (case l_pick => k_is); (case c_pick => k_is); (case k_pick => k_is); (case a_same => k_is); (case l_same => k_is); (case c_same => k_is); (case k_same => k_is); (case a_shuffled => k_is); (case l_shuffled => k_is); (case c_shuffled => k_is); (case k_shuffled => k_is); (case a_is_number => k_is); (case l_is_number => k_is); (case c_is_number => k_is); (case k_is_number => k_is); (case a_duo => k_is); (case l_duo => k_is); (case c_duo => k_is); (case k_duo => k_is); (case a_read_text => k_is); (case l_read_text => k_is); (case c_read_text => k_is); (case k_read_text => k_is); (case a_told => k_is); (case l_told => k_is); (case c_told => k_is); (case k_told => k_is); (case a_bent => k_is); (case l_bent => k_is); (case c_bent => k_is); (case k_bent => k_is); (case a_right => k_is); (case l_right => k_is); (case c_right => k_is); (case k_right => k_is); (case a_law => k_is); (case l_law => k_is); (case c_law => k_is); (case k_law => k_is); (case ak_MOST_DIGITS => k_is); (case ak_DIGITS => k_is); (case aC_BadText => k_is); (case eC_BadText => k_is); (case tC_BadText => k_is); (case is_BadText => k_is); (case aC_BadLine => k_is); (case eC_BadLine => k_is); (case tC_BadLine => k_is); (case is_BadLine => k_is); (case xC_BadText => k_is); (case sa_BadText => k_is); (case ga_BadText => k_is); (case gg_BadText => k_is); (case kC_BadText => k_is); (case hC_BadText => k_is); (case cl_BadText => k_is); (case mr_BadText => k_is); (case iC_BadText => k_is); (case tI_BadText => k_is); (case lI_BadText => k_is); (case cI_BadText => k_is); (case kI_BadText => k_is); (case su_BadText => k_is); (case no_BadText => k_is); (case su_BadText_BadLine => k_is); (case sb_BadText_ValueError => k_is); (case vV_ValueError => k_is); (case spG => k_is); (case tkG => k_is); (case z_len => k_is); (case z_tuple => k_is); (case z_all => k_is); (case z_int => k_is); (case z_set => k_is); (case z_enumerate => k_is); (case z_abs => k_is); (case z_list => k_is); (case z_isinstance => k_is); (case z_zip => k_is); (case z_bool => k_is); (case z_str => k_is); (case z_ValueError => k_is); (case z_sorted => k_is); (case z_range => k_is)
