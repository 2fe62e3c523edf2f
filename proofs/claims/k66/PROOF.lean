import PyProof.Rows.All
import Wide.All
import OpenK.AllK
import Wide.FinOn
import HandS.ForMost
import HandS.IsInst
import HandS.Zip
import HandS.Style
import HandS.Walk
import HandS.Flow
import HandS.Conv
import HandS.RaiseMore
import HandS.NoneIn
import HandS.WordsList
import HandS.Deep
import HandS.Exc
import HandS.ExcOwn
import HandS.WordsExc
import HandS.ExcInit
import HandS.ExcIs
import KE.KExcIs
import KE.KExcInit
import KE.KTryMore
import HandS.SortRule
import HandS.SortInts
import HandS.Strs
import HandS.Wide
import HandS.DictComp
import HandS.SetFor
import HandS.TupSets
import HandS.SortOrd
import KE.SortData
import KE.DataCmp
import KE.KDictSum
import HandS.TupLen
import HandS.DictTup
import HandS.Small
import HandS.TryOnly
import KE.KMinBuiltin
import HandS.SortKw
import KE.KDictZip
import KE.GoesEnum
import KE.KDictDisplayH
import PySem.Challenge.RW_partnercall_k66_too_many_people
set_option Elab.async false
set_option linter.all false
set_option maxRecDepth 100000
set_option maxHeartbeats 4000000
namespace RZ
end RZ
namespace Pc
open PySem PySem.Spec PyProof.Rows L2 RZ
/-! ### heaps -/
/-- all that was tracked, but for b, is as it was -/
def Keep (b : Addr) (H H' : Hp) : Prop := ∀ a o, a ≠ b → H a = some o → H' a = some o
theorem Keep.refl (b : Addr) (H : Hp) : Keep b H H := fun _ _ _ h => h
theorem Keep.trans {b : Addr} {H H1 H2 : Hp} (p : Keep b H H1) (q : Keep b H1 H2) : Keep b H H2 := fun a o n h => q a o n (p a o n h)
theorem Keep.of_same {b : Addr} {H H' : Hp} (s : Same H H') : Keep b H H' := fun a o _ h => s a o h
theorem same_new {H : Hp} {p : Addr} {o : HO} (h : H p = none) : Same H (upd H p o) := fun b x e => by
  rw [upd_ne (ne_of_none e h)]; exact e
theorem keep_upd {H : Hp} {b : Addr} {o : HO} : Keep b H (upd H b o) := fun a x n e => by
  rw [upd_ne n]; exact e
/-- a list, a tuple under Keep -/
theorem Keep.tup {b : Addr} {H H' : Hp} (k : Keep b H H') {a : Addr} {xs ys : List V} (hb : H b = some (.lst ys)) (h : H a = some (.tup xs)) : H' a = some (.tup xs) :=
  k a _ (fun e => by rw [e, hb] at h; cases h) h
/-! ### small numbers -/
theorem one0 (c : Prop) [Decidable c] : (0 : Int) ≤ (if c then 1 else 0) ∧ (if c then (1 : Int) else 0) ≤ 1 := by
  split <;> decide
theorem in64 {i : Int} (h : 0 ≤ i ∧ i ≤ 1) : -(2 ^ 64) < i ∧ i < 2 ^ 64 := ⟨by omega, by omega⟩
/-! ### the source of draws -/
/-- at b a source that serves n more draws -/
def Box (n : Nat) (H : Hp) (b : Addr) : Prop := ∃ x y z : Int, H b = some (.lst [.int x, .int y, .int z]) ∧ 0 ≤ x ∧ 0 ≤ y ∧ y < 2 ^ 62 ∧ 0 ≤ z ∧ z + n ≤ 1000000000
theorem Box.lst {n : Nat} {H : Hp} {b : Addr} (h : Box n H b) : ∃ ys, H b = some (.lst ys) := let ⟨_, _, _, e, _⟩ := h; ⟨_, e⟩
theorem Box.mono {n m : Nat} {H : Hp} {b : Addr} (h : Box n H b) (l : m ≤ n) : Box m H b := by
  obtain ⟨x, y, z, e, h1, h2, h3, h4, h5⟩ := h
  exact ⟨x, y, z, e, h1, h2, h3, h4, by omega⟩
theorem Box.same {n : Nat} {H H' : Hp} {b : Addr} (h : Box n H b) (s : Same H H') : Box n H' b := by
  obtain ⟨x, y, z, e, r⟩ := h
  exact ⟨x, y, z, s _ _ e, r⟩
theorem Box.keep {n : Nat} {H H' : Hp} {b c : Addr} (h : Box n H b) (k : Keep c H H') (d : b ≠ c) : Box n H' b := by
  obtain ⟨x, y, z, e, r⟩ := h
  exact ⟨x, y, z, k _ _ d e, r⟩
theorem Box.ne_new {n : Nat} {H : Hp} {b p : Addr} (h : Box n H b) (np : H p = none) : b ≠ p := by
  obtain ⟨x, y, z, e, r⟩ := h
  exact ne_of_none e np
theorem Box.ne_tup {n : Nat} {H : Hp} {b p : Addr} {xs : List V} (h : Box n H b) (e2 : H p = some (.tup xs)) : p ≠ b := by
  obtain ⟨x, y, z, e, r⟩ := h
  intro q; rw [q, e] at e2; cases e2
end Pc
namespace Pc
open PySem PySem.Spec PyProof.Rows L2 RZ
/-! ### errors of the program: made -/
section
open PySem.W Builtin Builtin.ObjectAttr
variable {prog : Program} {w : World} {A : Around} {R : Result → Shared → Prop} {hp : Heap} {g : Array GenState} {d : Drawn} {t : Nat} {os : OsState} {B : String} {bmB : List Value}
/-- the first field of an error that has no dict yet -/
theorem osa_first {K : Frag} {f : Str} {tk : Tok} {v : Value} {x C : Addr} {fv : Array Value} {cd : ClassData} (SF : StoreFacts B bmB "object.__setattr__" "object") (X : K.In hp)
    (hx : hp.get? x = some { cls := .ref C, data := .fields fv }) (hcd : clsIn K C = some cd) (ho : excOver K C bmB = true) (hh : cd.hasDict = true) (hf : takerIn K C f = some none)
    (hq : ∀ h' tk' dx, (∀ b o, b ≠ x → hp.get? b = some o → h'.get? b = some o) → hp.objs.size ≤ dx → dx ≠ x →
      h'.get? x = some { cls := .ref C, dict := some dx, data := .fields fv } → h'.Ns1 dx (fun y => if y = f then some v else none) → R (.ok (.ret .none)) ⟨h', g, d, tk', os⟩) :
    codeAny (model prog w) A (.call (.builtin "object.__setattr__") ⟨[.ref x, .str f tk, v], []⟩) R ⟨hp, g, d, t, os⟩ := by
  have hne : x ≠ hp.objs.size := fun e => absurd (Heap.lt_size hx) (by rw [← e]; exact Nat.lt_irrefl x)
  have LC : Looks (model prog w) hp (classData C) cd := looks_clsIn X hcd
  refine osa_openX (s := ⟨hp, g, d, t, os⟩) (od := none) SF X ⟨hx, rfl, rfl, trivial⟩ ho hf fun b => ?_
  obtain ⟨c1, c2, c3, c4, c5, c6, c7, c8, c9, c10, c11⟩ := cd
  dsimp only at hh; subst hh
  dsimp only
  unfold storeInOwnDict ownDictForStores
  repeat (first | with_reducible refine HandSPX.store_in_new ?_ ?_ | with_reducible refine wpAny_loadPart_at hx ?_ | with_reducible refine LC.at ?_ | wp_step)
  · exact ⟨_, #[], _, (Heap.get?_update_ne _ _ _ _ hne.symm).trans (Heap.get?_push_at rfl rfl), rfl, fun e he => absurd he (by simp), fun _ => rfl⟩
  · intro h' tk' n1 n2
    refine hq h' tk' hp.objs.size (fun b o q r => ?_) (Nat.le_refl _) hne.symm ?_ n1
    · exact (n2.2 b (Nat.ne_of_lt (Heap.lt_size r))).trans ((Heap.get?_update_ne _ _ _ _ q).trans (Heap.get?_push_of_some _ r))
    · exact (n2.2 x hne).trans (Heap.get?_update_self _ (Heap.get?_push_of_some _ hx) rfl)
end
/-- what is known of a built-in error class -/
structure Bs (B newId initId : String) (bmB : List Value) : Prop where
  fb : ExcBaseFacts B newId initId bmB
  sf : StoreFacts B bmB "object.__setattr__" "object"
theorem bsV : Bs "ValueError" "ValueError.__new__" "ValueError.__init__" [.type "ValueError", .type "Exception", .type "BaseException", .type "object"] := ⟨F.excBase_ValueError, F.store_ValueError⟩
theorem bsL : Bs "LookupError" "LookupError.__new__" "LookupError.__init__" [.type "LookupError", .type "Exception", .type "BaseException", .type "object"] := ⟨F.excBase_LookupError, F.store_LookupError⟩
theorem bsR : Bs "RuntimeError" "RuntimeError.__new__" "RuntimeError.__init__" [.type "RuntimeError", .type "Exception", .type "BaseException", .type "object"] := ⟨F.excBase_RuntimeError, F.store_RuntimeError⟩
theorem bsO : Bs "OverflowError" "OverflowError.__new__" "OverflowError.__init__" [.type "OverflowError", .type "ArithmeticError", .type "Exception", .type "BaseException", .type "object"] := ⟨F.excBase_OverflowError, F.store_OverflowError⟩
/-- an error class of the program, straight over a built-in one -/
structure Own (K : PySem.W.Frag) (newId : String) (bmB : List Value) (C : Addr) : Prop where
  cls : ∃ nm q N bs sn sub ab col dd k0 k1 k2 k3 k5, K.lookup C = some (excClassObj nm q C N bs bmB true sn sub ab col dd k0 k1 k2 k3 k5 newId)
  over : PySem.W.excOver K C bmB = true
  sa : PySem.W.findIn K (.ref C) "__setattr__" = some (some (.builtin "object.__setattr__"))
  ga : PySem.W.findIn K (.ref C) "__getattribute__" = some (some (.builtin "BaseException.__getattribute__"))
  gg : PySem.W.findIn K (.ref C) "__getattr__" = some none
  exC : PySem.W.subIn K (.ref C) (.type "BaseException") = some true
  tyC : PySem.W.typeIn K (.ref C) = some (.type "type")
  kC : PySem.W.keepIn K (.ref C) = true
  hdC : PySem.W.hasDictIn K C = true
  clC : PySem.W.findIn K (.ref C) "__class__" = some (some (.builtin "object.__class__"))
  mrO : PySem.W.mroIn K C (.type "object") = some true
theorem Own.data {K : PySem.W.Frag} {newId : String} {bmB : List Value} {C : Addr} (T : Own K newId bmB C) : ∃ cd, PySem.W.clsIn K C = some cd ∧ cd.hasDict = true := by
  obtain ⟨nm, q, N, bs, sn, sub, ab, col, dd, k0, k1, k2, k3, k5, e⟩ := T.cls
  refine ⟨{ name := nm, bases := bs, mro := .ref C :: bmB, ns := N, qualname := q, hasDict := true, slotNames := sn, subclasses := sub, abstract := ab, collection := col, hasDel := false }, ?_, rfl⟩
  unfold PySem.W.clsIn
  rw [e] <;> rfl
theorem taker_of {K : PySem.W.Frag} {C : Addr} {f : Str} (h : PySem.W.findIn K (.ref C) f = some none) : PySem.W.takerIn K C f = some none := by
  unfold PySem.W.takerIn
  rw [h]; rfl
section
variable {X : Cx} {pins : List (Addr × Obj)} {σ : L2.St} {H H1 H2 : Hp} {s : Shared} {a C dx : Addr} {f : Str} {newId initId B : String} {bmB : List Value}
/-- an object that stands in the heap, untracked and not of the entry, is tracked from now on -/
theorem adopt {o : HO} (I : Inv X pins σ H s) (hn : H a = none) (n0 : X.s_0.heap.get? a = none) (nL : a ≠ X.env.locals) (nC : ∀ x c, X.env.cells.lookup x = some c → c ≠ a) (nP : ∀ p ∈ X.pn ++ pins, p.1 ≠ a)
    (new : ObjOk X.prog X.w (upd H a o) s.heap a o) : Inv X pins σ (upd H a o) s := by
  have up : ∀ {b : Addr} {u : HO}, H b = some u → upd H a o b = some u := fun {b u} e => by rw [upd_ne (ne_of_none e hn)]; exact e
  refine ⟨I.ok, I.os, I.bare, ⟨I.base.keep, I.base.slot, fun b q e n x => ?_, I.base.there, fun b xs e => up (I.base.tups b xs e), fun b q u e => up (I.base.frzs b q u e), fun b ps e => ?_⟩, I.loc, I.cell, ?_, fun x c e => ?_, fun p hp => ?_, fun b u e => ?_, I.len⟩
  · rw [upd_ne (fun z => by rw [z, n0] at e; cases e)]
    exact I.base.free b q e n x
  · obtain ⟨m, z⟩ := I.base.tbls b ps e
    exact ⟨m, up z⟩
  · rw [upd_ne (Ne.symm nL)]; exact I.free
  · rw [upd_ne (nC x c e)]; exact I.freeC x c e
  · obtain ⟨e, n, r⟩ := I.pin p hp
    exact ⟨e, by rw [upd_ne (nP p hp)]; exact n, r⟩
  · by_cases hb : b = a
    · subst hb
      rw [upd_same] at e; cases e
      exact new
    · rw [upd_ne hb] at e
      exact (I.hok b u e).stay (fun _ _ _ z => z) (fun c z => up z) (fun c xs z => up z)
theorem low_ne {n : Nat} {b a : Addr} (h : b < n) (h' : n ≤ a) : b ≠ a := Nat.ne_of_lt (Nat.lt_of_lt_of_le h h')
theorem get_lt_size {h : Heap} {b : Addr} {o : Obj} (e : h.get? b = some o) : b < h.objs.size := Heap.lt_size e
/-- self.f = y -/
theorem ost_one {y : V} {u : Value} {Q : Unit → Shared → Prop} {E : Value → Shared → Prop} {A : Around} (T : Own X.K newId bmB C) (SF : StoreFacts B bmB "object.__setattr__" "object") (I : Inv X pins σ H s) (e : H a = some (exo a C none)) (hno : PySem.W.findIn X.K (.ref C) f = some none) (ry : RelV y u)
    (h : ∀ dx s', H dx = none → dx ≠ a → Inv X pins σ (upd (upd H a (exo a C (some dx))) dx (exd dx [(f, y)])) s' → Q () s') : wpAny (model X.prog X.w) A (setAttr (.ref a) f u) Q E s := by
  obtain ⟨cd, hcd, hh⟩ := T.data
  obtain ⟨t1, ho⟩ := exo_at I.hok e
  obtain ⟨hp, g, d, t, os⟩ := s
  refine PySem.W.set_plain I.kIn (ox := { cls := .ref C, dict := none, data := .fields #[.ref t1, .none, .none, .none, .bool false, .none] }) (od := none) ⟨ho, rfl, rfl, trivial⟩ T.sa ?_
  refine osa_first SF I.kIn ho hcd T.over hh (taker_of hno) fun h' tk' dx k dn dne hx hns => ?_
  have hnd : H dx = none := I.hok.fresh dn
  have J := I.write (t' := tk') (x := a) (e := a) (o := exo a C (some dx)) (by rw [e]; exact True.intro) (.inl rfl) k ⟨_, hx⟩ (exo_ok hx)
  refine h dx _ hnd dne (adopt J (by rw [upd_ne dne]; exact hnd) ?_ ?_ ?_ ?_ (exd_ok hns (relO_put (fs := []) ry fun _ => True.intro)))
  · cases z : X.s_0.heap.get? dx with
    | none => rfl
    | some o => exact absurd rfl (low_ne (Nat.lt_of_lt_of_le (Heap.lt_size z) I.sz) dn)
  · exact Ne.symm (low_ne I.lt dn)
  · intro x c ec
    obtain ⟨v, ob, eo, _⟩ := I.cell x c ec
    exact low_ne (Heap.lt_size eo) dn
  · intro p hp'
    exact low_ne (Heap.lt_size (I.pin p hp').1) dn
/-- B.__init__(self, ..) -/
theorem oinit_any {us : List Value} {Q : Value → Shared → Prop} {E : Value → Shared → Prop} {A : Around} (T : Own X.K newId bmB C) (F : ExcBaseFacts B newId initId bmB) (I : Inv X pins σ H s) (e : H a = some (exo a C none)) (hl : us.length ≤ sizeLine) (h : ∀ s', Inv X pins σ H s' → Q .none s') :
    wpAny (model X.prog X.w) A (call (.builtin initId) (.ref a :: us)) Q E s := by
  obtain ⟨nm, q, N, bs, sn, sub, ab, col, dd, k0, k1, k2, k3, k5, hC⟩ := T.cls
  obtain ⟨t1, ho⟩ := exo_at I.hok e
  obtain ⟨hp, g, d, t, os⟩ := s
  refine wpAny_call (HandSPX.init_base F (fun _ => rfl) (I.kIn _ _ hC) ho hl fun h' t2 k hx => ?_)
  have J := I.write (t' := t) (x := a) (e := a) (o := exo a C none) (by rw [e]; exact True.intro) (.inl rfl) k ⟨_, hx⟩ (exo_ok hx)
  have eu : upd H a (exo a C none) = H := by
    funext b
    unfold upd
    split
    · rename_i z; rw [z, e]
    · rfl
  rw [eu] at J
  exact h _ J
def tBi (K : PySem.W.Frag) (newId : String) (bmB : List Value) (ta : TA) : TE := fun σ H Q => ta σ H fun vs H1 => ∃ (a C : Addr) (ws : List V), vs = .ref a :: ws ∧ ws.length ≤ 1000 ∧ Own K newId bmB C ∧ H1 a = some (exo a C none) ∧ Q .non H1
def tOs (K : PySem.W.Frag) (newId : String) (bmB : List Value) (f : Str) (to te : TE) : TS := fun D σ H => te σ H fun y H1 => to σ H1 fun x H2 => ∃ a C : Addr, x = .ref a ∧ Own K newId bmB C ∧ PySem.W.findIn K (.ref C) f = some none ∧ H2 a = some (exo a C none) ∧
  ∀ dx, H2 dx = none → dx ≠ a → D.nx σ (upd (upd H2 a (exo a C (some dx))) dx (exd dx [(f, y)]))
theorem pe_binit {n : Str} {o e : Expr} {es : List Expr} {ta : TA} {p1 p2 pos : Pos} {pl : Sem Bool} (F : ExcBaseFacts B newId initId bmB) (hg : Gl X n) (hm : X.mg n = none) (hv : bootBuiltins n = some (.type B)) (hn : n ≠ "__name__") (hdb : (n == ("__debug__" : Str)) = false)
    (hty : typeOf (.type B) = pure (.type "type")) (hst : Manifest.isStub B = false) (hha : PySem.W.handedIn (.builtin initId) = true) (vV : PySem.W.findCls X.K (.type B) (.type "type") "__init__" = some (.val (.builtin initId))) (ha : PA X (e :: es) ta)
    (hc : eval (.Call (.Attribute (.Name n p1) "__init__" p2) (e :: es) [] pos) X.env = (do
      let ov ← eval (.Name n p1) X.env
      standAt p2.atName
      let (f, first) ← holding [ov] (getMethod ov "__init__" pl)
      callWith pos f first (backTo pos (starEach (e :: es) X.env)) (backToKw pos (keywordEach [] X.env))) := by rfl)
    (he : starEach (e :: es) X.env = (false, eval e X.env) :: starEach es X.env := by rfl) (hpl : (backTo pos (starEach es X.env)).any (·.1) = false := by rfl) :
    PE X (.Call (.Attribute (.Name n p1) "__init__" p2) (e :: es) [] pos) (tBi X.K newId bmB ta) := by
  refine ⟨fun pins s σ H Q I h => PySem.W.methodCall_KW (ld_blt I hg hm hv ?_ hn hdb) hc⟩
  obtain ⟨m, fr⟩ := I.fr
  refine PySem.W.method_type fr I.ok.mod.kin hty hst vV hha ?_
  show wpAny _ _ (callWith pos (Value.builtin initId) [] (backTo pos (starEach (e :: es) X.env)) []) _ _ _
  refine PyProof.Rows.callWith_method1 (thn (ha.run pos pins _ σ H _ (I.tok _) h) fun us s1 ⟨vs, H1, I1, r1, a, C, ws, ev, hl, T, ea, q⟩ => ?_) he hpl
  subst ev
  cases r1 with
  | @cons _ u0 _ ur ra rr =>
    obtain rfl : u0 = Value.ref a := ra
    exact oinit_any T F I1 ea (by rw [← Paired.length rr, sizeLine_eq]; omega) fun s' J => ⟨.non, H1, J, rfl, q⟩
theorem ps_os {o e : Expr} {to te : TE} {p' pos : Pos} (SF : StoreFacts B bmB "object.__setattr__" "object") (ho : PE X o to) (he : PE X e te) (hs : swapsWith e (some (.Attribute o f p')) pos.line X.env = pure false := by rfl) : PS X (.Assign [.Attribute o f p'] e pos) (tOs X.K newId bmB f to te) := by
  refine ⟨fun pins s σ H D I h => plainObj_wpAny_Assign_Attribute (thn (he.run pins s σ H _ I h) fun v s1 ⟨y, H1, I1, r1, q1⟩ => thn (ho.run pins s1 σ H1 _ I1 q1) fun u s2 ⟨x, H2, I2, r2, a, C, ex, T, hno, ea, q⟩ => ?_) hs⟩
  subst ex
  obtain rfl : u = Value.ref a := r2
  exact ost_one T SF I2 ea hno r1 fun dx s' n ne J => ⟨σ, _, J, q dx n ne⟩
/-- the new error is let go: the heap without it -/
theorem mk_gone {hp hp2 h2 : Heap} {g1 g2 : Array GenState} {d1 d2 : Drawn} {t1 t2 : Nat} {os1 os2 : OsState} {dv : Option Addr} (I1 : Inv X pins σ H1 ⟨hp, g1, d1, t1, os1⟩)
    (ha : hp.objs.size ≤ a) (k : ∀ b o, hp.get? b = some o → hp2.get? b = some o) (un : Un (frs X.stack) [] (upd H1 a (exo a C none)) H2 hp2 h2) (hok : HOk X.prog X.w H2 h2) (ho : os2 = os1) (hb : AllBare g2) (ea : H2 a = some (exo a C dv)) :
    ∃ (t0 : Addr) (G : Heap), Inv X pins σ (del H2 a) ⟨G, g2, d2, t2, os2⟩ ∧ (∀ b o, G.get? b = some o → h2.get? b = some o) ∧ G.get? a = none ∧
      h2.get? a = some ({ cls := .ref C, dict := dv, data := .fields #[.ref t0, .none, .none, .none, .bool false, .none] } : Obj) := by
  obtain ⟨t0, hoe⟩ := exo_at hok ea
  have hn : H1 a = none := I1.hok.fresh ha
  obtain ⟨G, g1', g2'⟩ := restrict h2 fun b => decide (b ≠ a)
  have gk : ∀ b, b ≠ a → G.get? b = h2.get? b := fun b q => g1' b (decide_eq_true q)
  have ga : G.get? a = none := g2' a (decide_eq_false (fun z => z rfl))
  have na : ∀ {b : Addr} {o : Obj}, hp.get? b = some o → b ≠ a := fun q => low_ne (Heap.lt_size q) ha
  have up : ∀ {b : Addr}, b ≠ a → H1 b = none → upd H1 a (exo a C none) b = none := fun q n => by rw [upd_ne q]; exact n
  have tr : ∀ {b : Addr} {u : HO}, H1 b = some u → upd H1 a (exo a C none) b = some u ∧ b ≠ a := fun q => ⟨by rw [upd_ne (ne_of_none q hn)]; exact q, ne_of_none q hn⟩
  have U : Un (frs X.stack) [] H1 (del H2 a) hp G := {
    keep := fun b o z n hf hx => by rw [gk b (na z)]; exact un.keep b o (k b o z) (up (na z) n) hf hx
    slot := fun b o z n hf hx => by rw [gk b (na z)]; exact un.slot b o (k b o z) (up (na z) n) hf hx
    free := fun b o z n hx => by rw [del_ne (na z)]; exact un.free b o (k b o z) (up (na z) n) hx
    there := fun b o z hx => by rw [gk b (na z)]; exact un.there b o (k b o z) hx
    tups := fun b xs z => by rw [del_ne (tr z).2]; exact un.tups b xs (tr z).1
    frzs := fun b o v z => by rw [del_ne (tr z).2]; exact un.frzs b o v (tr z).1
    tbls := fun b ps z => by rw [del_ne (tr z).2]; exact un.tbls b ps (tr z).1 }
  have hok3 : HOk X.prog X.w (del H2 a) G := fun b o z => by
    have hba : b ≠ a := fun e => by rw [e, del_same] at z; cases z
    rw [del_ne hba] at z
    have noa : ∀ {c : Addr}, H2 c = some (.own b) → c ≠ a := fun hc => at_ne ea hc exo_own
    refine (hok b o z).stay (fun c v hc y => ?_) (fun c hc => by rw [del_ne (noa hc)]; exact hc) (fun c xs hc => by rw [del_ne (at_ne ea hc exo_tup)]; exact hc)
    have hca : c ≠ a := hc.elim (fun q => by rw [q]; exact hba) noa
    rw [gk c hca]; exact y
  have J : Inv X pins σ (del H2 a) ⟨G, g2, d2, t2, os2⟩ := I1.call' (ch := []) ho U hok3 hb (fun b z => absurd z (by simp))
  refine ⟨t0, G, J, fun b o z => ?_, ga, hoe⟩
  by_cases hba : b = a
  · rw [hba, ga] at z; cases z
  · exact (gk b hba).symm.trans z
/-- C(e, ..), C's own __init__ keeping sp -/
def tMkE (C : Addr) (sp : Sp) (ta : TA) : L2.St → Hp → XK → Prop := fun σ H Q => ta σ H fun vs H1 => vs.length ≤ 1000 ∧ ∀ a, H1 a = none → sp (.ref a :: vs) (upd H1 a (exo a C none))
  (fun v H2 => v = .non ∧ ((H2 a = some (exo a C none) ∧ Q (.ref C) none (del H2 a)) ∨ ∃ (d : Addr) (fs : List (Str × V)), H2 a = some (exo a C (some d)) ∧ H2 d = some (exd d fs) ∧ Q (.ref C) (some d) (upd (del H2 a) d (.xd fs)))) (fun _ _ _ => False)
/-- what such a call leaves -/
theorem made_run {vs : List V} {us : List Value} {fI : Addr} {k : Nat} {fd : FuncData} {ps : List Str} {sp : Sp} {Q : XK} {CX : CXT} (T : Own X.K newId bmB C) (F : ExcBaseFacts B newId initId bmB) (iC : PySem.W.findIn X.K (.ref C) "__init__" = some (some (.ref fI))) (tI : PySem.W.typeIn X.K (.ref fI) = some (.type "function"))
    (F1 : FnOk X.prog X.w X.K X.mg X.base CX k fI fd ps sp) (hr : Room (k + 1) X.A) (hb : Binds X.K fd ps []) (hx : Passes CX X (fun _ _ _ => False)) (I1 : Inv X pins σ H1 s) (r1 : Vals vs us) (hz : vs.length ≤ 1000)
    (q1 : ∀ a, H1 a = none → sp (.ref a :: vs) (upd H1 a (exo a C none)) (fun v H2 => v = .non ∧ ((H2 a = some (exo a C none) ∧ Q (.ref C) none (del H2 a)) ∨ ∃ (d : Addr) (fs : List (Str × V)), H2 a = some (exo a C (some d)) ∧ H2 d = some (exd d fs) ∧ Q (.ref C) (some d) (upd (del H2 a) d (.xd fs)))) (fun _ _ _ => False)) :
    wpAny (model X.prog X.w) X.A (call (.ref C) us) (MkP X pins σ Q) X.xe s := by
  obtain ⟨nm, q, N, bs, sn, sub, ab, col, dd, k0, k1, k2, k3, k5, hC⟩ := T.cls
  obtain ⟨hp, g, dr, tk, os⟩ := s
  have hsz : hp.objs.size ≤ hp.objs.size + 1 := Nat.le_succ _
  have hq := q1 (hp.objs.size + 1) (I1.hok.fresh hsz)
  obtain ⟨hp2, ehp⟩ : ∃ hp2, hp2 = (hp.push (PySem.W.kdv_tup us)).push (HandSPX.excO C hp.objs.size) := ⟨_, rfl⟩
  have kk : ∀ b o, hp.get? b = some o → hp2.get? b = some o := fun b o e => by rw [ehp]; exact Heap.get?_push_of_some _ (Heap.get?_push_of_some _ e)
  have hget : hp2.get? (hp.objs.size + 1) = some (HandSPX.excO C hp.objs.size) := by rw [ehp]; heap_get
  have I2 : Inv X pins σ (upd H1 (hp.objs.size + 1) (exo (hp.objs.size + 1) C none)) ⟨hp2, g, dr, tk, os⟩ := I1.laid (t' := tk) kk hsz (exo_ok hget)
  have r2 : Vals (V.ref (hp.objs.size + 1) :: vs) (Value.ref (hp.objs.size + 1) :: us) := .cons rfl r1
  have hl : (Value.ref (hp.objs.size + 1) :: us ++ []).length = ps.length := by
    rw [List.append_nil, ← r2.length]; exact F1.len _ _ _ _ hq
  have hus : us.length ≤ sizeLine := by rw [← Paired.length r1, sizeLine_eq]; omega
  refine wpAny_call (HandSPX.call_own F (fun _ => rfl) (I1.kIn _ _ hC) (PySem.W.looks_findIn I1.kIn iC) (fun self => PySem.W.bind_fn I1.kIn self tI) hus ?_)
  rw [← ehp]
  refine codeAny_mono (F1.run _ X.stack _ _ ⟨Value.ref (hp.objs.size + 1) :: us, []⟩ (Value.ref (hp.objs.size + 1) :: us) _ _ (fun _ _ _ => False) (hr.make C us []) (I2.env0.make C us []) ?_ r2 hq) fun r s' hq' => ?_
  · have z := hb ⟨hp2, g, dr, tk, os⟩ (Value.ref (hp.objs.size + 1) :: us) I2.kIn hl
    rw [List.append_nil] at z; exact z
  cases r with
  | error er => exact hx pins σ _ _ er s' I2 hq'
  | ok fl =>
    cases fl with
    | ret u =>
      obtain ⟨v, H2, os2, bare2, un2, hok2, rv, ev, alt⟩ := hq'
      subst ev
      obtain ⟨h2, g2, d2, t2, os'⟩ := s'
      refine ⟨rv, ?_⟩
      rcases alt with ⟨ea, q2⟩ | ⟨d, fs, ea, ed, q2⟩
      · obtain ⟨t0, G, J, kG, ge, hoe⟩ := mk_gone (d2 := d2) (t2 := t2) I1 hsz kk un2 hok2 os2 bare2 ea
        exact ⟨_, _, _, ⟨G, g2, d2, t2, os'⟩, _, .ref C, none, rfl, J, kG, ge, hoe, ⟨rfl, rfl⟩, rfl, rfl, del_same, rfl, bare2, raises_own T.exC T.tyC, q2⟩
      · obtain ⟨t0, G, J, kG, ge, hoe⟩ := mk_gone (d2 := d2) (t2 := t2) I1 hsz kk un2 hok2 os2 bare2 ea
        have hda : d ≠ hp.objs.size + 1 := fun z => by
          rw [z] at ed
          obtain ⟨mA, ⟨ob, es, ep, e1, e2, _⟩, _⟩ := exd_at hok2 ed
          rw [hoe] at e1
          have z2 := Option.some.inj e1
          subst z2
          cases e2
        have ed' : del H2 (hp.objs.size + 1) d = some (exd d fs) := by rw [del_ne hda]; exact ed
        obtain ⟨mA, ns, rel⟩ := exd_at J.hok ed'
        have J2 := J.write (t' := t2) (h' := G) (x := d) (e := d) (o := .xd fs) (by rw [ed']; exact True.intro) (.inl rfl) (fun _ _ _ z => z) (by obtain ⟨ob, _, _, e1, _⟩ := ns; exact ⟨ob, e1⟩) ⟨mA, ns, rel⟩
        exact ⟨_, _, _, ⟨G, g2, d2, t2, os'⟩, _, .ref C, some d, rfl, J2, kG, ge, hoe, ⟨rfl, rfl⟩, rfl, rfl, by rw [upd_ne (Ne.symm hda)]; exact del_same, rfl, bare2, raises_own T.exC T.tyC, q2⟩
    | next => exact False.elim hq'
    | brk => exact False.elim hq'
    | cont => exact False.elim hq'
theorem pmk_e {x : Str} {fI : Addr} {k : Nat} {fd : FuncData} {ps : List Str} {sp : Sp} {CX : CXT} {e : Expr} {es : List Expr} {ta : TA} {p pos : Pos} (T : Own X.K newId bmB C) (F : ExcBaseFacts B newId initId bmB) (iC : PySem.W.findIn X.K (.ref C) "__init__" = some (some (.ref fI))) (tI : PySem.W.typeIn X.K (.ref fI) = some (.type "function"))
    (F1 : FnOk X.prog X.w X.K X.mg X.base CX k fI fd ps sp) (hr : Room (k + 1) X.A) (hb : Binds X.K fd ps []) (hx : Passes CX X (fun _ _ _ => False)) (hg : Gl X x) (hm : X.mg x = some (.ref C)) (ha : PA X (e :: es) ta)
    (hdb : (x == ("__debug__" : Str)) = false := by decide) (he : starEach (e :: es) X.env = (false, eval e X.env) :: starEach es X.env := by rfl) (hpl : (backTo pos (starEach es X.env)).any (·.1) = false := by rfl) :
    PMk X (.Call (.Name x p) (e :: es) [] pos) (tMkE C sp ta) := by
  intro pins s σ H Q I h
  refine wpAny_Call_Name_kw (ld_glob I hg hm ?_ hdb)
  exact PySem.W.callWith_K (h₀ := X.base) I.ok.mod.kin T.kC (thn (ha.run pos pins s σ H _ I h) fun us s1 ⟨vs, H1, I1, r1, hz, q1⟩ => ⟨I1.kIn, made_run T F iC tI F1 hr hb hx I1 r1 hz q1⟩) he hpl
end
end Pc
namespace Pc
open PySem PySem.Spec PyProof.Rows L2 RZ
/-! ### errors of the program: caught, kept, looked at -/
section
open PySem.W
variable {M : Model} {K : Frag} {h : Heap}
theorem Looks.bind' {α β : Type} {x : Sem α} {f : α → Sem β} {a : α} {b : β} (hx : Looks M h x a) (hf : Looks M h (f a) b) : Looks M h (x >>= f) b := fun A Q E s k q =>
  wpAny_bind (hx A _ E s k (hf A Q E s k q))
theorem loop_all {α β : Type} {f : α → β → Sem (ForInStep β)} {b : β} : ∀ cs : List α, (∀ c ∈ cs, Looks M h (f c b) (.yield b)) → Looks M h (forIn cs b f) b
  | [], _ => by rw [List.forIn_nil]; exact .now
  | c :: cs, hc => by
    rw [List.forIn_cons]
    exact Looks.bind' (hc c List.mem_cons_self) (loop_all cs fun c' h' => hc c' (List.mem_cons_of_mem _ h'))
theorem loop_any {α β : Type} {f : α → β → Sem (ForInStep β)} {b b1 : β} : ∀ (bs : List Bool) (cs : List α), bs.length = cs.length → bs.any id = true → (∀ (i : Nat) (c : α) (y : Bool), cs[i]? = some c → bs[i]? = some y → Looks M h (f c b) (if y = true then .done b1 else .yield b)) → Looks M h (forIn cs b f) b1
  | [], [], _, e, _ => absurd e (by decide)
  | y :: bs, c :: cs, hl, e, hc => by
    rw [List.forIn_cons]
    have h0 := hc 0 c y rfl rfl
    cases y with
    | true => exact Looks.bind' h0 .now
    | false => exact Looks.bind' h0 (loop_any bs cs (Nat.succ.inj hl) e fun i c' y' h1 h2 => hc (i + 1) c' y' h1 h2)
/-- an except clause with several classes, of which one is the error's -/
theorem exm_some {cls : Value} {cs : List Value} {tp e : Addr} {o : Obj} {n : Nat} (X : K.In h) (LT : Looks M h (typeOf (.ref e)) cls) (hp : h.get? tp = some o) (hc : o.cls = .type "tuple") (hd : o.data = .seq cs.toArray n) (bs : List Bool) (hl : bs.length = cs.length) (hb : bs.any id = true)
    (hx : ∀ (i : Nat) (c : Value) (y : Bool), cs[i]? = some c → bs[i]? = some y → exmOne K cls c = some y) : Looks M h (excMatches (.ref e) (.ref tp)) true := by
  have at_ : ∀ c ∈ cs, ∃ y, exmOne K cls c = some y := fun c hm => by
    obtain ⟨i, hi, rfl⟩ := List.getElem_of_mem hm
    exact ⟨bs[i]'(by omega), hx i _ _ (List.getElem?_eq_getElem hi) (List.getElem?_eq_getElem _)⟩
  have L0 : Looks M h (isInstance (.ref tp) (.type "tuple")) true := fun A Q E s k q => by
    refine wpAny_bind (wpAny_typeOf_ref (k _ _ hp) ?_)
    rw [hc]
    exact (Looks.of_pure isSubtype_tuple_tuple) A Q E s k q
  unfold excMatches
  refine Looks.bind' L0 ?_
  dsimp only
  rw [if_pos rfl]
  refine Looks.bind' (a := some cs.toArray) (fun A Q E s k q => wpAny_seqItems (k _ _ hp) hd q) ?_
  refine Looks.bind' (a := cs) .now ?_
  refine Looks.bind' (a := PUnit.unit) (loop_all cs fun c hm => ?_) ?_
  · obtain ⟨y, hy⟩ := at_ c hm
    refine Looks.bind' (exm_cls X hy).1 ?_
    exact .now
  refine Looks.bind' LT ?_
  refine Looks.bind' (loop_any (b1 := (some true, ())) bs cs hl hb fun i c y h1 h2 => Looks.bind' (exm_cls X (hx i c y h1 h2)).2 ?_) ?_
  · cases y <;> exact .now
  · exact .now
end
end Pc
namespace Pc
open PySem PySem.Spec PyProof.Rows L2 RZ
/-- an error that was caught and is kept: its class, its dict -/
def exk (a : Addr) (cls : Value) (d : Option Addr) : HO := .ext fun h => ∃ (oe : Obj) (vs : Array Value), h.get? a = some oe ∧ Zc cls d oe ∧ oe.data = .fields vs
theorem exk_ok {P : Program} {w : World} {H : Hp} {h : Heap} {a : Addr} {cls : Value} {d : Option Addr} {oe : Obj} {vs : Array Value} (e : h.get? a = some oe) (z : Zc cls d oe) (q : oe.data = .fields vs) : ObjOk P w H h a (exk a cls d) :=
  ⟨⟨oe, vs, e, z, q⟩, ⟨oe, e⟩, fun _ _ ⟨o, v, r, r'⟩ k => ⟨o, v, k o r, r'⟩⟩
theorem exk_at {P : Program} {w : World} {H : Hp} {h : Heap} {a : Addr} {cls : Value} {d : Option Addr} (hok : HOk P w H h) (e : H a = some (exk a cls d)) : ∃ (oe : Obj) (vs : Array Value), h.get? a = some oe ∧ Zc cls d oe ∧ oe.data = .fields vs := by
  have x : ObjOk P w H h a (.ext fun h => ∃ (oe : Obj) (vs : Array Value), h.get? a = some oe ∧ Zc cls d oe ∧ oe.data = .fields vs) := hok a _ e
  exact x.1
theorem fly_keeps {B h h' : Heap} {l : List PySem.Env} {e : Addr} {Z : Obj → Prop} (R : HandSPX.FlyingZ B l e Z h) (k : ∀ b o, h.get? b = some o → h'.get? b = some o) : HandSPX.FlyingZ B l e Z h' := by
  obtain ⟨f1, f2, f3, oe, ws, T, oT, ts, r1, r2, r3, r4, r5, r6, r7, r8⟩ := R
  exact ⟨fun b o q => k b o (f1 b o q), f2, f3.of_keeps fun b o q _ => ⟨o, k b o q, rfl⟩, oe, ws, T, oT, ts, k _ _ r1, r2, r3, r4, r5, r6, k _ _ r7, r8⟩
/-- names of classes, one by one -/
def NamesAll (X : Cx) (es : List Expr) (cs : List Value) : Prop := Paired (fun (e : Expr) c => ∃ (x : Str) (p : Pos), e = .Name x p ∧ Names X x c) es cs
theorem names_run {X : Cx} {pins : List (Addr × Obj)} {σ : L2.St} {H : Hp} {s : Shared} {E : Value → Shared → Prop} {pos : Pos} (I : Inv X pins σ H s) :
    ∀ {es : List Expr} {cs : List Value} {Q : List Value → Shared → Prop}, NamesAll X es cs → Q cs s → wpAny (model X.prog X.w) X.A (spliced (backTo pos (starEach es X.env))) Q E s := by
  intro es cs Q h
  revert Q
  induction h with
  | nil => intro Q q; exact wpAny_items_nil q
  | cons h1 _ ih =>
    intro Q q
    obtain ⟨x, p, rfl, hg, hdb, hm⟩ := h1
    refine wpAny_items_cons ?_
    rcases hm with hm | ⟨hm, hv, hn⟩
    · exact ld_glob I hg hm (ih q) hdb
    · exact ld_blt I hg hm hv (ih q) hn hdb
/-- of which classes the error is -/
def Hits (K : PySem.W.Frag) (cls : Value) (cs : List Value) : Prop := ∃ bs : List Bool, bs.length = cs.length ∧ bs.any id = true ∧ ∀ (i : Nat) (c : Value) (y : Bool), cs[i]? = some c → bs[i]? = some y → PySem.W.exmOne K cls c = some y
/-- what 'except (..) as n: suite' wishes of an error of the body (slot i is n's): the error is kept -/
def wKept (K : PySem.W.Frag) (cs : List Value) (i : Nat) (ts : Addr → TS) (D : Ends) : WX := fun cls d σ H => Hits K cls cs ∧ ∀ a, H a = none →
  ts a { nx := fun σ' H' => D.nx (σ'.set i none) (upd H' a (exk a cls d)), rt := fun _ _ => False } (σ.set i (some (.ref a))) H
section
variable {X : Cx} {n : Str} {i : Nat} {body suite : List Stmt} {b₀ : Stmt} {es : List Expr} {cs : List Value} {kk : Nat} {tpos pos pos' : Pos} {tb : WX → TS} {ts : Addr → TS}
theorem ps_try_kept (hex : X.ex = []) (hs : X.stack = X.env :: X.outer) (hf : X.env.frame = some X.env.locals) (hN : X.N.Nodup) (hi : X.N[i]? = some n) (hln : X.env.kindOf n = some .local) (hc : NamesAll X es cs) (hcl : cs.length ≤ 1000)
    (hb : ∀ (W : WX) (pn : List (Addr × Obj)) (xe : Value → Shared → Prop), Takes (X.tr pn xe) W → PassesOwn (model X.prog X.w) X.A X.env xe → PSs (X.tr pn xe) body (tb W))
    (hsu : ∀ (a : Addr) (oe : Obj) (pn : List (Addr × Obj)), PSs (X.suite a ((a, oe) :: pn)) (b₀ :: suite) (ts a)) :
    PS X (.Try body [.ExceptHandler (some (.Tuple es kk tpos)) (some n) (b₀ :: suite) pos'] [] [] pos) (fun D σ H => tb (wKept X.K cs i ts D) D σ H) := by
  refine ⟨fun pins s σ H D I h => ?_⟩
  have ok := I.ok
  have hfr : X.A.frames = some (X.env :: X.outer) := by rw [ok.frames, hs]
  refine wpAny_Try_except (wpAny_mono ((hb (wKept X.K cs i ts D) (X.pn ++ pins) (fun e s₁ => wpAny (model X.prog X.w) X.A (noteFrame e X.env) (fun _ s₂ => wpAny (model X.prog X.w) X.A (setFlight e none) (fun _ s₃ =>
    wpAny (model X.prog X.w) X.A (handleBy e X.env [.ExceptHandler (some (.Tuple es kk tpos)) (some n) (b₀ :: suite) pos']) (SP X pins D) X.xe s₃) X.xe s₂) X.xe s₁) (fun u s' xx => ?_) PassesOwn.looking).run [] s σ H D (I.toTry _) h) (fun f s1 hsp => ?_) (fun e s1 he => he))
  · obtain ⟨a, B, sI, pins', σ', H', cls, d, rfl, J', nb, up, sky, na, os, ag, ⟨bs, hbl, hba, hbx⟩, hyes⟩ := xx
    have J : Inv X pins σ' H' sI := J'.ofTry ok
    rw [hs] at sky
    show wpAny (model X.prog X.w) X.A (noteFrame (.ref a) X.env) _ _ _
    refine Sky.land Zc.steady hfr hf sky fun h3 fl3 up3 => ?_
    obtain ⟨oe3, vs3, he3, hz3, hd3⟩ := fl3.there
    have nfr : a ∉ frs (X.env :: X.outer) := fun hm => by
      obtain ⟨_, o', e', hnf⟩ := fl3.2.2.1.mem hm
      rw [he3] at e'; cases e'
      exact hnf _ hd3
    have nL : a ≠ X.env.locals := fun z => nfr (List.mem_filterMap.mpr ⟨X.env, List.mem_cons_self, by rw [hf, z]⟩)
    have nF : a ∉ X.fs := fun hm => by
      obtain ⟨e, he, q⟩ := List.mem_filterMap.mp hm
      exact nfr (List.mem_filterMap.mpr ⟨e, List.mem_cons_of_mem _ he, q⟩)
    have nI : sI.heap.get? a = none := by
      cases z : sI.heap.get? a with
      | none => rfl
      | some o =>
        have y := nb a o z (by rw [hs]; exact nfr)
        rw [fl3.2.1] at y; cases y
    have J3 : Inv X pins σ' H' { s' with heap := h3 } := J.landed nb fl3.1 (up.trans up3) os ag
    have S3 := J3.suite he3 hd3 na nL nF
    refine wpAny_handleBy_cons (codeAny_handlers_test (wpAny_Tuple_spliced (names_run (X := X.suite a ((a, oe3) :: (X.pn ++ pins))) (cs := cs) S3 (L2.Paired.mapP hc fun _ _ z => z) ⟨by rw [sizeLine_eq]; omega, ?_⟩))) (by intro q; cases q)
    dsimp only
    have kp : ∀ b o, h3.get? b = some o → (h3.push { cls := .type "tuple", data := .seq cs.toArray }).get? b = some o := fun _ _ z => Heap.get?_push_of_some _ z
    have LT : PySem.W.Looks (model X.prog X.w) (h3.push { cls := .type "tuple", data := .seq cs.toArray }) (typeOf (.ref a)) cls := fun A Q E s k q => wpAny_typeOf_ref (k _ _ (kp _ _ he3)) (by rw [hz3.1]; exact q)
    refine (exm_some (J3.kIn.keeps kp) LT (Heap.get?_push_size h3 rfl) rfl rfl bs hbl hba hbx).here ?_
    refine codeAny_handlers_suite_as (HandSPX.lands_againZ (fly_keeps fl3 kp) fun h4 fl4 up4 => ?_)
    have J4 : Inv X pins σ' H' { s' with heap := h4 } := J.landed nb fl4.1 (((up.trans up3).trans (Heap.UpToSlots.of_keeps kp)).trans up4) os ag
    obtain ⟨oe4, vs4, he4, hz4, hd4⟩ := fl4.there
    have S4 := J4.suite he4 hd4 na nL nF
    refine store_ok (X := X.suite a ((a, oe4) :: (X.pn ++ pins))) (v := .ref a) S4 hN hi (.inl hln) rfl (fun s5 S5 => ?_) (.inr hln)
    refine wpAny_mono ((hsu a oe4 (X.pn ++ pins)).run [] s5 _ H' _ S5 (hyes a na)) (fun f s6 hsp => ?_) (fun _ _ z => False.elim z)
    cases f with
    | next =>
      obtain ⟨σ6, H6, S6, q6⟩ := hsp
      refine gone_ok (X := X.suite a ((a, oe4) :: (X.pn ++ pins))) S6 hN hi hln fun s7 S7 => ⟨_, _, adopt (S7.unsuite ok) ?_ ?_ nL ?_ ?_ ?_, q6⟩
      · exact (S7.pin (a, oe4) (List.mem_append_left _ List.mem_cons_self)).2.1
      · cases z : X.s_0.heap.get? a with
        | none => rfl
        | some o =>
          obtain ⟨o', y⟩ := J.base.there a o z (by rw [hex]; exact fun q => nomatch q)
          rw [nI] at y; cases y
      · intro x c ec z
        obtain ⟨v, ob, eo, _⟩ := J.cell x c ec
        rw [z, nI] at eo; cases eo
      · intro p hp z
        have y := (J.pin p hp).1
        rw [z, nI] at y; cases y
      · exact exk_ok (S7.pin (a, oe4) (List.mem_append_left _ List.mem_cons_self)).1 hz4 hd4
    | brk => obtain ⟨σ6, H6, S6, q6⟩ := hsp; exact q6.elim
    | cont => obtain ⟨σ6, H6, S6, q6⟩ := hsp; exact q6.elim
    | ret u => obtain ⟨v6, σ6, H6, S6, r6, q6⟩ := hsp; exact q6.elim
  · cases f with
    | next => obtain ⟨σ', H', J', q⟩ := hsp; exact wpAny_execs_nil ⟨σ', H', J'.ofTry ok, q⟩
    | brk => obtain ⟨σ', H', J', q⟩ := hsp; exact ⟨σ', H', J'.ofTry ok, q⟩
    | cont => obtain ⟨σ', H', J', q⟩ := hsp; exact ⟨σ', H', J'.ofTry ok, q⟩
    | ret u => obtain ⟨v, σ', H', J', r, q⟩ := hsp; exact ⟨v, σ', H', J'.ofTry ok, r, q⟩
end
end Pc
namespace Pc
open PySem PySem.Spec PyProof.Rows L2 RZ
/-- what isinstance asks of the class of a kept error -/
structure KeptC (K : PySem.W.Frag) (C : Addr) : Prop where
  ga : PySem.W.findIn K (.ref C) "__getattribute__" = some (some (.builtin "BaseException.__getattribute__"))
  gg : PySem.W.findIn K (.ref C) "__getattr__" = some none
  exC : PySem.W.subIn K (.ref C) (.type "BaseException") = some true
  hdC : PySem.W.hasDictIn K C = true
  clC : PySem.W.findIn K (.ref C) "__class__" = some (some (.builtin "object.__class__"))
  mrO : PySem.W.mroIn K C (.type "object") = some true
  sp : PySem.W.specialIn K (.builtin "object.__class__") "__get__" = some (some (.builtin "getset_descriptor.__get__"))
  tk : PySem.W.takesIn K (.builtin "object.__class__") = some true
/-- a kept error with its dict -/
def Kept (H : Hp) (a C : Addr) (d : Option Addr) : Prop := H a = some (exk a (.ref C) d) ∧ (d = none ∨ ∃ dd fs, d = some dd ∧ H dd = some (.xd fs))
section
variable {X : Cx} {pins : List (Addr × Obj)} {σ : L2.St} {H : Hp} {s : Shared} {a C : Addr} {d : Option Addr}
theorem kept_inst (I : Inv X pins σ H s) (h : Kept H a C d) : ∃ (oe : Obj) (od : Option Obj), PySem.W.InstAt s.heap a oe C od := by
  obtain ⟨e, hd⟩ := h
  obtain ⟨oe, vs, ho, hz, hv⟩ := exk_at I.hok e
  have nc : PySem.W.notCls oe = true := by unfold PySem.W.notCls; rw [hv] <;> rfl
  rcases hd with rfl | ⟨dd, fs, rfl, ed⟩
  · exact ⟨oe, none, ho, hz.1, nc, by rw [hz.2]; trivial⟩
  · obtain ⟨mA, ⟨od, es, ep, q, _⟩, _⟩ := (show ObjOk X.prog X.w H s.heap dd (.xd fs) from I.hok dd _ ed)
    exact ⟨oe, some od, ho, hz.1, nc, by rw [hz.2]; exact q⟩
theorem kept_kit (T : KeptC X.K C) {oe : Obj} {od : Option Obj} : PySem.W.KitX X.K (.ref a) (.ref C) (fun h => PySem.W.InstAt h a oe C od) :=
  PySem.W.kitx_exc (by obtain ⟨cd, hc, _⟩ := PySem.W.any_some T.hdC; rw [hc]; rfl) T.ga T.gg T.exC T.clC T.sp T.tk T.mrO
/-- isinstance(e, c), e a kept error -/
def rIsk (K : PySem.W.Frag) : List V → Hp → VK → Prop := fun xs H Q => ∃ (a C : Addr) (d : Option Addr) (c : V) (u : Value) (b : Bool), xs = [.ref a, c] ∧ Kept H a C d ∧ KeptC K C ∧ ClsV c u ∧ PySem.W.kitOne K (.ref C) u = some b ∧ Q (.bl b) H
theorem call_isk : CallR X (.builtin "isinstance") (rIsk X.K) := by
  intro pins s σ H xs us Q I r h
  obtain ⟨a, C, d, c, u, b, rfl, hk, T, k, e, q⟩ := h
  obtain ⟨u1, u2, rfl, r1, r2⟩ := vals2 r
  cases (show u1 = Value.ref a from r1)
  have e2 := k.eq r2
  subst e2
  obtain ⟨oe, od, J⟩ := kept_inst I hk
  exact PySem.W.kia_one (kept_kit T) I.kIn J e (fun z => nomatch z) fun tk => ⟨.bl b, H, I.tok tk, rfl, q⟩
/-- isinstance(e, (c, ..)) -/
def rIskT (K : PySem.W.Frag) : List V → Hp → VK → Prop := fun xs H Q => ∃ (a C : Addr) (d : Option Addr) (tp : Addr) (cs : List V) (us : List Value) (b : Bool), xs = [.ref a, .ref tp] ∧ Kept H a C d ∧ KeptC K C ∧ H tp = some (.tup cs) ∧ Paired ClsV cs us ∧ PySem.W.kitAny K (.ref C) us = some b ∧ Q (.bl b) H
theorem call_iskT : CallR X (.builtin "isinstance") (rIskT X.K) := by
  intro pins s σ H xs us Q I r h
  obtain ⟨a, C, d, tp, cs, ws, b, rfl, hk, T, hT, k, e, q⟩ := h
  obtain ⟨u1, u2, rfl, r1, r2⟩ := vals2 r
  cases (show u1 = Value.ref a from r1)
  cases (show u2 = Value.ref tp from r2)
  obtain ⟨oe, od, J⟩ := kept_inst I hk
  obtain ⟨_, its, rv, o, h1, h2, n, h3⟩ := (show ObjOk X.prog X.w H s.heap tp (.tup cs) from I.hok tp _ hT)
  have e3 := ClsV.all k rv
  subst e3
  obtain ⟨oc, od', dt, sl⟩ := o
  simp only at h2 h3
  subst h2 h3
  exact PySem.W.kia_tup (kept_kit T) I.kIn J h1 e (fun z => nomatch z) fun tk => ⟨.bl b, H, I.tok tk, rfl, q⟩
/-- e.f, e a kept error -/
def tKf (K : PySem.W.Frag) (f : Str) (te : TE) : TE := fun σ H Q => te σ H fun x H1 => ∃ (a C dd : Addr) (fs : List (Str × V)) (v : V), x = .ref a ∧ H1 a = some (exk a (.ref C) (some dd)) ∧ KeptC K C ∧ PySem.W.findIn K (.ref C) f = some none ∧ H1 dd = some (.xd fs) ∧ fs.lookup f = some v ∧ Q v H1
theorem pe_kf {e : Expr} {te : TE} {f : Str} {pos : Pos} (he : PE X e te) (hb : attributeBase e f X.env (eval e X.env) = eval e X.env := by rfl) : PE X (.Attribute e f pos) (tKf X.K f te) := by
  refine ⟨fun pins s σ H Q I h => attr_of hb (thn (he.run pins s σ H _ I h) fun u s1 hh => ?_)⟩
  obtain ⟨x, H1, I1, rx, a, C, dd, fs, v, ex, ea, T, hno, ed, l, q⟩ := hh
  subst ex
  obtain rfl : u = Value.ref a := rx
  obtain ⟨oe, vs, ho, hz, hv⟩ := exk_at I1.hok ea
  obtain ⟨mA, hns, hr⟩ := (show ObjOk X.prog X.w H1 s1.heap dd (.xd fs) from I1.hok dd _ ed)
  obtain ⟨od, hod, hl⟩ := lookIn_ns hns
  obtain ⟨w', hw, rw'⟩ := RelO.some_of (v := v) (o := mA f) (by rw [← l]; exact hr f)
  have J : PySem.W.InstAt s1.heap a oe C (some od) := ⟨ho, hz.1, by unfold PySem.W.notCls; rw [hv] <;> rfl, by rw [hz.2]; exact hod⟩
  exact HandSPX.exc_get I1.kIn J T.ga T.gg T.exC (PySem.W.findObj_own T.hdC hno rfl (by rw [hl, hw])) (handed_of rw') ⟨v, H1, I1.tok _, rw', q⟩
end
end Pc
namespace Pc
open PySem PySem.Spec PyProof.Rows L2 RZ
/-! ### errors with one field: made, flying -/
/-- an error of the class at C with the field f flies, from the heap H on -/
def Flies (C : Addr) (f : Str) (v : V) (H : Hp) (E : XK) : Prop := ∀ d H', Same H H' → H d = none → H' d = some (.xd [(f, v)]) → E (.ref C) (some d) H'
theorem Flies.same {C : Addr} {f : Str} {v : V} {H H1 : Hp} {E : XK} (h : Flies C f v H E) (s : Same H H1) : Flies C f v H1 E := fun d H' s' n e => h d H' (s.trans s') (s.free n) e
def spInit1 (C : Addr) (f : Str) : Sp := fun vs H Q _ => ∃ (a : Addr) (v : V), vs = [.ref a, v] ∧ H a = some (exo a C none) ∧ ∀ dx, H dx = none → dx ≠ a → Q .non (upd (upd H a (exo a C (some dx))) dx (exd dx [(f, v)]))
theorem raised1 {C : Addr} {f : Str} {v : V} {H1 : Hp} {Q : XK} (h : Flies C f v H1 Q) : [v].length ≤ 1000 ∧ ∀ a, H1 a = none → spInit1 C f (.ref a :: [v]) (upd H1 a (exo a C none))
    (fun v' H2 => v' = .non ∧ ((H2 a = some (exo a C none) ∧ Q (.ref C) none (del H2 a)) ∨ ∃ (d : Addr) (fs : List (Str × V)), H2 a = some (exo a C (some d)) ∧ H2 d = some (exd d fs) ∧ Q (.ref C) (some d) (upd (del H2 a) d (.xd fs)))) (fun _ _ _ => False) := by
  refine ⟨(by show 1 ≤ 1000; decide), fun a na => ⟨a, v, rfl, upd_same, fun dx nd ne => ⟨rfl, .inr ⟨dx, [(f, v)], ?_, upd_same, h dx _ ?_ ?_ upd_same⟩⟩⟩⟩
  · rw [upd_ne (Ne.symm ne), upd_same]
  · intro b o hb
    have nd' : H1 dx = none := by rw [upd_ne ne] at nd; exact nd
    have hbd := ne_of_none hb nd'
    have hba := ne_of_none hb na
    rw [upd_ne hbd, del_ne hba, upd_ne hbd, upd_ne hba, upd_ne hba]
    exact hb
  · rw [upd_ne ne] at nd; exact nd
/-- the try's wish of such an error -/
theorem kept1 {K : PySem.W.Frag} {C : Addr} {f : Str} {v : V} {cs : List Value} {i : Nat} {ts : Addr → TS} {D : Ends} {σ : L2.St} {H : Hp} (hh : Hits K (.ref C) cs)
    (h : ∀ d H' a, Same H H' → H d = none → H' d = some (.xd [(f, v)]) → H' a = none → a ≠ d → ts a { nx := fun σ' H'' => D.nx (σ'.set i none) (upd H'' a (exk a (.ref C) (some d))), rt := fun _ _ => False } (σ.set i (some (.ref a))) H') :
    Flies C f v H (fun cls d H' => wKept K cs i ts D cls d σ H') := fun d H' s n e => ⟨hh, fun a na => h d H' a s n e na (fun z => by rw [z, e] at na; cases na)⟩
theorem Kept.mk1 {H' : Hp} {a d C : Addr} {fs : List (Str × V)} (e : H' d = some (.xd fs)) (n : H' a = none) : Kept (upd H' a (exk a (.ref C) (some d))) a C (some d) :=
  ⟨upd_same, .inr ⟨d, fs, rfl, by rw [upd_ne (ne_of_none e n)]; exact e⟩⟩
theorem Kept.same {H H' : Hp} {a C : Addr} {d : Option Addr} (h : Kept H a C d) (s : Same H H') : Kept H' a C d :=
  ⟨s _ _ h.1, h.2.imp id fun ⟨dd, fs, e, z⟩ => ⟨dd, fs, e, s _ _ z⟩⟩
theorem over_of {K : PySem.W.Frag} {C : Addr} {bmB : List Value} {newId : String} {nm q : Str} {N : Addr} {bs : List Value} {sn : List Str} {sub : List Value} {ab : Bool} {col : Option Bool} {dd : Option Addr} {k0 k1 k2 k3 k5 : Option Value}
    (h : K.lookup C = some (excClassObj nm q C N bs bmB true sn sub ab col dd k0 k1 k2 k3 k5 newId)) (ht : PySem.W.excTail bmB bmB = true) : PySem.W.excOver K C bmB = true := by
  have e : PySem.W.clsIn K C = some { name := nm, bases := bs, mro := .ref C :: bmB, ns := N, qualname := q, hasDict := true, slotNames := sn, subclasses := sub, abstract := ab, collection := col, hasDel := false } := by
    unfold PySem.W.clsIn
    rw [h] <;> rfl
  unfold PySem.W.excOver
  rw [e]
  show ((C == C) && PySem.W.excTail bmB bmB) = true
  rw [ht, beq_self_eq_true]; rfl
theorem kcls_of {K : PySem.W.Frag} {t : Value} {D : Addr} {b : Bool} (h2 : PySem.W.isClsIn K D = true) (h3 : PySem.W.typeIn K (.ref D) = some (.type "type")) (h4 : PySem.W.subIn K t (.ref D) = some b) : PySem.W.kitCls K t (.ref D) = some b := by
  have e2 : ((PySem.W.clsIn K D).isSome && PySem.W.typeIn K (.ref D) == some (.type "type")) = true := by
    have h2' : (PySem.W.clsIn K D).isSome = true := h2
    rw [h2', h3] <;> rfl
  show (if ((PySem.W.clsIn K D).isSome && PySem.W.typeIn K (.ref D) == some (.type "type")) = true then PySem.W.subIn K t (.ref D) else none) = some b
  rw [if_pos e2]
  exact h4
theorem exm_of' {K : PySem.W.Frag} {t : Value} {D : Addr} {b : Bool} (h1 : PySem.W.subIn K (.ref D) (.type "BaseException") = some true) (h2 : PySem.W.isClsIn K D = true) (h3 : PySem.W.typeIn K (.ref D) = some (.type "type")) (h4 : PySem.W.subIn K t (.ref D) = some b) : PySem.W.exmOne K t (.ref D) = some b := by
  have e1 : (PySem.W.subIn K (.ref D) (.type "BaseException") == some true) = true := by rw [h1] <;> rfl
  show (if (PySem.W.subIn K (.ref D) (.type "BaseException") == some true) = true then PySem.W.kitCls K t (.ref D) else none) = some b
  rw [if_pos e1]
  exact kcls_of h2 h3 h4
theorem kit_own {K : PySem.W.Frag} {C D : Addr} {b : Bool} (h0 : PySem.W.subIn K (.ref C) (.ref C) = some true) (h2 : PySem.W.isClsIn K D = true) (h3 : PySem.W.typeIn K (.ref D) = some (.type "type")) (h4 : PySem.W.subIn K (.ref C) (.ref D) = some b) : PySem.W.kitOne K (.ref C) (.ref D) = some b := by
  by_cases e : C = D
  · subst e
    rw [h0] at h4
    rw [← h4]
    show (if ((Value.ref C) == (Value.ref C)) = true then some true else _) = some true
    rw [if_pos (beq_self_eq_true _)]
  · have n : ((Value.ref C) == (Value.ref D)) = false := beq_false_of_ne (fun z => e (Value.ref.inj z))
    show (if ((Value.ref C) == (Value.ref D)) = true then some true else PySem.W.kitCls K (.ref C) (.ref D)) = some b
    rw [if_neg (by rw [n]; exact Bool.false_ne_true)]
    exact kcls_of h2 h3 h4
theorem kit_blt {K : PySem.W.Frag} {C : Addr} {T : String} {b : Bool} (hm : PySem.W.kitMeta T = true) (h4 : PySem.W.subIn K (.ref C) (.type T) = some b) : PySem.W.kitOne K (.ref C) (.type T) = some b := by
  have n : ((Value.ref C) == (Value.type T)) = false := beq_false_of_ne (fun z => nomatch z)
  show (if ((Value.ref C) == (Value.type T)) = true then some true else (if PySem.W.kitMeta T = true then PySem.W.subIn K (.ref C) (.type T) else none)) = some b
  rw [if_neg (by rw [n]; exact Bool.false_ne_true), if_pos hm]
  exact h4
theorem kit_all {K : PySem.W.Frag} {t : Value} : ∀ {us : List Value}, (∀ u ∈ us, PySem.W.kitOne K t u = some false) → PySem.W.kitAny K t us = some false
  | [], _ => rfl
  | u :: us, h => by
    show (match PySem.W.kitOne K t u with | some true => some true | some false => PySem.W.kitAny K t us | none => none) = some false
    rw [h u List.mem_cons_self]
    exact kit_all fun x hx => h x (List.mem_cons_of_mem _ hx)
end Pc
namespace Pc
open PySem PySem.Spec PyProof.Rows L2 RZ
theorem kit_nil {K : PySem.W.Frag} {t : Value} : PySem.W.kitAny K t [] = some false := rfl
theorem kit_cons {K : PySem.W.Frag} {t u : Value} {us : List Value} (h : PySem.W.kitOne K t u = some false) (r : PySem.W.kitAny K t us = some false) : PySem.W.kitAny K t (u :: us) = some false := by
  show (match PySem.W.kitOne K t u with | some true => some true | some false => PySem.W.kitAny K t us | none => none) = some false
  rw [h]
  exact r
theorem hits_of {K : PySem.W.Frag} {cls : Value} {cs : List Value} (bs : List Bool) (hb : bs.any id = true) (h : Paired (fun c b => PySem.W.exmOne K cls c = some b) cs bs) : Hits K cls cs :=
  ⟨bs, h.length.symm, hb, fun i c y hc hy => by
    obtain ⟨y', e, z⟩ := paired_get h hc
    rw [hy] at e; cases e
    exact z⟩
end Pc
namespace Pc
open PySem PySem.Spec PyProof.Rows L2 RZ
/-- two promises of one def -/
theorem FnOk.or {P : Program} {w : World} {K : PySem.W.Frag} {mg : Str → Option Value} {base : Heap} {CX : CXT} {k : Nat} {f : Addr} {fd : FuncData} {ps : List Str} {sp sp' : Sp} (F : FnOk P w K mg base CX k f fd ps sp) (G : FnOk P w K mg base CX k f fd ps sp') :
    FnOk P w K mg base CX k f fd ps (fun vs H Q E => sp vs H Q E ∨ sp' vs H Q E) where
  len vs H Q E h := h.elim (F.len vs H Q E) (G.len vs H Q E)
  run A outer s H args us vs Q E hr e0 hb r h := h.elim (F.run A outer s H args us vs Q E hr e0 hb r) (G.run A outer s H args us vs Q E hr e0 hb r)
end Pc
namespace Pc
open PySem PySem.Spec PyProof.Rows L2 RZ
def topS (i : Nat) : Stmt := PySem.Challenge.pw_partnercall_k66_too_many_people.main.body.getD i (.Pass ⟨0, 0, 0, 0⟩)
abbrev s_p_check_person : Stmt := topS 6
abbrev N_p_check_person : List Str := ["size", "person"]
theorem sc_p_check_person : FnScope ["size", "person"] ["size", "person"] (defScope s_p_check_person) := ⟨rfl, rfl, rfl, by decide +kernel, rfl, by decide +kernel, by decide +kernel⟩
abbrev s_p_check_call : Stmt := topS 7
abbrev N_p_check_call : List Str := ["size", "call", "person"]
theorem sc_p_check_call : FnScope ["size", "call", "person"] ["size", "call"] (defScope s_p_check_call) := ⟨rfl, rfl, rfl, by decide +kernel, rfl, by decide +kernel, by decide +kernel⟩
abbrev s_p_check_word : Stmt := topS 8
abbrev N_p_check_word : List Str := ["size", "word", "call"]
theorem sc_p_check_word : FnScope ["size", "word", "call"] ["size", "word"] (defScope s_p_check_word) := ⟨rfl, rfl, rfl, by decide +kernel, rfl, by decide +kernel, by decide +kernel⟩
abbrev s_p_all_calls : Stmt := topS 9
abbrev N_p_all_calls : List Str := ["size", "a", "b"]
theorem sc_p_all_calls : FnScope ["size", "a", "b"] ["size"] (defScope s_p_all_calls) := ⟨rfl, rfl, rfl, by decide +kernel, rfl, by decide +kernel, by decide +kernel⟩
abbrev s_p_join_two : Stmt := topS 10
abbrev N_p_join_two : List Str := ["joined", "a", "b", "left", "right"]
theorem sc_p_join_two : FnScope ["joined", "a", "b", "left", "right"] ["joined", "a", "b"] (defScope s_p_join_two) := ⟨rfl, rfl, rfl, by decide +kernel, rfl, by decide +kernel, by decide +kernel⟩
abbrev s_p_people_of : Stmt := topS 12
abbrev N_p_people_of : List Str := ["sheet"]
theorem sc_p_people_of : FnScope ["sheet"] ["sheet"] (defScope s_p_people_of) := ⟨rfl, rfl, rfl, by decide +kernel, rfl, by decide +kernel, by decide +kernel⟩
abbrev s_p_empty_sheet : Stmt := topS 13
abbrev N_p_empty_sheet : List Str := ["size"]
theorem sc_p_empty_sheet : FnScope ["size"] ["size"] (defScope s_p_empty_sheet) := ⟨rfl, rfl, rfl, by decide +kernel, rfl, by decide +kernel, by decide +kernel⟩
abbrev s_p_with_word : Stmt := topS 14
abbrev N_p_with_word : List Str := ["sheet", "word", "size", "ends", "a", "b"]
theorem sc_p_with_word : FnScope ["sheet", "word", "size", "ends", "a", "b"] ["sheet", "word"] (defScope s_p_with_word) := ⟨rfl, rfl, rfl, by decide +kernel, rfl, by decide +kernel, by decide +kernel⟩
abbrev s_p_with_call : Stmt := topS 15
abbrev N_p_with_call : List Str := ["sheet", "call"]
theorem sc_p_with_call : FnScope ["sheet", "call"] ["sheet", "call"] (defScope s_p_with_call) := ⟨rfl, rfl, rfl, by decide +kernel, rfl, by decide +kernel, by decide +kernel⟩
abbrev s_p_check_few : Stmt := topS 18
abbrev N_p_check_few : List Str := ["size"]
theorem sc_p_check_few : FnScope ["size"] ["size"] (defScope s_p_check_few) := ⟨rfl, rfl, rfl, by decide +kernel, rfl, by decide +kernel, by decide +kernel⟩
abbrev s_p_first_words : Stmt := topS 19
abbrev N_p_first_words : List Str := ["size", "layer", "found", "following", "sheet", "call", "reached"]
theorem sc_p_first_words : FnScope ["size", "layer", "found", "following", "sheet", "call", "reached"] ["size"] (defScope s_p_first_words) := ⟨rfl, rfl, rfl, by decide +kernel, rfl, by decide +kernel, by decide +kernel⟩
abbrev s_p_all_sheets : Stmt := topS 20
abbrev N_p_all_sheets : List Str := ["size"]
theorem sc_p_all_sheets : FnScope ["size"] ["size"] (defScope s_p_all_sheets) := ⟨rfl, rfl, rfl, by decide +kernel, rfl, by decide +kernel, by decide +kernel⟩
abbrev s_p_first_word : Stmt := topS 21
abbrev N_p_first_word : List Str := ["sheet", "size"]
theorem sc_p_first_word : FnScope ["sheet", "size"] ["sheet"] (defScope s_p_first_word) := ⟨rfl, rfl, rfl, by decide +kernel, rfl, by decide +kernel, by decide +kernel⟩
abbrev s_p_words_with : Stmt := topS 22
abbrev N_p_words_with : List Str := ["sheet", "many", "size", "counts", "step", "longer", "start", "call", "reached"]
theorem sc_p_words_with : FnScope ["sheet", "many", "size", "counts", "step", "longer", "start", "call", "reached"] ["sheet", "many"] (defScope s_p_words_with) := ⟨rfl, rfl, rfl, by decide +kernel, rfl, by decide +kernel, by decide +kernel⟩
abbrev s_stream : Stmt := topS 24
abbrev N_stream : List Str := ["_law_script", "_law_k", "_law_cell"]
theorem sc_stream : FnScope ["_law_script", "_law_k", "_law_cell"] ["_law_script", "_law_k"] (defScope s_stream) := ⟨rfl, rfl, rfl, by decide +kernel, rfl, by decide +kernel, by decide +kernel⟩
abbrev s_draw : Stmt := topS 25
abbrev N_draw : List Str := ["_law_source", "_law_bound", "_law_found", "_law_once", "_law_twice"]
theorem sc_draw : FnScope ["_law_source", "_law_bound", "_law_found", "_law_once", "_law_twice"] ["_law_source", "_law_bound"] (defScope s_draw) := ⟨rfl, rfl, rfl, by decide +kernel, rfl, by decide +kernel, by decide +kernel⟩
abbrev s_folded : Stmt := topS 26
abbrev N_folded : List Str := ["_law_script", "_law_most", "_law_cells", "_law_k", "_law_cell"]
theorem sc_folded : FnScope ["_law_script", "_law_most", "_law_cells", "_law_k", "_law_cell"] ["_law_script", "_law_most"] (defScope s_folded) := ⟨rfl, rfl, rfl, by decide +kernel, rfl, by decide +kernel, by decide +kernel⟩
abbrev s_same : Stmt := topS 27
abbrev N_same : List Str := ["_law_found", "_law_due", "_law_mine", "_law_its"]
theorem sc_same : FnScope ["_law_found", "_law_due", "_law_mine", "_law_its"] ["_law_found", "_law_due"] (defScope s_same) := ⟨rfl, rfl, rfl, by decide +kernel, rfl, by decide +kernel, by decide +kernel⟩
abbrev s_shuffled : Stmt := topS 28
abbrev N_shuffled : List Str := ["_law_source", "_law_some", "_law_left", "_law_found"]
theorem sc_shuffled : FnScope ["_law_source", "_law_some", "_law_left", "_law_found"] ["_law_source", "_law_some"] (defScope s_shuffled) := ⟨rfl, rfl, rfl, by decide +kernel, rfl, by decide +kernel, by decide +kernel⟩
abbrev s_random_pairing : Stmt := topS 29
abbrev N_random_pairing : List Str := ["_law_source", "_law_crowd", "_law_row", "_law_found", "_law_at"]
theorem sc_random_pairing : FnScope ["_law_source", "_law_crowd", "_law_row", "_law_found", "_law_at"] ["_law_source", "_law_crowd"] (defScope s_random_pairing) := ⟨rfl, rfl, rfl, by decide +kernel, rfl, by decide +kernel, by decide +kernel⟩
abbrev s_asked : Stmt := topS 30
abbrev N_asked : List Str := ["_law_door", "_law_page", "_law_found", "_law_caught", "error"]
theorem sc_asked : FnScope ["_law_door", "_law_page", "_law_found", "_law_caught", "error"] ["_law_door", "_law_page"] (defScope s_asked) := ⟨rfl, rfl, rfl, by decide +kernel, rfl, by decide +kernel, by decide +kernel⟩
abbrev s_right : Stmt := topS 31
abbrev N_right : List Str := ["_law_source", "_law_crowd", "_law_page", "_law_empty", "_law_full", "_law_often", "_law_found", "_law_door"]
theorem sc_right : FnScope ["_law_source", "_law_crowd", "_law_page", "_law_empty", "_law_full", "_law_often", "_law_found", "_law_door"] ["_law_source"] (defScope s_right) := ⟨rfl, rfl, rfl, by decide +kernel, rfl, by decide +kernel, by decide +kernel⟩
abbrev s_law : Stmt := topS 32
abbrev N_law : List Str := ["_law_script", "_law_cells", "_law_k"]
theorem sc_law : FnScope ["_law_script", "_law_cells", "_law_k"] ["_law_script"] (defScope s_law) := ⟨rfl, rfl, rfl, by decide +kernel, rfl, by decide +kernel, by decide +kernel⟩
abbrev s_i_TooMany : Stmt := inClass (topS 4) 0
abbrev N_i_TooMany : List Str := ["self", "size"]
theorem sc_i_TooMany : FnScope ["self", "size"] ["self", "size"] (defScope s_i_TooMany) := ⟨rfl, rfl, rfl, by decide +kernel, rfl, by decide +kernel, by decide +kernel⟩
set_option genInjectivity false in
set_option genSizeOf false in
structure Env (K : PySem.W.Frag) (mg : Str → Option Value) where
  n_range : mg "range" = none
  n_len : mg "len" = none
  n_tuple : mg "tuple" = none
  n_list : mg "list" = none
  n_sorted : mg "sorted" = none
  n_abs : mg "abs" = none
  n_int : mg "int" = none
  n_enumerate : mg "enumerate" = none
  n_isinstance : mg "isinstance" = none
  n_all : mg "all" = none
  n_zip : mg "zip" = none
  n_bool : mg "bool" = none
  n_str : mg "str" = none
  n_OverflowError : mg "OverflowError" = none
  f_p_check_person : Addr
  d_p_check_person : FuncData
  F_p_check_person : Fun K "check_person" "check_person" s_p_check_person f_p_check_person d_p_check_person
  g_p_check_person : mg "check_person" = some (.ref f_p_check_person)
  f_p_check_call : Addr
  d_p_check_call : FuncData
  F_p_check_call : Fun K "check_call" "check_call" s_p_check_call f_p_check_call d_p_check_call
  g_p_check_call : mg "check_call" = some (.ref f_p_check_call)
  f_p_check_word : Addr
  d_p_check_word : FuncData
  F_p_check_word : Fun K "check_word" "check_word" s_p_check_word f_p_check_word d_p_check_word
  g_p_check_word : mg "check_word" = some (.ref f_p_check_word)
  f_p_all_calls : Addr
  d_p_all_calls : FuncData
  F_p_all_calls : Fun K "all_calls" "all_calls" s_p_all_calls f_p_all_calls d_p_all_calls
  g_p_all_calls : mg "all_calls" = some (.ref f_p_all_calls)
  f_p_join_two : Addr
  d_p_join_two : FuncData
  F_p_join_two : Fun K "join_two" "join_two" s_p_join_two f_p_join_two d_p_join_two
  g_p_join_two : mg "join_two" = some (.ref f_p_join_two)
  f_p_people_of : Addr
  d_p_people_of : FuncData
  F_p_people_of : Fun K "people_of" "people_of" s_p_people_of f_p_people_of d_p_people_of
  g_p_people_of : mg "people_of" = some (.ref f_p_people_of)
  f_p_empty_sheet : Addr
  d_p_empty_sheet : FuncData
  F_p_empty_sheet : Fun K "empty_sheet" "empty_sheet" s_p_empty_sheet f_p_empty_sheet d_p_empty_sheet
  g_p_empty_sheet : mg "empty_sheet" = some (.ref f_p_empty_sheet)
  f_p_with_word : Addr
  d_p_with_word : FuncData
  F_p_with_word : Fun K "with_word" "with_word" s_p_with_word f_p_with_word d_p_with_word
  g_p_with_word : mg "with_word" = some (.ref f_p_with_word)
  f_p_with_call : Addr
  d_p_with_call : FuncData
  F_p_with_call : Fun K "with_call" "with_call" s_p_with_call f_p_with_call d_p_with_call
  g_p_with_call : mg "with_call" = some (.ref f_p_with_call)
  f_p_check_few : Addr
  d_p_check_few : FuncData
  F_p_check_few : Fun K "check_few" "check_few" s_p_check_few f_p_check_few d_p_check_few
  g_p_check_few : mg "check_few" = some (.ref f_p_check_few)
  f_p_first_words : Addr
  d_p_first_words : FuncData
  F_p_first_words : Fun K "first_words" "first_words" s_p_first_words f_p_first_words d_p_first_words
  g_p_first_words : mg "first_words" = some (.ref f_p_first_words)
  f_p_all_sheets : Addr
  d_p_all_sheets : FuncData
  F_p_all_sheets : Fun K "all_sheets" "all_sheets" s_p_all_sheets f_p_all_sheets d_p_all_sheets
  g_p_all_sheets : mg "all_sheets" = some (.ref f_p_all_sheets)
  f_p_first_word : Addr
  d_p_first_word : FuncData
  F_p_first_word : Fun K "first_word" "first_word" s_p_first_word f_p_first_word d_p_first_word
  g_p_first_word : mg "first_word" = some (.ref f_p_first_word)
  f_p_words_with : Addr
  d_p_words_with : FuncData
  F_p_words_with : Fun K "words_with" "words_with" s_p_words_with f_p_words_with d_p_words_with
  g_p_words_with : mg "words_with" = some (.ref f_p_words_with)
  f_stream : Addr
  d_stream : FuncData
  F_stream : Fun K "_law_stream" "_law_stream" s_stream f_stream d_stream
  g_stream : mg "_law_stream" = some (.ref f_stream)
  f_draw : Addr
  d_draw : FuncData
  F_draw : Fun K "_law_draw" "_law_draw" s_draw f_draw d_draw
  g_draw : mg "_law_draw" = some (.ref f_draw)
  f_folded : Addr
  d_folded : FuncData
  F_folded : Fun K "_law_folded" "_law_folded" s_folded f_folded d_folded
  g_folded : mg "_law_folded" = some (.ref f_folded)
  f_same : Addr
  d_same : FuncData
  F_same : Fun K "_law_same" "_law_same" s_same f_same d_same
  g_same : mg "_law_same" = some (.ref f_same)
  f_shuffled : Addr
  d_shuffled : FuncData
  F_shuffled : Fun K "_law_shuffled" "_law_shuffled" s_shuffled f_shuffled d_shuffled
  g_shuffled : mg "_law_shuffled" = some (.ref f_shuffled)
  f_random_pairing : Addr
  d_random_pairing : FuncData
  F_random_pairing : Fun K "_law_random_pairing" "_law_random_pairing" s_random_pairing f_random_pairing d_random_pairing
  g_random_pairing : mg "_law_random_pairing" = some (.ref f_random_pairing)
  f_asked : Addr
  d_asked : FuncData
  F_asked : Fun K "_law_asked" "_law_asked" s_asked f_asked d_asked
  g_asked : mg "_law_asked" = some (.ref f_asked)
  f_right : Addr
  d_right : FuncData
  F_right : Fun K "_law_right" "_law_right" s_right f_right d_right
  g_right : mg "_law_right" = some (.ref f_right)
  tk_MOST_PEOPLE : Tok
  k_MOST_PEOPLE : mg "MOST_PEOPLE" = some (.int 4 tk_MOST_PEOPLE)
  C_TooMany : Addr
  gC_TooMany : mg "TooMany" = some (.ref C_TooMany)
  C_NoWord : Addr
  gC_NoWord : mg "NoWord" = some (.ref C_NoWord)
  C_OtherSize : Addr
  gC_OtherSize : mg "OtherSize" = some (.ref C_OtherSize)
  own_TooMany : Own K "OverflowError.__new__" [.type "OverflowError", .type "ArithmeticError", .type "Exception", .type "BaseException", .type "object"] C_TooMany
  kpt_TooMany : KeptC K C_TooMany
  no_TooMany : PySem.W.findIn K (.ref C_TooMany) "size" = some none
  f_i_TooMany : Addr
  d_i_TooMany : FuncData
  F_i_TooMany : Fun K "__init__" "TooMany.__init__" s_i_TooMany f_i_TooMany d_i_TooMany
  iC_TooMany : PySem.W.findIn K (.ref C_TooMany) "__init__" = some (some (.ref f_i_TooMany))
  tI_TooMany : PySem.W.typeIn K (.ref f_i_TooMany) = some (.type "function")
  ee_TooMany : PySem.W.exmOne K (.ref C_TooMany) (.ref C_TooMany) = some true
  kk_TooMany : PySem.W.kitOne K (.ref C_TooMany) (.ref C_TooMany) = some true
  ex_TooMany_NoWord : PySem.W.exmOne K (.ref C_TooMany) (.ref C_NoWord) = some false
  ki_TooMany_NoWord : PySem.W.kitOne K (.ref C_TooMany) (.ref C_NoWord) = some false
  ex_TooMany_OtherSize : PySem.W.exmOne K (.ref C_TooMany) (.ref C_OtherSize) = some false
  ki_TooMany_OtherSize : PySem.W.kitOne K (.ref C_TooMany) (.ref C_OtherSize) = some false
  kb_TooMany_OverflowError : PySem.W.kitOne K (.ref C_TooMany) (.type "OverflowError") = some true
  vV_OverflowError : PySem.W.findCls K (.type "OverflowError") (.type "type") "__init__" = some (.val (.builtin "OverflowError.__init__"))
theorem Env.b_i_TooMany {K : PySem.W.Frag} {mg : Str → Option Value} (T : Env K mg) : Binds K T.d_i_TooMany ["self", "size"] [] := T.F_i_TooMany.binds fun _ _ _ _ _ _ us hl => match us, hl with | [_, _], _ => rfl
theorem Env.b_p_check_person {K : PySem.W.Frag} {mg : Str → Option Value} (T : Env K mg) : Binds K T.d_p_check_person ["size", "person"] [] := T.F_p_check_person.binds fun _ _ _ _ _ _ us hl => match us, hl with | [_, _], _ => rfl
theorem Env.b_p_check_call {K : PySem.W.Frag} {mg : Str → Option Value} (T : Env K mg) : Binds K T.d_p_check_call ["size", "call"] [] := T.F_p_check_call.binds fun _ _ _ _ _ _ us hl => match us, hl with | [_, _], _ => rfl
theorem Env.b_p_check_word {K : PySem.W.Frag} {mg : Str → Option Value} (T : Env K mg) : Binds K T.d_p_check_word ["size", "word"] [] := T.F_p_check_word.binds fun _ _ _ _ _ _ us hl => match us, hl with | [_, _], _ => rfl
theorem Env.b_p_all_calls {K : PySem.W.Frag} {mg : Str → Option Value} (T : Env K mg) : Binds K T.d_p_all_calls ["size"] [] := T.F_p_all_calls.binds fun _ _ _ _ _ _ us hl => match us, hl with | [_], _ => rfl
theorem Env.b_p_join_two {K : PySem.W.Frag} {mg : Str → Option Value} (T : Env K mg) : Binds K T.d_p_join_two ["joined", "a", "b"] [] := T.F_p_join_two.binds fun _ _ _ _ _ _ us hl => match us, hl with | [_, _, _], _ => rfl
theorem Env.b_p_people_of {K : PySem.W.Frag} {mg : Str → Option Value} (T : Env K mg) : Binds K T.d_p_people_of ["sheet"] [] := T.F_p_people_of.binds fun _ _ _ _ _ _ us hl => match us, hl with | [_], _ => rfl
theorem Env.b_p_empty_sheet {K : PySem.W.Frag} {mg : Str → Option Value} (T : Env K mg) : Binds K T.d_p_empty_sheet ["size"] [] := T.F_p_empty_sheet.binds fun _ _ _ _ _ _ us hl => match us, hl with | [_], _ => rfl
theorem Env.b_p_with_word {K : PySem.W.Frag} {mg : Str → Option Value} (T : Env K mg) : Binds K T.d_p_with_word ["sheet", "word"] [] := T.F_p_with_word.binds fun _ _ _ _ _ _ us hl => match us, hl with | [_, _], _ => rfl
theorem Env.b_p_with_call {K : PySem.W.Frag} {mg : Str → Option Value} (T : Env K mg) : Binds K T.d_p_with_call ["sheet", "call"] [] := T.F_p_with_call.binds fun _ _ _ _ _ _ us hl => match us, hl with | [_, _], _ => rfl
theorem Env.b_p_check_few {K : PySem.W.Frag} {mg : Str → Option Value} (T : Env K mg) : Binds K T.d_p_check_few ["size"] [] := T.F_p_check_few.binds fun _ _ _ _ _ _ us hl => match us, hl with | [_], _ => rfl
theorem Env.b_p_first_words {K : PySem.W.Frag} {mg : Str → Option Value} (T : Env K mg) : Binds K T.d_p_first_words ["size"] [] := T.F_p_first_words.binds fun _ _ _ _ _ _ us hl => match us, hl with | [_], _ => rfl
theorem Env.b_p_all_sheets {K : PySem.W.Frag} {mg : Str → Option Value} (T : Env K mg) : Binds K T.d_p_all_sheets ["size"] [] := T.F_p_all_sheets.binds fun _ _ _ _ _ _ us hl => match us, hl with | [_], _ => rfl
theorem Env.b_p_first_word {K : PySem.W.Frag} {mg : Str → Option Value} (T : Env K mg) : Binds K T.d_p_first_word ["sheet"] [] := T.F_p_first_word.binds fun _ _ _ _ _ _ us hl => match us, hl with | [_], _ => rfl
theorem Env.b_p_words_with {K : PySem.W.Frag} {mg : Str → Option Value} (T : Env K mg) : Binds K T.d_p_words_with ["sheet", "many"] [] := T.F_p_words_with.binds fun _ _ _ _ _ _ us hl => match us, hl with | [_, _], _ => rfl
theorem Env.b_stream {K : PySem.W.Frag} {mg : Str → Option Value} (T : Env K mg) : Binds K T.d_stream ["_law_script", "_law_k"] [] := T.F_stream.binds fun _ _ _ _ _ _ us hl => match us, hl with | [_, _], _ => rfl
theorem Env.b_draw {K : PySem.W.Frag} {mg : Str → Option Value} (T : Env K mg) : Binds K T.d_draw ["_law_source", "_law_bound"] [] := T.F_draw.binds fun _ _ _ _ _ _ us hl => match us, hl with | [_, _], _ => rfl
theorem Env.b_folded {K : PySem.W.Frag} {mg : Str → Option Value} (T : Env K mg) : Binds K T.d_folded ["_law_script", "_law_most"] [] := T.F_folded.binds fun _ _ _ _ _ _ us hl => match us, hl with | [_, _], _ => rfl
theorem Env.b_same {K : PySem.W.Frag} {mg : Str → Option Value} (T : Env K mg) : Binds K T.d_same ["_law_found", "_law_due"] [] := T.F_same.binds fun _ _ _ _ _ _ us hl => match us, hl with | [_, _], _ => rfl
theorem Env.b_shuffled {K : PySem.W.Frag} {mg : Str → Option Value} (T : Env K mg) : Binds K T.d_shuffled ["_law_source", "_law_some"] [] := T.F_shuffled.binds fun _ _ _ _ _ _ us hl => match us, hl with | [_, _], _ => rfl
theorem Env.b_random_pairing {K : PySem.W.Frag} {mg : Str → Option Value} (T : Env K mg) : Binds K T.d_random_pairing ["_law_source", "_law_crowd"] [] := T.F_random_pairing.binds fun _ _ _ _ _ _ us hl => match us, hl with | [_, _], _ => rfl
theorem Env.b_asked {K : PySem.W.Frag} {mg : Str → Option Value} (T : Env K mg) : Binds K T.d_asked ["_law_door", "_law_page"] [] := T.F_asked.binds fun _ _ _ _ _ _ us hl => match us, hl with | [_, _], _ => rfl
theorem Env.b_right {K : PySem.W.Frag} {mg : Str → Option Value} (T : Env K mg) : Binds K T.d_right ["_law_source"] [] := T.F_right.binds fun _ _ _ _ _ _ us hl => match us, hl with | [_], _ => rfl
end Pc
namespace Pc
open PySem PySem.Spec PyProof.Rows L2 RZ
section
variable {P : Program} {w : World} {K : PySem.W.Frag} {mg : Str → Option Value} {base : Heap}
theorem ok_i_TooMany (T : Env K mg) : FnOk P w K mg base CX0 1 T.f_i_TooMany T.d_i_TooMany ["self", "size"] (spInit1 T.C_TooMany "size") := by
  refine T.F_i_TooMany.ok sc_i_TooMany (fun vs H Q E h => ?_) (fun cdv A outer s H vs Q E hr h => ?_)
  · obtain ⟨a, v, rfl, _⟩ := h
    rfl
  · obtain ⟨a, v, rfl, ha, q⟩ := h
    refine ⟨_, pss_cons (ps_expr (pe_binit (o := .Constant .none 0 ⟨0, 0, 0, 0⟩) bsO.fb (by rfl) T.n_OverflowError (by decide +kernel) (by decide) (by decide) (by kernel_rfl) (by decide +kernel) (by decide +kernel) T.vV_OverflowError (pa_cons (pv 0) (pa_cons pe_str pa_nil)))) (pss_one (ps_os (newId := "OverflowError.__new__") bsO.sf (pv 0) (pv 1))), ?_⟩
    exact ⟨.ref a, rfl, a, _, [.str _], rfl, (by show 1 ≤ 1000; decide), T.own_TooMany, ha, v, rfl, .ref a, rfl, a, _, rfl, T.own_TooMany, T.no_TooMany, ha, fun dx n ne => q dx n ne⟩
end
end Pc
namespace Pc
open PySem PySem.Spec PyProof.Rows L2 RZ
section
variable {P : Program} {w : World} {K : PySem.W.Frag} {mg : Str → Option Value} {base : Heap}
/-! ### a source -/
def spBox (K : PySem.W.Frag) : Sp := fun vs H Q _ => ∃ (a : Addr) (ns : List Int) (k : Nat), vs = [.ref a, .int k] ∧ SqL K H a (ns.map V.int) ∧ k ≤ 100 ∧
  ∀ H' b, Same H H' → H b = none → Box 1000000000 H' b → Q (.ref b) H'
theorem ok_box (T : Env K mg) : FnOk P w K mg base CX0 1 T.f_stream T.d_stream ["_law_script", "_law_k"] (spBox K) := by
  refine T.F_stream.ok sc_stream (fun vs H Q E h => ?_) (fun cdv A outer s H vs Q E hr h => ?_)
  · obtain ⟨a, ns, k, rfl, _⟩ := h
    rfl
  · obtain ⟨a, ns, k, rfl, hS, hk, q⟩ := h
    refine ⟨_, pss_cons (ps_set (i := 2) sc_stream.nd rfl (.inl rfl) pe_int) <| pss_cons (ps_if (pt_cmpR op_lt (pv 1) (pe_callB call_len_seq (by rfl) T.n_len PySem.boot_len (pa_cons (pv 0) pa_nil)) (nomark _)) (pss_one (ps_set (i := 2) sc_stream.nd rfl (.inl rfl) (pe_ix ix_list (pv 0) (pv 1) (fun _ _ => rfl)))) pss_nil)
      (pss_one (ps_ret (pe_lst (pa_cons
          (pe_op op_mul (pe_callB call_abs (by rfl) T.n_abs (by decide +kernel) (pa_cons (pv 2) pa_nil))
            (pe_callTy call_int1 (by rfl) T.n_int (by decide +kernel) (pa_cons (pe_cmpR op_ge (pe_callB call_abs (by rfl) T.n_abs (by decide +kernel) (pa_cons (pv 2) pa_nil)) (pe_op op_pow pe_int pe_int) (nomark _)) pa_nil)))
        (pa_cons (pe_op op_add (pe_op op_add (pe_op op_mod (pv 2) pe_int) (pe_op op_mul pe_int (pv 1))) pe_int)
        (pa_cons pe_int pa_nil)))))), ?_⟩
    refine ⟨.int k, rfl, .ref a, rfl, a, ns.map V.int, rfl, .inl hS, _, _, rfl, rfl, _, rfl, ite2 (fun e => ?_) (fun e => ?_)⟩
    · have e1 : k < ns.length := by
        have := of_decide_eq_true e
        rw [List.length_map] at this
        omega
      refine ⟨.ref a, rfl, .int k, rfl, a, _, _, _, rfl, rfl, hS, atI_nat (v := .int ns[k]) (by rw [List.getElem?_map, List.getElem?_eq_getElem e1]; rfl), ?_⟩
      revert e; generalize ns[k] = c; intro _
      refine ⟨_, rfl, _, rfl, _, rfl, _, rfl, 10, 18, rfl, rfl, ⟨by decide, by decide, by decide⟩, _, _, rfl, rfl, .inr ⟨_, rfl, _, _, rfl, rfl, .inr (in64 (one0 _)), _, rfl, _, _, rfl, rfl, (show (0 : Int) < 2305843009213693951 by decide), _, rfl, _, _, rfl, rfl, .inl ⟨by decide, by decide⟩, _, _, rfl, rfl, _, _, rfl, rfl, ?_⟩⟩
      refine ⟨by show 3 ≤ sizeLine; decide, fun b nb => q _ b (same_new nb) nb ⟨_, _, 0, upd_same, Int.mul_nonneg ?_ (one0 _).1, ?_, ?_, by decide, by decide⟩⟩
      · split <;> omega
      · omega
      · omega
    · refine ⟨_, rfl, _, rfl, _, rfl, _, rfl, 10, 18, rfl, rfl, ⟨by decide, by decide, by decide⟩, _, _, rfl, rfl, .inr ⟨_, rfl, _, _, rfl, rfl, .inr (in64 (one0 _)), _, rfl, _, _, rfl, rfl, (show (0 : Int) < 2305843009213693951 by decide), _, rfl, _, _, rfl, rfl, .inl ⟨by decide, by decide⟩, _, _, rfl, rfl, _, _, rfl, rfl, ?_⟩⟩
      refine ⟨by show 3 ≤ sizeLine; decide, fun b nb => q _ b (same_new nb) nb ⟨_, _, 0, upd_same, Int.mul_nonneg ?_ (one0 _).1, ?_, ?_, by decide, by decide⟩⟩
      · split <;> omega
      · omega
      · omega
end
end Pc
namespace Pc
open PySem PySem.Spec PyProof.Rows L2 RZ
section
variable {P : Program} {w : World} {K : PySem.W.Frag} {mg : Str → Option Value} {base : Heap}
/-! ### a draw below a span of at most ten million -/
def spTake : Sp := fun vs H Q _ => ∃ (b : Addr) (n : Nat) (s : Int), vs = [.ref b, .int s] ∧ Box (n + 1) H b ∧ 0 < s ∧ s ≤ 10000000 ∧
  ∀ (r : Int) (H' : Hp), 0 ≤ r → r < s → Box n H' b → Keep b H H' → Q (.int r) H'
theorem ok_take (T : Env K mg) : FnOk P w K mg base CX0 1 T.f_draw T.d_draw ["_law_source", "_law_bound"] spTake := by
  refine T.F_draw.ok sc_draw (fun vs H Q E h => ?_) (fun cdv A outer s H vs Q E hr h => ?_)
  · obtain ⟨b, n, s, rfl, _⟩ := h
    rfl
  · obtain ⟨b, n, s, rfl, ⟨x, y, z, hb, hx, hy, hy2, hz, hz2⟩, hs, hs2, q⟩ := h
    refine ⟨_, pss_cons (ps_if (pt_cmpR op_gt (pe_ix ix_list (pv 0) pe_int (fun _ _ => rfl)) pe_int (nomark _))
        (pss_cons (ps_set (i := 2) sc_draw.nd rfl (.inl rfl) (pe_op op_mod (pe_ix ix_list (pv 0) pe_int (fun _ _ => rfl)) (pv 1)))
        (pss_cons (ps_asg (pe_op op_fdiv (pe_ix ix_list (pv 0) pe_int (fun _ _ => rfl)) (pv 1)) (pg_sub (pv 0) pe_int set_list))
        (pss_one (ps_ret (pv 2))))) pss_nil)
      (pss_cons (ps_if (pt_cmpR op_gt (pv 1) (pe_op op_pow pe_int pe_int) (nomark _)) pss_never pss_nil)
      (pss_cons (ps_asg (pe_op op_add (pe_ix ix_list (pv 0) pe_int (fun _ _ => rfl)) pe_int) (pg_sub (pv 0) pe_int set_list))
      (pss_cons (ps_set (i := 3) sc_draw.nd rfl (.inl rfl) (pe_op op_mod (pe_op op_mul (pe_op op_add (pe_ix ix_list (pv 0) pe_int (fun _ _ => rfl)) (pe_op op_mul pe_int (pe_ix ix_list (pv 0) pe_int (fun _ _ => rfl)))) (pe_op op_add pe_int (pe_ix ix_list (pv 0) pe_int (fun _ _ => rfl)))) pe_int))
      (pss_cons (ps_set (i := 4) sc_draw.nd rfl (.inl rfl) (pe_op op_mod (pe_op op_mul (pe_op op_add (pe_op op_add (pv 3) (pe_ix ix_list (pv 0) pe_int (fun _ _ => rfl))) (pe_op op_fdiv (pe_ix ix_list (pv 0) pe_int (fun _ _ => rfl)) pe_int)) (pe_op op_add (pe_op op_mod (pv 3) pe_int) pe_int)) pe_int))
      (pss_one (ps_ret (pe_op op_mod (pe_op op_fdiv (pe_op op_mod (pe_op op_add (pe_op op_mul (pv 4) pe_int) (pv 3)) pe_int) pe_int) (pv 1)))))))), ?_⟩
    have hS : SqL K H b [.int x, .int y, .int z] := .inl (.inl hb)
    refine ⟨.ref b, rfl, b, _, 0, .int x, rfl, rfl, hS, atI_nat (j := 0) rfl, x, 0, rfl, rfl, _, rfl, ite2 (fun e => ?_) (fun e => ?_)⟩
    · -- the number itself serves
      refine ⟨.ref b, rfl, b, _, 0, .int x, rfl, rfl, hS, atI_nat (j := 0) rfl, .int s, rfl, x, s, rfl, rfl, hs, ?_⟩
      refine ⟨.ref b, rfl, b, _, 0, .int x, rfl, rfl, hS, atI_nat (j := 0) rfl, .int s, rfl, x, s, rfl, rfl, ⟨hs, by omega⟩, .ref b, rfl, b, _, 0, 0, rfl, rfl, hb, rfl, ?_⟩
      refine ⟨_, rfl, q _ _ (Int.emod_nonneg _ (by omega)) (Int.emod_lt_of_pos _ hs) ⟨_, y, z, upd_same, ?_, hy, hy2, hz, by omega⟩ keep_upd⟩
      exact Int.ediv_nonneg hx (by omega)
    · refine ⟨.int s, rfl, 10, 7, rfl, rfl, ⟨by decide, by decide, by decide⟩, s, _, rfl, rfl, _, rfl, ite2 (fun e2 => ?_) (fun _ => ?_)⟩
      · have e3 := of_decide_eq_true e2
        have e4 : (10 : Int) ^ Int.toNat 7 = 10000000 := by decide
        rw [e4] at e3
        omega
      refine ⟨.ref b, rfl, b, _, 2, .int z, rfl, rfl, hS, atI_nat (j := 2) rfl, z, 1, rfl, rfl, .ref b, rfl, b, _, 2, 2, rfl, rfl, hb, rfl, ?_⟩
      have h2 : upd H b (.lst ([V.int x, V.int y, V.int z].set 2 (.int (z + 1)))) b = some (.lst [.int x, .int y, .int (z + 1)]) := upd_same
      have hS2 : SqL K (upd H b (.lst ([V.int x, V.int y, V.int z].set 2 (.int (z + 1))))) b [.int x, .int y, .int (z + 1)] := .inl (.inl h2)
      refine ⟨.ref b, rfl, b, _, 1, .int y, rfl, rfl, hS2, atI_nat (j := 1) rfl, .ref b, rfl, b, _, 2, .int (z + 1), rfl, rfl, hS2, atI_nat (j := 2) rfl, 48271, z + 1, rfl, rfl, .inl ⟨by decide, by decide⟩, y, _, rfl, rfl, .ref b, rfl, b, _, 2, .int (z + 1), rfl, rfl, hS2, atI_nat (j := 2) rfl, 39373, z + 1, rfl, rfl, _, _, rfl, rfl, .inr ⟨by omega, by omega⟩, _, 2147483647, rfl, rfl, (show (0 : Int) < 2147483647 by decide), ?_⟩
      have o1 : 0 ≤ (y + 48271 * (z + 1)) * (39373 + (z + 1)) % 2147483647 := Int.emod_nonneg _ (by decide)
      have o2 : (y + 48271 * (z + 1)) * (39373 + (z + 1)) % 2147483647 < 2147483647 := Int.emod_lt_of_pos _ (by decide)
      have o3 : 0 ≤ (y + 48271 * (z + 1)) * (39373 + (z + 1)) % 2147483647 % 40009 := Int.emod_nonneg _ (by decide)
      have o4 : (y + 48271 * (z + 1)) * (39373 + (z + 1)) % 2147483647 % 40009 < 40009 := Int.emod_lt_of_pos _ (by decide)
      refine ⟨_, rfl, .ref b, rfl, b, _, 2, .int (z + 1), rfl, rfl, hS2, atI_nat (j := 2) rfl, _, z + 1, rfl, rfl, .ref b, rfl, b, _, 1, .int y, rfl, rfl, hS2, atI_nat (j := 1) rfl, y, 1000003, rfl, rfl, ⟨by decide, by decide⟩, _, _, rfl, rfl, _, rfl, _, 40009, rfl, rfl, (show (0 : Int) < 40009 by decide), _, 7, rfl, rfl, _, _, rfl, rfl, .inr ⟨Int.lt_of_lt_of_le (by decide) (Int.add_le_add_right o3 7), Int.lt_trans (Int.add_lt_add_right o4 7) (by decide)⟩, _, 2147483629, rfl, rfl, (show (0 : Int) < 2147483629 by decide), ?_⟩
      refine ⟨_, rfl, _, 48271, rfl, rfl, .inr ⟨by decide, by decide⟩, _, rfl, _, _, rfl, rfl, _, 2147483587, rfl, rfl, (show (0 : Int) < 2147483587 by decide), _, 64, rfl, rfl, ⟨by decide, by decide⟩, .int s, rfl, _, s, rfl, rfl, hs, ?_⟩
      exact q _ _ (Int.emod_nonneg _ (by omega)) (Int.emod_lt_of_pos _ hs) ⟨x, y, z + 1, h2, hx, hy, hy2, by omega, by omega⟩ keep_upd
end
end Pc
namespace Pc
open PySem PySem.Spec PyProof.Rows L2 RZ
/-! ### data -/
theorem dp_ints {K : PySem.W.Frag} {H : Hp} : ∀ ns : List Int, DpAll K H (ns.map V.int) (ns.map PyData.int)
  | [] => .nil
  | n :: r => .cons (.int n) (dp_ints r)
theorem lay_ints : ∀ ns : List Int, PyData.canLayAll0 (ns.map PyData.int) = true
  | [] => rfl
  | n :: r => by
    show (PyData.canLay0 (.int n) && PyData.canLayAll0 (r.map PyData.int)) = true
    rw [lay_ints r]; rfl
theorem depth_ints : ∀ ns : List Int, PyData.depthAll (ns.map PyData.int) = 0
  | [] => rfl
  | n :: r => by
    show max (PyData.depth (.int n)) (PyData.depthAll (r.map PyData.int)) = 0
    rw [depth_ints r]; rfl
theorem shaped_list {ds : List PyData} (h : PyData.canLayAll0 ds = true) (d : PyData.depthAll ds ≤ 63) : SeqAt.shaped (.list ds) = true := by
  unfold SeqAt.shaped
  rw [Bool.and_eq_true]
  exact ⟨h, decide_eq_true (show PyData.depthAll ds + 1 ≤ 64 by omega)⟩
theorem shaped_tuple {ds : List PyData} (h : PyData.canLayAll0 ds = true) (d : PyData.depthAll ds ≤ 63) : SeqAt.shaped (.tuple ds) = true := by
  unfold SeqAt.shaped
  rw [Bool.and_eq_true]
  exact ⟨h, decide_eq_true (show PyData.depthAll ds + 1 ≤ 64 by omega)⟩
theorem shaped_ints (ns : List Int) : SeqAt.shaped (.list (ns.map PyData.int)) = true := shaped_list (lay_ints ns) (by rw [depth_ints]; decide)
theorem shaped_intsT (ns : List Int) : SeqAt.shaped (.tuple (ns.map PyData.int)) = true := shaped_tuple (lay_ints ns) (by rw [depth_ints]; decide)
/-- what a slice of a list of ints is -/
theorem cut_ints (ns : List Int) (lo hi : Option Int) : ∃ ms : List Int, cutV (ns.map V.int) lo hi = ms.map V.int ∧ ms = (ns.drop (HT.sIx ns.length 0 lo)).take (HT.sIx ns.length ns.length hi - HT.sIx ns.length 0 lo) := by
  refine ⟨_, ?_, rfl⟩
  unfold cutV
  rw [List.length_map, List.map_take, List.map_drop]
theorem map_set_int (cs : List Int) (j : Nat) (v : Int) : (cs.map V.int).set j (.int v) = (cs.set j v).map V.int := by
  rw [List.map_set]
theorem small63 {n : Nat} (h : n ≤ 63) : n ≤ sizeLine := Nat.le_trans h (by decide)
end Pc
namespace Pc
open PySem PySem.Spec PyProof.Rows L2 RZ
section
variable {P : Program} {w : World} {K : PySem.W.Frag} {mg : Str → Option Value} {base : Heap}
/-! ### the numbers of the script, the later ones added to the first -/
def spCells (K : PySem.W.Frag) : Sp := fun vs H Q _ => ∃ (a : Addr) (ns : List Int) (m : Nat), vs = [.ref a, .int m] ∧ SqL K H a (ns.map V.int) ∧ ns.length ≤ 63 ∧ 0 < m ∧ m ≤ 60 ∧
  ∀ H' p (cs : List Int), Same H H' → H p = none → H' p = some (.lst (cs.map V.int)) → 1 ≤ cs.length → cs.length ≤ m → Q (.ref p) H'
theorem ok_cells (T : Env K mg) : FnOk P w K mg base CX0 1 T.f_folded T.d_folded ["_law_script", "_law_most"] (spCells K) := by
  refine T.F_folded.ok sc_folded (fun vs H Q E h => ?_) (fun cdv A outer s H vs Q E hr h => ?_)
  · obtain ⟨a, ns, m, rfl, _⟩ := h
    rfl
  · obtain ⟨a, ns, m, rfl, hS, hn, hm, hm2, q⟩ := h
    refine ⟨_, pss_cons (ps_set (i := 2) sc_folded.nd rfl (.inl rfl) (pe_orT (pe_callTy call_list_of (by rfl) T.n_list (by decide +kernel) (pa_cons (pe_slice sl_list (pv 0) po_none (po_some (pv 1))) pa_nil)) (pe_one (pe_lst (pa_cons pe_int pa_nil)))))
      (pss_cons (ps_for PassesOwn.never rfl (pi_enum (by rfl) T.n_enumerate (pa_cons (pe_slice sl_list (pv 0) (po_some (pv 1)) (po_some pe_int)) pa_nil))
          (pg_tup rfl (pgs_cons (pg_name (i := 3) sc_folded.nd rfl (.inl rfl)) (pgs_cons (pg_name (i := 4) sc_folded.nd rfl (.inl rfl)) pgs_nil)))
        (pss_one (ps_asg (pe_op op_add (pe_ix ix_list (pv 2) (pe_op op_mod (pv 3) (pv 1)) (fun _ _ => rfl)) (pe_op op_mul (pv 4) (pe_op op_add (pv 3) pe_int)))
          (pg_sub (pv 2) (pe_op op_mod (pv 3) (pv 1)) set_list))))
      (pss_one (ps_ret (pv 2)))), ?_⟩
    obtain ⟨ms, e1, e2⟩ := cut_ints ns none (some (m : Int))
    obtain ⟨ls, e3, e4⟩ := cut_ints ns (some (m : Int)) (some 63)
    have f2 : ms.length = min m ns.length := by
      rw [e2, HT.sIx_none, HT.sIx_nat, List.length_take, List.drop_zero]
      omega
    have f4 : ls.length = ns.length - m := by
      rw [e4, HT.sIx_nat, show (63 : Int) = ((63 : Nat) : Int) from rfl, HT.sIx_nat, List.length_take, List.length_drop]
      omega
    -- the copy of the first ones
    refine ⟨.ref a, rfl, .int m, rfl, m, rfl, a, ns.map V.int, rfl, hS, fun c nc => ⟨c, _, rfl, .inl (.inl (.inl upd_same)), fun l nl => ?_⟩⟩
    rw [e1] at nl ⊢
    have s1 : Same H (upd (upd H c (.lst (ms.map V.int))) l (.lst (ms.map V.int))) := (same_new nc).trans (same_new nl)
    have nl0 : H l = none := (same_new nc).free nl
    have el0 : (upd (upd H c (.lst (ms.map V.int))) l (.lst (ms.map V.int))) l = some (.lst (ms.map V.int)) := upd_same
    revert s1 el0
    generalize upd (upd H c (.lst (ms.map V.int))) l (.lst (ms.map V.int)) = H0
    intro s1 el0
    refine ⟨!(ms.map V.int).isEmpty, .inl ⟨_, .inl (.inl el0), rfl⟩, ite2 (fun k => ?wa) (fun k => ?wb)⟩
    case' wa =>
      obtain ⟨cs0, g3, g4, g5, g6⟩ : ∃ cs0 : List Int, H0 l = some (.lst (cs0.map V.int)) ∧ 1 ≤ cs0.length ∧ cs0.length ≤ m ∧ (0 < ls.length → cs0.length = m) := by
        refine ⟨ms, el0, ?_, by omega, by omega⟩
        cases ms with
        | nil => exact absurd (show false = true from k) Bool.false_ne_true
        | cons x r => simp
      clear el0
    case' wb =>
      have hm0 : ms.length = 0 := by
        cases ms with
        | nil => rfl
        | cons x r => exact absurd rfl k
      refine ⟨by show 1 ≤ sizeLine; decide, fun l2 nl2 => ?_⟩
      have s3 := s1.trans (same_new (o := .lst [.int 0]) nl2)
      have nl3 := s1.free nl2
      have g3' : (upd H0 l2 (.lst [.int 0])) l2 = some (.lst [.int 0]) := upd_same
      clear nl0 s1 el0
      revert s3 g3'
      generalize upd H0 l2 (.lst [.int 0]) = H3
      intro s3 g3'
      clear nl2
      clear H0
      revert l2 nl3 H3 s3 g3'
      intro l nl0 H0 s1 g3'
      obtain ⟨cs0, g3, g4, g5, g6⟩ : ∃ cs0 : List Int, H0 l = some (.lst (cs0.map V.int)) ∧ 1 ≤ cs0.length ∧ cs0.length ≤ m ∧ (0 < ls.length → cs0.length = m) := ⟨[0], g3', by decide, hm, by omega⟩
    all_goals
      refine ⟨.ref a, rfl, .int m, rfl, m, rfl, _, rfl, a, ns.map V.int, rfl, s1.seq hS, fun d nd => ?_⟩
      rw [e3]
      refine ⟨d, ls.map V.int, rfl, .inl (.inl upd_same), ?_⟩
      have s2 : Same H _ := s1.trans (same_new (o := .lst (ls.map V.int)) nd)
      have ldd : l ≠ d := ne_of_none g3 nd
      refine for_it walk_enum (fun i σ H' => Same H H' ∧ H' d = some (.lst (ls.map V.int)) ∧ ∃ (y3 y4 : Option V) (cs : List Int), σ = [some (.ref a), some (.int m), some (.ref l), y3, y4] ∧ H' l = some (.lst (cs.map V.int)) ∧ cs.length = cs0.length)
        ⟨s2, upd_same, none, none, cs0, rfl, by rw [upd_ne ldd]; exact g3, rfl⟩ (fun i σ H' _ h => .inl (.inl h.2.1)) (fun i x σ H1 H2 hi h y => ?_) (fun σ H' h => ?_)
      · obtain ⟨sm, ed, y3, y4, cs, rfl, el, ecl⟩ := h
        obtain ⟨t, v1, v2, rfl, nt, rfl, g1, g2⟩ := y
        rw [List.length_map] at hi
        have ev1 : v1 = .int (i : Nat) := (Option.some.inj g1).symm
        have ev2 : v2 = .int ls[i] := by
          have g3 : (ls.map V.int)[i]? = some v2 := g2
          rw [List.getElem?_map, List.getElem?_eq_getElem hi] at g3
          exact (Option.some.inj g3).symm
        subst ev1 ev2
        have hml : cs.length = m := by omega
        have hlt : l ≠ t := ne_of_none el nt
        have hdt : d ≠ t := ne_of_none ed nt
        have elt : (upd H1 t (.tup [.int (i : Nat), .int ls[i]])) l = some (.lst (cs.map V.int)) := by rw [upd_ne hlt]; exact el
        have him : ((i : Int) % (m : Int)) = ((i % m : Nat) : Int) := by omega
        have hjm : i % m < cs.length := by rw [hml]; exact Nat.mod_lt _ hm
        have hix : ixN (cs.map V.int).length ((i : Int) % (m : Int)) = some (i % m) := by
          rw [him]
          unfold ixN
          rw [List.length_map, if_pos (by omega), if_pos (by omega)]; rfl
        refine ⟨t, _, rfl, .inl (.inl upd_same), rfl, _, _, rfl, _, _, rfl, rfl, ?_⟩
        refine ⟨.ref l, rfl, .int (i : Nat), rfl, .int m, rfl, (i : Nat), m, rfl, rfl, (show (0 : Int) < m by omega), l, _, _, .int cs[i % m], rfl, rfl, .inl (.inl elt), ?_, ?_⟩
        · unfold atI
          show (ixN (cs.map V.int).length ((i : Int) % (m : Int))).bind _ = _
          rw [hix]
          show (cs.map V.int)[i % m]? = _
          rw [List.getElem?_map, List.getElem?_eq_getElem hjm]; rfl
        refine ⟨.int ls[i], rfl, .int (i : Nat), rfl, (i : Nat), 2, rfl, rfl, ls[i], _, rfl, rfl, .inr ⟨by omega, by omega⟩, cs[i % m], _, rfl, rfl, .ref l, rfl, .int (i : Nat), rfl, .int m, rfl, (i : Nat), m, rfl, rfl, (show (0 : Int) < m by omega), l, _, _, i % m, rfl, rfl, elt, hix, ?_⟩
        refine ⟨?_, ?_, _, _, cs.set (i % m) (cs[i % m] + ls[i] * ((i : Nat) + 2)), rfl, ?_, ?_⟩
        · intro b o hb
          have nb : b ≠ l := ne_of_none hb nl0
          rw [upd_ne nb]
          exact same_new nt _ _ (sm b o hb)
        · rw [upd_ne ldd.symm, upd_ne hdt]; exact ed
        · rw [upd_same, ← map_set_int]
        · rw [List.length_set]; exact ecl
      · obtain ⟨sm, ed, y3, y4, cs, rfl, el, ecl⟩ := h
        exact ⟨.ref l, rfl, q _ l cs sm nl0 el (by omega) (by omega)⟩
end
end Pc
namespace Pc
open PySem PySem.Spec PyProof.Rows L2 RZ
/-! ### xs != [] for any items -/
def rNeNil (K : PySem.W.Frag) : R2 := fun x y H Q => ∃ a b xs, x = .ref a ∧ y = .ref b ∧ SqL K H a xs ∧ SqL K H b [] ∧ Q (.bl (!xs.isEmpty)) H
theorem op_neNil {X : Cx} (hu : X.A.units + 64 < cLine) : OpR X (compareOp .NotEq) (rNeNil X.K) := by
  intro pins s σ H x y v u Q I rx ry h
  obtain ⟨a, b, xs, rfl, rfl, h1, h2, q⟩ := h
  cases rx; cases ry
  obtain ⟨its, rv, p1, _⟩ := I.list h1
  obtain ⟨its2, rv2, p2, _⟩ := I.list h2
  have l1 := rv.length
  have l2 := rv2.length
  have hu0 : X.A.units < cLine := by omega
  cases xs with
  | nil =>
    have z1 : its.length = 0 := l1.symm
    have z2 : its2.length = 0 := l2.symm
    refine SeqAt.RcNeAt.lists (e := fun _ => true) p1.isList p2.isList (by simp [z1, z2]) hu0 (fun j j1 _ => ?_) X.prog X.w X.xe _ ?_
    · rw [List.size_toArray] at j1; omega
    · rw [List.size_toArray, z1]
      exact ⟨.bl false, H, I, rfl, q⟩
  | cons z r =>
    have z1 : its.length ≠ 0 := by rw [← l1]; simp
    have z2 : its2.length = 0 := l2.symm
    refine SeqAt.RcNeAt.lists_lengths p1.isList p2.isList (by simp [z2, z1]) hu0 X.prog X.w X.xe _ ?_
    exact ⟨.bl true, H, I, rfl, q⟩
theorem perm_erase {α : Type} : ∀ {l : List α} {i : Nat} (h : i < l.length), (l[i] :: l.eraseIdx i).Perm l
  | a :: r, 0, _ => List.Perm.refl _
  | a :: r, i + 1, h => (List.Perm.swap a (r[i]'(Nat.lt_of_succ_lt_succ h)) (r.eraseIdx i)).trans ((perm_erase (l := r) (i := i) (Nat.lt_of_succ_lt_succ h)).cons a)
/-- the place of an index that is not negative -/
theorem seq_ix {i : Int} {n : Nat} (h0 : 0 ≤ i) (h : i < n) : seqIndex? i n = some i.toNat := seqIndex_of h0 h
end Pc
namespace Pc
open PySem PySem.Spec PyProof.Rows L2 RZ
section
variable {P : Program} {w : World} {K : PySem.W.Frag} {mg : Str → Option Value} {base : Heap}
/-! ### some things in drawn order -/
def spStrewn (K : PySem.W.Frag) : Sp := fun vs H Q _ => ∃ (b a : Addr) (n : Nat) (xs : List V), vs = [.ref b, .ref a] ∧ Box (n + xs.length) H b ∧ SqL K H a xs ∧ xs.length ≤ 1000 ∧
  ∀ (H' : Hp) (p : Addr) (ys : List V), ys.Perm xs → Keep b H H' → Box n H' b → H p = none → H' p = some (.lst ys) → Q (.ref p) H'
theorem ok_strewn (T : Env K mg) : FnOk P w K mg base CX0 2 T.f_shuffled T.d_shuffled ["_law_source", "_law_some"] (spStrewn K) := by
  have GT : FnOk P w K mg base CX0 1 T.f_draw T.d_draw ["_law_source", "_law_bound"] spTake := ok_take T
  refine T.F_shuffled.ok sc_shuffled (fun vs H Q E h => ?_) (fun cdv A outer s H vs Q E hr h => ?_)
  · obtain ⟨b, a, n, xs, rfl, _⟩ := h
    rfl
  · obtain ⟨b, a, n, xs, rfl, hB, hS, hlen, q⟩ := h
    refine ⟨_, pss_cons (ps_par (by rfl) sc_shuffled.nd (i := 2) (j := 3) rfl rfl (by decide) rfl rfl (pa_cons (pe_callTy call_list_of (by rfl) T.n_list (by decide +kernel) (pa_cons (pv 1) pa_nil)) (pa_cons (pe_lst pa_nil) pa_nil)) (by rfl))
      (pss_cons (ps_while PassesOwn.never (pt_cmpR (op_neNil hr.units) (pv 2) (pe_lst pa_nil) (nomark _))
        (pss_one (ps_expr (pe_bm PySem.F.plainAttrs_list PySem.F.slot_list_append PySem.F.type_list_append mt_append (pv 3) (pa_cons
          (pe_bm PySem.F.plainAttrs_list PySem.F.slot_list_pop PySem.F.type_list_pop mt_popAt (pv 2) (pa_cons
            (pe_call GT hr (by rfl) T.g_draw T.F_draw.kp T.b_draw .nil pass0 (pa_cons (pv 0) (pa_cons (pe_callB call_len_seq (by rfl) T.n_len PySem.boot_len (pa_cons (pv 2) pa_nil)) pa_nil))) pa_nil)) pa_nil)))))
      (pss_one (ps_ret (pv 3)))), ?_⟩
    refine ⟨.ref a, rfl, a, xs, rfl, .inl hS, fun l nl => ⟨Nat.zero_le _, fun f nf => ⟨_, _, rfl, ?_⟩⟩⟩
    have s1 : Same H (upd (upd H l (.lst xs)) f (.lst [])) := (same_new nl).trans (same_new nf)
    have nf0 : H f = none := (same_new nl).free nf
    have hlf : l ≠ f := ne_of_none upd_same nf
    have hbl : b ≠ l := hB.ne_new nl
    have hbf : b ≠ f := hB.ne_new nf0
    refine ⟨fun m σ H' => ∃ left found : List V, σ = [some (.ref b), some (.ref a), some (.ref l), some (.ref f)] ∧ H' l = some (.lst left) ∧ H' f = some (.lst found) ∧ (left ++ found).Perm xs ∧ Box (n + left.length) H' b ∧ Keep b H H' ∧ left.length = m,
      ⟨xs.length, xs, [], rfl, by rw [upd_ne hlf, upd_same], upd_same, by rw [List.append_nil], hB.same s1, Keep.of_same s1, rfl⟩, fun m σ H' hW => ?_⟩
    obtain ⟨left, found, rfl, el, ef, hp, hb', hk, hm⟩ := hW
    refine ⟨.ref l, rfl, Nat.zero_le _, fun e ne => ⟨l, e, left, rfl, rfl, .inl (.inl ?_), .inl (.inl upd_same), _, rfl, ite2 (fun c => ?_) (fun c => ?_)⟩⟩
    · rw [upd_ne (ne_of_none el ne)]; exact el
    · -- one more is drawn
      have hl0 : 0 < left.length := by
        cases left with
        | nil => exact absurd c (by decide)
        | cons x r => exact Nat.succ_pos _
      have hll : left.length ≤ 1000 := by
        have := hp.length_eq
        rw [List.length_append] at this
        omega
      have el2 : (upd H' e (.lst [])) l = some (.lst left) := by rw [upd_ne (ne_of_none el ne)]; exact el
      have ef2 : (upd H' e (.lst [])) f = some (.lst found) := by rw [upd_ne (ne_of_none ef ne)]; exact ef
      refine ⟨fun σ' H2 => ∃ left' found' : List V, σ' = [some (.ref b), some (.ref a), some (.ref l), some (.ref f)] ∧ H2 l = some (.lst left') ∧ H2 f = some (.lst found') ∧ (left' ++ found').Perm xs ∧ Box (n + left'.length) H2 b ∧ Keep b H H2 ∧ left'.length + 1 = m,
        fun σ' H2 h2 => ?_, ?_⟩
      · obtain ⟨left', found', g1, g2, g3, g4, g5, g6, g7⟩ := h2
        exact ⟨left'.length, by omega, left', found', g1, g2, g3, g4, g5, g6, rfl⟩
      · refine ⟨.ref f, rfl, .inl ⟨rfl, _, .inl (.inl ef2)⟩, .ref l, rfl, .inl ⟨rfl, _, .inl (.inl el2)⟩, .ref b, rfl, .ref l, rfl, l, left, rfl, .inl (.inl (.inl el2)), ?_⟩
        refine ⟨b, n + (left.length - 1), left.length, rfl, (hb'.same (same_new ne)).mono (by omega), by omega, by omega, fun r H2 r0 r1 hb2 k2 => ?_⟩
        have el3 : H2 l = some (.lst left) := k2 l _ hbl.symm el2
        have ef3 : H2 f = some (.lst found) := k2 f _ hbf.symm ef2
        have hj : r.toNat < left.length := by omega
        refine ⟨l, left, r, r.toNat, left[r.toNat], rfl, rfl, el3, by omega, by omega, seq_ix r0 r1, List.getElem?_eq_getElem hj, ?_⟩
        have ef4 : (upd H2 l (.lst (left.eraseIdx r.toNat))) f = some (.lst found) := by rw [upd_ne hlf.symm]; exact ef3
        have hfl : found.length ≤ 1000 := by
          have := hp.length_eq
          rw [List.length_append] at this
          omega
        refine ⟨f, found, _, rfl, rfl, ef4, small1000 hfl, left.eraseIdx r.toNat, found ++ [left[r.toNat]], rfl, ?_, upd_same, ?_, ?_, ?_, ?_⟩
        · rw [upd_ne hlf, upd_same]
        · refine List.Perm.trans ?_ hp
          have p1 : (left[r.toNat] :: left.eraseIdx r.toNat).Perm left := perm_erase hj
          have p2 : (left.eraseIdx r.toNat ++ (found ++ [left[r.toNat]])).Perm (left[r.toNat] :: left.eraseIdx r.toNat ++ found) := by
            rw [← List.append_assoc]
            exact List.perm_append_comm.trans (by rw [List.singleton_append, List.cons_append])
          exact p2.trans (p1.append_right found)
        · have : (left.eraseIdx r.toNat).length = left.length - 1 := List.length_eraseIdx_of_lt hj
          rw [this]
          refine (hb2.keep (c := l) keep_upd hbl).keep (c := f) keep_upd hbf
        · intro x o nx hx
          have nxl : x ≠ l := ne_of_none hx nl
          have nxf : x ≠ f := ne_of_none hx nf0
          rw [upd_ne nxf, upd_ne nxl]
          exact k2 x o nx (same_new ne _ _ (hk x o nx hx))
        · rw [List.length_eraseIdx_of_lt hj]; omega
    · have hl0 : left = [] := by
        cases left with
        | nil => rfl
        | cons x r => exact absurd rfl c
      subst hl0
      have ef2 : (upd H' e (.lst [])) f = some (.lst found) := by rw [upd_ne (ne_of_none ef ne)]; exact ef
      exact ⟨.ref f, rfl, q _ f found hp (hk.trans (Keep.of_same (same_new ne))) (hb'.same (same_new ne)) nf0 ef2⟩
end
end Pc
namespace Pc
open PySem PySem.Spec PyProof.Rows L2 RZ
/-! ### pairings as lists of natural numbers -/
/-- the numbers as values -/
def nv (l : List Nat) : List V := l.map fun (i : Nat) => V.int (i : Int)
theorem nv_length (l : List Nat) : (nv l).length = l.length := List.length_map _
theorem nv_get {l : List Nat} {i x : Nat} (h : l[i]? = some x) : (nv l)[i]? = some (.int x) := by
  unfold nv; rw [List.getElem?_map, h]; rfl
theorem nv_at {l : List Nat} {i x : Nat} (h : l[i]? = some x) : atI (nv l) (i : Int) = some (.int x) := atI_nat (nv_get h)
theorem nv_set (l : List Nat) (i x : Nat) : (nv l).set i (.int (x : Int)) = nv (l.set i x) := by
  unfold nv; rw [List.map_set]
theorem nv_get' {l : List Nat} {i : Nat} {v : V} (h : (nv l)[i]? = some v) : ∃ x, l[i]? = some x ∧ v = .int (x : Int) := by
  unfold nv at h
  rw [List.getElem?_map] at h
  cases e : l[i]? with
  | none => rw [e] at h; cases h
  | some x => rw [e] at h; exact ⟨x, rfl, (Option.some.inj h).symm⟩
theorem ixN_nat {n i : Nat} (h : i < n) : ixN n (i : Int) = some i := by
  unfold ixN
  rw [if_pos (by omega), if_pos (by omega)]; rfl
theorem get_some {α : Type} {l : List α} {i : Nat} (h : i < l.length) : ∃ x, l[i]? = some x := ⟨_, List.getElem?_eq_getElem h⟩
theorem get_lt {α : Type} {l : List α} {i : Nat} {x : α} (h : l[i]? = some x) : i < l.length := (List.getElem?_eq_some_iff.mp h).1
/-- a pairing of n people -/
structure IsPair (n : Nat) (ps : List Nat) : Prop where
  len : ps.length = n
  par : ∀ x, x < n → ∃ y, ps[x]? = some y ∧ y < n ∧ y ≠ x ∧ ps[y]? = some x
/-- after t turns: the first t pairs are joined -/
def PInv (os fs : List Nat) (t : Nat) : Prop := fs.length = os.length ∧ ∀ j, j < t → ∀ x y, os[2 * j]? = some x → os[2 * j + 1]? = some y → fs[x]? = some y ∧ fs[y]? = some x
theorem PInv.step {os fs : List Nat} {t x y : Nat} (hnd : os.Nodup) (hlt : ∀ z ∈ os, z < os.length) (h : PInv os fs t) (hx : os[2 * t]? = some x) (hy : os[2 * t + 1]? = some y) :
    PInv os ((fs.set x y).set y x) (t + 1) := by
  obtain ⟨hl, hp⟩ := h
  have xl : x < fs.length := by rw [hl]; exact hlt x (List.mem_of_getElem? hx)
  have yl : y < fs.length := by rw [hl]; exact hlt y (List.mem_of_getElem? hy)
  have xy : x ≠ y := fun e => by
    subst e
    have := nd_ix hnd hx hy
    omega
  refine ⟨by rw [List.length_set, List.length_set, hl], fun j hj u v hu hv => ?_⟩
  by_cases e : j = t
  · subst e
    have e1 : u = x := Option.some.inj (hu.symm.trans hx)
    have e2 : v = y := Option.some.inj (hv.symm.trans hy)
    subst e1 e2
    refine ⟨?_, ?_⟩
    · rw [List.getElem?_set_ne (Ne.symm xy), List.getElem?_set_self xl]
    · rw [List.getElem?_set_self (by rw [List.length_set]; exact yl)]
  · obtain ⟨h1, h2⟩ := hp j (by omega) u v hu hv
    have a1 : x ≠ u := fun z => by subst z; have := nd_ix hnd hx hu; omega
    have a2 : y ≠ u := fun z => by subst z; have := nd_ix hnd hy hu; omega
    have a3 : x ≠ v := fun z => by subst z; have := nd_ix hnd hx hv; omega
    have a4 : y ≠ v := fun z => by subst z; have := nd_ix hnd hy hv; omega
    refine ⟨?_, ?_⟩
    · rw [List.getElem?_set_ne a2, List.getElem?_set_ne a1]; exact h1
    · rw [List.getElem?_set_ne a4, List.getElem?_set_ne a3]; exact h2
theorem PInv.done {os fs : List Nat} {n : Nat} (hp : os.Perm (List.range n)) (he : n % 2 = 0) (h : PInv os fs (n / 2)) : IsPair n fs := by
  have hl : os.length = n := by rw [hp.length_eq, List.length_range]
  have hnd : os.Nodup := hp.nodup_iff.mpr List.nodup_range
  refine ⟨by rw [h.1, hl], fun x hx => ?_⟩
  have hm : x ∈ os := hp.mem_iff.mpr (List.mem_range.mpr hx)
  obtain ⟨i, hi, ei⟩ := List.mem_iff_getElem.mp hm
  have gi : os[i]? = some x := by rw [List.getElem?_eq_getElem hi, ei]
  have lt_n : ∀ {k z : Nat}, os[k]? = some z → z < n := fun {k z} hz => List.mem_range.mp (hp.mem_iff.mp (List.mem_of_getElem? hz))
  by_cases hq : i % 2 = 0
  · have i1 : i + 1 < os.length := by omega
    obtain ⟨y, gy⟩ := get_some i1
    have g1 : os[2 * (i / 2)]? = some x := by rw [show 2 * (i / 2) = i by omega]; exact gi
    have g2 : os[2 * (i / 2) + 1]? = some y := by rw [show 2 * (i / 2) + 1 = i + 1 by omega]; exact gy
    obtain ⟨r1, r2⟩ := h.2 (i / 2) (by omega) x y g1 g2
    exact ⟨y, r1, lt_n gy, fun e => by subst e; have := nd_ix hnd gi gy; omega, r2⟩
  · have i1 : i - 1 < os.length := by omega
    obtain ⟨y, gy⟩ := get_some i1
    have g1 : os[2 * (i / 2)]? = some y := by rw [show 2 * (i / 2) = i - 1 by omega]; exact gy
    have g2 : os[2 * (i / 2) + 1]? = some x := by rw [show 2 * (i / 2) + 1 = i by omega]; exact gi
    obtain ⟨r1, r2⟩ := h.2 (i / 2) (by omega) y x g1 g2
    exact ⟨y, r2, lt_n gy, fun e => by subst e; have := nd_ix hnd gi gy; omega, r1⟩
/-- range(0, n, 2) -/
theorem fits_long {i : Int} (h1 : -(2 ^ 62) ≤ i) (h2 : i < 2 ^ 62) : Builtin.Range.rangeFitsLong i = true := by
  unfold Builtin.Range.rangeFitsLong
  rw [Bool.and_eq_true]
  exact ⟨decide_eq_true (by omega), decide_eq_true (by omega)⟩
theorem rgc_two {n : Nat} (h : n ≤ 1000000) : RgC 0 (n : Int) 2 ((n + 1) / 2) := by
  have e : Builtin.Range.rangeSize 0 (n : Int) 2 = (((n + 1) / 2 : Nat) : Int) := by
    unfold Builtin.Range.rangeSize
    rw [if_pos (by decide)]
    split <;> omega
  refine ⟨by decide, by decide, ?_, e⟩
  unfold Builtin.Range.small
  rw [e, fits_long (i := 0) (by decide) (by decide), fits_long (i := (n : Int)) (by omega) (by omega), fits_long (i := 2) (by decide) (by decide), fits_long (i := (((n + 1) / 2 : Nat) : Int)) (by omega) (by omega), if_pos (by decide), fits_long (i := (n : Int) + (2 - 1)) (by omega) (by omega), Bool.or_true]
  rfl
theorem rep_flat {α : Type} (n : Nat) (x : α) : (List.replicate n [x]).flatten = List.replicate n x := by
  induction n with
  | zero => rfl
  | succ n ih => rw [List.replicate_succ, List.flatten_cons, ih, List.replicate_succ]; rfl
end Pc
namespace Pc
open PySem PySem.Spec PyProof.Rows L2 RZ
theorem perm_map_inv {α β : Type} (f : α → β) {zs ys : List β} (h : zs.Perm ys) : ∀ l : List α, zs = l.map f → ∃ l' : List α, ys = l'.map f ∧ l'.Perm l := by
  induction h with
  | nil => exact fun l e => ⟨l, e, List.Perm.refl _⟩
  | cons x _ ih =>
    intro l e
    cases l with
    | nil => cases e
    | cons a r =>
      injection e with e1 e2
      obtain ⟨l', h1, h2⟩ := ih r e2
      exact ⟨a :: l', by rw [h1, e1]; rfl, h2.cons a⟩
  | swap x y t =>
    intro l e
    cases l with
    | nil => cases e
    | cons a r =>
      cases r with
      | nil => injection e with _ e2; cases e2
      | cons b r =>
        injection e with e1 e2
        injection e2 with e2 e3
        exact ⟨b :: a :: r, by rw [e1, e2, e3]; rfl, List.Perm.swap _ _ _⟩
  | trans _ _ ih1 ih2 =>
    intro l e
    obtain ⟨l1, h1, h2⟩ := ih1 l e
    obtain ⟨l2, h3, h4⟩ := ih2 l1 h1
    exact ⟨l2, h3, h4.trans h2⟩
theorem rg_nv (n : Nat) : rgV 0 (n : Int) = nv (List.range n) := by
  unfold rgV nv
  rw [Int.sub_zero, Int.toNat_natCast]
  refine List.map_congr_left fun i _ => ?_
  rw [Int.zero_add]
end Pc
namespace Pc
open PySem PySem.Spec PyProof.Rows L2 RZ
section
variable {P : Program} {w : World} {K : PySem.W.Frag} {mg : Str → Option Value} {base : Heap}
/-! ### a drawn pairing -/
def spRandom : Sp := fun vs H Q _ => ∃ (b : Addr) (n k : Nat), vs = [.ref b, .int k] ∧ Box (n + k) H b ∧ k % 2 = 0 ∧ k ≤ 1000 ∧
  ∀ (H' : Hp) (p : Addr) (ps : List Nat), IsPair k ps → Keep b H H' → Box n H' b → H p = none → H' p = some (.tup (nv ps)) → Q (.ref p) H'
theorem ok_random (T : Env K mg) : FnOk P w K mg base CX0 3 T.f_random_pairing T.d_random_pairing ["_law_source", "_law_crowd"] spRandom := by
  have GS : FnOk P w K mg base CX0 2 T.f_shuffled T.d_shuffled ["_law_source", "_law_some"] (spStrewn K) := ok_strewn T
  refine T.F_random_pairing.ok sc_random_pairing (fun vs H Q E h => ?_) (fun cdv A outer s H vs Q E hr h => ?_)
  · obtain ⟨b, n, k, rfl, _⟩ := h
    rfl
  · obtain ⟨b0, m, n, rfl, hB, he, hn, q⟩ := h
    refine ⟨_, pss_cons (ps_par (by rfl) sc_random_pairing.nd (i := 2) (j := 3) rfl rfl (by decide) rfl rfl (pa_cons (pe_call GS hr (by rfl) T.g_shuffled T.F_shuffled.kp T.b_shuffled .nil pass0 (pa_cons (pv 0) (pa_cons (pe_listRg rfl (by rfl) T.n_list (prg_1 (by rfl) T.n_range (pv 1))) pa_nil)))
        (pa_cons (pe_op op_rep (pe_lst (pa_cons pe_int pa_nil)) (pv 1)) pa_nil)) (by rfl)) <|
      pss_cons (ps_for PassesOwn.never rfl (pi_range3 rfl T.n_range (pa_cons pe_int (pa_cons (pv 1) (pa_cons pe_int pa_nil))))
          (pg_name (i := 4) sc_random_pairing.nd rfl (.inl rfl))
        (pss_one (ps_asg (pe_tup (pa_cons (pe_ix ix_list (pv 2) (pe_op op_add (pv 4) pe_int) (fun _ _ => rfl)) (pa_cons (pe_ix ix_list (pv 2) (pv 4) (fun _ _ => rfl)) pa_nil)))
          (pg_tup rfl (pgs_cons (pg_sub (pv 3) (pe_ix ix_list (pv 2) (pv 4) (fun _ _ => rfl)) set_list) (pgs_cons (pg_sub (pv 3) (pe_ix ix_list (pv 2) (pe_op op_add (pv 4) pe_int) (fun _ _ => rfl)) set_list) pgs_nil)))))) <|
      pss_one (ps_ret (pe_callTy call_tuple_of (by rfl) T.n_tuple (by decide +kernel) (pa_cons (pv 3) pa_nil))), ?_⟩
    refine ⟨.ref b0, rfl, .int n, rfl, n, rfl, RgOk.of_le (by decide) (by omega) (by decide) (by omega), fun rl nrl => ?_⟩
    have sr : Same H _ := same_new (o := .lst (rgV 0 (n : Int))) nrl
    have hrl : (rgV 0 (n : Int)).length = n := by rw [rgV_length]; omega
    refine ⟨b0, rl, m, _, rfl, (hB.same sr).mono (by rw [hrl]; exact Nat.le_refl _), .inl (.inl upd_same), by rw [hrl]; exact hn, fun H1 a ys hpy hk2 hB1 na0 ea0 => ?_⟩
    obtain ⟨os, ee1, hp⟩ := perm_map_inv (fun (i : Nat) => V.int (i : Int)) hpy.symm (List.range n) (rg_nv n)
    have ea1 : H1 a = some (.lst (nv os)) := by rw [ea0, ee1]; rfl
    have hS : SqL K H1 a (nv os) := .inl (.inl ea1)
    have kk : Keep b0 H H1 := (Keep.of_same sr).trans hk2
    have hl : os.length = n := by rw [hp.length_eq, List.length_range]
    have hl2 : (nv os).length = n := by rw [nv_length, hl]
    have hnd : os.Nodup := hp.nodup_iff.mpr List.nodup_range
    have hlt : ∀ z ∈ os, z < os.length := fun z hz => by rw [hl]; exact List.mem_range.mp (hp.mem_iff.mp hz)
    refine ⟨by show 1 ≤ sizeLine; decide, fun e ne => ?_⟩
    have s0 : Same H1 (upd H1 e (.lst [.int 0])) := same_new ne
    refine ⟨.int n, rfl, e, _, [.int 0], rfl, rfl, upd_same, by omega, by omega, ?_, fun f nf => ⟨_, _, rfl, ?_⟩⟩
    · show 1 * Int.toNat (n : Int) ≤ sizeLine
      exact Nat.le_of_lt (small1000 (by omega))
    have s1 : Same H1 _ := s0.trans (same_new (o := .lst (List.replicate ((n : Nat) : Int).toNat [V.int 0]).flatten) nf)
    have nf0 : H1 f = none := s0.free nf
    have e0 : (List.replicate ((n : Nat) : Int).toNat [V.int 0]).flatten = nv (List.replicate n 0) := by
      rw [rep_flat, Int.toNat_natCast]
      unfold nv
      rw [List.map_replicate]; rfl
    have ef0 : (upd (upd H1 e (.lst [.int 0])) f (.lst (List.replicate ((n : Nat) : Int).toNat [V.int 0]).flatten)) f = some (.lst (nv (List.replicate n 0))) := by rw [upd_same, e0]
    refine ⟨.int n, rfl, 0, _, 2, n / 2, rfl, ?_, ?_⟩
    · have := rgc_two (n := n) (by omega)
      rw [show (n + 1) / 2 = n / 2 by omega] at this
      exact this
    refine for_rangeC (fun t σ H' => Same H1 H' ∧ ∃ (y : Option V) (fs : List Nat), σ = [some (.ref b0), some (.int n), some (.ref a), some (.ref f), y] ∧ H' f = some (.lst (nv fs)) ∧ PInv os fs t)
      ⟨s1, none, List.replicate n 0, rfl, ef0, by rw [List.length_replicate, hl], fun j hj => absurd hj (Nat.not_lt_zero _)⟩ (fun t σ H' ht h => ?_) (fun σ H' h => ?_)
    · obtain ⟨sm, y, fs, rfl, ef, pi⟩ := h
      obtain ⟨x1, g1⟩ := get_some (l := os) (i := 2 * t) (by omega)
      obtain ⟨x2, g2⟩ := get_some (l := os) (i := 2 * t + 1) (by omega)
      have hS' : SqL K H' a (nv os) := sm.seq hS
      have ea : atI (nv os) ((0 : Int) + (t : Nat) * 2) = some (.int x1) := by
        rw [show (0 : Int) + (t : Nat) * 2 = ((2 * t : Nat) : Int) by omega]; exact nv_at g1
      have eb : atI (nv os) ((0 : Int) + (t : Nat) * 2 + 1) = some (.int x2) := by
        rw [show (0 : Int) + (t : Nat) * 2 + 1 = ((2 * t + 1 : Nat) : Int) by omega]; exact nv_at g2
      have l1 : x1 < fs.length := by rw [pi.1]; exact hlt _ (List.mem_of_getElem? g1)
      have l2 : x2 < fs.length := by rw [pi.1]; exact hlt _ (List.mem_of_getElem? g2)
      refine ⟨.ref a, rfl, _, rfl, _, 1, rfl, rfl, a, _, _, _, rfl, rfl, hS', eb, .ref a, rfl, _, rfl, a, _, _, _, rfl, rfl, hS', ea, by show 2 ≤ sizeLine; decide, fun tp nt => ?_⟩
      have st : Same H' (upd H' tp (.tup [.int x2, .int x1])) := same_new nt
      have eft : (upd H' tp (.tup [.int x2, .int x1])) f = some (.lst (nv fs)) := st _ _ ef
      have nft : f ≠ tp := ne_of_none ef nt
      refine ⟨tp, _, rfl, .inl (.inl upd_same), rfl, _, _, rfl, .ref f, rfl, .ref a, rfl, _, rfl, a, _, _, _, rfl, rfl, st.seq hS', ea, f, _, _, x1, rfl, rfl, eft, ixN_nat (by rw [nv_length]; exact l1), ?_⟩
      have sq : SqL K (upd (upd H' tp (.tup [.int x2, .int x1])) f (.lst ((nv fs).set x1 (.int x2)))) a (nv os) := by
        have : ∀ b o, H1 b = some o → (upd (upd H' tp (.tup [.int x2, .int x1])) f (.lst ((nv fs).set x1 (.int x2)))) b = some o := fun b o hb => by
          rw [upd_ne (ne_of_none hb nf0)]; exact st _ _ (sm _ _ hb)
        exact Same.seq this hS
      refine ⟨_, _, rfl, .ref f, rfl, .ref a, rfl, _, rfl, _, 1, rfl, rfl, a, _, _, _, rfl, rfl, sq, eb, f, _, _, x2, rfl, rfl, upd_same, ?_, ?_⟩
      · rw [List.length_set]; exact ixN_nat (by rw [nv_length]; exact l2)
      · refine ⟨rfl, fun b o hb => ?_, _, (fs.set x1 x2).set x2 x1, rfl, ?_, pi.step hnd hlt g1 g2⟩
        · rw [upd_ne (ne_of_none hb nf0), upd_ne (ne_of_none hb nf0)]; exact st _ _ (sm _ _ hb)
        · rw [upd_same, nv_set, nv_set]
    · obtain ⟨sm, y, fs, rfl, ef, pi⟩ := h
      refine ⟨.ref f, rfl, f, _, rfl, .inl ⟨.inl (.inl ef), fun p np => ?_⟩⟩
      have sp := sm.trans (same_new (o := .tup (nv fs)) np)
      refine q _ p fs (pi.done hp he) (kk.trans (Keep.of_same sp)) (hB1.same sp) ?_ upd_same
      have np1 : H1 p = none := sm.free np
      cases e : H p with
      | none => rfl
      | some o =>
        by_cases hb : p = b0
        · subst hb
          obtain ⟨y, hy⟩ := hB1.lst
          rw [hy] at np1; cases np1
        · rw [kk p o hb e] at np1; cases np1
end
end Pc
namespace Pc
open PySem PySem.Spec PyProof.Rows L2 RZ
/-- the first k of a list of numbers, as a slice -/
theorem cut_head (l : List Nat) (k : Nat) : cutV (nv l) none (some (k : Int)) = nv (l.take k) := by
  unfold cutV nv
  rw [HT.sIx_none, HT.sIx_nat, List.drop_zero, List.length_map, Nat.sub_zero, List.map_take]
  by_cases h : k ≤ l.length
  · rw [Nat.min_eq_left h]
  · rw [Nat.min_eq_right (by omega), List.take_of_length_le (by rw [List.length_map]; omega), List.take_of_length_le (by rw [List.length_map]; omega)]
theorem keep_none {b p : Addr} {k : Nat} {H H' : Hp} (hk : Keep b H H') (hB : Box k H' b) (h : H' p = none) : H p = none := by
  cases e : H p with
  | none => rfl
  | some o =>
    by_cases hb : p = b
    · subst hb
      obtain ⟨y, hy⟩ := hB.lst
      rw [hy] at h; cases h
    · rw [hk p o hb e] at h; cases h
end Pc
namespace Pc
open PySem PySem.Spec PyProof.Rows L2 RZ
/-! ### data where more is tracked -/
theorem same_tup {K : PySem.W.Frag} {H H' : Hp} {a : Addr} {xs : List V} (e : Same H H') (h : SqT K H a xs) : SqT K H' a xs := by
  rcases h with (h | ⟨o, h⟩) | h
  · exact .inl (.inl (e _ _ h))
  · exact .inl (.inr ⟨o, e _ _ h⟩)
  · exact .inr h
mutual
theorem dp_same {K : PySem.W.Frag} {H H' : Hp} (e : Same H H') : ∀ {v : V} {d : PyData}, Dp K H v d → Dp K H' v d
  | _, _, .non => .non
  | _, _, .bl b => .bl b
  | _, _, .int i => .int i
  | _, _, .str x => .str x
  | _, _, .lst h a => .lst (e.seq h) (dpa_same e a)
  | _, _, .tup h a => .tup (same_tup e h) (dpa_same e a)
theorem dpa_same {K : PySem.W.Frag} {H H' : Hp} (e : Same H H') : ∀ {vs : List V} {ds : List PyData}, DpAll K H vs ds → DpAll K H' vs ds
  | _, _, .nil => .nil
  | _, _, .cons h a => .cons (dp_same e h) (dpa_same e a)
end
theorem dpa_len {K : PySem.W.Frag} {H : Hp} : ∀ {vs : List V} {ds : List PyData}, DpAll K H vs ds → vs.length = ds.length
  | _, _, .nil => rfl
  | _, _, .cons _ a => by rw [List.length_cons, List.length_cons, dpa_len a]
theorem dpa_get {K : PySem.W.Frag} {H : Hp} : ∀ {vs : List V} {ds : List PyData} {i : Nat} {v : V}, DpAll K H vs ds → vs[i]? = some v → ∃ d, ds[i]? = some d ∧ Dp K H v d
  | _, _, _, _, .nil, h => by simp at h
  | _, _, 0, _, .cons (d := d) h _, e => by
    cases Option.some.inj e
    exact ⟨d, rfl, h⟩
  | _, _, i + 1, v, .cons _ a, e => dpa_get (i := i) a e
theorem depth_get : ∀ {ds : List PyData} {i : Nat} {d : PyData}, ds[i]? = some d → d.depth ≤ PyData.depthAll ds
  | [], _, _, h => by simp at h
  | d :: r, 0, _, h => by
    cases Option.some.inj h
    exact Nat.le_max_left _ _
  | d :: r, i + 1, x, h => Nat.le_trans (depth_get (i := i) (ds := r) h) (Nat.le_max_right _ _)
mutual
/-- no list in it is longer than a hundred thousand -/
def narrow : PyData → Prop
  | .list xs => xs.length ≤ 100000 ∧ narrowAll xs
  | .tuple xs => xs.length ≤ 100000 ∧ narrowAll xs
  | _ => True
def narrowAll : List PyData → Prop
  | [] => True
  | x :: xs => narrow x ∧ narrowAll xs
end
theorem narrow_get : ∀ {ds : List PyData} {i : Nat} {d : PyData}, narrowAll ds → ds[i]? = some d → narrow d
  | [], _, _, _, h => by simp at h
  | d :: r, 0, _, n, h => by
    cases Option.some.inj h
    exact n.1
  | d :: r, i + 1, x, n, h => narrow_get (i := i) (ds := r) n.2 h
theorem narrow_of : ∀ {ds : List PyData}, (∀ d ∈ ds, narrow d) → narrowAll ds
  | [], _ => trivial
  | d :: r, h => ⟨h d List.mem_cons_self, narrow_of fun x hx => h x (List.mem_cons_of_mem _ hx)⟩
theorem narrow_ints (ns : List Int) : narrowAll (ns.map PyData.int) := narrow_of fun d hd => by
  obtain ⟨i, _, rfl⟩ := List.mem_map.mp hd
  exact trivial
theorem line_big {n : Nat} (h : n ≤ 100000) : n < sizeLine := Nat.lt_of_le_of_lt h (by decide)
theorem ty_lst {K : PySem.W.Frag} {H : Hp} {a : Addr} {xs : List V} (h : SqL K H a xs) : TyX K H (.ref a) (.type "list") := by
  rcases h with (h | ⟨o, h⟩) | ⟨o, its, n, h, c, _⟩
  · exact .base (.lst h)
  · exact .base (.frz h)
  · exact .kList h c
theorem ty_tup {K : PySem.W.Frag} {H : Hp} {a : Addr} {xs : List V} (h : SqT K H a xs) : TyX K H (.ref a) (.type "tuple") := by
  rcases h with (h | ⟨o, h⟩) | ⟨o, its, n, h, c, _⟩
  · exact .base (.tup h)
  · exact .fTuple h
  · exact .kTuple h c
theorem kit2 {K : PySem.W.Frag} {t a b : String} {p q : Bool} (h1 : kitB t a = some p) (h2 : kitB t b = some q) : PySem.W.kitAny K (.type t) [.type a, .type b] = some (p || q) := by
  refine kitAny_cons (kit_ty h1) (fun e => kitAny_cons (kit_ty h2) (fun e2 => ?_) (fun e2 => ?_)) (fun e => ?_)
  · subst e e2; rfl
  · subst e e2; rfl
  · subst e; rfl
section
variable {K : PySem.W.Frag}
theorem any_lt_int : PySem.W.kitAny K (.type "int") [.type "list", .type "tuple"] = some false := kit2 (p := false) (q := false) (by decide +kernel) (by decide +kernel)
theorem any_sb_int : PySem.W.kitAny K (.type "int") [.type "str", .type "bool"] = some false := kit2 (p := false) (q := false) (by decide +kernel) (by decide +kernel)
theorem any_bs_int : PySem.W.kitAny K (.type "int") [.type "bool", .type "str"] = some false := kit2 (p := false) (q := false) (by decide +kernel) (by decide +kernel)
theorem one_int_int : PySem.W.kitOne K (.type "int") (.type "int") = some true := kit_ty (by decide +kernel)
theorem one_int_bool : PySem.W.kitOne K (.type "int") (.type "bool") = some false := kit_ty (by decide +kernel)
theorem one_int_list : PySem.W.kitOne K (.type "int") (.type "list") = some false := kit_ty (by decide +kernel)
theorem one_int_tuple : PySem.W.kitOne K (.type "int") (.type "tuple") = some false := kit_ty (by decide +kernel)
theorem any_lt_none : PySem.W.kitAny K (.type "NoneType") [.type "list", .type "tuple"] = some false := kit2 (p := false) (q := false) (by decide +kernel) (by decide +kernel)
theorem any_sb_none : PySem.W.kitAny K (.type "NoneType") [.type "str", .type "bool"] = some false := kit2 (p := false) (q := false) (by decide +kernel) (by decide +kernel)
theorem any_bs_none : PySem.W.kitAny K (.type "NoneType") [.type "bool", .type "str"] = some false := kit2 (p := false) (q := false) (by decide +kernel) (by decide +kernel)
theorem one_none_int : PySem.W.kitOne K (.type "NoneType") (.type "int") = some false := kit_ty (by decide +kernel)
theorem one_none_bool : PySem.W.kitOne K (.type "NoneType") (.type "bool") = some false := kit_ty (by decide +kernel)
theorem one_none_list : PySem.W.kitOne K (.type "NoneType") (.type "list") = some false := kit_ty (by decide +kernel)
theorem one_none_tuple : PySem.W.kitOne K (.type "NoneType") (.type "tuple") = some false := kit_ty (by decide +kernel)
theorem any_lt_bool : PySem.W.kitAny K (.type "bool") [.type "list", .type "tuple"] = some false := kit2 (p := false) (q := false) (by decide +kernel) (by decide +kernel)
theorem any_sb_bool : PySem.W.kitAny K (.type "bool") [.type "str", .type "bool"] = some true := kit2 (p := false) (q := true) (by decide +kernel) (by decide +kernel)
theorem any_bs_bool : PySem.W.kitAny K (.type "bool") [.type "bool", .type "str"] = some true := kit2 (p := true) (q := false) (by decide +kernel) (by decide +kernel)
theorem one_bool_int : PySem.W.kitOne K (.type "bool") (.type "int") = some true := kit_ty (by decide +kernel)
theorem one_bool_bool : PySem.W.kitOne K (.type "bool") (.type "bool") = some true := kit_ty (by decide +kernel)
theorem one_bool_list : PySem.W.kitOne K (.type "bool") (.type "list") = some false := kit_ty (by decide +kernel)
theorem one_bool_tuple : PySem.W.kitOne K (.type "bool") (.type "tuple") = some false := kit_ty (by decide +kernel)
theorem any_lt_str : PySem.W.kitAny K (.type "str") [.type "list", .type "tuple"] = some false := kit2 (p := false) (q := false) (by decide +kernel) (by decide +kernel)
theorem any_sb_str : PySem.W.kitAny K (.type "str") [.type "str", .type "bool"] = some true := kit2 (p := true) (q := false) (by decide +kernel) (by decide +kernel)
theorem any_bs_str : PySem.W.kitAny K (.type "str") [.type "bool", .type "str"] = some true := kit2 (p := false) (q := true) (by decide +kernel) (by decide +kernel)
theorem one_str_int : PySem.W.kitOne K (.type "str") (.type "int") = some false := kit_ty (by decide +kernel)
theorem one_str_bool : PySem.W.kitOne K (.type "str") (.type "bool") = some false := kit_ty (by decide +kernel)
theorem one_str_list : PySem.W.kitOne K (.type "str") (.type "list") = some false := kit_ty (by decide +kernel)
theorem one_str_tuple : PySem.W.kitOne K (.type "str") (.type "tuple") = some false := kit_ty (by decide +kernel)
theorem any_lt_list : PySem.W.kitAny K (.type "list") [.type "list", .type "tuple"] = some true := kit2 (p := true) (q := false) (by decide +kernel) (by decide +kernel)
theorem any_sb_list : PySem.W.kitAny K (.type "list") [.type "str", .type "bool"] = some false := kit2 (p := false) (q := false) (by decide +kernel) (by decide +kernel)
theorem any_bs_list : PySem.W.kitAny K (.type "list") [.type "bool", .type "str"] = some false := kit2 (p := false) (q := false) (by decide +kernel) (by decide +kernel)
theorem one_list_int : PySem.W.kitOne K (.type "list") (.type "int") = some false := kit_ty (by decide +kernel)
theorem one_list_bool : PySem.W.kitOne K (.type "list") (.type "bool") = some false := kit_ty (by decide +kernel)
theorem one_list_list : PySem.W.kitOne K (.type "list") (.type "list") = some true := kit_ty (by decide +kernel)
theorem one_list_tuple : PySem.W.kitOne K (.type "list") (.type "tuple") = some false := kit_ty (by decide +kernel)
theorem any_lt_tuple : PySem.W.kitAny K (.type "tuple") [.type "list", .type "tuple"] = some true := kit2 (p := false) (q := true) (by decide +kernel) (by decide +kernel)
theorem any_sb_tuple : PySem.W.kitAny K (.type "tuple") [.type "str", .type "bool"] = some false := kit2 (p := false) (q := false) (by decide +kernel) (by decide +kernel)
theorem any_bs_tuple : PySem.W.kitAny K (.type "tuple") [.type "bool", .type "str"] = some false := kit2 (p := false) (q := false) (by decide +kernel) (by decide +kernel)
theorem one_tuple_int : PySem.W.kitOne K (.type "tuple") (.type "int") = some false := kit_ty (by decide +kernel)
theorem one_tuple_bool : PySem.W.kitOne K (.type "tuple") (.type "bool") = some false := kit_ty (by decide +kernel)
theorem one_tuple_list : PySem.W.kitOne K (.type "tuple") (.type "list") = some false := kit_ty (by decide +kernel)
theorem one_tuple_tuple : PySem.W.kitOne K (.type "tuple") (.type "tuple") = some true := kit_ty (by decide +kernel)
end
theorem cls2 (a b : String) : Paired ClsV [.ty a, .ty b] [.type a, .type b] := .cons (.ty a) (.cons (.ty b) .nil)
/-- zip of two tuples -/
theorem walk_zipT {K : PySem.W.Frag} {a b : Addr} {xs ys : List V} {n : Nat} (hn : n = min xs.length ys.length) : Walk (ItzT K a b) n (fun H => SqT K H a xs ∧ SqT K H b ys) (YPair (fun i => xs[i]?) (fun i => ys[i]?)) := by
  subst hn
  refine ⟨fun i _ hi q => ?_, fun _ q => ⟨xs, ys, q.1, q.2, by omega⟩, fun i H v H' _ q y => ?_⟩
  · obtain ⟨x, hx⟩ := get_some (l := xs) (i := i) (by omega)
    obtain ⟨z, hz⟩ := get_some (l := ys) (i := i) (by omega)
    exact ⟨xs, ys, x, z, q.1, q.2, hx, hz⟩
  · obtain ⟨T, x, z, h1, h2, h3, h4, h5⟩ := y
    exact ⟨T, x, z, h1, h2, h3, h4 xs q.1, h5 ys q.2⟩
theorem fn_never {P : Program} {w : World} {K : PySem.W.Frag} {mg : Str → Option Value} {base : Heap} {CX : CXT} {k : Nat} {f : Addr} {fd : FuncData} {ps : List Str} {sp : Sp} (h : ∀ vs H Q E, ¬ sp vs H Q E) : FnOk P w K mg base CX k f fd ps sp :=
  ⟨fun vs H Q E q => absurd q (h vs H Q E), fun _ _ _ H _ _ vs Q E _ _ _ _ q => absurd q (h vs H Q E)⟩
/-- a comprehension without a test -/
theorem yes_if {σ : L2.St} {H : Hp} {A B : Hp → Prop} (h : A H) : tYes σ H (fun b H3 => if b = true then A H3 else B H3) := by
  show if true = true then A H else B H
  exact iteT h
theorem all_rep : ∀ n : Nat, (List.replicate n true).all id = true
  | 0 => rfl
  | n + 1 => by rw [List.replicate_succ, List.all_cons, all_rep n]; rfl
end Pc
namespace Pc
open PySem PySem.Spec PyProof.Rows L2 RZ
section
variable {P : Program} {w : World} {K : PySem.W.Frag} {mg : Str → Option Value} {base : Heap}
/-! ### the same data twice -/
def spSame (K : PySem.W.Frag) (n : Nat) : Sp := fun vs H Q _ => ∃ (x y : V) (d : PyData), vs = [x, y] ∧ Dp K H x d ∧ Dp K H y d ∧ d.depth < n ∧ narrow d ∧ ∀ H', Same H H' → Q (.bl true) H'
theorem same_step (T : Env K mg) (n : Nat) (G : FnOk P w K mg base CX0 n T.f_same T.d_same ["_law_found", "_law_due"] (spSame K n)) : FnOk P w K mg base CX0 (n + 1) T.f_same T.d_same ["_law_found", "_law_due"] (spSame K (n + 1)) := by
  refine T.F_same.ok sc_same (fun vs H Q E h => ?_) (fun cdv A outer s H vs Q E hr h => ?_)
  · obtain ⟨x, y, d, rfl, _⟩ := h
    rfl
  · obtain ⟨x, y, d, rfl, hx, hy, hd, hw, q⟩ := h
    refine ⟨_, pss_cons (ps_if (pt_val (pe_callB call_isiT (by rfl) T.n_isinstance (by decide +kernel) (pa_cons (pv 1) (pa_cons (pe_tup (pa_cons (pe_bltn (v := .ty "list") (by rfl) T.n_list (by decide +kernel) rfl) (pa_cons (pe_bltn (v := .ty "tuple") (by rfl) T.n_tuple (by decide +kernel) rfl) pa_nil))) pa_nil))))
        (pss_cons (ps_if (PW.pt (pw_or (pt_cmpR op_ne (pe_callB call_isi (by rfl) T.n_isinstance (by decide +kernel) (pa_cons (pv 0) (pa_cons (pe_bltn (v := .ty "list") (by rfl) T.n_list (by decide +kernel) rfl) pa_nil))) (pe_callB call_isi (by rfl) T.n_isinstance (by decide +kernel) (pa_cons (pv 1) (pa_cons (pe_bltn (v := .ty "list") (by rfl) T.n_list (by decide +kernel) rfl) pa_nil))) (nomark _))
            (pw_or1 (pt_cmpR op_ne (pe_callB call_isi (by rfl) T.n_isinstance (by decide +kernel) (pa_cons (pv 0) (pa_cons (pe_bltn (v := .ty "tuple") (by rfl) T.n_tuple (by decide +kernel) rfl) pa_nil))) (pe_callB call_isi (by rfl) T.n_isinstance (by decide +kernel) (pa_cons (pv 1) (pa_cons (pe_bltn (v := .ty "tuple") (by rfl) T.n_tuple (by decide +kernel) rfl) pa_nil))) (nomark _)))))
          (pss_one (ps_ret pe_bl)) pss_nil)
        (pss_one (ps_ret (pe_and (pe_cmpR op_eq (pe_callB call_len_seq (by rfl) T.n_len PySem.boot_len (pa_cons (pv 0) pa_nil)) (pe_callB call_len_seq (by rfl) T.n_len PySem.boot_len (pa_cons (pv 1) pa_nil)) (nomark _))
          (pe_one (pe_callB (cr_all rfl) (by rfl) T.n_all (by decide +kernel) (pa_cons
            (pe_lc (own := [("_law_mine", 2), ("_law_its", 3)]) (g := gTup K 2 (gCons (gName 2) (gCons (gName 3) gNil))) (tt := tYes) (by rfl) sc_same.nd (pi_zipA (by rfl) T.n_zip (pa_cons (pv 0) (pa_cons (pv 1) pa_nil)))
              (blkOk_by (N := N_same) (sc := defScope s_same) (by decide +kernel))
              (fun _ _ _ _ _ => pg_tup (by rfl) (pgs_cons (pg_name (i := 2) sc_same.nd rfl (.inl rfl)) (pgs_cons (pg_name (i := 3) sc_same.nd rfl (.inl rfl)) pgs_nil)))
              (fun _ _ _ _ _ => pts_nil)
              (fun _ _ _ _ _ => pe_call G hr (by rfl) T.g_same T.F_same.kp T.b_same .nil pass0 (pa_cons (pv 2) (pa_cons (pv 3) pa_nil)))) pa_nil))))))) pss_nil)
      (pss_cons (ps_if (PW.pt (pw_or (pt_cmpR op_isN (pv 1) pe_non (nomark _)) (pw_or1 (pt_val (pe_callB call_isiT (by rfl) T.n_isinstance (by decide +kernel) (pa_cons (pv 1) (pa_cons (pe_tup (pa_cons (pe_bltn (v := .ty "bool") (by rfl) T.n_bool (by decide +kernel) rfl) (pa_cons (pe_bltn (v := .ty "str") (by rfl) T.n_str (by decide +kernel) rfl) pa_nil))) pa_nil)))))))
        (pss_one (ps_ret (pe_and (pe_cmpR op_eq (pv 0) (pv 1) (nomark _))
          (pe_and (pe_cmpR op_eq (pe_callB call_isi (by rfl) T.n_isinstance (by decide +kernel) (pa_cons (pv 0) (pa_cons (pe_bltn (v := .ty "bool") (by rfl) T.n_bool (by decide +kernel) rfl) pa_nil))) (pe_callB call_isi (by rfl) T.n_isinstance (by decide +kernel) (pa_cons (pv 1) (pa_cons (pe_bltn (v := .ty "bool") (by rfl) T.n_bool (by decide +kernel) rfl) pa_nil))) (nomark _))
          (pe_one (pe_cmpR op_eq (pe_cmpR op_isN (pv 0) pe_non (nomark _)) (pe_cmpR op_isN (pv 1) pe_non (nomark _)) (nomark _))))))) pss_nil)
      (pss_one (ps_ret (pe_and (pe_callB call_isi (by rfl) T.n_isinstance (by decide +kernel) (pa_cons (pv 0) (pa_cons (pe_bltn (v := .ty "int") (by rfl) T.n_int (by decide +kernel) rfl) pa_nil)))
        (pe_and (pe_not (pe_callB call_isi (by rfl) T.n_isinstance (by decide +kernel) (pa_cons (pv 0) (pa_cons (pe_bltn (v := .ty "bool") (by rfl) T.n_bool (by decide +kernel) rfl) pa_nil)))) (pe_one (pe_cmpR op_eq (pv 0) (pv 1) (nomark _)))))))), ?_⟩
    cases d with
    | dict _ => cases hx
    | int i =>
      cases hx; cases hy
      refine ⟨_, rfl, by show 2 ≤ sizeLine; decide, fun t nt => ⟨_, t, _, _, _, _, rfl, upd_same, cls2 _ _, .base (.int i), any_lt_int, _, rfl, iteF ?_⟩⟩
      refine ⟨_, rfl, rfl, _, rfl, iteF ⟨_, rfl, by show 2 ≤ sizeLine; decide, fun u nu => ⟨_, u, _, _, _, _, rfl, upd_same, cls2 _ _, .base (.int i), any_bs_int, _, rfl, iteF ?_⟩⟩⟩
      refine ⟨_, rfl, _, _, _, _, _, rfl, .ty _, .base (.int i), one_int_int, _, rfl, iteT ⟨_, rfl, _, _, _, _, _, rfl, .ty _, .base (.int i), one_int_bool, _, rfl, _, rfl, iteT ⟨_, rfl, _, rfl, rfl, ?_⟩⟩⟩
      rw [decide_eq_true rfl]
      exact q _ ((same_new nt).trans (same_new nu))
    | none =>
      cases hx; cases hy
      refine ⟨_, rfl, by show 2 ≤ sizeLine; decide, fun t nt => ⟨_, t, _, _, _, _, rfl, upd_same, cls2 _ _, .base .non, any_lt_none, _, rfl, iteF ?_⟩⟩
      refine ⟨_, rfl, rfl, _, rfl, iteT ?_⟩
      refine ⟨_, rfl, _, rfl, rfl, _, rfl, iteT ⟨_, rfl, _, _, _, _, _, rfl, .ty _, .base .non, one_none_bool, _, rfl, _, _, _, _, _, rfl, .ty _, .base .non, one_none_bool, rfl, _, rfl, iteT ⟨_, rfl, rfl, _, rfl, rfl, rfl, ?_⟩⟩⟩
      exact q _ (same_new nt)
    | bool b =>
      cases hx; cases hy
      refine ⟨_, rfl, by show 2 ≤ sizeLine; decide, fun t nt => ⟨_, t, _, _, _, _, rfl, upd_same, cls2 _ _, .base (.bl b), any_lt_bool, _, rfl, iteF ?_⟩⟩
      refine ⟨_, rfl, rfl, _, rfl, iteF ⟨_, rfl, by show 2 ≤ sizeLine; decide, fun u nu => ⟨_, u, _, _, _, _, rfl, upd_same, cls2 _ _, .base (.bl b), any_bs_bool, _, rfl, iteT ?_⟩⟩⟩
      refine ⟨_, rfl, _, rfl, rfl, _, rfl, ?_⟩
      rw [decide_eq_true rfl]
      refine iteT ⟨_, rfl, _, _, _, _, _, rfl, .ty _, .base (.bl b), one_bool_bool, _, rfl, _, _, _, _, _, rfl, .ty _, .base (.bl b), one_bool_bool, rfl, _, rfl, iteT ⟨_, rfl, rfl, _, rfl, rfl, rfl, ?_⟩⟩
      rw [decide_eq_true rfl]
      exact q _ ((same_new nt).trans (same_new nu))
    | str z =>
      cases hx; cases hy
      refine ⟨_, rfl, by show 2 ≤ sizeLine; decide, fun t nt => ⟨_, t, _, _, _, _, rfl, upd_same, cls2 _ _, .base (.str z), any_lt_str, _, rfl, iteF ?_⟩⟩
      refine ⟨_, rfl, rfl, _, rfl, iteF ⟨_, rfl, by show 2 ≤ sizeLine; decide, fun u nu => ⟨_, u, _, _, _, _, rfl, upd_same, cls2 _ _, .base (.str z), any_bs_str, _, rfl, iteT ?_⟩⟩⟩
      refine ⟨_, rfl, _, rfl, rfl, _, rfl, ?_⟩
      rw [decide_eq_true rfl]
      refine iteT ⟨_, rfl, _, _, _, _, _, rfl, .ty _, .base (.str z), one_str_bool, _, rfl, _, _, _, _, _, rfl, .ty _, .base (.str z), one_str_bool, rfl, _, rfl, iteT ⟨_, rfl, rfl, _, rfl, rfl, rfl, ?_⟩⟩
      rw [decide_eq_true rfl]
      exact q _ ((same_new nt).trans (same_new nu))
    | list ds =>
      cases hx with
      | lst hsx hax =>
      cases hy with
      | lst hsy hay =>
      rename_i a xs b ys
      have hlx := dpa_len hax
      have hly := dpa_len hay
      obtain ⟨hw1, hw2⟩ := hw
      refine ⟨_, rfl, by show 2 ≤ sizeLine; decide, fun t nt => ?_⟩
      have s1 : Same H (upd H t (.tup [.ty "list", .ty "tuple"])) := same_new nt
      have hsx1 := Same.seq s1 hsx
      have hsy1 := Same.seq s1 hsy
      refine ⟨_, t, _, _, _, _, rfl, upd_same, cls2 _ _, ty_lst hsy1, any_lt_list, _, rfl, iteT ?_⟩
      refine ⟨_, rfl, _, _, _, _, _, rfl, .ty _, ty_lst hsx1, one_list_list, _, rfl, _, _, _, _, _, rfl, .ty _, ty_lst hsy1, one_list_list, rfl, _, rfl, iteNS rfl ?_⟩
      refine ⟨_, rfl, _, _, _, _, _, rfl, .ty _, ty_lst hsx1, one_list_tuple, _, rfl, _, _, _, _, _, rfl, .ty _, ty_lst hsy1, one_list_tuple, rfl, _, rfl, iteNS rfl ?_⟩
      refine ⟨_, rfl, a, xs, rfl, .inl hsx1, _, rfl, b, ys, rfl, .inl hsy1, rfl, _, rfl, ?_⟩
      rw [decide_eq_true (show V.int (xs.length : Int) = V.int (ys.length : Int) by rw [hlx, hly])]
      refine iteT ⟨_, rfl, _, rfl, a, b, xs, ys, rfl, .inl ⟨hsx1, hsy1, fun D nD => ?_⟩⟩
      have nD0 : H D = none := s1.free nD
      refine lc_it (walk_zip (n := xs.length) (by omega)) (fun i H' => Same H H' ∧ H' D = some (.lst (List.replicate i (.bl true)))) ⟨s1.trans (same_new nD), upd_same⟩ (fun i H' _ h => ⟨Same.seq h.1 hsx, Same.seq h.1 hsy⟩) (fun i v H1 H2 hi h yy => ?_) (fun H' h => ?_)
      · obtain ⟨sm, eD⟩ := h
        obtain ⟨tp, u, v, rfl, nT, rfl, g1, g2⟩ := yy
        obtain ⟨d1, e1, f1⟩ := dpa_get hax g1
        obtain ⟨d2, e2, f2⟩ := dpa_get hay g2
        cases Option.some.inj (e1.symm.trans e2)
        have st : Same H (upd H1 tp (.tup [u, v])) := sm.trans (same_new nT)
        refine ⟨tp, _, rfl, .inl (.inl upd_same), rfl, _, _, rfl, _, _, rfl, rfl, rfl, yes_if ?_⟩
        refine ⟨_, rfl, _, rfl, u, v, d1, rfl, dp_same st f1, dp_same st f2, ?_, narrow_get hw2 e1, fun H3 s3 => ⟨_, s3 _ _ (same_new nT _ _ eD), ?_, ?_, ?_⟩⟩
        · have := depth_get e1
          have hd' : PyData.depthAll ds + 1 < n + 1 := hd
          omega
        · rw [List.length_replicate]
          exact line_big (by omega)
        · intro c o hc
          rw [upd_ne (ne_of_none hc nD0)]
          exact s3 _ _ (st _ _ hc)
        · rw [upd_same, List.replicate_succ']
      · obtain ⟨sm, eD⟩ := h
        refine ⟨D, List.replicate xs.length true, rfl, ?_, ?_⟩
        · rw [List.map_replicate]
          exact .inl (.inl eD)
        · rw [all_rep]
          exact q _ sm
    | tuple ds =>
      cases hx with
      | tup hsx hax =>
      cases hy with
      | tup hsy hay =>
      rename_i a xs b ys
      have hlx := dpa_len hax
      have hly := dpa_len hay
      obtain ⟨hw1, hw2⟩ := hw
      refine ⟨_, rfl, by show 2 ≤ sizeLine; decide, fun t nt => ?_⟩
      have s1 : Same H (upd H t (.tup [.ty "list", .ty "tuple"])) := same_new nt
      have hsx1 := same_tup s1 hsx
      have hsy1 := same_tup s1 hsy
      refine ⟨_, t, _, _, _, _, rfl, upd_same, cls2 _ _, ty_tup hsy1, any_lt_tuple, _, rfl, iteT ?_⟩
      refine ⟨_, rfl, _, _, _, _, _, rfl, .ty _, ty_tup hsx1, one_tuple_list, _, rfl, _, _, _, _, _, rfl, .ty _, ty_tup hsy1, one_tuple_list, rfl, _, rfl, iteNS rfl ?_⟩
      refine ⟨_, rfl, _, _, _, _, _, rfl, .ty _, ty_tup hsx1, one_tuple_tuple, _, rfl, _, _, _, _, _, rfl, .ty _, ty_tup hsy1, one_tuple_tuple, rfl, _, rfl, iteNS rfl ?_⟩
      refine ⟨_, rfl, a, xs, rfl, .inr hsx1, _, rfl, b, ys, rfl, .inr hsy1, rfl, _, rfl, ?_⟩
      rw [decide_eq_true (show V.int (xs.length : Int) = V.int (ys.length : Int) by rw [hlx, hly])]
      refine iteT ⟨_, rfl, _, rfl, a, b, xs, ys, rfl, .inr ⟨hsx1, hsy1, fun D nD => ?_⟩⟩
      have nD0 : H D = none := s1.free nD
      refine lc_it (walk_zipT (n := xs.length) (by omega)) (fun i H' => Same H H' ∧ H' D = some (.lst (List.replicate i (.bl true)))) ⟨s1.trans (same_new nD), upd_same⟩ (fun i H' _ h => ⟨same_tup h.1 hsx, same_tup h.1 hsy⟩) (fun i v H1 H2 hi h yy => ?_) (fun H' h => ?_)
      · obtain ⟨sm, eD⟩ := h
        obtain ⟨tp, u, v, rfl, nT, rfl, g1, g2⟩ := yy
        obtain ⟨d1, e1, f1⟩ := dpa_get hax g1
        obtain ⟨d2, e2, f2⟩ := dpa_get hay g2
        cases Option.some.inj (e1.symm.trans e2)
        have st : Same H (upd H1 tp (.tup [u, v])) := sm.trans (same_new nT)
        refine ⟨tp, _, rfl, .inl (.inl upd_same), rfl, _, _, rfl, _, _, rfl, rfl, rfl, yes_if ?_⟩
        refine ⟨_, rfl, _, rfl, u, v, d1, rfl, dp_same st f1, dp_same st f2, ?_, narrow_get hw2 e1, fun H3 s3 => ⟨_, s3 _ _ (same_new nT _ _ eD), ?_, ?_, ?_⟩⟩
        · have := depth_get e1
          have hd' : PyData.depthAll ds + 1 < n + 1 := hd
          omega
        · rw [List.length_replicate]
          exact line_big (by omega)
        · intro c o hc
          rw [upd_ne (ne_of_none hc nD0)]
          exact s3 _ _ (st _ _ hc)
        · rw [upd_same, List.replicate_succ']
      · obtain ⟨sm, eD⟩ := h
        refine ⟨D, List.replicate xs.length true, rfl, ?_, ?_⟩
        · rw [List.map_replicate]
          exact .inl (.inl eD)
        · rw [all_rep]
          exact q _ sm
theorem ok_same (T : Env K mg) : ∀ n : Nat, FnOk P w K mg base CX0 n T.f_same T.d_same ["_law_found", "_law_due"] (spSame K n)
  | 0 => fn_never fun vs H Q E h => by
    obtain ⟨x, y, d, _, _, _, hd, _⟩ := h
    exact absurd hd (Nat.not_lt_zero _)
  | n + 1 => same_step T n (ok_same T n)
end
end Pc
namespace Pc
open PySem PySem.Spec PyProof.Rows L2 RZ
/-! ### enumerate of a tuple -/
theorem draws_tuple {prog : Program} {w : World} {A : Around} (hh : A.handled = none) (it l : Addr) (hne : l ≠ it) (items : Array Value) :
    Draws prog w A it [it, l] items.size (fun i v => items[i]? = some v) (fun i h => h.IsTupleIter it l i ∧ h.IsTuple l items) where
  live i h st := by
    obtain ⟨⟨o, ho, _⟩, _⟩ := st
    exact ⟨o, ho⟩
  frame i h h' st hk := ⟨Heap.IsTupleIter.at st.1 (hk it (by simp)), Heap.IsTuple.at st.2 (hk l (by simp))⟩
  item i s Q E hi st hQ := by
    have hx : items[i]? = some items[i] := by simp [hi]
    exact nextOf_tuple_item st.1 st.2 hx fun h' hit' hs' => hQ _ h' s.toks hx ⟨hit', st.2.extBut hs'.extBut hne⟩ hs'
  done s Q E st hE := nextOf_tuple_end hh st.1 st.2 (by simp) hE
set_option maxHeartbeats 4000000 in
theorem enum_newT (l : Addr) (items : Array Value) (n : Nat) (dct : Option Addr) (sl : Array (Option Value)) :
    Meets (Builtin.«enumerate.__new__» ⟨[.type "enumerate", .ref l], []⟩) (fun _ R s =>
      s.heap.get? l = some { cls := .type "tuple", dict := dct, data := .seq items n, slots := sl } ∧
      R (.ok (.ret (.ref (s.heap.push { cls := .type "tuple_iterator", data := .fields #[.ref l, .int 0 0] }).objs.size)))
        { s with heap := Heap.push (s.heap.push { cls := .type "tuple_iterator", data := .fields #[.ref l, .int 0 0] }) { cls := .type "enumerate", data := .fields #[.none, .bool false, .ref s.heap.objs.size, rawInt 0, .none, .none] } }) := by
  refine .of_wp fun prog w A R s h => ?_
  obtain ⟨hp, g, d, tk, os⟩ := s
  obtain ⟨hl, h⟩ := h
  have subE := sub_enumerate
  have isT : Heap.IsTuple (Shared.heap ⟨hp, g, d, tk, os⟩) l items := ⟨_, hl, rfl, n, rfl⟩
  wp_walk using AutoSeq1.wpAny_loadPart' hl
  refine wpAny_stack_any fun st => wpAny_pure ?_
  split
  · rename_i c _ _ _ _ _
    cases (c == Value.type "enumerate") <;> (wp_walk using AutoSeq1.wpAny_loadPart' hl, wpAny_pyIter_tuple isT; exact ⟨_, rfl, h⟩)
  · wp_walk using AutoSeq1.wpAny_loadPart' hl, wpAny_pyIter_tuple isT
    exact ⟨_, rfl, h⟩
theorem call_enumT {prog : Program} {w : World} {A : Around} {E : Value → Shared → Prop} {s : Shared} {l : Addr} {items : Array Value} {Q : Value → Shared → Prop} (hL : s.heap.IsTuple l items)
    (h : ∀ h', IsEnum h' (s.heap.objs.size + 1) s.heap.objs.size 0 .none → h'.IsTupleIter s.heap.objs.size l 0 →
      (∀ b o, s.heap.get? b = some o → h'.get? b = some o) → Q (.ref (s.heap.objs.size + 1)) { s with heap := h' }) :
    wpAny (model prog w) A (call (.type "enumerate") [.ref l]) Q E s := by
  obtain ⟨⟨c, dct, dt, sl⟩, hl, hc, n, hd⟩ := hL
  have hc' : c = .type "tuple" := hc
  have hd' : dt = .seq items n := hd
  subst hc' hd'
  refine callType_new F.called_enumerate (by decide) (F.typeCall_enumerate_1 _) (F.newCall_enumerate_1 _) (fun obj => F.args_object_init_2 obj _) F.entry_enumerate_new (enum_newT l items n dct sl) ⟨hl, ?_⟩
  have hz : (s.heap.push { cls := .type "tuple_iterator", data := .fields #[.ref l, .int 0 0] }).objs.size = s.heap.objs.size + 1 := Heap.size_push ..
  have he := Heap.get?_push_size (s.heap.push { cls := .type "tuple_iterator", data := .fields #[.ref l, .int 0 0] })
    (o := { cls := .type "enumerate", data := .fields #[.none, .bool false, .ref s.heap.objs.size, rawInt 0, .none, .none] }) rfl
  rw [hz] at he
  show _ ∧ _
  rw [hz]
  exact ⟨⟨_, he, rfl⟩, h _ he ⟨{ cls := .type "tuple_iterator", data := .fields #[.ref l, .int 0 0] }, Heap.get?_push_of_some _ (Heap.get?_push_size _ rfl), rfl, rfl⟩ fun b o x => Heap.get?_push_of_some _ (Heap.get?_push_of_some _ x)⟩
/-- the tuple at a, its items in new pairs with their places -/
def IteT (K : PySem.W.Frag) (a : Addr) : It where
  go i H := ∃ (xs : List V) (x : V), SqT K H a xs ∧ xs[i]? = some x
  yld i H v H' := ∃ T x, v = .ref T ∧ H T = none ∧ H' = upd H T (.tup [.int (i : Nat), x]) ∧ ∀ xs, SqT K H a xs → xs[i]? = some x
  stop i H := ∃ xs : List V, SqT K H a xs ∧ xs.length ≤ i
theorem turn_enumT {P : Program} {w : World} {K : PySem.W.Frag} {elts : List Expr} {kk : Nat} {tpos : Pos} (a e it : Addr) (hei : e ≠ it) (hae : a ≠ e) (hai : a ≠ it) :
    Turn P w K (.Tuple elts kk tpos) (IteT K a) [e, it] e (fun i h => (∃ old, IsEnum h e it ((i : Nat) : Int) old) ∧ h.IsTupleIter it a i) where
  mem := by simp
  obj i h st b hb := by
    obtain ⟨⟨old, he⟩, ⟨o, ho, hc, hd⟩⟩ := st
    rcases (show b = e ∨ b = it by simpa using hb) with z | z
    · rw [z]; exact ⟨_, he, fun v q => nomatch q⟩
    · rw [z]; exact ⟨o, ho, fun v q => by rw [hd] at q; cases q⟩
  keep i h h' st k := by
    obtain ⟨⟨old, he⟩, hi⟩ := st
    exact ⟨⟨old, k e (by simp) _ he⟩, hi.at fun o q => k it (by simp) o q⟩
  item := by
    intro X hP hw hK hc i pins s σ H E I hf st hg
    subst hP hw hK
    obtain ⟨⟨old, he⟩, hit⟩ := st
    obtain ⟨xs, x, hq, hx⟩ := hg
    obtain ⟨its, rv, p, hz⟩ := I.tuple hq
    have p2 : s.heap.IsTuple a its.toArray := p
    obtain ⟨u, hu, ru⟩ := rv.get hx
    have hlt : i < its.toArray.size := by
      rw [List.size_toArray]
      exact get_lt hu
    have D := draws_tuple (prog := X.prog) (w := X.w) (A := X.A.in1) (show X.A.in1.handled = none from I.ok.hd hc) it a hai its.toArray
    have hel : e < s.heap.objs.size := Heap.lt_size he
    have hil : it < s.heap.objs.size := by obtain ⟨_, q, _⟩ := hit; exact Heap.lt_size q
    refine wpAny_pyNext_enum_itemD D he ⟨hit, p2⟩ hlt hei (by simp [hei, hae.symm]) fun y h' tk hy ho hst hT hsz hk => ?_
    have ey : y = u := by
      have : its.toArray[i]? = some y := hy
      rw [List.getElem?_toArray, hu] at this
      exact (Option.some.inj this).symm
    subst ey
    refine ⟨_, rfl, wpAny_letOwnedTupleGo_enum (s := { s with heap := h', toks := tk + 1 }) ho fun h'' he' sb => ?_⟩
    have hT2 : h''.get? s.heap.objs.size = some { cls := .type "tuple", data := .seq #[.int i tk, y] } := (sb.2 _ (Nat.ne_of_gt hel)).trans hT
    have new : ObjOk X.prog X.w (upd H s.heap.objs.size (.tup [.int (i : Nat), x])) h'' s.heap.objs.size (.tup [.int (i : Nat), x]) :=
      ⟨by show 2 ≤ sizeLine; decide, [.int i tk, y], .cons ⟨_, rfl⟩ (.cons ru .nil), ⟨_, hT2, rfl, _, rfl⟩⟩
    have I1 := I.turnedNew (t' := tk + 1) (h' := h'') (ch := [e, it]) (fun b ob hb q => (sb.2 b (fun z => hb (by simp [z]))).trans (hk b ob (fun z => hb (by simp [z])) (fun z => hb (by simp [z])) q)) hf (Nat.le_refl _) new
    refine ⟨.ref s.heap.objs.size, _, I1, rfl, ⟨_, x, rfl, I.hok.fresh (Nat.le_refl _), rfl, fun ys hy => by rw [I.tuple_inj hy hq]; exact hx⟩, ⟨⟨y, ?_⟩, hst.1.at fun o q => (sb.2 it hei.symm).trans q⟩, fun b hb => ?_⟩
    · rw [show ((i + 1 : Nat) : Int) = (i : Int) + 1 by omega]; exact he'
    · have hb' : b < s.heap.objs.size := by
        rcases (show b = e ∨ b = it by simpa using hb) with z | z
        · rw [z]; exact hel
        · rw [z]; exact hil
      rw [upd_ne (Nat.ne_of_lt hb')]
      exact (hf b hb).1
  done := by
    intro X hP hw hK hc i pins s σ H E I hf st hg
    subst hP hw hK
    obtain ⟨⟨old, he⟩, hit⟩ := st
    obtain ⟨xs, hq, hx⟩ := hg
    obtain ⟨its, rv, p, hz⟩ := I.tuple hq
    have p2 : s.heap.IsTuple a its.toArray := p
    obtain ⟨f0, f1, f2, f3, f4, f5⟩ := hf it (by simp)
    have hl := rv.length
    have hT : s.TypeIs (.ref e) "enumerate" := ⟨_, he, rfl⟩
    unfold pyNext
    refine wpAny_bind (wpAny_attempt (wpAny_callSpecial?_slot (name := Str.ofString "__next__") hT F.slot_enumerate_next (wpAny_call_entry F.slot_enumerate_next hT F.entry_enumerate_next ?_ (F.args_enumerate_next_1 _))))
    show wpAny _ _ (field (.ref e) 2 >>= _) _ _ _
    refine wpAny_bind (wpAny_field he rfl (x := .ref it) rfl ?_)
    refine wpAny_bind (nextOf_tuple_end (show X.A.in1.handled = none from I.ok.hd hc) hit p2 (by simp; omega) fun h' x he' hx' => ?_)
    obtain ⟨o, ho, hcl⟩ := hx'
    refine wpAny_bind (wpAny_isInstance (T := "StopIteration") (b := true) ⟨o, ho, hcl⟩ isSubtype_stop ?_)
    exact wpAny_pure ⟨rfl, I.turned (t' := s.toks) (fun b o hb q => he' b o hb q) f0 f1 f3 f4 f5⟩
  self A i s Q E st h := by
    obtain ⟨⟨_, he⟩, _⟩ := st
    exact wpAny_pyIter_enum he h
/-- enumerate of a list or a tuple -/
def iEnumA (K : PySem.W.Frag) (ta : TA) : TI := fun σ H R => ta σ H fun vs H1 => ∃ a xs, vs = [.ref a] ∧ ((SqL K H1 a xs ∧ R (Ite K a) H1) ∨ (SqT K H1 a xs ∧ R (IteT K a) H1))
theorem pi_enumA {X : Cx} {e : Expr} {ta : TA} {p pos tpos : Pos} {elts : List Expr} {kk : Nat} (hg : Gl X "enumerate") (hm : X.mg "enumerate" = none) (ha : PA X [e] ta) (hs : starEach [e] X.env = [(false, eval e X.env)] := by rfl) :
    PI X (.Tuple elts kk tpos) (.Call (.Name "enumerate" p) [e] [] pos) (iEnumA X.K ta) := by
  constructor
  intro pins s σ H R I h
  refine Call_ (ld_blt I hg hm boot_enumerate (callWith_type1 (thn (ha.run pos pins s σ H _ I h) fun us s1 r => ?_) hs rfl))
  obtain ⟨vs, H1, I1, r1, a, xs, ex, q1⟩ := r
  subst ex
  cases r1 with
  | cons r rr =>
    cases rr
    cases r
    have fr : ∀ b, b ∈ [s1.heap.objs.size + 1, s1.heap.objs.size] → FpOk X pins H1 b := fun b hb => by
      have hle : s1.heap.objs.size ≤ b := by
        rcases (show b = s1.heap.objs.size + 1 ∨ b = s1.heap.objs.size by simpa using hb) with z | z <;> omega
      exact I1.fpOk hle (I1.hok.fresh hle)
    rcases q1 with ⟨hq, q⟩ | ⟨hq, q⟩
    · obtain ⟨its, rv, p', hz⟩ := I1.list hq
      refine call_enumerate_list p'.isList fun h' he hit _ hk => wpAny_pyIter_enum he ?_
      exact ⟨_, _, _, _, H1, rfl, I1.kept (t' := s1.toks) hk, turn_enum a (s1.heap.objs.size + 1) s1.heap.objs.size, ⟨⟨.none, he⟩, hit, Nat.succ_ne_self _⟩, fr, q⟩
    · obtain ⟨its, rv, p', hz⟩ := I1.tuple hq
      have p2 : s1.heap.IsTuple a its.toArray := p'
      have hlt : a < s1.heap.objs.size := by obtain ⟨o, ho, _⟩ := p2; exact Heap.lt_size ho
      refine call_enumT p2 fun h' he hit hk => wpAny_pyIter_enum he ?_
      exact ⟨_, _, _, _, H1, rfl, I1.kept (t' := s1.toks) hk, turn_enumT a (s1.heap.objs.size + 1) s1.heap.objs.size (Nat.succ_ne_self _) (Nat.ne_of_lt (Nat.lt_succ_of_lt hlt)) (Nat.ne_of_lt hlt), ⟨⟨.none, he⟩, hit⟩, fr, q⟩
theorem walk_enumT {K : PySem.W.Frag} {a : Addr} {xs : List V} : Walk (IteT K a) xs.length (fun H => SqT K H a xs) (YPair (fun i => some (.int (i : Nat))) (fun i => xs[i]?)) where
  goes i H hi q := by
    obtain ⟨x, hx⟩ := get_some hi
    exact ⟨xs, x, q, hx⟩
  stops H q := ⟨xs, q, Nat.le_refl _⟩
  yields i H v H' hi q y := by
    obtain ⟨T, x, h1, h2, h3, h4⟩ := y
    exact ⟨T, .int (i : Nat), x, h1, h2, h3, rfl, h4 xs q⟩
end Pc
namespace Pc
open PySem PySem.Spec PyProof.Rows L2 RZ
/-! ### t[::-1] of a pair -/
section
variable {prog : Program} {w : World} {A : Around} {E : Value → Shared → Prop} {s : Shared}
theorem applied_rev2 {sl : Addr} {vk : Value} {Q : Int × Int × Nat → Shared → Prop} (hs : s.heap.IsSliceOf sl .none .none vk) (pk : IsPart vk (some (-1))) (h : Q (1, -1, 2) s) :
    wpAny (model prog w) A (Builtin.Slice.sliceApplied (.ref sl) (pure (2 : Int))) Q E s := by
  obtain ⟨os, hos, hcs, hds⟩ := id hs
  unfold Builtin.Slice.sliceApplied Builtin.Slice.sliceFields
  refine wpAny_bind (wpAny_bind (wpAny_field hos hds (x := .none) rfl ?_))
  refine wpAny_bind (wpAny_field hos hds (x := .none) rfl ?_)
  refine wpAny_bind (wpAny_field hos hds (x := vk) rfl (wpAny_pure ?_))
  refine wpAny_bind (HT.slicePart_ pk ?_)
  show wpAny _ _ (if ((-1 : Int) == 0) = true then _ else _) _ _ s
  rw [if_neg (by decide)]
  refine wpAny_bind (HT.slicePart_ .none (wpAny_bind (HT.slicePart_ .none (wpAny_bind (wpAny_pure ?_)))))
  exact wpAny_pure h
theorem item_rev2 {t sl : Addr} {u v vk : Value} {Q : Value → Shared → Prop} (ht : IsTup s.heap t #[u, v]) (hs : s.heap.IsSliceOf sl .none .none vk) (pk : IsPart vk (some (-1)))
    (h : Q (.ref s.heap.objs.size) { s with heap := s.heap.push { cls := .type "tuple", data := .seq #[v, u] } }) : wpAny (model prog w) A (getItem (.ref t) (.ref sl)) Q E s := by
  obtain ⟨os, hos, hcs, hds⟩ := id hs
  have hTs : s.TypeIs (.ref sl) "slice" := ⟨os, hos, hcs⟩
  unfold getItem
  try with_reducible refine wpAny_holding ?_
  first | refine wpAny_bind (wpAny_pure ?_) | skip
  refine wpAny_bind (wpAny_sequenceKey ht.typeIs (by decide) ?_)
  refine wpAny_bind (wpAny_callSpecial?_slot (name := Str.ofString "__getitem__") ht.typeIs PyProof.Rows.slot_tuple_getitem (wpAny_call_entry PyProof.Rows.slot_tuple_getitem ht.typeIs entry_tuple_getitem ?_ (args_tuple_getitem _ _)))
  show wpAny _ _ (Builtin.Tuple.tupleItemsOf (.ref t) >>= _) _ _ s
  refine wpAny_bind (tupleItemsOf_ ht ?_)
  refine wpAny_bind (wpAny_typeOf hTs ?_)
  rw [if_pos (by decide)]
  refine wpAny_bind (applied_rev2 hs pk ?_)
  show wpAny _ _ (if ((1 : Int) == 0 && (-1 : Int) == 1 && (2 : Nat) == 2) = true then _ else _) _ _ s
  rw [if_neg (by decide)]
  have e : ((List.range 2).filterMap fun (k : Nat) => (#[u, v] : Array Value)[((1 : Int) + (k : Int) * -1).toNat]?).toArray = #[v, u] := rfl
  rw [e]
  have hz : sizeOk (.seq (#[v, u] : Array Value)) := by show 2 ≤ sizeLine; decide
  first
    | exact wpAny_bind (m := Builtin.Tuple.tupleExact _) (wpAny_newObj_type (wpAny_pure ⟨_, rfl, wpAny_pure h⟩) hz)
    | exact wpAny_bind (wpAny_bind (m := Builtin.Tuple.tupleExact _) (wpAny_newObj_type (wpAny_pure (wpAny_pure ⟨_, rfl, wpAny_pure h⟩)) hz))
    | exact wpAny_bind (wpAny_bind (m := Builtin.Tuple.tupleExact _) (wpAny_newObj_type (wpAny_pure ⟨_, rfl, wpAny_pure h⟩) hz))
    | exact wpAny_bind (m := Builtin.Tuple.tupleExact _) (wpAny_newObj_type (wpAny_bind (wpAny_pure (wpAny_pure ⟨_, rfl, wpAny_pure h⟩))) hz)
end
def tRev2 (K : PySem.W.Frag) (te : TE) : TE := fun σ H Q => te σ H fun x H1 => ∃ a y z, x = .ref a ∧ SqT K H1 a [y, z] ∧ ∀ p, H1 p = none → Q (.ref p) (upd H1 p (.tup [z, y]))
theorem pe_rev2 {X : Cx} {e : Expr} {te : TE} {k : Nat} {p1 p2 p3 pos : Pos} (he : PE X e te) : PE X (.Subscript e (.Slice none none (some (.UnaryOp .USub (.Constant (.int 1) k p1) p2)) p3) pos) (tRev2 X.K te) := by
  constructor
  intro pins s σ H Q I h
  refine Subscript_ (thn (he.run pins s σ H _ I h) fun v s1 r => ?_)
  obtain ⟨x, H1, I1, r1, a, y, z, ex, hx, q⟩ := r
  subst ex
  cases r1
  have hst : PO X (some (.UnaryOp .USub (.Constant (.int 1) k p1) p2)) (tPart (tUn (rU fun i => .int (-i)) (tC (.int 1)))) := po_some (pe_un un_neg pe_int)
  refine wpAny_Slice (thn (po_none.run pins s1 σ H1 (fun o H2 => o = none ∧ H2 = H1) I1 ⟨rfl, rfl⟩) fun vl s2 ⟨l, H2, I2, pl, el, e2⟩ => ?_)
  subst el e2
  refine thn (po_none.run pins s2 σ H2 (fun o H3 => o = none ∧ H3 = H2) I2 ⟨rfl, rfl⟩) fun vu s3 ⟨u, H3, I3, pu, eu, e3⟩ => ?_
  subst eu e3
  refine thn (hst.run pins s3 σ H3 (fun o H4 => o = some (-1) ∧ H4 = H3) I3 ⟨1, rfl, -1, rfl, rfl, rfl⟩) fun vs s4 ⟨o, H4, I4, ps, eo, e4⟩ => ?_
  subst eo e4
  cases pl
  cases pu
  have I5 : Inv X pins σ H4 { s4 with heap := s4.heap.push { cls := .type "slice", data := .fields #[.none, .none, vs] } } := I4.kept (t' := s4.toks) fun b ob q => Heap.get?_push_of_some _ q
  obtain ⟨its, r, ht, hz⟩ := I5.tuple hx
  obtain ⟨w1, w2, ei, r1, r2⟩ := vals2 r
  subst ei
  show wpAny (model X.prog X.w) X.A (subscriptTail e (.Slice none none (some (.UnaryOp .USub (.Constant (.int 1) k p1) p2)) p3) (.ref a) (.ref s4.heap.objs.size)) (EP X pins σ Q) X.xe _
  refine tail_any (ops := [.ref a, .ref s4.heap.objs.size]) ht.typeIs PyProof.Rows.slot_tuple_getitem.lookup ?_ (by with_unfolding_all rfl)
  refine item_rev2 ht (Heap.IsSliceOf.new _ .none .none vs) ps ?_
  refine ⟨.ref _, _, I5.laid (t' := s4.toks) (o := .tup [z, y]) (fun b ob q => Heap.get?_push_of_some _ q) (Nat.le_refl _) ?_, rfl, q _ (I5.hok.fresh (Nat.le_refl _))⟩
  exact ⟨by show 2 ≤ sizeLine; decide, [w2, w1], .cons r2 (.cons r1 .nil), IsTup.new _ _⟩
end Pc
namespace Pc
open PySem PySem.Spec PyProof.Rows L2 RZ
/-! ### defs that run where no repr is under way (repr asks for that) -/
structure FnG (P : Program) (w : World) (K : PySem.W.Frag) (mg : Str → Option Value) (base : Heap) (CX : CXT) (k : Nat) (f : Addr) (fd : FuncData) (ps : List Str) (sp : Sp) : Prop where
  len : ∀ vs H Q E, sp vs H Q E → vs.length = ps.length
  run : ∀ (A : Around) (outer : List PySem.Env) (s : Shared) (H : Hp) (args : Args) (us : List Value) (vs : List V) (Q : VK) (E : XK), Room k A → A.guards = some [] → Env0 P w K mg base A outer s H →
    BindsTo s fd args (ps.zip us) → Vals vs us → sp vs H Q E → codeAny (model P w) A (.call (.ref f) args) (CR CX outer P w H s Q E) s
section
variable {P : Program} {w : World} {K : PySem.W.Frag} {mg : Str → Option Value} {base : Heap}
theorem fun_g {x qual : Str} {st : Stmt} {f : Addr} {fd : FuncData} {N ps : List Str} {k : Nat} {sp : Sp} (F : Fun K x qual st f fd) (S : FnScope N ps (defScope st)) (len : ∀ vs H Q E, sp vs H Q E → vs.length = ps.length)
    (hbody : ∀ (cdv : Value) (A : Around) (outer : List PySem.Env) (s : Shared) (H : Hp) (vs : List V) (Q : VK) (E : XK), Room k (A.deeper (envOfC qual (defScope st) s.heap.objs.size f cdv)) → A.guards = some [] → sp vs H Q E →
      ∃ t, PSs (cxOf CX0 P w K mg base N qual (defScope st) f cdv A outer s H E).nox (defBody st) t ∧ t { nx := fun _ H' => Q .non H', rt := Q } (start N vs) H) : FnG P w K mg base CX0 (k + 1) f fd ps sp := by
  obtain ⟨oc, od, kV, doc, pm, an, cdv, ct, osl, rfl, lk, hcd⟩ := F.ex
  constructor
  · exact len
  intro A outer s H args us vs Q E hr hgd e0 hb r hsp
  have hl := len _ _ _ _ hsp
  have up : ∀ b o, base.get? b = some o → s.heap.get? b = some o := fun b o e => (e0.bs b o e).1
  have KX : K.In s.heap := e0.mod.kin.keeps up
  have lim : s.heap.NoLimit := e0.mod.nolimit.keeps up
  obtain ⟨t, ht, hq⟩ := hbody cdv A outer s H vs Q E (hr.deeper _) hgd hsp
  refine codeAny_call_function hr.depth (KX _ _ lk) rfl S.co S.gen rfl (PySem.W.codeRec_of KX hcd) (hb _ _ _ _ ?_)
  refine wpAny_newFunctionEnv_cells S.kind ?_ ?_
  · rintro ⟨n, v⟩ hy
    rcases S.par n (List.of_mem_zip hy).1 with z | z
    · exact Or.inl z
    · exact Or.inr ⟨z, PySem.W.cellsFrom_some _ _ _ (Or.inl z)⟩
  intro env he s1 x
  subst he
  refine ⟨lim.keeps x.toInCall.keep, codeAny_func ?_⟩
  have I := inv_start (CX := CX0) (E := E) S hr.hd e0 hl r x
  refine wpAny_mono (ht.nox.run [] s1 (start N vs) H _ I hq) ?_ (fun _ _ z => z)
  intro fl s' hs
  cases fl with
  | brk => obtain ⟨_, _, _, z⟩ := hs; exact z.elim
  | cont => obtain ⟨_, _, _, z⟩ := hs; exact z.elim
  | next =>
    obtain ⟨σ', H', J, z⟩ := hs
    exact ⟨V.non, H', J.os, J.bare, J.base, J.hok, rfl, z⟩
  | ret u =>
    obtain ⟨v, σ', H', J, rv, z⟩ := hs
    exact ⟨v, H', J.os, J.bare, J.base, J.hok, rv, z⟩
end
section
variable {X : Cx} {CX : CXT} {k : Nat} {f : Addr} {fd : FuncData} {ps : List Str} {sp : Sp} {x : Str} {e : Expr} {es : List Expr} {ds : List Value} {dvs : List V} {E : XK} {t : TA} {p pos : Pos}
theorem pe_callG (F : FnG X.prog X.w X.K X.mg X.base CX k f fd ps sp) (hr : Room k X.A) (hgd : X.A.guards = some []) (hg : Gl X x) (hm : X.mg x = some (.ref f)) (hk : PySem.W.keepIn X.K (.ref f) = true) (hb : Binds X.K fd ps ds) (hd : Vals dvs ds) (hx : Passes CX X E)
    (ha : PA X (e :: es) t) (hdb : (x == ("__debug__" : Str)) = false := by decide) (he : starEach (e :: es) X.env = (false, eval e X.env) :: starEach es X.env := by rfl) (hpl : (backTo pos (starEach es X.env)).any (·.1) = false := by rfl) :
    PE X (.Call (.Name x p) (e :: es) [] pos) (tCall sp dvs E t) := by
  constructor
  intro pins s σ H Q I h
  refine wpAny_Call_Name_kw (ld_glob I hg hm ?_ hdb)
  refine PySem.W.callWith_K (h₀ := X.base) I.ok.mod.kin hk (thn (ha.run pos pins s σ H _ I h) ?_) he hpl
  rintro us s1 ⟨vs, H1, I1, r, q⟩
  refine ⟨I1.kIn, ?_⟩
  have r2 : Vals (vs ++ dvs) (us ++ ds) := r.append hd
  have hl : (us ++ ds).length = ps.length := by
    rw [← r2.length]
    exact F.len _ _ _ _ q
  refine wpAny_call (codeAny_mono (F.run X.A X.stack s1 H1 ⟨us, []⟩ (us ++ ds) (vs ++ dvs) Q E hr hgd I1.env0 (hb s1 us I1.kIn hl) r2 q) ?_)
  intro res s' hq
  cases res with
  | error e => exact hx pins σ H1 s1 e s' I1 hq
  | ok fl =>
    cases fl with
    | ret u => exact I1.after hq
    | next => exact hq.elim
    | brk => exact hq.elim
    | cont => exact hq.elim
end
/-! ### the law's own call, where no repr is under way -/
theorem law_g {P : Program} {w : World} {K : PySem.W.Frag} {mg mb : Str → Option Value} {CX : CXT} {k : Nat} {fa a : Addr} {fd : FuncData} {x : Str} {sp : Sp} {s₁ : Shared} {vs : List Value} {ns : List Int}
    (KX : K.In s₁.heap) (hns : s₁.heap.Ns mainGlobals mg) (hb : s₁.heap.Ns builtinsNs mb) (hbb : ∀ x : Str, x ≠ "__name__" → mb x = bootBuiltins x) (hlim : s₁.heap.NoLimit) (hg : s₁.gens = #[])
    (ha : s₁.heap.get? a = some { cls := .type "list", data := .seq vs.toArray }) (hi : IntsAre vs ns) (hl : ns.length ≤ sizeLine) (hr : Room k callerA)
    (F : ∀ base : Heap, K.In base → base.Ns mainGlobals mg → FnG P w K mg base CX k fa fd [x] sp) (hbind : ∀ (s : Shared) (u : Value), BindsTo s fd ⟨[u], []⟩ [(x, u)])
    (hsp : ∀ H : Hp, SqL K H a (ns.map V.int) → sp [.ref a] H (fun v _ => v = .bl true) fun _ _ _ => False)
    (hCX : ∀ H e s', CX [] H s₁ (fun _ _ _ => False) e s' → False) :
    codeAny (model P w) callerA (.call (.ref fa) ⟨[.ref a], []⟩) (fun r s' => r = .ok (.ret (.bool true)) ∧ OldK s₁.heap s'.heap ∧ s'.os = s₁.os ∧ AllBare s'.gens) s₁ := by
  have rv := vals_ints hi
  have len0 := hi.length
  let lo : Obj := { cls := .type "list", data := .seq vs.toArray }
  have main : ∀ H : Hp, SqL K H a (ns.map V.int) → HOk P w H s₁.heap → (∀ b u, H b = some u → b = a ∧ u = .frz lo (.lst (ns.map V.int)) ∧ K.lookup a = none) →
      codeAny (model P w) callerA (.call (.ref fa) ⟨[.ref a], []⟩) (fun r s' => r = .ok (.ret (.bool true)) ∧ OldK s₁.heap s'.heap ∧ s'.os = s₁.os ∧ AllBare s'.gens) s₁ := by
    intro H hS hok hA
    have free : ∀ {b : Addr} {o : Obj}, s₁.heap.get? b = some o → (∀ n, o.data ≠ .seq vs.toArray n) → H b = none := by
      intro b o e d
      cases z : H b with
      | none => rfl
      | some u =>
        obtain ⟨rfl, _⟩ := hA b u z
        rw [ha] at e
        cases e
        exact absurd rfl (d _)
    have nsK : ∀ {b : Addr} {m : Str → Option Value}, s₁.heap.Ns b m → (hidT s₁.heap H).Ns b m := by
      rintro b m ⟨o, es, ep, e, d, r⟩
      exact ⟨o, es, ep, hidT_get e (free e fun n => by rw [d]; exact fun z => nomatch z), d, r⟩
    have hKb : K.In (hidT s₁.heap H) := by
      intro b o e
      refine hidT_get (KX b o e) ?_
      cases z : H b with
      | none => rfl
      | some u =>
        obtain ⟨rfl, _, hn⟩ := hA b u z
        rw [hn] at e
        cases e
    obtain ⟨mc, l1, l2⟩ := hlim
    have e0 : Env0 P w K mg (hidT s₁.heap H) callerA [] s₁ H :=
      { frames := rfl, mod := ⟨hKb, nsK hns, ⟨mb, nsK hb, hbb⟩, ⟨mc, nsK l1, l2⟩⟩, bs := fun b o e => of_hidT e, bsz := Nat.le_of_eq (hidT_size _ _), funs := trivial, frf := fun b hb => absurd (show b ∈ ([] : List Addr) from hb) (by simp), hok := hok, bare := .of_eq hg }
    have R := (F _ hKb (nsK hns)).run callerA [] s₁ H ⟨[.ref a], []⟩ [.ref a] [.ref a] _ _ hr rfl e0 (hbind s₁ (.ref a)) (.cons rfl .nil) (hsp H hS)
    refine codeAny_mono R ?_
    intro res s' h
    cases res with
    | error e => exact (hCX H e s' h).elim
    | ok fl =>
      cases fl with
      | next => exact h.elim
      | brk => exact h.elim
      | cont => exact h.elim
      | ret u =>
        obtain ⟨v, H', os, bare, un, hok', r', q⟩ := h
        have q' : v = .bl true := q
        subst q'
        obtain rfl : u = Value.bool true := r'
        refine ⟨rfl, OldK.of_keep ?_, os, bare⟩
        intro b o e
        cases z : H b with
        | none => exact un.keep b o e z (fun y => absurd (show b ∈ ([] : List Addr) from y) (by simp)) (by simp)
        | some u =>
          obtain ⟨rfl, rfl, _⟩ := hA b u z
          obtain ⟨g1, _⟩ := hok _ _ z
          obtain ⟨g2, _⟩ := hok' _ _ (un.frzs _ lo _ z)
          rw [e] at g1
          cases g1
          exact g2
  cases hk : K.lookup a with
  | some o =>
    have e := KX a o hk
    rw [ha] at e
    cases e
    refine main (fun _ => none) ?_ (fun b u z => nomatch z) (fun b u z => nomatch z)
    exact Or.inr ⟨_, vs.toArray, _, hk, rfl, rfl, rfl, by rw [List.size_toArray, len0]; exact hl, by simpa using rv⟩
  | none =>
    have sp1 : ∀ b u, (upd (fun _ => none) a (.frz lo (.lst (ns.map V.int)))) b = some u → b = a ∧ u = .frz lo (.lst (ns.map V.int)) ∧ K.lookup a = none := by
      intro b u z
      by_cases hba : b = a
      · subst hba
        rw [upd_same] at z
        exact ⟨rfl, (Option.some.inj z).symm, hk⟩
      · rw [upd_ne hba] at z
        cases z
    refine main (upd (fun _ => none) a (.frz lo (.lst (ns.map V.int)))) (Or.inl (Or.inr ⟨lo, upd_same⟩)) ?_ sp1
    intro b u z
    obtain ⟨rfl, rfl, _⟩ := sp1 b u z
    exact ⟨ha, by rw [List.length_map]; exact hl, vs, _, rv, ha⟩
theorem walk_g {l : PySem.W.OpenLaw} {n k : Nat} {q : Program} {loose : List Str} {XP : (Str → Option Value) → Heap → Prop} {YP : World → Heap → Prop} {d : DefRec} {K : Params → PySem.W.Frag} {sp : World → Sp} {x : Str}
    (hn : l.most = some n) (hn2 : n ≤ sizeLine) (hdf : d.params.defaults = []) (hr : Room k callerA) (hY : ∀ (w : World) (h : Heap), YP w h → (K w.params).In h)
    (F : ∀ (w : World) (mg : Str → Option Value) (fa : Addr) (h : Heap), (K w.params).In h → h.Ns mainGlobals mg → mg d.name = some (.ref fa) →
      ∃ fd : FuncData, (∀ (s : Shared) (u : Value), BindsTo s fd ⟨[u], []⟩ [(x, u)]) ∧ ∀ base : Heap, (K w.params).In base → base.Ns mainGlobals mg → FnG l.prog w (K w.params) mg base CX0 k fa fd [x] (sp w))
    (hsp : ∀ (w : World) (H : Hp) (a : Addr) (ns : List Int), ns.length ≤ n → SqL (K w.params) H a (ns.map V.int) → sp w [.ref a] H (fun v _ => v = .bl true) fun _ _ _ => False) :
    PySem.W.WalkO q loose XP YP l.row.toRowW d [] (fun f vs => PySem.call f vs) := by
  refine Att.attach_call hn hdf ?_
  intro w s₀ s₁ mg mb fa o pm cd doc a vs ns G Y ho hd hcd hmg hobj hints hlen hg
  obtain ⟨fd, hb, hF⟩ := F w mg fa _ (hY w _ Y) G.T.g hmg
  exact law_g (hY w _ Y) G.T.g G.T.b G.T.builtins G.T.nolimit hg hobj hints (Nat.le_trans hlen hn2) hr hF hb (fun H hS => hsp w H a ns hlen hS) fun _ _ _ z => z
/-! ### repr of data -/
theorem call_reprD {X : Cx} (hgd : X.A.guards = some []) (hu : X.A.units + 64 < cLine) : CallR X (.builtin "repr") (fun xs H Q => ∃ (a : Addr) (d : PyData), xs = [.ref a] ∧ Dp X.K H (.ref a) d ∧ d.canLay0 = true ∧ d.showable = true ∧ d.depth ≤ 60 ∧ d.shown.length ≤ sizeLine ∧ Q (.str d.shown) H) := by
  intro pins s σ H xs us Q I r h
  obtain ⟨a, d, rfl, hd, hl, hs, hdp, hz, q⟩ := h
  obtain ⟨u, rfl, ru⟩ := vals1 r
  cases ru
  obtain ⟨as, rd⟩ := Dp.reads I d (.ref a) (.ref a) hd rfl
  refine repr_of_reads' rd hs (PyData.noDict_hsm (PyData.hasDict_of_canLay d hl)) hgd (by omega) (fun _ _ e => e) ?_ hz
  intro h' u tk hk
  exact ⟨.str d.shown, H, I.kept (t' := tk) hk, ⟨u, rfl⟩, q⟩
end Pc
namespace Pc
open PySem PySem.Spec PyProof.Rows L2 RZ
/-! ### data of small size: its depth is at most k, its text has at most m signs -/
structure Fine (k m : Nat) (d : PyData) : Prop where
  lay : d.canLay0 = true
  show_ : d.showable = true
  depth : d.depth ≤ k
  nar : narrow d
  len : d.shown.length ≤ m
theorem Fine.mono {k m k' m' : Nat} {d : PyData} (h : Fine k m d) (hk : k ≤ k') (hm : m ≤ m') : Fine k' m' d := ⟨h.lay, h.show_, Nat.le_trans h.depth hk, h.nar, Nat.le_trans h.len hm⟩
theorem Fine.shaped {k m : Nat} {d : PyData} (h : Fine k m d) (hk : k ≤ 64) : SeqAt.shaped d = true := by
  unfold SeqAt.shaped
  rw [Bool.and_eq_true]
  exact ⟨h.lay, decide_eq_true (Nat.le_trans h.depth hk)⟩
theorem str_len (t : String) : (Str.ofString t).length = t.length := by
  rw [Str.ofString_eq_toList]
  show (t.toList.map Char.toNat).toArray.size = t.length
  rw [List.size_toArray, List.length_map, String.length_toList]
theorem log_lt {i : Int} {k : Nat} (h : i.natAbs < 2 ^ k) (hk : 0 < k) : i.natAbs.log2 < k := by
  by_cases h0 : i.natAbs = 0
  · rw [h0]; exact hk
  · exact (Nat.log2_lt h0).mpr h
theorem fine_int {i : Int} (h : i.natAbs < 2 ^ 60) : Fine 0 61 (.int i) := by
  have hl := log_lt h (by decide)
  refine ⟨rfl, decide_eq_true (Nat.lt_of_lt_of_le hl (by decide)), Nat.le_refl _, trivial, ?_⟩
  show (Str.ofString (toString i)).length ≤ 61
  rw [str_len]
  exact int_text_length_le (by decide) hl
theorem fine_nat {i : Nat} (h : i < 2 ^ 60) : Fine 0 61 (.int (i : Int)) := fine_int (by rw [Int.natAbs_natCast]; exact h)
theorem all_lay {ds : List PyData} (h : ∀ d ∈ ds, d.canLay0 = true) : PyData.canLayAll0 ds = true := by
  induction ds with
  | nil => rfl
  | cons d r ih =>
    show (d.canLay0 && PyData.canLayAll0 r) = true
    rw [h d List.mem_cons_self, ih fun x hx => h x (List.mem_cons_of_mem _ hx)]; rfl
theorem all_showable {ds : List PyData} (h : ∀ d ∈ ds, d.showable = true) : PyData.showableAll ds = true := by
  induction ds with
  | nil => rfl
  | cons d r ih =>
    show (d.showable && PyData.showableAll r) = true
    rw [h d List.mem_cons_self, ih fun x hx => h x (List.mem_cons_of_mem _ hx)]; rfl
theorem all_depth {ds : List PyData} {k : Nat} (h : ∀ d ∈ ds, d.depth ≤ k) : PyData.depthAll ds ≤ k := by
  induction ds with
  | nil => exact Nat.zero_le _
  | cons d r ih => exact Nat.max_le.mpr ⟨h d List.mem_cons_self, ih fun x hx => h x (List.mem_cons_of_mem _ hx)⟩
theorem all_shown {ds : List PyData} {m : Nat} (h : ∀ d ∈ ds, d.shown.length ≤ m) : ((PyData.shownAll ds).map (·.length)).sum ≤ ds.length * m ∧ (PyData.shownAll ds).length = ds.length := by
  induction ds with
  | nil => exact ⟨Nat.zero_le _, rfl⟩
  | cons d r ih =>
    obtain ⟨h1, h2⟩ := ih fun x hx => h x (List.mem_cons_of_mem _ hx)
    have h3 := h d List.mem_cons_self
    refine ⟨?_, congrArg (· + 1) h2⟩
    show ((d.shown :: PyData.shownAll r).map (·.length)).sum ≤ (r.length + 1) * m
    rw [List.map_cons, List.sum_cons, Nat.add_mul, Nat.one_mul]
    omega
theorem fine_list {ds : List PyData} {k m n : Nat} (h : ∀ d ∈ ds, Fine k m d) (hn : ds.length ≤ n) (hb : n ≤ 100000) : Fine (k + 1) (n * (m + 2) + 3) (.list ds) := by
  refine ⟨all_lay fun d hd => (h d hd).lay, all_showable fun d hd => (h d hd).show_, Nat.succ_le_succ (all_depth fun d hd => (h d hd).depth), ⟨Nat.le_trans hn hb, narrow_of fun d hd => (h d hd).nar⟩, ?_⟩
  obtain ⟨h1, h2⟩ := all_shown fun d hd => (h d hd).len
  have h3 := listText_len_le (PyData.shownAll ds)
  have h4 : ds.length * m ≤ n * m := Nat.mul_le_mul_right _ hn
  show (listText (PyData.shownAll ds)).length ≤ _
  rw [Nat.mul_add]
  omega
theorem fine_tuple {ds : List PyData} {k m n : Nat} (h : ∀ d ∈ ds, Fine k m d) (hn : ds.length ≤ n) (hb : n ≤ 100000) : Fine (k + 1) (n * (m + 2) + 3) (.tuple ds) := by
  refine ⟨all_lay fun d hd => (h d hd).lay, all_showable fun d hd => (h d hd).show_, Nat.succ_le_succ (all_depth fun d hd => (h d hd).depth), ⟨Nat.le_trans hn hb, narrow_of fun d hd => (h d hd).nar⟩, ?_⟩
  obtain ⟨h1, h2⟩ := all_shown fun d hd => (h d hd).len
  have h3 := tupleText_len_le (PyData.shownAll ds)
  have h4 : ds.length * m ≤ n * m := Nat.mul_le_mul_right _ hn
  show (tupleText (PyData.shownAll ds)).length ≤ _
  rw [Nat.mul_add]
  omega
/-- numbers as data -/
def nd (l : List Nat) : List PyData := l.map fun (i : Nat) => PyData.int (i : Int)
theorem nd_length (l : List Nat) : (nd l).length = l.length := List.length_map _
theorem dp_nats {K : PySem.W.Frag} {H : Hp} : ∀ l : List Nat, DpAll K H (nv l) (nd l)
  | [] => .nil
  | i :: r => .cons (.int i) (dp_nats r)
theorem fine_nd {l : List Nat} (h : ∀ i ∈ l, i < 2 ^ 60) : ∀ d ∈ nd l, Fine 0 61 d := fun d hd => by
  obtain ⟨i, hi, rfl⟩ := List.mem_map.mp hd
  exact fine_nat (h i hi)
/-- a tuple of numbers -/
theorem fine_tup {l : List Nat} {n : Nat} (h : ∀ i ∈ l, i < 2 ^ 60) (hn : l.length ≤ n) (hb : n ≤ 100000) : Fine 1 (n * 63 + 3) (.tuple (nd l)) := fine_tuple (fine_nd h) (by rw [nd_length]; exact hn) hb
/-! ### lists of pairs of numbers -/
/-- at the places as stand the pairs ps -/
def Prs (H : Hp) (as : List Addr) (ps : List (Nat × Nat)) : Prop := Paired (fun a (p : Nat × Nat) => H a = some (.tup [.int p.1, .int p.2])) as ps
theorem Prs.length {H : Hp} {as : List Addr} {ps : List (Nat × Nat)} (h : Prs H as ps) : as.length = ps.length := Paired.length h
theorem prs_same {H H' : Hp} (e : Same H H') : ∀ {as : List Addr} {ps : List (Nat × Nat)}, Prs H as ps → Prs H' as ps
  | _, _, .nil => .nil
  | _, _, .cons h r => .cons (e _ _ h) (prs_same e r)
theorem prs_keep {b : Addr} {H H' : Hp} {ys : List V} (k : Keep b H H') (hb : H b = some (.lst ys)) : ∀ {as : List Addr} {ps : List (Nat × Nat)}, Prs H as ps → Prs H' as ps
  | _, _, .nil => .nil
  | _, _, .cons h r => .cons (k.tup hb h) (prs_keep k hb r)
theorem prs_get {H : Hp} : ∀ {as : List Addr} {ps : List (Nat × Nat)} {i : Nat} {a : Addr}, Prs H as ps → as[i]? = some a → ∃ p, ps[i]? = some p ∧ H a = some (.tup [.int p.1, .int p.2])
  | _, _, _, _, .nil, h => by simp at h
  | _, _, 0, _, .cons (b := p) h _, e => by
    cases Option.some.inj e
    exact ⟨p, rfl, h⟩
  | _, _, i + 1, a, .cons _ r, e => prs_get (i := i) r e
theorem prs_append {H : Hp} : ∀ {as bs : List Addr} {ps qs : List (Nat × Nat)}, Prs H as ps → Prs H bs qs → Prs H (as ++ bs) (ps ++ qs)
  | _, _, _, _, .nil, s => s
  | _, _, _, _, .cons h r, s => .cons h (prs_append r s)
def pd (p : Nat × Nat) : PyData := .tuple [.int (p.1 : Int), .int (p.2 : Int)]
theorem prs_dp {K : PySem.W.Frag} {H : Hp} : ∀ {as : List Addr} {ps : List (Nat × Nat)}, Prs H as ps → DpAll K H (as.map V.ref) (ps.map pd)
  | _, _, .nil => .nil
  | _, _, .cons h r => .cons (.tup (.inl (.inl h)) (.cons (.int _) (.cons (.int _) .nil))) (prs_dp r)
theorem fine_pd {p : Nat × Nat} (h1 : p.1 < 2 ^ 60) (h2 : p.2 < 2 ^ 60) : Fine 1 129 (pd p) := fine_tuple (n := 2) (fun d hd => by
  rcases List.mem_cons.mp hd with z | z
  · rw [z]; exact fine_nat h1
  · rw [List.mem_singleton.mp z]; exact fine_nat h2) (Nat.le_refl _) (by decide)
/-- a list of pairs -/
theorem fine_pds {ps : List (Nat × Nat)} {n : Nat} (h : ∀ p ∈ ps, p.1 < 2 ^ 60 ∧ p.2 < 2 ^ 60) (hn : ps.length ≤ n) (hb : n ≤ 100000) : Fine 2 (n * 131 + 3) (.list (ps.map pd)) :=
  fine_list (fun d hd => by
    obtain ⟨p, hp, rfl⟩ := List.mem_map.mp hd
    exact fine_pd (h p hp).1 (h p hp).2) (by rw [List.length_map]; exact hn) hb
end Pc
namespace Pc
open PySem PySem.Spec PyProof.Rows L2 RZ
/-! ### a list or a tuple: walked, unpacked -/
/-- a list or a tuple is read -/
def Sq (K : PySem.W.Frag) (H : Hp) (a : Addr) (xs : List V) : Prop := SqL K H a xs ∨ SqT K H a xs
theorem Sq.same {K : PySem.W.Frag} {H H' : Hp} {a : Addr} {xs : List V} (h : Sq K H a xs) (e : Same H H') : Sq K H' a xs := h.imp (fun z => e.seq z) (fun z => same_tup e z)
def iSeq (K : PySem.W.Frag) (tl : TE) : TI := fun σ H R => tl σ H fun x H1 => ∃ a, x = .ref a ∧ (((∃ xs, SqL K H1 a xs) ∧ R (Itl K a) H1) ∨ ((∃ xs, SqT K H1 a xs) ∧ R (Itt K a) H1))
section
variable {X : Cx}
theorem pi_seq {tg l : Expr} {tl : TE} (hl : PE X l tl) : PI X tg l (iSeq X.K tl) := by
  constructor
  intro pins s σ H R I h
  refine thn (hl.run pins s σ H _ I h) ?_
  rintro v s1 ⟨x, H1, I1, r1, a, ex, q⟩
  subst ex
  cases r1
  rcases q with ⟨⟨xs, hx⟩, q⟩ | ⟨⟨xs, hx⟩, q⟩
  · obtain ⟨its, _, p, _⟩ := I1.list hx
    refine wpAny_pyIter_list p.isList ?_
    exact pi_one (tk := s1.toks) I1 _ (turn_list _ _) ⟨_, Heap.get?_push_size _ rfl, rfl, rfl⟩ q
  · obtain ⟨its, _, p, _⟩ := I1.tuple hx
    refine wpAny_pyIter_tuple p ?_
    exact pi_one (tk := s1.toks) I1 _ (turn_tuple _ _) ⟨_, Heap.get?_push_size _ rfl, rfl, rfl⟩ q
/-- names unpacked from a tuple or a list -/
def gSeq (K : PySem.W.Frag) (n : Nat) (t : TGs) : TG := fun v σ H Q => ∃ a xs, v = .ref a ∧ Sq K H a xs ∧ xs.length = n ∧ t xs σ H Q
theorem pg_seq {es : List Expr} {k : Nat} {t : TGs} {n : Nat} {pos : Pos} (hc : X.calm = true) (h : PGs X es t)
    (hn : (assignEach es X.env).length = n := by rfl) (hst : (assignEach es X.env).findIdx? (·.1) = none := by rfl) : PG X (.Tuple es k pos) (gSeq X.K n t) := by
  constructor
  intro pins s σ H v u Q I r hw
  obtain ⟨a, xs, e, hq, hl, hw⟩ := hw
  rcases hq with hq | hq
  · exact (pg_unl (pos := pos) (k := k) hc h hn hst).run pins s σ H v u Q I r ⟨a, xs, e, hq, hl, hw⟩
  · exact (pg_tup (pos := pos) (k := k) hc h hn hst).run pins s σ H v u Q I r ⟨a, xs, e, hq, hl, hw⟩
/-! ### a call with keywords alone -/
def tKw (n : Nat) (sp : Sp) (gV : List V → List V) (E : XK) (tk : TA) : TE := fun σ H Q => tk σ H fun zs H1 => zs.length = n ∧ sp (gV zs) H1 Q E
theorem pe_kw {CX : CXT} {k : Nat} {f : Addr} {fd : FuncData} {ps ks : List Str} {sp : Sp} {E : XK} {x : Str} {p pos : Pos} {kws : List Keyword} {tk : TA} {g : List Value → List Value} {gV : List V → List V}
    (F : FnOk X.prog X.w X.K X.mg X.base CX k f fd ps sp) (hr : Room k X.A) (hg : Gl X x) (hm : X.mg x = some (.ref f)) (hk : PySem.W.keepIn X.K (.ref f) = true)
    (hb : ∀ (s : Shared) (ws : List Value), ws.length = ks.length → BindsTo s fd ⟨[], ks.zip ws⟩ (ps.zip (g ws))) (rel : ∀ {zs : List V} {ws : List Value}, zs.length = ks.length → Vals zs ws → Vals (gV zs) (g ws)) (hx : Passes CX X E) (hkw : PK X kws tk)
    (hall : (backToKw pos (keywordEach kws X.env)).all (·.1.isSome) = true := by rfl) (hks : (backToKw pos (keywordEach kws X.env)).filterMap (·.1) = ks := by rfl) (hdb : (x == ("__debug__" : Str)) = false := by decide)
    (hpl : ((backTo pos (starEach [] X.env)).any (·.1) || (backToKw pos (keywordEach kws X.env)).any (·.1.isNone)) = false := by rfl) :
    PE X (.Call (.Name x p) [] kws pos) (tKw ks.length sp gV E tk) := by
  constructor
  intro pins s σ H Q I h
  refine wpAny_Call_Name_kw (ld_glob I hg hm ?_ hdb)
  refine PySem.W.callWith_KW0 (h₀ := X.base) I.ok.mod.kin hk hall (thn (hkw.run pos pins s σ H _ I h) ?_) hpl
  rintro ws s2 ⟨zs, H2, I2, rz, hz, q⟩
  refine ⟨I2.kIn, ?_⟩
  rw [hks]
  refine wpAny_call (codeAny_mono (F.run X.A X.stack s2 H2 ⟨[], ks.zip ws⟩ (g ws) (gV zs) Q E hr I2.env0 (hb s2 ws (by rw [← rz.length, hz])) (rel hz rz) q) ?_)
  intro res s' hq
  cases res with
  | error e => exact hx pins σ H2 s2 e s' I2 hq
  | ok fl =>
    cases fl with
    | ret u => exact I2.after hq
    | next => exact hq.elim
    | brk => exact hq.elim
    | cont => exact hq.elim
end
theorem kw_to {K : PySem.W.Frag} {x qual : Str} {st : Stmt} {f : Addr} {fd : FuncData} {ps ks : List Str} {g : List Value → List Value} (F : Fun K x qual st f fd)
    (h : ∀ (kV doc pm : Value) (an : Option Addr) (cdv ct : Value) (ws : List Value), ws.length = ks.length → bindArgs (PySem.W.fnOf x qual (defArgs st) (defBody st) (defScope st) .none kV doc pm an cdv ct) ⟨[], ks.zip ws⟩ = pure (ps.zip (g ws))) :
    ∀ (s : Shared) (ws : List Value), ws.length = ks.length → BindsTo s fd ⟨[], ks.zip ws⟩ (ps.zip (g ws)) := by
  obtain ⟨oc, od, kV, doc, pm, an, cdv, ct, osl, rfl, lk, hcd⟩ := F.ex
  intro s ws hl
  exact .of_eq (h kV doc pm an cdv ct ws hl)
end Pc
namespace Pc
open PySem PySem.Spec PyProof.Rows L2 RZ
/-! ### the couples of a pairing -/
/-- the couples whose first person is below i -/
def cplN (ps : List Nat) (i : Nat) : List (Nat × Nat) := ((List.range i).filter fun x => decide (x < ps.getD x 0)).map fun x => (x, ps.getD x 0)
def cpl (ps : List Nat) : List (Nat × Nat) := cplN ps ps.length
theorem getD_of {ps : List Nat} {x y : Nat} (h : ps[x]? = some y) : ps.getD x 0 = y := by
  rw [List.getD_eq_getElem?_getD, h]; rfl
theorem cplN_yes {ps : List Nat} {i y : Nat} (h : ps[i]? = some y) (hl : i < y) : cplN ps (i + 1) = cplN ps i ++ [(i, y)] := by
  unfold cplN
  rw [List.range_succ, List.filter_append, List.map_append]
  congr 1
  rw [List.filter_cons_of_pos (by rw [getD_of h]; exact decide_eq_true hl), List.filter_nil, List.map_cons, List.map_nil, getD_of h]
theorem cplN_no {ps : List Nat} {i y : Nat} (h : ps[i]? = some y) (hl : ¬ i < y) : cplN ps (i + 1) = cplN ps i := by
  unfold cplN
  rw [List.range_succ, List.filter_append, List.map_append, List.filter_cons_of_neg (by rw [getD_of h]; simpa using hl), List.filter_nil, List.map_nil, List.append_nil]
theorem cplN_len (ps : List Nat) (i : Nat) : (cplN ps i).length ≤ i := by
  unfold cplN
  rw [List.length_map]
  exact Nat.le_trans (List.length_filter_le _ _) (by rw [List.length_range]; exact Nat.le_refl _)
theorem mem_cpl {n : Nat} {ps : List Nat} (h : IsPair n ps) {p : Nat × Nat} : p ∈ cpl ps ↔ ps[p.1]? = some p.2 ∧ p.1 < p.2 := by
  unfold cpl cplN
  rw [h.len]
  constructor
  · intro hp
    obtain ⟨x, hx, rfl⟩ := List.mem_map.mp hp
    obtain ⟨h1, h2⟩ := List.mem_filter.mp hx
    obtain ⟨y, e, _⟩ := h.par x (List.mem_range.mp h1)
    rw [getD_of e] at h2 ⊢
    exact ⟨e, of_decide_eq_true h2⟩
  · rintro ⟨e, hl⟩
    refine List.mem_map.mpr ⟨p.1, List.mem_filter.mpr ⟨List.mem_range.mpr ?_, ?_⟩, ?_⟩
    · rw [← h.len]; exact get_lt e
    · rw [getD_of e]; exact decide_eq_true hl
    · rw [getD_of e]
theorem IsPair.back {n : Nat} {ps : List Nat} (h : IsPair n ps) {x y : Nat} (e : ps[x]? = some y) : ps[y]? = some x ∧ y < n ∧ x < n ∧ y ≠ x := by
  have hx : x < n := by rw [← h.len]; exact get_lt e
  obtain ⟨z, e1, e2, e3, e4⟩ := h.par x hx
  cases Option.some.inj (e.symm.trans e1)
  exact ⟨e4, e2, hx, e3⟩
theorem cpl_cover {n : Nat} {ps : List Nat} (h : IsPair n ps) {z : Nat} (hz : z < n) : ∃ p ∈ cpl ps, p.1 = z ∨ p.2 = z := by
  obtain ⟨y, e1, e2, e3, e4⟩ := h.par z hz
  rcases Nat.lt_or_gt_of_ne e3 with l | l
  · exact ⟨(y, z), (mem_cpl h).mpr ⟨e4, l⟩, .inr rfl⟩
  · exact ⟨(z, y), (mem_cpl h).mpr ⟨e1, l⟩, .inl rfl⟩
theorem filter_split {α : Type} (f : α → Bool) : ∀ l : List α, (l.filter f).length + (l.filter fun x => !f x).length = l.length
  | [] => rfl
  | a :: r => by
    have ih := filter_split f r
    cases e : f a with
    | true => rw [List.filter_cons_of_pos e, List.filter_cons_of_neg (by rw [e]; decide), List.length_cons, List.length_cons]; omega
    | false => rw [List.filter_cons_of_neg (by rw [e]; decide), List.filter_cons_of_pos (by rw [e]; rfl), List.length_cons, List.length_cons]; omega
theorem cpl_half {n : Nat} {ps : List Nat} (h : IsPair n ps) : 2 * (cpl ps).length = n := by
  have e1 : (cpl ps).length = ((List.range n).filter fun x => decide (x < ps.getD x 0)).length := by
    unfold cpl cplN; rw [List.length_map, h.len]
  have inj : ∀ x y, x < n → y < n → ps.getD x 0 = ps.getD y 0 → x = y := fun x y hx hy e => by
    obtain ⟨u, a1, _, _, a4⟩ := h.par x hx
    obtain ⟨v, b1, _, _, b4⟩ := h.par y hy
    rw [getD_of a1, getD_of b1] at e
    subst e
    exact Option.some.inj (a4.symm.trans b4)
  have nd0 : (List.range n).Nodup := List.nodup_range
  have p1 : (((List.range n).filter fun x => decide (x < ps.getD x 0)).map fun x => ps.getD x 0).Perm ((List.range n).filter fun x => !decide (x < ps.getD x 0)) := by
    refine (List.perm_ext_iff_of_nodup ?_ (nd0.filter _)).mpr fun z => ?_
    · refine List.Pairwise.map _ (fun a b hab => hab) ?_
      refine List.Pairwise.imp_of_mem (fun {a b} ha hb hab => ?_) (nd0.filter fun x => decide (x < ps.getD x 0))
      exact fun e => hab (inj a b (List.mem_range.mp (List.mem_filter.mp ha).1) (List.mem_range.mp (List.mem_filter.mp hb).1) e)
    · constructor
      · intro hz
        obtain ⟨x, hx, rfl⟩ := List.mem_map.mp hz
        obtain ⟨h1, h2⟩ := List.mem_filter.mp hx
        obtain ⟨y, a1, a2, a3, a4⟩ := h.par x (List.mem_range.mp h1)
        rw [getD_of a1] at h2 ⊢
        have h3 := of_decide_eq_true h2
        refine List.mem_filter.mpr ⟨List.mem_range.mpr a2, ?_⟩
        rw [getD_of a4, decide_eq_false (by omega)]; rfl
      · intro hz
        obtain ⟨h1, h2⟩ := List.mem_filter.mp hz
        obtain ⟨y, a1, a2, a3, a4⟩ := h.par z (List.mem_range.mp h1)
        rw [getD_of a1] at h2
        have h3 : ¬ z < y := by simpa using h2
        refine List.mem_map.mpr ⟨y, List.mem_filter.mpr ⟨List.mem_range.mpr a2, ?_⟩, getD_of a4⟩
        rw [getD_of a4]
        exact decide_eq_true (by omega)
  have e2 := p1.length_eq
  rw [List.length_map] at e2
  have e3 := filter_split (fun x => decide (x < ps.getD x 0)) (List.range n)
  rw [List.length_range] at e3
  omega
/-- what pairs must be so that they make the pairing ps -/
structure Makes (qs : List (Nat × Nat)) (ps : List Nat) : Prop where
  half : 2 * qs.length = ps.length
  ok : ∀ p ∈ qs, ps[p.1]? = some p.2 ∧ ps[p.2]? = some p.1
  all : ∀ z, z < ps.length → ∃ p ∈ qs, p.1 = z ∨ p.2 = z
theorem makes_cpl {n : Nat} {ps : List Nat} (h : IsPair n ps) : Makes (cpl ps) ps where
  half := by rw [cpl_half h, h.len]
  ok p hp := by
    obtain ⟨e, _⟩ := (mem_cpl h).mp hp
    exact ⟨e, (h.back e).1⟩
  all z hz := cpl_cover h (by rw [← h.len]; exact hz)
/-- the pairs of qs in any order, turned or not -/
theorem Makes.turned {qs rs : List (Nat × Nat)} {ps : List Nat} (h : Makes qs ps) (hl : rs.length = qs.length) (h1 : ∀ p ∈ rs, p ∈ qs ∨ (p.2, p.1) ∈ qs) (h2 : ∀ p ∈ qs, p ∈ rs ∨ (p.2, p.1) ∈ rs) : Makes rs ps where
  half := by rw [hl]; exact h.half
  ok p hp := by
    rcases h1 p hp with z | z
    · exact h.ok p z
    · obtain ⟨a, b⟩ := h.ok _ z
      exact ⟨b, a⟩
  all z hz := by
    obtain ⟨p, hp, e⟩ := h.all z hz
    rcases h2 p hp with q | q
    · exact ⟨p, q, e⟩
    · exact ⟨_, q, e.symm⟩
def CInv (ps : List Nat) (qs : List (Nat × Nat)) (fs : List Nat) (i : Nat) : Prop := fs.length = ps.length ∧ ∀ j, j < i → ∀ p, qs[j]? = some p → fs[p.1]? = ps[p.1]? ∧ fs[p.2]? = ps[p.2]?
theorem set_keeps {ps fs : List Nat} {x y z : Nat} (hy : ps[x]? = some y) (hx : x < fs.length) (h : fs[z]? = ps[z]?) : (fs.set x y)[z]? = ps[z]? := by
  by_cases e : x = z
  · subst e
    rw [List.getElem?_set_self hx, hy]
  · rw [List.getElem?_set_ne e]; exact h
theorem CInv.step {ps fs : List Nat} {qs : List (Nat × Nat)} {i : Nat} {p : Nat × Nat} (m : Makes qs ps) (h : CInv ps qs fs i) (hp : qs[i]? = some p) : CInv ps qs ((fs.set p.1 p.2).set p.2 p.1) (i + 1) := by
  obtain ⟨hl, hj⟩ := h
  obtain ⟨o1, o2⟩ := m.ok p (List.mem_of_getElem? hp)
  have l1 : p.1 < fs.length := by rw [hl]; exact get_lt o1
  have l2 : p.2 < (fs.set p.1 p.2).length := by rw [List.length_set, hl]; exact get_lt o2
  refine ⟨by rw [List.length_set, List.length_set, hl], fun j hj2 r hr => ?_⟩
  by_cases e : j = i
  · subst e
    cases Option.some.inj (hp.symm.trans hr)
    refine ⟨set_keeps o2 l2 ?_, ?_⟩
    · rw [List.getElem?_set_self l1, o1]
    · rw [List.getElem?_set_self l2, o2]
  · obtain ⟨a, b⟩ := hj j (by omega) r hr
    exact ⟨set_keeps o2 l2 (set_keeps o1 l1 a), set_keeps o2 l2 (set_keeps o1 l1 b)⟩
theorem CInv.done {ps fs : List Nat} {qs : List (Nat × Nat)} (m : Makes qs ps) (h : CInv ps qs fs qs.length) : fs = ps := by
  refine List.ext_getElem? fun z => ?_
  by_cases hz : z < ps.length
  · obtain ⟨p, hp, e⟩ := m.all z hz
    obtain ⟨i, hi, ei⟩ := List.mem_iff_getElem.mp hp
    obtain ⟨a, b⟩ := h.2 i hi p (by rw [List.getElem?_eq_getElem hi, ei])
    rcases e with e | e
    · rw [← e]; exact a
    · rw [← e]; exact b
  · rw [List.getElem?_eq_none (by rw [h.1]; omega), List.getElem?_eq_none (by omega)]
end Pc
namespace Pc
open PySem PySem.Spec PyProof.Rows L2 RZ
section
variable {K : PySem.W.Frag}
/-- the values us are the pairs qs, each a tuple or a list -/
def Items (K : PySem.W.Frag) (H : Hp) (us : List V) (qs : List (Nat × Nat)) : Prop := us.length = qs.length ∧ ∀ (i : Nat) (v : V), us[i]? = some v → ∃ (c : Addr) (p : Nat × Nat), v = .ref c ∧ qs[i]? = some p ∧ Sq K H c [.int p.1, .int p.2]
theorem Items.same {H H' : Hp} {us : List V} {qs : List (Nat × Nat)} (h : Items K H us qs) (e : Same H H') : Items K H' us qs := ⟨h.1, fun i v hv => by
  obtain ⟨c, p, h1, h2, h3⟩ := h.2 i v hv
  exact ⟨c, p, h1, h2, h3.same e⟩⟩
theorem items_of {H : Hp} {as : List Addr} {qs : List (Nat × Nat)} (h : Prs H as qs) : Items K H (as.map V.ref) qs := ⟨by rw [List.length_map]; exact h.length, fun i v hv => by
  rw [List.getElem?_map] at hv
  cases e : as[i]? with
  | none => rw [e] at hv; cases hv
  | some c =>
    rw [e] at hv
    obtain ⟨p, h1, h2⟩ := prs_get h e
    exact ⟨c, p, (Option.some.inj hv).symm, h1, .inr (.inl (.inl h2))⟩⟩
end
end Pc
namespace Pc
open PySem PySem.Spec PyProof.Rows L2 RZ
theorem paired_perm {α β : Type} {R : α → β → Prop} {as bs : List α} (h : as.Perm bs) : ∀ ps : List β, Paired R as ps → ∃ qs : List β, qs.Perm ps ∧ Paired R bs qs := by
  induction h with
  | nil => exact fun ps h => ⟨ps, List.Perm.refl _, h⟩
  | cons x _ ih =>
    intro ps h
    cases h with
    | cons r t =>
      obtain ⟨qs, h1, h2⟩ := ih _ t
      exact ⟨_ :: qs, h1.cons _, .cons r h2⟩
  | swap x y l =>
    intro ps h
    cases h with
    | cons r t =>
      cases t with
      | cons r2 t2 => exact ⟨_, List.Perm.swap _ _ _, .cons r2 (.cons r t2)⟩
  | trans _ _ ih1 ih2 =>
    intro ps h
    obtain ⟨qs, h1, h2⟩ := ih1 ps h
    obtain ⟨rs, h3, h4⟩ := ih2 qs h2
    exact ⟨rs, h3.trans h1, h4⟩
/-- the same pairs, some turned -/
def Turned (qs rs : List (Nat × Nat)) : Prop := rs.length = qs.length ∧ ∀ (j : Nat) (p q : Nat × Nat), qs[j]? = some p → rs[j]? = some q → q = p ∨ q = (p.2, p.1)
theorem Turned.mem1 {qs rs : List (Nat × Nat)} (h : Turned qs rs) : ∀ p ∈ rs, p ∈ qs ∨ (p.2, p.1) ∈ qs := fun p hp => by
  obtain ⟨j, hj, e⟩ := List.mem_iff_getElem.mp hp
  obtain ⟨q, hq⟩ := get_some (l := qs) (i := j) (by rw [← h.1]; exact hj)
  rcases h.2 j q p hq (by rw [List.getElem?_eq_getElem hj, e]) with z | z
  · exact .inl (z ▸ List.mem_of_getElem? hq)
  · refine .inr ?_
    rw [z]
    exact List.mem_of_getElem? hq
theorem Turned.mem2 {qs rs : List (Nat × Nat)} (h : Turned qs rs) : ∀ p ∈ qs, p ∈ rs ∨ (p.2, p.1) ∈ rs := fun p hp => by
  obtain ⟨j, hj, e⟩ := List.mem_iff_getElem.mp hp
  obtain ⟨q, hq⟩ := get_some (l := rs) (i := j) (by rw [h.1]; exact hj)
  rcases h.2 j p q (by rw [List.getElem?_eq_getElem hj, e]) hq with z | z
  · exact .inl (z ▸ List.mem_of_getElem? hq)
  · exact .inr (z ▸ List.mem_of_getElem? hq)
theorem Makes.perm {qs rs : List (Nat × Nat)} {ps : List Nat} (h : Makes qs ps) (e : rs.Perm qs) : Makes rs ps := h.turned e.length_eq (fun p hp => .inl (e.mem_iff.mp hp)) (fun p hp => .inl (e.mem_iff.mpr hp))
theorem IsPair.lt {n : Nat} {ps : List Nat} (h : IsPair n ps) : ∀ i ∈ ps, i < n := fun i hi => by
  obtain ⟨x, hx, e⟩ := List.mem_iff_getElem.mp hi
  obtain ⟨y, e1, e2, _⟩ := h.par x (by rw [← h.len]; exact hx)
  rw [List.getElem?_eq_getElem hx, e] at e1
  cases Option.some.inj e1
  exact e2
theorem Makes.lt {qs : List (Nat × Nat)} {ps : List Nat} (h : Makes qs ps) : ∀ p ∈ qs, p.1 < ps.length ∧ p.2 < ps.length := fun p hp => ⟨get_lt (h.ok p hp).1, get_lt (h.ok p hp).2⟩
theorem iteN {A B : Prop} (h : B) : if (!true) = true then A else B := by
  rw [if_neg (by decide)]
  exact h
end Pc
namespace Pc
open PySem PySem.Spec PyProof.Rows L2 RZ
/-! ### a loop over a list or a tuple that stays as it is -/
theorem for_seq {K : PySem.W.Frag} {a : Addr} {xs : List V} {g : TG} {tb : TS} {D : Ends} {σ : L2.St} {H0 H : Hp} (hS : Sq K H0 a xs) (Pv : Nat → L2.St → Hp → Prop) (h0 : Pv 0 σ H) (hst : ∀ i σ H', Pv i σ H' → Same H0 H')
    (hs : ∀ i x σ H', xs[i]? = some x → Pv i σ H' → g x σ H' fun σ2 H2 => tb { D with nx := Pv (i + 1), ct := Pv (i + 1), bk := D.nx } σ2 H2) (hd : ∀ σ H', Pv xs.length σ H' → D.nx σ H') :
    ((∃ ys, SqL K H a ys) ∧ ∃ W : Nat → Nat → L2.St → Hp → Prop, (∃ m, W 0 m σ H) ∧ ∀ i m σ H, W i m σ H → ((Itl K a).stop i H ∧ D.nx σ H) ∨ ((Itl K a).go i H ∧ ∃ N : L2.St → Hp → Prop, (∀ σ' H', N σ' H' → ∃ m', m' < m ∧ W (i + 1) m' σ' H') ∧ ∀ x H', (Itl K a).yld i H x H' → g x σ H' fun σ2 H2 => tb { D with nx := N, ct := N, bk := D.nx } σ2 H2)) ∨
    ((∃ ys, SqT K H a ys) ∧ ∃ W : Nat → Nat → L2.St → Hp → Prop, (∃ m, W 0 m σ H) ∧ ∀ i m σ H, W i m σ H → ((Itt K a).stop i H ∧ D.nx σ H) ∨ ((Itt K a).go i H ∧ ∃ N : L2.St → Hp → Prop, (∀ σ' H', N σ' H' → ∃ m', m' < m ∧ W (i + 1) m' σ' H') ∧ ∀ x H', (Itt K a).yld i H x H' → g x σ H' fun σ2 H2 => tb { D with nx := N, ct := N, bk := D.nx } σ2 H2)) := by
  rcases hS with h | h
  · exact .inl ⟨⟨_, (hst 0 σ H h0).seq h⟩, for_list Pv h0 (fun i σ H' _ p => (hst i σ H' p).seq h) hs hd⟩
  · exact .inr ⟨⟨_, same_tup (hst 0 σ H h0) h⟩, for_tup Pv h0 (fun i σ H' _ p => same_tup (hst i σ H' p) h) hs hd⟩
/-! ### two are joined, and the two that are left -/
def jn (fs : List Nat) (a b : Nat) : List Nat := if fs.getD a 0 = b then fs else (((fs.set a b).set b a).set (fs.getD a 0) (fs.getD b 0)).set (fs.getD b 0) (fs.getD a 0)
theorem jn_len (fs : List Nat) (a b : Nat) : (jn fs a b).length = fs.length := by
  unfold jn
  split
  · rfl
  · simp only [List.length_set]
/-- the four are different -/
theorem four {n : Nat} {fs : List Nat} (h : IsPair n fs) {a b c d : Nat} (hab : a ≠ b) (ea : fs[a]? = some c) (eb : fs[b]? = some d) (hcb : c ≠ b) : c ≠ a ∧ d ≠ b ∧ d ≠ a ∧ c ≠ d ∧ a < n ∧ b < n ∧ c < n ∧ d < n := by
  obtain ⟨a1, a2, a3, a4⟩ := h.back ea
  obtain ⟨b1, b2, b3, b4⟩ := h.back eb
  refine ⟨a4, b4, fun e => ?_, fun e => ?_, a3, b3, a2, b2⟩
  · rw [e, ea] at b1; exact hcb (Option.some.inj b1)
  · rw [e, b1] at a1; exact hab (Option.some.inj a1).symm
theorem jn_same {fs : List Nat} {a b : Nat} (e : fs[a]? = some b) : jn fs a b = fs := by
  unfold jn
  rw [getD_of e, if_pos rfl]
theorem jn_get {n : Nat} {fs : List Nat} (h : IsPair n fs) {a b c d : Nat} (hab : a ≠ b) (ea : fs[a]? = some c) (eb : fs[b]? = some d) (hcb : c ≠ b) (z : Nat) :
    (jn fs a b)[z]? = if z = a then some b else if z = b then some a else if z = c then some d else if z = d then some c else fs[z]? := by
  obtain ⟨x1, x2, x3, x4, l1, l2, l3, l4⟩ := four h hab ea eb hcb
  unfold jn
  rw [getD_of ea, getD_of eb, if_neg hcb]
  have hl := h.len
  by_cases z4 : z = d
  · subst z4
    rw [List.getElem?_set_self (by simp only [List.length_set]; omega), if_neg x3, if_neg x2, if_neg (Ne.symm x4), if_pos rfl]
  · rw [List.getElem?_set_ne (Ne.symm z4)]
    by_cases z3 : z = c
    · subst z3
      rw [List.getElem?_set_self (by simp only [List.length_set]; omega), if_neg x1, if_neg hcb, if_pos rfl]
    · rw [List.getElem?_set_ne (Ne.symm z3)]
      by_cases z2 : z = b
      · subst z2
        rw [List.getElem?_set_self (by simp only [List.length_set]; omega), if_neg (Ne.symm hab), if_pos rfl]
      · rw [List.getElem?_set_ne (Ne.symm z2)]
        by_cases z1 : z = a
        · subst z1
          rw [List.getElem?_set_self (by omega), if_pos rfl]
        · rw [List.getElem?_set_ne (Ne.symm z1), if_neg z1, if_neg z2, if_neg z3, if_neg z4]
theorem jn_pair {n : Nat} {fs : List Nat} (h : IsPair n fs) {a b : Nat} (hab : a ≠ b) (ha : a < n) (hb : b < n) : IsPair n (jn fs a b) := by
  obtain ⟨c, ea, _⟩ := h.par a ha
  obtain ⟨d, eb, _⟩ := h.par b hb
  by_cases hcb : c = b
  · subst hcb; rw [jn_same ea]; exact h
  · have G := jn_get h hab ea eb hcb
    obtain ⟨x1, x2, x3, x4, _, _, l3, l4⟩ := four h hab ea eb hcb
    refine ⟨by rw [jn_len]; exact h.len, fun x hx => ?_⟩
    by_cases z1 : x = a
    · subst z1
      exact ⟨b, by rw [G, if_pos rfl], hb, hab.symm, by rw [G, if_neg hab.symm, if_pos rfl]⟩
    · by_cases z2 : x = b
      · subst z2
        exact ⟨a, by rw [G, if_neg z1, if_pos rfl], ha, hab, by rw [G, if_pos rfl]⟩
      · by_cases z3 : x = c
        · subst z3
          exact ⟨d, by rw [G, if_neg z1, if_neg z2, if_pos rfl], l4, x4.symm, by rw [G, if_neg x3, if_neg x2, if_neg x4.symm, if_pos rfl]⟩
        · by_cases z4 : x = d
          · subst z4
            exact ⟨c, by rw [G, if_neg z1, if_neg z2, if_neg z3, if_pos rfl], l3, x4, by rw [G, if_neg x1, if_neg hcb, if_pos rfl]⟩
          · obtain ⟨y, e1, e2, e3, e4⟩ := h.par x hx
            have back : ∀ {u : Nat}, y = u → fs[u]? = some x := fun e => by rw [← e]; exact e4
            refine ⟨y, by rw [G, if_neg z1, if_neg z2, if_neg z3, if_neg z4]; exact e1, e2, e3, ?_⟩
            rw [G, if_neg, if_neg, if_neg, if_neg]
            · exact e4
            · intro e; have q := back e; rw [(h.back eb).1] at q; exact z2 (Option.some.inj q).symm
            · intro e; have q := back e; rw [(h.back ea).1] at q; exact z1 (Option.some.inj q).symm
            · intro e; have q := back e; rw [eb] at q; exact z4 (Option.some.inj q).symm
            · intro e; have q := back e; rw [ea] at q; exact z3 (Option.some.inj q).symm
/-- all pairs are calls of n people -/
def Calls (n : Nat) (qs : List (Nat × Nat)) : Prop := ∀ q ∈ qs, q.1 < q.2 ∧ q.2 < n
/-- the calls done one after another -/
def runs (qs : List (Nat × Nat)) (ps : List Nat) : List Nat := qs.foldl (fun fs q => jn fs q.1 q.2) ps
theorem runs_take {qs : List (Nat × Nat)} {ps : List Nat} {i : Nat} {q : Nat × Nat} (h : qs[i]? = some q) : runs (qs.take (i + 1)) ps = jn (runs (qs.take i) ps) q.1 q.2 := by
  unfold runs
  rw [List.take_add_one, h, List.foldl_append]
  rfl
theorem runs_pair {n : Nat} : ∀ (qs : List (Nat × Nat)) {ps : List Nat}, IsPair n ps → Calls n qs → IsPair n (runs qs ps)
  | [], _, h, _ => h
  | q :: r, ps, h, hc => by
    have h1 := hc q List.mem_cons_self
    exact runs_pair r (jn_pair h (by omega) (by omega) h1.2) (fun x hx => hc x (List.mem_cons_of_mem _ hx))
theorem Calls.take {n : Nat} {qs : List (Nat × Nat)} (h : Calls n qs) (i : Nat) : Calls n (qs.take i) := fun q hq => h q (List.mem_of_mem_take hq)
end Pc
namespace Pc
open PySem PySem.Spec PyProof.Rows L2 RZ
/-! ### lists of tuples of numbers -/
def Tups (H : Hp) (as : List Addr) (ls : List (List Nat)) : Prop := Paired (fun a l => H a = some (.tup (nv l))) as ls
theorem Tups.length {H : Hp} {as : List Addr} {ls : List (List Nat)} (h : Tups H as ls) : as.length = ls.length := Paired.length h
theorem tups_same {H H' : Hp} (e : Same H H') : ∀ {as : List Addr} {ls : List (List Nat)}, Tups H as ls → Tups H' as ls
  | _, _, .nil => .nil
  | _, _, .cons h r => .cons (e _ _ h) (tups_same e r)
theorem tups_keep {b : Addr} {H H' : Hp} {ys : List V} (k : Keep b H H') (hb : H b = some (.lst ys)) : ∀ {as : List Addr} {ls : List (List Nat)}, Tups H as ls → Tups H' as ls
  | _, _, .nil => .nil
  | _, _, .cons h r => .cons (k.tup hb h) (tups_keep k hb r)
theorem tups_append {H : Hp} : ∀ {as bs : List Addr} {ls ms : List (List Nat)}, Tups H as ls → Tups H bs ms → Tups H (as ++ bs) (ls ++ ms)
  | _, _, _, _, .nil, s => s
  | _, _, _, _, .cons h r, s => .cons h (tups_append r s)
theorem tups_get {H : Hp} : ∀ {as : List Addr} {ls : List (List Nat)} {i : Nat} {a : Addr}, Tups H as ls → as[i]? = some a → ∃ l, ls[i]? = some l ∧ H a = some (.tup (nv l))
  | _, _, _, _, .nil, h => by simp at h
  | _, _, 0, _, .cons (b := p) h _, e => by
    cases Option.some.inj e
    exact ⟨p, rfl, h⟩
  | _, _, i + 1, a, .cons _ r, e => tups_get (i := i) r e
def td (l : List Nat) : PyData := .tuple (nd l)
theorem tups_dp {K : PySem.W.Frag} {H : Hp} : ∀ {as : List Addr} {ls : List (List Nat)}, Tups H as ls → DpAll K H (as.map V.ref) (ls.map td)
  | _, _, .nil => .nil
  | _, _, .cons (b := l) h r => .cons (.tup (.inl (.inl h)) (dp_nats l)) (tups_dp r)
theorem fine_tds {ls : List (List Nat)} {n m : Nat} (h : ∀ l ∈ ls, l.length ≤ m ∧ ∀ i ∈ l, i < 2 ^ 60) (hn : ls.length ≤ n) (hb : n ≤ 100000) (hm : m ≤ 100000) : Fine 2 (n * (m * 63 + 5) + 3) (.list (ls.map td)) :=
  fine_list (fun d hd => by
    obtain ⟨l, hl, rfl⟩ := List.mem_map.mp hd
    exact fine_tup (h l hl).2 (h l hl).1 hm) (by rw [List.length_map]; exact hn) hb
/-- the pairings before the first call and behind each -/
def alongs (qs : List (Nat × Nat)) (ps : List Nat) (i : Nat) : List (List Nat) := (List.range (i + 1)).map fun j => runs (qs.take j) ps
theorem alongs_zero (qs : List (Nat × Nat)) (ps : List Nat) : alongs qs ps 0 = [ps] := rfl
theorem alongs_succ (qs : List (Nat × Nat)) (ps : List Nat) (i : Nat) : alongs qs ps (i + 1) = alongs qs ps i ++ [runs (qs.take (i + 1)) ps] := by
  unfold alongs
  rw [List.range_succ, List.map_append]
  rfl
theorem alongs_len (qs : List (Nat × Nat)) (ps : List Nat) (i : Nat) : (alongs qs ps i).length = i + 1 := by
  unfold alongs
  rw [List.length_map, List.length_range]
theorem alongs_mem {n i : Nat} {qs : List (Nat × Nat)} {ps l : List Nat} (hP : IsPair n ps) (hc : Calls n qs) (h : l ∈ alongs qs ps i) : IsPair n l := by
  obtain ⟨j, _, rfl⟩ := List.mem_map.mp h
  exact runs_pair _ hP (hc.take j)
end Pc
namespace Pc
open PySem PySem.Spec PyProof.Rows L2 RZ
/-! ### sheets as lists of natural numbers -/
/-- the empty sheet of n people -/
def emp (n : Nat) : List Nat := (List.range (2 * n)).map fun e => (e + n) % (2 * n)
theorem emp_len (n : Nat) : (emp n).length = 2 * n := by unfold emp; rw [List.length_map, List.length_range]
theorem emp_get {n e : Nat} (h : e < 2 * n) : (emp n)[e]? = some ((e + n) % (2 * n)) := by
  unfold emp
  rw [List.getElem?_map, List.getElem?_range h]
  rfl
theorem emp_lo {n e : Nat} (h : e < n) : (emp n)[e]? = some (n + e) := by
  rw [emp_get (by omega), Nat.mod_eq_of_lt (by omega), Nat.add_comm]
theorem emp_hi {n e : Nat} (h : e < n) : (emp n)[n + e]? = some e := by
  rw [emp_get (by omega), show n + e + n = e + 1 * (2 * n) by omega, Nat.add_mul_mod_self_right, Nat.mod_eq_of_lt (by omega)]
theorem emp_pair {n : Nat} (hn : 0 < n) : IsPair (2 * n) (emp n) := by
  refine ⟨emp_len n, fun x hx => ?_⟩
  by_cases h : x < n
  · exact ⟨n + x, emp_lo h, by omega, by omega, emp_hi h⟩
  · have e : x = n + (x - n) := by omega
    refine ⟨x - n, ?_, by omega, by omega, ?_⟩
    · have := emp_hi (n := n) (e := x - n) (by omega)
      rw [← e] at this; exact this
    · have := emp_lo (n := n) (e := x - n) (by omega)
      rw [← e] at this; exact this
/-- the calls at the lower ends -/
def low (n : Nat) (qs : List (Nat × Nat)) : List (Nat × Nat) := qs.map fun q => (n + q.1, n + q.2)
theorem low_calls {n : Nat} {qs : List (Nat × Nat)} (h : Calls n qs) : Calls (2 * n) (low n qs) := fun q hq => by
  obtain ⟨r, hr, rfl⟩ := List.mem_map.mp hq
  have := h r hr
  exact ⟨by show n + r.1 < n + r.2; omega, by show n + r.2 < 2 * n; omega⟩
theorem low_take (n : Nat) (qs : List (Nat × Nat)) (i : Nat) : (low n qs).take i = low n (qs.take i) := by unfold low; rw [List.map_take]
theorem low_get {n i : Nat} {qs : List (Nat × Nat)} {q : Nat × Nat} (h : qs[i]? = some q) : (low n qs)[i]? = some (n + q.1, n + q.2) := by
  unfold low; rw [List.getElem?_map, h]; rfl
/-- the sheet with calls added -/
def shw (n : Nat) (qs : List (Nat × Nat)) (fs : List Nat) : List Nat := runs (low n qs) fs
theorem shw_take {n i : Nat} {qs : List (Nat × Nat)} {fs : List Nat} {q : Nat × Nat} (h : qs[i]? = some q) : shw n (qs.take (i + 1)) fs = jn (shw n (qs.take i) fs) (n + q.1) (n + q.2) := by
  unfold shw
  rw [← low_take, ← low_take, runs_take (low_get h)]
theorem shw_pair {n : Nat} {qs : List (Nat × Nat)} {fs : List Nat} (hP : IsPair (2 * n) fs) (h : Calls n qs) : IsPair (2 * n) (shw n qs fs) := runs_pair _ hP (low_calls h)
/-- the other order of the stores -/
theorem jn_alt {n : Nat} {fs : List Nat} (h : IsPair n fs) {a b c d : Nat} (hab : a ≠ b) (ea : fs[a]? = some c) (eb : fs[b]? = some d) (hcb : c ≠ b) : (((fs.set c d).set d c).set a b).set b a = jn fs a b := by
  obtain ⟨x1, x2, x3, x4, l1, l2, l3, l4⟩ := four h hab ea eb hcb
  have hl := h.len
  refine List.ext_getElem? fun z => ?_
  rw [jn_get h hab ea eb hcb]
  by_cases z2 : z = b
  · subst z2
    rw [List.getElem?_set_self (by simp only [List.length_set]; omega), if_neg hab.symm, if_pos rfl]
  · rw [List.getElem?_set_ne (Ne.symm z2)]
    by_cases z1 : z = a
    · subst z1
      rw [List.getElem?_set_self (by simp only [List.length_set]; omega), if_pos rfl]
    · rw [List.getElem?_set_ne (Ne.symm z1), if_neg z1, if_neg z2]
      by_cases z4 : z = d
      · subst z4
        rw [List.getElem?_set_self (by simp only [List.length_set]; omega), if_neg (Ne.symm x4), if_pos rfl]
      · rw [List.getElem?_set_ne (Ne.symm z4)]
        by_cases z3 : z = c
        · subst z3
          rw [List.getElem?_set_self (by omega), if_pos rfl]
        · rw [List.getElem?_set_ne (Ne.symm z3), if_neg z3, if_neg z4]
theorem range_shift (n : Nat) : rgV (n : Int) (2 * (n : Int)) = nv ((List.range n).map fun i => n + i) := by
  unfold rgV nv
  rw [show (2 * (n : Int) - (n : Int)).toNat = n by omega, List.map_map]
  refine List.map_congr_left fun i _ => ?_
  show V.int ((n : Int) + (i : Nat)) = V.int (((n + i : Nat) : Int))
  rw [show (((n + i : Nat) : Int)) = (n : Int) + (i : Nat) by omega]
/-- strands in any order: the upper ends in turn, the lower ends as drawn -/
def SInv (n : Nat) (ls fs : List Nat) (t : Nat) : Prop := fs.length = 2 * n ∧ ∀ j, j < t → ∀ l, ls[j]? = some l → fs[j]? = some l ∧ fs[l]? = some j
theorem SInv.step {n : Nat} {ls fs : List Nat} {t l : Nat} (hp : ls.Perm ((List.range n).map fun i => n + i)) (h : SInv n ls fs t) (hl : ls[t]? = some l) : SInv n ls ((fs.set t l).set l t) (t + 1) := by
  have hln : ls.length = n := by rw [hp.length_eq, List.length_map, List.length_range]
  have hnd : ls.Nodup := hp.nodup_iff.mpr (List.Pairwise.map _ (fun a b (hab : a ≠ b) => show n + a ≠ n + b by omega) List.nodup_range)
  have big : ∀ {j x : Nat}, ls[j]? = some x → n ≤ x ∧ x < 2 * n := fun hx => by
    obtain ⟨i, hi, e⟩ := List.mem_map.mp (hp.mem_iff.mp (List.mem_of_getElem? hx))
    have := List.mem_range.mp hi
    omega
  have ht : t < n := by rw [← hln]; exact get_lt hl
  have hb := big hl
  obtain ⟨h1, h2⟩ := h
  refine ⟨by simp only [List.length_set]; exact h1, fun j hj x hx => ?_⟩
  have hjn : j < n := by rw [← hln]; exact get_lt hx
  have hbx := big hx
  by_cases e : j = t
  · subst e
    cases Option.some.inj (hl.symm.trans hx)
    exact ⟨by rw [List.getElem?_set_ne (by omega), List.getElem?_set_self (by omega)], by rw [List.getElem?_set_self (by simp only [List.length_set]; omega)]⟩
  · obtain ⟨g1, g2⟩ := h2 j (by omega) x hx
    have xl : l ≠ x := fun z => by subst z; exact e (nd_ix hnd hx hl)
    exact ⟨by rw [List.getElem?_set_ne (by omega), List.getElem?_set_ne (by omega)]; exact g1, by rw [List.getElem?_set_ne xl, List.getElem?_set_ne (by omega)]; exact g2⟩
theorem SInv.done {n : Nat} {ls fs : List Nat} (hp : ls.Perm ((List.range n).map fun i => n + i)) (h : SInv n ls fs n) : IsPair (2 * n) fs := by
  have hln : ls.length = n := by rw [hp.length_eq, List.length_map, List.length_range]
  refine ⟨h.1, fun x hx => ?_⟩
  by_cases e : x < n
  · obtain ⟨l, hl⟩ := get_some (l := ls) (i := x) (by omega)
    obtain ⟨i, hi, e'⟩ := List.mem_map.mp (hp.mem_iff.mp (List.mem_of_getElem? hl))
    have := List.mem_range.mp hi
    obtain ⟨g1, g2⟩ := h.2 x e l hl
    exact ⟨l, g1, by omega, by omega, g2⟩
  · have hm : x ∈ ls := hp.mem_iff.mpr (List.mem_map.mpr ⟨x - n, List.mem_range.mpr (by omega), by omega⟩)
    obtain ⟨j, hj, ej⟩ := List.mem_iff_getElem.mp hm
    obtain ⟨g1, g2⟩ := h.2 j (by omega) x (by rw [List.getElem?_eq_getElem hj, ej])
    exact ⟨j, g2, by omega, by omega, g1⟩
theorem emp_step (n i : Nat) (h : i < 2 * n) : (emp n).take (i + 1) = (emp n).take i ++ [(i + n) % (2 * n)] := by
  rw [List.take_add_one, emp_get h]
  rfl
theorem nv_snoc' (l : List Nat) (x : Nat) : nv l ++ [.int (x : Int)] = nv (l ++ [x]) := by
  unfold nv
  rw [List.map_append]; rfl
theorem mod_cast_n (i n : Nat) : ((0 : Int) + (i : Nat) + (n : Int)) % (2 * (n : Int)) = (((i + n) % (2 * n) : Nat) : Int) := by
  have h : (((i + n) % (2 * n) : Nat) : Int) = ((i + n : Nat) : Int) % ((2 * n : Nat) : Int) := Int.natCast_emod _ _
  rw [h, Int.natCast_add, Int.natCast_mul, Int.zero_add]
  rfl
end Pc
namespace Pc
open PySem PySem.Spec PyProof.Rows L2 RZ
/-! ### pairs that are chosen from a range -/
def selN (c : Nat → Bool) (g : Nat → Nat × Nat) (i : Nat) : List (Nat × Nat) := ((List.range i).filter c).map g
theorem selN_yes {c : Nat → Bool} {g : Nat → Nat × Nat} {i : Nat} (h : c i = true) : selN c g (i + 1) = selN c g i ++ [g i] := by
  unfold selN
  rw [List.range_succ, List.filter_append, List.map_append, List.filter_cons_of_pos h, List.filter_nil, List.map_cons, List.map_nil]
theorem selN_no {c : Nat → Bool} {g : Nat → Nat × Nat} {i : Nat} (h : c i = false) : selN c g (i + 1) = selN c g i := by
  unfold selN
  rw [List.range_succ, List.filter_append, List.map_append, List.filter_cons_of_neg (by rw [h]; decide), List.filter_nil, List.map_nil, List.append_nil]
theorem selN_len (c : Nat → Bool) (g : Nat → Nat × Nat) (i : Nat) : (selN c g i).length ≤ i := by
  unfold selN
  rw [List.length_map]
  exact Nat.le_trans (List.length_filter_le _ _) (by rw [List.length_range]; exact Nat.le_refl _)
theorem selN_mem {c : Nat → Bool} {g : Nat → Nat × Nat} {i : Nat} {p : Nat × Nat} : p ∈ selN c g i ↔ ∃ x, x < i ∧ c x = true ∧ g x = p := by
  unfold selN
  rw [List.mem_map]
  constructor
  · rintro ⟨x, hx, e⟩
    have := List.mem_filter.mp hx
    exact ⟨x, List.mem_range.mp this.1, this.2, e⟩
  · rintro ⟨x, h1, h2, e⟩
    exact ⟨x, List.mem_filter.mpr ⟨List.mem_range.mpr h1, h2⟩, e⟩
/-- one more pair is put to the list -/
theorem sel_step {H H1 : Hp} {D u : Addr} {as : List Addr} {c : Nat → Bool} {g : Nat → Nat × Nat} {i : Nat} {v1 v2 : V} (nD : H D = none) (sm : Same H H1) (eD : H1 D = some (.lst (as.map V.ref))) (hA : Prs H1 as (selN c g i)) (hc : c i = true) (nu : H1 u = none)
    (hv : [v1, v2] = [V.int ((g i).1 : Int), V.int ((g i).2 : Int)]) (hi : i ≤ 999) : ∃ acc, (upd H1 u (.tup [v1, v2])) D = some (.lst acc) ∧ acc.length < sizeLine ∧
      (Same H (upd (upd H1 u (.tup [v1, v2])) D (.lst (acc ++ [.ref u]))) ∧ ∃ as' : List Addr, (upd (upd H1 u (.tup [v1, v2])) D (.lst (acc ++ [.ref u]))) D = some (.lst (as'.map V.ref)) ∧ Prs (upd (upd H1 u (.tup [v1, v2])) D (.lst (acc ++ [.ref u]))) as' (selN c g (i + 1))) := by
  have su : Same H1 (upd H1 u (.tup [v1, v2])) := same_new nu
  have nuD : u ≠ D := fun e => by rw [e, eD] at nu; cases nu
  refine ⟨_, su _ _ eD, ?_, fun b' o hb => ?_, as ++ [u], ?_, ?_⟩
  · rw [List.length_map, hA.length]
    have := selN_len c g i
    exact small1000 (by omega)
  · rw [upd_ne (ne_of_none hb nD)]; exact su _ _ (sm _ _ hb)
  · rw [upd_same, List.map_append]; rfl
  · rw [selN_yes hc]
    refine prs_append (prs_keep (b := D) (ys := as.map V.ref) keep_upd (su _ _ eD) (prs_same su hA)) (.cons ?_ .nil)
    rw [upd_ne nuD, upd_same, hv]
theorem ix_sq {K : PySem.W.Frag} {H : Hp} {a : Addr} {xs : List V} {i : Int} {v : V} {Q : VK} (h : Sq K H a xs) (e : atI xs i = some v) (q : Q v H) : rIx K (.ref a) (.int i) H Q :=
  h.elim (fun z => .inl ⟨a, xs, i, v, rfl, rfl, z, e, q⟩) (fun z => .inr (.inl ⟨a, xs, i, v, rfl, rfl, z, e, q⟩))
/-! ### upper pairs, lower pairs, strands -/
def upC (fs : List Nat) (n x : Nat) : Bool := decide (x < fs.getD x 0) && decide (fs.getD x 0 < n)
def upG (fs : List Nat) (x : Nat) : Nat × Nat := (x, fs.getD x 0)
def loC (fs : List Nat) (n x : Nat) : Bool := decide (n + x < fs.getD (n + x) 0)
def loG (fs : List Nat) (n x : Nat) : Nat × Nat := (x, fs.getD (n + x) 0 - n)
def stC (fs : List Nat) (n x : Nat) : Bool := decide (n ≤ fs.getD x 0)
def stG (fs : List Nat) (n x : Nat) : Nat × Nat := (x, fs.getD x 0 - n)
def ups (fs : List Nat) (n : Nat) : List (Nat × Nat) := selN (upC fs n) (upG fs) n
def los (fs : List Nat) (n : Nat) : List (Nat × Nat) := selN (loC fs n) (loG fs n) n
def sts (fs : List Nat) (n : Nat) : List (Nat × Nat) := selN (stC fs n) (stG fs n) n
theorem ups_mem {n : Nat} {fs : List Nat} (h : IsPair (2 * n) fs) {p : Nat × Nat} (hp : p ∈ ups fs n) : fs[p.1]? = some p.2 ∧ p.1 < p.2 ∧ p.2 < n := by
  obtain ⟨x, hx, hc, e⟩ := selN_mem.mp hp
  obtain ⟨y, ey, _⟩ := h.par x (by omega)
  unfold upC at hc
  rw [getD_of ey, Bool.and_eq_true, decide_eq_true_iff, decide_eq_true_iff] at hc
  subst e
  show fs[x]? = some (fs.getD x 0) ∧ x < fs.getD x 0 ∧ fs.getD x 0 < n
  rw [getD_of ey]
  exact ⟨ey, hc.1, hc.2⟩
theorem los_mem {n : Nat} {fs : List Nat} (h : IsPair (2 * n) fs) {p : Nat × Nat} (hp : p ∈ los fs n) : fs[n + p.1]? = some (n + p.2) ∧ p.1 < p.2 ∧ p.2 < n := by
  obtain ⟨x, hx, hc, e⟩ := selN_mem.mp hp
  obtain ⟨y, ey, hy, _⟩ := h.par (n + x) (by omega)
  unfold loC at hc
  rw [getD_of ey, decide_eq_true_iff] at hc
  subst e
  show fs[n + x]? = some (n + (fs.getD (n + x) 0 - n)) ∧ x < fs.getD (n + x) 0 - n ∧ fs.getD (n + x) 0 - n < n
  rw [getD_of ey, show n + (y - n) = y by omega]
  exact ⟨ey, by omega, by omega⟩
theorem sts_mem {n : Nat} {fs : List Nat} (h : IsPair (2 * n) fs) {p : Nat × Nat} (hp : p ∈ sts fs n) : fs[p.1]? = some (n + p.2) ∧ p.1 < n ∧ p.2 < n := by
  obtain ⟨x, hx, hc, e⟩ := selN_mem.mp hp
  obtain ⟨y, ey, hy, _⟩ := h.par x (by omega)
  unfold stC at hc
  rw [getD_of ey, decide_eq_true_iff] at hc
  subst e
  show fs[x]? = some (n + (fs.getD x 0 - n)) ∧ x < n ∧ fs.getD x 0 - n < n
  rw [getD_of ey, show n + (y - n) = y by omega]
  exact ⟨ey, by omega, by omega⟩
/-- all joins of a sheet, as pairs of ends -/
def jns (fs : List Nat) (n : Nat) : List (Nat × Nat) := ups fs n ++ ((los fs n).map (fun p => (n + p.1, n + p.2)) ++ (sts fs n).map (fun p => (p.1, n + p.2)))
theorem jns_ok {n : Nat} {fs : List Nat} (h : IsPair (2 * n) fs) : ∀ p ∈ jns fs n, fs[p.1]? = some p.2 ∧ p.1 < p.2 := fun p hp => by
  rcases List.mem_append.mp hp with z | z
  · have := ups_mem h z; exact ⟨this.1, this.2.1⟩
  · rcases List.mem_append.mp z with z | z
    · obtain ⟨r, hr, rfl⟩ := List.mem_map.mp z
      have := los_mem h hr
      exact ⟨this.1, by show n + r.1 < n + r.2; omega⟩
    · obtain ⟨r, hr, rfl⟩ := List.mem_map.mp z
      have := sts_mem h hr
      exact ⟨this.1, by show r.1 < n + r.2; omega⟩
theorem sel_fst {c : Nat → Bool} {g : Nat → Nat × Nat} {i : Nat} (h : ∀ x, (g x).1 = x) : (selN c g i).map Prod.fst = (List.range i).filter c := by
  unfold selN
  rw [List.map_map]
  conv => rhs; rw [← List.map_id ((List.range i).filter c)]
  exact List.map_congr_left fun x _ => h x
theorem jns_nodup {n : Nat} {fs : List Nat} (h : IsPair (2 * n) fs) : ((jns fs n).map Prod.fst).Nodup := by
  have e1 : (ups fs n).map Prod.fst = (List.range n).filter (upC fs n) := sel_fst fun _ => rfl
  have e2 : ((los fs n).map (fun p => (n + p.1, n + p.2))).map Prod.fst = ((List.range n).filter (loC fs n)).map (fun x => n + x) := by
    rw [← sel_fst (c := loC fs n) (g := loG fs n) (i := n) fun _ => rfl, List.map_map, List.map_map]; rfl
  have e3 : ((sts fs n).map (fun p => (p.1, n + p.2))).map Prod.fst = (List.range n).filter (stC fs n) := by
    rw [← sel_fst (c := stC fs n) (g := stG fs n) (i := n) fun _ => rfl, List.map_map]; rfl
  unfold jns
  rw [List.map_append, List.map_append, e1, e2, e3]
  have nr : (List.range n).Nodup := List.nodup_range
  refine List.nodup_append.mpr ⟨nr.filter _, List.nodup_append.mpr ⟨?_, nr.filter _, fun a ha b hb => ?_⟩, fun a ha b hb => ?_⟩
  · exact List.Pairwise.map _ (fun a b (hab : a ≠ b) => show n + a ≠ n + b by omega) (nr.filter _)
  · obtain ⟨x, _, rfl⟩ := List.mem_map.mp ha
    have := List.mem_range.mp (List.mem_filter.mp hb).1
    omega
  · have ha1 := List.mem_range.mp (List.mem_filter.mp ha).1
    have ha2 := (List.mem_filter.mp ha).2
    unfold upC at ha2
    rw [Bool.and_eq_true, decide_eq_true_iff, decide_eq_true_iff] at ha2
    rcases List.mem_append.mp hb with z | z
    · obtain ⟨x, _, rfl⟩ := List.mem_map.mp z; omega
    · have hb2 := (List.mem_filter.mp z).2
      unfold stC at hb2
      rw [decide_eq_true_iff] at hb2
      intro e; subst e; omega
theorem jns_all {n : Nat} {fs : List Nat} (h : IsPair (2 * n) fs) {z y : Nat} (e : fs[z]? = some y) (hz : z < y) : (z, y) ∈ jns fs n := by
  obtain ⟨_, hy, hz2, _⟩ := h.back e
  unfold jns
  by_cases c : z < n
  · by_cases d : y < n
    · refine List.mem_append.mpr (.inl (selN_mem.mpr ⟨z, c, ?_, ?_⟩))
      · unfold upC; rw [getD_of e, decide_eq_true hz, decide_eq_true d]; rfl
      · unfold upG; rw [getD_of e]
    · refine List.mem_append.mpr (.inr (List.mem_append.mpr (.inr (List.mem_map.mpr ⟨(z, y - n), selN_mem.mpr ⟨z, c, ?_, ?_⟩, ?_⟩))))
      · unfold stC; rw [getD_of e]; exact decide_eq_true (by omega)
      · unfold stG; rw [getD_of e]
      · show (z, n + (y - n)) = (z, y); rw [show n + (y - n) = y by omega]
  · have e' : fs[n + (z - n)]? = some y := by rw [show n + (z - n) = z by omega]; exact e
    refine List.mem_append.mpr (.inr (List.mem_append.mpr (.inl (List.mem_map.mpr ⟨(z - n, y - n), selN_mem.mpr ⟨z - n, by omega, ?_, ?_⟩, ?_⟩))))
    · unfold loC; rw [getD_of e']; exact decide_eq_true (by omega)
    · unfold loG; rw [getD_of e']
    · show (n + (z - n), n + (y - n)) = (z, y); rw [show n + (z - n) = z by omega, show n + (y - n) = y by omega]
/-- the ends of joins in a row -/
def flat : List (Nat × Nat) → List Nat
  | [] => []
  | p :: r => p.1 :: p.2 :: flat r
theorem flat_app : ∀ a b : List (Nat × Nat), flat (a ++ b) = flat a ++ flat b
  | [], _ => rfl
  | p :: r, b => by show p.1 :: p.2 :: flat (r ++ b) = _; rw [flat_app r b]; rfl
theorem flat_mem : ∀ {l : List (Nat × Nat)} {z : Nat}, z ∈ flat l ↔ ∃ p ∈ l, z = p.1 ∨ z = p.2
  | [], z => by simp [flat]
  | p :: r, z => by
    show z ∈ p.1 :: p.2 :: flat r ↔ _
    rw [List.mem_cons, List.mem_cons, flat_mem (l := r)]
    constructor
    · rintro (e | e | ⟨q, hq, e⟩)
      · exact ⟨p, List.mem_cons_self, .inl e⟩
      · exact ⟨p, List.mem_cons_self, .inr e⟩
      · exact ⟨q, List.mem_cons_of_mem _ hq, e⟩
    · rintro ⟨q, hq, e⟩
      rcases List.mem_cons.mp hq with z | z
      · subst z; exact e.elim .inl (fun e => .inr (.inl e))
      · exact .inr (.inr ⟨q, z, e⟩)
theorem flat_len : ∀ l : List (Nat × Nat), (flat l).length = 2 * l.length
  | [] => rfl
  | p :: r => by show (flat r).length + 1 + 1 = 2 * (r.length + 1); rw [flat_len r]; omega
theorem flat_nodup {n : Nat} {fs : List Nat} (h : IsPair n fs) : ∀ {l : List (Nat × Nat)}, (∀ p ∈ l, fs[p.1]? = some p.2 ∧ p.1 < p.2) → (l.map Prod.fst).Nodup → (flat l).Nodup
  | [], _, _ => List.nodup_nil
  | p :: r, ho, hd => by
    have hp := ho p List.mem_cons_self
    obtain ⟨n1, n2⟩ := List.nodup_cons.mp (show (p.1 :: r.map Prod.fst).Nodup from hd)
    have hr : ∀ q ∈ r, fs[q.1]? = some q.2 ∧ q.1 < q.2 := fun q hq => ho q (List.mem_cons_of_mem _ hq)
    have ih := flat_nodup h hr n2
    have bp := (h.back hp.1).1
    have ne1 : ∀ q ∈ r, p.1 ≠ q.1 := fun q hq e => n1 (List.mem_map.mpr ⟨q, hq, e.symm⟩)
    show (p.1 :: p.2 :: flat r).Nodup
    refine List.nodup_cons.mpr ⟨fun hm => ?_, List.nodup_cons.mpr ⟨fun hm => ?_, ih⟩⟩
    · rcases List.mem_cons.mp hm with e | e
      · omega
      · obtain ⟨q, hq, e⟩ := flat_mem.mp e
        have hq' := hr q hq
        rcases e with e | e
        · exact ne1 q hq e
        · have bq := (h.back hq'.1).1
          rw [← e, hp.1] at bq
          have := Option.some.inj bq
          omega
    · obtain ⟨q, hq, e⟩ := flat_mem.mp hm
      have hq' := hr q hq
      rcases e with e | e
      · have e1 := hq'.1
        rw [← e, bp] at e1
        have := Option.some.inj e1
        omega
      · have bq := (h.back hq'.1).1
        rw [← e, bp] at bq
        exact ne1 q hq (Option.some.inj bq)
theorem jns_perm {n : Nat} {fs : List Nat} (h : IsPair (2 * n) fs) : (flat (jns fs n)).Perm (List.range (2 * n)) := by
  refine (List.perm_ext_iff_of_nodup (flat_nodup h (jns_ok h) (jns_nodup h)) List.nodup_range).mpr fun z => ?_
  rw [flat_mem, List.mem_range]
  constructor
  · rintro ⟨p, hp, e⟩
    obtain ⟨b1, b2, b3, _⟩ := h.back (jns_ok h p hp).1
    rcases e with e | e <;> omega
  · intro hz
    obtain ⟨y, ey, hy, hne, eb⟩ := h.par z hz
    by_cases c : z < y
    · exact ⟨_, jns_all h ey c, .inl rfl⟩
    · exact ⟨_, jns_all h eb (by omega), .inr rfl⟩
theorem flat_two {f : Nat → Bool} : ∀ {l : List (Nat × Nat)}, (∀ p ∈ l, f p.1 = true ∧ f p.2 = true) → (flat l).countP f = 2 * l.length
  | [], _ => rfl
  | p :: r, h => by
    have hp := h p List.mem_cons_self
    show (p.1 :: p.2 :: flat r).countP f = _
    rw [List.countP_cons_of_pos hp.1, List.countP_cons_of_pos hp.2, flat_two fun q hq => h q (List.mem_cons_of_mem _ hq), List.length_cons]
    omega
theorem flat_none {f : Nat → Bool} : ∀ {l : List (Nat × Nat)}, (∀ p ∈ l, f p.1 = false ∧ f p.2 = false) → (flat l).countP f = 0
  | [], _ => rfl
  | p :: r, h => by
    have hp := h p List.mem_cons_self
    show (p.1 :: p.2 :: flat r).countP f = _
    rw [List.countP_cons_of_neg (by rw [hp.1]; decide), List.countP_cons_of_neg (by rw [hp.2]; decide), flat_none fun q hq => h q (List.mem_cons_of_mem _ hq)]
theorem flat_one {f : Nat → Bool} : ∀ {l : List (Nat × Nat)}, (∀ p ∈ l, f p.1 = true ∧ f p.2 = false) → (flat l).countP f = l.length
  | [], _ => rfl
  | p :: r, h => by
    have hp := h p List.mem_cons_self
    show (p.1 :: p.2 :: flat r).countP f = _
    rw [List.countP_cons_of_pos hp.1, List.countP_cons_of_neg (by rw [hp.2]; decide), flat_one fun q hq => h q (List.mem_cons_of_mem _ hq), List.length_cons]
theorem range_low (n : Nat) : (List.range (2 * n)).countP (fun z => decide (z < n)) = n := by
  rw [show 2 * n = n + n by omega, List.range_add, List.countP_append, List.countP_eq_length.mpr (fun a ha => decide_eq_true (List.mem_range.mp ha)), List.countP_eq_zero.mpr (fun a ha => ?_), List.length_range, Nat.add_zero]
  obtain ⟨x, _, rfl⟩ := List.mem_map.mp ha
  rw [decide_eq_true_iff]; omega
theorem ups_los {n : Nat} {fs : List Nat} (h : IsPair (2 * n) fs) : (ups fs n).length = (los fs n).length := by
  have hp := jns_perm h
  have hl := hp.length_eq
  have hc := hp.countP_eq (fun z => decide (z < n))
  rw [range_low] at hc
  rw [flat_len, List.length_range] at hl
  unfold jns at hc hl
  rw [List.length_append, List.length_append, List.length_map, List.length_map] at hl
  have x1 : (flat (ups fs n)).countP (fun z => decide (z < n)) = 2 * (ups fs n).length := flat_two fun p hp => by
    have := ups_mem h hp
    exact ⟨decide_eq_true (by omega), decide_eq_true (by omega)⟩
  have x2 : (flat ((los fs n).map (fun p => (n + p.1, n + p.2)))).countP (fun z => decide (z < n)) = 0 := flat_none fun p hp => by
    obtain ⟨r, hr, rfl⟩ := List.mem_map.mp hp
    exact ⟨decide_eq_false (by show ¬ n + r.1 < n; omega), decide_eq_false (by show ¬ n + r.2 < n; omega)⟩
  have x3 : (flat ((sts fs n).map (fun p => (p.1, n + p.2)))).countP (fun z => decide (z < n)) = ((sts fs n).map (fun p => (p.1, n + p.2))).length := flat_one fun p hp => by
    obtain ⟨r, hr, rfl⟩ := List.mem_map.mp hp
    have := sts_mem h hr
    exact ⟨decide_eq_true (by show r.1 < n; omega), decide_eq_false (by show ¬ n + r.2 < n; omega)⟩
  rw [flat_app, flat_app, List.countP_append, List.countP_append, x1, x2, x3, List.length_map] at hc
  omega
end Pc
namespace Pc
open PySem PySem.Spec PyProof.Rows L2 RZ
section
variable {P : Program} {w : World} {K : PySem.W.Frag} {mg : Str → Option Value} {base : Heap}
/-! ### the number of people of a sheet -/
def spPeople (K : PySem.W.Frag) : Sp := fun vs H Q _ => ∃ (a : Addr) (fs : List Nat) (n : Nat), vs = [.ref a] ∧ Sq K H a (nv fs) ∧ fs.length = 2 * n ∧ Q (.int n) H
theorem ok_p_people_of (T : Env K mg) : FnOk P w K mg base CX0 1 T.f_p_people_of T.d_p_people_of ["sheet"] (spPeople K) := by
  refine T.F_p_people_of.ok sc_p_people_of (fun vs H Q E h => ?_) (fun cdv A outer s H vs Q E hr h => ?_)
  · obtain ⟨a, fs, n, rfl, _⟩ := h
    rfl
  · obtain ⟨a, fs, n, rfl, hS, hl, q⟩ := h
    refine ⟨_, pss_one (ps_ret (pe_op op_fdiv (pe_callB call_len_seq (by rfl) T.n_len PySem.boot_len (pa_cons (pv 0) pa_nil)) pe_int)), ?_⟩
    refine ⟨.ref a, rfl, a, _, rfl, hS, _, 2, rfl, rfl, ⟨by decide, by decide⟩, ?_⟩
    show Q (.int (((nv fs).length : Int) / 2)) H
    rw [nv_length, hl, show (((2 * n : Nat) : Int) / 2) = (n : Int) by omega]
    exact q
end
end Pc
namespace Pc
/-! ### ways along a sheet and a pairing -/
/-- nodup numbers below n are n at most -/
theorem few_below : ∀ (n : Nat) (l : List Nat), l.Nodup → (∀ x ∈ l, x < n) → l.length ≤ n
  | 0, l, _, h => by
    cases l with
    | nil => exact Nat.le_refl _
    | cons a r => exact absurd (h a List.mem_cons_self) (Nat.not_lt_zero _)
  | n + 1, l, hd, h => by
    by_cases hm : n ∈ l
    · have h1 : (l.erase n).length = l.length - 1 := List.length_erase_of_mem hm
      have h2 := few_below n (l.erase n) (hd.erase n) (fun x hx => by
        have hx' := (hd.mem_erase_iff).mp hx
        have := h x hx'.2
        have := hx'.1
        omega)
      omega
    · have h2 := few_below n l hd (fun x hx => by
        have := h x hx
        have : x ≠ n := fun e => hm (e ▸ hx)
        omega)
      omega
/-- a function on the first n + 1 numbers into the n first ones takes one value twice -/
theorem pigeon (n : Nat) (f : Nat → Nat) (h : ∀ i, i ≤ n → f i < n) : ∃ i j, i < j ∧ j ≤ n ∧ f i = f j := by
  apply Classical.byContradiction
  intro hn
  have hd : ((List.range (n + 1)).map f).Nodup := by
    rw [List.nodup_iff_pairwise_ne, List.pairwise_map]
    refine List.Pairwise.imp_of_mem ?_ List.pairwise_lt_range
    intro a b ha hb hab e
    exact hn ⟨a, b, hab, by have := List.mem_range.mp hb; omega, e⟩
  have := few_below n _ hd (fun x hx => by
    obtain ⟨i, hi, rfl⟩ := List.mem_map.mp hx
    exact h i (by have := List.mem_range.mp hi; omega))
  rw [List.length_map, List.length_range] at this
  omega
section
variable (fs ps : List Nat) (n : Nat)
/-- the whole way from an end: along the join, along the couple, and so on until a lower end -/
inductive Trail : Nat → List Nat → Prop
  | stop {z : Nat} : n ≤ fs.getD z 0 → Trail z [z, fs.getD z 0]
  | go {z : Nat} {l : List Nat} : fs.getD z 0 < n → Trail (ps.getD (fs.getD z 0) 0) l → Trail z (z :: fs.getD z 0 :: l)
/-- where the steps of a way begin -/
def hop (z : Nat) : Nat → Nat
  | 0 => z
  | k + 1 => ps.getD (fs.getD (hop z k) 0) 0
end
theorem IsPair.d {n : Nat} {ps : List Nat} (h : IsPair n ps) {x : Nat} (hx : x < n) : ps.getD x 0 < n ∧ ps.getD x 0 ≠ x ∧ ps.getD (ps.getD x 0) 0 = x ∧ ps[x]? = some (ps.getD x 0) := by
  obtain ⟨y, h1, h2, h3, h4⟩ := h.par x hx
  rw [getD_of h1]
  exact ⟨h2, h3, getD_of h4, h1⟩
theorem IsPair.inj {n : Nat} {ps : List Nat} (h : IsPair n ps) {x y : Nat} (hx : x < n) (hy : y < n) (e : ps.getD x 0 = ps.getD y 0) : x = y := by
  rw [← (h.d hx).2.2.1, ← (h.d hy).2.2.1, e]
theorem Trail.det {fs ps : List Nat} {n z : Nat} {l m : List Nat} (h : Trail fs ps n z l) : Trail fs ps n z m → l = m := by
  induction h generalizing m with
  | stop h1 => intro h; cases h with
    | stop _ => rfl
    | go h2 _ => omega
  | go h1 _ ih => intro h; cases h with
    | stop h2 => omega
    | go _ h3 => rw [ih h3]
theorem Trail.len {fs ps : List Nat} {n z : Nat} {l : List Nat} (h : Trail fs ps n z l) : 2 ≤ l.length ∧ l.length % 2 = 0 ∧ n ≤ l.getLastD 0 := by
  induction h with
  | stop h1 => exact ⟨Nat.le_refl _, by simp only [List.length_cons, List.length_nil], h1⟩
  | @go z l h1 _ ih =>
    refine ⟨by simp only [List.length_cons]; omega, by simp only [List.length_cons]; omega, ?_⟩
    cases l with
    | nil => exact absurd ih.1 (by decide)
    | cons a r => exact ih.2.2
theorem hop_step (fs ps : List Nat) (z k : Nat) : hop fs ps (ps.getD (fs.getD z 0) 0) k = hop fs ps z (k + 1) := by
  induction k with
  | zero => rfl
  | succ k ih => rw [hop, ih]; rfl
theorem trail_of {fs ps : List Nat} {n : Nat} : ∀ (m z : Nat), n ≤ fs.getD (hop fs ps z m) 0 → ∃ l, Trail fs ps n z l ∧ l.length ≤ 2 * m + 2
  | 0, z, h => ⟨_, .stop h, Nat.le_refl _⟩
  | m + 1, z, h => by
    by_cases c : fs.getD z 0 < n
    · obtain ⟨l, h1, h2⟩ := trail_of m (ps.getD (fs.getD z 0) 0) (by rw [hop_step]; exact h)
      exact ⟨_, .go c h1, by simp only [List.length_cons]; omega⟩
    · exact ⟨_, .stop (by omega), by simp only [List.length_cons, List.length_nil]; omega⟩
/-- every way from a lower end comes to a lower end -/
theorem trail_ex {fs ps : List Nat} {n : Nat} (hF : IsPair (2 * n) fs) (hP : IsPair n ps) {z : Nat} (hz : n ≤ z) (hz2 : z < 2 * n) : ∃ l, Trail fs ps n z l ∧ l.length ≤ 2 * n + 2 := by
  apply Classical.byContradiction
  intro hn
  have small : ∀ k, k ≤ n → fs.getD (hop fs ps z k) 0 < n := fun k hk => by
    apply Classical.byContradiction
    intro h
    obtain ⟨l, h1, h2⟩ := trail_of (fs := fs) (ps := ps) (n := n) k z (by omega)
    exact hn ⟨l, h1, by omega⟩
  have hl : ∀ k, k ≤ n → hop fs ps z k < 2 * n ∧ (0 < k → hop fs ps z k < n) := fun k hk => by
    cases k with
    | zero => exact ⟨hz2, fun h => absurd h (Nat.lt_irrefl _)⟩
    | succ k =>
      have := (hP.d (small k (by omega))).1
      exact ⟨by show ps.getD _ 0 < 2 * n; omega, fun _ => this⟩
  have diff : ∀ i j, i < j → j ≤ n → hop fs ps z i ≠ hop fs ps z j := fun i => by
    induction i with
    | zero =>
      intro j hj hn2 e
      have := (hl j hn2).2 hj
      have e' : z = hop fs ps z j := e
      omega
    | succ i ih =>
      intro j hj hn2 e
      cases j with
      | zero => omega
      | succ j =>
        have e1 : fs.getD (hop fs ps z i) 0 = fs.getD (hop fs ps z j) 0 := hP.inj (small i (by omega)) (small j (by omega)) e
        exact ih j (by omega) (by omega) (hF.inj (hl i (by omega)).1 (hl j (by omega)).1 e1)
  obtain ⟨i, j, h1, h2, h3⟩ := pigeon n (fun k => fs.getD (hop fs ps z k) 0) small
  exact diff i j h1 h2 (hF.inj (hl i (by omega)).1 (hl j h2).1 h3)
/-- the way of a lower end, and where it ends -/
noncomputable def trl (fs ps : List Nat) (n z : Nat) : List Nat := open Classical in if h : ∃ l, Trail fs ps n z l then h.choose else []
noncomputable def far (fs ps : List Nat) (n z : Nat) : Nat := (trl fs ps n z).getLastD 0
theorem Trail.eq {fs ps : List Nat} {n z : Nat} {l : List Nat} (h : Trail fs ps n z l) : trl fs ps n z = l := by
  unfold trl
  rw [dif_pos ⟨l, h⟩]
  exact (Exists.choose_spec (⟨l, h⟩ : ∃ l, Trail fs ps n z l)).det h
theorem trl_trail {fs ps : List Nat} {n : Nat} (hF : IsPair (2 * n) fs) (hP : IsPair n ps) {z : Nat} (hz : n ≤ z) (hz2 : z < 2 * n) : Trail fs ps n z (trl fs ps n z) ∧ (trl fs ps n z).length ≤ 2 * n + 2 := by
  obtain ⟨l, h1, h2⟩ := trail_ex hF hP hz hz2
  rw [h1.eq]; exact ⟨h1, h2⟩
/-- what is read -/
noncomputable def rd (fs ps : List Nat) (n : Nat) : List Nat := (List.range n).map fun x => far fs ps n (n + x) - n
end Pc
namespace Pc
theorem lastc {l : List Nat} (h : 2 ≤ l.length) (a b d : Nat) : (a :: b :: l).getLastD d = l.getLastD d := by
  cases l with
  | nil => exact absurd h (by decide)
  | cons x r => rfl
theorem Trail.last {fs ps : List Nat} {n z : Nat} {l : List Nat} (hF : IsPair (2 * n) fs) (hP : IsPair n ps) (h : Trail fs ps n z l) : z < 2 * n → l.getLastD 0 < 2 * n := by
  induction h with
  | @stop z h1 => intro hz; exact (hF.d hz).1
  | @go z l h1 h2 ih =>
    intro hz
    rw [lastc h2.len.1]
    have := (hP.d h1).1
    exact ih (by omega)
theorem Trail.rev {fs ps : List Nat} {n z : Nat} {l : List Nat} (hF : IsPair (2 * n) fs) (hP : IsPair n ps) (h : Trail fs ps n z l) : z < 2 * n → ∀ t : List Nat, (n ≤ z → t = []) → (z < n → Trail fs ps n (ps.getD z 0) t) → Trail fs ps n (l.getLastD 0) (l.reverse ++ t) := by
  have one : ∀ {z : Nat} {t : List Nat}, z < 2 * n → (n ≤ z → t = []) → (z < n → Trail fs ps n (ps.getD z 0) t) → Trail fs ps n (fs.getD z 0) (fs.getD z 0 :: z :: t) := fun {z t} hz h1 h2 => by
    have e := (hF.d hz).2.2.1
    by_cases c : z < n
    · have := Trail.go (fs := fs) (ps := ps) (n := n) (z := fs.getD z 0) (l := t) (by rw [e]; exact c) (by rw [e]; exact h2 c)
      rw [e] at this; exact this
    · rw [h1 (by omega)]
      have := Trail.stop (fs := fs) (ps := ps) (n := n) (z := fs.getD z 0) (by rw [e]; omega)
      rw [e] at this; exact this
  induction h with
  | @stop z h1 => intro hz t a b; exact one hz a b
  | @go z l h1 h2 ih =>
    intro hz t a b
    have hz' := hP.d h1
    rw [lastc h2.len.1]
    have := ih (by omega) (fs.getD z 0 :: z :: t) (fun x => by omega) (fun _ => by rw [hz'.2.2.1]; exact one hz a b)
    simp only [List.reverse_cons, List.append_assoc, List.cons_append, List.nil_append]
    exact this
theorem Trail.back {fs ps : List Nat} {n z : Nat} {l : List Nat} (hF : IsPair (2 * n) fs) (hP : IsPair n ps) (h : Trail fs ps n z l) (hz : n ≤ z) (hz2 : z < 2 * n) : Trail fs ps n (l.getLastD 0) l.reverse := by
  have := h.rev hF hP hz2 [] (fun _ => rfl) (fun h => by omega)
  rw [List.append_nil] at this; exact this
theorem Trail.head {fs ps : List Nat} {n z : Nat} {l : List Nat} (h : Trail fs ps n z l) : l[0]? = some z := by
  cases h <;> rfl
theorem Trail.adj {fs ps : List Nat} {n z : Nat} {l : List Nat} (hF : IsPair (2 * n) fs) (hP : IsPair n ps) (h : Trail fs ps n z l) : z < 2 * n → ∀ i x, l[i]? = some x → l[i + 1]? ≠ some x := by
  induction h with
  | @stop z h1 =>
    intro hz i x h1 h2
    have hi : i + 1 < 2 := get_lt h2
    have : i = 0 := by omega
    subst this
    have e1 : z = x := Option.some.inj h1
    have e2 : fs.getD z 0 = x := Option.some.inj h2
    exact (hF.d hz).2.1 (e2.trans e1.symm)
  | @go z l h1 h2 ih =>
    intro hz i x g1 g2
    have hz' := hP.d h1
    cases i with
    | zero =>
      have e1 : z = x := Option.some.inj g1
      have e2 : fs.getD z 0 = x := Option.some.inj g2
      exact (hF.d hz).2.1 (e2.trans e1.symm)
    | succ i =>
      cases i with
      | zero =>
        have e1 : fs.getD z 0 = x := Option.some.inj g1
        have e2 : some (ps.getD (fs.getD z 0) 0) = some x := h2.head.symm.trans g2
        exact hz'.2.1 ((Option.some.inj e2).trans e1.symm)
      | succ i => exact ih (by omega) i x g1 g2
theorem last_get {l : List Nat} (h : 0 < l.length) : l[l.length - 1]? = some (l.getLastD 0) := by
  cases l with
  | nil => exact absurd h (by decide)
  | cons a r => rw [← List.getLast?_eq_getElem?, List.getLast?_eq_some_getLast (List.cons_ne_nil a r), List.getLastD_cons, ← List.getLast_eq_getLastD (h := List.cons_ne_nil a r)]
theorem far_is {fs ps : List Nat} {n z : Nat} {l : List Nat} (h : Trail fs ps n z l) : far fs ps n z = l.getLastD 0 := by
  unfold far; rw [h.eq]
theorem far_d {fs ps : List Nat} {n : Nat} (hF : IsPair (2 * n) fs) (hP : IsPair n ps) {z : Nat} (hz : n ≤ z) (hz2 : z < 2 * n) : n ≤ far fs ps n z ∧ far fs ps n z < 2 * n ∧ far fs ps n (far fs ps n z) = z ∧ far fs ps n z ≠ z := by
  obtain ⟨l, h1, _⟩ := trail_ex hF hP hz hz2
  have hb := h1.back hF hP hz hz2
  have hl := h1.len
  have e := far_is h1
  have e2 := far_is hb
  rw [e, e2]
  refine ⟨hl.2.2, h1.last hF hP hz2, ?_, fun c => ?_⟩
  · have g := last_get (l := l.reverse) (by rw [List.length_reverse]; omega)
    rw [List.length_reverse, List.getElem?_reverse (by omega), show l.length - 1 - (l.length - 1) = 0 by omega, h1.head] at g
    exact (Option.some.inj g).symm
  · rw [c] at hb
    have e3 : l = l.reverse := h1.det hb
    obtain ⟨k, hk⟩ : ∃ k, l.length = 2 * k := ⟨l.length / 2, by omega⟩
    have g1 : l[k - 1]? = l[k]? := by
      have g : l[k - 1]? = l.reverse[k - 1]? := congrArg (fun (m : List Nat) => m[k - 1]?) e3
      rw [List.getElem?_reverse (by omega), show l.length - 1 - (k - 1) = k by omega] at g
      exact g
    have lt : k - 1 < l.length := by omega
    exact h1.adj hF hP hz2 (k - 1) l[k - 1] (List.getElem?_eq_getElem lt) (by rw [show k - 1 + 1 = k by omega, ← g1]; exact List.getElem?_eq_getElem lt)
theorem rd_len (fs ps : List Nat) (n : Nat) : (rd fs ps n).length = n := by unfold rd; rw [List.length_map, List.length_range]
theorem rd_get (fs ps : List Nat) {n x : Nat} (h : x < n) : (rd fs ps n)[x]? = some (far fs ps n (n + x) - n) := by
  unfold rd; rw [List.getElem?_map, List.getElem?_range h]; rfl
theorem rd_pair {fs ps : List Nat} {n : Nat} (hF : IsPair (2 * n) fs) (hP : IsPair n ps) : IsPair n (rd fs ps n) := by
  refine ⟨rd_len _ _ _, fun x hx => ?_⟩
  obtain ⟨h1, h2, h3, h4⟩ := far_d hF hP (z := n + x) (by omega) (by omega)
  refine ⟨_, rd_get fs ps hx, by omega, by omega, ?_⟩
  rw [rd_get fs ps (by omega), show n + (far fs ps n (n + x) - n) = far fs ps n (n + x) by omega, h3, show n + x - n = x by omega]
/-- a sheet that differs only at four ends -/
structure Near (fs gs : List Nat) (n A B c d : Nat) : Prop where
  la : n ≤ A
  lb : n ≤ B
  ab : A ≠ B
  fc : fs.getD c 0 = A
  un : ∀ z, fs.getD z 0 = A → z = c
  fd : fs.getD d 0 = B
  fb : fs.getD B 0 = d
  gc : gs.getD c 0 = d
  eq : ∀ z, z ≠ A → z ≠ B → z ≠ c → z ≠ d → gs.getD z 0 = fs.getD z 0
theorem Trail.near {fs gs ps : List Nat} {n A B c d z : Nat} {l : List Nat} (hP : IsPair n ps) (N : Near fs gs n A B c d) (h : Trail fs ps n z l) : z ≠ A → z ≠ B → l.getLastD 0 ≠ A → l.getLastD 0 ≠ B → Trail gs ps n z l := by
  have la := N.la
  have lb := N.lb
  induction h with
  | @stop z h1 =>
    intro hA hB eA eB
    have e : gs.getD z 0 = fs.getD z 0 := N.eq z hA hB (fun e => eA (by rw [e]; exact N.fc)) (fun e => eB (by rw [e]; exact N.fd))
    rw [← e]; exact .stop (by rw [e]; exact h1)
  | @go z l h1 h2 ih =>
    intro hA hB eA eB
    rw [lastc h2.len.1] at eA eB
    have e : gs.getD z 0 = fs.getD z 0 := N.eq z hA hB (fun e => by rw [e, N.fc] at h1; omega) (fun e => by rw [e, N.fd] at h1; omega)
    have hz' := (hP.d h1).1
    have t := ih (by omega) (by omega) eA eB
    rw [← e] at h1 t ⊢
    exact .go h1 t
theorem Trail.over {fs gs ps : List Nat} {n A B c d z : Nat} {l m : List Nat} (hP : IsPair n ps) (N : Near fs gs n A B c d) (hm : Trail fs ps n B m) (mA : m.getLastD 0 ≠ A) (mB : m.getLastD 0 ≠ B) (h : Trail fs ps n z l) : z ≠ A → z ≠ B → l.getLastD 0 = A → ∃ k, Trail gs ps n z k ∧ k.getLastD 0 = m.getLastD 0 := by
  have la := N.la
  have lb := N.lb
  have fb := N.fb
  induction h with
  | @stop z h1 =>
    intro hA hB eA
    by_cases zc : z = c
    · subst zc
      cases hm with
      | stop h => 
        refine ⟨_, .stop (by rw [N.gc, ← fb]; exact h), ?_⟩
        rw [N.gc, ← fb]; rfl
      | @go _ m h h2 =>
        rw [lastc h2.len.1] at mA mB ⊢
        rw [fb] at h h2
        have := hP.d h
        refine ⟨_, .go (by rw [N.gc]; exact h) (by rw [N.gc]; exact h2.near hP N (by omega) (by omega) mA mB), ?_⟩
        rw [lastc h2.len.1]
    · exact absurd (N.un z eA) zc
  | @go z l h1 h2 ih =>
    intro hA hB eA
    rw [lastc h2.len.1] at eA
    have e : gs.getD z 0 = fs.getD z 0 := N.eq z hA hB (fun e => by rw [e, N.fc] at h1; omega) (fun e => by rw [e, N.fd] at h1; omega)
    have hz' := (hP.d h1).1
    obtain ⟨k, t1, t2⟩ := ih (by omega) (by omega) eA
    rw [← e] at h1 t1
    refine ⟨_, .go h1 t1, ?_⟩
    rw [lastc t1.len.1]; exact t2

theorem jn_near {fs : List Nat} {n A B : Nat} (hF : IsPair (2 * n) fs) (hA : n ≤ A) (hB : n ≤ B) (hA2 : A < 2 * n) (hB2 : B < 2 * n) (hab : A ≠ B) (hc : fs.getD A 0 ≠ B) : Near fs (jn fs A B) n A B (fs.getD A 0) (fs.getD B 0) ∧ Near fs (jn fs A B) n B A (fs.getD B 0) (fs.getD A 0) ∧ (jn fs A B).getD A 0 = B ∧ (jn fs A B).getD B 0 = A := by
  obtain ⟨a1, a2, a3, a4⟩ := hF.d hA2
  obtain ⟨b1, b2, b3, b4⟩ := hF.d hB2
  have G := jn_get hF hab a4 b4 hc
  obtain ⟨x1, x2, x3, x4, _⟩ := four hF hab a4 b4 hc
  have D : ∀ z, (jn fs A B).getD z 0 = ((jn fs A B)[z]?).getD 0 := fun z => List.getD_eq_getElem?_getD
  have un : ∀ {X : Nat}, n ≤ X → X < 2 * n → ∀ z, fs.getD z 0 = X → z = fs.getD X 0 := fun {X} h1 h2 z e => by
    by_cases hz : z < 2 * n
    · rw [← e, (hF.d hz).2.2.1]
    · rw [List.getD_eq_getElem?_getD, List.getElem?_eq_none (by rw [hF.len]; omega)] at e
      have e' : 0 = X := e
      omega
  have E : ∀ z, z ≠ A → z ≠ B → z ≠ fs.getD A 0 → z ≠ fs.getD B 0 → (jn fs A B).getD z 0 = fs.getD z 0 := fun z h1 h2 h3 h4 => by
    rw [D, G, if_neg h1, if_neg h2, if_neg h3, if_neg h4, ← List.getD_eq_getElem?_getD]
  refine ⟨⟨hA, hB, hab, a3, un hA hA2, b3, rfl, ?_, E⟩, ⟨hB, hA, hab.symm, b3, un hB hB2, a3, rfl, ?_, fun z h1 h2 h3 h4 => E z h2 h1 h4 h3⟩, ?_, ?_⟩
  · rw [D, G, if_neg x1, if_neg hc, if_pos rfl]; rfl
  · rw [D, G, if_neg x3, if_neg x2, if_neg (Ne.symm x4), if_pos rfl]; rfl
  · rw [D, G, if_pos rfl]; rfl
  · rw [D, G, if_neg hab.symm, if_pos rfl]; rfl
theorem IsPair.ofd {fs : List Nat} {n x y : Nat} (h : IsPair n fs) (hx : x < n) (e : fs.getD x 0 = y) : fs[x]? = some y := by
  rw [← e]; exact (h.d hx).2.2.2
/-- a call added to a sheet is a call behind what is read -/
theorem rd_jn {fs ps : List Nat} {n a b : Nat} (hF : IsPair (2 * n) fs) (hP : IsPair n ps) (hab : a ≠ b) (ha : a < n) (hb : b < n) : rd (jn fs (n + a) (n + b)) ps n = jn (rd fs ps n) a b := by
  have hR := rd_pair hF hP
  by_cases hc : fs.getD (n + a) 0 = n + b
  · rw [jn_same (hF.ofd (by omega) hc)]
    have t : Trail fs ps n (n + a) [n + a, n + b] := by
      have := Trail.stop (fs := fs) (ps := ps) (n := n) (z := n + a) (by rw [hc]; omega)
      rw [hc] at this; exact this
    refine (jn_same ?_).symm
    rw [rd_get fs ps ha, far_is t]
    show some (n + b - n) = some b
    rw [Nat.add_sub_cancel_left]
  · obtain ⟨N1, N2, gA, gB⟩ := jn_near hF (A := n + a) (B := n + b) (by omega) (by omega) (by omega) (by omega) (by omega) hc
    have hF' : IsPair (2 * n) (jn fs (n + a) (n + b)) := jn_pair hF (by omega) (by omega) (by omega)
    have fA := far_d hF hP (z := n + a) (by omega) (by omega)
    have fB := far_d hF hP (z := n + b) (by omega) (by omega)
    have tA : Trail (jn fs (n + a) (n + b)) ps n (n + a) [n + a, n + b] := by
      have := Trail.stop (fs := jn fs (n + a) (n + b)) (ps := ps) (n := n) (z := n + a) (by rw [gA]; omega)
      rw [gA] at this; exact this
    have tB : Trail (jn fs (n + a) (n + b)) ps n (n + b) [n + b, n + a] := by
      have := Trail.stop (fs := jn fs (n + a) (n + b)) (ps := ps) (n := n) (z := n + b) (by rw [gB]; omega)
      rw [gB] at this; exact this
    obtain ⟨lA, hlA, _⟩ := trail_ex hF hP (z := n + a) (by omega) (by omega)
    obtain ⟨lB, hlB, _⟩ := trail_ex hF hP (z := n + b) (by omega) (by omega)
    have eA := far_is hlA
    have eB := far_is hlB
    have ga := rd_get fs ps ha
    have gb := rd_get fs ps hb
    refine List.ext_getElem? fun x => ?_
    by_cases hx : x < n
    · rw [rd_get _ ps hx]
      have fX := far_d hF hP (z := n + x) (by omega) (by omega)
      obtain ⟨lX, hlX, _⟩ := trail_ex hF hP (z := n + x) (by omega) (by omega)
      have eX := far_is hlX
      by_cases xa : x = a
      · subst xa
        rw [far_is tA, show [n + x, n + b].getLastD 0 - n = b by show n + b - n = b; omega]
        by_cases c : far fs ps n (n + x) - n = b
        · rw [jn_same (by rw [rd_get fs ps hx, c]), rd_get fs ps hx, c]
        · rw [jn_get hR hab ga gb c, if_pos rfl]
      · by_cases xb : x = b
        · subst xb
          rw [far_is tB, show [n + x, n + a].getLastD 0 - n = a by show n + a - n = a; omega]
          by_cases c : far fs ps n (n + a) - n = x
          · rw [jn_same (by rw [rd_get fs ps ha, c]), rd_get fs ps hx, show n + x = far fs ps n (n + a) by omega, fA.2.2.1, Nat.add_sub_cancel_left]
          · rw [jn_get hR hab ga gb c, if_neg (Ne.symm hab), if_pos rfl]
        · by_cases yA : far fs ps n (n + x) = n + a
          · -- the way of x came to a
            have e1 : far fs ps n (n + a) = n + x := by rw [← yA]; exact fX.2.2.1
            have e2 : far fs ps n (n + b) ≠ n + a := fun z => by
              have := fB.2.2.1
              rw [z, e1] at this; omega
            obtain ⟨k, k1, k2⟩ := Trail.over hP N1 hlB (by rw [← eB]; exact e2) (by rw [← eB]; exact fB.2.2.2) hlX (by omega) (by omega) (by rw [← eX]; exact yA)
            rw [far_is k1, k2, ← eB, jn_get hR hab ga gb (by omega), if_neg xa, if_neg xb, if_pos (by omega)]
          · by_cases yB : far fs ps n (n + x) = n + b
            · have e1 : far fs ps n (n + b) = n + x := by rw [← yB]; exact fX.2.2.1
              have e2 : far fs ps n (n + a) ≠ n + b := fun z => by
                have := fA.2.2.1
                rw [z, e1] at this; omega
              obtain ⟨k, k1, k2⟩ := Trail.over hP N2 hlA (by rw [← eA]; exact e2) (by rw [← eA]; exact fA.2.2.2) hlX (by omega) (by omega) (by rw [← eX]; exact yB)
              have e3 : far fs ps n (n + a) ≠ n + x := fun z => by
                have := fA.2.2.1
                rw [z, yB] at this; omega
              rw [far_is k1, k2, ← eA, jn_get hR hab ga gb (by omega), if_neg xa, if_neg xb, if_neg (by omega), if_pos (by omega)]
            · have t := hlX.near hP N1 (by omega) (by omega) (by rw [← eX]; exact yA) (by rw [← eX]; exact yB)
              rw [far_is t, ← eX, ← rd_get fs ps hx]
              by_cases c : far fs ps n (n + a) - n = b
              · rw [jn_same (by rw [rd_get fs ps ha, c])]
              · have e1 : far fs ps n (n + a) ≠ n + x := fun z => by
                  have := fA.2.2.1
                  rw [z] at this; exact yA this
                have e2 : far fs ps n (n + b) ≠ n + x := fun z => by
                  have := fB.2.2.1
                  rw [z] at this; exact yB this
                rw [jn_get hR hab ga gb c, if_neg xa, if_neg xb, if_neg (by omega), if_neg (by omega)]
    · rw [List.getElem?_eq_none (by rw [rd_len]; omega), List.getElem?_eq_none (by rw [jn_len, rd_len]; omega)]
end Pc
namespace Pc
theorem rd_emp {ps : List Nat} {n : Nat} (hn : 0 < n) (hP : IsPair n ps) : rd (emp n) ps n = ps := by
  refine List.ext_getElem? fun x => ?_
  by_cases hx : x < n
  · obtain ⟨h1, _, _, h4⟩ := hP.d hx
    have e1 : (emp n).getD (n + x) 0 = x := getD_of (emp_hi hx)
    have e2 : (emp n).getD (ps.getD x 0) 0 = n + ps.getD x 0 := getD_of (emp_lo h1)
    have t2 := Trail.stop (fs := emp n) (ps := ps) (n := n) (z := ps.getD x 0) (by rw [e2]; omega)
    have t := Trail.go (fs := emp n) (ps := ps) (n := n) (z := n + x) (by rw [e1]; exact hx) (by rw [e1]; exact t2)
    rw [rd_get _ ps hx, far_is t, h4]
    show some ((emp n).getD (ps.getD x 0) 0 - n) = _
    rw [e2, Nat.add_sub_cancel_left]
  · rw [List.getElem?_eq_none (by rw [rd_len]; omega), List.getElem?_eq_none (by rw [hP.len]; omega)]
theorem rd_runs {n : Nat} {ps : List Nat} (hP : IsPair n ps) : ∀ (qs : List (Nat × Nat)) {fs : List Nat}, IsPair (2 * n) fs → Calls n qs → rd (shw n qs fs) ps n = runs qs (rd fs ps n)
  | [], _, _, _ => rfl
  | q :: r, fs, hF, hc => by
    have h1 := hc q List.mem_cons_self
    have h2 := rd_runs hP r (jn_pair hF (a := n + q.1) (b := n + q.2) (by omega) (by omega) (by omega)) (fun x hx => hc x (List.mem_cons_of_mem _ hx))
    rw [rd_jn hF hP (by omega) (by omega) h1.2] at h2
    exact h2
/-- guarantee (a) -/
theorem rd_word {n : Nat} {ps : List Nat} {qs : List (Nat × Nat)} (hn : 0 < n) (hP : IsPair n ps) (hc : Calls n qs) : rd (shw n qs (emp n)) ps n = runs qs ps := by
  rw [rd_runs hP qs (emp_pair hn) hc, rd_emp hn hP]
end Pc
namespace Pc
/-! ### walks along layers: a layer of m upper and n lower ends joins them in pairs -/
section
variable {S Y : Type} (step : S → S ⊕ Y)
inductive Ends : S → Y → Prop
  | stop {s : S} {y : Y} : step s = .inr y → Ends s y
  | go {s t : S} {y : Y} : step s = .inl t → Ends t y → Ends s y
/-- where a walk is after i steps -/
def itr (s : S) : Nat → S
  | 0 => s
  | i + 1 => match step (itr s i) with
    | .inl t => t
    | .inr _ => itr s i
end
theorem Ends.det {S Y : Type} {step : S → S ⊕ Y} {s : S} {x y : Y} (h : Ends step s x) : Ends step s y → x = y := by
  induction h with
  | stop h1 => intro h; cases h with
    | stop h2 => rw [h1] at h2; exact Sum.inr.inj h2
    | go h2 _ => rw [h1] at h2; cases h2
  | go h1 _ ih => intro h; cases h with
    | stop h2 => rw [h1] at h2; cases h2
    | go h2 h3 => rw [h1] at h2; cases h2; exact ih h3
theorem itr_step {S Y : Type} {step : S → S ⊕ Y} {s t : S} (h : step s = .inl t) : ∀ i, itr step t i = itr step s (i + 1)
  | 0 => by show t = (match step s with | .inl t => t | .inr _ => s); rw [h]
  | i + 1 => by
    show (match step (itr step t i) with | .inl t => t | .inr _ => itr step t i) = (match step (itr step s (i + 1)) with | .inl t => t | .inr _ => itr step s (i + 1))
    rw [itr_step h i]
theorem itr_succ {S Y : Type} {step : S → S ⊕ Y} {s t : S} {i : Nat} (h : step (itr step s i) = .inl t) : itr step s (i + 1) = t := by
  show (match step (itr step s i) with | .inl t => t | .inr _ => itr step s i) = t
  rw [h]
theorem Ends.nth {S Y : Type} {step : S → S ⊕ Y} {s : S} {y : Y} (h : Ends step s y) : ∃ m, (∀ i, i < m → step (itr step s i) = .inl (itr step s (i + 1))) ∧ step (itr step s m) = .inr y := by
  induction h with
  | stop h => exact ⟨0, fun i hi => absurd hi (Nat.not_lt_zero _), h⟩
  | go h _ ih =>
    obtain ⟨m, h1, h2⟩ := ih
    refine ⟨m + 1, fun i hi => ?_, by rw [← itr_step h]; exact h2⟩
    cases i with
    | zero => rw [← itr_step h 0]; exact h
    | succ i =>
      have := h1 i (by omega)
      rw [itr_step h, itr_step h] at this; exact this
theorem ends_of {S Y : Type} {step : S → S ⊕ Y} : ∀ (m : Nat) (s : S) (y : Y), step (itr step s m) = .inr y → ∃ z, Ends step s z
  | 0, s, y, h => ⟨y, .stop h⟩
  | m + 1, s, y, h => by
    cases e : step s with
    | inr z => exact ⟨z, .stop e⟩
    | inl t =>
      obtain ⟨z, hz⟩ := ends_of m t y (by rw [itr_step e]; exact h)
      exact ⟨z, .go e hz⟩
/-- the step of a walk along a layer f, of m and n ends, and a layer g behind it -/
def cstep (f g : List Nat) (m n : Nat) : Bool × Nat → (Bool × Nat) ⊕ Nat
  | (true, z) => if f.getD z 0 < m then .inr (f.getD z 0) else .inl (false, f.getD z 0 - m)
  | (false, z) => if g.getD z 0 < n then .inl (true, m + g.getD z 0) else .inr (m + (g.getD z 0 - n))
def cst (m n e : Nat) : Bool × Nat := if e < m then (true, e) else (false, n + (e - m))
theorem cs_tl {f g : List Nat} {m n z : Nat} (h : f.getD z 0 < m) : cstep f g m n (true, z) = .inr (f.getD z 0) := if_pos h
theorem cs_tg {f g : List Nat} {m n z : Nat} (h : m ≤ f.getD z 0) : cstep f g m n (true, z) = .inl (false, f.getD z 0 - m) := if_neg (by omega)
theorem cs_fl {f g : List Nat} {m n z : Nat} (h : g.getD z 0 < n) : cstep f g m n (false, z) = .inl (true, m + g.getD z 0) := if_pos h
theorem cs_fg {f g : List Nat} {m n z : Nat} (h : n ≤ g.getD z 0) : cstep f g m n (false, z) = .inr (m + (g.getD z 0 - n)) := if_neg (by omega)
def opp (f g : List Nat) : Bool × Nat → Bool × Nat
  | (true, z) => (true, f.getD z 0)
  | (false, z) => (false, g.getD z 0)
/-- the states of a walk -/
def Val (m n k : Nat) : Bool × Nat → Prop
  | (true, z) => z < m + n
  | (false, z) => z < n + k
section
variable {f g : List Nat} {m n k : Nat} (hf : IsPair (m + n) f) (hg : IsPair (n + k) g)
include hf hg
theorem cs_val {s t : Bool × Nat} (hs : Val m n k s) (h : cstep f g m n s = .inl t) : Val m n k t ∧ (t = (true, t.2) ∧ m ≤ t.2 ∨ t = (false, t.2) ∧ t.2 < n) ∧ t.1 = !s.1 ∧ cstep f g m n (opp f g t) = .inl (opp f g s) := by
  obtain ⟨b, z⟩ := s
  cases b with
  | true =>
    have hz : z < m + n := hs
    by_cases c : f.getD z 0 < m
    · rw [cs_tl c] at h; cases h
    · rw [cs_tg (by omega)] at h
      cases h
      have := hf.d hz
      have hx : f.getD z 0 - m < n + k := by omega
      have gx := hg.d hx
      refine ⟨hx, .inr ⟨rfl, by show f.getD z 0 - m < n; omega⟩, rfl, ?_⟩
      show cstep f g m n (false, g.getD (f.getD z 0 - m) 0) = .inl (true, f.getD z 0)
      rw [cs_fl (by rw [gx.2.2.1]; omega), gx.2.2.1, show m + (f.getD z 0 - m) = f.getD z 0 by omega]
  | false =>
    have hz : z < n + k := hs
    by_cases c : g.getD z 0 < n
    · rw [cs_fl c] at h
      cases h
      have hx : m + g.getD z 0 < m + n := by omega
      have fx := hf.d hx
      refine ⟨hx, .inl ⟨rfl, by show m ≤ m + g.getD z 0; omega⟩, rfl, ?_⟩
      show cstep f g m n (true, f.getD (m + g.getD z 0) 0) = .inl (false, g.getD z 0)
      rw [cs_tg (by rw [fx.2.2.1]; omega), fx.2.2.1, show m + g.getD z 0 - m = g.getD z 0 by omega]
    · rw [cs_fg (by omega)] at h; cases h
theorem opp_opp {s : Bool × Nat} (hs : Val m n k s) : opp f g (opp f g s) = s ∧ opp f g s ≠ s ∧ (opp f g s).1 = s.1 ∧ Val m n k (opp f g s) := by
  obtain ⟨b, z⟩ := s
  cases b with
  | true =>
    have := hf.d (show z < m + n from hs)
    exact ⟨by show (true, f.getD (f.getD z 0) 0) = (true, z); rw [this.2.2.1], fun e => this.2.1 (congrArg Prod.snd e), rfl, this.1⟩
  | false =>
    have := hg.d (show z < n + k from hs)
    exact ⟨by show (false, g.getD (g.getD z 0) 0) = (false, z); rw [this.2.2.1], fun e => this.2.1 (congrArg Prod.snd e), rfl, this.1⟩
theorem cs_inj {s t u : Bool × Nat} (hs : Val m n k s) (ht : Val m n k t) (h1 : cstep f g m n s = .inl u) (h2 : cstep f g m n t = .inl u) : s = t := by
  have a := (cs_val hf hg hs h1).2.2.2
  have b := (cs_val hf hg ht h2).2.2.2
  rw [a] at b
  have e : opp f g s = opp f g t := Sum.inl.inj b
  rw [← (opp_opp hf hg hs).1, e, (opp_opp hf hg ht).1]
theorem cs_end {s : Bool × Nat} {y : Nat} (hs : Val m n k s) (h : cstep f g m n s = .inr y) : cst m n y = opp f g s ∧ y < m + k := by
  obtain ⟨b, z⟩ := s
  cases b with
  | true =>
    by_cases c : f.getD z 0 < m
    · rw [cs_tl c] at h; cases h
      refine ⟨?_, by omega⟩
      unfold cst; rw [if_pos c]; rfl
    · rw [cs_tg (by omega)] at h; cases h
  | false =>
    have := hg.d (show z < n + k from hs)
    by_cases c : g.getD z 0 < n
    · rw [cs_fl c] at h; cases h
    · rw [cs_fg (by omega)] at h; cases h
      refine ⟨?_, by omega⟩
      unfold cst; rw [if_neg (by omega), show n + (m + (g.getD z 0 - n) - m) = g.getD z 0 by omega]; rfl
theorem cst_val {e : Nat} (he : e < m + k) : Val m n k (cst m n e) ∧ cstep f g m n (opp f g (cst m n e)) = .inr e := by
  unfold cst
  by_cases c : e < m
  · rw [if_pos c]
    have := hf.d (show e < m + n by omega)
    refine ⟨show e < m + n by omega, ?_⟩
    show cstep f g m n (true, f.getD e 0) = .inr e
    rw [cs_tl (by rw [this.2.2.1]; exact c), this.2.2.1]
  · rw [if_neg c]
    have := hg.d (show n + (e - m) < n + k by omega)
    refine ⟨show n + (e - m) < n + k by omega, ?_⟩
    show cstep f g m n (false, g.getD (n + (e - m)) 0) = .inr e
    rw [cs_fg (by rw [this.2.2.1]; omega), this.2.2.1, show m + (n + (e - m) - n) = e by omega]
theorem cs_out {e : Nat} (he : e < m + k) {s : Bool × Nat} (hs : Val m n k s) : cstep f g m n s ≠ .inl (cst m n e) := fun h => by
  have h1 := (cs_val hf hg hs h).2.2.2
  rw [(cst_val hf hg he).2] at h1
  cases h1
theorem walk_ends {e : Nat} (he : e < m + k) : ∃ y, Ends (cstep f g m n) (cst m n e) y := by
  apply Classical.byContradiction
  intro hn
  have go : ∀ i, cstep f g m n (itr (cstep f g m n) (cst m n e) i) = .inl (itr (cstep f g m n) (cst m n e) (i + 1)) := fun i => by
    cases h : cstep f g m n (itr (cstep f g m n) (cst m n e) i) with
    | inr y => exact absurd (ends_of i _ y h) hn
    | inl t => rw [itr_succ h]
  have val : ∀ i, Val m n k (itr (cstep f g m n) (cst m n e) i) := fun i => by
    induction i with
    | zero => exact (cst_val hf hg he).1
    | succ i ih => exact (cs_val hf hg ih (go i)).1
  have diff : ∀ i j, i < j → itr (cstep f g m n) (cst m n e) i ≠ itr (cstep f g m n) (cst m n e) j := fun i => by
    induction i with
    | zero =>
      intro j hj h
      cases j with
      | zero => omega
      | succ j => exact cs_out hf hg he (val j) ((go j).trans (congrArg Sum.inl h.symm))
    | succ i ih =>
      intro j hj h
      cases j with
      | zero => omega
      | succ j => exact ih j (by omega) (cs_inj hf hg (val i) (val j) (go i) ((go j).trans (congrArg Sum.inl h.symm)))
  let code : Bool × Nat → Nat := fun s => if s.1 = true then s.2 - m else n + s.2
  obtain ⟨i, j, h1, h2, h3⟩ := pigeon (2 * n) (fun i => code (itr (cstep f g m n) (cst m n e) (i + 1))) (fun i _ => by
    have v := val (i + 1)
    have := (cs_val hf hg (val i) (go i)).2.1
    generalize itr (cstep f g m n) (cst m n e) (i + 1) = s at v this
    obtain ⟨b, z⟩ := s
    cases b with
    | true =>
      rcases this with h | h
      · have hv : z < m + n := v
        have hz : m ≤ z := h.2
        show (if true = true then z - m else n + z) < 2 * n
        rw [if_pos rfl]; omega
      · cases h.1
    | false =>
      rcases this with h | h
      · cases h.1
      · have hz : z < n := h.2
        show (if false = true then z - m else n + z) < 2 * n
        rw [if_neg Bool.false_ne_true]; omega)
  refine diff (i + 1) (j + 1) (by omega) ?_
  have v1 := (cs_val hf hg (val i) (go i)).2.1
  have v2 := (cs_val hf hg (val j) (go j)).2.1
  have w1 := val (i + 1)
  have w2 := val (j + 1)
  have h3' : code (itr (cstep f g m n) (cst m n e) (i + 1)) = code (itr (cstep f g m n) (cst m n e) (j + 1)) := h3
  clear h3 diff val go hn
  generalize itr (cstep f g m n) (cst m n e) (i + 1) = s at v1 h3' w1
  generalize itr (cstep f g m n) (cst m n e) (j + 1) = t at v2 h3' w2
  obtain ⟨b, z⟩ := s
  obtain ⟨b', z'⟩ := t
  have T : ∀ z, code (true, z) = z - m := fun z => if_pos rfl
  have F : ∀ z, code (false, z) = n + z := fun z => if_neg Bool.false_ne_true
  cases b <;> cases b'
  · rw [F, F] at h3'
    have : z = z' := by omega
    rw [this]
  · rw [F, T] at h3'
    rcases v2 with h | h
    · have : z' < m + n := w2
      have : m ≤ z' := h.2
      omega
    · cases h.1
  · rw [T, F] at h3'
    rcases v1 with h | h
    · have : z < m + n := w1
      have : m ≤ z := h.2
      omega
    · cases h.1
  · rw [T, T] at h3'
    rcases v1 with h | h
    · rcases v2 with h' | h'
      · have : m ≤ z := h.2
        have : m ≤ z' := h'.2
        have : z = z' := by omega
        rw [this]
      · cases h'.1
    · cases h.1
theorem ends_back {s : Bool × Nat} {y : Nat} (h : Ends (cstep f g m n) s y) : Val m n k s → y < m + k ∧ ∀ y0, Ends (cstep f g m n) (opp f g s) y0 → Ends (cstep f g m n) (cst m n y) y0 := by
  induction h with
  | stop h1 =>
    intro hs
    have := cs_end hf hg hs h1
    exact ⟨this.2, fun y0 h0 => by rw [this.1]; exact h0⟩
  | go h1 _ ih =>
    intro hs
    obtain ⟨v1, _, _, v2⟩ := cs_val hf hg hs h1
    obtain ⟨i1, i2⟩ := ih v1
    exact ⟨i1, fun y0 h0 => i2 y0 (.go v2 h0)⟩
theorem ends_inv {e y : Nat} (he : e < m + k) (h : Ends (cstep f g m n) (cst m n e) y) : y < m + k ∧ Ends (cstep f g m n) (cst m n y) e ∧ y ≠ e := by
  obtain ⟨v, o⟩ := cst_val hf hg he
  obtain ⟨h1, h2⟩ := ends_back hf hg h v
  refine ⟨h1, h2 e (.stop o), fun c => ?_⟩
  subst c
  obtain ⟨t, g1, g2⟩ := h.nth
  have val : ∀ i, i ≤ t → Val m n k (itr (cstep f g m n) (cst m n y) i) := fun i => by
    induction i with
    | zero => exact fun _ => v
    | succ i ih => exact fun hi => (cs_val hf hg (ih (by omega)) (g1 i (by omega))).1
  have mir : ∀ j, j ≤ t → opp f g (itr (cstep f g m n) (cst m n y) (t - j)) = itr (cstep f g m n) (cst m n y) j := fun j => by
    induction j with
    | zero => intro _; exact (cs_end hf hg (val t (Nat.le_refl _)) g2).1.symm
    | succ j ih =>
      intro hj
      have a1 := ih (by omega)
      have a2 := g1 (t - (j + 1)) (by omega)
      rw [show t - (j + 1) + 1 = t - j by omega] at a2
      have a3 := (cs_val hf hg (val _ (by omega)) a2).2.2.2
      rw [a1, g1 j (by omega)] at a3
      exact (Sum.inl.inj a3).symm
  by_cases p : t % 2 = 0
  · have := mir (t / 2) (by omega)
    rw [show t - t / 2 = t / 2 by omega] at this
    exact (opp_opp hf hg (val (t / 2) (by omega))).2.1 this
  · have a := mir (t / 2) (by omega)
    rw [show t - t / 2 = t / 2 + 1 by omega] at a
    have b := (opp_opp hf hg (val (t / 2 + 1) (by omega))).2.2.1
    have c := (cs_val hf hg (val (t / 2) (by omega)) (g1 (t / 2) (by omega))).2.2.1
    rw [a] at b
    rw [← b] at c
    exact absurd c (by cases (itr (cstep f g m n) (cst m n y) (t / 2)).1 <;> decide)
end
/-- two layers one behind the other -/
noncomputable def cfar (f g : List Nat) (m n e : Nat) : Nat := open Classical in if h : ∃ y, Ends (cstep f g m n) (cst m n e) y then h.choose else 0
noncomputable def cmp (f g : List Nat) (m n k : Nat) : List Nat := (List.range (m + k)).map fun e => cfar f g m n e
theorem cfar_is {f g : List Nat} {m n e y : Nat} (h : Ends (cstep f g m n) (cst m n e) y) : cfar f g m n e = y := by
  unfold cfar
  rw [dif_pos ⟨y, h⟩]
  exact (Exists.choose_spec (⟨y, h⟩ : ∃ y, Ends (cstep f g m n) (cst m n e) y)).det h
theorem cmp_len (f g : List Nat) (m n k : Nat) : (cmp f g m n k).length = m + k := by unfold cmp; rw [List.length_map, List.length_range]
theorem cmp_get (f g : List Nat) {m n k e : Nat} (h : e < m + k) : (cmp f g m n k)[e]? = some (cfar f g m n e) := by unfold cmp; rw [List.getElem?_map, List.getElem?_range h]; rfl
theorem cmp_d (f g : List Nat) {m n k e : Nat} (h : e < m + k) : (cmp f g m n k).getD e 0 = cfar f g m n e := by
  rw [List.getD_eq_getElem?_getD, cmp_get f g h]; rfl
theorem cmp_ends {f g : List Nat} {m n k e : Nat} (hf : IsPair (m + n) f) (hg : IsPair (n + k) g) (he : e < m + k) : Ends (cstep f g m n) (cst m n e) ((cmp f g m n k).getD e 0) := by
  obtain ⟨y, h⟩ := walk_ends hf hg he
  rw [cmp_d f g he, cfar_is h]; exact h
theorem cmp_pair {f g : List Nat} {m n k : Nat} (hf : IsPair (m + n) f) (hg : IsPair (n + k) g) : IsPair (m + k) (cmp f g m n k) := by
  refine ⟨cmp_len .., fun e he => ?_⟩
  obtain ⟨y, h⟩ := walk_ends hf hg he
  obtain ⟨h1, h2, h3⟩ := ends_inv hf hg he h
  exact ⟨y, by rw [cmp_get f g he, cfar_is h], h1, h3, by rw [cmp_get f g h1, cfar_is h2]⟩
theorem cmp_ext {f g x : List Nat} {m n k : Nat} (hx : x.length = m + k) (h : ∀ e, e < m + k → Ends (cstep f g m n) (cst m n e) (x.getD e 0)) : cmp f g m n k = x := by
  refine List.ext_getElem? fun e => ?_
  by_cases he : e < m + k
  · rw [cmp_get f g he, cfar_is (h e he), List.getD_eq_getElem?_getD, List.getElem?_eq_getElem (by omega)]; rfl
  · rw [List.getElem?_eq_none (by rw [cmp_len]; omega), List.getElem?_eq_none (by omega)]
end Pc
namespace Pc
/-! ### three layers -/
def step3 (f g h : List Nat) (m n k : Nat) : Nat × Nat → (Nat × Nat) ⊕ Nat
  | (0, z) => if f.getD z 0 < m then .inr (f.getD z 0) else .inl (1, f.getD z 0 - m)
  | (1, z) => if g.getD z 0 < n then .inl (0, m + g.getD z 0) else .inl (2, g.getD z 0 - n)
  | (_, z) => if h.getD z 0 < k then .inl (1, n + h.getD z 0) else .inr (m + (h.getD z 0 - k))
section
variable {f g h : List Nat} {m n k l : Nat}
/-- the first two -/
def em1 : Bool × Nat → Nat × Nat
  | (true, z) => (0, z)
  | (false, z) => (1, z)
theorem first_two {s : Bool × Nat} {e : Nat} (w : Ends (cstep f g m n) s e) : (e < m → Ends (step3 f g h m n k) (em1 s) e) ∧ (m ≤ e → ∀ y, Ends (step3 f g h m n k) (2, e - m) y → Ends (step3 f g h m n k) (em1 s) y) := by
  induction w with
  | @stop s e h1 =>
    obtain ⟨b, z⟩ := s
    cases b with
    | true =>
      by_cases c : f.getD z 0 < m
      · rw [cs_tl c] at h1; cases h1
        exact ⟨fun _ => .stop (if_pos c), fun q => absurd c (by omega)⟩
      · rw [cs_tg (by omega)] at h1; cases h1
    | false =>
      by_cases c : g.getD z 0 < n
      · rw [cs_fl c] at h1; cases h1
      · rw [cs_fg (by omega)] at h1; cases h1
        refine ⟨fun q => by omega, fun _ y hy => .go (t := (2, g.getD z 0 - n)) (if_neg c) ?_⟩
        rw [show m + (g.getD z 0 - n) - m = g.getD z 0 - n by omega] at hy
        exact hy
  | @go s t e h1 _ ih =>
    have st : step3 f g h m n k (em1 s) = .inl (em1 t) := by
      obtain ⟨b, z⟩ := s
      cases b with
      | true =>
        by_cases c : f.getD z 0 < m
        · rw [cs_tl c] at h1; cases h1
        · rw [cs_tg (by omega)] at h1; cases h1
          exact if_neg c
      | false =>
        by_cases c : g.getD z 0 < n
        · rw [cs_fl c] at h1; cases h1
          exact if_pos c
        · rw [cs_fg (by omega)] at h1; cases h1
    exact ⟨fun q => .go st (ih.1 q), fun q y hy => .go st (ih.2 q y hy)⟩
/-- the last two -/
def em2 : Bool × Nat → Nat × Nat
  | (true, z) => (1, z)
  | (false, z) => (2, z)
theorem last_two {s : Bool × Nat} {e : Nat} (w : Ends (cstep g h n k) s e) : (n ≤ e → Ends (step3 f g h m n k) (em2 s) (m + (e - n))) ∧ (e < n → ∀ y, Ends (step3 f g h m n k) (0, m + e) y → Ends (step3 f g h m n k) (em2 s) y) := by
  induction w with
  | @stop s e h1 =>
    obtain ⟨b, z⟩ := s
    cases b with
    | true =>
      by_cases c : g.getD z 0 < n
      · rw [cs_tl c] at h1; cases h1
        exact ⟨fun q => absurd c (by omega), fun _ y hy => .go (t := (0, m + g.getD z 0)) (if_pos c) hy⟩
      · rw [cs_tg (by omega)] at h1; cases h1
    | false =>
      by_cases c : h.getD z 0 < k
      · rw [cs_fl c] at h1; cases h1
      · rw [cs_fg (by omega)] at h1; cases h1
        refine ⟨fun _ => .stop ?_, fun q => by omega⟩
        rw [show m + (n + (h.getD z 0 - k) - n) = m + (h.getD z 0 - k) by omega]
        exact if_neg c
  | @go s t e h1 _ ih =>
    have st : step3 f g h m n k (em2 s) = .inl (em2 t) := by
      obtain ⟨b, z⟩ := s
      cases b with
      | true =>
        by_cases c : g.getD z 0 < n
        · rw [cs_tl c] at h1; cases h1
        · rw [cs_tg (by omega)] at h1; cases h1
          exact if_neg c
      | false =>
        by_cases c : h.getD z 0 < k
        · rw [cs_fl c] at h1; cases h1
          exact if_pos c
        · rw [cs_fg (by omega)] at h1; cases h1
    exact ⟨fun q => .go st (ih.1 q), fun q y hy => .go st (ih.2 q y hy)⟩
def em3 (m n : Nat) : Bool × Nat → Nat × Nat
  | (true, z) => if z < m then (0, z) else (1, n + (z - m))
  | (false, z) => (2, z)
def em4 (n k : Nat) : Bool × Nat → Nat × Nat
  | (true, z) => (0, z)
  | (false, z) => if z < n then (1, z) else (2, k + (z - n))
theorem em3_cst (z : Nat) : em3 m n (true, z) = em1 (cst m n z) := by
  unfold cst
  by_cases c : z < m
  · rw [if_pos c]; exact if_pos c
  · rw [if_neg c]; exact if_neg c
theorem em4_cst (z : Nat) : em4 n k (false, z) = em2 (cst n k z) := by
  unfold cst
  by_cases c : z < n
  · rw [if_pos c]; exact if_pos c
  · rw [if_neg c]; exact if_neg c
theorem left_three (hf : IsPair (m + n) f) (hg : IsPair (n + k) g) (hh : IsPair (k + l) h) {s : Bool × Nat} {y : Nat} (w : Ends (cstep (cmp f g m n k) h m k) s y) : Val m k l s → Ends (step3 f g h m n k) (em3 m n s) y := by
  have hfg := cmp_pair hf hg
  induction w with
  | @stop s e h1 =>
    intro hs
    obtain ⟨b, z⟩ := s
    cases b with
    | true =>
      have W := first_two (h := h) (k := k) (cmp_ends hf hg (show z < m + k from hs))
      by_cases c : (cmp f g m n k).getD z 0 < m
      · rw [cs_tl c] at h1; cases h1
        rw [em3_cst]; exact W.1 c
      · rw [cs_tg (by omega)] at h1; cases h1
    | false =>
      by_cases c : h.getD z 0 < k
      · rw [cs_fl c] at h1; cases h1
      · rw [cs_fg (by omega)] at h1; cases h1
        exact .stop (if_neg c)
  | @go s t e h1 _ ih =>
    intro hs
    have ht := (cs_val hfg hh hs h1).1
    obtain ⟨b, z⟩ := s
    cases b with
    | true =>
      have W := first_two (h := h) (k := k) (cmp_ends hf hg (show z < m + k from hs))
      by_cases c : (cmp f g m n k).getD z 0 < m
      · rw [cs_tl c] at h1; cases h1
      · rw [cs_tg (by omega)] at h1; cases h1
        rw [em3_cst]; exact W.2 (by omega) _ (ih ht)
    | false =>
      by_cases c : h.getD z 0 < k
      · rw [cs_fl c] at h1; cases h1
        refine .go (t := (1, n + h.getD z 0)) (if_pos c) ?_
        have q := ih ht
        have e : em3 m n (true, m + h.getD z 0) = (1, n + h.getD z 0) := by
          show (if m + h.getD z 0 < m then _ else _) = _
          rw [if_neg (by omega), show m + h.getD z 0 - m = h.getD z 0 by omega]
        rw [e] at q; exact q
      · rw [cs_fg (by omega)] at h1; cases h1
theorem right_three (hf : IsPair (m + n) f) (hg : IsPair (n + k) g) (hh : IsPair (k + l) h) {s : Bool × Nat} {y : Nat} (w : Ends (cstep f (cmp g h n k l) m n) s y) : Val m n l s → Ends (step3 f g h m n k) (em4 n k s) y := by
  have hgh := cmp_pair hg hh
  induction w with
  | @stop s e h1 =>
    intro hs
    obtain ⟨b, z⟩ := s
    cases b with
    | true =>
      by_cases c : f.getD z 0 < m
      · rw [cs_tl c] at h1; cases h1
        exact .stop (if_pos c)
      · rw [cs_tg (by omega)] at h1; cases h1
    | false =>
      have W := last_two (f := f) (m := m) (cmp_ends hg hh (show z < n + l from hs))
      by_cases c : (cmp g h n k l).getD z 0 < n
      · rw [cs_fl c] at h1; cases h1
      · rw [cs_fg (by omega)] at h1; cases h1
        rw [em4_cst]; exact W.1 (by omega)
  | @go s t e h1 _ ih =>
    intro hs
    have ht := (cs_val hf hgh hs h1).1
    obtain ⟨b, z⟩ := s
    cases b with
    | true =>
      by_cases c : f.getD z 0 < m
      · rw [cs_tl c] at h1; cases h1
      · rw [cs_tg (by omega)] at h1; cases h1
        refine .go (t := (1, f.getD z 0 - m)) (if_neg c) ?_
        have q := ih ht
        have fz := hf.d (show z < m + n from hs)
        have e : em4 n k (false, f.getD z 0 - m) = (1, f.getD z 0 - m) := if_pos (by omega)
        rw [e] at q; exact q
    | false =>
      have W := last_two (f := f) (m := m) (cmp_ends hg hh (show z < n + l from hs))
      by_cases c : (cmp g h n k l).getD z 0 < n
      · rw [cs_fl c] at h1; cases h1
        rw [em4_cst]; exact W.2 c _ (ih ht)
      · rw [cs_fg (by omega)] at h1; cases h1
/-- the order of joining does not matter -/
theorem cmp_assoc (hf : IsPair (m + n) f) (hg : IsPair (n + k) g) (hh : IsPair (k + l) h) : cmp (cmp f g m n k) h m k l = cmp f (cmp g h n k l) m n l := by
  have hfg := cmp_pair hf hg
  have hgh := cmp_pair hg hh
  refine cmp_ext (by rw [cmp_len]) fun e he => ?_
  obtain ⟨y, w⟩ := walk_ends hfg hh he
  have a := left_three hf hg hh w (cst_val hfg hh he).1
  have b := right_three hf hg hh (cmp_ends hf hgh he) (cst_val hf hgh he).1
  have e1 : em3 m n (cst m k e) = em4 n k (cst m n e) := by
    unfold cst
    by_cases c : e < m
    · rw [if_pos c, if_pos c]; exact if_pos c
    · rw [if_neg c, if_neg c]
      show (2, k + (e - m)) = if n + (e - m) < n then _ else _
      rw [if_neg (by omega), show n + (e - m) - n = e - m by omega]
  rw [e1] at a
  rw [← a.det b]; exact w
end
/-! ### what is read is a layer behind a pairing -/
theorem trail_ends {fs ps : List Nat} {n z : Nat} {l : List Nat} (hP : IsPair n ps) (h : Trail fs ps n z l) : Ends (cstep ps fs 0 n) (false, z) (l.getLastD 0 - n) := by
  induction h with
  | @stop z h1 =>
    have := cs_fg (f := ps) (g := fs) (m := 0) (n := n) (z := z) h1
    rw [Nat.zero_add] at this
    exact .stop this
  | @go z l h1 h2 ih =>
    have a := cs_fl (f := ps) (g := fs) (m := 0) (n := n) (z := z) h1
    rw [Nat.zero_add] at a
    have b := cs_tg (f := ps) (g := fs) (m := 0) (n := n) (z := fs.getD z 0) (Nat.zero_le _)
    rw [Nat.sub_zero] at b
    rw [lastc h2.len.1]
    exact .go a (.go b ih)
theorem rd_cmp {fs ps : List Nat} {n : Nat} (hF : IsPair (2 * n) fs) (hP : IsPair n ps) : rd fs ps n = cmp ps fs 0 n n := by
  refine (cmp_ext (by rw [rd_len, Nat.zero_add]) fun e he => ?_).symm
  obtain ⟨l, h1, _⟩ := trail_ex hF hP (z := n + e) (by omega) (by omega)
  have := trail_ends hP h1
  rw [← far_is h1] at this
  have e1 : (rd fs ps n).getD e 0 = far fs ps n (n + e) - n := by
    rw [List.getD_eq_getElem?_getD, rd_get fs ps (by omega)]; rfl
  rw [e1]
  unfold cst
  rw [if_neg (Nat.not_lt_zero _), Nat.sub_zero]
  exact this
/-! ### a call added to the second layer -/
section
variable {f g g' : List Nat} {m n k A B c d : Nat}
theorem Ends.near (hf : IsPair (m + n) f) (hg : IsPair (n + k) g) (hN : Near g g' n A B c d) {s : Bool × Nat} {y : Nat} (w : Ends (cstep f g m n) s y) : Val m n k s → s ≠ (false, A) → s ≠ (false, B) → y ≠ m + (A - n) → y ≠ m + (B - n) → Ends (cstep f g' m n) s y := by
  have la := hN.la
  have lb := hN.lb
  induction w with
  | @stop s y h1 =>
    intro vs s1 s2 y1 y2
    obtain ⟨b, z⟩ := s
    cases b with
    | true =>
      by_cases q : f.getD z 0 < m
      · rw [cs_tl q] at h1; cases h1; exact .stop (cs_tl q)
      · rw [cs_tg (by omega)] at h1; cases h1
    | false =>
      by_cases q : g.getD z 0 < n
      · rw [cs_fl q] at h1; cases h1
      · rw [cs_fg (by omega)] at h1; cases h1
        have e : g'.getD z 0 = g.getD z 0 := hN.eq z (fun e => s1 (by rw [e])) (fun e => s2 (by rw [e])) (fun e => y1 (by rw [e, hN.fc])) (fun e => y2 (by rw [e, hN.fd]))
        have := cs_fg (f := f) (g := g') (m := m) (n := n) (z := z) (by rw [e]; omega)
        rw [e] at this; exact .stop this
  | @go s t y h1 _ ih =>
    intro vs s1 s2 y1 y2
    have cv := cs_val hf hg vs h1
    obtain ⟨b, z⟩ := s
    cases b with
    | true =>
      by_cases q : f.getD z 0 < m
      · rw [cs_tl q] at h1; cases h1
      · rw [cs_tg (by omega)] at h1; cases h1
        have hz := (hf.d (show z < m + n from vs)).1
        exact .go (cs_tg (by omega)) (ih cv.1 (fun h => by have := congrArg Prod.snd h; have e : f.getD z 0 - m = A := this; omega) (fun h => by have := congrArg Prod.snd h; have e : f.getD z 0 - m = B := this; omega) y1 y2)
    | false =>
      by_cases q : g.getD z 0 < n
      · rw [cs_fl q] at h1; cases h1
        have e : g'.getD z 0 = g.getD z 0 := hN.eq z (fun e => s1 (by rw [e])) (fun e => s2 (by rw [e])) (fun e => by rw [e, hN.fc] at q; omega) (fun e => by rw [e, hN.fd] at q; omega)
        have := cs_fl (f := f) (g := g') (m := m) (n := n) (z := z) (by rw [e]; exact q)
        rw [e] at this
        exact .go this (ih cv.1 (fun h => by cases h) (fun h => by cases h) y1 y2)
      · rw [cs_fg (by omega)] at h1; cases h1
theorem Ends.over (hf : IsPair (m + n) f) (hg : IsPair (n + k) g) (hN : Near g g' n A B c d) (hB : B < n + k) {y' : Nat} (wB : Ends (cstep f g m n) (false, B) y') (yA : y' ≠ m + (A - n)) (yB : y' ≠ m + (B - n)) {s : Bool × Nat} {y : Nat} (w : Ends (cstep f g m n) s y) :
    Val m n k s → s ≠ (false, A) → s ≠ (false, B) → y = m + (A - n) → Ends (cstep f g' m n) s y' := by
  have la := hN.la
  have lb := hN.lb
  have fb := hN.fb
  induction w with
  | @stop s y h1 =>
    intro vs s1 s2 y1
    obtain ⟨b, z⟩ := s
    cases b with
    | true =>
      by_cases q : f.getD z 0 < m
      · rw [cs_tl q] at h1; cases h1; omega
      · rw [cs_tg (by omega)] at h1; cases h1
    | false =>
      by_cases q : g.getD z 0 < n
      · rw [cs_fl q] at h1; cases h1
      · rw [cs_fg (by omega)] at h1; cases h1
        have zc : z = c := hN.un z (by omega)
        subst zc
        -- the way of B goes on from here
        cases wB with
        | stop h2 =>
          by_cases p : g.getD B 0 < n
          · rw [cs_fl p] at h2; cases h2
          · rw [cs_fg (by omega)] at h2; cases h2
            have := cs_fg (f := f) (g := g') (m := m) (n := n) (z := z) (by rw [hN.gc, ← fb]; omega)
            rw [hN.gc, ← fb] at this; exact .stop this
        | @go _ t _ h2 h3 =>
          have cv := cs_val hf hg (show Val m n k (false, B) from hB) h2
          by_cases p : g.getD B 0 < n
          · rw [cs_fl p] at h2; cases h2
            have := cs_fl (f := f) (g := g') (m := m) (n := n) (z := z) (by rw [hN.gc, ← fb]; exact p)
            rw [hN.gc, ← fb] at this
            exact .go this (h3.near hf hg hN cv.1 (fun h => by cases h) (fun h => by cases h) yA yB)
          · rw [cs_fg (by omega)] at h2; cases h2
  | @go s t y h1 _ ih =>
    intro vs s1 s2 y1
    have cv := cs_val hf hg vs h1
    obtain ⟨b, z⟩ := s
    cases b with
    | true =>
      by_cases q : f.getD z 0 < m
      · rw [cs_tl q] at h1; cases h1
      · rw [cs_tg (by omega)] at h1; cases h1
        have hz := (hf.d (show z < m + n from vs)).1
        exact .go (cs_tg (by omega)) (ih cv.1 (fun h => by have := congrArg Prod.snd h; have e : f.getD z 0 - m = A := this; omega) (fun h => by have := congrArg Prod.snd h; have e : f.getD z 0 - m = B := this; omega) y1)
    | false =>
      by_cases q : g.getD z 0 < n
      · rw [cs_fl q] at h1; cases h1
        have e : g'.getD z 0 = g.getD z 0 := hN.eq z (fun e => s1 (by rw [e])) (fun e => s2 (by rw [e])) (fun e => by rw [e, hN.fc] at q; omega) (fun e => by rw [e, hN.fd] at q; omega)
        have := cs_fl (f := f) (g := g') (m := m) (n := n) (z := z) (by rw [e]; exact q)
        rw [e] at this
        exact .go this (ih cv.1 (fun h => by cases h) (fun h => by cases h) y1)
      · rw [cs_fg (by omega)] at h1; cases h1
end
/-- a call at the lower ends of the second layer is one at the lower ends of both -/
theorem cmp_jn {f g : List Nat} {m n k a b : Nat} (hn : k = n) (h0 : 0 < n) (hf : IsPair (m + n) f) (hg : IsPair (n + k) g) (hab : a ≠ b) (ha : a < k) (hb : b < k) : cmp f (jn g (n + a) (n + b)) m n k = jn (cmp f g m n k) (m + a) (m + b) := by
  subst hn
  have hR := cmp_pair hf hg
  have hg2 : IsPair (2 * k) g := by rw [show 2 * k = k + k by omega]; exact hg
  by_cases hc : g.getD (k + a) 0 = k + b
  · rw [jn_same (hg.ofd (by omega) hc)]
    have w : Ends (cstep f g m k) (cst m k (m + a)) (m + b) := by
      have := cs_fg (f := f) (g := g) (m := m) (n := k) (z := k + a) (by rw [hc]; omega)
      rw [hc, show k + b - k = b by omega] at this
      unfold cst
      rw [if_neg (by omega), show m + a - m = a by omega]
      exact .stop this
    refine (jn_same ?_).symm
    rw [cmp_get f g (by omega), cfar_is w]
  · obtain ⟨N1, N2, gA, gB⟩ := jn_near hg2 (A := k + a) (B := k + b) (by omega) (by omega) (by omega) (by omega) (by omega) hc
    have hg' : IsPair (k + k) (jn g (k + a) (k + b)) := jn_pair hg (by omega) (by omega) (by omega)
    have ga := hR.d (show m + a < m + k by omega)
    have gb := hR.d (show m + b < m + k by omega)
    have sA : cst m k (m + a) = (false, k + a) := by unfold cst; rw [if_neg (by omega), show m + a - m = a by omega]
    have sB : cst m k (m + b) = (false, k + b) := by unfold cst; rw [if_neg (by omega), show m + b - m = b by omega]
    have wA := cmp_ends hf hg (show m + a < m + k by omega)
    have wB := cmp_ends hf hg (show m + b < m + k by omega)
    have JS : (cmp f g m k k).getD (m + a) 0 = m + b → jn (cmp f g m k k) (m + a) (m + b) = cmp f g m k k := fun c => jn_same (hR.ofd (by omega) c)
    rw [sA] at wA
    rw [sB] at wB
    refine cmp_ext (by rw [jn_len, cmp_len]) fun e he => ?_
    have G : ∀ {v : Nat}, (jn (cmp f g m k k) (m + a) (m + b))[e]? = some v → (jn (cmp f g m k k) (m + a) (m + b)).getD e 0 = v := fun h => getD_of h
    have we := cmp_ends hf hg he
    have ve := (cst_val hf hg he).1
    have ge := hR.d he
    have ne : ∀ {x : Nat}, x < k → e ≠ m + x → cst m k e ≠ (false, k + x) := fun {x} hx h z => by
      unfold cst at z
      by_cases c : e < m
      · rw [if_pos c] at z; cases z
      · rw [if_neg c] at z
        have : k + (e - m) = k + x := congrArg Prod.snd z
        omega
    by_cases ea : e = m + a
    · subst ea
      have w : Ends (cstep f (jn g (k + a) (k + b)) m k) (cst m k (m + a)) (m + b) := by
        have := cs_fg (f := f) (g := jn g (k + a) (k + b)) (m := m) (n := k) (z := k + a) (by rw [gA]; omega)
        rw [gA, show k + b - k = b by omega] at this
        rw [sA]; exact .stop this
      by_cases c : (cmp f g m k k).getD (m + a) 0 = m + b
      · rw [JS c, c]; exact w
      · rw [G (by rw [jn_get hR (by omega) ga.2.2.2 gb.2.2.2 c, if_pos rfl])]; exact w
    · by_cases eb : e = m + b
      · subst eb
        have w : Ends (cstep f (jn g (k + a) (k + b)) m k) (cst m k (m + b)) (m + a) := by
          have := cs_fg (f := f) (g := jn g (k + a) (k + b)) (m := m) (n := k) (z := k + b) (by rw [gB]; omega)
          rw [gB, show k + a - k = a by omega] at this
          rw [sB]; exact .stop this
        by_cases c : (cmp f g m k k).getD (m + a) 0 = m + b
        · rw [JS c, show (cmp f g m k k).getD (m + b) 0 = m + a by rw [← c]; exact ga.2.2.1]; exact w
        · rw [G (by rw [jn_get hR (by omega) ga.2.2.2 gb.2.2.2 c, if_neg (by omega), if_pos rfl])]; exact w
      · have s1 := ne ha ea
        have s2 := ne hb eb
        by_cases yA : (cmp f g m k k).getD e 0 = m + a
        · have e1 : (cmp f g m k k).getD (m + a) 0 = e := by rw [← yA]; exact ge.2.2.1
          have e2 : (cmp f g m k k).getD (m + b) 0 ≠ m + a := fun z => by
            have := gb.2.2.1
            rw [z, e1] at this; omega
          have w := Ends.over hf hg N1 (by omega) wB (by rw [show k + a - k = a by omega]; exact e2) (by rw [show k + b - k = b by omega]; exact gb.2.1) we ve s1 s2 (by rw [show k + a - k = a by omega]; exact yA)
          rw [G (by rw [jn_get hR (by omega) ga.2.2.2 gb.2.2.2 (by rw [e1]; omega), if_neg ea, if_neg eb, if_pos e1.symm])]; exact w
        · by_cases yB : (cmp f g m k k).getD e 0 = m + b
          · have e1 : (cmp f g m k k).getD (m + b) 0 = e := by rw [← yB]; exact ge.2.2.1
            have e2 : (cmp f g m k k).getD (m + a) 0 ≠ m + b := fun z => by
              have := ga.2.2.1
              rw [z, e1] at this; omega
            have e3 : (cmp f g m k k).getD (m + a) 0 ≠ e := fun z => by
              have := ga.2.2.1
              rw [z, yB] at this; omega
            have w := Ends.over hf hg N2 (by omega) wA (by rw [show k + b - k = b by omega]; exact e2) (by rw [show k + a - k = a by omega]; exact ga.2.1) we ve s2 s1 (by rw [show k + b - k = b by omega]; exact yB)
            rw [G (by rw [jn_get hR (by omega) ga.2.2.2 gb.2.2.2 e2, if_neg ea, if_neg eb, if_neg (fun z => e3 z.symm), if_pos e1.symm])]; exact w
          · have w := we.near hf hg N1 ve s1 s2 (by rw [show k + a - k = a by omega]; exact yA) (by rw [show k + b - k = b by omega]; exact yB)
            by_cases c : (cmp f g m k k).getD (m + a) 0 = m + b
            · rw [JS c]; exact w
            · have e1 : (cmp f g m k k).getD (m + a) 0 ≠ e := fun z => by
                have := ga.2.2.1
                rw [z] at this; exact yA this
              have e2 : (cmp f g m k k).getD (m + b) 0 ≠ e := fun z => by
                have := gb.2.2.1
                rw [z] at this; exact yB this
              rw [G (by rw [jn_get hR (by omega) ga.2.2.2 gb.2.2.2 c, if_neg ea, if_neg eb, if_neg (fun z => e1 z.symm), if_neg (fun z => e2 z.symm)]; exact ge.2.2.2)]; exact w
end Pc
namespace Pc
/-! ### sheets one after another -/
theorem IsPair.two {n : Nat} {f : List Nat} (h : IsPair (2 * n) f) : IsPair (n + n) f := by rw [← Nat.two_mul]; exact h
theorem IsPair.one {n : Nat} {f : List Nat} (h : IsPair (n + n) f) : IsPair (2 * n) f := by rw [Nat.two_mul]; exact h
noncomputable def fol (f g : List Nat) (n : Nat) : List Nat := cmp f g n n n
theorem fol_pair {f g : List Nat} {n : Nat} (hf : IsPair (2 * n) f) (hg : IsPair (2 * n) g) : IsPair (2 * n) (fol f g n) := (cmp_pair hf.two hg.two).one
theorem fol_assoc {f g h : List Nat} {n : Nat} (hf : IsPair (2 * n) f) (hg : IsPair (2 * n) g) (hh : IsPair (2 * n) h) : fol (fol f g n) h n = fol f (fol g h n) n := cmp_assoc hf.two hg.two hh.two
theorem rd_fol {f g ps : List Nat} {n : Nat} (hf : IsPair (2 * n) f) (hg : IsPair (2 * n) g) (hP : IsPair n ps) : rd (fol f g n) ps n = rd g (rd f ps n) n := by
  have hR := rd_pair hf hP
  have hP0 : IsPair (0 + n) ps := by rw [Nat.zero_add]; exact hP
  rw [rd_cmp (fol_pair hf hg) hP, rd_cmp hg hR, rd_cmp hf hP]
  exact (cmp_assoc hP0 hf.two hg.two).symm
theorem fol_emp {f : List Nat} {n : Nat} (hn : 0 < n) (hf : IsPair (2 * n) f) : fol f (emp n) n = f := by
  refine cmp_ext (by rw [hf.len]; omega) fun e he => ?_
  have fe := hf.d (show e < 2 * n by omega)
  have em : ∀ {x : Nat}, x < n → (emp n).getD x 0 = n + x := fun h => getD_of (emp_lo h)
  have em2 : ∀ {x : Nat}, x < n → (emp n).getD (n + x) 0 = x := fun h => getD_of (emp_hi h)
  -- from the first layer
  have T : ∀ {z : Nat}, z < 2 * n → Ends (cstep f (emp n) n n) (true, z) (f.getD z 0) := fun {z} hz => by
    have fz := hf.d hz
    by_cases c : f.getD z 0 < n
    · exact .stop (cs_tl c)
    · refine .go (cs_tg (by omega)) (.stop ?_)
      have e1 := em (x := f.getD z 0 - n) (by omega)
      rw [cs_fg (by rw [e1]; omega), e1, show n + (n + (f.getD z 0 - n) - n) = f.getD z 0 by omega]
  unfold cst
  by_cases c : e < n
  · rw [if_pos c]; exact T (by omega)
  · rw [if_neg c]
    have e1 := em2 (x := e - n) (by omega)
    refine .go (t := (true, e)) ?_ (T (by omega))
    rw [cs_fl (by rw [e1]; omega), e1, show n + (e - n) = e by omega]
theorem emp_fol {f : List Nat} {n : Nat} (hn : 0 < n) (hf : IsPair (2 * n) f) : fol (emp n) f n = f := by
  refine cmp_ext (by rw [hf.len]; omega) fun e he => ?_
  have em : ∀ {x : Nat}, x < n → (emp n).getD x 0 = n + x := fun h => getD_of (emp_lo h)
  have em2 : ∀ {x : Nat}, x < n → (emp n).getD (n + x) 0 = x := fun h => getD_of (emp_hi h)
  have T : ∀ {z : Nat}, z < 2 * n → Ends (cstep (emp n) f n n) (false, z) (f.getD z 0) := fun {z} hz => by
    have fz := hf.d hz
    by_cases c : f.getD z 0 < n
    · refine .go (cs_fl c) (.stop ?_)
      have e1 := em2 c
      rw [cs_tl (by rw [e1]; exact c), e1]
    · refine .stop ?_
      rw [cs_fg (by omega), show n + (f.getD z 0 - n) = f.getD z 0 by omega]
  unfold cst
  by_cases c : e < n
  · rw [if_pos c]
    have e1 := em c
    refine .go (t := (false, e)) ?_ (T (by omega))
    rw [cs_tg (by rw [e1]; omega), e1, show n + e - n = e by omega]
  · rw [if_neg c, show n + (e - n) = e by omega]; exact T (by omega)
theorem fol_shw {f : List Nat} {n : Nat} (hn : 0 < n) (hf : IsPair (2 * n) f) : ∀ (qs : List (Nat × Nat)) {g : List Nat}, IsPair (2 * n) g → Calls n qs → fol f (shw n qs g) n = shw n qs (fol f g n)
  | [], _, _, _ => rfl
  | q :: r, g, hg, hc => by
    have h1 := hc q List.mem_cons_self
    have h2 := fol_shw hn hf r (jn_pair hg (a := n + q.1) (b := n + q.2) (by omega) (by omega) (by omega)) (fun x hx => hc x (List.mem_cons_of_mem _ hx))
    have e : fol f (jn g (n + q.1) (n + q.2)) n = jn (fol f g n) (n + q.1) (n + q.2) := cmp_jn rfl hn hf.two hg.two (by omega) (by omega) h1.2
    rw [e] at h2
    exact h2
/-- the sheet of a word behind a sheet is the word added to it -/
theorem fol_word {f : List Nat} {n : Nat} {qs : List (Nat × Nat)} (hn : 0 < n) (hf : IsPair (2 * n) f) (hc : Calls n qs) : fol f (shw n qs (emp n)) n = shw n qs f := by
  rw [fol_shw hn hf qs (emp_pair hn) hc, fol_emp hn hf]
theorem shw_app (n : Nat) (qs rs : List (Nat × Nat)) (f : List Nat) : shw n (qs ++ rs) f = shw n rs (shw n qs f) := by
  unfold shw runs low
  rw [List.map_append, List.foldl_append]
/-! ### again and again -/
noncomputable def pw (f : List Nat) (n : Nat) : Nat → List Nat
  | 0 => emp n
  | k + 1 => fol (pw f n k) f n
theorem pw_pair {f : List Nat} {n : Nat} (hn : 0 < n) (hf : IsPair (2 * n) f) : ∀ k, IsPair (2 * n) (pw f n k)
  | 0 => emp_pair hn
  | k + 1 => fol_pair (pw_pair hn hf k) hf
theorem pw_add {f : List Nat} {n : Nat} (hn : 0 < n) (hf : IsPair (2 * n) f) (a : Nat) : ∀ b, fol (pw f n a) (pw f n b) n = pw f n (a + b)
  | 0 => fol_emp hn (pw_pair hn hf a)
  | b + 1 => by
    show fol (pw f n a) (fol (pw f n b) f n) n = fol (pw f n (a + b)) f n
    rw [← fol_assoc (pw_pair hn hf a) (pw_pair hn hf b) hf, pw_add hn hf a b]
theorem pw_one {f : List Nat} {n : Nat} (hn : 0 < n) (hf : IsPair (2 * n) f) : pw f n 1 = f := emp_fol hn hf
/-! ### upside down -/
def os (n e : Nat) : Nat := if e < n then e + n else e - n
theorem os_lt {n e : Nat} (h : e < 2 * n) : os n e < 2 * n := by unfold os; split <;> omega
theorem os_os {n e : Nat} (h : e < 2 * n) : os n (os n e) = e := by
  unfold os
  by_cases c : e < n
  · rw [if_pos c, if_neg (by omega)]; omega
  · rw [if_neg c, if_pos (by omega)]; omega
def mir (f : List Nat) (n : Nat) : List Nat := (List.range (2 * n)).map fun e => os n (f.getD (os n e) 0)
theorem mir_len (f : List Nat) (n : Nat) : (mir f n).length = 2 * n := by unfold mir; rw [List.length_map, List.length_range]
theorem mir_get (f : List Nat) {n e : Nat} (h : e < 2 * n) : (mir f n)[e]? = some (os n (f.getD (os n e) 0)) := by unfold mir; rw [List.getElem?_map, List.getElem?_range h]; rfl
theorem mir_d (f : List Nat) {n e : Nat} (h : e < 2 * n) : (mir f n).getD e 0 = os n (f.getD (os n e) 0) := getD_of (mir_get f h)
theorem mir_pair {f : List Nat} {n : Nat} (hf : IsPair (2 * n) f) : IsPair (2 * n) (mir f n) := by
  refine ⟨mir_len f n, fun e he => ?_⟩
  have fo := hf.d (os_lt he)
  refine ⟨_, mir_get f he, os_lt fo.1, fun z => ?_, ?_⟩
  · have := congrArg (os n) z
    rw [os_os fo.1] at this
    exact fo.2.1 this
  · rw [mir_get f (os_lt fo.1), os_os fo.1, fo.2.2.1, os_os he]
theorem list_d {x y : List Nat} (h : x.length = y.length) (e : ∀ i, i < x.length → x.getD i 0 = y.getD i 0) : x = y := by
  refine List.ext_getElem? fun i => ?_
  by_cases hi : i < x.length
  · have := e i hi
    rw [List.getD_eq_getElem?_getD, List.getD_eq_getElem?_getD, List.getElem?_eq_getElem hi, List.getElem?_eq_getElem (by omega)] at this
    rw [List.getElem?_eq_getElem hi, List.getElem?_eq_getElem (by omega)]
    exact congrArg some this
  · rw [List.getElem?_eq_none (by omega), List.getElem?_eq_none (by omega)]
theorem mir_mir {f : List Nat} {n : Nat} (hf : IsPair (2 * n) f) : mir (mir f n) n = f := by
  refine list_d (by rw [mir_len, hf.len]) fun e he => ?_
  rw [mir_len] at he
  rw [mir_d _ he, mir_d _ (os_lt he), os_os he, os_os (hf.d he).1]
theorem mir_emp {n : Nat} : mir (emp n) n = emp n := by
  refine list_d (by rw [mir_len, emp_len]) fun e he => ?_
  rw [mir_len] at he
  rw [mir_d _ he]
  by_cases c : e < n
  · have e1 : os n e = n + e := by unfold os; rw [if_pos c]; omega
    rw [e1, getD_of (emp_hi c), getD_of (emp_lo c), e1]
  · have e1 : os n e = e - n := by unfold os; rw [if_neg c]
    have h2 := emp_hi (n := n) (e := e - n) (by omega)
    rw [show n + (e - n) = e by omega] at h2
    rw [e1, getD_of (emp_lo (by omega)), getD_of h2]
    unfold os; rw [if_neg (by omega)]; omega
/-- a walk seen from below -/
theorem mir_ends {f g : List Nat} {n : Nat} (hf : IsPair (2 * n) f) (hg : IsPair (2 * n) g) {s : Bool × Nat} {y : Nat} (w : Ends (cstep f g n n) s y) : Val n n n s → Ends (cstep (mir g n) (mir f n) n n) (!s.1, os n s.2) (os n y) := by
  induction w with
  | @stop s y h1 =>
    intro hs
    obtain ⟨b, z⟩ := s
    have hz : z < 2 * n := by cases b <;> (have : z < n + n := hs; omega)
    cases b with
    | true =>
      have fz := hf.d hz
      by_cases c : f.getD z 0 < n
      · rw [cs_tl c] at h1; cases h1
        have e1 : (mir f n).getD (os n z) 0 = os n (f.getD z 0) := by rw [mir_d _ (os_lt hz), os_os hz]
        have e2 : os n (f.getD z 0) = f.getD z 0 + n := by unfold os; rw [if_pos c]
        refine .stop ?_
        show cstep (mir g n) (mir f n) n n (false, os n z) = _
        rw [cs_fg (by rw [e1, e2]; omega), e1, e2, show n + (f.getD z 0 + n - n) = f.getD z 0 + n by omega]
      · rw [cs_tg (by omega)] at h1; cases h1
    | false =>
      have gz := hg.d hz
      by_cases c : g.getD z 0 < n
      · rw [cs_fl c] at h1; cases h1
      · rw [cs_fg (by omega)] at h1; cases h1
        have e1 : (mir g n).getD (os n z) 0 = os n (g.getD z 0) := by rw [mir_d _ (os_lt hz), os_os hz]
        have e2 : os n (g.getD z 0) = g.getD z 0 - n := by unfold os; rw [if_neg c]
        refine .stop ?_
        show cstep (mir g n) (mir f n) n n (true, os n z) = _
        rw [cs_tl (by rw [e1, e2]; omega), e1, show n + (g.getD z 0 - n) = g.getD z 0 by omega]
  | @go s t y h1 _ ih =>
    intro hs
    have cv := cs_val hf.two hg.two hs h1
    have IH := ih cv.1
    obtain ⟨b, z⟩ := s
    have hz : z < 2 * n := by cases b <;> (have : z < n + n := hs; omega)
    cases b with
    | true =>
      have fz := hf.d hz
      by_cases c : f.getD z 0 < n
      · rw [cs_tl c] at h1; cases h1
      · rw [cs_tg (by omega)] at h1; cases h1
        have e1 : (mir f n).getD (os n z) 0 = os n (f.getD z 0) := by rw [mir_d _ (os_lt hz), os_os hz]
        have e2 : os n (f.getD z 0) = f.getD z 0 - n := by unfold os; rw [if_neg c]
        have e3 : os n (f.getD z 0 - n) = n + (f.getD z 0 - n) := by unfold os; rw [if_pos (by omega)]; omega
        refine .go (t := (true, n + (f.getD z 0 - n))) ?_ (by rw [← e3]; exact IH)
        show cstep (mir g n) (mir f n) n n (false, os n z) = _
        rw [cs_fl (by rw [e1, e2]; omega), e1, e2]
    | false =>
      have gz := hg.d hz
      by_cases c : g.getD z 0 < n
      · rw [cs_fl c] at h1; cases h1
        have e1 : (mir g n).getD (os n z) 0 = os n (g.getD z 0) := by rw [mir_d _ (os_lt hz), os_os hz]
        have e2 : os n (g.getD z 0) = g.getD z 0 + n := by unfold os; rw [if_pos c]
        have e3 : os n (n + g.getD z 0) = g.getD z 0 := by unfold os; rw [if_neg (by omega)]; omega
        refine .go (t := (false, g.getD z 0)) ?_ (by have := IH; rw [show os n (true, n + g.getD z 0).2 = g.getD z 0 from e3] at this; exact this)
        show cstep (mir g n) (mir f n) n n (true, os n z) = _
        rw [cs_tg (by rw [e1, e2]; omega), e1, e2, show g.getD z 0 + n - n = g.getD z 0 by omega]
      · rw [cs_fg (by omega)] at h1; cases h1
theorem mir_fol {f g : List Nat} {n : Nat} (hf : IsPair (2 * n) f) (hg : IsPair (2 * n) g) : mir (fol f g n) n = fol (mir g n) (mir f n) n := by
  refine (cmp_ext (by rw [mir_len]; omega) fun e he => ?_).symm
  have he2 : e < 2 * n := by omega
  have w := mir_ends hf hg (cmp_ends hf.two hg.two (show os n e < n + n by have := os_lt he2; omega)) (cst_val hf.two hg.two (by have := os_lt he2; omega)).1
  rw [mir_d _ he2]
  have e1 : ((!(cst n n (os n e)).1, os n (cst n n (os n e)).2) : Bool × Nat) = cst n n e := by
    unfold cst
    by_cases c : e < n
    · have e2 : os n e = e + n := by unfold os; rw [if_pos c]
      rw [e2, if_neg (by omega), if_pos c, show n + (e + n - n) = e + n by omega]
      show (true, os n (e + n)) = _
      unfold os; rw [if_neg (by omega), Nat.add_sub_cancel]
    · have e2 : os n e = e - n := by unfold os; rw [if_neg c]
      rw [e2, if_pos (by omega), if_neg c]
      show (false, os n (e - n)) = _
      unfold os; rw [if_pos (by omega), Nat.add_comm]
  rw [e1] at w
  exact w
/-- forth, back and forth again -/
theorem fol_mir {f : List Nat} {n : Nat} (hf : IsPair (2 * n) f) : fol (fol f (mir f n) n) f n = f := by
  have hm := mir_pair hf
  have hfm := fol_pair hf hm
  have up : ∀ {x : Nat}, x < n → n ≤ f.getD x 0 → (fol f (mir f n) n).getD x 0 = n + x := fun {x} hx h => by
    have fx := hf.d (show x < 2 * n by omega)
    have w : Ends (cstep f (mir f n) n n) (cst n n x) (n + x) := by
      unfold cst; rw [if_pos hx]
      refine .go (cs_tg h) (.stop ?_)
      have e1 : (mir f n).getD (f.getD x 0 - n) 0 = x + n := by
        rw [mir_d _ (by omega), show os n (f.getD x 0 - n) = f.getD x 0 by unfold os; rw [if_pos (by omega)]; omega, fx.2.2.1]
        unfold os; rw [if_pos hx]
      rw [cs_fg (by rw [e1]; omega), e1, show n + (x + n - n) = n + x by omega]
    show (cmp f (mir f n) n n n).getD x 0 = _
    rw [cmp_d _ _ (by omega), cfar_is w]
  have upp : ∀ {x : Nat}, x < n → f.getD x 0 < n → (fol f (mir f n) n).getD x 0 = f.getD x 0 := fun {x} hx h => by
    have w : Ends (cstep f (mir f n) n n) (cst n n x) (f.getD x 0) := by
      unfold cst; rw [if_pos hx]; exact .stop (cs_tl h)
    show (cmp f (mir f n) n n n).getD x 0 = _
    rw [cmp_d _ _ (by omega), cfar_is w]
  have dn : ∀ {x : Nat}, x < n → n ≤ f.getD x 0 → (fol f (mir f n) n).getD (n + x) 0 = x := fun {x} hx h => by
    have := hfm.d (show x < 2 * n by omega)
    rw [up hx h] at this
    exact this.2.2.1
  refine cmp_ext (by rw [hf.len]; omega) fun e he => ?_
  have fe := hf.d (show e < 2 * n by omega)
  unfold cst
  by_cases c : e < n
  · rw [if_pos c]
    by_cases q : f.getD e 0 < n
    · have := cs_tl (f := fol f (mir f n) n) (g := f) (m := n) (n := n) (z := e) (by rw [upp c q]; exact q)
      rw [upp c q] at this; exact .stop this
    · have u := up c (by omega)
      refine .go (t := (false, e)) ?_ (.stop ?_)
      · rw [cs_tg (by rw [u]; omega), u, show n + e - n = e by omega]
      · rw [cs_fg (by omega), show n + (f.getD e 0 - n) = f.getD e 0 by omega]
  · rw [if_neg c, show n + (e - n) = e by omega]
    by_cases q : f.getD e 0 < n
    · have u := dn q (by rw [fe.2.2.1]; omega)
      refine .go (cs_fl q) (.stop ?_)
      rw [cs_tl (by rw [u]; exact q), u]
    · refine .stop ?_
      rw [cs_fg (by omega), show n + (f.getD e 0 - n) = f.getD e 0 by omega]
/-! ### a walk counted -/
inductive EndsN {S Y : Type} (step : S → S ⊕ Y) : Nat → S → Y → Prop
  | stop {s : S} {y : Y} : step s = .inr y → EndsN step 0 s y
  | go {t : Nat} {s u : S} {y : Y} : step s = .inl u → EndsN step t u y → EndsN step (t + 1) s y
theorem Ends.count {S Y : Type} {step : S → S ⊕ Y} {s : S} {y : Y} (h : Ends step s y) : ∃ t, EndsN step t s y := by
  induction h with
  | stop h => exact ⟨0, .stop h⟩
  | go h _ ih =>
    obtain ⟨t, ht⟩ := ih
    exact ⟨t + 1, .go h ht⟩
end Pc
namespace Pc
open PySem PySem.Spec PyProof.Rows L2 RZ
/-- x //= c -/
def ipHalf : TIp := fun x y H Q => ∃ i j, x = .int i ∧ y = .int j ∧ (0 < j ∧ j < 1073741824) ∧ Q (.int (i / j)) H
theorem ip_half {X : Cx} : PIp X .FloorDiv ipHalf := by
  intro pins s σ H x y v u Q I r1 r2 h
  obtain ⟨i, j, e1, e2, hj, q⟩ := h
  subst e1 e2
  obtain ⟨t, rfl⟩ := r1
  obtain ⟨t', rfl⟩ := r2
  refine PyProof.Rows.ifloordiv_int (by omega) ?_ (.inl (PyProof.noPylong_small (by omega)))
  rw [Int.fdiv_eq_ediv_of_nonneg i (by omega)]
  exact ⟨.int _, H, I.tok _, ⟨_, rfl⟩, q⟩
theorem bl_dec (a b : Bool) : decide (V.bl a = V.bl b) = (a == b) := by cases a <;> cases b <;> rfl
end Pc
namespace Pc
theorem iteY {b : Bool} {A B : Prop} (h : b = true) (a : A) : if b = true then A else B := by rw [if_pos h]; exact a
theorem iteX {b : Bool} {A B : Prop} (h : b = false) (a : B) : if b = true then A else B := by rw [h, if_neg Bool.false_ne_true]; exact a
end Pc
namespace Pc
/-! ### how many strands -/
theorem sts_ups {n : Nat} {fs : List Nat} (h : IsPair (2 * n) fs) : 2 * (ups fs n).length + (sts fs n).length = n := by
  have hp := jns_perm h
  have hc := hp.countP_eq (fun z => decide (z < n))
  rw [range_low] at hc
  unfold jns at hc
  have x1 : (flat (ups fs n)).countP (fun z => decide (z < n)) = 2 * (ups fs n).length := flat_two fun p hp => by
    have := ups_mem h hp
    exact ⟨decide_eq_true (by omega), decide_eq_true (by omega)⟩
  have x2 : (flat ((los fs n).map (fun p => (n + p.1, n + p.2)))).countP (fun z => decide (z < n)) = 0 := flat_none fun p hp => by
    obtain ⟨r, hr, rfl⟩ := List.mem_map.mp hp
    exact ⟨decide_eq_false (by show ¬ n + r.1 < n; omega), decide_eq_false (by show ¬ n + r.2 < n; omega)⟩
  have x3 : (flat ((sts fs n).map (fun p => (p.1, n + p.2)))).countP (fun z => decide (z < n)) = ((sts fs n).map (fun p => (p.1, n + p.2))).length := flat_one fun p hp => by
    obtain ⟨r, hr, rfl⟩ := List.mem_map.mp hp
    have := sts_mem h hr
    exact ⟨decide_eq_true (by show r.1 < n; omega), decide_eq_false (by show ¬ n + r.2 < n; omega)⟩
  rw [flat_app, flat_app, List.countP_append, List.countP_append, x1, x2, x3, List.length_map] at hc
  omega
theorem sel_len {c d : Nat → Bool} {g k : Nat → Nat × Nat} {n : Nat} (h : ∀ x, x < n → c x = d x) : (selN c g n).length = (selN d k n).length := by
  unfold selN
  rw [List.length_map, List.length_map]
  exact congrArg List.length (List.filter_congr fun x hx => h x (List.mem_range.mp hx))
theorem sel_le {c d : Nat → Bool} {g k : Nat → Nat × Nat} {n : Nat} (h : ∀ x, x < n → c x = true → d x = true) : (selN c g n).length ≤ (selN d k n).length := by
  unfold selN
  rw [List.length_map, List.length_map, ← List.countP_eq_length_filter, ← List.countP_eq_length_filter]
  exact List.countP_mono_left fun x hx => h x (List.mem_range.mp hx)
theorem ups_mir {n : Nat} {f : List Nat} (hf : IsPair (2 * n) f) : (ups (mir f n) n).length = (los f n).length := by
  refine sel_len fun x hx => ?_
  have fx := hf.d (show n + x < 2 * n by omega)
  have e : (mir f n).getD x 0 = os n (f.getD (n + x) 0) := by rw [mir_d f (by omega), show os n x = n + x by unfold os; rw [if_pos hx]; omega]
  unfold upC loC
  rw [e]
  by_cases c : f.getD (n + x) 0 < n
  · rw [show os n (f.getD (n + x) 0) = f.getD (n + x) 0 + n by unfold os; rw [if_pos c], decide_eq_false (show ¬ f.getD (n + x) 0 + n < n by omega), decide_eq_false (show ¬ n + x < f.getD (n + x) 0 by omega), Bool.and_false]
  · rw [show os n (f.getD (n + x) 0) = f.getD (n + x) 0 - n by unfold os; rw [if_neg c], decide_eq_true (show f.getD (n + x) 0 - n < n by omega), Bool.and_true]
    by_cases q : n + x < f.getD (n + x) 0
    · rw [decide_eq_true q, decide_eq_true (by omega)]
    · rw [decide_eq_false q, decide_eq_false (by omega)]
theorem sts_mir {n : Nat} {f : List Nat} (hf : IsPair (2 * n) f) : (sts (mir f n) n).length = (sts f n).length := by
  have a := sts_ups hf
  have b := sts_ups (mir_pair hf)
  rw [ups_mir hf, ← ups_los hf] at b
  omega
theorem sts_fol {n : Nat} {f g : List Nat} : (sts (fol f g n) n).length ≤ (sts f n).length := by
  refine sel_le fun x hx h => ?_
  unfold stC at h ⊢
  by_cases c : f.getD x 0 < n
  · have w : Ends (cstep f g n n) (cst n n x) (f.getD x 0) := by unfold cst; rw [if_pos hx]; exact .stop (cs_tl c)
    have e : (fol f g n).getD x 0 = f.getD x 0 := by show (cmp f g n n n).getD x 0 = _; rw [cmp_d _ _ (by omega), cfar_is w]
    rw [e, decide_eq_false (by omega)] at h; cases h
  · exact decide_eq_true (by omega)
theorem sts_fol' {n : Nat} {f g : List Nat} (hf : IsPair (2 * n) f) (hg : IsPair (2 * n) g) : (sts (fol f g n) n).length ≤ (sts g n).length := by
  rw [← sts_mir (fol_pair hf hg), mir_fol hf hg, ← sts_mir hg]
  exact sts_fol
end Pc
namespace Pc
open PySem PySem.Spec PyProof.Rows L2 RZ
theorem room65 {k : Nat} {A : Around} (r : Room k A) : A.units + 65 < cLine := by have := r.un; omega
/-- x *= c, both small -/
def ipMul : TIp := fun x y H Q => ∃ i j, x = .int i ∧ y = .int j ∧ CMul i j ∧ Q (.int (i * j)) H
theorem ip_mul {X : Cx} : PIp X .Mult ipMul := by
  intro pins s σ H x y v u Q I r1 r2 h
  obtain ⟨i, j, e1, e2, hj, q⟩ := h
  subst e1 e2
  obtain ⟨t, rfl⟩ := r1
  obtain ⟨t', rfl⟩ := r2
  exact PyProof.Rows.imul_int ⟨.int _, H, I.tok _, ⟨_, rfl⟩, q⟩ hj.ok
end Pc
namespace Pc
/-! ### counting -/
theorem cnt_same {p q : Nat → Bool} {n : Nat} (h : ∀ y, y < n → q y = p y) : (List.range n).countP q = (List.range n).countP p :=
  List.countP_congr fun x hx => by rw [h x (List.mem_range.mp hx)]
theorem cnt_off {p q : Nat → Bool} {a : Nat} : ∀ {n : Nat}, (∀ y, y < n → y ≠ a → q y = p y) → a < n → p a = true → q a = false → (List.range n).countP q + 1 = (List.range n).countP p
  | 0, _, h, _, _ => absurd h (Nat.not_lt_zero _)
  | n + 1, h, ha, h1, h2 => by
    rw [List.range_succ, List.countP_append, List.countP_append]
    by_cases e : a = n
    · subst e
      rw [cnt_same (p := p) (q := q) (fun y hy => h y (by omega) (by omega)), List.countP_cons_of_neg (by rw [h2]; decide), List.countP_cons_of_pos h1]
      rfl
    · have ih := cnt_off (p := p) (q := q) (a := a) (n := n) (fun y hy hn => h y (by omega) hn) (by omega) h1 h2
      have e1 : [n].countP q = [n].countP p := by
        have := h n (by omega) (fun z => e z.symm)
        by_cases c : p n = true
        · rw [List.countP_cons_of_pos c, List.countP_cons_of_pos (by rw [this]; exact c)]; rfl
        · rw [List.countP_cons_of_neg c, List.countP_cons_of_neg (by rw [this]; exact c)]; rfl
      rw [e1]
      omega
/-! ### the people at the lower ends of strands -/
def lsC (f : List Nat) (n y : Nat) : Bool := decide (f.getD (n + y) 0 < n)
def lse (f : List Nat) (n : Nat) : List Nat := (List.range n).filter (lsC f n)
theorem lse_len {f : List Nat} {n : Nat} (hf : IsPair (2 * n) f) : (lse f n).length = (sts f n).length := by
  rw [← sts_mir hf]
  unfold lse sts selN
  rw [List.length_map]
  refine congrArg List.length (List.filter_congr fun x hx => ?_)
  have hx := List.mem_range.mp hx
  have fx := hf.d (show n + x < 2 * n by omega)
  have e : (mir f n).getD x 0 = os n (f.getD (n + x) 0) := by rw [mir_d f (by omega), show os n x = n + x by unfold os; rw [if_pos hx]; omega]
  unfold lsC stC
  rw [e]
  by_cases c : f.getD (n + x) 0 < n
  · rw [decide_eq_true c, show os n (f.getD (n + x) 0) = f.getD (n + x) 0 + n by unfold os; rw [if_pos c], decide_eq_true (by omega)]
  · rw [decide_eq_false c, show os n (f.getD (n + x) 0) = f.getD (n + x) 0 - n by unfold os; rw [if_neg c], decide_eq_false (by omega)]
theorem lse_cnt (f : List Nat) (n : Nat) : (lse f n).length = (List.range n).countP (lsC f n) := (List.countP_eq_length_filter ..).symm
/-- a call takes two strands if both people's lower ends are strands, else none -/
theorem lse_jn {f : List Nat} {n a b : Nat} (hf : IsPair (2 * n) f) (hab : a ≠ b) (ha : a < n) (hb : b < n) : (lse (jn f (n + a) (n + b)) n).length + (if (lsC f n a && lsC f n b) = true then 2 else 0) = (lse f n).length := by
  rw [lse_cnt, lse_cnt]
  have fa := hf.d (show n + a < 2 * n by omega)
  have fb := hf.d (show n + b < 2 * n by omega)
  by_cases hc : f.getD (n + a) 0 = n + b
  · rw [jn_same (hf.ofd (by omega) hc), if_neg, Nat.add_zero]
    unfold lsC
    rw [hc, decide_eq_false (show ¬ n + b < n by omega), Bool.false_and]
    decide
  · have G := jn_get hf (show n + a ≠ n + b by omega) fa.2.2.2 fb.2.2.2 hc
    have D : ∀ z, (jn f (n + a) (n + b)).getD z 0 = ((jn f (n + a) (n + b))[z]?).getD 0 := fun z => List.getD_eq_getElem?_getD
    obtain ⟨x1, x2, x3, x4, _⟩ := four hf (show n + a ≠ n + b by omega) fa.2.2.2 fb.2.2.2 hc
    have pa : lsC (jn f (n + a) (n + b)) n a = false := by
      unfold lsC; rw [D, G, if_pos rfl]; exact decide_eq_false (by show ¬ n + b < n; omega)
    have pb : lsC (jn f (n + a) (n + b)) n b = false := by
      unfold lsC; rw [D, G, if_neg (by omega), if_pos rfl]; exact decide_eq_false (by show ¬ n + a < n; omega)
    have same : ∀ y, y ≠ a → y ≠ b → n + y ≠ f.getD (n + a) 0 → n + y ≠ f.getD (n + b) 0 → lsC (jn f (n + a) (n + b)) n y = lsC f n y := fun y h1 h2 h3 h4 => by
      unfold lsC; rw [D, G, if_neg (by omega), if_neg (by omega), if_neg h3, if_neg h4, ← List.getD_eq_getElem?_getD]
    by_cases ca : f.getD (n + a) 0 < n
    · by_cases cb : f.getD (n + b) 0 < n
      · have qa : lsC f n a = true := decide_eq_true ca
        have qb : lsC f n b = true := decide_eq_true cb
        rw [qa, qb, Bool.and_true, if_pos rfl]
        have s1 := cnt_off (p := lsC f n) (q := fun y => if y = a then false else lsC f n y) (a := a) (n := n) (fun y _ h => if_neg h) ha qa (if_pos rfl)
        have s2 := cnt_off (p := fun y => if y = a then false else lsC f n y) (q := lsC (jn f (n + a) (n + b)) n) (a := b) (n := n) (fun y _ h => by
          by_cases e : y = a
          · rw [e, if_pos rfl]; exact pa
          · rw [if_neg e]; exact same y e h (by omega) (by omega)) hb (by rw [if_neg (Ne.symm hab)]; exact qb) pb
        omega
      · have qb : lsC f n b = false := decide_eq_false cb
        have qa : lsC f n a = true := decide_eq_true ca
        rw [qa, qb, if_neg (by decide), Nat.add_zero]
        -- the one at the other end of b's pair gets the strand
        have hv : f.getD (n + b) 0 - n < n := by omega
        have ev : n + (f.getD (n + b) 0 - n) = f.getD (n + b) 0 := by omega
        have qv : lsC f n (f.getD (n + b) 0 - n) = false := by unfold lsC; rw [ev, fb.2.2.1]; exact decide_eq_false (by omega)
        have pv : lsC (jn f (n + a) (n + b)) n (f.getD (n + b) 0 - n) = true := by
          unfold lsC; rw [ev, D, G, if_neg x3, if_neg x2, if_neg (Ne.symm x4), if_pos rfl]; exact decide_eq_true ca
        have s1 := cnt_off (p := lsC f n) (q := fun y => if y = a then false else lsC f n y) (a := a) (n := n) (fun y _ h => if_neg h) ha qa (if_pos rfl)
        have va : f.getD (n + b) 0 - n ≠ a := fun z => by rw [z, qa] at qv; cases qv
        have s2 := cnt_off (q := fun y => if y = a then false else lsC f n y) (p := lsC (jn f (n + a) (n + b)) n) (a := f.getD (n + b) 0 - n) (n := n) (fun y _ h => by
          by_cases e : y = a
          · rw [e, if_pos rfl]; exact pa.symm
          · rw [if_neg e]
            by_cases e2 : y = b
            · rw [e2, pb, qb]
            · exact (same y e e2 (by omega) (by omega)).symm) hv pv (by rw [if_neg va]; exact qv)
        omega
    · have qa : lsC f n a = false := decide_eq_false ca
      by_cases cb : f.getD (n + b) 0 < n
      · have qb : lsC f n b = true := decide_eq_true cb
        rw [qa, qb, if_neg (by decide), Nat.add_zero]
        have hv : f.getD (n + a) 0 - n < n := by omega
        have ev : n + (f.getD (n + a) 0 - n) = f.getD (n + a) 0 := by omega
        have qv : lsC f n (f.getD (n + a) 0 - n) = false := by unfold lsC; rw [ev, fa.2.2.1]; exact decide_eq_false (by omega)
        have pv : lsC (jn f (n + a) (n + b)) n (f.getD (n + a) 0 - n) = true := by
          unfold lsC; rw [ev, D, G, if_neg x1, if_neg hc, if_pos rfl]; exact decide_eq_true cb
        have s1 := cnt_off (p := lsC f n) (q := fun y => if y = b then false else lsC f n y) (a := b) (n := n) (fun y _ h => if_neg h) hb qb (if_pos rfl)
        have vb : f.getD (n + a) 0 - n ≠ b := fun z => by rw [z, qb] at qv; cases qv
        have s2 := cnt_off (q := fun y => if y = b then false else lsC f n y) (p := lsC (jn f (n + a) (n + b)) n) (a := f.getD (n + a) 0 - n) (n := n) (fun y _ h => by
          by_cases e : y = b
          · rw [e, if_pos rfl]; exact pb.symm
          · rw [if_neg e]
            by_cases e2 : y = a
            · rw [e2, pa, qa]
            · exact (same y e2 e (by omega) (by omega)).symm) hv pv (by rw [if_neg vb]; exact qv)
        omega
      · have qb : lsC f n b = false := decide_eq_false cb
        rw [qa, qb, if_neg (by decide), Nat.add_zero]
        refine cnt_same fun y hy => ?_
        by_cases e1 : y = a
        · rw [e1, pa, qa]
        · by_cases e2 : y = b
          · rw [e2, pb, qb]
          · by_cases e3 : n + y = f.getD (n + a) 0
            · have h1 : lsC f n y = false := by unfold lsC; rw [e3, fa.2.2.1]; exact decide_eq_false (by omega)
              have h2 : lsC (jn f (n + a) (n + b)) n y = false := by unfold lsC; rw [e3, D, G, if_neg x1, if_neg hc, if_pos rfl]; exact decide_eq_false cb
              rw [h1, h2]
            · by_cases e4 : n + y = f.getD (n + b) 0
              · have h1 : lsC f n y = false := by unfold lsC; rw [e4, fb.2.2.1]; exact decide_eq_false (by omega)
                have h2 : lsC (jn f (n + a) (n + b)) n y = false := by unfold lsC; rw [e4, D, G, if_neg x3, if_neg x2, if_neg (Ne.symm x4), if_pos rfl]; exact decide_eq_false ca
                rw [h1, h2]
              · exact same y e1 e2 e3 e4
/-! ### how many pairings -/
def dfac : Nat → Nat
  | 0 => 1
  | r + 1 => dfac r * (2 * r + 1)
theorem dfac_pos : ∀ r, 0 < dfac r
  | 0 => Nat.one_pos
  | r + 1 => Nat.mul_pos (dfac_pos r) (by omega)
theorem dfac_dvd (r : Nat) : ∀ k, dfac r ∣ dfac (r + k)
  | 0 => Nat.dvd_refl _
  | k + 1 => Nat.dvd_trans (dfac_dvd r k) ⟨2 * (r + k) + 1, rfl⟩
end Pc
namespace Pc
open PySem PySem.Spec PyProof.Rows L2 RZ
theorem in_nat (i : Nat) (l : List Nat) : inV (.int (i : Int)) (nv l) = decide (i ∈ l) := by
  unfold inV nv
  rw [List.any_map, Bool.eq_iff_iff, List.any_eq_true, decide_eq_true_iff]
  constructor
  · rintro ⟨x, hx, e⟩
    have e' : eqV (.int (x : Int)) (.int (i : Int)) = true := e
    have : (x : Int) = (i : Int) := by simpa [eqV] using e'
    have : x = i := by omega
    exact this ▸ hx
  · intro h
    exact ⟨i, h, by show eqV (.int (i : Int)) (.int (i : Int)) = true; simp [eqV]⟩
theorem flat_nat (l : List Nat) : (nv l).all flatV = true := by
  unfold nv
  rw [List.all_map, List.all_eq_true]
  exact fun x _ => rfl
theorem mem_data {ps : List (Nat × Nat)} {p : Nat × Nat} (h : p ∈ ps) : ((ps.map pd).any fun z => PyData.eqv z (pd p)) = true := by
  rw [List.any_eq_true]
  exact ⟨pd p, List.mem_map.mpr ⟨p, h, rfl⟩, PySem.SeqAt.eqv_refl _ rfl⟩
/-! ### a call and the pairs of a sheet -/
theorem los_jn {f : List Nat} {n a b : Nat} (hf : IsPair (2 * n) f) (hab : a < b) (hb : b < n) : (a, b) ∈ los (jn f (n + a) (n + b)) n := by
  have e : (jn f (n + a) (n + b)).getD (n + a) 0 = n + b := by
    have fa := hf.d (show n + a < 2 * n by omega)
    have fb := hf.d (show n + b < 2 * n by omega)
    by_cases hc : f.getD (n + a) 0 = n + b
    · rw [jn_same (hf.ofd (by omega) hc), hc]
    · exact getD_of (by rw [jn_get hf (by omega) fa.2.2.2 fb.2.2.2 hc, if_pos rfl])
  refine selN_mem.mpr ⟨a, by omega, ?_, ?_⟩
  · unfold loC; rw [e]; exact decide_eq_true (by omega)
  · unfold loG; rw [e, Nat.add_sub_cancel_left]
theorem ups_jn {f : List Nat} {n a b : Nat} (hf : IsPair (2 * n) f) (hab : a < b) (hb : b < n) {p : Nat × Nat} (hp : p ∈ ups f n) : p ∈ ups (jn f (n + a) (n + b)) n := by
  obtain ⟨x, hx, c, e⟩ := selN_mem.mp hp
  unfold upC at c
  rw [Bool.and_eq_true, decide_eq_true_iff, decide_eq_true_iff] at c
  have fa := hf.d (show n + a < 2 * n by omega)
  have fb := hf.d (show n + b < 2 * n by omega)
  have fx := hf.d (show x < 2 * n by omega)
  have e2 : (jn f (n + a) (n + b)).getD x 0 = f.getD x 0 := by
    by_cases hc : f.getD (n + a) 0 = n + b
    · rw [jn_same (hf.ofd (by omega) hc)]
    · refine getD_of ?_
      rw [jn_get hf (by omega) fa.2.2.2 fb.2.2.2 hc, if_neg (by omega), if_neg (by omega), if_neg (fun z => by rw [z, fa.2.2.1] at c; omega), if_neg (fun z => by rw [z, fb.2.2.1] at c; omega)]
      exact fx.2.2.2
  refine selN_mem.mpr ⟨x, hx, ?_, ?_⟩
  · unfold upC; rw [e2, decide_eq_true c.1, decide_eq_true c.2]; rfl
  · rw [← e]; unfold upG; rw [e2]
theorem low_lows {f : List Nat} {n y : Nat} (hf : IsPair (2 * n) f) (hy : y < n) : decide (y ∈ (sts f n).map Prod.snd) = lsC f n y := by
  have fy := hf.d (show n + y < 2 * n by omega)
  unfold lsC
  rw [decide_eq_decide]
  constructor
  · intro h
    obtain ⟨p, hp, e⟩ := List.mem_map.mp h
    obtain ⟨h1, h2, h3⟩ := sts_mem hf hp
    have := (hf.back h1).1
    rw [e] at this
    rw [getD_of this]; exact h2
  · intro h
    refine List.mem_map.mpr ⟨(f.getD (n + y) 0, y), ?_, rfl⟩
    refine selN_mem.mpr ⟨f.getD (n + y) 0, h, ?_, ?_⟩
    · unfold stC; rw [fy.2.2.1]; exact decide_eq_true (by omega)
    · unfold stG; rw [fy.2.2.1, Nat.add_sub_cancel_left]
theorem rd_los {f ps : List Nat} {n : Nat} (hf : IsPair (2 * n) f) {p : Nat × Nat} (hp : p ∈ los f n) : (rd f ps n)[p.1]? = some p.2 := by
  obtain ⟨h1, h2, h3⟩ := los_mem hf hp
  have e := getD_of h1
  have t := Trail.stop (fs := f) (ps := ps) (n := n) (z := n + p.1) (by rw [e]; omega)
  rw [rd_get f ps (by omega), far_is t, e]
  show some (n + p.2 - n) = _
  rw [Nat.add_sub_cancel_left]
theorem jn_idem {n : Nat} {fs : List Nat} (hP : IsPair n fs) {a b : Nat} (hab : a ≠ b) (ha : a < n) (hb : b < n) : jn (jn fs a b) a b = jn fs a b := by
  have fa := hP.d ha
  have fb := hP.d hb
  refine jn_same ?_
  by_cases hc : fs.getD a 0 = b
  · rw [jn_same (hP.ofd ha hc)]; exact hP.ofd ha hc
  · rw [jn_get hP hab fa.2.2.2 fb.2.2.2 hc, if_pos rfl]
end Pc
namespace Pc
/-! ### words that settle -/
def sw : List Nat → List (Nat × Nat)
  | a :: b :: c :: r => (a, b) :: sw (c :: r)
  | _ => []
theorem sw_eq : ∀ l : List Nat, sw l = (List.range ((l.length - 1) / 2)).map fun i => (l.getD (2 * i) 0, l.getD (2 * i + 1) 0)
  | [] => rfl
  | [_] => by simp [sw]
  | [_, _] => by simp [sw]
  | a :: b :: c :: r => by
    show (a, b) :: sw (c :: r) = _
    rw [sw_eq (c :: r)]
    have e : ((a :: b :: c :: r).length - 1) / 2 = ((c :: r).length - 1) / 2 + 1 := by simp only [List.length_cons]; omega
    rw [e, List.range_succ_eq_map, List.map_cons, List.map_map]
    rfl
theorem sw_len (l : List Nat) : (sw l).length = (l.length - 1) / 2 := by rw [sw_eq, List.length_map, List.length_range]
theorem lse_two {f : List Nat} {n a b : Nat} (hf : IsPair (2 * n) f) (hab : a ≠ b) (ha : a < n) (hb : b < n) (qa : lsC f n a = true) (qb : lsC f n b = true) : lse (jn f (n + a) (n + b)) n = (lse f n).filter (fun y => !decide (y = a) && !decide (y = b)) := by
  have fa := hf.d (show n + a < 2 * n by omega)
  have fb := hf.d (show n + b < 2 * n by omega)
  have ca : f.getD (n + a) 0 < n := of_decide_eq_true qa
  have cb : f.getD (n + b) 0 < n := of_decide_eq_true qb
  have hc : f.getD (n + a) 0 ≠ n + b := by omega
  have G := jn_get hf (show n + a ≠ n + b by omega) fa.2.2.2 fb.2.2.2 hc
  have D : ∀ z, (jn f (n + a) (n + b)).getD z 0 = ((jn f (n + a) (n + b))[z]?).getD 0 := fun z => List.getD_eq_getElem?_getD
  unfold lse
  rw [List.filter_filter]
  refine List.filter_congr fun y _ => ?_
  unfold lsC
  rw [D, G]
  by_cases e1 : y = a
  · rw [if_pos (by omega), decide_eq_true e1]
    show decide (n + b < n) = _
    rw [decide_eq_false (by omega)]; rfl
  · by_cases e2 : y = b
    · rw [if_neg (by omega), if_pos (by omega), decide_eq_true e2]
      show decide (n + a < n) = _
      rw [decide_eq_false (by omega), Bool.not_true, Bool.and_false]; rfl
    · rw [if_neg (by omega), if_neg (by omega), if_neg (by omega), if_neg (by omega), ← List.getD_eq_getElem?_getD, decide_eq_false e1, decide_eq_false e2]
      simp
theorem lse_nodup (f : List Nat) (n : Nat) : (lse f n).Nodup := List.nodup_range.filter _
theorem lse_mem {f : List Nat} {n y : Nat} : y ∈ lse f n ↔ y < n ∧ lsC f n y = true := by
  unfold lse; rw [List.mem_filter, List.mem_range]
theorem settle_end {n : Nat} : ∀ (l : List Nat) {f : List Nat}, IsPair (2 * n) f → lse f n = l → (lse (shw n (sw l) f) n).length ≤ 2 ∧ IsPair (2 * n) (shw n (sw l) f)
  | [], f, hf, h => by
    show (lse f n).length ≤ 2 ∧ IsPair (2 * n) f
    rw [h]; exact ⟨by decide, hf⟩
  | [_], f, hf, h => by
    show (lse f n).length ≤ 2 ∧ IsPair (2 * n) f
    rw [h]; exact ⟨by simp, hf⟩
  | [_, _], f, hf, h => by
    show (lse f n).length ≤ 2 ∧ IsPair (2 * n) f
    rw [h]; exact ⟨by simp, hf⟩
  | a :: b :: c :: r, f, hf, h => by
    have hnd := lse_nodup f n
    rw [h] at hnd
    obtain ⟨n1, hnd2⟩ := List.nodup_cons.mp hnd
    obtain ⟨n2, _⟩ := List.nodup_cons.mp hnd2
    have ma := lse_mem.mp (show a ∈ lse f n by rw [h]; exact List.mem_cons_self)
    have mb := lse_mem.mp (show b ∈ lse f n by rw [h]; exact List.mem_cons_of_mem _ List.mem_cons_self)
    have hab : a ≠ b := fun e => n1 (e ▸ List.mem_cons_self)
    have hj : IsPair (2 * n) (jn f (n + a) (n + b)) := jn_pair hf (by omega) (by omega) (by omega)
    have e : lse (jn f (n + a) (n + b)) n = c :: r := by
      rw [lse_two hf hab ma.1 mb.1 ma.2 mb.2, h, List.filter_cons_of_neg (by simp), List.filter_cons_of_neg (by simp)]
      refine List.filter_eq_self.mpr fun y hy => ?_
      have y1 : y ≠ a := fun z => n1 (z ▸ List.mem_cons_of_mem _ hy)
      have y2 : y ≠ b := fun z => n2 (z ▸ hy)
      rw [decide_eq_false y1, decide_eq_false y2]; rfl
    exact settle_end (c :: r) hj e
theorem sw_calls {n : Nat} {f : List Nat} : ∀ (l : List Nat), l.Pairwise (· < ·) → (∀ x ∈ l, x < n) → Calls n (sw l)
  | [], _, _ => fun q hq => by simp [sw] at hq
  | [_], _, _ => fun q hq => by simp [sw] at hq
  | [_, _], _, _ => fun q hq => by simp [sw] at hq
  | a :: b :: c :: r, hp, hl => fun q hq => by
    rcases List.mem_cons.mp (show q ∈ (a, b) :: sw (c :: r) from hq) with z | z
    · rw [z]
      exact ⟨(List.pairwise_cons.mp hp).1 b List.mem_cons_self, hl b (List.mem_cons_of_mem _ List.mem_cons_self)⟩
    · exact sw_calls (f := f) (c :: r) (List.pairwise_cons.mp (List.pairwise_cons.mp hp).2).2 (fun x hx => hl x (List.mem_cons_of_mem _ (List.mem_cons_of_mem _ hx))) q z
theorem lse_asc (f : List Nat) (n : Nat) : (lse f n).Pairwise (· < ·) := List.pairwise_lt_range.filter _
theorem word_calls (f : List Nat) (n : Nat) : Calls n (sw (lse f n)) := sw_calls (f := f) _ (lse_asc f n) fun x hx => (lse_mem.mp hx).1
/-- who is loose has somebody who is loose -/
theorem rd_loose {f ps : List Nat} {n x : Nat} (hf : IsPair (2 * n) f) (hP : IsPair n ps) (hx : x ∈ lse f n) : (rd f ps n).getD x 0 ∈ lse f n ∧ (rd f ps n).getD x 0 ≠ x := by
  obtain ⟨hxn, hc⟩ := lse_mem.mp hx
  have hR := rd_pair hf hP
  have rx := hR.d hxn
  refine ⟨lse_mem.mpr ⟨rx.1, ?_⟩, rx.2.1⟩
  cases q : lsC f n ((rd f ps n).getD x 0) with
  | true => rfl
  | false =>
    have c : n ≤ f.getD (n + (rd f ps n).getD x 0) 0 := by
      have := of_decide_eq_false q
      omega
    have t := Trail.stop (fs := f) (ps := ps) (n := n) (z := n + (rd f ps n).getD x 0) c
    have e1 : (rd f ps n).getD ((rd f ps n).getD x 0) 0 = f.getD (n + (rd f ps n).getD x 0) 0 - n := by
      refine getD_of ?_
      rw [rd_get f ps rx.1, far_is t]; rfl
    rw [rx.2.2.1] at e1
    have fy := hf.d (show n + (rd f ps n).getD x 0 < 2 * n by omega)
    have e2 : f.getD (n + (rd f ps n).getD x 0) 0 = n + x := by omega
    have e3 := fy.2.2.1
    rw [e2] at e3
    have := of_decide_eq_true hc
    omega
theorem two_same {l : List Nat} (hl : l.length ≤ 2) {x y z : Nat} (hx : x ∈ l) (hy : y ∈ l) (hz : z ∈ l) (h1 : y ≠ x) (h2 : z ≠ x) : y = z := by
  match l, hl with
  | [], _ => simp at hx
  | [u], _ =>
    rw [List.mem_singleton] at hx hy
    exact absurd (hy.trans hx.symm) h1
  | [u, v], _ =>
    simp only [List.mem_cons, List.not_mem_nil, or_false] at hx hy hz
    omega
/-- with two strands at most there is only one result -/
theorem rd_settled {f ps qs : List Nat} {n : Nat} (hf : IsPair (2 * n) f) (hP : IsPair n ps) (hQ : IsPair n qs) (hl : (lse f n).length ≤ 2) : rd f ps n = rd f qs n := by
  refine list_d (by rw [rd_len, rd_len]) fun x hx => ?_
  rw [rd_len] at hx
  by_cases c : lsC f n x = true
  · have hm := lse_mem.mpr ⟨hx, c⟩
    exact two_same hl hm (rd_loose hf hP hm).1 (rd_loose hf hQ hm).1 (rd_loose hf hP hm).2 (rd_loose hf hQ hm).2
  · have c' : n ≤ f.getD (n + x) 0 := by
      apply Classical.byContradiction
      intro h
      exact c (decide_eq_true (by omega))
    have t1 := Trail.stop (fs := f) (ps := ps) (n := n) (z := n + x) c'
    have t2 := Trail.stop (fs := f) (ps := qs) (n := n) (z := n + x) c'
    rw [List.getD_eq_getElem?_getD, List.getD_eq_getElem?_getD, rd_get f ps hx, rd_get f qs hx, far_is t1, far_is t2]
/-- the word of a sheet leads everybody to the same -/
theorem word_settles {f ps qs : List Nat} {n : Nat} (hf : IsPair (2 * n) f) (hP : IsPair n ps) (hQ : IsPair n qs) : runs (sw (lse f n)) (rd f ps n) = runs (sw (lse f n)) (rd f qs n) := by
  obtain ⟨h1, h2⟩ := settle_end (lse f n) hf rfl
  rw [← rd_runs hP _ hf (word_calls f n), ← rd_runs hQ _ hf (word_calls f n)]
  exact rd_settled h2 hP hQ h1
/-- calls of couples make these couples -/
theorem runs_keep {n : Nat} {ps : List Nat} (hP : IsPair n ps) : ∀ (cs : List (Nat × Nat)) {R : List Nat}, IsPair n R → (∀ p ∈ cs, ps[p.1]? = some p.2 ∧ p.1 < p.2) → ∀ x y, ps[x]? = some y → (R.getD x 0 = y ∨ (x, y) ∈ cs ∨ (y, x) ∈ cs) → (runs cs R).getD x 0 = y
  | [], R, _, _, x, y, _, h => by
    rcases h with h | h | h
    · exact h
    · simp at h
    · simp at h
  | (a, b) :: cs, R, hR, hc, x, y, hxy, h => by
    have hab := hc (a, b) List.mem_cons_self
    have h1 : ps[a]? = some b := hab.1
    have hlt : a < b := hab.2
    obtain ⟨b1, b2, b3, b4⟩ := hP.back h1
    have Ra := hR.d b3
    have Rb := hR.d b2
    have hj : IsPair n (jn R a b) := jn_pair hR (by omega) b3 b2
    obtain ⟨x1, x2, x3, x4⟩ := hP.back hxy
    refine runs_keep hP cs (R := jn R a b) hj (fun p hp => hc p (List.mem_cons_of_mem _ hp)) x y hxy ?_
    have ja : (jn R a b).getD a 0 = b ∧ (jn R a b).getD b 0 = a := by
      by_cases c : R.getD a 0 = b
      · rw [jn_same (hR.ofd b3 c)]
        exact ⟨c, by have := Ra.2.2.1; rw [c] at this; exact this⟩
      · have G := jn_get hR (show a ≠ b by omega) Ra.2.2.2 Rb.2.2.2 c
        exact ⟨getD_of (by rw [G, if_pos rfl]), getD_of (by rw [G, if_neg (by omega), if_pos rfl])⟩
    rcases h with h | h | h
    · refine .inl ?_
      by_cases c : R.getD a 0 = b
      · rw [jn_same (hR.ofd b3 c)]; exact h
      · have G := jn_get hR (show a ≠ b by omega) Ra.2.2.2 Rb.2.2.2 c
        have xa : x ≠ a := fun e => by subst e; rw [h1] at hxy; rw [← Option.some.inj hxy] at h; exact c h
        have xb : x ≠ b := fun e => by
          subst e
          rw [b1] at hxy
          rw [← Option.some.inj hxy] at h
          have := Rb.2.2.1
          rw [h] at this; exact c this
        have xc : x ≠ R.getD a 0 := fun e => by
          have : R.getD x 0 = a := by rw [e]; exact Ra.2.2.1
          rw [h] at this
          rw [this, h1] at x1
          exact xb (Option.some.inj x1).symm
        have xd : x ≠ R.getD b 0 := fun e => by
          have : R.getD x 0 = b := by rw [e]; exact Rb.2.2.1
          rw [h] at this
          rw [this, b1] at x1
          exact xa (Option.some.inj x1).symm
        refine getD_of ?_
        rw [G, if_neg xa, if_neg xb, if_neg xc, if_neg xd]
        exact hR.ofd x3 h
    · rcases List.mem_cons.mp h with z | z
      · injection z with z1 z2
        subst z1 z2
        exact .inl ja.1
      · exact .inr (.inl z)
    · rcases List.mem_cons.mp h with z | z
      · injection z with z1 z2
        subst z1 z2
        exact .inl ja.2
      · exact .inr (.inr z)
theorem in_drop {α : Type} {l : List α} {p : α} (h : p ∈ l) : p ∈ l.dropLast ∨ ∃ hn : l ≠ [], p = l.getLast hn := by
  have hn : l ≠ [] := fun e => by rw [e] at h; simp at h
  rw [← List.dropLast_concat_getLast hn] at h
  rcases List.mem_append.mp h with z | z
  · exact .inl z
  · exact .inr ⟨hn, List.mem_singleton.mp z⟩
/-- the couples but the last lead everybody there -/
theorem cpl_runs {n : Nat} {ps q0 : List Nat} (hP : IsPair n ps) (hQ : IsPair n q0) : runs (cpl ps).dropLast q0 = ps := by
  have hc : ∀ p ∈ (cpl ps).dropLast, ps[p.1]? = some p.2 ∧ p.1 < p.2 := fun p hp => (mem_cpl hP).mp (List.dropLast_subset _ hp)
  have hcalls : Calls n (cpl ps).dropLast := fun p hp => by
    have := hc p hp
    exact ⟨this.2, (hP.back this.1).2.1⟩
  have hR := runs_pair _ hQ hcalls
  have good : ∀ {x : Nat}, x < n → ∀ {p : Nat × Nat}, p ∈ (cpl ps).dropLast → (p.1 = x ∨ p.2 = x) → (runs (cpl ps).dropLast q0).getD x 0 = ps.getD x 0 := fun {x} hx {p} hp e => by
    have px := hP.d hx
    have pp := hc p hp
    refine runs_keep hP _ hQ hc x _ px.2.2.2 (.inr ?_)
    rcases e with e | e
    · left
      have : ps.getD x 0 = p.2 := by rw [← e]; exact getD_of pp.1
      rw [this, ← e]; exact hp
    · right
      have : ps.getD x 0 = p.1 := by rw [← e]; exact getD_of (hP.back pp.1).1
      rw [this, ← e]; exact hp
  refine list_d (by rw [hR.len, hP.len]) fun x hx => ?_
  rw [hR.len] at hx
  obtain ⟨p, hp, ep⟩ := cpl_cover hP hx
  rcases in_drop hp with z | ⟨hn, z⟩
  · exact good hx z ep
  · have rx := hR.d hx
    have px := hP.d hx
    obtain ⟨p', hp', ep'⟩ := cpl_cover hP rx.1
    rcases in_drop hp' with z' | ⟨hn', z'⟩
    · have g := good rx.1 z' ep'
      rw [rx.2.2.1] at g
      have := (hP.d rx.1).2.2.1
      rw [← g] at this
      exact this.symm
    · have e : p' = p := z'.trans z.symm
      subst e
      have pp := (mem_cpl hP).mp hp
      have g1 := getD_of pp.1
      have g2 := getD_of (hP.back pp.1).1
      rcases ep with e | e
      · rw [← e, g1]
        rcases ep' with e' | e'
        · exact absurd (e'.symm.trans e).symm (fun w => rx.2.1 w.symm)
        · rw [← e] at e'; exact e'.symm
      · rw [← e, g2]
        rcases ep' with e' | e'
        · rw [← e] at e'; exact e'.symm
        · exact absurd (e'.symm.trans e).symm (fun w => rx.2.1 w.symm)
end Pc
namespace Pc
open PySem PySem.Spec PyProof.Rows L2 RZ
theorem cut_k (vs : List V) (i : Nat) : cutV vs none (some (i : Int)) = vs.take i := by
  unfold cutV
  rw [HT.sIx_none, HT.sIx_nat, List.drop_zero, Nat.sub_zero]
  by_cases h : i ≤ vs.length
  · rw [Nat.min_eq_left h]
  · rw [Nat.min_eq_right (by omega), List.take_of_length_le (Nat.le_refl _), List.take_of_length_le (by omega)]
end Pc
namespace Pc
open PySem PySem.Spec PyProof.Rows L2 RZ
/-! ### data of small size, by its depth -/
def Sz : Nat → Nat
  | 0 => 61
  | 1 => 6303
  | 2 => 630503
  | _ => 15762628
abbrev Fi (j : Nat) (d : PyData) : Prop := Fine j (Sz j) d
theorem Sz_le : ∀ j, Sz j ≤ Sz (j + 1)
  | 0 => by decide
  | 1 => by decide
  | 2 => by decide
  | _ + 3 => Nat.le_refl _
theorem Fine.up {j : Nat} {d : PyData} (h : Fi j d) : Fi (j + 1) d := h.mono (Nat.le_succ _) (Sz_le j)
theorem Fine.sh {j : Nat} {d : PyData} (h : Fi j d) (hj : j ≤ 60 := by decide) : SeqAt.shaped d = true := Fine.shaped h (by omega)
theorem fi_int {i : Int} (h : i.natAbs < 2 ^ 60) : Fi 0 (.int i) := fine_int h
theorem fi_bl {b : Bool} : Fi 0 (.bool b) := ⟨rfl, rfl, Nat.le_refl _, trivial, by cases b <;> decide⟩
theorem fi_non : Fi 0 .none := ⟨rfl, rfl, Nat.le_refl _, trivial, by decide⟩
theorem fi_tup {l : List Nat} {m : Nat} (hl : IsPair m l) (hm : m ≤ 100) : Fi 1 (td l) := (fine_tup (n := 100) (fun i hi => by have := hl.lt i hi; omega) (by rw [hl.len]; omega) (by decide)).mono (Nat.le_refl _) (by decide)
/-- numbers of small size, not many -/
def Fw (l : List Nat) : Prop := l.length ≤ 100 ∧ ∀ i ∈ l, i < 2 ^ 60
theorem fb {l : List Nat} {m : Nat} (hl : IsPair m l) (hm : m ≤ 100) : Fw l := ⟨by rw [hl.len]; exact hm, fun i hi => by have := hl.lt i hi; omega⟩
theorem fi_tup' {l : List Nat} (h : Fw l) : Fi 1 (td l) := (fine_tup (n := 100) h.2 h.1 (by decide)).mono (Nat.le_refl _) (by decide)
theorem fi_lst {l : List Nat} (h : Fw l) : Fi 1 (.list (nd l)) := (fine_list (k := 0) (m := 61) (n := 100) (fine_nd h.2) (by rw [nd_length]; exact h.1) (by decide)).mono (Nat.le_refl _) (by decide)
theorem fi_prs {qs : List (Nat × Nat)} (h : qs.length ≤ 1000 ∧ ∀ p ∈ qs, p.1 < 2 ^ 60 ∧ p.2 < 2 ^ 60) : Fi 2 (.list (qs.map pd)) := (fine_pds (n := 1000) h.2 h.1 (by decide)).mono (Nat.le_refl _) (by decide)
theorem fa_nil {j : Nat} : ∀ d ∈ ([] : List PyData), Fi j d := fun _ h => absurd h List.not_mem_nil
theorem fa_cons {j : Nat} {d : PyData} {ds : List PyData} (h : Fi j d) (r : ∀ x ∈ ds, Fi j x) : ∀ x ∈ d :: ds, Fi j x := fun x hx => (List.mem_cons.mp hx).elim (fun e => by rw [e]; exact h) (r x)
def Few (j n : Nat) : Prop := n * (Sz j + 2) + 3 ≤ Sz (j + 1) ∧ n ≤ 100000
instance (j n : Nat) : Decidable (Few j n) := by unfold Few; infer_instance
theorem fi_list {j : Nat} {ds : List PyData} (h : ∀ d ∈ ds, Fi j d) (hn : n = ds.length := by rfl) (hf : Few j n := by decide) : Fi (j + 1) (.list ds) := (fine_list (k := j) (m := Sz j) (n := n) h (by rw [hn]; exact Nat.le_refl _) hf.2).mono (Nat.le_refl _) hf.1
theorem fi_tuple {j : Nat} {ds : List PyData} (h : ∀ d ∈ ds, Fi j d) (hn : n = ds.length := by rfl) (hf : Few j n := by decide) : Fi (j + 1) (.tuple ds) := (fine_tuple (k := j) (m := Sz j) (n := n) h (by rw [hn]; exact Nat.le_refl _) hf.2).mono (Nat.le_refl _) hf.1
theorem fi_ne {j : Nat} {d : PyData} (h : Fi j d) : (!PyData.eqv d d) = false := by
  rw [PySem.SeqAt.eqv_refl _ h.lay]; rfl
theorem fi_eq {j : Nat} {d : PyData} (h : Fi j d) : PyData.eqv d d = true := PySem.SeqAt.eqv_refl _ h.lay
/-! ### arguments by name, in another order -/
def pm10 {α : Type} : List α → List α
  | [a, b] => [b, a]
  | l => l
theorem rel_pm10 {zs : List V} {ws : List Value} (_ : zs.length = 2) (r : Vals zs ws) : Vals (pm10 zs) (pm10 ws) := by
  match zs, ws, r with
  | [], _, .nil => exact .nil
  | [_], _, .cons h .nil => exact .cons h .nil
  | [_, _], _, .cons h1 (.cons h2 .nil) => exact .cons h2 (.cons h1 .nil)
  | _ :: _ :: _ :: _, _, .cons h1 (.cons h2 (.cons h3 r)) => exact .cons h1 (.cons h2 (.cons h3 r))
def pm0 {α : Type} (l : List α) : List α := l
theorem rel_pm0 {zs : List V} {ws : List Value} (_ : zs.length = 1) (r : Vals zs ws) : Vals (pm0 zs) (pm0 ws) := r
end Pc
namespace Pc
open PySem PySem.Spec PyProof.Rows L2 RZ
theorem calls_app {n : Nat} {qs rs : List (Nat × Nat)} (h : Calls n qs) (g : Calls n rs) : Calls n (qs ++ rs) := fun q hq => (List.mem_append.mp hq).elim (h q) (g q)
end Pc
namespace Pc
open PySem PySem.Spec PyProof.Rows L2 RZ
/-- the slots, written out -/
theorem st_eq {t : TS} {D : L2.Ends} {σ : L2.St} {H : Hp} (σ' : L2.St) (h : t D σ' H) (e : σ = σ') : t D σ H := by rw [e]; exact h
end Pc
namespace Pc
open PySem PySem.Spec PyProof.Rows L2 RZ
theorem st_set {i : Nat} {v : V} {σ : L2.St} {H : Hp} {Q : L2.St → Hp → Prop} (σ' : L2.St) (h : Q σ' H) (e : σ.set i (some v) = σ') : gName i v σ H Q := by
  unfold gName
  rw [e]; exact h
end Pc
namespace Pc
open PySem PySem.Spec PyProof.Rows L2 RZ
theorem fi_same {x y : V} (e : x = y) : (!decide (x = y)) = false := by rw [decide_eq_true e]; rfl
theorem fi_is {x y : V} (e : x = y) : decide (x = y) = true := decide_eq_true e
end Pc
namespace Pc
open PySem PySem.Spec PyProof.Rows L2 RZ
theorem st_kept {D : L2.Ends} {i : Nat} {a C d : Addr} {σ1 : L2.St} {H : Hp} (σ' : L2.St) (h : D.nx σ' (upd H a (exk a (.ref C) (some d)))) (e : σ1.set i none = σ') :
    ({ nx := fun σ'' H'' => D.nx (σ''.set i none) (upd H'' a (exk a (.ref C) (some d))), rt := fun _ _ => False } : L2.Ends).nx σ1 H := by
  show D.nx (σ1.set i none) _
  rw [e]; exact h
end Pc
namespace Pc
open PySem PySem.Spec PyProof.Rows L2 RZ
theorem st_setH {i : Nat} {v : V} {σ : L2.St} {H : Hp} {Q : L2.St → Hp → Prop} (σ' : L2.St) (H' : Hp) (h : Q σ' H') (e : σ.set i (some v) = σ') (eh : H = H') : gName i v σ H Q := by
  unfold gName
  rw [e, eh]; exact h
end Pc
namespace Pc
open PySem PySem.Spec PyProof.Rows L2 RZ
/-! ### one of some defs, called -/
def FOk (X : Cx) (CX : CXT) (f : Addr) (sp : Sp) : Prop := ∃ (k : Nat) (fd : FuncData) (ps : List Str), FnOk X.prog X.w X.K X.mg X.base CX k f fd ps sp ∧ Room k X.A ∧ PySem.W.keepIn X.K (.ref f) = true ∧ Binds X.K fd ps []
def tCallF (cs : List (Addr × Sp)) (E : L2.St → XK) (tf : TE) (t : TA) : TE := fun σ H Q => tf σ H fun v H1 => ∃ (f : Addr) (sp : Sp), (f, sp) ∈ cs ∧ v = .ref f ∧ t σ H1 fun vs H2 => sp vs H2 Q (E σ)
theorem fall_nil {X : Cx} {CX : CXT} : ∀ c ∈ ([] : List (Addr × Sp)), FOk X CX c.1 c.2 := fun _ h => absurd h List.not_mem_nil
theorem fall_cons {X : Cx} {CX : CXT} {f : Addr} {sp : Sp} {cs : List (Addr × Sp)} (h : FOk X CX f sp) (r : ∀ c ∈ cs, FOk X CX c.1 c.2) : ∀ c ∈ (f, sp) :: cs, FOk X CX c.1 c.2 := fun c hc => (List.mem_cons.mp hc).elim (fun e => by rw [e]; exact h) (r c)
theorem pe_callF {X : Cx} {CX : CXT} {cs : List (Addr × Sp)} {E : L2.St → XK} {fe e : Expr} {es : List Expr} {tf : TE} {t : TA} {pos : Pos} (hall : ∀ c ∈ cs, FOk X CX c.1 c.2) (hx : ∀ σ, PassesAt CX X σ (E σ)) (hf : PE X fe tf) (ha : PA X (e :: es) t)
    (ht : eval (.Call fe (e :: es) [] pos) X.env = (do callWith pos (← eval fe X.env) [] (backTo pos (starEach (e :: es) X.env)) (backToKw pos (keywordEach [] X.env))) := by rfl)
    (he : starEach (e :: es) X.env = (false, eval e X.env) :: starEach es X.env := by rfl) (hpl : (backTo pos (starEach es X.env)).any (·.1) = false := by rfl) : PE X (.Call fe (e :: es) [] pos) (tCallF cs E tf t) := by
  refine ⟨fun pins s σ H Q I h => ?_⟩
  refine Call_ (thn (hf.run pins s σ H _ I h) fun u s1 ⟨y, H1, I1, ry, f, sp, hm, ey, q⟩ => ?_) ht
  subst ey
  obtain rfl : u = Value.ref f := ry
  obtain ⟨k, fd, ps, F, hr, hk, hb⟩ := hall _ hm
  refine PySem.W.callWith_K (h₀ := X.base) I1.ok.mod.kin hk (thn (ha.run pos pins s1 σ H1 _ I1 q) fun us s2 ⟨vs, H2, I2, r, q2⟩ => ⟨I2.kIn, ?_⟩) he hpl
  exact run_fnS F hr hb (hx σ) I2 r q2
/-- C(e, ..), the arguments never come -/
theorem pe_callN {X : Cx} {f : Addr} {x : Str} {p pos : Pos} {e : Expr} {es : List Expr} {t : TA} (hg : Gl X x) (hm : X.mg x = some (.ref f)) (hk : PySem.W.keepIn X.K (.ref f) = true) (ha : PA X (e :: es) t) (hdb : (x == ("__debug__" : Str)) = false := by decide)
    (he : starEach (e :: es) X.env = (false, eval e X.env) :: starEach es X.env := by rfl) (hpl : (backTo pos (starEach es X.env)).any (·.1) = false := by rfl) :
    PE X (.Call (.Name x p) (e :: es) [] pos) (fun σ H _ => t σ H fun _ _ => False) := by
  refine ⟨fun pins s σ H Q I h => ?_⟩
  refine wpAny_Call_Name_kw (ld_glob I hg hm ?_ hdb)
  exact PySem.W.callWith_K (h₀ := X.base) I.ok.mod.kin hk (thn (ha.run pos pins s σ H _ I h) fun us s1 ⟨vs, H1, I1, r, q⟩ => q.elim) he hpl
end Pc
namespace Pc
open PySem PySem.Spec PyProof.Rows L2 RZ
section
variable {P : Program} {w : World} {K : PySem.W.Frag} {mg : Str → Option Value} {base : Heap}
/-! ### the looks at calls: valid ones raise nothing -/
def spCheckPerson : Sp := fun vs H Q _ => ∃ (n u : Nat), vs = [.int n, .int u] ∧ u < n ∧ Q .non H
theorem ok_p_check_person (T : Env K mg) : FnOk P w K mg base CX0 1 T.f_p_check_person T.d_p_check_person ["size", "person"] spCheckPerson := by
  refine T.F_p_check_person.ok sc_p_check_person (fun vs H Q E h => ?_) (fun cdv A outer s H vs Q E hr h => ?_)
  · obtain ⟨n, u, rfl, _⟩ := h
    rfl
  · obtain ⟨n, u, rfl, hu, q⟩ := h
    refine ⟨_, pss_one (ps_if (pt_not (pt_chain op_le op_lt pe_int (pv 1) (pv 0))) pss_never pss_nil), ?_⟩
    refine ⟨_, rfl, 0, u, rfl, rfl, _, rfl, ?_⟩
    rw [decide_eq_true (show (0 : Int) ≤ (u : Int) by omega)]
    refine iteT ⟨.int n, rfl, u, n, rfl, rfl, _, rfl, ?_⟩
    rw [decide_eq_true (show (u : Int) < (n : Int) by omega)]
    exact iteN q
def spCheckCall (K : PySem.W.Frag) : Sp := fun vs H Q _ => ∃ (n a b : Nat) (c : Addr), vs = [.int n, .ref c] ∧ Sq K H c [.int a, .int b] ∧ a < n ∧ b < n ∧ Q .non H
theorem ok_p_check_call (T : Env K mg) : FnOk P w K mg base CX0 2 T.f_p_check_call T.d_p_check_call ["size", "call"] (spCheckCall K) := by
  have G1 : FnOk P w K mg base CX0 1 T.f_p_check_person T.d_p_check_person ["size", "person"] spCheckPerson := ok_p_check_person T
  refine T.F_p_check_call.ok sc_p_check_call (fun vs H Q E h => ?_) (fun cdv A outer s H vs Q E hr h => ?_)
  · obtain ⟨n, a, b, c, rfl, _⟩ := h
    rfl
  · obtain ⟨n, a, b, c, rfl, hS, ha, hb, q⟩ := h
    refine ⟨_, pss_one (ps_for PassesOwn.never rfl (pi_seq (pv 1)) (pg_name (i := 2) sc_p_check_call.nd rfl (.inl rfl)) (pss_one (ps_expr (pe_call G1 hr (by rfl) T.g_p_check_person T.F_p_check_person.kp T.b_p_check_person .nil pass0 (pa_cons (pv 0) (pa_cons (pv 2) pa_nil)))))), ?_⟩
    refine ⟨.ref c, rfl, c, rfl, for_seq hS (fun i σ H' => H' = H ∧ ∃ y : Option V, σ = [some (.int n), some (.ref c), y]) ⟨rfl, none, rfl⟩ (fun i σ H' h => by rw [h.1]; exact Same.refl _) (fun i x σ H' hx h => ?_) (fun σ H' h => by rw [h.1]; exact q)⟩
    obtain ⟨rfl, y, rfl⟩ := h
    have hx' : ∃ u : Nat, x = .int u ∧ u < n := by
      have hi : i < 2 := get_lt hx
      rcases (show i = 0 ∨ i = 1 by omega) with z | z
      · subst z; exact ⟨a, (Option.some.inj hx).symm, ha⟩
      · subst z; exact ⟨b, (Option.some.inj hx).symm, hb⟩
    obtain ⟨u, rfl, hu⟩ := hx'
    exact ⟨_, rfl, _, rfl, n, u, rfl, hu, rfl, _, rfl⟩
def spCheckWord (K : PySem.W.Frag) : Sp := fun vs H Q _ => ∃ (n : Nat) (wd : Addr) (us : List V) (qs : List (Nat × Nat)), vs = [.int n, .ref wd] ∧ Sq K H wd us ∧ Items K H us qs ∧ Calls n qs ∧ Q .non H
theorem ok_p_check_word (T : Env K mg) : FnOk P w K mg base CX0 3 T.f_p_check_word T.d_p_check_word ["size", "word"] (spCheckWord K) := by
  have G1 : FnOk P w K mg base CX0 2 T.f_p_check_call T.d_p_check_call ["size", "call"] (spCheckCall K) := ok_p_check_call T
  refine T.F_p_check_word.ok sc_p_check_word (fun vs H Q E h => ?_) (fun cdv A outer s H vs Q E hr h => ?_)
  · obtain ⟨n, wd, us, qs, rfl, _⟩ := h
    rfl
  · obtain ⟨n, wd, us, qs, rfl, hS, hI, hc, q⟩ := h
    refine ⟨_, pss_one (ps_for PassesOwn.never rfl (pi_seq (pv 1)) (pg_name (i := 2) sc_p_check_word.nd rfl (.inl rfl)) (pss_one (ps_expr (pe_call G1 hr (by rfl) T.g_p_check_call T.F_p_check_call.kp T.b_p_check_call .nil pass0 (pa_cons (pv 0) (pa_cons (pv 2) pa_nil)))))), ?_⟩
    refine ⟨.ref wd, rfl, wd, rfl, for_seq hS (fun i σ H' => H' = H ∧ ∃ y : Option V, σ = [some (.int n), some (.ref wd), y]) ⟨rfl, none, rfl⟩ (fun i σ H' h => by rw [h.1]; exact Same.refl _) (fun i x σ H' hx h => ?_) (fun σ H' h => by rw [h.1]; exact q)⟩
    obtain ⟨rfl, y, rfl⟩ := h
    obtain ⟨c, p, rfl, hp, hq⟩ := hI.2 i x hx
    have := hc p (List.mem_of_getElem? hp)
    exact ⟨.int n, rfl, .ref c, rfl, n, p.1, p.2, c, rfl, hq, by omega, by omega, rfl, _, rfl⟩
/-! ### join_two -/
def spJoin : Sp := fun vs H Q _ => ∃ (j : Addr) (fs : List Nat) (n a b : Nat), vs = [.ref j, .int a, .int b] ∧ H j = some (.lst (nv fs)) ∧ IsPair n fs ∧ a < n ∧ b < n ∧
  ∀ H' : Hp, H' j = some (.lst (nv (jn fs a b))) → Keep j H H' → Q (.bl (!decide (fs.getD a 0 = b))) H'
theorem ok_p_join_two (T : Env K mg) : FnOk P w K mg base CX0 1 T.f_p_join_two T.d_p_join_two ["joined", "a", "b"] spJoin := by
  refine T.F_p_join_two.ok sc_p_join_two (fun vs H Q E h => ?_) (fun cdv A outer s H vs Q E hr h => ?_)
  · obtain ⟨j, fs, n, a, b, rfl, _⟩ := h
    rfl
  · obtain ⟨j, fs, n, a, b, rfl, hj, hP, ha, hb, q⟩ := h
    refine ⟨_, pss_cons (ps_set (i := 3) sc_p_join_two.nd rfl (.inl rfl) (pe_ix ix_list (pv 0) (pv 1) (fun _ _ => rfl))) <|
      pss_cons (ps_set (i := 4) sc_p_join_two.nd rfl (.inl rfl) (pe_ix ix_list (pv 0) (pv 2) (fun _ _ => rfl))) <|
      pss_cons (ps_if (pt_cmpR op_eq (pv 3) (pv 2) (nomark _)) (pss_one (ps_ret pe_bl)) pss_nil) <|
      pss_cons (ps_asg (pv 2) (pg_sub (pv 0) (pv 1) set_list)) <| pss_cons (ps_asg (pv 1) (pg_sub (pv 0) (pv 2) set_list)) <|
      pss_cons (ps_asg (pv 4) (pg_sub (pv 0) (pv 3) set_list)) <| pss_cons (ps_asg (pv 3) (pg_sub (pv 0) (pv 4) set_list)) <| pss_one (ps_ret pe_bl), ?_⟩
    obtain ⟨c, ea, hc, _⟩ := hP.par a ha
    obtain ⟨d, eb, hd, _⟩ := hP.par b hb
    have hS : SqL K H j (nv fs) := .inl (.inl hj)
    have hl := hP.len
    refine ⟨.ref j, rfl, .int a, rfl, j, _, _, _, rfl, rfl, hS, nv_at ea, ?_⟩
    refine ⟨.ref j, rfl, .int b, rfl, j, _, _, _, rfl, rfl, hS, nv_at eb, ?_⟩
    refine ⟨_, rfl, _, rfl, rfl, _, rfl, ite2 (fun e => ?_) (fun e => ?_)⟩
    · have e1 : c = b := by have := V.int.inj (of_decide_eq_true e); omega
      subst e1
      have := q H (by rw [jn_same ea]; exact hj) (Keep.refl _ _)
      rw [getD_of ea, decide_eq_true rfl] at this
      exact this
    · have e1 : c ≠ b := fun z => e (by rw [z]; exact decide_eq_true rfl)
      have ln : ∀ {l : List V}, l.length = fs.length → ∀ {i : Nat}, i < n → ixN l.length (i : Int) = some i := fun {l} hl2 {i} hi => ixN_nat (by rw [hl2, hl]; exact hi)
      refine ⟨_, rfl, .ref j, rfl, _, rfl, j, _, _, a, rfl, rfl, hj, ln (nv_length _) ha, ?_⟩
      refine ⟨_, rfl, .ref j, rfl, _, rfl, j, _, _, b, rfl, rfl, upd_same, ln (by rw [List.length_set, nv_length]) hb, ?_⟩
      refine ⟨_, rfl, .ref j, rfl, _, rfl, j, _, _, c, rfl, rfl, upd_same, ln (by rw [List.length_set, List.length_set, nv_length]) hc, ?_⟩
      refine ⟨_, rfl, .ref j, rfl, _, rfl, j, _, _, d, rfl, rfl, upd_same, ln (by rw [List.length_set, List.length_set, List.length_set, nv_length]) hd, ?_⟩
      have := q (upd (upd (upd (upd H j (.lst ((nv fs).set a (.int b)))) j (.lst (((nv fs).set a (.int b)).set b (.int a)))) j (.lst ((((nv fs).set a (.int b)).set b (.int a)).set c (.int d)))) j (.lst (((((nv fs).set a (.int b)).set b (.int a)).set c (.int d)).set d (.int c))))
        (by
          rw [upd_same, nv_set, nv_set, nv_set, nv_set]
          unfold jn
          rw [getD_of ea, getD_of eb, if_neg e1])
        (fun x o nx hx => by rw [upd_ne nx, upd_ne nx, upd_ne nx, upd_ne nx]; exact hx)
      rw [getD_of ea, decide_eq_false e1] at this
      exact this
end
end Pc
namespace Pc
open PySem PySem.Spec PyProof.Rows L2 RZ
theorem emp_two (n : Nat) : emp n = ((List.range n).map fun i => n + i) ++ List.range n := by
  refine List.ext_getElem? fun z => ?_
  by_cases h : z < n
  · rw [emp_lo h, List.getElem?_append_left (by rw [List.length_map, List.length_range]; exact h), List.getElem?_map, List.getElem?_range h]
    rfl
  · rw [List.getElem?_append_right (by rw [List.length_map, List.length_range]; omega), List.length_map, List.length_range]
    by_cases h2 : z < 2 * n
    · have := emp_hi (n := n) (e := z - n) (by omega)
      rw [show n + (z - n) = z by omega] at this
      rw [this, List.getElem?_range (by omega)]
    · rw [List.getElem?_eq_none (by rw [emp_len]; omega), List.getElem?_eq_none (by rw [List.length_range]; omega)]
end Pc
namespace Pc
open PySem PySem.Spec PyProof.Rows L2 RZ
section
variable {P : Program} {w : World} {K : PySem.W.Frag} {mg : Str → Option Value} {base : Heap}
/-! ### the empty sheet -/
def spEmpty : Sp := fun vs H Q _ => ∃ n : Nat, vs = [.int n] ∧ n ≤ 1000 ∧ ∀ (H' : Hp) (t : Addr), Same H H' → H t = none → H' t = some (.tup (nv (emp n))) → Q (.ref t) H'
theorem ok_p_empty_sheet (T : Env K mg) : FnOk P w K mg base CX0 1 T.f_p_empty_sheet T.d_p_empty_sheet ["size"] spEmpty := by
  refine T.F_p_empty_sheet.ok sc_p_empty_sheet (fun vs H Q E h => ?_) (fun cdv A outer s H vs Q E hr h => ?_)
  · obtain ⟨n, rfl, _⟩ := h
    rfl
  · obtain ⟨n, rfl, hn, q⟩ := h
    refine ⟨_, pss_one (ps_ret (pe_callTy call_tuple_of (by rfl) T.n_tuple (by decide +kernel) (pa_cons (pe_op op_cat (pe_listRg rfl (by rfl) T.n_list (prg_2 (by rfl) T.n_range (pv 0) (pe_op op_mul pe_int (pv 0)))) (pe_listRg rfl (by rfl) T.n_list (prg_1 (by rfl) T.n_range (pv 0)))) pa_nil))), ?_⟩
    refine ⟨_, rfl, _, rfl, 2, n, rfl, rfl, .inl ⟨by decide, by decide⟩, _, _, rfl, rfl, RgOk.of_le (by omega) (by omega) (by omega) (by omega), fun a na => ?_⟩
    have s1 : Same H _ := same_new (o := .lst (rgV (n : Int) (2 * (n : Int)))) na
    refine ⟨_, rfl, _, rfl, RgOk.of_le (by decide) (by omega) (by decide) (by omega), fun c nc => ?_⟩
    have s2 : Same (upd H a (.lst (rgV (n : Int) (2 * (n : Int))))) _ := same_new (o := .lst (rgV 0 (n : Int))) nc
    refine ⟨a, c, _, _, rfl, rfl, s2 _ _ upd_same, upd_same, ?_, fun d nd => ?_⟩
    · rw [rgV_length, rgV_length]
      exact Nat.le_of_lt (line_big (by omega))
    refine ⟨d, _, rfl, .inl ⟨.inl (.inl upd_same), fun t nt => ?_⟩⟩
    have s3 := (s1.trans s2).trans (same_new (o := .lst (rgV (n : Int) (2 * (n : Int)) ++ rgV 0 (n : Int))) nd)
    refine q _ t (s3.trans (same_new nt)) (s3.free nt) ?_
    rw [upd_same, range_shift, rg_nv, emp_two]
    unfold nv
    rw [List.map_append]
end
end Pc
namespace Pc
open PySem PySem.Spec PyProof.Rows L2 RZ
section
variable {P : Program} {w : World} {K : PySem.W.Frag} {mg : Str → Option Value} {base : Heap}
/-! ### sheets with words added -/
def spWithWord (K : PySem.W.Frag) : Sp := fun vs H Q _ => ∃ (a wd : Addr) (fs : List Nat) (us : List V) (qs : List (Nat × Nat)) (n : Nat), vs = [.ref a, .ref wd] ∧ Sq K H a (nv fs) ∧ IsPair (2 * n) fs ∧ Sq K H wd us ∧ Items K H us qs ∧ Calls n qs ∧ n ≤ 1000 ∧
  ∀ (H' : Hp) (t : Addr), Same H H' → H t = none → H' t = some (.tup (nv (shw n qs fs))) → Q (.ref t) H'
theorem ok_p_with_word (T : Env K mg) : FnOk P w K mg base CX0 4 T.f_p_with_word T.d_p_with_word ["sheet", "word"] (spWithWord K) := by
  have G0 : FnOk P w K mg base CX0 1 T.f_p_people_of T.d_p_people_of ["sheet"] (spPeople K) := ok_p_people_of T
  have G1 : FnOk P w K mg base CX0 3 T.f_p_check_word T.d_p_check_word ["size", "word"] (spCheckWord K) := ok_p_check_word T
  have G2 : FnOk P w K mg base CX0 1 T.f_p_join_two T.d_p_join_two ["joined", "a", "b"] spJoin := ok_p_join_two T
  refine T.F_p_with_word.ok sc_p_with_word (fun vs H Q E h => ?_) (fun cdv A outer s H vs Q E hr h => ?_)
  · obtain ⟨a, wd, fs, us, qs, n, rfl, _⟩ := h
    rfl
  · obtain ⟨a, wd, fs, us, qs, n, rfl, ha, hP, hw, hI, hc, hn, q⟩ := h
    have h1 := hr.mono (show 1 ≤ 3 by decide)
    refine ⟨_, pss_cons (ps_set (i := 2) sc_p_with_word.nd rfl (.inl rfl) (pe_call G0 h1 (by rfl) T.g_p_people_of T.F_p_people_of.kp T.b_p_people_of .nil pass0 (pa_cons (pv 0) pa_nil))) <|
      pss_cons (ps_expr (pe_call G1 hr (by rfl) T.g_p_check_word T.F_p_check_word.kp T.b_p_check_word .nil pass0 (pa_cons (pv 2) (pa_cons (pv 1) pa_nil)))) <|
      pss_cons (ps_set (i := 3) sc_p_with_word.nd rfl (.inl rfl) (pe_callTy call_list_of (by rfl) T.n_list (by decide +kernel) (pa_cons (pv 0) pa_nil))) <|
      pss_cons (ps_for PassesOwn.never rfl (pi_seq (pv 1)) (pg_seq (by rfl) (pgs_cons (pg_name (i := 4) sc_p_with_word.nd rfl (.inl rfl)) (pgs_cons (pg_name (i := 5) sc_p_with_word.nd rfl (.inl rfl)) pgs_nil)))
        (pss_one (ps_expr (pe_call G2 h1 (by rfl) T.g_p_join_two T.F_p_join_two.kp T.b_p_join_two .nil pass0 (pa_cons (pv 3) (pa_cons (pe_op op_add (pv 2) (pv 4)) (pa_cons (pe_op op_add (pv 2) (pv 5)) pa_nil))))))) <|
      pss_one (ps_ret (pe_callTy call_tuple_of (by rfl) T.n_tuple (by decide +kernel) (pa_cons (pv 3) pa_nil))), ?_⟩
    refine ⟨.ref a, rfl, a, fs, n, rfl, ha, hP.len, ?_⟩
    refine ⟨_, rfl, .ref wd, rfl, n, wd, us, qs, rfl, hw, hI, hc, ?_⟩
    refine ⟨.ref a, rfl, a, _, rfl, ha, fun l nl => ?_⟩
    have s0 : Same H (upd H l (.lst (nv fs))) := same_new nl
    refine ⟨.ref wd, rfl, wd, rfl, for_seq hw (fun i σ H' => Same H H' ∧ ∃ (y4 y5 : Option V), σ = [some (.ref a), some (.ref wd), some (.int n), some (.ref l), y4, y5] ∧ H' l = some (.lst (nv (shw n (qs.take i) fs)))) ⟨s0, none, none, rfl, upd_same⟩ (fun i σ H' h => h.1) (fun i x σ H' hx h => ?_) (fun σ H' h => ?_)⟩
    · obtain ⟨sm, y4, y5, rfl, el⟩ := h
      obtain ⟨c, r, rfl, hr', hq⟩ := hI.2 i x hx
      have hcr := hc r (List.mem_of_getElem? hr')
      refine ⟨c, _, rfl, hq.same sm, rfl, _, _, rfl, _, _, rfl, rfl, .ref l, rfl, _, rfl, _, rfl, _, _, rfl, rfl, _, rfl, _, rfl, _, _, rfl, rfl, l, _, 2 * n, n + r.1, n + r.2, ?_, el, shw_pair hP (hc.take i), by omega, by omega, fun H2 e2 k2 => ?_⟩
      · show [V.ref l, V.int ((n : Int) + (r.1 : Int)), V.int ((n : Int) + (r.2 : Int))] = _
        rw [show (n : Int) + (r.1 : Int) = ((n + r.1 : Nat) : Int) by omega, show (n : Int) + (r.2 : Int) = ((n + r.2 : Nat) : Int) by omega]
      · refine ⟨fun b o hb => k2 b o (ne_of_none hb nl) (sm _ _ hb), _, _, rfl, ?_⟩
        rw [shw_take hr']
        exact e2
    · obtain ⟨sm, y4, y5, rfl, el⟩ := h
      rw [hI.1, List.take_length] at el
      exact ⟨.ref l, rfl, l, _, rfl, .inl ⟨.inl (.inl el), fun t nt => q _ t (sm.trans (same_new nt)) (sm.free nt) upd_same⟩⟩
end
end Pc
namespace Pc
open PySem PySem.Spec PyProof.Rows L2 RZ
section
variable {P : Program} {w : World} {K : PySem.W.Frag} {mg : Str → Option Value} {base : Heap}
/-! ### a call added -/
def spWithCall (K : PySem.W.Frag) : Sp := fun vs H Q _ => ∃ (a c : Addr) (fs : List Nat) (x y n : Nat), vs = [.ref a, .ref c] ∧ Sq K H a (nv fs) ∧ IsPair (2 * n) fs ∧ Sq K H c [.int x, .int y] ∧ x < y ∧ y < n ∧ n ≤ 1000 ∧
  ∀ (H' : Hp) (t : Addr), Same H H' → H t = none → H' t = some (.tup (nv (jn fs (n + x) (n + y)))) → Q (.ref t) H'
theorem ok_p_with_call (T : Env K mg) : FnOk P w K mg base CX0 5 T.f_p_with_call T.d_p_with_call ["sheet", "call"] (spWithCall K) := by
  have G1 : FnOk P w K mg base CX0 4 T.f_p_with_word T.d_p_with_word ["sheet", "word"] (spWithWord K) := ok_p_with_word T
  refine T.F_p_with_call.ok sc_p_with_call (fun vs H Q E h => ?_) (fun cdv A outer s H vs Q E hr h => ?_)
  · obtain ⟨a, c, fs, x, y, n, rfl, _⟩ := h
    rfl
  · obtain ⟨a, c, fs, x, y, n, rfl, ha, hP, hc, hxy, hy, hn, q⟩ := h
    refine ⟨_, pss_one (ps_ret (pe_call G1 hr (by rfl) T.g_p_with_word T.F_p_with_word.kp T.b_p_with_word .nil pass0 (pa_cons (pv 0) (pa_cons (pe_lst (pa_cons (pv 1) pa_nil)) pa_nil)))), ?_⟩
    refine ⟨.ref a, rfl, .ref c, rfl, by show 1 ≤ sizeLine; decide, fun l nl => ?_⟩
    have s0 : Same H (upd H l (.lst [.ref c])) := same_new nl
    refine ⟨a, l, fs, [.ref c], [(x, y)], n, rfl, ha.same s0, hP, .inl (.inl (.inl upd_same)), ⟨rfl, fun i v hv => ?_⟩, fun r hr' => ?_, hn, fun H' t s' nt et => q H' t (s0.trans s') (s0.free nt) et⟩
    · have hi : i < 1 := get_lt hv
      have : i = 0 := by omega
      subst this
      exact ⟨c, (x, y), (Option.some.inj hv).symm, rfl, hc.same s0⟩
    · rw [List.mem_singleton.mp hr']; exact ⟨hxy, hy⟩
end
end Pc
namespace Pc
open PySem PySem.Spec PyProof.Rows L2 RZ
/-- two statements in a row that come to one state, whatever way they go -/
theorem tjoin2 {t u v : TS} {D : L2.Ends} {σ : L2.St} {H : Hp} (J : L2.St → Hp → Prop) (k : ∀ σ' H', J σ' H' → v D σ' H') (h : ∀ N : L2.St → Hp → Prop, (∀ σ' H', J σ' H' → N σ' H') → tSeq t u { D with nx := N } σ H) : tSeq t (tSeq u v) D σ H := h (v D) k
theorem tjoin1 {t v : TS} {D : L2.Ends} {σ : L2.St} {H : Hp} (J : L2.St → Hp → Prop) (k : ∀ σ' H', J σ' H' → v D σ' H') (h : ∀ N : L2.St → Hp → Prop, (∀ σ' H', J σ' H' → N σ' H') → t { D with nx := N } σ H) : tSeq t v D σ H := h (v D) k
theorem st_at {u : L2.St → Hp → Prop} {r : VK} {bk ct : L2.St → Hp → Prop} {σ : L2.St} {H : Hp} (σ' : L2.St) (e : σ = σ') (h : u σ' H) : (L2.Ends.mk u r bk ct).nx σ H := by rw [e]; exact h
theorem st_nx {u : TS} {D : L2.Ends} {σ : L2.St} {H : Hp} (h : u D σ H) : tNext { D with nx := u D } σ H := h
theorem keep_freeR {b p : Addr} {k : Nat} {H H' : Hp} (hk : Keep b H H') (hB : Box k H' b) (h : H' p = none) : H p = none := by
  cases e : H p with
  | none => rfl
  | some o =>
    by_cases hb : p = b
    · subst hb
      obtain ⟨y, hy⟩ := hB.lst
      rw [hy] at h; cases h
    · rw [hk p o hb e] at h; cases h
end Pc
namespace Pc
open PySem PySem.Spec PyProof.Rows L2 RZ
/-! ### ways that come together; a step of a comprehension (of snip_ends39, alone) -/
theorem tups_nextT {H1 H' H2 : Hp} {D t : Addr} {us : List Addr} {QS : List (List Nat)} {i : Nat} {l : List Nat} (nD : H1 D = none) (sm : Same H1 H') (eD : H' D = some (.lst (us.map V.ref))) (hU : Tups H' us (QS.take i)) (hk : QS[i]? = some l) (hb : QS.length ≤ 100000)
    (s2 : Same H' H2) (et : H2 t = some (.tup (nv l))) : ∃ acc, H2 D = some (.lst acc) ∧ acc.length < sizeLine ∧
      (Same H1 (upd H2 D (.lst (acc ++ [.ref t]))) ∧ ∃ us' : List Addr, (upd H2 D (.lst (acc ++ [.ref t]))) D = some (.lst (us'.map V.ref)) ∧ Tups (upd H2 D (.lst (acc ++ [.ref t]))) us' (QS.take (i + 1))) := by
  have eD2 := s2 _ _ eD
  have tD : t ≠ D := fun z => by rw [z, eD2] at et; cases et
  refine ⟨_, eD2, ?_, fun b' o hb' => ?_, us ++ [t], ?_, ?_⟩
  · rw [List.length_map, hU.length]; exact line_big (Nat.le_trans (List.length_take_le' _ _) hb)
  · rw [upd_ne (ne_of_none hb' nD)]; exact s2 _ _ (sm _ _ hb')
  · rw [upd_same, List.map_append]; rfl
  · rw [List.take_add_one, hk]
    exact tups_append (tups_keep (b := D) keep_upd eD2 (tups_same s2 hU)) (.cons (by rw [upd_ne tD]; exact et) .nil)
theorem tjoinR {t v : TS} {D : L2.Ends} {σ : L2.St} {H : Hp} (J : L2.St → Hp → Prop) (h : ∀ N : L2.St → Hp → Prop, (∀ σ' H', J σ' H' → N σ' H') → t { D with nx := N } σ H) (k : ∀ σ' H', J σ' H' → v D σ' H') : tSeq t v D σ H := h (v D) k
end Pc
namespace L2
open PySem PySem.Spec PyProof.Rows
/-! ### comprehensions with two `for`, over ranges -/
theorem lc2_in {lo : Int} {n : Nat} {g1 : TG} {tt1 : TT} {te : TE} {vs1 : List Nat} {σ2 : St} {D : Addr} {H4 : Hp} {Nx : Hp → Prop} (Pv : Nat → Hp → Prop) (h0 : Pv 0 H4)
    (hs : ∀ j H, j < n → Pv j H → g1 (.int (lo + j)) (wipe σ2 vs1) H fun σ3 H5 => wipe σ3 vs1 = wipe σ2 vs1 ∧ tt1 σ3 H5 fun b H6 =>
      if b = true then te σ3 H6 fun y H7 => ∃ acc, H7 D = some (.lst acc) ∧ acc.length < sizeLine ∧ Pv (j + 1) (upd H7 D (.lst (acc ++ [y]))) else Pv (j + 1) H6) (hd : ∀ H, Pv n H → Nx H) :
    ∃ W1 : Nat → Nat → Hp → Prop, (∃ m, W1 0 m H4) ∧ ∀ j k H, W1 j k H →
      ((Itr lo n).stop j H ∧ Nx H) ∨ ((Itr lo n).go j H ∧ ∃ Nx1 : Hp → Prop, (∀ H', Nx1 H' → ∃ k', k' < k ∧ W1 (j + 1) k' H') ∧ ∀ x H', (Itr lo n).yld j H x H' → g1 x (wipe σ2 vs1) H' fun σ3 H5 => wipe σ3 vs1 = wipe σ2 vs1 ∧ tt1 σ3 H5 fun b H6 =>
        if b = true then te σ3 H6 fun y H7 => ∃ acc, H7 D = some (.lst acc) ∧ acc.length < sizeLine ∧ Nx1 (upd H7 D (.lst (acc ++ [y]))) else Nx1 H6) := by
  refine ⟨fun i m H => m = n - i ∧ i ≤ n ∧ Pv i H, ⟨n, by simp, Nat.zero_le _, h0⟩, ?_⟩
  rintro i m H ⟨rfl, hi, p⟩
  by_cases hlt : i < n
  · refine .inr ⟨hlt, Pv (i + 1), fun H' p' => ⟨n - (i + 1), by omega, rfl, hlt, p'⟩, fun x H' y => ?_⟩
    obtain ⟨e, y⟩ := y
    subst e y
    exact hs i _ hlt p
  · have e : i = n := by omega
    subst e
    exact .inl ⟨Nat.le_refl _, hd H p⟩
theorem lc2_out {lo : Int} {n : Nat} {g : TG} {tt : TT} {wi1 : TI} {g1 : TG} {tt1 : TT} {te : TE} {vs vs1 : List Nat} {σ : St} {H1 : Hp} {D : Addr} {Qd : Hp → Prop} (Pv : Nat → Hp → Prop) (h0 : Pv 0 (upd H1 D (.lst [])))
    (hs : ∀ i H, i < n → Pv i H → g (.int (lo + i)) (wipe σ vs) H fun σ2 H2 => wipe σ2 vs = wipe σ vs ∧ tt σ2 H2 fun b H3 =>
      if b = true then wi1 σ2 H3 fun J1 H4 => ∃ W1 : Nat → Nat → Hp → Prop, (∃ m, W1 0 m H4) ∧ ∀ j k H, W1 j k H →
        (J1.stop j H ∧ Pv (i + 1) H) ∨ (J1.go j H ∧ ∃ Nx1 : Hp → Prop, (∀ H', Nx1 H' → ∃ k', k' < k ∧ W1 (j + 1) k' H') ∧ ∀ x H', J1.yld j H x H' → g1 x (wipe σ2 vs1) H' fun σ3 H5 => wipe σ3 vs1 = wipe σ2 vs1 ∧ tt1 σ3 H5 fun b H6 =>
          if b = true then te σ3 H6 fun y H7 => ∃ acc, H7 D = some (.lst acc) ∧ acc.length < sizeLine ∧ Nx1 (upd H7 D (.lst (acc ++ [y]))) else Nx1 H6)
      else Pv (i + 1) H3) (hd : ∀ H, Pv n H → Qd H) :
    ∃ W : Nat → Nat → Hp → Prop, (∃ m, W 0 m (upd H1 D (.lst []))) ∧ ∀ i m H, W i m H →
      ((Itr lo n).stop i H ∧ Qd H) ∨ ((Itr lo n).go i H ∧ ∃ Nx : Hp → Prop, (∀ H', Nx H' → ∃ m', m' < m ∧ W (i + 1) m' H') ∧ ∀ x H', (Itr lo n).yld i H x H' → g x (wipe σ vs) H' fun σ2 H2 => wipe σ2 vs = wipe σ vs ∧ tt σ2 H2 fun b H3 =>
        if b = true then wi1 σ2 H3 fun J1 H4 => ∃ W1 : Nat → Nat → Hp → Prop, (∃ m, W1 0 m H4) ∧ ∀ j k H, W1 j k H →
          (J1.stop j H ∧ Nx H) ∨ (J1.go j H ∧ ∃ Nx1 : Hp → Prop, (∀ H', Nx1 H' → ∃ k', k' < k ∧ W1 (j + 1) k' H') ∧ ∀ x H', J1.yld j H x H' → g1 x (wipe σ2 vs1) H' fun σ3 H5 => wipe σ3 vs1 = wipe σ2 vs1 ∧ tt1 σ3 H5 fun b H6 =>
            if b = true then te σ3 H6 fun y H7 => ∃ acc, H7 D = some (.lst acc) ∧ acc.length < sizeLine ∧ Nx1 (upd H7 D (.lst (acc ++ [y]))) else Nx1 H6)
        else Nx H3) := by
  refine ⟨fun i m H => m = n - i ∧ i ≤ n ∧ Pv i H, ⟨n, by simp, Nat.zero_le _, h0⟩, ?_⟩
  rintro i m H ⟨rfl, hi, p⟩
  by_cases hlt : i < n
  · refine .inr ⟨hlt, Pv (i + 1), fun H' p' => ⟨n - (i + 1), by omega, rfl, hlt, p'⟩, fun x H' y => ?_⟩
    obtain ⟨e, y⟩ := y
    subst e y
    exact hs i _ hlt p
  · have e : i = n := by omega
    subst e
    exact .inl ⟨Nat.le_refl _, hd H p⟩
end L2
namespace Pc
/-- all calls of n people -/
def callsOf (n x : Nat) : List (Nat × Nat) := (List.range (n - (x + 1))).map fun j => (x, x + 1 + j)
def allC (n : Nat) : Nat → List (Nat × Nat)
  | 0 => []
  | i + 1 => allC n i ++ callsOf n i
theorem callsOf_mem {n x : Nat} {p : Nat × Nat} : p ∈ callsOf n x ↔ p.1 = x ∧ x < p.2 ∧ p.2 < n := by
  unfold callsOf
  rw [List.mem_map]
  constructor
  · rintro ⟨j, hj, rfl⟩
    have := List.mem_range.mp hj
    exact ⟨rfl, by show x < x + 1 + j; omega, by show x + 1 + j < n; omega⟩
  · rintro ⟨h1, h2, h3⟩
    exact ⟨p.2 - (x + 1), List.mem_range.mpr (by omega), Prod.ext h1.symm (by show x + 1 + (p.2 - (x + 1)) = p.2; omega)⟩
theorem allC_mem {n : Nat} : ∀ {i : Nat} {p : Nat × Nat}, p ∈ allC n i ↔ p.1 < i ∧ p.1 < p.2 ∧ p.2 < n
  | 0, p => ⟨fun h => by simp [allC] at h, fun h => absurd h.1 (Nat.not_lt_zero _)⟩
  | i + 1, p => by
    show p ∈ allC n i ++ callsOf n i ↔ _
    rw [List.mem_append, allC_mem (i := i), callsOf_mem]
    omega
theorem allC_calls (n i : Nat) : Calls n (allC n i) := fun q hq => by
  have := allC_mem.mp hq
  exact ⟨this.2.1, this.2.2⟩
theorem allC_len (n : Nat) : ∀ i, (allC n i).length ≤ i * n
  | 0 => Nat.zero_le _
  | i + 1 => by
    show (allC n i ++ callsOf n i).length ≤ _
    rw [List.length_append, Nat.succ_mul]
    have := allC_len n i
    have : (callsOf n i).length ≤ n := by unfold callsOf; rw [List.length_map, List.length_range]; omega
    omega
end Pc
namespace Pc
open PySem PySem.Spec PyProof.Rows L2 RZ
end Pc
namespace Pc
open PySem PySem.Spec PyProof.Rows L2 RZ
section
variable {P : Program} {w : World} {K : PySem.W.Frag} {mg : Str → Option Value} {base : Heap}
/-! ### all calls, by the program -/
def spCallsP : Sp := fun vs H Q _ => ∃ n : Nat, vs = [.int n] ∧ n ≤ 40 ∧
  ∀ (H' : Hp) (p : Addr) (as : List Addr), Same H H' → H p = none → H' p = some (.lst (as.map V.ref)) → Prs H' as (allC n n) → Q (.ref p) H'
theorem ok_p_all_calls (T : Env K mg) : FnOk P w K mg base CX0 1 T.f_p_all_calls T.d_p_all_calls ["size"] spCallsP := by
  refine T.F_p_all_calls.ok sc_p_all_calls (fun vs H Q E h => ?_) (fun cdv A outer s H vs Q E hr h => ?_)
  · obtain ⟨n, rfl, _⟩ := h
    rfl
  · obtain ⟨n, rfl, hn, q⟩ := h
    refine ⟨_, pss_one (ps_ret (pe_lc2 (own := [("a", 1), ("b", 2)]) (vs1 := [2]) (g := gName 1) (tt := tYes) (wi1 := iRng2 (tCons (tOp (rI0 fun i j => .int (i + j)) (tVar 1) (tC (.int 1))) (tCons (tVar 0) tNil))) (g1 := gName 2) (tt1 := tYes) (te := tTup (tCons (tVar 1) (tCons (tVar 2) tNil))) rfl sc_p_all_calls.nd
      (pi_range1 (by rfl) T.n_range (pa_cons (pv 0) pa_nil)) (blkOk_by (N := N_p_all_calls) (sc := defScope s_p_all_calls) (by decide +kernel)) (by decide) (fun _ _ _ _ _ => pg_name (i := 1) sc_p_all_calls.nd rfl (.inl rfl)) (fun _ _ _ _ _ => pts_nil)
      (fun _ _ _ _ _ => pi_range2 (by rfl) T.n_range (pa_cons (pe_op op_add (pv 1) pe_int) (pa_cons (pv 0) pa_nil))) (fun _ _ _ _ _ => pg_name (i := 2) sc_p_all_calls.nd rfl (.inl rfl)) (fun _ _ _ _ _ => pts_nil)
      (fun _ _ _ _ _ => pe_tup (pa_cons (pv 1) (pa_cons (pv 2) pa_nil))))), ?_⟩
    refine ⟨_, rfl, _, rfl, by omega, by omega, fun D nD => ?_⟩
    rw [show ((n : Int)).toNat = n by omega]
    refine lc2_out (n := n) (fun i J => Same H J ∧ ∃ as : List Addr, J D = some (.lst (as.map V.ref)) ∧ Prs J as (allC n i)) ⟨same_new nD, [], upd_same, .nil⟩ (fun i J hi h => ?_) (fun J h => ?_)
    · obtain ⟨sm, as, eD, hA⟩ := h
      rw [show ((0 : Int) + (i : Nat)) = ((i : Nat) : Int) from Int.zero_add _]
      refine ⟨rfl, yes_if ⟨_, rfl, _, _, rfl, rfl, _, rfl, _, _, rfl, ⟨by omega, by omega, by omega, by omega⟩, ?_⟩⟩
      rw [show ((n : Int) - (((i : Nat) : Int) + 1)).toNat = n - (i + 1) by omega]
      have hlc : (callsOf n i).length = n - (i + 1) := by unfold callsOf; rw [List.length_map, List.length_range]
      have hal : as.length ≤ 1600 := by rw [hA.length]; exact Nat.le_trans (allC_len n i) (Nat.mul_le_mul (show i ≤ 40 by omega) (show n ≤ 40 by omega))
      refine lc2_in (n := n - (i + 1)) (fun j J' => Same H J' ∧ ∃ bs : List Addr, J' D = some (.lst (bs.map V.ref)) ∧ Prs J' bs (allC n i ++ (callsOf n i).take j)) ⟨sm, as, eD, by rw [List.take_zero, List.append_nil]; exact hA⟩ (fun j J' hj h => ?_) (fun J' h => ?_)
      · obtain ⟨s2, bs, eB, hB⟩ := h
        refine ⟨rfl, yes_if ⟨_, rfl, _, rfl, by show 2 ≤ sizeLine; decide, fun z nz => ?_⟩⟩
        rw [show (((i : Nat) : Int) + 1 + (j : Nat)) = ((i + 1 + j : Nat) : Int) by omega]
        have sz := same_new (o := .tup [V.int (i : Nat), V.int ((i + 1 + j : Nat) : Int)]) nz
        have zD : z ≠ D := fun w => by rw [w, eB] at nz; cases nz
        have eg : (callsOf n i)[j]? = some (i, i + 1 + j) := by
          unfold callsOf
          rw [List.getElem?_map, List.getElem?_range hj]; rfl
        refine ⟨_, sz _ _ eB, by rw [List.length_map, hB.length, List.length_append, List.length_take, ← hA.length]; exact line_big (by omega), fun y o hy => ?_, bs ++ [z], ?_, ?_⟩
        · rw [upd_ne (ne_of_none hy nD)]; exact sz _ _ (s2 _ _ hy)
        · rw [upd_same, List.map_append]; rfl
        · rw [List.take_add_one, eg, ← List.append_assoc]
          exact prs_append (prs_keep (b := D) keep_upd (sz _ _ eB) (prs_same sz hB)) (.cons (by rw [upd_ne zD, upd_same]) .nil)
      · obtain ⟨s2, bs, eB, hB⟩ := h
        rw [← hlc, List.take_length] at hB
        exact ⟨s2, bs, eB, hB⟩
    · obtain ⟨sm, as, eD, hA⟩ := h
      exact q J D as sm nD eD hA
end
end Pc
namespace L2
open PySem PySem.Spec PyProof.Rows RZ
/-! ### a dict display of one pair, the key a tuple -/
def dispT1 (p : Addr) (Q : VK) (x y : V) (H2 : Hp) : Prop := H2 p = some (.dT []) ∧ ∃ (b : Addr) (k : List Key), x = .ref b ∧ H2 b = some (.tup (k.map kV)) ∧ Q (.ref p) (upd H2 p (.dT [(k, y)]))
def dispT1L (p : Addr) (Q : VK) : List (V × V) → Hp → Prop
  | [(x, y)], H2 => dispT1 p Q x y H2
  | _, _ => False
def tDispT1 (tk tv : TE) : TE := fun σ H Q => ∀ p, H p = none → tk σ (upd H p (.dT [])) fun x H1 => tv σ H1 fun y H2 => dispT1 p Q x y H2
theorem pe_dispT1 {X : Cx} {ke ve : Expr} {pos : Pos} {tk tv : TE} (hu : X.A.units + 1 < cLine) (hk : PE X ke tk) (hv : PE X ve tv) : PE X (.Dict [some ke] [ve] pos) (tDispT1 tk tv) := by
  refine ⟨fun pins s σ H Q I q => ?_⟩
  have hn := I.hok.fresh (Nat.le_refl s.heap.objs.size)
  have I1 := I.laid (a := s.heap.objs.size) (o := .dT []) (h' := s.heap.push { cls := .type "dict", data := .dict #[] }) (t' := s.toks)
    (fun _ _ q => Heap.get?_push_of_some _ q) (Nat.le_refl _) (dt_empty s.heap I.big)
  have run := (pps_cons (pos := pos) hk hv pps_nil).run pins _ σ _ (dispT1L s.heap.objs.size Q) I1 (q _ hn)
  have e : pairTrees [some ke] [ve] X.env pos = [(eval ke X.env, do let x ← eval ve X.env; standAt pos; pure x)] := rfl
  rw [e] at run
  rw [arm_eval_Dict, show (evalEachOpt [some ke] X.env).zip ((evalEach [ve] X.env).map fun v => do let x ← v; standAt pos; pure x) = (pairTrees [some ke] [ve] X.env pos).map fun p => (some p.1, p.2) from rfl, e,
    dictDisplay_pairs _ (List.cons_ne_nil _ _) (by show 1 < 17; decide)]
  refine wpAny_bind (wpAny_standAt (wpAny_bind (wpAny_subDictH (knd := tupleKind (mixKind X.prog X.w)) (Q := fun d s' => wpAny (model X.prog X.w) X.A (pure (Value.ref d)) (EP X pins σ Q) X.xe s') ?_ (by show 1 ≤ 15; decide) (thn run fun ws s2 ⟨ps, H2, I2, rel, q2⟩ => ?_))))
  · show X.A.units < cLine
    omega
  · cases rel with
    | nil => exact q2.elim
    | @cons a b as bs h t =>
      cases t with
      | cons _ _ => exact q2.elim
      | nil =>
        obtain ⟨x, y⟩ := a
        obtain ⟨u, v⟩ := b
        obtain ⟨h1, b0, k, rfl, h2, h3⟩ := q2
        cases (show u = Value.ref b0 from h.1)
        obtain ⟨z, hd, xs, rx, dd⟩ := dt_of I2.hok h1
        cases rx
        refine ⟨[(k, b0, v)], ⟨rfl, rfl, key_of I2.hok h2, trivial⟩, dd, fun h' tk dd' hs => wpAny_pure ⟨.ref s.heap.objs.size, _, ?_, rfl, h3⟩⟩
        obtain ⟨q, es, ep, hq, g2, g3, g4, _, g5⟩ := dd'
        refine d_write I2 (by rw [h1]; exact True.intro) hs ⟨q, hq⟩ ⟨by show 1 ≤ sizeLine; decide, hd, _, ?_, q, es, ep, hq, g2, g3, g4, g5⟩
        refine Paired.cons ⟨rfl, ?_, h.2⟩ .nil
        show upd H2 s.heap.objs.size _ b0 = _
        rw [upd_ne (ne_of h2 h1 (fun z => nomatch z))]
        exact h2
end L2
namespace Pc
open PySem PySem.Spec PyProof.Rows L2 RZ
/-! ### a dict of groups -/
abbrev ky (l : List Nat) : List L2.Key := l.map fun i : Nat => (Sum.inl (i : Int) : L2.Key)
theorem ky_kV (l : List Nat) : (ky l).map kV = nv l := by unfold nv ky; rw [List.map_map]; rfl
theorem nv_injX : ∀ {l m : List Nat}, nv l = nv m → l = m
  | [], [], _ => rfl
  | [], _ :: _, h => by cases h
  | _ :: _, [], h => by cases h
  | x :: l, y :: m, h => by
    have h : V.int (x : Int) :: nv l = V.int (y : Int) :: nv m := h
    injection h with h1 h2
    have := V.int.inj h1
    rw [nv_injX h2, show x = y by omega]
theorem ky_inj {l m : List Nat} (h : ky l = ky m) : l = m := by
  have e : (ky l).map kV = (ky m).map kV := by rw [h]
  rw [ky_kV, ky_kV] at e
  exact nv_injX e
abbrev dkv (xs : List (List Nat × Addr)) : List (List L2.Key × V) := xs.map fun x => (ky x.1, V.ref x.2)
theorem valV_dkv {R : List Nat} : ∀ {xs : List (List Nat × Addr)}, valV (dkv xs) (ky R) = (xs.find? fun x => decide (x.1 = R)).map fun x => V.ref x.2
  | [] => rfl
  | x :: xs => by
    show valV ((ky x.1, V.ref x.2) :: dkv xs) (ky R) = _
    by_cases c : x.1 = R
    · rw [List.find?_cons_of_pos (by rw [decide_eq_true c])]
      unfold valV
      rw [List.find?_cons_of_pos (by rw [decide_eq_true (congrArg ky c)])]
      rfl
    · rw [List.find?_cons_of_neg (by rw [decide_eq_false c]; decide), ← valV_dkv]
      unfold valV
      rw [List.find?_cons_of_neg (by rw [decide_eq_false (fun z => c (ky_inj z))]; decide)]
theorem val_dkv {R : List Nat} {d : Addr} : ∀ {xs : List (List Nat × Addr)}, (xs.map (·.1)).Nodup → (R, d) ∈ xs → valV (dkv xs) (ky R) = some (V.ref d)
  | [], _, h => absurd h List.not_mem_nil
  | x :: xs, hn, h => by
    rw [valV_dkv]
    obtain ⟨h1, h2⟩ := List.nodup_cons.mp hn
    rcases List.mem_cons.mp h with e | e
    · subst e
      rw [List.find?_cons_of_pos (by rw [decide_eq_true rfl])]; rfl
    · have ne : x.1 ≠ R := fun z => h1 (by show x.1 ∈ _; rw [z]; exact List.mem_map.mpr ⟨_, e, rfl⟩)
      rw [List.find?_cons_of_neg (by rw [decide_eq_false ne]; decide), ← valV_dkv]
      exact val_dkv h2 e
theorem val_dkv_no {R : List Nat} {xs : List (List Nat × Addr)} (h : ∀ d, (R, d) ∉ xs) : valV (dkv xs) (ky R) = none := by
  rw [valV_dkv, List.find?_eq_none.mpr fun x hx => ?_]
  · rfl
  · rw [decide_eq_true_iff]
    intro e
    exact h x.2 (by rw [← e]; exact hx)
theorem any_dkv {R : List Nat} {xs : List (List Nat × Addr)} : ((dkv xs).any fun kv => decide (kv.1 = ky R)) = true ↔ ∃ d, (R, d) ∈ xs := by
  rw [List.any_eq_true]
  constructor
  · rintro ⟨kv, h, e⟩
    obtain ⟨x, hx, rfl⟩ := List.mem_map.mp h
    have e := ky_inj (of_decide_eq_true e)
    exact ⟨x.2, by rw [← e]; exact hx⟩
  · rintro ⟨d, h⟩
    exact ⟨_, List.mem_map.mpr ⟨_, h, rfl⟩, decide_eq_true rfl⟩
theorem put_dkv {R : List Nat} {d : Addr} {xs : List (List Nat × Addr)} (hn : (xs.map (·.1)).Nodup) :
    ∃ ys : List (List Nat × Addr), putK (dkv xs) (ky R) (V.ref d) = dkv ys ∧ (ys.map (·.1)).Nodup ∧ (R, d) ∈ ys ∧ (∀ y ∈ ys, y = (R, d) ∨ (y ∈ xs ∧ y.1 ≠ R)) ∧ (∀ x ∈ xs, x.1 ≠ R → x ∈ ys) ∧ ys.length ≤ xs.length + 1 := by
  unfold putK
  by_cases c : ∃ e, (R, e) ∈ xs
  · rw [if_pos (any_dkv.mpr c)]
    refine ⟨xs.map fun x => if x.1 = R then (R, d) else x, ?_, ?_, ?_, fun y hy => ?_, fun x hx h => ?_, by rw [List.length_map]; omega⟩
    · show (xs.map fun x => (ky x.1, V.ref x.2)).map _ = (xs.map _).map _
      rw [List.map_map, List.map_map]
      refine List.map_congr_left fun x _ => ?_
      show (if ky x.1 = ky R then (ky x.1, V.ref d) else (ky x.1, V.ref x.2)) = (ky (if x.1 = R then (R, d) else x).1, V.ref (if x.1 = R then (R, d) else x).2)
      by_cases e : x.1 = R
      · rw [if_pos (by rw [e]), if_pos e, e]
      · rw [if_neg (fun z => e (ky_inj z)), if_neg e]
    · rw [List.map_map, show ((fun x : List Nat × Addr => x.1) ∘ fun x => if x.1 = R then (R, d) else x) = fun x => x.1 from funext fun x => by
        show (if x.1 = R then (R, d) else x).1 = x.1
        by_cases e : x.1 = R
        · rw [if_pos e]; exact e.symm
        · rw [if_neg e]]
      exact hn
    · obtain ⟨e, he⟩ := c
      exact List.mem_map.mpr ⟨(R, e), he, if_pos rfl⟩
    · obtain ⟨x, hx, rfl⟩ := List.mem_map.mp hy
      by_cases e : x.1 = R
      · rw [if_pos e]; exact .inl rfl
      · rw [if_neg e]; exact .inr ⟨hx, e⟩
    · exact List.mem_map.mpr ⟨x, hx, if_neg h⟩
  · rw [if_neg (fun z => c (any_dkv.mp z))]
    refine ⟨xs ++ [(R, d)], by unfold dkv; rw [List.map_append]; rfl, ?_, List.mem_append.mpr (.inr List.mem_cons_self), fun y hy => ?_, fun x hx _ => List.mem_append.mpr (.inl hx), by rw [List.length_append]; exact Nat.le_refl _⟩
    · rw [List.map_append]
      refine List.nodup_append.mpr ⟨hn, List.pairwise_singleton _ _, fun a ha b hb e => ?_⟩
      obtain ⟨x, hx, rfl⟩ := List.mem_map.mp ha
      rw [List.mem_singleton.mp hb] at e
      exact c ⟨x.2, by rw [← (show x.1 = R from e)]; exact hx⟩
    · rcases List.mem_append.mp hy with h | h
      · exact .inr ⟨h, fun e => c ⟨y.2, by rw [← e]; exact h⟩⟩
      · exact .inl (List.mem_singleton.mp h)
theorem tups_mv {H H' : Hp} (t : ∀ a vs, H a = some (.tup vs) → H' a = some (.tup vs)) : ∀ {as : List Addr} {ls : List (List Nat)}, Tups H as ls → Tups H' as ls
  | _, _, .nil => .nil
  | _, _, .cons e r => .cons (t _ _ e) (tups_mv t r)
theorem prs_mv {H H' : Hp} (t : ∀ a vs, H a = some (.tup vs) → H' a = some (.tup vs)) : ∀ {as : List Addr} {qs : List (Nat × Nat)}, Prs H as qs → Prs H' as qs
  | _, _, .nil => .nil
  | _, _, .cons e r => .cons (t _ _ e) (prs_mv t r)
end Pc
namespace Pc
open PySem PySem.Spec PyProof.Rows L2 RZ
/-! ### sheets of words with their first words, layer by layer -/
abbrev WT := List (List Nat × List (Nat × Nat))
def hasT (T : WT) (f : List Nat) : Bool := T.any fun x => decide (x.1 = f)
def wdT (T : WT) (f : List Nat) : List (Nat × Nat) := ((T.find? fun x => decide (x.1 = f)).map (·.2)).getD []
def stW (n : Nat) (f : List Nat) (s : WT × List (List Nat)) (p : Nat × Nat) : WT × List (List Nat) :=
  if hasT s.1 (jn f (n + p.1) (n + p.2)) then s else (s.1 ++ [(jn f (n + p.1) (n + p.2), wdT s.1 f ++ [p])], s.2 ++ [jn f (n + p.1) (n + p.2)])
def hrW (n : Nat) (s : WT × List (List Nat)) (f : List Nat) : WT × List (List Nat) := (allC n n).foldl (stW n f) s
def wfs (n : Nat) : Nat → WT × List (List Nat)
  | 0 => ([(emp n, [])], [emp n])
  | d + 1 => (wfs n d).2.foldl (hrW n) ((wfs n d).1, [])
def depW (n : Nat) : Nat := if n = 2 then 2 else 5
def WB (n : Nat) : WT := (wfs n (depW n)).1
abbrev w24 : List Nat := [2, 4]
theorem wfs_len : ∀ n ∈ w24, ∀ d, d ≤ depW n → (wfs n d).1.length ≤ 82 := by decide +kernel
theorem wfs_go : ∀ n ∈ w24, ∀ d, d < depW n → (wfs n d).2 ≠ [] := by decide +kernel
theorem wfs_end : ∀ n ∈ w24, (wfs n (depW n)).2 = [] := by decide +kernel
theorem WB_len : (WB 2).length = 2 ∧ (WB 4).length = 82 := by decide +kernel
theorem WB_two : WB 2 = [([2, 3, 0, 1], []), ([1, 0, 3, 2], [(0, 1)])] := by decide +kernel
theorem hasT_iff {T : WT} {f : List Nat} : hasT T f = true ↔ f ∈ T.map (·.1) := by
  unfold hasT
  rw [List.any_eq_true, List.mem_map]
  exact ⟨fun ⟨x, hx, e⟩ => ⟨x, hx, of_decide_eq_true e⟩, fun ⟨x, hx, e⟩ => ⟨x, hx, decide_eq_true e⟩⟩
theorem wdT_of {f : List Nat} {w : List (Nat × Nat)} : ∀ {T : WT}, (T.map (·.1)).Nodup → (f, w) ∈ T → wdT T f = w
  | [], _, h => absurd h List.not_mem_nil
  | x :: T, hn, h => by
    obtain ⟨h1, h2⟩ := List.nodup_cons.mp hn
    unfold wdT
    rcases List.mem_cons.mp h with e | e
    · subst e
      rw [List.find?_cons_of_pos (by rw [decide_eq_true rfl])]; rfl
    · have ne : x.1 ≠ f := fun z => h1 (by show x.1 ∈ _; rw [z]; exact List.mem_map.mpr ⟨_, e, rfl⟩)
      rw [List.find?_cons_of_neg (by rw [decide_eq_false ne]; decide)]
      exact wdT_of h2 e
structure WOk (n : Nat) (L : List (List Nat)) (s : WT × List (List Nat)) : Prop where
  nd : (s.1.map (·.1)).Nodup
  ip : ∀ x ∈ s.1, IsPair (2 * n) x.1
  ly : ∀ f ∈ L, f ∈ s.1.map (·.1)
  fu : ∀ f ∈ s.2, f ∈ s.1.map (·.1)
  ln : s.2.length ≤ s.1.length
  wl : ∀ x ∈ s.1, x.2.length ≤ s.1.length
theorem WOk.st {n : Nat} {L : List (List Nat)} {s : WT × List (List Nat)} {f : List Nat} {p : Nat × Nat} (h : WOk n L s) (hf : IsPair (2 * n) f) (hm : f ∈ L) (h1 : p.1 < p.2) (h2 : p.2 < n) : WOk n L (stW n f s p) := by
  unfold stW
  split
  · exact h
  · rename_i c
    have c' : jn f (n + p.1) (n + p.2) ∉ s.1.map (·.1) := fun k => c (hasT_iff.mpr k)
    have l1 : ∀ x, (s.1 ++ [x]).length = s.1.length + 1 := fun x => by rw [List.length_append]; rfl
    refine ⟨?_, fun x hx => ?_, fun g hg => by rw [List.map_append]; exact List.mem_append.mpr (.inl (h.ly g hg)), fun g hg => ?_, by show (s.2 ++ [_]).length ≤ (s.1 ++ [_]).length; rw [l1, List.length_append]; have := h.ln; show s.2.length + 1 ≤ _; omega, fun x hx => ?_⟩
    · show ((s.1 ++ [(jn f (n + p.1) (n + p.2), wdT s.1 f ++ [p])]).map (·.1)).Nodup
      rw [List.map_append]
      refine List.nodup_append.mpr ⟨h.nd, List.pairwise_singleton _ _, fun a ha b hb e => ?_⟩
      rw [List.mem_singleton.mp hb] at e
      exact c' (by rw [← (show a = jn f (n + p.1) (n + p.2) from e)]; exact ha)
    · rcases List.mem_append.mp hx with e | e
      · exact h.ip x e
      · rw [List.mem_singleton.mp e]; exact jn_pair hf (show n + p.1 ≠ n + p.2 by omega) (by omega) (by omega)
    · rw [List.map_append]
      rcases List.mem_append.mp hg with e | e
      · exact List.mem_append.mpr (.inl (h.fu g e))
      · rw [List.mem_singleton.mp e]; exact List.mem_append.mpr (.inr (List.mem_cons_self ..))
    · rw [l1]
      rcases List.mem_append.mp hx with e | e
      · have := h.wl x e; omega
      · rw [List.mem_singleton.mp e]
        obtain ⟨y, hy, ey⟩ := List.mem_map.mp (h.ly f hm)
        have : wdT s.1 f = y.2 := wdT_of h.nd (by rw [← ey]; exact hy)
        show (wdT s.1 f ++ [p]).length ≤ _
        rw [this, List.length_append]
        have := h.wl y hy
        show y.2.length + 1 ≤ _; omega
theorem WOk.calls {n : Nat} {L : List (List Nat)} {f : List Nat} (hf : IsPair (2 * n) f) (hm : f ∈ L) : ∀ {qs : List (Nat × Nat)} {s : WT × List (List Nat)}, Calls n qs → WOk n L s → WOk n L (qs.foldl (stW n f) s)
  | [], _, _, h => h
  | q :: qs, s, hc, h => by
    have k := hc q List.mem_cons_self
    exact WOk.calls hf hm (qs := qs) (s := stW n f s q) (fun r hr => hc r (List.mem_cons_of_mem _ hr)) (h.st hf hm k.1 k.2)
theorem WOk.lay {n : Nat} {L : List (List Nat)} : ∀ {gs : List (List Nat)} {s : WT × List (List Nat)}, (∀ g ∈ gs, IsPair (2 * n) g ∧ g ∈ L) → WOk n L s → WOk n L (gs.foldl (hrW n) s)
  | [], _, _, h => h
  | g :: gs, s, hg, h => WOk.lay (gs := gs) (s := hrW n s g) (fun r hr => hg r (List.mem_cons_of_mem _ hr)) (WOk.calls (hg g List.mem_cons_self).1 (hg g List.mem_cons_self).2 (allC_calls n n) h)
theorem WOk.pair {n : Nat} {L : List (List Nat)} {s : WT × List (List Nat)} (h : WOk n L s) : ∀ f ∈ L, IsPair (2 * n) f := fun f hf => by
  obtain ⟨x, hx, e⟩ := List.mem_map.mp (h.ly f hf)
  rw [← e]; exact h.ip x hx
theorem wfs_ok {n : Nat} (hn : 0 < n) : ∀ d, WOk n (wfs n d).2 ((wfs n d).1, [])
  | 0 => ⟨List.pairwise_singleton _ _, fun x hx => by rw [List.mem_singleton.mp hx]; exact emp_pair hn, fun f hf => by rw [List.mem_singleton.mp hf]; exact List.mem_cons_self .., fun f h => absurd h List.not_mem_nil, Nat.zero_le _, fun x hx => by rw [List.mem_singleton.mp hx]; exact Nat.zero_le _⟩
  | d + 1 => by
    have ih := wfs_ok hn d
    have k := WOk.lay (gs := (wfs n d).2) (fun g hg => ⟨ih.pair g hg, hg⟩) ih
    exact ⟨k.nd, k.ip, k.fu, fun f h => absurd h List.not_mem_nil, Nat.zero_le _, k.wl⟩
theorem stW_len (n : Nat) (f : List Nat) (s : WT × List (List Nat)) (p : Nat × Nat) : s.1.length ≤ (stW n f s p).1.length := by
  unfold stW
  split
  · exact Nat.le_refl _
  · show s.1.length ≤ (s.1 ++ [_]).length
    rw [List.length_append]; omega
theorem foldW_len {α β : Type} {m : β → Nat} {g : β → α → β} (h : ∀ s a, m s ≤ m (g s a)) : ∀ (l : List α) (s : β), m s ≤ m (l.foldl g s)
  | [], _ => Nat.le_refl _
  | a :: l, s => Nat.le_trans (h s a) (foldW_len h l (g s a))
theorem foldW_take {α β : Type} {m : β → Nat} {g : β → α → β} (h : ∀ s a, m s ≤ m (g s a)) (l : List α) (s : β) (i : Nat) : m ((l.take i).foldl g s) ≤ m (l.foldl g s) := by
  have := foldW_len h (l.drop i) ((l.take i).foldl g s)
  rw [← List.foldl_append, List.take_append_drop] at this
  exact this
theorem foldW_snoc {α β : Type} {g : β → α → β} {l : List α} {s : β} {i : Nat} {a : α} (h : l[i]? = some a) : (l.take (i + 1)).foldl g s = g ((l.take i).foldl g s) a := by
  rw [List.take_add_one, h, List.foldl_append]; rfl
theorem hrW_len (n : Nat) (s : WT × List (List Nat)) (f : List Nat) : s.1.length ≤ (hrW n s f).1.length := foldW_len (m := fun s : WT × List (List Nat) => s.1.length) (stW_len n f) _ _
theorem midW_len {n i j : Nat} {T : WT} {L : List (List Nat)} {f : List Nat} (h : L[i]? = some f) : (((allC n n).take j).foldl (stW n f) ((L.take i).foldl (hrW n) (T, []))).1.length ≤ (L.foldl (hrW n) (T, [])).1.length := by
  have h1 := foldW_take (m := fun s : WT × List (List Nat) => s.1.length) (stW_len n f) (allC n n) ((L.take i).foldl (hrW n) (T, [])) j
  have h2 : (hrW n ((L.take i).foldl (hrW n) (T, [])) f).1.length ≤ (L.foldl (hrW n) (T, [])).1.length := by
    rw [← foldW_snoc (g := hrW n) (s := (T, [])) h]
    exact foldW_take (m := fun s : WT × List (List Nat) => s.1.length) (hrW_len n) L (T, []) (i + 1)
  exact Nat.le_trans h1 h2
/-! #### the dict: sheets and lists of calls -/
def WIn (J : Hp) (xs : List (List Nat × Addr)) (T : WT) : Prop := Paired (fun x t => x.1 = t.1 ∧ ∃ bs : List Addr, J x.2 = some (.lst (bs.map V.ref)) ∧ Prs J bs t.2) xs T
theorem WIn.length {J : Hp} {xs : List (List Nat × Addr)} {T : WT} (h : WIn J xs T) : xs.length = T.length := Paired.length h
theorem WIn.keys {J : Hp} : ∀ {xs : List (List Nat × Addr)} {T : WT}, WIn J xs T → xs.map (·.1) = T.map (·.1)
  | _, _, .nil => rfl
  | x :: xs, t :: T, .cons h r => by
    show x.1 :: xs.map (·.1) = t.1 :: T.map (·.1)
    rw [h.1, WIn.keys r]
theorem WIn.get {J : Hp} {f : List Nat} : ∀ {xs : List (List Nat × Addr)} {T : WT}, WIn J xs T → f ∈ T.map (·.1) → ∃ a bs w, (f, a) ∈ xs ∧ (f, w) ∈ T ∧ J a = some (.lst (bs.map V.ref)) ∧ Prs J bs w
  | _, _, .nil, h => absurd h List.not_mem_nil
  | x :: xs, t :: T, .cons h r, hm => by
    rcases List.mem_cons.mp (show f ∈ t.1 :: T.map (·.1) from hm) with e | e
    · obtain ⟨h1, bs, h2, h3⟩ := h
      exact ⟨x.2, bs, t.2, by rw [e, ← h1]; exact List.mem_cons_self, by rw [e]; exact List.mem_cons_self, h2, h3⟩
    · obtain ⟨a, bs, w, h1, h2, h3⟩ := WIn.get r e
      exact ⟨a, bs, w, List.mem_cons_of_mem _ h1, List.mem_cons_of_mem _ h2, h3⟩
theorem WIn.mv {J J' : Hp} (kl : ∀ {xs : List (List Nat × Addr)} {T : WT}, WIn J xs T → ∀ x ∈ xs, ∀ vs, J x.2 = some (.lst vs) → J' x.2 = some (.lst vs)) (kt : ∀ a vs, J a = some (.tup vs) → J' a = some (.tup vs)) : ∀ {xs : List (List Nat × Addr)} {T : WT}, WIn J xs T → WIn J' xs T
  | _, _, .nil => .nil
  | x :: xs, t :: T, .cons ⟨h1, bs, h2, h3⟩ r => .cons ⟨h1, bs, kl (.cons ⟨h1, bs, h2, h3⟩ .nil : WIn J [x] [t]) x List.mem_cons_self _ h2, prs_mv kt h3⟩ (WIn.mv kl kt r)
theorem WIn.keep {J J' : Hp} (kt : ∀ a vs, J a = some (.tup vs) → J' a = some (.tup vs)) : ∀ {xs : List (List Nat × Addr)} {T : WT}, WIn J xs T → (∀ x ∈ xs, ∀ vs, J x.2 = some (.lst vs) → J' x.2 = some (.lst vs)) → WIn J' xs T
  | _, _, .nil, _ => .nil
  | x :: xs, t :: T, .cons ⟨h1, bs, h2, h3⟩ r, k => .cons ⟨h1, bs, k x List.mem_cons_self _ h2, prs_mv kt h3⟩ (WIn.keep kt r fun y hy => k y (List.mem_cons_of_mem _ hy))
theorem WIn.same {J J' : Hp} (s : Same J J') {xs : List (List Nat × Addr)} {T : WT} (h : WIn J xs T) : WIn J' xs T := WIn.keep (fun _ _ e => s _ _ e) h fun _ _ _ e => s _ _ e
theorem WIn.app {J : Hp} : ∀ {xs ys : List (List Nat × Addr)} {T U : WT}, WIn J xs T → WIn J ys U → WIn J (xs ++ ys) (T ++ U)
  | _, _, _, _, .nil, g => g
  | _, _, _, _, .cons h r, g => .cons h (WIn.app r g)
theorem put_dkv_new {R : List Nat} {d : Addr} {xs : List (List Nat × Addr)} (h : ∀ d, (R, d) ∉ xs) : putK (dkv xs) (ky R) (V.ref d) = dkv (xs ++ [(R, d)]) := by
  unfold putK
  rw [if_neg fun z => ?_]
  · unfold dkv; rw [List.map_append]; rfl
  · obtain ⟨d', hd⟩ := any_dkv.mp z
    exact h d' hd
/-- the heap in the search: aF the dict, aL the layer, aU the next -/
structure SrW (H0 J : Hp) (aF aL aU : Addr) (us ws : List Addr) (L : List (List Nat)) (s : WT × List (List Nat)) (xs : List (List Nat × Addr)) : Prop where
  sm : Same H0 J
  eF : J aF = some (.dT (dkv xs))
  hW : WIn J xs s.1
  eL : J aL = some (.lst (us.map V.ref))
  hL : Tups J us L
  eU : J aU = some (.lst (ws.map V.ref))
  hU : Tups J ws s.2
  n1 : H0 aF = none
  n2 : H0 aU = none
  ne : aL ≠ aU
  nx : ∀ x ∈ xs, x.2 ≠ aU
theorem SrW.same {H0 J J' : Hp} {aF aL aU : Addr} {us ws : List Addr} {L : List (List Nat)} {s : WT × List (List Nat)} {xs : List (List Nat × Addr)} (h : SrW H0 J aF aL aU us ws L s xs) (e : Same J J') : SrW H0 J' aF aL aU us ws L s xs :=
  ⟨h.sm.trans e, e _ _ h.eF, h.hW.same e, e _ _ h.eL, tups_same e h.hL, e _ _ h.eU, tups_same e h.hU, h.n1, h.n2, h.ne, h.nx⟩
theorem SrW.add {H0 J : Hp} {aF aL aU t d : Addr} {us ws bs : List Addr} {L : List (List Nat)} {T : WT} {M : List (List Nat)} {f : List Nat} {wd : List (Nat × Nat)} {xs : List (List Nat × Addr)} (h : SrW H0 J aF aL aU us ws L (T, M) xs) (et : J t = some (.tup (nv f))) (ed : J d = some (.lst (bs.map V.ref))) (hd : Prs J bs wd) (dU : d ≠ aU) :
    SrW H0 (upd (upd J aF (.dT (dkv (xs ++ [(f, d)])))) aU (.lst (ws.map V.ref ++ [V.ref t]))) aF aL aU us (ws ++ [t]) L (T ++ [(f, wd)], M ++ [f]) (xs ++ [(f, d)]) := by
  have fu : aF ≠ aU := fun e => by have := h.eF; rw [e, h.eU] at this; cases this
  have lf : aL ≠ aF := fun e => by have := h.eF; rw [← e, h.eL] at this; cases this
  have mv : ∀ a vs, J a = some (.tup vs) → upd (upd J aF (.dT (dkv (xs ++ [(f, d)])))) aU (.lst (ws.map V.ref ++ [V.ref t])) a = some (.tup vs) := fun a vs e => by
    rw [upd_ne (fun z => by rw [z, h.eU] at e; cases e), upd_ne (fun z => by rw [z, h.eF] at e; cases e)]
    exact e
  have ml : ∀ a vs, a ≠ aU → J a = some (.lst vs) → upd (upd J aF (.dT (dkv (xs ++ [(f, d)])))) aU (.lst (ws.map V.ref ++ [V.ref t])) a = some (.lst vs) := fun a vs n e => by
    rw [upd_ne n, upd_ne (fun z => by rw [z, h.eF] at e; cases e)]
    exact e
  refine ⟨fun a o e => ?_, ?_, ?_, ?_, tups_mv mv h.hL, ?_, tups_append (tups_mv mv h.hU) (.cons (mv _ _ et) .nil), h.n1, h.n2, h.ne, fun x hx => ?_⟩
  · rw [upd_ne (fun z => by rw [z, h.n2] at e; cases e), upd_ne (fun z => by rw [z, h.n1] at e; cases e)]
    exact h.sm _ _ e
  · rw [upd_ne fu, upd_same]
  · exact WIn.app (WIn.keep mv h.hW fun x hx vs e => ml _ _ (h.nx x hx) e) (.cons ⟨rfl, bs, ml _ _ dU ed, prs_mv mv hd⟩ .nil)
  · exact ml _ _ h.ne h.eL
  · rw [upd_same, List.map_append]; rfl
  · rcases List.mem_append.mp hx with e | e
    · exact h.nx x e
    · rw [List.mem_singleton.mp e]; exact dU
theorem nodup_val {f : List Nat} {a b : Addr} : ∀ {xs : List (List Nat × Addr)}, (xs.map (·.1)).Nodup → (f, a) ∈ xs → (f, b) ∈ xs → a = b
  | [], _, h, _ => absurd h List.not_mem_nil
  | x :: xs, hn, h1, h2 => by
    obtain ⟨n1, n2⟩ := List.nodup_cons.mp hn
    rcases List.mem_cons.mp h1 with e | e
    · rcases List.mem_cons.mp h2 with e2 | e2
      · have := e.trans e2.symm; cases this; rfl
      · exact absurd (by rw [← e]; exact List.mem_map.mpr ⟨_, e2, rfl⟩) n1
    · rcases List.mem_cons.mp h2 with e2 | e2
      · exact absurd (by rw [← e2]; exact List.mem_map.mpr ⟨_, e, rfl⟩) n1
      · exact nodup_val n2 e e2
end Pc
namespace Pc
open PySem PySem.Spec PyProof.Rows L2 RZ
section
variable {P : Program} {w : World} {K : PySem.W.Frag} {mg : Str → Option Value} {base : Heap}
/-! ### a look at the size -/
def spFewV : Sp := fun vs H Q _ => ∃ n : Nat, vs = [.int n] ∧ n ≤ 4 ∧ Q .non H
theorem ok_p_check_few (T : Env K mg) : FnOk P w K mg base CX0 1 T.f_p_check_few T.d_p_check_few ["size"] spFewV := by

  refine T.F_p_check_few.ok sc_p_check_few (fun vs H Q E h => ?_) (fun cdv A outer s H vs Q E hr h => ?_)
  · obtain ⟨n, rfl, _⟩ := h
    rfl
  · obtain ⟨n, rfl, hn, q⟩ := h

    refine ⟨_, pss_one (ps_if (pt_cmpR op_gt (pv 0) (pe_glob (v := .int 4) (by rfl) T.k_MOST_PEOPLE ⟨_, rfl⟩) (nomark _)) pss_never pss_nil), ?_⟩
    refine ⟨_, rfl, _, 4, rfl, rfl, _, rfl, iteX (decide_eq_false (by omega)) q⟩
end
end Pc
namespace Pc
open PySem PySem.Spec PyProof.Rows L2 RZ
section
variable {P : Program} {w : World} {K : PySem.W.Frag} {mg : Str → Option Value} {base : Heap}
/-! ### too many people -/
def spFewMX (C : Addr) : Sp := fun vs H _ E => ∃ n : Nat, vs = [.int n] ∧ 4 < n ∧ Flies C "size" (.int (n : Nat)) H E
theorem okx_p_check_few (T : Env K mg) : FnOk P w K mg base (L2.CX P w) 3 T.f_p_check_few T.d_p_check_few ["size"] (spFewMX T.C_TooMany) := by

  refine T.F_p_check_few.okX sc_p_check_few (fun vs H Q E h => ?_) (fun cdv A outer s H vs Q E hr h => ?_)
  · obtain ⟨n, rfl, _⟩ := h
    rfl
  · obtain ⟨n, rfl, hn, hF⟩ := h

    refine ⟨_, pss_one (ps_if (pt_cmpR op_gt (pv 0) (pe_glob (v := .int 4) (by rfl) T.k_MOST_PEOPLE ⟨_, rfl⟩) (nomark _)) (pss_one (ps_raise rfl (takes_of rfl rfl rfl rfl) (pmk_e T.own_TooMany bsO.fb T.iC_TooMany T.tI_TooMany (ok_i_TooMany T) hr T.b_i_TooMany pass0 (by rfl) T.gC_TooMany (pa_cons (pv 0) pa_nil)))) pss_nil), ?_⟩
    refine ⟨_, rfl, _, 4, rfl, rfl, _, rfl, iteY (decide_eq_true (by omega)) ⟨_, rfl, raised1 hF⟩⟩
end
end Pc
namespace Pc
open PySem PySem.Spec PyProof.Rows L2 RZ
section
variable {P : Program} {w : World} {K : PySem.W.Frag} {mg : Str → Option Value} {base : Heap}
/-! ### the first words of all sheets of words -/
theorem units1L {k : Nat} {A : Around} (r : Room k A) : A.units + 1 < cLine := by have := r.units; omega
def spFirstWs : Sp := fun vs H Q _ => ∃ n : Nat, vs = [.int n] ∧ n ∈ w24 ∧ ∀ (H' : Hp) (a : Addr) (xs : List (List Nat × Addr)), Same H H' → H a = none → H' a = some (.dT (dkv xs)) → WIn H' xs (WB n) → (xs.map (·.1)).Nodup → Q (.ref a) H'
theorem ok_p_first_words (T : Env K mg) : FnOk P w K mg base CX0 6 T.f_p_first_words T.d_p_first_words ["size"] spFirstWs := by
  have GE : FnOk P w K mg base CX0 1 T.f_p_empty_sheet T.d_p_empty_sheet ["size"] spEmpty := ok_p_empty_sheet T
  have GC : FnOk P w K mg base CX0 1 T.f_p_all_calls T.d_p_all_calls ["size"] spCallsP := ok_p_all_calls T
  have GW : FnOk P w K mg base CX0 5 T.f_p_with_call T.d_p_with_call ["sheet", "call"] (spWithCall K) := ok_p_with_call T
  refine T.F_p_first_words.ok sc_p_first_words (fun vs H Q E h => ?_) (fun cdv A outer s H vs Q E hr h => ?_)
  · obtain ⟨n, rfl, _⟩ := h
    rfl
  · obtain ⟨n, rfl, hn, q⟩ := h
    have h1 := hr.mono (show 1 ≤ 5 by decide)
    have h5 := hr.mono (show 5 ≤ 5 by decide)
    refine ⟨_, pss_cons (ps_set (i := 1) sc_p_first_words.nd rfl (.inl rfl) (pe_lst (pa_cons (pe_call GE h1 (by rfl) T.g_p_empty_sheet T.F_p_empty_sheet.kp T.b_p_empty_sheet .nil pass0 (pa_cons (pv 0) pa_nil)) pa_nil))) <|
      pss_cons (ps_set (i := 2) sc_p_first_words.nd rfl (.inl rfl) (pe_dispT1 (units1L hr) (pe_call GE h1 (by rfl) T.g_p_empty_sheet T.F_p_empty_sheet.kp T.b_p_empty_sheet .nil pass0 (pa_cons (pv 0) pa_nil)) (pe_lst pa_nil))) <|
      pss_cons (ps_while PassesOwn.never (pt_truth (pv 1) (by intro _; rfl)) (pss_cons (ps_set (i := 3) sc_p_first_words.nd rfl (.inl rfl) (pe_lst pa_nil)) <|
      pss_cons (ps_for PassesOwn.never rfl (pi_list (pv 1)) (pg_name (i := 4) sc_p_first_words.nd rfl (.inl rfl))
        (pss_one (ps_for PassesOwn.never rfl (pi_list (pe_call GC h1 (by rfl) T.g_p_all_calls T.F_p_all_calls.kp T.b_p_all_calls .nil pass0 (pa_cons (pv 0) pa_nil))) (pg_name (i := 5) sc_p_first_words.nd rfl (.inl rfl))
        (pss_cons (ps_set (i := 6) sc_p_first_words.nd rfl (.inl rfl) (pe_call GW h5 (by rfl) T.g_p_with_call T.F_p_with_call.kp T.b_p_with_call .nil pass0 (pa_cons (pv 4) (pa_cons (pv 5) pa_nil)))) <|
      pss_one (ps_if (pt_cmp (pc_dnotin (units1L hr) (pv 6) (pv 2))) (pss_cons (ps_dput (units1L hr) (pv 2) (pv 6) (pe_op op_cat (pe_dget (units1L hr) (pv 2) (pv 4) (fun _ _ => rfl)) (pe_lst (pa_cons (pv 5) pa_nil))) (by rfl)) <|
      pss_one (ps_expr (pe_bm PySem.F.plainAttrs_list PySem.F.slot_list_append PySem.F.type_list_append mt_append (pv 3) (pa_cons (pv 6) pa_nil)))) pss_nil))))) <|
      pss_one (ps_set (i := 1) sc_p_first_words.nd rfl (.inl rfl) (pv 3)))) <|
      pss_one (ps_ret (pv 2)), ?_⟩
    have hn4 : n ≤ 4 := by rcases List.mem_cons.mp hn with e | e; omega; rw [List.mem_singleton.mp e]; decide
    have hn2 : 2 ≤ n := by rcases List.mem_cons.mp hn with e | e; omega; rw [List.mem_singleton.mp e]; decide
    have hn0 : 0 < n := by omega
    -- the empty sheet
    refine ⟨_, rfl, n, rfl, by omega, fun H1 t1 s1 nt1 et1 => ⟨by show 1 ≤ sizeLine; decide, fun aL nL => ?_⟩⟩
    have sL : Same H1 (upd H1 aL (.lst [V.ref t1])) := same_new nL
    have eL : (upd H1 aL (.lst [V.ref t1])) aL = some (.lst ([t1].map V.ref)) := upd_same
    have et1' := sL _ _ et1
    have s0L := s1.trans sL
    revert eL et1' s0L
    generalize upd H1 aL (.lst [V.ref t1]) = H2
    intro eL et1' s0L
    refine st_set [some (.int (n : Nat)), some (.ref aL), none, none, none, none, none] ?_ rfl
    refine fun aF nF => ⟨_, rfl, n, rfl, by omega, fun H3 t2 s3 nt2 et2 => ⟨by show 0 ≤ sizeLine; decide, fun d nd => ?_⟩⟩
    have sF : Same H2 (upd H2 aF (.dT [])) := same_new nF
    have sd : Same H3 (upd H3 d (.lst [])) := same_new nd
    have eF3 : (upd H3 d (.lst [])) aF = some (.dT []) := sd _ _ (s3 _ _ upd_same)
    have et3 : (upd H3 d (.lst [])) t2 = some (.tup (nv (emp n))) := sd _ _ et2
    have ed : (upd H3 d (.lst [])) d = some (.lst (([] : List Addr).map V.ref)) := upd_same
    have nF0 : H aF = none := s0L.free nF
    have fd : d ≠ aF := fun z => by rw [z, s3 _ _ upd_same] at nd; cases nd
    refine ⟨eF3, t2, ky (emp n), rfl, by rw [ky_kV]; exact et3, ?_⟩
    have eFF : upd (upd H3 d (.lst [])) aF (.dT [(ky (emp n), V.ref d)]) aF = some (.dT (dkv [(emp n, d)])) := upd_same
    have sFF : Same H2 (upd (upd H3 d (.lst [])) aF (.dT [(ky (emp n), V.ref d)])) := fun a o h => by
      rw [upd_ne (ne_of_none h nF)]; exact sd _ _ (s3 _ _ (sF _ _ h))
    have edd : upd (upd H3 d (.lst [])) aF (.dT [(ky (emp n), V.ref d)]) d = some (.lst (([] : List Addr).map V.ref)) := by rw [upd_ne fd]; exact ed
    have dL : d ≠ aL := fun z => by rw [z, s3 _ _ (sF _ _ eL)] at nd; cases nd
    clear eF3 et3 ed
    revert eFF sFF edd
    generalize upd (upd H3 d (.lst [])) aF (.dT [(ky (emp n), V.ref d)]) = H4
    intro eFF sFF edd
    refine st_set [some (.int (n : Nat)), some (.ref aL), some (.ref aF), none, none, none, none] ?_ rfl
    -- the layers
    refine ⟨fun m σ J => ∃ (d : Nat) (aL : Addr) (us : List Addr) (xs : List (List Nat × Addr)) (y3 y4 y5 y6 : Option V), d ≤ depW n ∧ m = depW n - d ∧ σ = [some (.int (n : Nat)), some (.ref aL), some (.ref aF), y3, y4, y5, y6] ∧ Same H J ∧ J aF = some (.dT (dkv xs)) ∧ WIn J xs (wfs n d).1 ∧ J aL = some (.lst (us.map V.ref)) ∧ Tups J us (wfs n d).2,
      ⟨depW n, 0, aL, [t1], [(emp n, d)], none, none, none, none, Nat.zero_le _, rfl, rfl, s0L.trans sFF, eFF, .cons ⟨rfl, [], edd, .nil⟩ .nil, sFF _ _ eL, .cons (sFF _ _ et1') .nil⟩, fun m σ J hW => ?_⟩
    obtain ⟨d, aL, us, xs, y3, y4, y5, y6, hd, rfl, rfl, sJ, eF, hX, eL, hL⟩ := hW
    have hB := wfs_ok hn0 d
    refine ⟨_, rfl, _, .inl ⟨_, .inl (.inl eL), rfl⟩, ite2 (fun c => ?_) (fun c => ?_)⟩
    · -- a layer more
      have hLne : (wfs n d).2 ≠ [] := fun z => by
        rw [z] at hL
        cases hL
        exact absurd c (by decide)
      have hlt : d < depW n := by
        rcases Nat.lt_or_ge d (depW n) with z | z
        · exact z
        · exact absurd (by rw [show d = depW n by omega]; exact wfs_end n hn) hLne
      refine ⟨fun σ J => ∃ (aL : Addr) (us : List Addr) (xs : List (List Nat × Addr)) (y3 y4 y5 y6 : Option V), σ = [some (.int (n : Nat)), some (.ref aL), some (.ref aF), y3, y4, y5, y6] ∧ Same H J ∧ J aF = some (.dT (dkv xs)) ∧ WIn J xs (wfs n (d + 1)).1 ∧ J aL = some (.lst (us.map V.ref)) ∧ Tups J us (wfs n (d + 1)).2, fun σ' J' h => by
        obtain ⟨aL, us, xs, y3, y4, y5, y6, h1, h2, h3, h4, h5, h6⟩ := h
        exact ⟨depW n - (d + 1), by omega, d + 1, aL, us, xs, y3, y4, y5, y6, by omega, rfl, h1, h2, h3, h4, h5, h6⟩, ?_⟩
      refine ⟨by show 0 ≤ sizeLine; decide, fun aU nU => ?_⟩
      have sU : Same J (upd J aU (.lst [])) := same_new nU
      have S0 : SrW H (upd J aU (.lst [])) aF aL aU us [] (wfs n d).2 ((wfs n d).1, []) xs := ⟨sJ.trans sU, sU _ _ eF, hX.same sU, sU _ _ eL, tups_same sU hL, upd_same, .nil, nF0, sJ.free nU, ne_of_none eL nU, fun x hx => by
        obtain ⟨i, hi, ei⟩ := List.getElem_of_mem hx
        obtain ⟨a', bs', w', q1, _, q3, _⟩ := WIn.get hX (show x.1 ∈ (wfs n d).1.map (·.1) by rw [← hX.keys]; exact List.mem_map_of_mem hx)
        intro z
        have hnd : (xs.map (·.1)).Nodup := by rw [hX.keys]; exact hB.nd
        have : a' = x.2 := nodup_val hnd q1 hx
        rw [this, z, nU] at q3; cases q3⟩
      clear sJ eF hX eL hL sU
      revert S0
      generalize upd J aU (.lst []) = J3
      intro S0
      refine st_set [some (.int (n : Nat)), some (.ref aL), some (.ref aF), some (.ref aU), y4, y5, y6] ?_ rfl
      refine ⟨_, rfl, aL, rfl, ⟨_, .inl (.inl S0.eL)⟩, for_list (xs := us.map V.ref) (fun i σ J => ∃ (ws : List Addr) (xs : List (List Nat × Addr)) (y4 y5 y6 : Option V), σ = [some (.int (n : Nat)), some (.ref aL), some (.ref aF), some (.ref aU), y4, y5, y6] ∧ SrW H J aF aL aU us ws (wfs n d).2 (((wfs n d).2.take i).foldl (hrW n) ((wfs n d).1, [])) xs) ⟨[], xs, y4, y5, y6, rfl, S0⟩ (fun i σ J _ h => by obtain ⟨_, _, _, _, _, _, h⟩ := h; exact .inl (.inl h.eL)) (fun i x σ J hx h => ?_) (fun σ J h => ?_)⟩
      · obtain ⟨ws, xs, y4, y5, y6, rfl, S⟩ := h
        clear S0
        rw [List.getElem?_map] at hx
        obtain ⟨u, eu, rfl⟩ := Option.map_eq_some_iff.mp hx
        obtain ⟨f, ef, _⟩ := tups_get S.hL eu
        have hfm := List.mem_of_getElem? ef
        have hfp : IsPair (2 * n) f := hB.pair f hfm
        refine st_set [some (.int (n : Nat)), some (.ref aL), some (.ref aF), some (.ref aU), some (.ref u), y5, y6] ?_ rfl
        refine ⟨_, rfl, n, rfl, by omega, fun J4 aC cs s4 nC eC hC => ?_⟩
        have S4 := S.same s4
        have cU : aC ≠ aU := fun z => by have := S.eU; rw [← z, nC] at this; cases this
        have cF : aC ≠ aF := fun z => by have := S.eF; rw [← z, nC] at this; cases this
        refine ⟨aC, rfl, ⟨_, .inl (.inl eC)⟩, for_list (xs := cs.map V.ref) (fun j σ J => ∃ (ws : List Addr) (xs : List (List Nat × Addr)) (y5 y6 : Option V), σ = [some (.int (n : Nat)), some (.ref aL), some (.ref aF), some (.ref aU), some (.ref u), y5, y6] ∧ J aC = some (.lst (cs.map V.ref)) ∧ Prs J cs (allC n n) ∧
          SrW H J aF aL aU us ws (wfs n d).2 (((allC n n).take j).foldl (stW n f) (((wfs n d).2.take i).foldl (hrW n) ((wfs n d).1, []))) xs) ⟨ws, xs, y5, y6, rfl, eC, hC, S4⟩ (fun j σ J _ h => by obtain ⟨_, _, _, _, _, h, _⟩ := h; exact .inl (.inl h)) (fun j x σ J hx h => ?_) (fun σ J h => ?_)⟩
        · clear S S4 s4 nC
          obtain ⟨ws, xs, y5, y6, rfl, eC, hC, S⟩ := h
          rw [List.getElem?_map] at hx
          obtain ⟨c, ec, rfl⟩ := Option.map_eq_some_iff.mp hx
          obtain ⟨p, ep, hp⟩ := prs_get hC ec
          have hpm := allC_calls n n p (List.mem_of_getElem? ep)
          obtain ⟨f', ef', hu⟩ := tups_get S.hL eu
          rw [ef] at ef'
          cases ef'
          have hlen : (((allC n n).take j).foldl (stW n f) (((wfs n d).2.take i).foldl (hrW n) ((wfs n d).1, []))).1.length ≤ 82 := Nat.le_trans (midW_len ef) (wfs_len n hn (d + 1) hlt)
          have hB2 : WOk n (wfs n d).2 (((allC n n).take j).foldl (stW n f) (((wfs n d).2.take i).foldl (hrW n) ((wfs n d).1, []))) := WOk.calls hfp hfm (fun r hr => allC_calls n n r (List.mem_of_mem_take hr)) (WOk.lay (fun g hg => ⟨hB.pair g (List.mem_of_mem_take hg), List.mem_of_mem_take hg⟩) hB)
          have hnx : ((allC n n).take (j + 1)).foldl (stW n f) (((wfs n d).2.take i).foldl (hrW n) ((wfs n d).1, [])) = stW n f (((allC n n).take j).foldl (stW n f) (((wfs n d).2.take i).foldl (hrW n) ((wfs n d).1, []))) p := foldW_snoc ep
          rw [hnx]
          clear hnx
          revert hlen hB2 S
          generalize ((allC n n).take j).foldl (stW n f) (((wfs n d).2.take i).foldl (hrW n) ((wfs n d).1, [])) = ss
          intro S hlen hB2
          obtain ⟨TT, MM⟩ := ss
          refine st_set [some (.int (n : Nat)), some (.ref aL), some (.ref aF), some (.ref aU), some (.ref u), some (.ref c), y6] ?_ rfl
          refine ⟨_, rfl, _, rfl, u, c, f, p.1, p.2, n, rfl, .inr (.inl (.inl hu)), hfp, .inr (.inl (.inl hp)), hpm.1, hpm.2, by omega, fun J6 tt s6 ntt ett => ?_⟩
          replace S := S.same s6
          replace eC := s6 _ _ eC
          replace hC := prs_same s6 hC
          replace hu := s6 _ _ hu
          replace hp := s6 _ _ hp
          clear s6 ntt
          refine st_set [some (.int (n : Nat)), some (.ref aL), some (.ref aF), some (.ref aU), some (.ref u), some (.ref c), some (.ref tt)] ?_ rfl
          have ek : J6 tt = some (.tup ((ky (jn f (n + p.1) (n + p.2))).map kV)) := by rw [ky_kV]; exact ett
          have hnd : (xs.map (·.1)).Nodup := by rw [S.hW.keys]; exact hB2.nd
          refine ⟨_, rfl, _, rfl, aF, _, rfl, DGet.t S.eF ek, _, rfl, ?_⟩
          unfold stW
          show if (!(valV (dkv xs) (ky (jn f (n + p.1) (n + p.2)))).isSome) = true then _ else _
          by_cases hk : hasT TT (jn f (n + p.1) (n + p.2)) = true
          · obtain ⟨a', bs', w', q1, _⟩ := WIn.get S.hW (hasT_iff.mp hk)
            rw [val_dkv hnd q1, if_pos hk]
            exact iteX rfl ⟨ws, xs, _, _, rfl, eC, hC, S⟩
          · have hno : ∀ d', (jn f (n + p.1) (n + p.2), d') ∉ xs := fun d' hd' => hk (hasT_iff.mpr (by
              have := List.mem_map_of_mem (f := fun x : List Nat × Addr => x.1) hd'
              rw [S.hW.keys] at this; exact this))
            rw [val_dkv_no hno, if_neg hk]
            refine iteY rfl ?_
            have eku : J6 u = some (.tup ((ky f).map kV)) := by rw [ky_kV]; exact hu
            obtain ⟨a', bs', w', q1, q2, q3, q4⟩ := WIn.get S.hW (hB2.ly f hfm)
            have hwl : w'.length ≤ 82 := Nat.le_trans (hB2.wl _ q2) hlen
            have hbl : bs'.length ≤ 82 := by rw [q4.length]; exact hwl
            refine ⟨_, rfl, _, rfl, aF, V.ref a', rfl, by have h := DGet.t S.eF eku; rw [val_dkv hnd q1] at h; exact h, _, rfl, by show 1 ≤ sizeLine; decide, fun l1 nl1 => ?_⟩
            have sl := same_new (o := .lst [V.ref c]) nl1
            refine ⟨a', l1, _, _, rfl, rfl, sl _ _ q3, upd_same, by rw [List.length_map]; exact Nat.le_of_lt (small1000 (by show _ + 1 ≤ 1000; omega)), fun g ng => ?_⟩
            have sg := sl.trans (same_new (o := .lst (bs'.map V.ref ++ [V.ref c])) ng)
            have eg : (upd (upd J6 l1 (.lst [V.ref c])) g (.lst (bs'.map V.ref ++ [V.ref c]))) g = some (.lst ((bs' ++ [c]).map V.ref)) := by rw [upd_same, List.map_append]; rfl
            have gU : g ≠ aU := fun z => by have := sl _ _ S.eU; rw [← z, ng] at this; cases this
            have hPg := prs_append (prs_same sg q4) (.cons (sg _ _ hp) .nil : Prs _ [c] [p])
            have ett' := sg _ _ ett
            have ek' := sg _ _ ek
            replace S := S.same sg
            replace eC := sg _ _ eC
            replace hC := prs_same sg hC
            clear q3 q4 eku hu hp sl nl1 ng ett ek
            revert eg hPg ett' ek' S eC hC
            generalize upd (upd J6 l1 (.lst [V.ref c])) g (.lst (bs'.map V.ref ++ [V.ref c])) = J8
            intro eg hPg ett' ek' S eC hC
            refine ⟨_, rfl, _, rfl, aF, _, rfl, DPut.t S.eF ek' (Nat.lt_of_le_of_lt (Nat.le_of_eq (List.length_map _)) (small1000 (by rw [S.hW.length]; show TT.length ≤ 1000; have : TT.length ≤ 82 := hlen; omega))), ?_⟩
            rw [put_dkv_new hno]
            have fu : aU ≠ aF := fun e => by have := S.eF; rw [← e, S.eU] at this; cases this
            have hwl : ws.length ≤ 82 := by have h1 := hB2.ln; rw [S.hU.length]; exact Nat.le_trans h1 hlen
            have eU2 : upd J8 aF (.dT (dkv (xs ++ [(jn f (n + p.1) (n + p.2), g)]))) aU = some (.lst (ws.map V.ref)) := by rw [upd_ne fu]; exact S.eU
            refine ⟨_, rfl, .inl ⟨rfl, _, .inl (.inl eU2)⟩, _, rfl, aU, ws.map V.ref, _, rfl, rfl, eU2, small1000 (by rw [List.length_map]; omega), ?_⟩
            have S7 := S.add (t := tt) (d := g) (wd := w' ++ [p]) ett' eg hPg gU
            rw [show wdT (TT, MM).1 f = w' from wdT_of hB2.nd q2]
            refine ⟨ws ++ [tt], xs ++ [(jn f (n + p.1) (n + p.2), g)], _, _, rfl, ?_, prs_mv (fun a vs h => ?_) hC, S7⟩
            · rw [upd_ne cU, upd_ne cF]; exact eC
            · rw [upd_ne (fun z => by rw [z, S.eU] at h; cases h), upd_ne (fun z => by rw [z, S.eF] at h; cases h)]; exact h
        · obtain ⟨ws, xs, y5, y6, rfl, eC, hC, S⟩ := h
          rw [List.length_map, hC.length, List.take_length] at S
          exact ⟨ws, xs, _, _, _, rfl, by rw [foldW_snoc ef]; exact S⟩
      · obtain ⟨ws, xs, y4, y5, y6, rfl, S⟩ := h
        rw [List.length_map, S.hL.length, List.take_length] at S
        refine ⟨_, rfl, ?_⟩
        refine st_set [some (.int (n : Nat)), some (.ref aU), some (.ref aF), some (.ref aU), y4, y5, y6] ?_ rfl
        exact ⟨aU, ws, xs, _, _, _, _, rfl, S.sm, S.eF, S.hW, S.eU, S.hU⟩
    · -- the end
      have hLe : (wfs n d).2 = [] := by
        have : us = [] := by
          cases us with
          | nil => rfl
          | cons a r => exact absurd rfl c
        rw [this] at hL
        cases hL' : (wfs n d).2 with
        | nil => rfl
        | cons a r => rw [hL'] at hL; cases hL
      have hde : d = depW n := by
        rcases Nat.lt_or_ge d (depW n) with z | z
        · exact absurd hLe (wfs_go n hn d z)
        · omega
      subst hde
      exact ⟨_, rfl, q _ aF xs sJ nF0 eF hX (by rw [hX.keys]; exact hB.nd)⟩
end
end Pc
/-! ### sorted(xs) of tuples of ints of one length, any number of them -/
namespace SrtO
open PySem PySem.Spec PyProof.Rows
theorem swo_code (k : Value → Int) : Swo fun v u => decide (k v < k u) :=
  ⟨fun x y h => decide_eq_false (by have := of_decide_eq_true h; omega), fun x y z h1 h2 => decide_eq_false (by have a := of_decide_eq_false h1; have b := of_decide_eq_false h2; omega)⟩
section
variable {prog : Program} {w : World} {A : Around} {E : Value → Shared → Prop} {s : Shared}
theorem tup_cmp {vs : List Value} {d : Nat} {B : Int} {c : Value → List Int} (hp : ∀ v ∈ vs, TS.TupInts s.heap v (c v) ∧ (c v).length = d ∧ TS.Bd B (c v)) :
    Cmp prog w A s (tuples' true) (fun p => p.1 ∈ vs) (lt2 fun v u => decide (TS.code B (c v) < TS.code B (c u))) := by
  intro p q hm hm'
  obtain ⟨h1, l1, b1⟩ := hp _ hm
  obtain ⟨h2, l2, b2⟩ := hp _ hm'
  show wpAny (model prog w) A (keyLt' (tuples' true) p.1 q.1) (fun r s' => s' = s ∧ r = decide (TS.code B (c p.1) < TS.code B (c q.1))) (fun _ _ => False) s
  generalize c p.1 = ns at h1 l1 b1 ⊢
  generalize c q.1 = ms at h2 l2 b2 ⊢
  obtain ⟨a, xs, e, ⟨o, ho, hc, n, hd⟩, i⟩ := h1
  obtain ⟨a', xs', e', ⟨o', ho', hc', n', hd'⟩, i'⟩ := h2
  rw [e, e']
  refine PySem.W.kat_lt ho hd ho' hd' ?_
  have hsz : decide (xs.size < xs'.size) = false := decide_eq_false (by
    have x1 := i.length
    have x2 := i'.length
    rw [Array.length_toList] at x1 x2
    omega)
  rw [hsz]
  exact TS.lex_ints 0 i i' (by omega) b1 b2 ⟨rfl, rfl⟩
theorem tups_sortableO {a : Addr} {vs : List Value} {d : Nat} {B : Int} {c : Value → List Int} (hd : 1 ≤ d) (h0 : 0 < vs.length) (hp : ∀ v ∈ vs, TS.TupInts s.heap v (c v) ∧ (c v).length = d ∧ TS.Bd B (c v)) (ha : ∀ o, s.heap.get? a = some o → o.cls ≠ .type "tuple") :
    SortableO prog w A s a vs fun v u => decide (TS.code B (c v) < TS.code B (c u)) := by
  intro h' keep
  have hp' : ∀ v ∈ vs, TS.TupInts h' v (c v) ∧ (c v).length = d ∧ TS.Bd B (c v) := fun v hm => ⟨(hp v hm).1.keeps fun b o e c => keep b o (fun z => by subst z; exact ha o e c) e, (hp v hm).2⟩
  obtain ⟨fs, h1, h2, h3⟩ := TS.firsts_of hd vs (fun v hm => ⟨_, (hp' v hm).1, (hp' v hm).2⟩ : TS.TupsOk h' d B vs)
  refine ⟨tuples' true, fun Q E hq => ?_, tup_cmp hp'⟩
  refine PySem.W.kat_kind (T := .type "int") h1 (by omega) (fun f hm => ?_) (by rfl) ?_
  · obtain ⟨x, t, rfl⟩ := h3 f hm
    exact PySem.W.Looks.now
  · have e : (Value.type "int" != Value.type "tuple") = true := by first | decide +kernel | rfl | decide
    rw [e]
    exact hq
theorem sorted_tupsO {l : Addr} {vs : List Value} {d : Nat} {B : Int} {c : Value → List Int} {Q : Value → Shared → Prop} (hd : 1 ≤ d) (hl : s.heap.IsList l vs.toArray) (hz : vs.length ≤ sizeLine) (hp : ∀ v ∈ vs, TS.TupInts s.heap v (c v) ∧ (c v).length = d ∧ TS.Bd B (c v))
    (h : ∀ (h' : Heap) (e : Addr) (out : List Value), Srtd (fun v u => decide (TS.code B (c v) < TS.code B (c u))) out → out.Perm vs → (∀ b o, s.heap.get? b = some o → h'.get? b = some o) → s.heap.objs.size ≤ e → (∃ n, h'.get? e = some (seqObj "list" out.toArray n)) → Q (.ref e) { s with heap := h' }) :
    wpAny (model prog w) A (call (.builtin "sorted") [.ref l]) Q E s := by
  refine sorted_ord (swo_code fun v => TS.code B (c v)) hl hz (fun h2 h₁ a ha kk => ?_) fun out hs hb => ?_
  · refine tups_sortableO (s := { s with heap := h₁ }) hd (by omega) (fun v hm => ⟨(hp v hm).1.keeps fun b o e _ => (kk b o e).2, (hp v hm).2⟩) fun o e => ?_
    have e' : some o = some (seqObj "list" vs.toArray 0) := e.symm.trans ha
    cases e'
    intro c
    exact absurd (Value.type.inj c) (by decide)
  · exact h _ _ out hs hb.perm (fun b o e => sortedAll_old e) (Nat.le_succ _) (sortedAll_at s.heap vs out.toArray)
end
end SrtO
namespace L2
open PySem PySem.Spec PyProof.Rows
def rSortTL (K : PySem.W.Frag) (d : Nat) (B : Int) : List V → Hp → VK → Prop := fun vs H Q => ∃ (a : Addr) (xs : List V), vs = [V.ref a] ∧ SqL K H a xs ∧ (∀ x ∈ xs, ∃ ns, TupI K H x ns ∧ ns.length = d ∧ TS.Bd B ns) ∧
  ∀ (ys : List V) (p : Addr), ys.Perm xs → ys.Pairwise (fun x y => ∀ n m, TupI K H x n → TupI K H y m → TS.code B n ≤ TS.code B m) → H p = none → Q (.ref p) (upd H p (.lst ys))
/-- sorted(xs), xs a list of tuples of d ints in [0, B), any number of them: a new list of the same, ascending by code B -/
theorem cr_sortTL {X : Cx} {d : Nat} {B : Int} (hd : 1 ≤ d) : CallR X (.builtin "sorted") (rSortTL X.K d B) := by
  intro pins s σ H vs us Q I r h
  obtain ⟨a, xs, rfl, hs, hx, q⟩ := h
  obtain ⟨its, rv, hl, hz⟩ := I.list hs
  rw [Vals.ref1 r]
  obtain ⟨e1, e2⟩ := bkV_refs rv fun x m => by
    obtain ⟨ns, ⟨t, e, _⟩, _⟩ := hx x m
    exact ⟨t, e⟩
  refine SrtO.sorted_tupsO (d := d) (B := B) (c := TS.intsOf s.heap) hd hl.isList (by rw [← rv.length]; exact hz) (fun v hv => ?_) fun h' e out h1 h2 kp hge hn => ?_
  · obtain ⟨t, rfl⟩ := e2 v hv
    have hm : V.ref t ∈ xs := by
      rw [e1]
      exact List.mem_map.mpr ⟨_, hv, rfl⟩
    obtain ⟨ns, ⟨t', e, ht⟩, hn, hb⟩ := hx _ hm
    cases e
    have k := tupI_raw I ht
    rw [k.ints]
    exact ⟨k, hn, hb⟩
  · have h3 : ∀ u ∈ out, ∃ a, u = Value.ref a := fun u hu => e2 u (h2.mem_iff.mp hu)
    have hp : (out.map bkV).Perm xs := by
      rw [e1]
      exact h2.map bkV
    obtain ⟨n, hn⟩ := hn
    refine ⟨.ref e, upd H e (.lst (out.map bkV)), I.laid (t' := s.toks) kp hge ⟨by rw [hp.length_eq]; exact hz, out, n, bkV_vals h3, hn⟩, rfl, q _ e hp ?_ (I.hok.fresh hge)⟩
    rw [List.pairwise_map]
    refine List.Pairwise.imp (fun {u v} huv n m hn hm => ?_) h1
    obtain ⟨t, et, ht⟩ := hn
    obtain ⟨t', et', ht'⟩ := hm
    have eu := bkV_ref et
    have ev := bkV_ref et'
    have i1 : TS.intsOf s.heap u = n := by
      rw [eu]
      exact (tupI_raw I ht).ints
    have i2 : TS.intsOf s.heap v = m := by
      rw [ev]
      exact (tupI_raw I ht').ints
    rw [← i1, ← i2]
    have := of_decide_eq_false huv
    omega
end L2
/-! ### sorted(d): d a dict whose keys are tuples of ints of one length -/
namespace SrtO
open PySem PySem.Spec PyProof.Rows
section
variable {prog : Program} {w : World} {A : Around} {E : Value → Shared → Prop} {s : Shared}
theorem collect_src {T : String} {r d0 : Addr} {m : Nat} {Pv : Nat → Value → Prop} {OK : Heap → Prop} {R : List Value → Shared → Prop} (Ks : PySem.W.KdlSrc prog w T r d0 m Pv OK) (nh : A.handled = none) (ok : OK s.heap) (hm : m ≤ sizeLine)
    (h : ∀ (h1 : Heap) (tk : Nat) (acc : Array Value), (∀ b o, s.heap.get? b = some o → h1.get? b = some o) → s.heap.objs.size < h1.objs.size → ItemsOf Pv acc m → R acc.toList { s with heap := h1, toks := tk }) : wpAny (model prog w) A (collect (.ref r)) R E s := by
  obtain ⟨q1, q2⟩ := Ks.there _ ok
  unfold collect
  refine wpAny_bind ?_
  refine wpAny_runValue ?_
  refine codeAny_builtin entry_proto_collect' ?_
  rw [Around.under_plainId (id := "proto.collect") PySem.F.plain_proto_collect _]
  show wpAny (model prog w) A.in1 (newList [] >>= fun l => again (Code.builtin "list.__iadd__" ⟨[l, Value.ref r], []⟩)) _ _ _
  refine wpAny_bind ?_
  refine wpAny_newObj_type ?_
  refine wpAny_pure ⟨plainId_quiet (id := "list.__iadd__") PySem.F.plain_list_iadd _, ?_⟩
  refine codeAny_builtin entry_list_iadd' ?_
  rw [Around.under_plainId (id := "list.__iadd__") PySem.F.plain_list_iadd _]
  obtain ⟨hp0, e0⟩ : ∃ z, z = s.heap.push { cls := .type "list", data := .seq ([] : List Value).toArray } := ⟨_, rfl⟩
  have at0 : hp0.get? s.heap.objs.size = some { cls := .type "list", data := .seq #[] } := by rw [e0]; exact Heap.get?_push_size _ rfl
  have kp0 : ∀ b o, s.heap.get? b = some o → hp0.get? b = some o := fun b o e => by rw [e0]; exact Heap.get?_push_of_some _ e
  show wpAny (model prog w) A.in1 (Builtin.List.listExtendWith (.ref s.heap.objs.size) (.ref r) (.ref s.heap.objs.size)) _ _ { s with heap := s.heap.push { cls := .type "list", data := .seq ([] : List Value).toArray } }
  rw [← e0]
  obtain ⟨J, hJ⟩ : ∃ J : Result → Shared → Prop, J = fun x s1 => ∃ (h1 : Heap) (tk : Nat) (acc : Array Value) (c : Nat), x = .ok (.ret (.ref s.heap.objs.size)) ∧ s1 = { s with heap := h1, toks := tk } ∧ (∀ b o, s.heap.get? b = some o → h1.get? b = some o) ∧
    h1.get? s.heap.objs.size = some { cls := .type "list", dict := none, data := .seq acc c, slots := #[] } ∧ ItemsOf Pv acc m := ⟨_, rfl⟩
  have main := PySem.W.kdl_extend (A := A) (s := { s with heap := hp0 }) (R := J) Ks nh (Ks.keep _ _ ok fun b _ o e => kp0 b o e) s.heap.objs.size (Nat.ne_of_gt q1) (Nat.ne_of_gt q2) (.ref s.heap.objs.size) 0 at0
    (fun h1 tk acc c kp at1 it => by rw [hJ]; exact ⟨h1, tk, acc, c, rfl, rfl, fun b o e => kp b o (Nat.ne_of_lt (Heap.lt_size e)) (kp0 b o e), at1, it⟩) hm
  refine wpAny_mono main (fun fin s1 x => ?_) fun v s1 x => ?_
  · cases fin with
    | done f =>
      have x : J (.ok f) s1 := x
      rw [hJ] at x
      obtain ⟨h1, tk, acc, c, ef, rfl, kp, at1, it⟩ := x
      cases ef
      refine wpAny_bind ?_
      refine wpAny_load at1 ?_
      exact wpAny_pure (h h1 tk acc kp (Heap.lt_size at1) it)
    | again c1 =>
      refine ⟨x.1, codeAny_mono x.2 fun z s2 y => ?_⟩
      rw [hJ] at y
      obtain ⟨h1, tk, acc, c, rfl, rfl, kp, at1, it⟩ := y
      refine wpAny_bind ?_
      refine wpAny_load at1 ?_
      exact wpAny_pure (h h1 tk acc kp (Heap.lt_size at1) it)
  · rw [hJ] at x
    obtain ⟨_, _, _, _, e, _⟩ := x
    cases e
theorem sorted_src {T : String} {r d0 : Addr} {m : Nat} {Pv : Nat → Value → Prop} {OK : Heap → Prop} {lv : Value → Value → Bool} {Q : Value → Shared → Prop} (O : Swo lv) (Ks : PySem.W.KdlSrc prog w T r d0 m Pv OK) (nh : A.handled = none) (ok : OK s.heap) (hm : m ≤ sizeLine)
    (h : ∀ (h1 : Heap) (tk : Nat) (acc : Array Value), (∀ b o, s.heap.get? b = some o → h1.get? b = some o) → ItemsOf Pv acc m →
      (2 ≤ acc.toList.length → ∀ h2 : Heap, h2.get? h1.objs.size = some (seqObj "list" acc.toList.toArray 0) → (∀ b o, s.heap.get? b = some o → h2.get? b = some o) → SortableO prog w A.in1.in1 { s with heap := h2, toks := tk } h1.objs.size acc.toList lv) ∧
      ∀ (h3 : Heap) (out : List Value), Srtd lv out → out.Perm acc.toList → s.heap.objs.size ≤ h1.objs.size → (∀ b o, s.heap.get? b = some o → h3.get? b = some o) → (∃ n, h3.get? h1.objs.size = some (seqObj "list" out.toArray n)) → Q (.ref h1.objs.size) { s with heap := h3, toks := tk }) :
    wpAny (model prog w) A (call (.builtin "sorted") [.ref r]) Q E s := by
  refine Calls.call_function_entry kind_sorted plain_sorted entry_sorted (args_sorted1 _) ?_
  unfold Builtin.«sorted»
  have nh1 : A.in1.handled = none := by simp [nh]
  refine wpAny_bind ?_
  refine wpAny_pure ?_
  refine wpAny_bind (collect_src (A := A.in1) Ks nh1 ok hm fun h1 tk acc kp hlt it => ?_)
  obtain ⟨g1, g2⟩ := h h1 tk acc kp it
  have hal : acc.toList.length ≤ sizeLine := by rw [Array.length_toList, it.1]; exact hm
  refine wpAny_bind (wpAny_newList (s := { s with heap := h1, toks := tk }) ?_ hal)
  have top : (h1.push (seqObj "list" acc.toList.toArray 0)).get? h1.objs.size = some (seqObj "list" acc.toList.toArray 0) := Heap.get?_push_size _ rfl
  have old : ∀ b o, s.heap.get? b = some o → (h1.push (seqObj "list" acc.toList.toArray 0)).get? b = some o := fun b o e => Heap.get?_push_of_some _ (kp b o e)
  have hle : s.heap.objs.size ≤ h1.objs.size := Nat.le_of_lt hlt
  refine wpAny_bind (wpAny_holding (wpAny_call_entry slot_list_sort ⟨_, top, rfl⟩ entry_list_sort (list_sort_ord O top hal (fun two => g1 two _ top old) fun out so st => ⟨_, rfl, ?_⟩) (args_list_sort _)))
  refine wpAny_pure ⟨_, rfl, g2 _ out so st.perm hle (fun b o e => ?_) ?_⟩
  · have hb : b < s.heap.objs.size := Heap.lt_size e
    exact (sortedHeap_old (Nat.ne_of_lt (Nat.lt_of_lt_of_le hb hle)) (Heap.lt_size (old b o e))).trans (old b o e)
  · exact sortedHeap_at (n := 0) top
end
end SrtO
namespace L2
open PySem PySem.Spec PyProof.Rows
def rSortTD (K : PySem.W.Frag) : List V → Hp → VK → Prop := fun vs H Q => ∃ (a : Addr) (kvs : List (List Key × V)) (d : Nat) (B : Int), vs = [V.ref a] ∧ H a = some (.dT kvs) ∧ 1 ≤ d ∧ (∀ p ∈ kvs, ∃ ns : List Int, p.1 = ns.map Sum.inl ∧ ns.length = d ∧ TS.Bd B ns) ∧
  ∀ bs : List Addr, IsKeys H kvs bs → ∀ (ys : List V) (p : Addr), ys.Perm (bs.map V.ref) → ys.Pairwise (fun x y => ∀ n m, TupI K H x n → TupI K H y m → TS.code B n ≤ TS.code B m) → H p = none → Q (.ref p) (upd H p (.lst ys))
theorem isKeys_at {H : Hp} : ∀ {kvs : List (List Key × V)} {bs : List Addr}, IsKeys H kvs bs → ∀ b ∈ bs, ∃ p ∈ kvs, H b = some (.tup (p.1.map kV))
  | [], _, .nil => fun b hb => absurd hb List.not_mem_nil
  | p :: kvs, c :: bs, .cons h t => fun b hb => by
    rcases List.mem_cons.mp hb with e | hb
    · rw [e]; exact ⟨p, List.mem_cons_self, h⟩
    · obtain ⟨q, hq, e⟩ := isKeys_at t b hb
      exact ⟨q, List.mem_cons_of_mem _ hq, e⟩
theorem keys_ints (ns : List Int) : (ns.map (Sum.inl : Int → Key)).map kV = ns.map V.int := by rw [List.map_map]; rfl
/-- sorted(d): the keys in ascending order, in a new list -/
theorem cr_sortTD {X : Cx} (hc : X.calm = true) : CallR X (.builtin "sorted") (rSortTD X.K) := by
  intro pins s σ H vs us Q I r h
  obtain ⟨a, kvs, d, B, rfl, ea, hd, hx, q⟩ := h
  obtain ⟨u, rfl, ru⟩ := r.one
  cases ru
  obtain ⟨hz, hs, ks, pr, o, es, ep, ho, ho2, hdt, he, hn⟩ := (show ObjOk X.prog X.w H s.heap a (.dT kvs) from I.hok a _ ea)
  have z1 : es.size = ks.length := size_of_entries he
  have z2 : kvs.length = ks.length := Paired.length pr
  obtain ⟨bs, hbs⟩ : ∃ bs : List Addr, bs = ks.map fun x => x.2.1 := ⟨_, rfl⟩
  have hk : IsKeys H kvs bs := by rw [hbs]; exact isKeys_of pr
  refine SrtO.sorted_src (SrtO.swo_code fun v => TS.code B (TS.intsOf s.heap v)) (kdl_raw hs ho2 hdt) (I.ok.hd hc) ho (by omega) fun h1 tk acc kp it => ?_
  have len : acc.toList.length = bs.length := by rw [Array.length_toList, it.1, hbs, List.length_map, z1]
  have eq : acc.toList = bs.map Value.ref := by
    refine List.ext_getElem? fun j => ?_
    rw [List.getElem?_map]
    cases hj : acc.toList[j]? with
    | none => rw [List.getElem?_eq_none (by rw [← len]; exact List.getElem?_eq_none_iff.mp hj)]; rfl
    | some v =>
      obtain ⟨en, h2, rfl⟩ := it.2 j v (by rw [← Array.getElem?_toList]; exact hj)
      have h3 := entry_at he j
      rw [h2] at h3
      rw [hbs, List.getElem?_map]
      cases hb : ks[j]? with
      | none => rw [hb] at h3; cases (show some en = none from h3)
      | some b => rw [hb] at h3; cases Option.some.inj (show some en = some _ from h3); rfl
  have raw : ∀ v ∈ acc.toList, ∃ b ns, v = Value.ref b ∧ SqT X.K H b (ns.map V.int) ∧ ns.length = d ∧ TS.Bd B ns := fun v hv => by
    rw [eq] at hv
    obtain ⟨b, hb, rfl⟩ := List.mem_map.mp hv
    obtain ⟨p, hp, e⟩ := isKeys_at hk b hb
    obtain ⟨ns, en, hl, hbd⟩ := hx p hp
    rw [en, keys_ints] at e
    exact ⟨b, ns, rfl, .inl (.inl e), hl, hbd⟩
  have tup : ∀ v ∈ acc.toList, TS.TupInts s.heap v (TS.intsOf s.heap v) ∧ (TS.intsOf s.heap v).length = d ∧ TS.Bd B (TS.intsOf s.heap v) := fun v hv => by
    obtain ⟨b, ns, rfl, e, hl, hbd⟩ := raw v hv
    have k := tupI_raw I e
    rw [k.ints]
    exact ⟨k, hl, hbd⟩
  refine ⟨fun two h2 top old => ?_, fun h3 out so pm hle old ex => ?_⟩
  · refine SrtO.tups_sortableO (s := { s with heap := h2, toks := tk }) hd (by omega) (fun v hv => ⟨(tup v hv).1.keeps fun b o e _ => old b o e, (tup v hv).2⟩) fun o e => ?_
    have e' : some o = some (seqObj "list" acc.toList.toArray 0) := e.symm.trans top
    cases e'
    exact fun c => absurd (Value.type.inj c) (by decide)
  · have rf : ∀ v ∈ out, ∃ b, v = Value.ref b := fun v hv => by
      obtain ⟨b, _, e, _⟩ := raw v (pm.mem_iff.mp hv)
      exact ⟨b, e⟩
    have pv : (out.map bkV).Perm (bs.map V.ref) := by
      have := pm.map bkV
      rw [eq, List.map_map] at this
      exact this
    obtain ⟨n, hn3⟩ := ex
    have hlen : (out.map bkV).length ≤ sizeLine := by rw [List.length_map, pm.length_eq, len, hbs, List.length_map]; omega
    refine ⟨.ref h1.objs.size, upd H h1.objs.size (.lst (out.map bkV)), I.laid (t' := tk) old hle ⟨hlen, out, n, bkV_vals rf, hn3⟩, rfl, q bs hk _ _ pv ?_ (I.hok.fresh hle)⟩
    rw [List.pairwise_map]
    refine List.Pairwise.imp (fun {u v} huv n m hn hm => ?_) so
    obtain ⟨t, et, ht⟩ := hn
    obtain ⟨t2, et2, ht2⟩ := hm
    have i1 : TS.intsOf s.heap u = n := by rw [bkV_ref et]; exact (tupI_raw I ht).ints
    have i2 : TS.intsOf s.heap v = m := by rw [bkV_ref et2]; exact (tupI_raw I ht2).ints
    have := of_decide_eq_false huv
    rw [i1, i2] at this
    omega
end L2
namespace Pc
open PySem PySem.Spec PyProof.Rows L2 RZ
def zs8 (l : List Nat) : List Int := l.map fun i : Nat => (i : Int)
theorem isKeys_len {H : Hp} : ∀ {kvs : List (List Key × V)} {bs : List Addr}, IsKeys H kvs bs → bs.length = kvs.length
  | _, _, .nil => rfl
  | _, _, .cons _ t => congrArg (· + 1) (isKeys_len t)
end Pc
namespace Pc
open PySem PySem.Spec PyProof.Rows L2 RZ
section
variable {P : Program} {w : World} {K : PySem.W.Frag} {mg : Str → Option Value} {base : Heap}
/-! ### all sheets of words -/
theorem w24_of {n : Nat} (h : n ∈ w24) : n ≤ 4 ∧ 2 ≤ n := by rcases List.mem_cons.mp h with e | e; omega; rw [List.mem_singleton.mp e]; decide
theorem w24_len {n : Nat} (h : n ∈ w24) : (WB n).length ≤ 82 := by rcases List.mem_cons.mp h with e | e; rw [e, WB_len.1]; decide; rw [List.mem_singleton.mp e, WB_len.2]; exact Nat.le_refl _
def spAllSh : Sp := fun vs H Q _ => ∃ n : Nat, vs = [.int n] ∧ n ∈ w24 ∧ ∀ (H' : Hp) (p : Addr) (ys : List V), Same H H' → H p = none → H' p = some (.lst ys) → ys.length = (WB n).length → Q (.ref p) H'
theorem ok_p_all_sheets (T : Env K mg) : FnOk P w K mg base CX0 7 T.f_p_all_sheets T.d_p_all_sheets ["size"] spAllSh := by
  have GV : FnOk P w K mg base CX0 1 T.f_p_check_few T.d_p_check_few ["size"] spFewV := ok_p_check_few T
  have GW : FnOk P w K mg base CX0 6 T.f_p_first_words T.d_p_first_words ["size"] spFirstWs := ok_p_first_words T
  refine T.F_p_all_sheets.ok sc_p_all_sheets (fun vs H Q E h => ?_) (fun cdv A outer s H vs Q E hr h => ?_)
  · obtain ⟨n, rfl, _⟩ := h
    rfl
  · obtain ⟨n, rfl, hn, q⟩ := h
    have h1 := hr.mono (show 1 ≤ 6 by decide)
    have h6 := hr.mono (show 6 ≤ 6 by decide)
    refine ⟨_, pss_cons (ps_expr (pe_call GV h1 (by rfl) T.g_p_check_few T.F_p_check_few.kp T.b_p_check_few .nil pass0 (pa_cons (pv 0) pa_nil))) <|
      pss_one (ps_ret (pe_callB (cr_sortTD rfl) (by rfl) T.n_sorted (by decide +kernel) (pa_cons (pe_call GW h6 (by rfl) T.g_p_first_words T.F_p_first_words.kp T.b_p_first_words .nil pass0 (pa_cons (pv 0) pa_nil)) pa_nil))), ?_⟩
    obtain ⟨hn4, hn2⟩ := w24_of hn
    have hB := wfs_ok (n := n) (by omega) (depW n)
    refine ⟨_, rfl, n, rfl, hn4, ?_⟩
    refine ⟨_, rfl, n, rfl, hn, fun H1 aF xs s1 nF eF hW hnd => ?_⟩
    refine ⟨aF, _, 2 * n, 2 * n, rfl, eF, by omega, fun p hp => ?_, fun bs hk ys p hpm hpw np => ?_⟩
    · obtain ⟨x, hx, rfl⟩ := List.mem_map.mp hp
      have hx1 : x.1 ∈ (WB n).map (·.1) := by rw [← hW.keys]; exact List.mem_map_of_mem hx
      obtain ⟨y, hy, ey⟩ := List.mem_map.mp hx1
      have hx := hB.ip y hy
      rw [ey] at hx
      exact ⟨zs8 x.1, by unfold zs8 ky; rw [List.map_map]; rfl, by unfold zs8; rw [List.length_map, hx.len], fun z hz => by
        obtain ⟨w, hw, rfl⟩ := List.mem_map.mp hz
        have := hx.lt w hw
        omega⟩
    · exact q _ p ys (s1.trans (same_new np)) (s1.free np) upd_same (by rw [hpm.length_eq, List.length_map, isKeys_len hk, List.length_map, hW.length])
end
end Pc
namespace Pc
open PySem PySem.Spec PyProof.Rows L2 RZ
section
variable {P : Program} {w : World} {K : PySem.W.Frag} {mg : Str → Option Value} {base : Heap}
/-! ### all sheets, too many people -/
theorem okx_p_all_sheets (T : Env K mg) : FnOk P w K mg base (L2.CX P w) 7 T.f_p_all_sheets T.d_p_all_sheets ["size"] (spFewMX T.C_TooMany) := by

  have GX : FnOk P w K mg base (L2.CX P w) 3 T.f_p_check_few T.d_p_check_few ["size"] (spFewMX T.C_TooMany) := okx_p_check_few T
  refine T.F_p_all_sheets.okX sc_p_all_sheets (fun vs H Q E h => ?_) (fun cdv A outer s H vs Q E hr h => ?_)
  · obtain ⟨n, rfl, _⟩ := h
    rfl
  · obtain ⟨n, rfl, hn, hF⟩ := h
    have h3 := hr.mono (show 3 ≤ 6 by decide)
    refine ⟨_, pss_cons (ps_expr (pe_callS GX h3 (by rfl) T.g_p_check_few T.F_p_check_few.kp T.b_p_check_few (fun σ => passAt (takes_of rfl rfl rfl rfl) σ) (pa_cons (pv 0) pa_nil))) pss_never, ?_⟩
    exact ⟨_, rfl, n, rfl, hn, hF⟩
end
end Pc
namespace Pc
open PySem PySem.Spec PyProof.Rows L2 RZ
section
variable {P : Program} {w : World} {K : PySem.W.Frag} {mg : Str → Option Value} {base : Heap}
/-! ### the first word of a sheet -/
def spFirstW : Sp := fun vs H Q _ => ∃ (a : Addr) (f : List Nat) (n : Nat), vs = [.ref a] ∧ H a = some (.tup (nv f)) ∧ f.length = 2 * n ∧ n ∈ w24 ∧ ∀ (H' : Hp) (v : V), Same H H' →
  ((∃ (w : List (Nat × Nat)) (p : Addr) (bs : List Addr), (f, w) ∈ WB n ∧ v = .ref p ∧ H' p = some (.lst (bs.map V.ref)) ∧ Prs H' bs w) ∨ (f ∉ (WB n).map (·.1) ∧ v = .non)) → Q v H'
theorem ok_p_first_word (T : Env K mg) : FnOk P w K mg base CX0 7 T.f_p_first_word T.d_p_first_word ["sheet"] spFirstW := by
  have GV : FnOk P w K mg base CX0 1 T.f_p_check_few T.d_p_check_few ["size"] spFewV := ok_p_check_few T
  have GW : FnOk P w K mg base CX0 6 T.f_p_first_words T.d_p_first_words ["size"] spFirstWs := ok_p_first_words T
  have GP : FnOk P w K mg base CX0 1 T.f_p_people_of T.d_p_people_of ["sheet"] (spPeople K) := ok_p_people_of T
  refine T.F_p_first_word.ok sc_p_first_word (fun vs H Q E h => ?_) (fun cdv A outer s H vs Q E hr h => ?_)
  · obtain ⟨a, f, n, rfl, _⟩ := h
    rfl
  · obtain ⟨a, f, n, rfl, ha, hl, hn, q⟩ := h
    have h1 := hr.mono (show 1 ≤ 6 by decide)
    have h6 := hr.mono (show 6 ≤ 6 by decide)
    refine ⟨_, pss_cons (ps_set (i := 1) sc_p_first_word.nd rfl (.inl rfl) (pe_call GP h1 (by rfl) T.g_p_people_of T.F_p_people_of.kp T.b_p_people_of .nil pass0 (pa_cons (pv 0) pa_nil))) <|
      pss_cons (ps_expr (pe_call GV h1 (by rfl) T.g_p_check_few T.F_p_check_few.kp T.b_p_check_few .nil pass0 (pa_cons (pv 1) pa_nil))) <|
      pss_one (ps_ret (pe_dget1 (units1L hr) (pe_call GW h6 (by rfl) T.g_p_first_words T.F_p_first_words.kp T.b_p_first_words .nil pass0 (pa_cons (pv 1) pa_nil)) (pe_callTy call_tuple_of (by rfl) T.n_tuple (by decide +kernel) (pa_cons (pv 0) pa_nil)) ⟨rfl, by rfl, by rfl, by rfl⟩)), ?_⟩
    obtain ⟨hn4, hn2⟩ := w24_of hn
    refine ⟨_, rfl, a, f, n, rfl, .inr (.inl (.inl ha)), hl, ?_⟩
    refine st_set [some (.ref a), some (.int (n : Nat))] ?_ rfl
    refine ⟨_, rfl, n, rfl, hn4, ?_⟩
    refine ⟨_, rfl, n, rfl, hn, fun H1 aF xs s1 nF eF hW hnd => ?_⟩
    refine ⟨aF, rfl, .inr ⟨_, .inl eF⟩, _, rfl, a, _, rfl, .inr ⟨.inl (.inl (s1 _ _ ha)), ?_⟩⟩
    refine ⟨_, DGet.t eF (show H1 a = some (.tup ((ky f).map kV)) by rw [ky_kV]; exact s1 _ _ ha), ?_⟩
    by_cases hm : f ∈ (WB n).map (·.1)
    · obtain ⟨d, bs, w', q1, q2, q3, q4⟩ := WIn.get hW hm
      rw [val_dkv hnd q1]
      exact q _ _ s1 (.inl ⟨w', d, bs, q2, rfl, q3, q4⟩)
    · rw [val_dkv_no fun d hd => hm (by
        have := List.mem_map_of_mem (f := fun x : List Nat × Addr => x.1) hd
        rw [hW.keys] at this; exact this)]
      exact q _ _ s1 (.inr ⟨hm, rfl⟩)
end
end Pc
namespace Pc
open PySem PySem.Spec PyProof.Rows L2 RZ
section
variable {P : Program} {w : World} {K : PySem.W.Frag} {mg : Str → Option Value} {base : Heap}
/-! ### the first word, too many people -/
def spPageMX (C : Addr) : Sp := fun vs H _ E => ∃ (a : Addr) (f : List Nat) (n : Nat), vs = [.ref a] ∧ H a = some (.tup (nv f)) ∧ f.length = 2 * n ∧ 4 < n ∧ Flies C "size" (.int (n : Nat)) H E
def spManyMX (C : Addr) : Sp := fun vs H _ E => ∃ (a : Addr) (f : List Nat) (n : Nat) (x : V), vs = [.ref a, x] ∧ H a = some (.tup (nv f)) ∧ f.length = 2 * n ∧ 4 < n ∧ Flies C "size" (.int (n : Nat)) H E
theorem okx_p_first_word (T : Env K mg) : FnOk P w K mg base (L2.CX P w) 7 T.f_p_first_word T.d_p_first_word ["sheet"] (spPageMX T.C_TooMany) := by
  have GP : FnOk P w K mg base CX0 1 T.f_p_people_of T.d_p_people_of ["sheet"] (spPeople K) := ok_p_people_of T
  have GX : FnOk P w K mg base (L2.CX P w) 3 T.f_p_check_few T.d_p_check_few ["size"] (spFewMX T.C_TooMany) := okx_p_check_few T
  refine T.F_p_first_word.okX sc_p_first_word (fun vs H Q E h => ?_) (fun cdv A outer s H vs Q E hr h => ?_)
  · obtain ⟨a, f, n, rfl, _⟩ := h
    rfl
  · obtain ⟨a, f, n, rfl, ha, hl, hn, hF⟩ := h
    have h1 := hr.mono (show 1 ≤ 6 by decide)
    have h3 := hr.mono (show 3 ≤ 6 by decide)
    refine ⟨_, pss_cons (ps_set (i := 1) sc_p_first_word.nd rfl (.inl rfl) (pe_call GP h1 (by rfl) T.g_p_people_of T.F_p_people_of.kp T.b_p_people_of .nil pass0 (pa_cons (pv 0) pa_nil))) <|
      pss_cons (ps_expr (pe_callS GX h3 (by rfl) T.g_p_check_few T.F_p_check_few.kp T.b_p_check_few (fun σ => passAt (takes_of rfl rfl rfl rfl) σ) (pa_cons (pv 1) pa_nil))) pss_never, ?_⟩
    refine ⟨_, rfl, a, f, n, rfl, .inr (.inl (.inl ha)), hl, ?_⟩
    refine st_set [some (.ref a), some (.int (n : Nat))] ?_ rfl
    exact ⟨_, rfl, n, rfl, hn, hF⟩
end
end Pc
namespace Pc
open PySem PySem.Spec PyProof.Rows L2 RZ
section
variable {P : Program} {w : World} {K : PySem.W.Frag} {mg : Str → Option Value} {base : Heap}
/-! ### how many words, too many people -/
theorem okx_p_words_with (T : Env K mg) : FnOk P w K mg base (L2.CX P w) 7 T.f_p_words_with T.d_p_words_with ["sheet", "many"] (spManyMX T.C_TooMany) := by
  have GP : FnOk P w K mg base CX0 1 T.f_p_people_of T.d_p_people_of ["sheet"] (spPeople K) := ok_p_people_of T
  have GX : FnOk P w K mg base (L2.CX P w) 3 T.f_p_check_few T.d_p_check_few ["size"] (spFewMX T.C_TooMany) := okx_p_check_few T
  refine T.F_p_words_with.okX sc_p_words_with (fun vs H Q E h => ?_) (fun cdv A outer s H vs Q E hr h => ?_)
  · obtain ⟨a, f, n, x, rfl, _⟩ := h
    rfl
  · obtain ⟨a, f, n, x, rfl, ha, hl, hn, hF⟩ := h
    have h1 := hr.mono (show 1 ≤ 6 by decide)
    have h3 := hr.mono (show 3 ≤ 6 by decide)
    refine ⟨_, pss_cons (ps_set (i := 2) sc_p_words_with.nd rfl (.inl rfl) (pe_call GP h1 (by rfl) T.g_p_people_of T.F_p_people_of.kp T.b_p_people_of .nil pass0 (pa_cons (pv 0) pa_nil))) <|
      pss_cons (ps_expr (pe_callS GX h3 (by rfl) T.g_p_check_few T.F_p_check_few.kp T.b_p_check_few (fun σ => passAt (takes_of rfl rfl rfl rfl) σ) (pa_cons (pv 2) pa_nil))) pss_never, ?_⟩
    refine ⟨_, rfl, a, f, n, rfl, .inr (.inl (.inl ha)), hl, ?_⟩
    refine st_set [some (.ref a), some x, some (.int (n : Nat)), none, none, none, none, none, none] ?_ rfl
    exact ⟨_, rfl, n, rfl, hn, hF⟩
end
end Pc
namespace Pc
open PySem PySem.Spec PyProof.Rows L2 RZ
section
variable {P : Program} {w : World} {K : PySem.W.Frag} {mg : Str → Option Value} {base : Heap}
/-! ### how many words have a sheet: two people -/
def fS : Nat → List Nat | 0 => [2, 3, 0, 1] | _ + 1 => [1, 0, 3, 2]
theorem fS_pair : ∀ i, IsPair (2 * 2) (fS i)
  | 0 => (emp_pair (by decide) : IsPair (2 * 2) (emp 2))
  | _ + 1 => (jn_pair (emp_pair (by decide)) (by decide) (by decide) (by decide) : IsPair (2 * 2) (jn (emp 2) 2 3))
theorem fS_jn : ∀ i, jn (fS i) (2 + 0) (2 + 1) = fS (i + 1)
  | 0 => rfl
  | _ + 1 => rfl
abbrev kS (i : Nat) : List (List Key × V) := [(ky (fS i), V.int 1)]
abbrev kG (i j : Nat) : List (List Key × V) := if j = 0 then [] else kS (i + 1)
def spWords2 : Sp := fun vs H Q _ => ∃ (a : Addr) (f : List Nat) (m : Nat), vs = [.ref a, .int (m : Nat)] ∧ H a = some (.tup (nv f)) ∧ f.length = 2 * 2 ∧ m ≤ 20 ∧ ∀ H' : Hp, Same H H' → Q ((valV (kS m) (ky f)).getD (.int 0)) H'
theorem ok_p_words_with (T : Env K mg) : FnOk P w K mg base CX0 7 T.f_p_words_with T.d_p_words_with ["sheet", "many"] spWords2 := by
  have GV : FnOk P w K mg base CX0 1 T.f_p_check_few T.d_p_check_few ["size"] spFewV := ok_p_check_few T
  have GP : FnOk P w K mg base CX0 1 T.f_p_people_of T.d_p_people_of ["sheet"] (spPeople K) := ok_p_people_of T
  have GE : FnOk P w K mg base CX0 1 T.f_p_empty_sheet T.d_p_empty_sheet ["size"] spEmpty := ok_p_empty_sheet T
  have GC : FnOk P w K mg base CX0 1 T.f_p_all_calls T.d_p_all_calls ["size"] spCallsP := ok_p_all_calls T
  have GD : FnOk P w K mg base CX0 5 T.f_p_with_call T.d_p_with_call ["sheet", "call"] (spWithCall K) := ok_p_with_call T
  refine T.F_p_words_with.ok sc_p_words_with (fun vs H Q E h => ?_) (fun cdv A outer s H vs Q E hr h => ?_)
  · obtain ⟨a, f, m, rfl, _⟩ := h
    rfl
  · obtain ⟨a, f, m, rfl, ha, hl, hm, q⟩ := h
    have h1 := hr.mono (show 1 ≤ 6 by decide)
    have h5 := hr.mono (show 5 ≤ 6 by decide)
    refine ⟨_, pss_cons (ps_set (i := 2) sc_p_words_with.nd rfl (.inl rfl) (pe_call GP h1 (by rfl) T.g_p_people_of T.F_p_people_of.kp T.b_p_people_of .nil pass0 (pa_cons (pv 0) pa_nil))) <|
      pss_cons (ps_expr (pe_call GV h1 (by rfl) T.g_p_check_few T.F_p_check_few.kp T.b_p_check_few .nil pass0 (pa_cons (pv 2) pa_nil))) <|
      pss_cons (ps_set (i := 3) sc_p_words_with.nd rfl (.inl rfl) (pe_dispT1 (units1L hr) (pe_call GE h1 (by rfl) T.g_p_empty_sheet T.F_p_empty_sheet.kp T.b_p_empty_sheet .nil pass0 (pa_cons (pv 2) pa_nil)) pe_int)) <|
      pss_cons (ps_for PassesOwn.never rfl (pi_range1 (by rfl) T.n_range (pa_cons (pv 1) pa_nil)) (pg_name (i := 4) sc_p_words_with.nd rfl (.inl rfl))
        (pss_cons (ps_set (i := 5) sc_p_words_with.nd rfl (.inl rfl) pe_dnewT) <|
      pss_cons (ps_lock (ps_for PassesOwn.never rfl (pi_keys (pv 3)) (pg_name (i := 6) sc_p_words_with.nd rfl (.inl rfl))
        (pss_one (ps_for PassesOwn.never rfl (pi_list (pe_call GC h1 (by rfl) T.g_p_all_calls T.F_p_all_calls.kp T.b_p_all_calls .nil pass0 (pa_cons (pv 2) pa_nil))) (pg_name (i := 7) sc_p_words_with.nd rfl (.inl rfl))
        (pss_cons (ps_set (i := 8) sc_p_words_with.nd rfl (.inl rfl) (pe_call GD h5 (by rfl) T.g_p_with_call T.F_p_with_call.kp T.b_p_with_call .nil pass0 (pa_cons (pv 6) (pa_cons (pv 7) pa_nil)))) <|
      pss_one (ps_dput (units1L hr) (pv 5) (pv 8) (pe_op op_add (pe_dget2 (units1L hr) (pv 5) (pv 8) pe_int ⟨rfl, by rfl, by rfl, by rfl⟩) (pe_dget (units1L hr) (pv 3) (pv 6) (fun _ _ => rfl))) (by rfl))))))) <|
      pss_one (ps_set (i := 3) sc_p_words_with.nd rfl (.inl rfl) (pv 5)))) <|
      pss_one (ps_ret (pe_dget2 (units1L hr) (pv 3) (pe_callTy call_tuple_of (by rfl) T.n_tuple (by decide +kernel) (pa_cons (pv 0) pa_nil)) pe_int ⟨rfl, by rfl, by rfl, by rfl⟩)), ?_⟩
    refine ⟨_, rfl, a, f, 2, rfl, .inr (.inl (.inl ha)), hl, ?_⟩
    refine st_set [some (.ref a), some (.int (m : Nat)), some (.int ((2 : Nat) : Int)), none, none, none, none, none, none] ?_ rfl
    refine ⟨_, rfl, 2, rfl, by decide, ?_⟩
    refine fun aF nF => ⟨_, rfl, 2, rfl, by decide, fun H3 t2 s3 nt2 et2 => ?_⟩
    have sF : Same H (upd H aF (.dT [])) := same_new nF
    have eF3 : H3 aF = some (.dT []) := s3 _ _ upd_same
    refine ⟨eF3, t2, ky (fS 0), rfl, by rw [ky_kV]; exact et2, ?_⟩
    have eFF : upd H3 aF (.dT [(ky (fS 0), V.int 1)]) aF = some (.dT (kS 0)) := upd_same
    have sFF : Same H (upd H3 aF (.dT [(ky (fS 0), V.int 1)])) := fun z o h => by
      rw [upd_ne (ne_of_none h nF)]; exact s3 _ _ (sF _ _ h)
    clear eF3 et2 nt2 s3 sF
    revert eFF sFF
    generalize upd H3 aF (.dT [(ky (fS 0), V.int 1)]) = H4
    intro eFF sFF
    refine st_set [some (.ref a), some (.int (m : Nat)), some (.int ((2 : Nat) : Int)), some (.ref aF), none, none, none, none, none] ?_ rfl
    refine ⟨_, rfl, _, rfl, by omega, by omega, ?_⟩
    refine for_range (n := m) (fun i σ J => Same H J ∧ ∃ (aC : Addr) (y4 y5 y6 y7 y8 : Option V), σ = [some (.ref a), some (.int (m : Nat)), some (.int ((2 : Nat) : Int)), some (.ref aC), y4, y5, y6, y7, y8] ∧ H aC = none ∧ J aC = some (.dT (kS i))) ⟨sFF, aF, none, none, none, none, none, rfl, nF, eFF⟩ (fun i σ J hi h => ?_) (fun σ J h => ?_)
    · obtain ⟨sJ, aC, y4, y5, y6, y7, y8, rfl, nC, eC⟩ := h
      clear eFF sFF nF
      refine st_set [some (.ref a), some (.int (m : Nat)), some (.int ((2 : Nat) : Int)), some (.ref aC), some (.int ((0 : Int) + (i : Nat))), y5, y6, y7, y8] ?_ rfl
      refine fun aG nG => ?_
      have sG : Same J (upd J aG (.dT [])) := same_new nG
      have nG0 : H aG = none := sJ.free nG
      have CG : aC ≠ aG := ne_of_none eC nG
      have eG : upd J aG (.dT []) aG = some (.dT (kG i 0)) := upd_same
      replace sJ := sJ.trans sG
      replace eC := sG _ _ eC
      clear sG nG
      revert sJ eC eG
      generalize upd J aG (.dT []) = J1
      intro eG sJ eC
      refine st_set [some (.ref a), some (.int (m : Nat)), some (.int ((2 : Nat) : Int)), some (.ref aC), some (.int ((0 : Int) + (i : Nat))), some (.ref aG), y6, y7, y8] ?_ rfl
      refine ⟨aC, _, eC, trivial, fun od => ?_⟩
      have eCL : (upd J1 aC (.frz od (.dT (kS i)))) aC = some (.frz od (.dT (kS i))) := upd_same
      have kL : ∀ z o, z ≠ aC → z ≠ aG → J1 z = some o → (upd J1 aC (.frz od (.dT (kS i)))) z = some o := fun z o h _ e => by rw [upd_ne h]; exact e
      have eGL : (upd J1 aC (.frz od (.dT (kS i)))) aG = some (.dT (kG i 0)) := by rw [upd_ne CG.symm]; exact eG
      refine ⟨_, rfl, aC, od, rfl, .inr ⟨_, eCL, ?_⟩⟩
      revert eCL kL eGL
      generalize upd J1 aC (.frz od (.dT (kS i))) = HL
      intro eCL kL eGL
      refine for_it walk_keysT (fun j σ J => J aC = some (.frz od (.dT (kS i))) ∧ (∀ z o, z ≠ aC → z ≠ aG → J1 z = some o → J z = some o) ∧ J aG = some (.dT (kG i j)) ∧ ∃ (y6 y7 y8 : Option V), σ = [some (.ref a), some (.int (m : Nat)), some (.int ((2 : Nat) : Int)), some (.ref aC), some (.int ((0 : Int) + (i : Nat))), some (.ref aG), y6, y7, y8])
        ⟨eCL, kL, eGL, y6, y7, y8, rfl⟩ (fun j σ J _ h => h.1) (fun j x σ J0 J hj h y => ?_) (fun σ J h => ?_)
      · clear eCL kL eGL eG eC
        obtain ⟨eC, kL, eG, y6, y7, y8, rfl⟩ := h
        obtain ⟨rfl, kk, vv, q0, ek, rfl, eq0⟩ := y
        obtain rfl : j = 0 := by have : (kS i).length = 1 := rfl; omega
        cases ek
        have eqt : J q0 = some (.tup (nv (fS i))) := by rw [eq0, ky_kV]
        refine st_set [some (.ref a), some (.int (m : Nat)), some (.int ((2 : Nat) : Int)), some (.ref aC), some (.int ((0 : Int) + (i : Nat))), some (.ref aG), some (.ref q0), y7, y8] ?_ rfl
        refine ⟨_, rfl, 2, rfl, by decide, fun J4 aK cs s4 nK eK hK => ?_⟩
        have KG : aK ≠ aG := fun z => by rw [z, eG] at nK; cases nK
        have qG : q0 ≠ aG := fun z => by rw [z, eG] at eq0; cases eq0
        have qC : q0 ≠ aC := fun z => by rw [z, eC] at eq0; cases eq0
        have hcl : cs.length = 1 := hK.length
        refine ⟨aK, rfl, ⟨_, .inl (.inl eK)⟩, for_list (xs := cs.map V.ref) (fun l σ J => J aC = some (.frz od (.dT (kS i))) ∧ (∀ z o, z ≠ aC → z ≠ aG → J1 z = some o → J z = some o) ∧ J aG = some (.dT (kG i l)) ∧ J q0 = some (.tup ((ky (fS i)).map kV)) ∧ J aK = some (.lst (cs.map V.ref)) ∧ Prs J cs (allC 2 2) ∧ ∃ (y7 y8 : Option V), σ = [some (.ref a), some (.int (m : Nat)), some (.int ((2 : Nat) : Int)), some (.ref aC), some (.int ((0 : Int) + (i : Nat))), some (.ref aG), some (.ref q0), y7, y8])
          ⟨s4 _ _ eC, fun z o h1 h2 e => s4 _ _ (kL z o h1 h2 e), s4 _ _ eG, s4 _ _ eq0, eK, hK, y7, y8, rfl⟩ (fun l σ J _ h => .inl (.inl h.2.2.2.2.1)) (fun l x σ J hx h => ?_) (fun σ J h => ?_)⟩
        · clear eC kL eG eq0 eqt eK hK s4 nK
          obtain ⟨eC, kL, eG, eq0, eK, hK, y7, y8, rfl⟩ := h
          have hl1 : l = 0 := by have := (List.getElem?_eq_some_iff.mp hx).1; rw [List.length_map] at this; omega
          subst hl1
          rw [List.getElem?_map] at hx
          obtain ⟨c, ec, rfl⟩ := Option.map_eq_some_iff.mp hx
          obtain ⟨p, ep, hp⟩ := prs_get hK ec
          obtain rfl : (0, 1) = p := Option.some.inj ep
          have eqt : J q0 = some (.tup (nv (fS i))) := by rw [eq0, ky_kV]
          refine st_set [some (.ref a), some (.int (m : Nat)), some (.int ((2 : Nat) : Int)), some (.ref aC), some (.int ((0 : Int) + (i : Nat))), some (.ref aG), some (.ref q0), some (.ref c), y8] ?_ rfl
          refine ⟨_, rfl, _, rfl, q0, c, fS i, 0, 1, 2, rfl, .inr (.inl (.inl eqt)), fS_pair i, .inr (.inl (.inl hp)), by decide, by decide, by decide, fun J6 tt s6 ntt ett => ?_⟩
          rw [show jn (fS i) (2 + 0) (2 + 1) = fS (i + 1) from fS_jn i] at ett
          replace eC := s6 _ _ eC
          replace eG := s6 _ _ eG
          replace eq0 := s6 _ _ eq0
          replace eK := s6 _ _ eK
          replace hK := prs_same s6 hK
          replace kL := fun z o h1 h2 e => s6 _ _ (kL z o h1 h2 e)
          have ek : J6 tt = some (.tup ((ky (fS (i + 1))).map kV)) := by rw [ky_kV]; exact ett
          refine st_set [some (.ref a), some (.int (m : Nat)), some (.int ((2 : Nat) : Int)), some (.ref aC), some (.int ((0 : Int) + (i : Nat))), some (.ref aG), some (.ref q0), some (.ref c), some (.ref tt)] ?_ rfl
          refine ⟨_, rfl, aG, rfl, .inr ⟨_, .inl eG⟩, _, rfl, _, DGet.t eG ek, ?_⟩
          have gC : DGet J6 aC (.ref q0) (some (V.int 1)) := by
            exact .inr ⟨kS i, ky (fS i), q0, .inr ⟨od, eC⟩, rfl, eq0, by unfold valV; simp⟩
          refine ⟨_, rfl, _, rfl, aC, _, rfl, gC, 0, 1, rfl, rfl, ?_⟩
          refine ⟨_, rfl, _, rfl, aG, _, rfl, DPut.t eG ek (by show 0 < sizeLine; decide), ?_⟩
          have KG2 := KG
          refine ⟨by rw [upd_ne CG]; exact eC, fun z o h1 h2 e => by rw [upd_ne h2]; exact kL z o h1 h2 e, upd_same, by rw [upd_ne qG]; exact eq0, by rw [upd_ne KG]; exact eK, prs_mv (fun z vs e => by rw [upd_ne (fun y => by rw [y, eG] at e; cases e)]; exact e) hK, _, _, rfl⟩
        · obtain ⟨eC, kL, eG, eq0, eK, hK, y7, y8, rfl⟩ := h
          rw [List.length_map, hcl] at eG
          exact ⟨eC, kL, eG, _, _, _, rfl⟩
      · obtain ⟨eC, kL, eG, y6, y7, y8, rfl⟩ := h
        refine ⟨eC, ?_⟩
        have hs : Same H (upd J aC (.dT (kS i))) := fun z o h => by
          have h1 : z ≠ aC := fun y => by rw [y, nC] at h; cases h
          have h2 : z ≠ aG := fun y => by rw [y, nG0] at h; cases h
          rw [upd_ne h1]; exact kL z o h1 h2 (sJ _ _ h)
        refine ⟨_, rfl, ?_⟩
        refine st_set [some (.ref a), some (.int (m : Nat)), some (.int ((2 : Nat) : Int)), some (.ref aG), some (.int ((0 : Int) + (i : Nat))), some (.ref aG), y6, y7, y8] ?_ rfl
        exact ⟨hs, aG, _, _, _, _, _, rfl, nG0, by rw [upd_ne CG.symm]; exact eG⟩
    · obtain ⟨sJ, aC, y4, y5, y6, y7, y8, rfl, nC, eC⟩ := h
      refine ⟨_, rfl, aC, rfl, .inr ⟨_, .inl eC⟩, _, rfl, a, _, rfl, .inr ⟨.inl (.inl (sJ _ _ ha)), ?_⟩⟩
      exact ⟨_, DGet.t eC (show J a = some (.tup ((ky f).map kV)) by rw [ky_kV]; exact sJ _ _ ha), q J sJ⟩
end
end Pc
namespace Pc
open PySem PySem.Spec PyProof.Rows L2 RZ
section
variable {P : Program} {w : World} {K : PySem.W.Frag} {mg : Str → Option Value} {base : Heap}
/-! ### what is asked: few people -/
def spAskV0 : Sp := fun vs H Q _ => ∃ (a : Addr) (f : List Nat) (n : Nat), vs = [.int 0, .ref a] ∧ H a = some (.tup (nv f)) ∧ f.length = 2 * n ∧ n ∈ w24 ∧ ∀ H', Same H H' → Q (.int ((WB n).length : Nat)) H'
def spAskV1 : Sp := fun vs H Q _ => ∃ (a : Addr) (f : List Nat) (n : Nat), vs = [.int 1, .ref a] ∧ H a = some (.tup (nv f)) ∧ f.length = 2 * n ∧ n ∈ w24 ∧ ∀ (H' : Hp) (v : V), Same H H' →
  ((∃ (w : List (Nat × Nat)) (p : Addr) (bs : List Addr), (f, w) ∈ WB n ∧ v = .ref p ∧ H' p = some (.lst (bs.map V.ref)) ∧ Prs H' bs w) ∨ (f ∉ (WB n).map (·.1) ∧ v = .non)) → Q v H'
def spAskX : Sp := fun vs H Q _ => ∃ (d : Nat) (a : Addr) (f : List Nat) (n : Nat), vs = [.int (d : Nat), .ref a] ∧ d < 3 ∧ H a = some (.tup (nv f)) ∧ f.length = 2 * n ∧ 4 < n ∧ ∀ (H' : Hp) (t : Addr), Same H H' → H' t = some (.tup [.str "many", .int (n : Nat)]) → Q (.ref t) H'
theorem ok_asked (T : Env K mg) : FnOk P w K mg base CX0 8 T.f_asked T.d_asked ["_law_door", "_law_page"] (fun vs H Q E => spAskV0 vs H Q E ∨ spAskV1 vs H Q E) := by
  have GA : FnOk P w K mg base CX0 7 T.f_p_all_sheets T.d_p_all_sheets ["size"] spAllSh := ok_p_all_sheets T
  have GF : FnOk P w K mg base CX0 7 T.f_p_first_word T.d_p_first_word ["sheet"] spFirstW := ok_p_first_word T
  have GW : FnOk P w K mg base CX0 7 T.f_p_words_with T.d_p_words_with ["sheet", "many"] spWords2 := ok_p_words_with T
  refine T.F_asked.ok sc_asked (fun vs H Q E h => ?_) (fun cdv A outer s H vs Q E hr h => ?_)
  · rcases h with ⟨a, f, n, rfl, _⟩ | ⟨a, f, n, rfl, _⟩ <;> rfl
  ·
    refine ⟨_, pss_cons (ps_asg (pe_tup (pa_cons pe_non (pa_cons pe_non pa_nil))) (pg_tup rfl (pgs_cons (pg_name (i := 2) sc_asked.nd rfl (.inl rfl)) (pgs_cons (pg_name (i := 3) sc_asked.nd rfl (.inl rfl)) (pgs_nil))))) <|
      pss_cons (ps_try_kept (i := 4) (cs := [.ref T.C_NoWord, .ref T.C_OtherSize, .ref T.C_TooMany]) (ts := fun _ => tNever) rfl rfl rfl sc_asked.nd rfl rfl (.cons ⟨_, _, rfl, by rfl, by decide, .inl T.gC_NoWord⟩ (.cons ⟨_, _, rfl, by rfl, by decide, .inl T.gC_OtherSize⟩ (.cons ⟨_, _, rfl, by rfl, by decide, .inl T.gC_TooMany⟩ (.nil)))) (by show 3 ≤ 1000; decide)
        (fun W pn xe tk _ => pss_one (ps_if (pt_cmpR op_eq (pv 0) pe_int (nomark _)) (pss_one (ps_set (i := 2) sc_asked.nd rfl (.inl rfl) (pe_callB (r := fun xs H Q => ∃ p ys, xs = [V.ref p] ∧ (SqL K H p ys ∨ SqT K H p ys) ∧ Q (V.int (ys.length : Int)) H) call_len_seq (by rfl) T.n_len PySem.boot_len (pa_cons (pe_call GA hr (by rfl) T.g_p_all_sheets T.F_p_all_sheets.kp T.b_p_all_sheets .nil pass0 (pa_cons (pe_op op_fdiv (pe_callB (r := fun xs H Q => ∃ p ys, xs = [V.ref p] ∧ (SqL K H p ys ∨ SqT K H p ys) ∧ Q (V.int (ys.length : Int)) H) call_len_seq (by rfl) T.n_len PySem.boot_len (pa_cons (pv 1) pa_nil)) pe_int) pa_nil)) pa_nil)))) (pss_one (ps_set (i := 2) sc_asked.nd rfl (.inl rfl) (pe_ifExp (pt_cmpR op_eq (pv 0) pe_int (nomark _)) (pe_call GF hr (by rfl) T.g_p_first_word T.F_p_first_word.kp T.b_p_first_word .nil pass0 (pa_cons (pv 1) pa_nil)) (pe_call GW hr (by rfl) T.g_p_words_with T.F_p_words_with.kp T.b_p_words_with .nil pass0 (pa_cons (pv 1) (pa_cons pe_int pa_nil))))))))
        (fun a oe pn => pss_never)) <|
      pss_cons (ps_if (pt_cmpR op_isN (pv 3) pe_non (nomark _)) (pss_one (ps_ret (pv 2))) pss_nil) <|
      pss_one (ps_ret (pe_ifExp (PW.pt (pw_and (pt_val (pe_callB call_isk (by rfl) T.n_isinstance (by decide +kernel) (pa_cons (pv 3) (pa_cons (pe_glob (v := .ref T.C_TooMany) (by rfl) T.gC_TooMany rfl) pa_nil)))) (pw_and1 (pt_val (pe_callB call_isk (by rfl) T.n_isinstance (by decide +kernel) (pa_cons (pv 3) (pa_cons (pe_bltn (v := .ty "OverflowError") (by rfl) T.n_OverflowError (by decide +kernel) rfl) pa_nil))))))) (pe_tup (pa_cons pe_str (pa_cons (pe_kf (pv 3)) pa_nil))) pe_str)), ?_⟩
    rcases h with ⟨a, f, n, rfl, ha, hl, hn, q⟩ | ⟨a, f, n, rfl, ha, hl, hn, q⟩
    have hlf : (((nv f).length : Int) / 2) = ((n : Nat) : Int) := by rw [nv_length, hl]; omega
    refine ⟨by show 2 ≤ sizeLine; decide, fun t0 nt0 => ⟨t0, _, rfl, .inl (.inl upd_same), rfl, _, _, rfl, _, _, rfl, rfl, ?_⟩⟩
    have s0 : Same H (upd H t0 (.tup [.non, .non])) := same_new nt0
    revert s0
    generalize upd H t0 (.tup [.non, .non]) = H0
    intro s0
    replace ha := s0 _ _ ha
    refine st_eq (t := tSeq _ _) [some (.int 0), some (.ref a), some .non, some .non, none] ?_ rfl
    refine ⟨_, rfl, rfl, _, rfl, iteY rfl ?_⟩
    refine ⟨_, rfl, a, _, rfl, .inr (.inl (.inl ha)), _, 2, rfl, rfl, ⟨by decide, by decide⟩, n, congrArg (fun z => [V.int z]) hlf, hn, fun H1 p ys s1 np ep hyl => ?_⟩
    refine ⟨p, _, rfl, .inl (.inl (.inl ep)), ?_⟩
    rw [hyl]
    refine st_set [some (.int 0), some (.ref a), some (.int ((WB n).length : Nat)), some .non, none] ?_ rfl
    exact ⟨_, rfl, rfl, _, rfl, iteY rfl ⟨_, rfl, q H1 (s0.trans s1)⟩⟩
    refine ⟨by show 2 ≤ sizeLine; decide, fun t0 nt0 => ⟨t0, _, rfl, .inl (.inl upd_same), rfl, _, _, rfl, _, _, rfl, rfl, ?_⟩⟩
    have s0 : Same H (upd H t0 (.tup [.non, .non])) := same_new nt0
    revert s0
    generalize upd H t0 (.tup [.non, .non]) = H0
    intro s0
    replace ha := s0 _ _ ha
    refine st_eq (t := tSeq _ _) [some (.int 1), some (.ref a), some .non, some .non, none] ?_ rfl
    refine ⟨_, rfl, rfl, _, rfl, iteX rfl ?_⟩
    refine ⟨_, rfl, rfl, _, rfl, iteY rfl ?_⟩
    refine ⟨_, rfl, a, f, n, rfl, ha, hl, hn, fun H1 v s1 hv => ?_⟩
    refine st_set [some (.int 1), some (.ref a), some v, some .non, none] ?_ rfl
    exact ⟨_, rfl, rfl, _, rfl, iteY rfl ⟨_, rfl, q H1 v (s0.trans s1) hv⟩⟩
end
end Pc
namespace Pc
open PySem PySem.Spec PyProof.Rows L2 RZ
section
variable {P : Program} {w : World} {K : PySem.W.Frag} {mg : Str → Option Value} {base : Heap}
/-! ### what is asked: many people -/
theorem okx_asked (T : Env K mg) : FnOk P w K mg base CX0 8 T.f_asked T.d_asked ["_law_door", "_law_page"] spAskX := by

  have GA : FnOk P w K mg base (L2.CX P w) 7 T.f_p_all_sheets T.d_p_all_sheets ["size"] (spFewMX T.C_TooMany) := okx_p_all_sheets T
  have GF : FnOk P w K mg base (L2.CX P w) 7 T.f_p_first_word T.d_p_first_word ["sheet"] (spPageMX T.C_TooMany) := okx_p_first_word T
  have GW : FnOk P w K mg base (L2.CX P w) 7 T.f_p_words_with T.d_p_words_with ["sheet", "many"] (spManyMX T.C_TooMany) := okx_p_words_with T
  refine T.F_asked.ok sc_asked (fun vs H Q E h => ?_) (fun cdv A outer s H vs Q E hr h => ?_)
  · obtain ⟨d, a, f, n, rfl, _⟩ := h
    rfl
  · obtain ⟨d, a, f, n, rfl, hd, ha, hl, hn, q⟩ := h

    refine ⟨_, pss_cons (ps_asg (pe_tup (pa_cons pe_non (pa_cons pe_non pa_nil))) (pg_tup rfl (pgs_cons (pg_name (i := 2) sc_asked.nd rfl (.inl rfl)) (pgs_cons (pg_name (i := 3) sc_asked.nd rfl (.inl rfl)) (pgs_nil))))) <|
      pss_cons (ps_try_kept (i := 4) (cs := [.ref T.C_NoWord, .ref T.C_OtherSize, .ref T.C_TooMany]) rfl rfl rfl sc_asked.nd rfl rfl (.cons ⟨_, _, rfl, by rfl, by decide, .inl T.gC_NoWord⟩ (.cons ⟨_, _, rfl, by rfl, by decide, .inl T.gC_OtherSize⟩ (.cons ⟨_, _, rfl, by rfl, by decide, .inl T.gC_TooMany⟩ (.nil)))) (by show 3 ≤ 1000; decide)
        (fun W pn xe tk _ => pss_one (ps_if (pt_cmpR op_eq (pv 0) pe_int (nomark _)) (pss_one (ps_set (i := 2) sc_asked.nd rfl (.inl rfl) (pe_callB (r := fun xs H Q => ∃ p ys, xs = [V.ref p] ∧ (SqL K H p ys ∨ SqT K H p ys) ∧ Q (V.int (ys.length : Int)) H) call_len_seq (by rfl) T.n_len PySem.boot_len (pa_cons (pe_callS GA hr (by rfl) T.g_p_all_sheets T.F_p_all_sheets.kp T.b_p_all_sheets (fun σ => passAt tk σ) (pa_cons (pe_op op_fdiv (pe_callB (r := fun xs H Q => ∃ p ys, xs = [V.ref p] ∧ (SqL K H p ys ∨ SqT K H p ys) ∧ Q (V.int (ys.length : Int)) H) call_len_seq (by rfl) T.n_len PySem.boot_len (pa_cons (pv 1) pa_nil)) pe_int) pa_nil)) pa_nil)))) (pss_one (ps_set (i := 2) sc_asked.nd rfl (.inl rfl) (pe_ifExp (pt_cmpR op_eq (pv 0) pe_int (nomark _)) (pe_callS GF hr (by rfl) T.g_p_first_word T.F_p_first_word.kp T.b_p_first_word (fun σ => passAt tk σ) (pa_cons (pv 1) pa_nil)) (pe_callS GW hr (by rfl) T.g_p_words_with T.F_p_words_with.kp T.b_p_words_with (fun σ => passAt tk σ) (pa_cons (pv 1) (pa_cons pe_int pa_nil))))))))
        (fun a oe pn => pss_one (ps_set (i := 3) sc_asked.nd rfl (.inl rfl) (pv 4)))) <|
      pss_cons (ps_if (pt_cmpR op_isN (pv 3) pe_non (nomark _)) (pss_one (ps_ret (pv 2))) pss_nil) <|
      pss_one (ps_ret (pe_ifExp (PW.pt (pw_and (pt_val (pe_callB call_isk (by rfl) T.n_isinstance (by decide +kernel) (pa_cons (pv 3) (pa_cons (pe_glob (v := .ref T.C_TooMany) (by rfl) T.gC_TooMany rfl) pa_nil)))) (pw_and1 (pt_val (pe_callB call_isk (by rfl) T.n_isinstance (by decide +kernel) (pa_cons (pv 3) (pa_cons (pe_bltn (v := .ty "OverflowError") (by rfl) T.n_OverflowError (by decide +kernel) rfl) pa_nil))))))) (pe_tup (pa_cons pe_str (pa_cons (pe_kf (pv 3)) pa_nil))) pe_str)), ?_⟩
    have hlf : (((nv f).length : Int) / 2) = ((n : Nat) : Int) := by rw [nv_length, hl]; omega
    refine ⟨by show 2 ≤ sizeLine; decide, fun t0 nt0 => ⟨t0, _, rfl, .inl (.inl upd_same), rfl, _, _, rfl, _, _, rfl, rfl, ?_⟩⟩
    have s0 : Same H (upd H t0 (.tup [.non, .non])) := same_new nt0
    revert s0
    generalize upd H t0 (.tup [.non, .non]) = H0
    intro s0
    replace ha := s0 _ _ ha
    refine st_eq (t := tSeq _ _) [some (.int (d : Nat)), some (.ref a), some .non, some .non, none] ?_ rfl
    rcases (show d = 0 ∨ d = 1 ∨ d = 2 by omega) with rfl | rfl | rfl
    rotate_left
    · refine ⟨_, rfl, rfl, _, rfl, iteX rfl ⟨_, rfl, rfl, _, rfl, iteY rfl ?_⟩⟩
      refine ⟨_, rfl, a, f, n, rfl, ha, hl, hn, ?_⟩
      refine kept1 (hits_of [false, false, true] rfl (.cons T.ex_TooMany_NoWord (.cons T.ex_TooMany_OtherSize (.cons T.ee_TooMany .nil)))) fun d1 H2 x3 s4 n5 ed6 n7 ne8 => ⟨_, rfl, ?_⟩
      have hK : Kept (upd H2 x3 (exk x3 (.ref T.C_TooMany) (some d1))) x3 T.C_TooMany (some d1) := .mk1 ed6 n7
      have sH : Same H (upd H2 x3 (exk x3 (.ref T.C_TooMany) (some d1))) := s0.trans (s4.trans (same_new n7))
      replace ed6 : upd H2 x3 (exk x3 (.ref T.C_TooMany) (some d1)) d1 = _ := same_new n7 _ _ ed6
      refine st_set [some (.int ((1 : Nat) : Int)), some (.ref a), some .non, some (.ref x3), some (.ref x3)] ?_ rfl
      refine st_kept [some (.int ((1 : Nat) : Int)), some (.ref a), some .non, some (.ref x3), none] ?_ rfl
      refine ⟨_, rfl, rfl, _, rfl, iteX (decide_eq_false (fun y => by cases y)) ?_⟩
      refine ⟨_, rfl, x3, _, _, _, _, _, rfl, hK, T.kpt_TooMany, .own _, T.kk_TooMany, _, rfl, iteY rfl ?_⟩
      refine ⟨_, rfl, x3, _, _, _, _, _, rfl, hK, T.kpt_TooMany, .ty _, T.kb_TooMany_OverflowError, _, rfl, iteY rfl ?_⟩
      exact ⟨_, rfl, x3, _, _, _, _, rfl, hK.1, T.kpt_TooMany, T.no_TooMany, ed6, rfl, by show 2 ≤ sizeLine; decide, fun tz nz => q _ tz (sH.trans (same_new nz)) upd_same⟩
    · refine ⟨_, rfl, rfl, _, rfl, iteX rfl ⟨_, rfl, rfl, _, rfl, iteX rfl ?_⟩⟩
      refine ⟨_, rfl, a, f, n, _, rfl, ha, hl, hn, ?_⟩
      refine kept1 (hits_of [false, false, true] rfl (.cons T.ex_TooMany_NoWord (.cons T.ex_TooMany_OtherSize (.cons T.ee_TooMany .nil)))) fun d1 H2 x3 s4 n5 ed6 n7 ne8 => ⟨_, rfl, ?_⟩
      have hK : Kept (upd H2 x3 (exk x3 (.ref T.C_TooMany) (some d1))) x3 T.C_TooMany (some d1) := .mk1 ed6 n7
      have sH : Same H (upd H2 x3 (exk x3 (.ref T.C_TooMany) (some d1))) := s0.trans (s4.trans (same_new n7))
      replace ed6 : upd H2 x3 (exk x3 (.ref T.C_TooMany) (some d1)) d1 = _ := same_new n7 _ _ ed6
      refine st_set [some (.int ((2 : Nat) : Int)), some (.ref a), some .non, some (.ref x3), some (.ref x3)] ?_ rfl
      refine st_kept [some (.int ((2 : Nat) : Int)), some (.ref a), some .non, some (.ref x3), none] ?_ rfl
      refine ⟨_, rfl, rfl, _, rfl, iteX (decide_eq_false (fun y => by cases y)) ?_⟩
      refine ⟨_, rfl, x3, _, _, _, _, _, rfl, hK, T.kpt_TooMany, .own _, T.kk_TooMany, _, rfl, iteY rfl ?_⟩
      refine ⟨_, rfl, x3, _, _, _, _, _, rfl, hK, T.kpt_TooMany, .ty _, T.kb_TooMany_OverflowError, _, rfl, iteY rfl ?_⟩
      exact ⟨_, rfl, x3, _, _, _, _, rfl, hK.1, T.kpt_TooMany, T.no_TooMany, ed6, rfl, by show 2 ≤ sizeLine; decide, fun tz nz => q _ tz (sH.trans (same_new nz)) upd_same⟩
    · refine ⟨_, rfl, rfl, _, rfl, iteY rfl ?_⟩
      refine ⟨_, rfl, a, _, rfl, .inr (.inl (.inl ha)), _, 2, rfl, rfl, ⟨by decide, by decide⟩, n, congrArg (fun z => [V.int z]) hlf, hn, ?_⟩
      refine kept1 (hits_of [false, false, true] rfl (.cons T.ex_TooMany_NoWord (.cons T.ex_TooMany_OtherSize (.cons T.ee_TooMany .nil)))) fun d1 H2 x3 s4 n5 ed6 n7 ne8 => ⟨_, rfl, ?_⟩
      have hK : Kept (upd H2 x3 (exk x3 (.ref T.C_TooMany) (some d1))) x3 T.C_TooMany (some d1) := .mk1 ed6 n7
      have sH : Same H (upd H2 x3 (exk x3 (.ref T.C_TooMany) (some d1))) := s0.trans (s4.trans (same_new n7))
      replace ed6 : upd H2 x3 (exk x3 (.ref T.C_TooMany) (some d1)) d1 = _ := same_new n7 _ _ ed6
      refine st_set [some (.int ((0 : Nat) : Int)), some (.ref a), some .non, some (.ref x3), some (.ref x3)] ?_ rfl
      refine st_kept [some (.int ((0 : Nat) : Int)), some (.ref a), some .non, some (.ref x3), none] ?_ rfl
      refine ⟨_, rfl, rfl, _, rfl, iteX (decide_eq_false (fun y => by cases y)) ?_⟩
      refine ⟨_, rfl, x3, _, _, _, _, _, rfl, hK, T.kpt_TooMany, .own _, T.kk_TooMany, _, rfl, iteY rfl ?_⟩
      refine ⟨_, rfl, x3, _, _, _, _, _, rfl, hK, T.kpt_TooMany, .ty _, T.kb_TooMany_OverflowError, _, rfl, iteY rfl ?_⟩
      exact ⟨_, rfl, x3, _, _, _, _, rfl, hK.1, T.kpt_TooMany, T.no_TooMany, ed6, rfl, by show 2 ≤ sizeLine; decide, fun tz nz => q _ tz (sH.trans (same_new nz)) upd_same⟩
end
end Pc
namespace Pc
open PySem PySem.Spec PyProof.Rows L2 RZ
/-! ### the heap without some objects -/
open Classical in
noncomputable def off (S : Addr → Prop) (H : Hp) : Hp := fun a => if S a then none else H a
theorem off_le {S : Addr → Prop} {H : Hp} : Same (off S H) H := fun a o h => by
  unfold off at h
  by_cases e : S a
  · rw [if_pos e] at h; cases h
  · rw [if_neg e] at h; exact h
theorem off_keep {S : Addr → Prop} {b : Addr} {H H' : Hp} (hb : S b) (k : Keep b H H') : Same (off S H) (off S H') := fun a o h => by
  unfold off at h ⊢
  by_cases e : S a
  · rw [if_pos e] at h; cases h
  · rw [if_neg e] at h ⊢; exact k a o (fun z => e (z ▸ hb)) h
theorem off_same {S : Addr → Prop} {H H' : Hp} (s : Same H H') : Same (off S H) (off S H') := fun a o h => by
  unfold off at h ⊢
  by_cases e : S a
  · rw [if_pos e] at h; cases h
  · rw [if_neg e] at h ⊢; exact s a o h
theorem off_get {S : Addr → Prop} {a : Addr} {H : Hp} {o : HO} (h : ¬ S a) (e : H a = some o) : off S H a = some o := by
  unfold off; rw [if_neg h]; exact e
theorem off_more {S S' : Addr → Prop} {H : Hp} (h : ∀ a, S a → S' a) : Same (off S' H) (off S H) := fun a o e => by
  unfold off at e ⊢
  by_cases z : S' a
  · rw [if_pos z] at e; cases e
  · rw [if_neg z] at e; rw [if_neg (fun y => z (h a y))]; exact e
/-- all of S is there -/
def Has (S : Addr → Prop) (H : Hp) : Prop := ∀ a, S a → ∃ o, H a = some o
theorem Has.same {S : Addr → Prop} {H H' : Hp} (h : Has S H) (s : Same H H') : Has S H' := fun a ha => let ⟨o, e⟩ := h a ha; ⟨o, s _ _ e⟩
theorem Has.new {S : Addr → Prop} {H : Hp} {p : Addr} (h : Has S H) (np : H p = none) : ¬ S p := fun z => by
  obtain ⟨o, e⟩ := h p z
  rw [np] at e; cases e
/-! ### data that is written out -/
def tD (K : PySem.W.Frag) (S : Addr → Prop) (d : PyData) : TE := fun _ H Q => Has S H ∧ ∀ v H', Same H H' → Dp K (off S H') v d → Q v H'
def tDs (K : PySem.W.Frag) (S : Addr → Prop) (ds : List PyData) : TA := fun _ H Q => Has S H ∧ ∀ vs H', Same H H' → DpAll K (off S H') vs ds → Q vs H'
section
variable {X : Cx} {S : Addr → Prop}
theorem pd_of {e : Expr} {t : TE} {v : V} {d : PyData} (h : PE X e t) (ht : ∀ σ H (Q : VK), Q v H → t σ H Q) (hd : ∀ H, Dp X.K H v d) : PE X e (tD X.K S d) := ⟨fun pins s σ H Q I q => h.run pins s σ H Q I (ht σ H Q (q.2 _ _ (fun _ _ z => z) (hd _)))⟩
theorem pd_int {i : Int} {j pos} : PE X (.Constant (.int i) j pos) (tD X.K S (.int i)) := pd_of pe_int (fun _ _ _ q => q) fun _ => .int i
theorem pd_bl {i : Bool} {j pos} : PE X (.Constant (.bool i) j pos) (tD X.K S (.bool i)) := pd_of pe_bl (fun _ _ _ q => q) fun _ => .bl i
theorem pd_non {j pos} : PE X (.Constant .none j pos) (tD X.K S .none) := pd_of pe_non (fun _ _ _ q => q) fun _ => .non
theorem pd_str {x : Str} {j pos} : PE X (.Constant (.str x) j pos) (tD X.K S (.str x)) := pd_of pe_str (fun _ _ _ q => q) fun _ => .str x
theorem pd_nil : PA X [] (tDs X.K S []) := ⟨fun pos pins s σ H Q I h => pa_nil.run pos pins s σ H Q I (h.2 _ _ (fun _ _ z => z) .nil)⟩
theorem pd_cons {e : Expr} {es : List Expr} {d : PyData} {ds : List PyData} (ha : PE X e (tD X.K S d)) (hr : PA X es (tDs X.K S ds)) (hs : starEach (e :: es) X.env = (false, eval e X.env) :: starEach es X.env := by rfl) : PA X (e :: es) (tDs X.K S (d :: ds)) :=
  ⟨fun pos pins s σ H Q I h => (pa_cons ha hr hs).run pos pins s σ H Q I ⟨h.1, fun v H1 s1 d1 => ⟨h.1.same s1, fun vs H2 s2 d2 => h.2 (v :: vs) H2 (s1.trans s2) (.cons (dp_same (off_same s2) d1) d2)⟩⟩⟩
theorem pd_tup {es : List Expr} {ds : List PyData} {x1} {pos : Pos} (h : PA X es (tDs X.K S ds)) (hl : ds.length ≤ 100000 := by decide) : PE X (.Tuple es x1 pos) (tD X.K S (.tuple ds)) :=
  ⟨fun pins s σ H Q I hq => (pe_tup h).run pins s σ H Q I ⟨hq.1, fun vs H1 s1 d1 => ⟨by rw [dpa_len d1]; exact Nat.le_of_lt (line_big hl), fun p np => hq.2 _ _ (s1.trans (same_new np)) (.tup (.inl (.inl (off_get ((hq.1.same s1).new np) upd_same))) (dpa_same (off_same (same_new np)) d1))⟩⟩⟩
theorem pd_lst {es : List Expr} {ds : List PyData} {pos : Pos} (h : PA X es (tDs X.K S ds)) (hl : ds.length ≤ 100000 := by decide) : PE X (.List es pos) (tD X.K S (.list ds)) :=
  ⟨fun pins s σ H Q I hq => (pe_lst h).run pins s σ H Q I ⟨hq.1, fun vs H1 s1 d1 => ⟨by rw [dpa_len d1]; exact Nat.le_of_lt (line_big hl), fun p np => hq.2 _ _ (s1.trans (same_new np)) (.lst (.inl (.inl (off_get ((hq.1.same s1).new np) upd_same))) (dpa_same (off_same (same_new np)) d1))⟩⟩⟩
end
/-! ### the kinds -/
def tyN : PyData → String
  | .none => "NoneType"
  | .bool _ => "bool"
  | .int _ => "int"
  | .str _ => "str"
  | .list _ => "list"
  | .tuple _ => "tuple"
  | .dict _ => "dict"
theorem dp_ty {K : PySem.W.Frag} {H : Hp} : ∀ {v : V} {d : PyData}, Dp K H v d → TyX K H v (.type (tyN d))
  | _, _, .non => .base .non
  | _, _, .bl b => .base (.bl b)
  | _, _, .int i => .base (.int i)
  | _, _, .str x => .base (.str x)
  | _, _, .lst h _ => ty_lst h
  | _, _, .tup h _ => ty_tup h
def isI : PyData → Bool
  | .int _ | .bool _ => true
  | _ => false
def isB : PyData → Bool
  | .bool _ => true
  | _ => false
def isT : PyData → Bool
  | .tuple _ => true
  | _ => false
def isL : PyData → Bool
  | .list _ => true
  | _ => false
theorem k_int {K : PySem.W.Frag} {H : Hp} {v : V} {d : PyData} (h : Dp K H v d) : PySem.W.kitOne K (.type (tyN d)) (.type "int") = some (isI d) := by
  cases h
  · exact one_none_int
  · exact one_bool_int
  · exact one_int_int
  · exact one_str_int
  · exact one_list_int
  · exact one_tuple_int
theorem k_bool {K : PySem.W.Frag} {H : Hp} {v : V} {d : PyData} (h : Dp K H v d) : PySem.W.kitOne K (.type (tyN d)) (.type "bool") = some (isB d) := by
  cases h
  · exact one_none_bool
  · exact one_bool_bool
  · exact one_int_bool
  · exact one_str_bool
  · exact one_list_bool
  · exact one_tuple_bool
theorem k_tuple {K : PySem.W.Frag} {H : Hp} {v : V} {d : PyData} (h : Dp K H v d) : PySem.W.kitOne K (.type (tyN d)) (.type "tuple") = some (isT d) := by
  cases h
  · exact one_none_tuple
  · exact one_bool_tuple
  · exact one_int_tuple
  · exact one_str_tuple
  · exact one_list_tuple
  · exact one_tuple_tuple
theorem k_list {K : PySem.W.Frag} {H : Hp} {v : V} {d : PyData} (h : Dp K H v d) : PySem.W.kitOne K (.type (tyN d)) (.type "list") = some (isL d) := by
  cases h
  · exact one_none_list
  · exact one_bool_list
  · exact one_int_list
  · exact one_str_list
  · exact one_list_list
  · exact one_tuple_list
theorem k_lt {K : PySem.W.Frag} {H : Hp} {v : V} {d : PyData} (h : Dp K H v d) : PySem.W.kitAny K (.type (tyN d)) [.type "list", .type "tuple"] = some (isL d || isT d) := by
  cases h
  · exact any_lt_none
  · exact any_lt_bool
  · exact any_lt_int
  · exact any_lt_str
  · exact any_lt_list
  · exact any_lt_tuple
/-! ### joined in pairs -/
def belowB (n : Nat) : PyData → Bool
  | .int i => decide (0 ≤ i) && decide (i < (n : Int))
  | _ => false
def natOf : PyData → Nat
  | .int i => i.toNat
  | _ => 0
def pairB (fs : List Nat) (i : Nat) : Bool := !decide (fs.getD i 0 = i) && decide (fs.getD (fs.getD i 0) 0 = i)
def joinB (ds : List PyData) : Bool := ds.all (belowB ds.length) && (List.range ds.length).all (pairB (ds.map natOf))
theorem below_nats {K : PySem.W.Frag} {H : Hp} {n : Nat} : ∀ {vs : List V} {ds : List PyData}, DpAll K H vs ds → ds.all (belowB n) = true → vs = nv (ds.map natOf) ∧ ∀ x ∈ ds.map natOf, x < n
  | _, _, .nil, _ => ⟨rfl, fun x hx => by simp at hx⟩
  | _, _, .cons (d := d) (ds := ds) h r, e => by
    rw [List.all_cons, Bool.and_eq_true] at e
    obtain ⟨e1, e2⟩ := e
    obtain ⟨g1, g2⟩ := below_nats r e2
    cases h with
    | int i =>
      unfold belowB at e1
      rw [Bool.and_eq_true, decide_eq_true_iff, decide_eq_true_iff] at e1
      refine ⟨?_, fun x hx => ?_⟩
      · rw [g1]
        show V.int i :: nv (ds.map natOf) = V.int ((i.toNat : Nat) : Int) :: nv (ds.map natOf)
        rw [show ((i.toNat : Nat) : Int) = i by omega]
      · rcases List.mem_cons.mp (show x ∈ i.toNat :: ds.map natOf from hx) with z | z
        · omega
        · exact g2 x z
    | non => cases e1
    | bl => cases e1
    | str => cases e1
    | lst => cases e1
    | tup => cases e1
def joinD : PyData → Bool
  | .tuple ds => joinB ds
  | _ => false
def isPairB : PyData → Bool
  | .tuple ds => joinB ds && decide (0 < ds.length)
  | _ => false
theorem all_take_bl {α : Type} (f : α → Bool) {l : List α} {i : Nat} {x : α} (h : l[i]? = some x) : ((l.take (i + 1)).map f).map V.bl = ((l.take i).map f).map V.bl ++ [V.bl (f x)] := by
  rw [List.take_add_one, h, List.map_append, List.map_append]
  rfl
end Pc
namespace Pc
open PySem PySem.Spec PyProof.Rows L2 RZ
section
variable {P : Program} {w : World} {K : PySem.W.Frag} {mg : Str → Option Value} {base : Heap}
/-! ### too many people -/
def spRight : Sp := fun vs H Q _ => ∃ (b : Addr) (n : Nat), vs = [.ref b] ∧ Box (n + 4000) H b ∧ ∀ H', Keep b H H' → Box n H' b → Q (.bl true) H'
theorem nv_mem' {L : List Nat} {i : Nat} {x : V} (h : (nv L)[i]? = some x) : ∃ n, n ∈ L ∧ x = V.int (n : Nat) := by
  unfold nv at h
  rw [List.getElem?_map] at h
  obtain ⟨n, e, rfl⟩ := Option.map_eq_some_iff.mp h
  exact ⟨n, List.mem_of_getElem? e, rfl⟩
theorem same0 {H : Hp} : Same (off (fun _ => False) H) H := off_le
theorem WB2_a {w : List (Nat × Nat)} (h : (([2, 3, 0, 1] : List Nat), w) ∈ WB 2) : w = [] := by
  rw [WB_two] at h; simp at h; exact h
theorem WB2_b {w : List (Nat × Nat)} (h : (([1, 0, 3, 2] : List Nat), w) ∈ WB 2) : w = [(0, 1)] := by
  rw [WB_two] at h; simp at h; exact h
theorem WB2_a' : ([2, 3, 0, 1] : List Nat) ∈ (WB 2).map (·.1) := by rw [WB_two]; decide
theorem WB2_b' : ([1, 0, 3, 2] : List Nat) ∈ (WB 2).map (·.1) := by rw [WB_two]; decide
theorem WB2_c' : ([3, 2, 1, 0] : List Nat) ∉ (WB 2).map (·.1) := by rw [WB_two]; decide
theorem ws_a0 : (valV (kS 0) (ky [2, 3, 0, 1])).getD (.int 0) = V.int 1 := rfl
theorem ws_b0 : (valV (kS 0) (ky [1, 0, 3, 2])).getD (.int 0) = V.int 0 := rfl
theorem ws_a1 (k : Nat) : (valV (kS (k + 1)) (ky [2, 3, 0, 1])).getD (.int 0) = V.int 0 := rfl
theorem ws_b1 (k : Nat) : (valV (kS (k + 1)) (ky [1, 0, 3, 2])).getD (.int 0) = V.int 1 := rfl
def FwR (H : Hp) (f : List Nat) (n : Nat) (v : V) : Prop := (∃ (w : List (Nat × Nat)) (p : Addr) (bs : List Addr), (f, w) ∈ WB n ∧ v = .ref p ∧ H p = some (.lst (bs.map V.ref)) ∧ Prs H bs w) ∨ (f ∉ (WB n).map (·.1) ∧ v = .non)
theorem FwR.same {H H' : Hp} {f : List Nat} {n : Nat} {v : V} (h : FwR H f n v) (s : Same H H') : FwR H' f n v := by
  rcases h with ⟨w, p, bs, h1, h2, h3, h4⟩ | h
  · exact .inl ⟨w, p, bs, h1, h2, s _ _ h3, prs_same s h4⟩
  · exact .inr h
theorem FwR.dp {K : PySem.W.Frag} {H : Hp} {f : List Nat} {n : Nat} {v : V} {d : PyData} (h : FwR H f n v) (h1 : ∀ w, (f, w) ∈ WB n → d = .list (w.map pd)) (h2 : f ∉ (WB n).map (·.1) → d = .none) : Dp K H v d := by
  rcases h with ⟨w, p, bs, g1, rfl, g3, g4⟩ | ⟨g1, rfl⟩
  · rw [h1 w g1]; exact .lst (.inl (.inl g3)) (prs_dp g4)
  · rw [h2 g1]; exact .non
theorem FwR.ty {K : PySem.W.Frag} {H : Hp} {f : List Nat} {n : Nat} {v : V} (h : FwR H f n v) : ∃ t, TyX K H v t ∧ PySem.W.kitOne K t (.type "tuple") = some false := by
  rcases h with ⟨w, p, bs, g1, rfl, g3, g4⟩ | ⟨g1, rfl⟩
  · exact ⟨_, dp_ty (.lst (.inl (.inl g3)) (prs_dp g4)), one_list_tuple⟩
  · exact ⟨_, dp_ty (.non), one_none_tuple⟩
theorem dp_many {K : PySem.W.Frag} {H : Hp} {n : Nat} : ∀ {ts : List Addr}, (∀ t ∈ ts, H t = some (.tup [.str "many", .int (n : Nat)])) → DpAll K H (ts.map V.ref) (List.replicate ts.length (.tuple [.str "many", .int (n : Nat)]))
  | [], _ => .nil
  | t :: ts, h => .cons (.tup (.inl (.inl (h t List.mem_cons_self))) (.cons (.str _) (.cons (.int _) .nil))) (dp_many fun t ht => h t (List.mem_cons_of_mem _ ht))
theorem ok_right (T : Env K mg) : FnOk P w K mg base CX0 9 T.f_right T.d_right ["_law_source"] spRight := by
  have GT : FnOk P w K mg base CX0 1 T.f_draw T.d_draw ["_law_source", "_law_bound"] spTake := ok_take T
  have GD : FnOk P w K mg base CX0 3 T.f_random_pairing T.d_random_pairing ["_law_source", "_law_crowd"] spRandom := ok_random T
  have GS : FnOk P w K mg base CX0 4 T.f_same T.d_same ["_law_found", "_law_due"] (spSame K 4) := ok_same T 4
  have GA : FnOk P w K mg base CX0 8 T.f_asked T.d_asked ["_law_door", "_law_page"] (fun vs H Q E => spAskV0 vs H Q E ∨ spAskV1 vs H Q E) := ok_asked T
  have GX : FnOk P w K mg base CX0 8 T.f_asked T.d_asked ["_law_door", "_law_page"] spAskX := okx_asked T
  have GF : FnOk P w K mg base CX0 7 T.f_p_first_word T.d_p_first_word ["sheet"] spFirstW := ok_p_first_word T
  have GW : FnOk P w K mg base CX0 7 T.f_p_words_with T.d_p_words_with ["sheet", "many"] spWords2 := ok_p_words_with T
  refine T.F_right.ok sc_right (fun vs H Q E h => ?_) (fun cdv A outer s H vs Q E hr h => ?_)
  · obtain ⟨b, n, rfl, _⟩ := h
    rfl
  · obtain ⟨b, n, rfl, hB, q⟩ := h
    have h1 := hr.mono (show 1 ≤ 8 by decide)
    have h3 := hr.mono (show 3 ≤ 8 by decide)
    have h4 := hr.mono (show 4 ≤ 8 by decide)
    have h7 := hr.mono (show 7 ≤ 8 by decide)
    refine ⟨_, pss_cons (ps_for PassesOwn.never rfl (pi_list (pe_lst (pa_cons pe_int (pa_cons pe_int (pa_cons (pe_op op_add pe_int (pe_op op_mul pe_int (pe_call GT h1 (by rfl) T.g_draw T.F_draw.kp T.b_draw .nil pass0 (pa_cons (pv 0) (pa_cons pe_int pa_nil))))) pa_nil))))) (pg_name (i := 1) sc_right.nd rfl (.inl rfl))
        (pss_cons (ps_set (i := 2) sc_right.nd rfl (.inr rfl) (pe_call GD h3 (by rfl) T.g_random_pairing T.F_random_pairing.kp T.b_random_pairing .nil pass0 (pa_cons (pv 0) (pa_cons (pe_op op_mul pe_int (pv 1)) pa_nil)))) <|
      pss_one (ps_if (pt_not (pt_val (pe_call GS h4 (by rfl) T.g_same T.F_same.kp T.b_same .nil pass0 (pa_cons (pe_lc (own := [("_law_door", 7)]) (g := gName 7) (tt := tYes) (te := tCall spAskX [] (fun _ _ _ => False) (tCons (tVar 7) (tCons (tVar 2) tNil))) rfl sc_right.nd (pi_range1 (by rfl) T.n_range (pa_cons pe_int pa_nil)) (blkOk_by (N := N_right) (sc := (defScope s_right)) (by decide +kernel)) (fun _ _ _ _ _ => (pg_name (i := 7) sc_right.nd rfl (.inl rfl))) (fun _ _ _ _ _ => pts_nil) (fun _ _ _ _ _ => (pe_call GX hr (by rfl) T.g_asked T.F_asked.kp T.b_asked .nil pass0 (pa_cons (pv 7) (pa_cons (pv 2) pa_nil))))) (pa_cons (pe_op op_rep (pe_lst (pa_cons (pe_tup (pa_cons pe_str (pa_cons (pv 1) pa_nil))) pa_nil)) pe_int) pa_nil))))) (pss_one (ps_ret pe_bl)) pss_nil))) <|
      pss_cons (ps_set (i := 2) sc_right.nd rfl (.inr rfl) (pe_call GD h3 (by rfl) T.g_random_pairing T.F_random_pairing.kp T.b_random_pairing .nil pass0 (pa_cons (pv 0) (pa_cons pe_int pa_nil)))) <|
      pss_cons (ps_if (PW.pt (pw_or (pt_not (pt_val (pe_call GS h4 (by rfl) T.g_same T.F_same.kp T.b_same .nil pass0 (pa_cons (pe_call GA hr (by rfl) T.g_asked T.F_asked.kp T.b_asked .nil pass0 (pa_cons pe_int (pa_cons (pv 2) pa_nil))) (pa_cons pe_int pa_nil))))) (pw_or (pt_val (pe_callB call_isi (by rfl) T.n_isinstance (by decide +kernel) (pa_cons (pe_call GA hr (by rfl) T.g_asked T.F_asked.kp T.b_asked .nil pass0 (pa_cons pe_int (pa_cons (pv 2) pa_nil))) (pa_cons (pe_bltn (v := .ty "tuple") (by rfl) T.n_tuple (by decide +kernel) rfl) pa_nil)))) (pw_or1 (pt_cmpR op_ne (pe_glob (v := .int 4) (by rfl) T.k_MOST_PEOPLE ⟨_, rfl⟩) pe_int (nomark _)))))) (pss_one (ps_ret pe_bl)) pss_nil) <|
      pss_cons (ps_asg (pe_tup (pa_cons (pe_tup (pa_cons pe_int (pa_cons pe_int (pa_cons pe_int (pa_cons pe_int pa_nil))))) (pa_cons (pe_tup (pa_cons pe_int (pa_cons pe_int (pa_cons pe_int (pa_cons pe_int pa_nil))))) pa_nil))) (pg_tup rfl (pgs_cons (pg_name (i := 3) sc_right.nd rfl (.inl rfl)) (pgs_cons (pg_name (i := 4) sc_right.nd rfl (.inl rfl)) (pgs_nil))))) <|
      pss_cons (ps_set (i := 5) sc_right.nd rfl (.inl rfl) (pe_op op_add pe_int (pe_call GT h1 (by rfl) T.g_draw T.F_draw.kp T.b_draw .nil pass0 (pa_cons (pv 0) (pa_cons pe_int pa_nil))))) <|
      pss_cons (ps_set (i := 6) sc_right.nd rfl (.inl rfl) (pe_lst (pa_cons (pe_call GW h7 (by rfl) T.g_p_words_with T.F_p_words_with.kp T.b_p_words_with .nil pass0 (pa_cons (pv 3) (pa_cons pe_int pa_nil))) (pa_cons (pe_call GW h7 (by rfl) T.g_p_words_with T.F_p_words_with.kp T.b_p_words_with .nil pass0 (pa_cons (pv 4) (pa_cons pe_int pa_nil))) (pa_cons (pe_call GW h7 (by rfl) T.g_p_words_with T.F_p_words_with.kp T.b_p_words_with .nil pass0 (pa_cons (pv 3) (pa_cons (pv 5) pa_nil))) (pa_cons (pe_call GW h7 (by rfl) T.g_p_words_with T.F_p_words_with.kp T.b_p_words_with .nil pass0 (pa_cons (pv 4) (pa_cons (pv 5) pa_nil))) pa_nil)))))) <|
      pss_cons (ps_if (pt_not (pt_val (pe_call GS h4 (by rfl) T.g_same T.F_same.kp T.b_same .nil pass0 (pa_cons (pv 6) (pa_cons (pe_lst (pa_cons pe_int (pa_cons pe_int (pa_cons pe_int (pa_cons pe_int pa_nil))))) pa_nil))))) (pss_one (ps_ret pe_bl)) pss_nil) <|
      pss_one (ps_ret (pe_call GS h4 (by rfl) T.g_same T.F_same.kp T.b_same .nil pass0 (pa_cons (pe_lst (pa_cons (pe_call GF h7 (by rfl) T.g_p_first_word T.F_p_first_word.kp T.b_p_first_word .nil pass0 (pa_cons (pv 3) pa_nil)) (pa_cons (pe_call GF h7 (by rfl) T.g_p_first_word T.F_p_first_word.kp T.b_p_first_word .nil pass0 (pa_cons (pv 4) pa_nil)) (pa_cons (pe_call GF h7 (by rfl) T.g_p_first_word T.F_p_first_word.kp T.b_p_first_word .nil pass0 (pa_cons (pe_tup (pa_cons pe_int (pa_cons pe_int (pa_cons pe_int (pa_cons pe_int pa_nil))))) pa_nil)) pa_nil)))) (pa_cons (pd_lst (S := fun _ => False) (pd_cons (pd_lst pd_nil) (pd_cons (pd_lst (pd_cons (pd_tup (pd_cons pd_int (pd_cons pd_int pd_nil))) pd_nil)) (pd_cons pd_non pd_nil)))) pa_nil)))), ?_⟩
    refine ⟨_, rfl, b, n + 3999, 8, rfl, hB.mono (by omega), by decide, by decide, fun r0 J0 ra rb hB0 k0 => ?_⟩
    refine ⟨2, r0, rfl, rfl, .inl ⟨by decide, by decide⟩, 6, _, rfl, rfl, ?_⟩
    obtain ⟨N, hN2, hN12, eN⟩ : ∃ N : Nat, 6 ≤ N ∧ N ≤ 20 ∧ (6 + 2 * r0 : Int) = ((N : Nat) : Int) := ⟨6 + 2 * r0.toNat, by omega, by omega, by omega⟩
    rw [show (fun i j => V.int (i + j)) 6 ((fun i j => i * j) 2 r0) = V.int ((N : Nat) : Int) from congrArg V.int eN]
    refine ⟨by show 3 ≤ sizeLine; decide, fun g ng => ?_⟩
    have sg : Same J0 (upd J0 g (.lst (nv [6, 20, N]))) := same_new ng
    have eg : (upd J0 g (.lst (nv [6, 20, N]))) g = some (.lst (nv [6, 20, N])) := upd_same
    have bg : g ≠ b := (hB0.ne_new ng).symm
    have k1 := k0.trans (Keep.of_same sg)
    have hB1 := hB0.same sg
    refine ⟨g, rfl, ⟨_, .inl (.inl eg)⟩, for_list (xs := nv [6, 20, N]) (fun i σ J => Keep b H J ∧ Box (n + 3900 - 50 * i) J b ∧ J g = some (.lst (nv [6, 20, N])) ∧ ∃ (y1 y2 : Option V), σ = [some (.ref b), y1, y2, none, none, none, none, none]) ⟨k1, hB1.mono (by omega), eg, none, none, rfl⟩ (fun i σ J _ h => .inl (.inl h.2.2.1)) (fun i x σ J hx h => ?_) (fun σ J h => ?_)⟩
    · obtain ⟨kJ, hBJ, eg, y1, y2, rfl⟩ := h
      have hi : i < 3 := (List.getElem?_eq_some_iff.mp hx).1
      obtain ⟨m, hm, rfl⟩ := nv_mem' hx
      have hm6 : 4 < m ∧ m ≤ 20 := by
        rcases List.mem_cons.mp hm with e | hm
        · omega
        rcases List.mem_cons.mp hm with e | hm
        · omega
        have := List.mem_singleton.mp hm; omega
      refine st_set [some (.ref b), some (.int (m : Nat)), y2, none, none, none, none, none] ?_ rfl
      have e2m : (2 * (m : Int)) = ((2 * m : Nat) : Int) := by omega
      refine ⟨_, rfl, _, rfl, 2, m, rfl, rfl, .inl ⟨by decide, by decide⟩, b, n + 3850 - 50 * i, 2 * m, congrArg (fun z => [V.ref b, V.int z]) e2m, hBJ.mono (by omega), by omega, by omega, fun J2 p ps hps k2 hB2 np ep => ?_⟩
      refine st_set [some (.ref b), some (.int (m : Nat)), some (.ref p), none, none, none, none, none] ?_ rfl
      have hpl : ps.length = 2 * m := hps.len
      have eg2 := k2 _ _ bg eg
      refine ⟨3, rfl, by decide, by decide, fun D nD => ?_⟩
      refine lc_range (n := 3) (fun i J => Same J2 J ∧ ∃ ts : List Addr, ts.length = i ∧ J D = some (.lst (ts.map V.ref)) ∧ ∀ t ∈ ts, J t = some (.tup [.str "many", .int (m : Nat)])) ⟨same_new nD, [], rfl, upd_same, fun t ht => absurd ht List.not_mem_nil⟩ (fun l J hl h => ?_) (fun J h => ?_)
      · obtain ⟨sm, ts, hl2, eD, ht⟩ := h
        refine ⟨rfl, yes_if ⟨_, rfl, _, rfl, l, p, ps, m, congrArg (fun z => [V.int z, V.ref p]) (Int.zero_add _), hl, sm _ _ ep, hpl, hm6.1, fun J4 t s4 et => ?_⟩⟩
        have tD : t ≠ D := fun z => by rw [z, s4 _ _ eD] at et; cases et
        refine ⟨_, s4 _ _ eD, ?_, fun z o hz => by rw [upd_ne (ne_of_none hz nD)]; exact s4 _ _ (sm _ _ hz), ts ++ [t], by rw [List.length_append, hl2]; rfl, by rw [upd_same, List.map_append]; rfl, fun u hu => ?_⟩
        · rw [List.length_map, hl2]; exact small1000 (by omega)
        · rcases List.mem_append.mp hu with e | e
          · have h1 := s4 _ _ (ht u e)
            rw [upd_ne (fun z => by rw [z, s4 _ _ eD] at h1; cases h1)]; exact h1
          · rw [List.mem_singleton.mp e, upd_ne tD]; exact et
      obtain ⟨sm, ts, hl2, eD, ht⟩ := h
      refine ⟨_, rfl, by show 2 ≤ sizeLine; decide, fun u nu => ⟨by show 1 ≤ sizeLine; decide, fun v nv' => ⟨v, 3, [V.ref u], rfl, rfl, upd_same, by decide, by decide, by show 1 * 3 ≤ sizeLine; decide, fun g2 ng2 => ?_⟩⟩⟩
      have su : Same J (upd J u (.tup [.str "many", .int (m : Nat)])) := same_new nu
      have eu : (upd J u (.tup [.str "many", .int (m : Nat)])) u = some (.tup [.str "many", .int (m : Nat)]) := upd_same
      have sv := same_new (o := .lst [V.ref u]) nv'
      have sw := same_new (o := .lst (List.replicate (3 : Int).toNat [V.ref u]).flatten) ng2
      have s3 := (su.trans sv).trans sw
      have eu3 := sw _ _ (sv _ _ eu)
      refine ⟨_, _, .list (List.replicate 3 (.tuple [.str "many", .int (m : Nat)])), rfl, .lst (.inl (.inl (s3 _ _ eD))) (by have h := dp_many (K := K) (n := m) (ts := ts) fun t h => s3 _ _ (ht t h); rw [hl2] at h; exact h), .lst (.inl (.inl upd_same)) (dp_many (ts := [u, u, u]) fun t h => by rw [show t = u by simpa using h]; exact eu3), by simp [PyData.depth, PyData.depthAll], by simp [narrow, narrowAll], fun J5 s5 => ⟨true, rfl, iteN ?_⟩⟩
      have s25 := (sm.trans s3).trans s5
      exact ⟨(kJ.trans k2).trans (Keep.of_same s25), (hB2.same s25).mono (by omega), s25 _ _ eg2, _, _, rfl⟩
    obtain ⟨kJ, hBJ, eg, y1, y2, rfl⟩ := h
    replace hBJ : Box (n + 3000) J b := hBJ.mono (by show n + 3000 ≤ n + 3900 - 50 * 3; omega)
    clear eg hB1 k1 sg hB0 k0
    -- four people
    refine ⟨_, rfl, b, n + 2000, 8, rfl, hBJ.mono (by omega), by decide, by decide, fun J2 p ps hps k2 hB2 np ep => ?_⟩
    refine st_set [some (.ref b), y1, some (.ref p), none, none, none, none, none] ?_ rfl
    have hpl : ps.length = 2 * 4 := hps.len
    refine ⟨_, rfl, .inl ⟨p, ps, 4, rfl, ep, hpl, by decide, fun J3 s3 => ?_⟩⟩
    rw [WB_len.2]
    refine ⟨_, _, .int 82, rfl, .int _, .int _, by show 0 < 4; decide, trivial, fun J4 s4 => ⟨true, rfl, iteN ?_⟩⟩
    refine ⟨_, rfl, .inr ⟨p, ps, 4, rfl, s4 _ _ (s3 _ _ ep), hpl, by decide, fun J5 v s5 hv => ?_⟩⟩
    obtain ⟨t, ty, tf⟩ := FwR.ty (K := K) (show FwR J5 ps 4 v from hv)
    refine ⟨_, _, _, _, _, rfl, .ty _, ty, tf, _, rfl, iteN ?_⟩
    refine ⟨rfl, _, rfl, iteX rfl ?_⟩
    have s25 := (s3.trans s4).trans s5
    have k5 := (kJ.trans k2).trans (Keep.of_same s25)
    have hB5 := hB2.same s25
    clear hv ty tf hBJ kJ s3 s4 s5 s25 hB2 k2 ep np
    -- two people
    refine ⟨by show 4 ≤ sizeLine; decide, fun tE nE => ⟨by show 4 ≤ sizeLine; decide, fun tF nF => ⟨by show 2 ≤ sizeLine; decide, fun tp ntp => ⟨tp, _, rfl, .inl (.inl upd_same), rfl, _, _, rfl, _, _, rfl, rfl, ?_⟩⟩⟩⟩
    have sE := same_new (o := .tup (nv [2, 3, 0, 1])) nE
    have sF := same_new (o := .tup (nv [1, 0, 3, 2])) nF
    have sP := same_new (o := .tup [V.ref tE, V.ref tF]) ntp
    have eE := sP _ _ (sF _ _ (upd_same : upd J5 tE (.tup (nv [2, 3, 0, 1])) tE = _))
    have eF := sP _ _ (upd_same : upd (upd J5 tE (.tup (nv [2, 3, 0, 1]))) tF (.tup (nv [1, 0, 3, 2])) tF = _)
    have sJ := (sE.trans sF).trans sP
    have hB6 := hB5.same sJ
    have k6 := k5.trans (Keep.of_same sJ)
    have bE : tE ≠ b := (hB5.ne_new nE).symm
    have bF : tF ≠ b := ((hB5.same sE).ne_new nF).symm
    refine st_eq (t := tSeq _ _) [some (.ref b), y1, some (.ref p), some (.ref tE), some (.ref tF), none, none, none] ?_ rfl
    clear sE sF sP nE nF ntp hB5 k5 sJ
    refine ⟨_, rfl, b, n + 1000, 20, rfl, hB6.mono (by omega), by decide, by decide, fun r1 J7 rc rd hB7 k7 => ?_⟩
    refine ⟨1, r1, rfl, rfl, ?_⟩
    obtain ⟨M, hM, eM⟩ : ∃ M : Nat, M + 1 ≤ 20 ∧ (1 + r1 : Int) = ((M + 1 : Nat) : Int) := ⟨r1.toNat, by omega, by omega⟩
    rw [show (fun i j => V.int (i + j)) 1 r1 = V.int ((M + 1 : Nat) : Int) from congrArg V.int eM]
    refine st_set [some (.ref b), y1, some (.ref p), some (.ref tE), some (.ref tF), some (.int ((M + 1 : Nat) : Int)), none, none] ?_ rfl
    have eE7 := k7 _ _ bE eE
    have eF7 := k7 _ _ bF eF
    refine ⟨_, rfl, tE, _, 0, rfl, eE7, rfl, by decide, fun K1 t1 => ?_⟩
    rw [ws_a0]
    refine ⟨_, rfl, tF, _, 0, rfl, t1 _ _ eF7, rfl, by decide, fun K2 t2 => ?_⟩
    rw [ws_b0]
    refine ⟨_, rfl, _, rfl, tE, _, M + 1, rfl, t2 _ _ (t1 _ _ eE7), rfl, hM, fun K3 t3 => ?_⟩
    rw [ws_a1]
    refine ⟨_, rfl, _, rfl, tF, _, M + 1, rfl, t3 _ _ (t2 _ _ (t1 _ _ eF7)), rfl, hM, fun K4 t4 => ?_⟩
    rw [ws_b1]
    have t04 := ((t1.trans t2).trans t3).trans t4
    refine ⟨by show 4 ≤ sizeLine; decide, fun l nl => ?_⟩
    have t5 := same_new (o := .lst [V.int 1, V.int 0, V.int 0, V.int 1]) nl
    have el : (upd K4 l (.lst [V.int 1, V.int 0, V.int 0, V.int 1])) l = some (.lst [V.int 1, V.int 0, V.int 0, V.int 1]) := upd_same
    have t05 := t04.trans t5
    clear t04 t1 t2 t3 t4
    revert t05 el
    generalize upd K4 l (.lst [V.int 1, V.int 0, V.int 0, V.int 1]) = K5
    intro el t05
    refine st_set [some (.ref b), y1, some (.ref p), some (.ref tE), some (.ref tF), some (.int ((M + 1 : Nat) : Int)), some (.ref l), none] ?_ rfl
    refine ⟨_, rfl, by show 4 ≤ sizeLine; decide, fun g3 ng3 => ?_⟩
    have t6 := same_new (o := .lst [V.int 1, V.int 0, V.int 0, V.int 1]) ng3
    refine ⟨_, _, .list (([1, 0, 0, 1] : List Int).map PyData.int), rfl, .lst (.inl (.inl (t6 _ _ el))) (dp_ints [1, 0, 0, 1]), .lst (.inl (.inl upd_same)) (dp_ints [1, 0, 0, 1]), by simp [PyData.depth, PyData.depthAll], by simp [narrow, narrowAll], fun K6 t7 => ⟨true, rfl, iteN ?_⟩⟩
    have t07 := (t05.trans t6).trans t7
    have eE8 := t07 _ _ eE7
    have eF8 := t07 _ _ eF7
    refine ⟨_, rfl, tE, [2, 3, 0, 1], 2, rfl, eE8, rfl, by decide, fun M1 v1 u1 w1 => ?_⟩
    refine ⟨_, rfl, tF, [1, 0, 3, 2], 2, rfl, u1 _ _ eF8, rfl, by decide, fun M2 v2 u2 w2 => ?_⟩
    refine ⟨by show 4 ≤ sizeLine; decide, fun tG nG => ?_⟩
    have uG := same_new (o := .tup (nv [3, 2, 1, 0])) nG
    refine ⟨tG, [3, 2, 1, 0], 2, rfl, upd_same, rfl, by decide, fun M3 v3 u3 w3 => ?_⟩
    refine ⟨by show 3 ≤ sizeLine; decide, fun l2 nl2 => ?_⟩
    have u4 := same_new (o := .lst [v1, v2, v3]) nl2
    refine ⟨fun a ha => ha.elim, fun d M5 u5 hd => ?_⟩
    have x1 := ((u2.trans uG).trans u3).trans (u4.trans u5)
    have x2 := (uG.trans u3).trans (u4.trans u5)
    have x3 := u4.trans u5
    refine ⟨_, _, _, rfl, .lst (.inl (.inl (u5 _ _ upd_same))) (.cons ?_ (.cons ?_ (.cons ?_ .nil))), dp_same same0 hd, by simp [PyData.depth, PyData.depthAll], by simp [narrow, narrowAll], fun M6 u6 => ?_⟩
    · exact (FwR.same (show FwR M1 _ 2 v1 from w1) x1).dp (fun w hw => by rw [WB2_a hw]; rfl) (fun h => absurd WB2_a' h)
    · exact (FwR.same (show FwR M2 _ 2 v2 from w2) x2).dp (fun w hw => by rw [WB2_b hw]; rfl) (fun h => absurd WB2_b' h)
    · exact (FwR.same (show FwR M3 _ 2 v3 from w3) x3).dp (fun w hw => absurd (List.mem_map.mpr ⟨_, hw, rfl⟩) WB2_c') (fun _ => rfl)
    have sEnd := ((t07.trans u1).trans x1).trans u6
    exact q _ ((k6.trans k7).trans (Keep.of_same sEnd)) ((hB7.same sEnd).mono (by omega))
end
end Pc
namespace Pc
open PySem PySem.Spec PyProof.Rows L2 RZ
section
variable {P : Program} {w : World} {K : PySem.W.Frag} {mg : Str → Option Value} {base : Heap}
/-! ### the law, one right a stream -/
def spLaw (K : PySem.W.Frag) : Sp := fun vs H Q _ => ∃ (a : Addr) (ns : List Int), vs = [.ref a] ∧ SqL K H a (ns.map V.int) ∧ ns.length ≤ 63 ∧ ∀ H', Q (.bl true) H'
theorem ok_law (T : Env K mg) {f : Addr} {fd : FuncData} (F : Fun K "law" "law" s_law f fd) : FnOk P w K mg base CX0 10 f fd ["_law_script"] (spLaw K) := by
  have GC : FnOk P w K mg base CX0 1 T.f_folded T.d_folded ["_law_script", "_law_most"] (spCells K) := ok_cells T
  have GB : FnOk P w K mg base CX0 1 T.f_stream T.d_stream ["_law_script", "_law_k"] (spBox K) := ok_box T
  have GR : FnOk P w K mg base CX0 9 T.f_right T.d_right ["_law_source"] spRight := ok_right T
  refine F.ok sc_law (fun vs H Q E h => ?_) (fun cdv A outer s H vs Q E hr h => ?_)
  · obtain ⟨a, ns, rfl, _⟩ := h
    rfl
  · obtain ⟨a, ns, rfl, hS, hn, q⟩ := h
    have h1 := hr.mono (show 1 ≤ 9 by decide)
    refine ⟨_, pss_cons (ps_set (i := 1) sc_law.nd rfl (.inr rfl) (pe_call GC h1 (by rfl) T.g_folded T.F_folded.kp T.b_folded .nil pass0 (pa_cons (pv 0) (pa_cons pe_int pa_nil)))) <|
      pss_one (ps_ret (pe_callB (cr_all rfl) (by rfl) T.n_all (by decide +kernel) (pa_cons
          (pe_lc (own := [("_law_k", 2)]) (g := gName 2) (tt := tYes) rfl sc_law.nd (pi_range1 (by rfl) T.n_range (pa_cons (pe_callB call_len_seq (by rfl) T.n_len PySem.boot_len (pa_cons (pv 1) pa_nil)) pa_nil)) (blkOk_by (N := N_law) (sc := defScope s_law) (by decide +kernel))
            (fun _ _ _ _ _ => pg_name (i := 2) sc_law.nd rfl (.inl rfl)) (fun _ _ _ _ _ => pts_nil)
            (fun _ _ _ _ _ => pe_call GR hr (by rfl) T.g_right T.F_right.kp T.b_right .nil pass0 (pa_cons (pe_call GB h1 (by rfl) T.g_stream T.F_stream.kp T.b_stream .nil pass0 (pa_cons (pv 1) (pa_cons (pv 2) pa_nil))) pa_nil))) pa_nil))), ?_⟩
    refine ⟨.ref a, rfl, a, ns, 3, rfl, hS, hn, by decide, by decide, fun Hc p cs sc np ep hc1 hc2 => ?_⟩
    have hlen : (cs.map V.int).length = cs.length := List.length_map _
    refine st_set [some (.ref a), some (.ref p), none] ?_ rfl
    refine ⟨.ref p, rfl, p, _, rfl, .inl (.inl (.inl ep)), _, rfl, by omega, by omega, fun D nD => ?_⟩
    have pD : p ≠ D := ne_of_none ep nD
    have hj : ((cs.map V.int).length : Int).toNat = cs.length := by rw [hlen]; rfl
    rw [hj]
    refine lc_range (n := cs.length) (fun i H' => H' p = some (.lst (cs.map V.int)) ∧ H' D = some (.lst (List.replicate i (.bl true))))
      ⟨same_new nD _ _ ep, upd_same⟩ (fun i H' hi hPv => ?_) (fun H' hPv => ?_)
    · obtain ⟨ep1, eD⟩ := hPv
      refine ⟨rfl, yes_if ⟨_, rfl, _, rfl, p, cs, i, ?_, .inl (.inl ep1), by omega, fun Hb b sb nb hBb => ?_⟩⟩
      · show [V.ref p, V.int ((0 : Int) + (i : Nat))] = _
        rw [Int.zero_add]
      have bD : D ≠ b := ne_of_none eD nb
      have pb : p ≠ b := ne_of_none ep1 nb
      refine ⟨b, 0, rfl, hBb.mono (by decide), fun H2 k2 hB2 => ⟨_, k2 _ _ bD (sb _ _ eD), ?_, ?_, ?_⟩⟩
      · rw [List.length_replicate]; exact small1000 (by omega)
      · rw [upd_ne pD]; exact k2 _ _ pb (sb _ _ ep1)
      · rw [upd_same, List.replicate_succ']
    · obtain ⟨ep1, eD⟩ := hPv
      refine ⟨D, List.replicate cs.length true, rfl, by rw [List.map_replicate]; exact .inl (.inl eD), ?_⟩
      rw [all_rep]
      exact q _
end
end Pc
namespace Pc
open PySem PySem.Spec PyProof.Rows L2 RZ
theorem all_mk {l : PySem.W.OpenLaw} {w : World} {K : PySem.W.Frag} {h : Heap} {mg : Str → Option Value} {fa f_p_check_person f_p_check_call f_p_check_word f_p_all_calls f_p_join_two f_p_people_of f_p_empty_sheet f_p_with_word f_p_with_call f_p_check_few f_p_first_words f_p_all_sheets f_p_first_word f_p_words_with f_stream f_draw f_folded f_same f_shuffled f_random_pairing f_asked f_right f_law C_TooMany C_NoWord C_OtherSize f_i_TooMany : Addr} (X : K.In h) (G : h.Ns mainGlobals mg) (hfa : mg "law" = some (.ref fa))
    {od_p_check_person an_p_check_person : Option Addr} {sl_p_check_person : Array (Option Value)} {oc_p_check_person kV_p_check_person dc_p_check_person pm_p_check_person cd_p_check_person ct_p_check_person : Value}
    {od_p_check_call an_p_check_call : Option Addr} {sl_p_check_call : Array (Option Value)} {oc_p_check_call kV_p_check_call dc_p_check_call pm_p_check_call cd_p_check_call ct_p_check_call : Value}
    {od_p_check_word an_p_check_word : Option Addr} {sl_p_check_word : Array (Option Value)} {oc_p_check_word kV_p_check_word dc_p_check_word pm_p_check_word cd_p_check_word ct_p_check_word : Value}
    {od_p_all_calls an_p_all_calls : Option Addr} {sl_p_all_calls : Array (Option Value)} {oc_p_all_calls kV_p_all_calls dc_p_all_calls pm_p_all_calls cd_p_all_calls ct_p_all_calls : Value}
    {od_p_join_two an_p_join_two : Option Addr} {sl_p_join_two : Array (Option Value)} {oc_p_join_two kV_p_join_two dc_p_join_two pm_p_join_two cd_p_join_two ct_p_join_two : Value}
    {od_p_people_of an_p_people_of : Option Addr} {sl_p_people_of : Array (Option Value)} {oc_p_people_of kV_p_people_of dc_p_people_of pm_p_people_of cd_p_people_of ct_p_people_of : Value}
    {od_p_empty_sheet an_p_empty_sheet : Option Addr} {sl_p_empty_sheet : Array (Option Value)} {oc_p_empty_sheet kV_p_empty_sheet dc_p_empty_sheet pm_p_empty_sheet cd_p_empty_sheet ct_p_empty_sheet : Value}
    {od_p_with_word an_p_with_word : Option Addr} {sl_p_with_word : Array (Option Value)} {oc_p_with_word kV_p_with_word dc_p_with_word pm_p_with_word cd_p_with_word ct_p_with_word : Value}
    {od_p_with_call an_p_with_call : Option Addr} {sl_p_with_call : Array (Option Value)} {oc_p_with_call kV_p_with_call dc_p_with_call pm_p_with_call cd_p_with_call ct_p_with_call : Value}
    {od_p_check_few an_p_check_few : Option Addr} {sl_p_check_few : Array (Option Value)} {oc_p_check_few kV_p_check_few dc_p_check_few pm_p_check_few cd_p_check_few ct_p_check_few : Value}
    {od_p_first_words an_p_first_words : Option Addr} {sl_p_first_words : Array (Option Value)} {oc_p_first_words kV_p_first_words dc_p_first_words pm_p_first_words cd_p_first_words ct_p_first_words : Value}
    {od_p_all_sheets an_p_all_sheets : Option Addr} {sl_p_all_sheets : Array (Option Value)} {oc_p_all_sheets kV_p_all_sheets dc_p_all_sheets pm_p_all_sheets cd_p_all_sheets ct_p_all_sheets : Value}
    {od_p_first_word an_p_first_word : Option Addr} {sl_p_first_word : Array (Option Value)} {oc_p_first_word kV_p_first_word dc_p_first_word pm_p_first_word cd_p_first_word ct_p_first_word : Value}
    {od_p_words_with an_p_words_with : Option Addr} {sl_p_words_with : Array (Option Value)} {oc_p_words_with kV_p_words_with dc_p_words_with pm_p_words_with cd_p_words_with ct_p_words_with : Value}
    {od_stream an_stream : Option Addr} {sl_stream : Array (Option Value)} {oc_stream kV_stream dc_stream pm_stream cd_stream ct_stream : Value}
    {od_draw an_draw : Option Addr} {sl_draw : Array (Option Value)} {oc_draw kV_draw dc_draw pm_draw cd_draw ct_draw : Value}
    {od_folded an_folded : Option Addr} {sl_folded : Array (Option Value)} {oc_folded kV_folded dc_folded pm_folded cd_folded ct_folded : Value}
    {od_same an_same : Option Addr} {sl_same : Array (Option Value)} {oc_same kV_same dc_same pm_same cd_same ct_same : Value}
    {od_shuffled an_shuffled : Option Addr} {sl_shuffled : Array (Option Value)} {oc_shuffled kV_shuffled dc_shuffled pm_shuffled cd_shuffled ct_shuffled : Value}
    {od_random_pairing an_random_pairing : Option Addr} {sl_random_pairing : Array (Option Value)} {oc_random_pairing kV_random_pairing dc_random_pairing pm_random_pairing cd_random_pairing ct_random_pairing : Value}
    {od_asked an_asked : Option Addr} {sl_asked : Array (Option Value)} {oc_asked kV_asked dc_asked pm_asked cd_asked ct_asked : Value}
    {od_right an_right : Option Addr} {sl_right : Array (Option Value)} {oc_right kV_right dc_right pm_right cd_right ct_right : Value}
    {od_law an_law : Option Addr} {sl_law : Array (Option Value)} {oc_law kV_law dc_law pm_law cd_law ct_law : Value}
    {tk_MOST_PEOPLE : Tok}
    {nm_TooMany qn_TooMany : Str} {Nn_TooMany : Addr} {bs_TooMany : List Value} {sn_TooMany : List Str} {sub_TooMany : List Value} {ab_TooMany : Bool} {col_TooMany : Option Bool} {dd_TooMany : Option Addr} {m0_TooMany m1_TooMany m2_TooMany m3_TooMany m5_TooMany : Option Value} {od_i_TooMany an_i_TooMany : Option Addr} {sl_i_TooMany : Array (Option Value)} {oc_i_TooMany kV_i_TooMany dc_i_TooMany pm_i_TooMany cd_i_TooMany ct_i_TooMany : Value}
    (a_p_check_person : PySem.W.nsIn K mainGlobals "check_person" = some (some (.ref f_p_check_person))) (l_p_check_person : K.lookup f_p_check_person = some ⟨oc_p_check_person, od_p_check_person, .func (PySem.W.fnOf "check_person" "check_person" (defArgs s_p_check_person) (defBody s_p_check_person) (defScope s_p_check_person) .none kV_p_check_person dc_p_check_person pm_p_check_person an_p_check_person cd_p_check_person ct_p_check_person), sl_p_check_person⟩) (c_p_check_person : PySem.W.codeIn K cd_p_check_person "check_person" = true) (k_p_check_person : PySem.W.keepIn K (.ref f_p_check_person) = true)
    (a_p_check_call : PySem.W.nsIn K mainGlobals "check_call" = some (some (.ref f_p_check_call))) (l_p_check_call : K.lookup f_p_check_call = some ⟨oc_p_check_call, od_p_check_call, .func (PySem.W.fnOf "check_call" "check_call" (defArgs s_p_check_call) (defBody s_p_check_call) (defScope s_p_check_call) .none kV_p_check_call dc_p_check_call pm_p_check_call an_p_check_call cd_p_check_call ct_p_check_call), sl_p_check_call⟩) (c_p_check_call : PySem.W.codeIn K cd_p_check_call "check_call" = true) (k_p_check_call : PySem.W.keepIn K (.ref f_p_check_call) = true)
    (a_p_check_word : PySem.W.nsIn K mainGlobals "check_word" = some (some (.ref f_p_check_word))) (l_p_check_word : K.lookup f_p_check_word = some ⟨oc_p_check_word, od_p_check_word, .func (PySem.W.fnOf "check_word" "check_word" (defArgs s_p_check_word) (defBody s_p_check_word) (defScope s_p_check_word) .none kV_p_check_word dc_p_check_word pm_p_check_word an_p_check_word cd_p_check_word ct_p_check_word), sl_p_check_word⟩) (c_p_check_word : PySem.W.codeIn K cd_p_check_word "check_word" = true) (k_p_check_word : PySem.W.keepIn K (.ref f_p_check_word) = true)
    (a_p_all_calls : PySem.W.nsIn K mainGlobals "all_calls" = some (some (.ref f_p_all_calls))) (l_p_all_calls : K.lookup f_p_all_calls = some ⟨oc_p_all_calls, od_p_all_calls, .func (PySem.W.fnOf "all_calls" "all_calls" (defArgs s_p_all_calls) (defBody s_p_all_calls) (defScope s_p_all_calls) .none kV_p_all_calls dc_p_all_calls pm_p_all_calls an_p_all_calls cd_p_all_calls ct_p_all_calls), sl_p_all_calls⟩) (c_p_all_calls : PySem.W.codeIn K cd_p_all_calls "all_calls" = true) (k_p_all_calls : PySem.W.keepIn K (.ref f_p_all_calls) = true)
    (a_p_join_two : PySem.W.nsIn K mainGlobals "join_two" = some (some (.ref f_p_join_two))) (l_p_join_two : K.lookup f_p_join_two = some ⟨oc_p_join_two, od_p_join_two, .func (PySem.W.fnOf "join_two" "join_two" (defArgs s_p_join_two) (defBody s_p_join_two) (defScope s_p_join_two) .none kV_p_join_two dc_p_join_two pm_p_join_two an_p_join_two cd_p_join_two ct_p_join_two), sl_p_join_two⟩) (c_p_join_two : PySem.W.codeIn K cd_p_join_two "join_two" = true) (k_p_join_two : PySem.W.keepIn K (.ref f_p_join_two) = true)
    (a_p_people_of : PySem.W.nsIn K mainGlobals "people_of" = some (some (.ref f_p_people_of))) (l_p_people_of : K.lookup f_p_people_of = some ⟨oc_p_people_of, od_p_people_of, .func (PySem.W.fnOf "people_of" "people_of" (defArgs s_p_people_of) (defBody s_p_people_of) (defScope s_p_people_of) .none kV_p_people_of dc_p_people_of pm_p_people_of an_p_people_of cd_p_people_of ct_p_people_of), sl_p_people_of⟩) (c_p_people_of : PySem.W.codeIn K cd_p_people_of "people_of" = true) (k_p_people_of : PySem.W.keepIn K (.ref f_p_people_of) = true)
    (a_p_empty_sheet : PySem.W.nsIn K mainGlobals "empty_sheet" = some (some (.ref f_p_empty_sheet))) (l_p_empty_sheet : K.lookup f_p_empty_sheet = some ⟨oc_p_empty_sheet, od_p_empty_sheet, .func (PySem.W.fnOf "empty_sheet" "empty_sheet" (defArgs s_p_empty_sheet) (defBody s_p_empty_sheet) (defScope s_p_empty_sheet) .none kV_p_empty_sheet dc_p_empty_sheet pm_p_empty_sheet an_p_empty_sheet cd_p_empty_sheet ct_p_empty_sheet), sl_p_empty_sheet⟩) (c_p_empty_sheet : PySem.W.codeIn K cd_p_empty_sheet "empty_sheet" = true) (k_p_empty_sheet : PySem.W.keepIn K (.ref f_p_empty_sheet) = true)
    (a_p_with_word : PySem.W.nsIn K mainGlobals "with_word" = some (some (.ref f_p_with_word))) (l_p_with_word : K.lookup f_p_with_word = some ⟨oc_p_with_word, od_p_with_word, .func (PySem.W.fnOf "with_word" "with_word" (defArgs s_p_with_word) (defBody s_p_with_word) (defScope s_p_with_word) .none kV_p_with_word dc_p_with_word pm_p_with_word an_p_with_word cd_p_with_word ct_p_with_word), sl_p_with_word⟩) (c_p_with_word : PySem.W.codeIn K cd_p_with_word "with_word" = true) (k_p_with_word : PySem.W.keepIn K (.ref f_p_with_word) = true)
    (a_p_with_call : PySem.W.nsIn K mainGlobals "with_call" = some (some (.ref f_p_with_call))) (l_p_with_call : K.lookup f_p_with_call = some ⟨oc_p_with_call, od_p_with_call, .func (PySem.W.fnOf "with_call" "with_call" (defArgs s_p_with_call) (defBody s_p_with_call) (defScope s_p_with_call) .none kV_p_with_call dc_p_with_call pm_p_with_call an_p_with_call cd_p_with_call ct_p_with_call), sl_p_with_call⟩) (c_p_with_call : PySem.W.codeIn K cd_p_with_call "with_call" = true) (k_p_with_call : PySem.W.keepIn K (.ref f_p_with_call) = true)
    (a_p_check_few : PySem.W.nsIn K mainGlobals "check_few" = some (some (.ref f_p_check_few))) (l_p_check_few : K.lookup f_p_check_few = some ⟨oc_p_check_few, od_p_check_few, .func (PySem.W.fnOf "check_few" "check_few" (defArgs s_p_check_few) (defBody s_p_check_few) (defScope s_p_check_few) .none kV_p_check_few dc_p_check_few pm_p_check_few an_p_check_few cd_p_check_few ct_p_check_few), sl_p_check_few⟩) (c_p_check_few : PySem.W.codeIn K cd_p_check_few "check_few" = true) (k_p_check_few : PySem.W.keepIn K (.ref f_p_check_few) = true)
    (a_p_first_words : PySem.W.nsIn K mainGlobals "first_words" = some (some (.ref f_p_first_words))) (l_p_first_words : K.lookup f_p_first_words = some ⟨oc_p_first_words, od_p_first_words, .func (PySem.W.fnOf "first_words" "first_words" (defArgs s_p_first_words) (defBody s_p_first_words) (defScope s_p_first_words) .none kV_p_first_words dc_p_first_words pm_p_first_words an_p_first_words cd_p_first_words ct_p_first_words), sl_p_first_words⟩) (c_p_first_words : PySem.W.codeIn K cd_p_first_words "first_words" = true) (k_p_first_words : PySem.W.keepIn K (.ref f_p_first_words) = true)
    (a_p_all_sheets : PySem.W.nsIn K mainGlobals "all_sheets" = some (some (.ref f_p_all_sheets))) (l_p_all_sheets : K.lookup f_p_all_sheets = some ⟨oc_p_all_sheets, od_p_all_sheets, .func (PySem.W.fnOf "all_sheets" "all_sheets" (defArgs s_p_all_sheets) (defBody s_p_all_sheets) (defScope s_p_all_sheets) .none kV_p_all_sheets dc_p_all_sheets pm_p_all_sheets an_p_all_sheets cd_p_all_sheets ct_p_all_sheets), sl_p_all_sheets⟩) (c_p_all_sheets : PySem.W.codeIn K cd_p_all_sheets "all_sheets" = true) (k_p_all_sheets : PySem.W.keepIn K (.ref f_p_all_sheets) = true)
    (a_p_first_word : PySem.W.nsIn K mainGlobals "first_word" = some (some (.ref f_p_first_word))) (l_p_first_word : K.lookup f_p_first_word = some ⟨oc_p_first_word, od_p_first_word, .func (PySem.W.fnOf "first_word" "first_word" (defArgs s_p_first_word) (defBody s_p_first_word) (defScope s_p_first_word) .none kV_p_first_word dc_p_first_word pm_p_first_word an_p_first_word cd_p_first_word ct_p_first_word), sl_p_first_word⟩) (c_p_first_word : PySem.W.codeIn K cd_p_first_word "first_word" = true) (k_p_first_word : PySem.W.keepIn K (.ref f_p_first_word) = true)
    (a_p_words_with : PySem.W.nsIn K mainGlobals "words_with" = some (some (.ref f_p_words_with))) (l_p_words_with : K.lookup f_p_words_with = some ⟨oc_p_words_with, od_p_words_with, .func (PySem.W.fnOf "words_with" "words_with" (defArgs s_p_words_with) (defBody s_p_words_with) (defScope s_p_words_with) .none kV_p_words_with dc_p_words_with pm_p_words_with an_p_words_with cd_p_words_with ct_p_words_with), sl_p_words_with⟩) (c_p_words_with : PySem.W.codeIn K cd_p_words_with "words_with" = true) (k_p_words_with : PySem.W.keepIn K (.ref f_p_words_with) = true)
    (a_stream : PySem.W.nsIn K mainGlobals "_law_stream" = some (some (.ref f_stream))) (l_stream : K.lookup f_stream = some ⟨oc_stream, od_stream, .func (PySem.W.fnOf "_law_stream" "_law_stream" (defArgs s_stream) (defBody s_stream) (defScope s_stream) .none kV_stream dc_stream pm_stream an_stream cd_stream ct_stream), sl_stream⟩) (c_stream : PySem.W.codeIn K cd_stream "_law_stream" = true) (k_stream : PySem.W.keepIn K (.ref f_stream) = true)
    (a_draw : PySem.W.nsIn K mainGlobals "_law_draw" = some (some (.ref f_draw))) (l_draw : K.lookup f_draw = some ⟨oc_draw, od_draw, .func (PySem.W.fnOf "_law_draw" "_law_draw" (defArgs s_draw) (defBody s_draw) (defScope s_draw) .none kV_draw dc_draw pm_draw an_draw cd_draw ct_draw), sl_draw⟩) (c_draw : PySem.W.codeIn K cd_draw "_law_draw" = true) (k_draw : PySem.W.keepIn K (.ref f_draw) = true)
    (a_folded : PySem.W.nsIn K mainGlobals "_law_folded" = some (some (.ref f_folded))) (l_folded : K.lookup f_folded = some ⟨oc_folded, od_folded, .func (PySem.W.fnOf "_law_folded" "_law_folded" (defArgs s_folded) (defBody s_folded) (defScope s_folded) .none kV_folded dc_folded pm_folded an_folded cd_folded ct_folded), sl_folded⟩) (c_folded : PySem.W.codeIn K cd_folded "_law_folded" = true) (k_folded : PySem.W.keepIn K (.ref f_folded) = true)
    (a_same : PySem.W.nsIn K mainGlobals "_law_same" = some (some (.ref f_same))) (l_same : K.lookup f_same = some ⟨oc_same, od_same, .func (PySem.W.fnOf "_law_same" "_law_same" (defArgs s_same) (defBody s_same) (defScope s_same) .none kV_same dc_same pm_same an_same cd_same ct_same), sl_same⟩) (c_same : PySem.W.codeIn K cd_same "_law_same" = true) (k_same : PySem.W.keepIn K (.ref f_same) = true)
    (a_shuffled : PySem.W.nsIn K mainGlobals "_law_shuffled" = some (some (.ref f_shuffled))) (l_shuffled : K.lookup f_shuffled = some ⟨oc_shuffled, od_shuffled, .func (PySem.W.fnOf "_law_shuffled" "_law_shuffled" (defArgs s_shuffled) (defBody s_shuffled) (defScope s_shuffled) .none kV_shuffled dc_shuffled pm_shuffled an_shuffled cd_shuffled ct_shuffled), sl_shuffled⟩) (c_shuffled : PySem.W.codeIn K cd_shuffled "_law_shuffled" = true) (k_shuffled : PySem.W.keepIn K (.ref f_shuffled) = true)
    (a_random_pairing : PySem.W.nsIn K mainGlobals "_law_random_pairing" = some (some (.ref f_random_pairing))) (l_random_pairing : K.lookup f_random_pairing = some ⟨oc_random_pairing, od_random_pairing, .func (PySem.W.fnOf "_law_random_pairing" "_law_random_pairing" (defArgs s_random_pairing) (defBody s_random_pairing) (defScope s_random_pairing) .none kV_random_pairing dc_random_pairing pm_random_pairing an_random_pairing cd_random_pairing ct_random_pairing), sl_random_pairing⟩) (c_random_pairing : PySem.W.codeIn K cd_random_pairing "_law_random_pairing" = true) (k_random_pairing : PySem.W.keepIn K (.ref f_random_pairing) = true)
    (a_asked : PySem.W.nsIn K mainGlobals "_law_asked" = some (some (.ref f_asked))) (l_asked : K.lookup f_asked = some ⟨oc_asked, od_asked, .func (PySem.W.fnOf "_law_asked" "_law_asked" (defArgs s_asked) (defBody s_asked) (defScope s_asked) .none kV_asked dc_asked pm_asked an_asked cd_asked ct_asked), sl_asked⟩) (c_asked : PySem.W.codeIn K cd_asked "_law_asked" = true) (k_asked : PySem.W.keepIn K (.ref f_asked) = true)
    (a_right : PySem.W.nsIn K mainGlobals "_law_right" = some (some (.ref f_right))) (l_right : K.lookup f_right = some ⟨oc_right, od_right, .func (PySem.W.fnOf "_law_right" "_law_right" (defArgs s_right) (defBody s_right) (defScope s_right) .none kV_right dc_right pm_right an_right cd_right ct_right), sl_right⟩) (c_right : PySem.W.codeIn K cd_right "_law_right" = true) (k_right : PySem.W.keepIn K (.ref f_right) = true)
    (a_law : PySem.W.nsIn K mainGlobals "law" = some (some (.ref f_law))) (l_law : K.lookup f_law = some ⟨oc_law, od_law, .func (PySem.W.fnOf "law" "law" (defArgs s_law) (defBody s_law) (defScope s_law) .none kV_law dc_law pm_law an_law cd_law ct_law), sl_law⟩) (c_law : PySem.W.codeIn K cd_law "law" = true) (k_law : PySem.W.keepIn K (.ref f_law) = true)
    (ak_MOST_PEOPLE : PySem.W.nsIn K mainGlobals "MOST_PEOPLE" = some (some (.int 4 tk_MOST_PEOPLE)))
    (aC_TooMany : PySem.W.nsIn K mainGlobals "TooMany" = some (some (.ref C_TooMany)))
    (eC_TooMany : PySem.W.subIn K (.ref C_TooMany) (.type "BaseException") = some true)
    (tC_TooMany : PySem.W.typeIn K (.ref C_TooMany) = some (.type "type"))
    (is_TooMany : PySem.W.isClsIn K C_TooMany = true)
    (aC_NoWord : PySem.W.nsIn K mainGlobals "NoWord" = some (some (.ref C_NoWord)))
    (eC_NoWord : PySem.W.subIn K (.ref C_NoWord) (.type "BaseException") = some true)
    (tC_NoWord : PySem.W.typeIn K (.ref C_NoWord) = some (.type "type"))
    (is_NoWord : PySem.W.isClsIn K C_NoWord = true)
    (aC_OtherSize : PySem.W.nsIn K mainGlobals "OtherSize" = some (some (.ref C_OtherSize)))
    (eC_OtherSize : PySem.W.subIn K (.ref C_OtherSize) (.type "BaseException") = some true)
    (tC_OtherSize : PySem.W.typeIn K (.ref C_OtherSize) = some (.type "type"))
    (is_OtherSize : PySem.W.isClsIn K C_OtherSize = true)
    (xC_TooMany : K.lookup C_TooMany = some (excClassObj nm_TooMany qn_TooMany C_TooMany Nn_TooMany bs_TooMany [.type "OverflowError", .type "ArithmeticError", .type "Exception", .type "BaseException", .type "object"] true sn_TooMany sub_TooMany ab_TooMany col_TooMany dd_TooMany m0_TooMany m1_TooMany m2_TooMany m3_TooMany m5_TooMany "OverflowError.__new__"))
    (sa_TooMany : PySem.W.findIn K (.ref C_TooMany) "__setattr__" = some (some (.builtin "object.__setattr__")))
    (ga_TooMany : PySem.W.findIn K (.ref C_TooMany) "__getattribute__" = some (some (.builtin "BaseException.__getattribute__")))
    (gg_TooMany : PySem.W.findIn K (.ref C_TooMany) "__getattr__" = some none)
    (kC_TooMany : PySem.W.keepIn K (.ref C_TooMany) = true)
    (hC_TooMany : PySem.W.hasDictIn K C_TooMany = true)
    (cl_TooMany : PySem.W.findIn K (.ref C_TooMany) "__class__" = some (some (.builtin "object.__class__")))
    (mr_TooMany : PySem.W.mroIn K C_TooMany (.type "object") = some true)
    (iC_TooMany : PySem.W.findIn K (.ref C_TooMany) "__init__" = some (some (.ref f_i_TooMany)))
    (tI_TooMany : PySem.W.typeIn K (.ref f_i_TooMany) = some (.type "function"))
    (lI_TooMany : K.lookup f_i_TooMany = some ⟨oc_i_TooMany, od_i_TooMany, .func (PySem.W.fnOf "__init__" "TooMany.__init__" (defArgs s_i_TooMany) (defBody s_i_TooMany) (defScope s_i_TooMany) .none kV_i_TooMany dc_i_TooMany pm_i_TooMany an_i_TooMany cd_i_TooMany ct_i_TooMany), sl_i_TooMany⟩)
    (cI_TooMany : PySem.W.codeIn K cd_i_TooMany "TooMany.__init__" = true)
    (kI_TooMany : PySem.W.keepIn K (.ref f_i_TooMany) = true)
    (su_TooMany : PySem.W.subIn K (.ref C_TooMany) (.ref C_TooMany) = some true)
    (no_TooMany : PySem.W.findIn K (.ref C_TooMany) "size" = some none)
    (su_TooMany_NoWord : PySem.W.subIn K (.ref C_TooMany) (.ref C_NoWord) = some false)
    (su_TooMany_OtherSize : PySem.W.subIn K (.ref C_TooMany) (.ref C_OtherSize) = some false)
    (sb_TooMany_OverflowError : PySem.W.subIn K (.ref C_TooMany) (.type "OverflowError") = some true)
    (vV_OverflowError : PySem.W.findCls K (.type "OverflowError") (.type "type") "__init__" = some (.val (.builtin "OverflowError.__init__")))
    (spG : PySem.W.specialIn K (.builtin "object.__class__") "__get__" = some (some (.builtin "getset_descriptor.__get__")))
    (tkG : PySem.W.takesIn K (.builtin "object.__class__") = some true)
    (z_range : PySem.W.nsIn K mainGlobals "range" = some none) (z_len : PySem.W.nsIn K mainGlobals "len" = some none) (z_tuple : PySem.W.nsIn K mainGlobals "tuple" = some none) (z_list : PySem.W.nsIn K mainGlobals "list" = some none) (z_sorted : PySem.W.nsIn K mainGlobals "sorted" = some none) (z_abs : PySem.W.nsIn K mainGlobals "abs" = some none) (z_int : PySem.W.nsIn K mainGlobals "int" = some none) (z_enumerate : PySem.W.nsIn K mainGlobals "enumerate" = some none) (z_isinstance : PySem.W.nsIn K mainGlobals "isinstance" = some none) (z_all : PySem.W.nsIn K mainGlobals "all" = some none) (z_zip : PySem.W.nsIn K mainGlobals "zip" = some none) (z_bool : PySem.W.nsIn K mainGlobals "bool" = some none) (z_str : PySem.W.nsIn K mainGlobals "str" = some none) (z_OverflowError : PySem.W.nsIn K mainGlobals "OverflowError" = some none) :
    ∃ fd : FuncData, (∀ (s : Shared) (v : Value), BindsTo s fd ⟨[v], []⟩ [("_law_script", v)]) ∧ ∀ base : Heap, K.In base → base.Ns mainGlobals mg → FnOk l.prog w K mg base CX0 10 fa fd ["_law_script"] (spLaw K) := by
  have e := hfa.symm.trans (PySem.W.mg_of X G a_law)
  cases e
  let T : Env K mg := {
    n_range := PySem.W.mg_none_of X G z_range,
    n_len := PySem.W.mg_none_of X G z_len,
    n_tuple := PySem.W.mg_none_of X G z_tuple,
    n_list := PySem.W.mg_none_of X G z_list,
    n_sorted := PySem.W.mg_none_of X G z_sorted,
    n_abs := PySem.W.mg_none_of X G z_abs,
    n_int := PySem.W.mg_none_of X G z_int,
    n_enumerate := PySem.W.mg_none_of X G z_enumerate,
    n_isinstance := PySem.W.mg_none_of X G z_isinstance,
    n_all := PySem.W.mg_none_of X G z_all,
    n_zip := PySem.W.mg_none_of X G z_zip,
    n_bool := PySem.W.mg_none_of X G z_bool,
    n_str := PySem.W.mg_none_of X G z_str,
    n_OverflowError := PySem.W.mg_none_of X G z_OverflowError,
    f_p_check_person := f_p_check_person, d_p_check_person := _, F_p_check_person := fun_mk (st := s_p_check_person) l_p_check_person c_p_check_person k_p_check_person, g_p_check_person := PySem.W.mg_of X G a_p_check_person,
    f_p_check_call := f_p_check_call, d_p_check_call := _, F_p_check_call := fun_mk (st := s_p_check_call) l_p_check_call c_p_check_call k_p_check_call, g_p_check_call := PySem.W.mg_of X G a_p_check_call,
    f_p_check_word := f_p_check_word, d_p_check_word := _, F_p_check_word := fun_mk (st := s_p_check_word) l_p_check_word c_p_check_word k_p_check_word, g_p_check_word := PySem.W.mg_of X G a_p_check_word,
    f_p_all_calls := f_p_all_calls, d_p_all_calls := _, F_p_all_calls := fun_mk (st := s_p_all_calls) l_p_all_calls c_p_all_calls k_p_all_calls, g_p_all_calls := PySem.W.mg_of X G a_p_all_calls,
    f_p_join_two := f_p_join_two, d_p_join_two := _, F_p_join_two := fun_mk (st := s_p_join_two) l_p_join_two c_p_join_two k_p_join_two, g_p_join_two := PySem.W.mg_of X G a_p_join_two,
    f_p_people_of := f_p_people_of, d_p_people_of := _, F_p_people_of := fun_mk (st := s_p_people_of) l_p_people_of c_p_people_of k_p_people_of, g_p_people_of := PySem.W.mg_of X G a_p_people_of,
    f_p_empty_sheet := f_p_empty_sheet, d_p_empty_sheet := _, F_p_empty_sheet := fun_mk (st := s_p_empty_sheet) l_p_empty_sheet c_p_empty_sheet k_p_empty_sheet, g_p_empty_sheet := PySem.W.mg_of X G a_p_empty_sheet,
    f_p_with_word := f_p_with_word, d_p_with_word := _, F_p_with_word := fun_mk (st := s_p_with_word) l_p_with_word c_p_with_word k_p_with_word, g_p_with_word := PySem.W.mg_of X G a_p_with_word,
    f_p_with_call := f_p_with_call, d_p_with_call := _, F_p_with_call := fun_mk (st := s_p_with_call) l_p_with_call c_p_with_call k_p_with_call, g_p_with_call := PySem.W.mg_of X G a_p_with_call,
    f_p_check_few := f_p_check_few, d_p_check_few := _, F_p_check_few := fun_mk (st := s_p_check_few) l_p_check_few c_p_check_few k_p_check_few, g_p_check_few := PySem.W.mg_of X G a_p_check_few,
    f_p_first_words := f_p_first_words, d_p_first_words := _, F_p_first_words := fun_mk (st := s_p_first_words) l_p_first_words c_p_first_words k_p_first_words, g_p_first_words := PySem.W.mg_of X G a_p_first_words,
    f_p_all_sheets := f_p_all_sheets, d_p_all_sheets := _, F_p_all_sheets := fun_mk (st := s_p_all_sheets) l_p_all_sheets c_p_all_sheets k_p_all_sheets, g_p_all_sheets := PySem.W.mg_of X G a_p_all_sheets,
    f_p_first_word := f_p_first_word, d_p_first_word := _, F_p_first_word := fun_mk (st := s_p_first_word) l_p_first_word c_p_first_word k_p_first_word, g_p_first_word := PySem.W.mg_of X G a_p_first_word,
    f_p_words_with := f_p_words_with, d_p_words_with := _, F_p_words_with := fun_mk (st := s_p_words_with) l_p_words_with c_p_words_with k_p_words_with, g_p_words_with := PySem.W.mg_of X G a_p_words_with,
    f_stream := f_stream, d_stream := _, F_stream := fun_mk (st := s_stream) l_stream c_stream k_stream, g_stream := PySem.W.mg_of X G a_stream,
    f_draw := f_draw, d_draw := _, F_draw := fun_mk (st := s_draw) l_draw c_draw k_draw, g_draw := PySem.W.mg_of X G a_draw,
    f_folded := f_folded, d_folded := _, F_folded := fun_mk (st := s_folded) l_folded c_folded k_folded, g_folded := PySem.W.mg_of X G a_folded,
    f_same := f_same, d_same := _, F_same := fun_mk (st := s_same) l_same c_same k_same, g_same := PySem.W.mg_of X G a_same,
    f_shuffled := f_shuffled, d_shuffled := _, F_shuffled := fun_mk (st := s_shuffled) l_shuffled c_shuffled k_shuffled, g_shuffled := PySem.W.mg_of X G a_shuffled,
    f_random_pairing := f_random_pairing, d_random_pairing := _, F_random_pairing := fun_mk (st := s_random_pairing) l_random_pairing c_random_pairing k_random_pairing, g_random_pairing := PySem.W.mg_of X G a_random_pairing,
    f_asked := f_asked, d_asked := _, F_asked := fun_mk (st := s_asked) l_asked c_asked k_asked, g_asked := PySem.W.mg_of X G a_asked,
    f_right := f_right, d_right := _, F_right := fun_mk (st := s_right) l_right c_right k_right, g_right := PySem.W.mg_of X G a_right,
    tk_MOST_PEOPLE := tk_MOST_PEOPLE, k_MOST_PEOPLE := PySem.W.mg_of X G ak_MOST_PEOPLE,
    C_TooMany := C_TooMany, gC_TooMany := PySem.W.mg_of X G aC_TooMany,
    C_NoWord := C_NoWord, gC_NoWord := PySem.W.mg_of X G aC_NoWord,
    C_OtherSize := C_OtherSize, gC_OtherSize := PySem.W.mg_of X G aC_OtherSize,
    own_TooMany := ⟨⟨nm_TooMany, qn_TooMany, Nn_TooMany, bs_TooMany, sn_TooMany, sub_TooMany, ab_TooMany, col_TooMany, dd_TooMany, m0_TooMany, m1_TooMany, m2_TooMany, m3_TooMany, m5_TooMany, xC_TooMany⟩, over_of xC_TooMany (by decide +kernel), sa_TooMany, ga_TooMany, gg_TooMany, eC_TooMany, tC_TooMany, kC_TooMany, hC_TooMany, cl_TooMany, mr_TooMany⟩,
    kpt_TooMany := ⟨ga_TooMany, gg_TooMany, eC_TooMany, hC_TooMany, cl_TooMany, mr_TooMany, spG, tkG⟩,
    f_i_TooMany := f_i_TooMany, d_i_TooMany := _, F_i_TooMany := fun_mk (st := s_i_TooMany) lI_TooMany cI_TooMany kI_TooMany, iC_TooMany := iC_TooMany, tI_TooMany := tI_TooMany, ee_TooMany := exm_of' eC_TooMany is_TooMany tC_TooMany su_TooMany, kk_TooMany := kit_own su_TooMany is_TooMany tC_TooMany su_TooMany,
    no_TooMany := no_TooMany,
    ex_TooMany_NoWord := exm_of' eC_NoWord is_NoWord tC_NoWord su_TooMany_NoWord, ki_TooMany_NoWord := kit_own su_TooMany is_NoWord tC_NoWord su_TooMany_NoWord,
    ex_TooMany_OtherSize := exm_of' eC_OtherSize is_OtherSize tC_OtherSize su_TooMany_OtherSize, ki_TooMany_OtherSize := kit_own su_TooMany is_OtherSize tC_OtherSize su_TooMany_OtherSize,
    kb_TooMany_OverflowError := kit_blt (by decide +kernel) sb_TooMany_OverflowError,
    vV_OverflowError := vV_OverflowError }
  exact ⟨PySem.W.fnOf "law" "law" (defArgs s_law) (defBody s_law) (defScope s_law) .none kV_law dc_law pm_law an_law cd_law ct_law, fun s v => .of_eq rfl, fun base _ _ => ok_law T (fun_mk (st := s_law) l_law c_law k_law)⟩
end Pc
open PySem PySem.W PyProof.Rows
set_option maxHeartbeats 0 in
theorem PySem.Challenge.cw_partnercall_k66_too_many_people_holds : PySem.Challenge.rw_partnercall_k66_too_many_people.Holds := by
  w_on; o_law; k_head; (case hw => w_witness2)
  k_fill
  refine L2.walk_of (l := PySem.Challenge.rw_partnercall_k66_too_many_people) (n := 63) (k := 10) (x := "_law_script") (CX := fun _ => L2.CX0) (sp := fun w => Pc.spLaw _) rfl (by decide) rfl ⟨rfl, by decide, by decide⟩ (fun w h Y => PySem.W.kIn_of Y) ?F (fun _ _ a ns hl _ hS => ⟨a, ns, rfl, hS, hl, fun _ => rfl⟩) (fun _ _ _ _ _ h => h)
  case F =>
    intro w mg fa h KX G hmg
    refine' Pc.all_mk KX G hmg ?a_p_check_person ?l_p_check_person ?c_p_check_person ?k_p_check_person ?a_p_check_call ?l_p_check_call ?c_p_check_call ?k_p_check_call ?a_p_check_word ?l_p_check_word ?c_p_check_word ?k_p_check_word ?a_p_all_calls ?l_p_all_calls ?c_p_all_calls ?k_p_all_calls ?a_p_join_two ?l_p_join_two ?c_p_join_two ?k_p_join_two ?a_p_people_of ?l_p_people_of ?c_p_people_of ?k_p_people_of ?a_p_empty_sheet ?l_p_empty_sheet ?c_p_empty_sheet ?k_p_empty_sheet ?a_p_with_word ?l_p_with_word ?c_p_with_word ?k_p_with_word ?a_p_with_call ?l_p_with_call ?c_p_with_call ?k_p_with_call ?a_p_check_few ?l_p_check_few ?c_p_check_few ?k_p_check_few ?a_p_first_words ?l_p_first_words ?c_p_first_words ?k_p_first_words ?a_p_all_sheets ?l_p_all_sheets ?c_p_all_sheets ?k_p_all_sheets ?a_p_first_word ?l_p_first_word ?c_p_first_word ?k_p_first_word ?a_p_words_with ?l_p_words_with ?c_p_words_with ?k_p_words_with ?a_stream ?l_stream ?c_stream ?k_stream ?a_draw ?l_draw ?c_draw ?k_draw ?a_folded ?l_folded ?c_folded ?k_folded ?a_same ?l_same ?c_same ?k_same ?a_shuffled ?l_shuffled ?c_shuffled ?k_shuffled ?a_random_pairing ?l_random_pairing ?c_random_pairing ?k_random_pairing ?a_asked ?l_asked ?c_asked ?k_asked ?a_right ?l_right ?c_right ?k_right ?a_law ?l_law ?c_law ?k_law ?ak_MOST_PEOPLE ?aC_TooMany ?eC_TooMany ?tC_TooMany ?is_TooMany ?aC_NoWord ?eC_NoWord ?tC_NoWord ?is_NoWord ?aC_OtherSize ?eC_OtherSize ?tC_OtherSize ?is_OtherSize ?xC_TooMany ?sa_TooMany ?ga_TooMany ?gg_TooMany ?kC_TooMany ?hC_TooMany ?cl_TooMany ?mr_TooMany ?iC_TooMany ?tI_TooMany ?lI_TooMany ?cI_TooMany ?kI_TooMany ?su_TooMany ?no_TooMany ?su_TooMany_NoWord ?su_TooMany_OtherSize ?sb_TooMany_OverflowError ?vV_OverflowError ?spG ?tkG ?z_range ?z_len ?z_tuple ?z_list ?z_sorted ?z_abs ?z_int ?z_enumerate ?z_isinstance ?z_all ?z_zip ?z_bool ?z_str ?z_OverflowError
    (case a_p_check_person => k_is); (case l_p_check_person => k_is); (case c_p_check_person => k_is); (case k_p_check_person => k_is); (case a_p_check_call => k_is); (case l_p_check_call => k_is); (case c_p_check_call => k_is); (case k_p_check_call => k_is); (case a_p_check_word => k_is); (case l_p_check_word => k_is); (case c_p_check_word => k_is); (case k_p_check_word => k_is); (case a_p_all_calls => k_is); (case l_p_all_calls => k_is); (case c_p_all_calls => k_is); (case k_p_all_calls => k_is); (case a_p_join_two => k_is); (case l_p_join_two => k_is); (case c_p_join_two => k_is); (case k_p_join_two => k_is); (case a_p_people_of => k_is); (case l_p_people_of => k_is); (case c_p_people_of => k_is); (case k_p_people_of => k_is); (case a_p_empty_sheet => k_is); (case l_p_empty_sheet => k_is); (case c_p_empty_sheet => k_is); (case k_p_empty_sheet => k_is); (case a_p_with_word => k_is); (case l_p_with_word => k_is); (case c_p_with_word => k_is); (case k_p_with_word => k_is); (case a_p_with_call => k_is); (case l_p_with_call => k_is); (case c_p_with_call => k_is); (case k_p_with_call => k_is); (case a_p_check_few => k_is); (case l_p_check_few => k_is); (case c_p_check_few => k_is); (case k_p_check_few => k_is); (case a_p_first_words => k_is); (case l_p_first_words => k_is); (case c_p_first_words => k_is); (case k_p_first_words => k_is); (case a_p_all_sheets => k_is); (case l_p_all_sheets => k_is); (case c_p_all_sheets => k_is); (case k_p_all_sheets => k_is); (case a_p_first_word => k_is); (case l_p_first_word => k_is); (case c_p_first_word => k_is); (case k_p_first_word => k_is); (case a_p_words_with => k_is); (case l_p_words_with => k_is); (case c_p_words_with => k_is); (case k_p_words_with => k_is); (case a_stream => k_is); (case l_stream => k_is); (case c_stream => k_is); (case k_stream => k_is); (case a_draw => k_is); (case l_draw => k_is); (case c_draw => k_is); (case k_draw => k_is); (case a_folded => k_is); (case l_folded => k_is); (case c_folded => k_is); (case k_folded => k_is); (case a_same => k_is); (case l_same => k_is); (case c_same => k_is); (case k_same => k_is); (case a_shuffled => k_is); (case l_shuffled => k_is); (case c_shuffled => k_is); (case k_shuffled => k_is); (case a_random_pairing => k_is); (case l_random_pairing => k_is); (case c_random_pairing => k_is); (case k_random_pairing => k_is); (case a_asked => k_is); (case l_asked => k_is); (case c_asked => k_is); (case k_asked => k_is); (case a_right => k_is); (case l_right => k_is); (case c_right => k_is); (case k_right => k_is); (case a_law => k_is); (case l_law => k_is); (case c_law => k_is); (case k_law => k_is); (case ak_MOST_PEOPLE => k_is); (case aC_TooMany => k_is); (case eC_TooMany => k_is); (case tC_TooMany => k_is); (case is_TooMany => k_is); (case aC_NoWord => k_is); (case eC_NoWord => k_is); (case tC_NoWord => k_is); (case is_NoWord => k_is); (case aC_OtherSize => k_is); (case eC_OtherSize => k_is); (case tC_OtherSize => k_is); (case is_OtherSize => k_is); (case xC_TooMany => k_is); (case sa_TooMany => k_is); (case ga_TooMany => k_is); (case gg_TooMany => k_is); (case kC_TooMany => k_is); (case hC_TooMany => k_is); (case cl_TooMany => k_is); (case mr_TooMany => k_is); (case iC_TooMany => k_is); (case tI_TooMany => k_is); (case lI_TooMany => k_is); (case cI_TooMany => k_is); (case kI_TooMany => k_is); (case su_TooMany => k_is); (case no_TooMany => k_is); (case su_TooMany_NoWord => k_is); (case su_TooMany_OtherSize => k_is); (case sb_TooMany_OverflowError => k_is); (case vV_OverflowError => k_is); (case spG => k_is); (case tkG => k_is); (case z_range => k_is); (case z_len => k_is); (case z_tuple => k_is); (case z_list => k_is); (case z_sorted => k_is); (case z_abs => k_is); (case z_int => k_is); (case z_enumerate => k_is); (case z_isinstance => k_is); (case z_all => k_is); (case z_zip => k_is); (case z_bool => k_is); (case z_str => k_is); (case z_OverflowError => k_is)
