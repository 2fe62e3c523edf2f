import PyProof.Rows.All
import Wide.All
import OpenK.AllK
import Wide.FinOn
import HandS.ForMost
import HandS.IsInst
import HandS.Zip
import HandS.Style
import HandS.Walk
import HandS.Flow
import HandS.Conv
import HandS.RaiseMore
import HandS.NoneIn
import HandS.WordsList
import HandS.Deep
import HandS.Exc
import HandS.ExcOwn
import HandS.WordsExc
import HandS.ExcInit
import HandS.ExcIs
import KE.KExcIs
import KE.KExcInit
import KE.KTryMore
import HandS.SortRule
import HandS.SortInts
import HandS.Strs
import HandS.Wide
import HandS.DictComp
import HandS.SetFor
import HandS.TupSets
import HandS.SortOrd
import KE.SortData
import KE.DataCmp
import PySem.Challenge.RW_partnercall_k78_whole_words_that_do_the
set_option Elab.async false
set_option linter.all false
set_option maxRecDepth 100000
set_option maxHeartbeats 4000000
namespace RZ
end RZ
namespace Pc
open PySem PySem.Spec PyProof.Rows L2 RZ
/-! ### heaps -/
/-- all that was tracked, but for b, is as it was -/
def Keep (b : Addr) (H H' : Hp) : Prop := ∀ a o, a ≠ b → H a = some o → H' a = some o
theorem Keep.refl (b : Addr) (H : Hp) : Keep b H H := fun _ _ _ h => h
theorem Keep.trans {b : Addr} {H H1 H2 : Hp} (p : Keep b H H1) (q : Keep b H1 H2) : Keep b H H2 := fun a o n h => q a o n (p a o n h)
theorem Keep.of_same {b : Addr} {H H' : Hp} (s : Same H H') : Keep b H H' := fun a o _ h => s a o h
theorem same_new {H : Hp} {p : Addr} {o : HO} (h : H p = none) : Same H (upd H p o) := fun b x e => by
  rw [upd_ne (ne_of_none e h)]; exact e
theorem keep_upd {H : Hp} {b : Addr} {o : HO} : Keep b H (upd H b o) := fun a x n e => by
  rw [upd_ne n]; exact e
/-- a list, a tuple under Keep -/
theorem Keep.tup {b : Addr} {H H' : Hp} (k : Keep b H H') {a : Addr} {xs ys : List V} (hb : H b = some (.lst ys)) (h : H a = some (.tup xs)) : H' a = some (.tup xs) :=
  k a _ (fun e => by rw [e, hb] at h; cases h) h
/-! ### small numbers -/
theorem one0 (c : Prop) [Decidable c] : (0 : Int) ≤ (if c then 1 else 0) ∧ (if c then (1 : Int) else 0) ≤ 1 := by
  split <;> decide
theorem in64 {i : Int} (h : 0 ≤ i ∧ i ≤ 1) : -(2 ^ 64) < i ∧ i < 2 ^ 64 := ⟨by omega, by omega⟩
/-! ### the source of draws -/
/-- at b a source that serves n more draws -/
def Box (n : Nat) (H : Hp) (b : Addr) : Prop := ∃ x y z : Int, H b = some (.lst [.int x, .int y, .int z]) ∧ 0 ≤ x ∧ 0 ≤ y ∧ y < 2 ^ 62 ∧ 0 ≤ z ∧ z + n ≤ 1000000000
theorem Box.lst {n : Nat} {H : Hp} {b : Addr} (h : Box n H b) : ∃ ys, H b = some (.lst ys) := let ⟨_, _, _, e, _⟩ := h; ⟨_, e⟩
theorem Box.mono {n m : Nat} {H : Hp} {b : Addr} (h : Box n H b) (l : m ≤ n) : Box m H b := by
  obtain ⟨x, y, z, e, h1, h2, h3, h4, h5⟩ := h
  exact ⟨x, y, z, e, h1, h2, h3, h4, by omega⟩
theorem Box.same {n : Nat} {H H' : Hp} {b : Addr} (h : Box n H b) (s : Same H H') : Box n H' b := by
  obtain ⟨x, y, z, e, r⟩ := h
  exact ⟨x, y, z, s _ _ e, r⟩
theorem Box.keep {n : Nat} {H H' : Hp} {b c : Addr} (h : Box n H b) (k : Keep c H H') (d : b ≠ c) : Box n H' b := by
  obtain ⟨x, y, z, e, r⟩ := h
  exact ⟨x, y, z, k _ _ d e, r⟩
theorem Box.ne_new {n : Nat} {H : Hp} {b p : Addr} (h : Box n H b) (np : H p = none) : b ≠ p := by
  obtain ⟨x, y, z, e, r⟩ := h
  exact ne_of_none e np
theorem Box.ne_tup {n : Nat} {H : Hp} {b p : Addr} {xs : List V} (h : Box n H b) (e2 : H p = some (.tup xs)) : p ≠ b := by
  obtain ⟨x, y, z, e, r⟩ := h
  intro q; rw [q, e] at e2; cases e2
end Pc
namespace Pc
open PySem PySem.Spec PyProof.Rows L2 RZ
/-! ### errors of the program: made -/
section
open PySem.W Builtin Builtin.ObjectAttr
variable {prog : Program} {w : World} {A : Around} {R : Result → Shared → Prop} {hp : Heap} {g : Array GenState} {d : Drawn} {t : Nat} {os : OsState} {B : String} {bmB : List Value}
/-- the first field of an error that has no dict yet -/
theorem osa_first {K : Frag} {f : Str} {tk : Tok} {v : Value} {x C : Addr} {fv : Array Value} {cd : ClassData} (SF : StoreFacts B bmB "object.__setattr__" "object") (X : K.In hp)
    (hx : hp.get? x = some { cls := .ref C, data := .fields fv }) (hcd : clsIn K C = some cd) (ho : excOver K C bmB = true) (hh : cd.hasDict = true) (hf : takerIn K C f = some none)
    (hq : ∀ h' tk' dx, (∀ b o, b ≠ x → hp.get? b = some o → h'.get? b = some o) → hp.objs.size ≤ dx → dx ≠ x →
      h'.get? x = some { cls := .ref C, dict := some dx, data := .fields fv } → h'.Ns1 dx (fun y => if y = f then some v else none) → R (.ok (.ret .none)) ⟨h', g, d, tk', os⟩) :
    codeAny (model prog w) A (.call (.builtin "object.__setattr__") ⟨[.ref x, .str f tk, v], []⟩) R ⟨hp, g, d, t, os⟩ := by
  have hne : x ≠ hp.objs.size := fun e => absurd (Heap.lt_size hx) (by rw [← e]; exact Nat.lt_irrefl x)
  have LC : Looks (model prog w) hp (classData C) cd := looks_clsIn X hcd
  refine osa_openX (s := ⟨hp, g, d, t, os⟩) (od := none) SF X ⟨hx, rfl, rfl, trivial⟩ ho hf fun b => ?_
  obtain ⟨c1, c2, c3, c4, c5, c6, c7, c8, c9, c10, c11⟩ := cd
  dsimp only at hh; subst hh
  dsimp only
  unfold storeInOwnDict ownDictForStores
  repeat (first | with_reducible refine HandSPX.store_in_new ?_ ?_ | with_reducible refine wpAny_loadPart_at hx ?_ | with_reducible refine LC.at ?_ | wp_step)
  · exact ⟨_, #[], _, (Heap.get?_update_ne _ _ _ _ hne.symm).trans (Heap.get?_push_at rfl rfl), rfl, fun e he => absurd he (by simp), fun _ => rfl⟩
  · intro h' tk' n1 n2
    refine hq h' tk' hp.objs.size (fun b o q r => ?_) (Nat.le_refl _) hne.symm ?_ n1
    · exact (n2.2 b (Nat.ne_of_lt (Heap.lt_size r))).trans ((Heap.get?_update_ne _ _ _ _ q).trans (Heap.get?_push_of_some _ r))
    · exact (n2.2 x hne).trans (Heap.get?_update_self _ (Heap.get?_push_of_some _ hx) rfl)
end
/-- what is known of a built-in error class -/
structure Bs (B newId initId : String) (bmB : List Value) : Prop where
  fb : ExcBaseFacts B newId initId bmB
  sf : StoreFacts B bmB "object.__setattr__" "object"
theorem bsV : Bs "ValueError" "ValueError.__new__" "ValueError.__init__" [.type "ValueError", .type "Exception", .type "BaseException", .type "object"] := ⟨F.excBase_ValueError, F.store_ValueError⟩
theorem bsL : Bs "LookupError" "LookupError.__new__" "LookupError.__init__" [.type "LookupError", .type "Exception", .type "BaseException", .type "object"] := ⟨F.excBase_LookupError, F.store_LookupError⟩
theorem bsR : Bs "RuntimeError" "RuntimeError.__new__" "RuntimeError.__init__" [.type "RuntimeError", .type "Exception", .type "BaseException", .type "object"] := ⟨F.excBase_RuntimeError, F.store_RuntimeError⟩
theorem bsO : Bs "OverflowError" "OverflowError.__new__" "OverflowError.__init__" [.type "OverflowError", .type "ArithmeticError", .type "Exception", .type "BaseException", .type "object"] := ⟨F.excBase_OverflowError, F.store_OverflowError⟩
/-- an error class of the program, straight over a built-in one -/
structure Own (K : PySem.W.Frag) (newId : String) (bmB : List Value) (C : Addr) : Prop where
  cls : ∃ nm q N bs sn sub ab col dd k0 k1 k2 k3 k5, K.lookup C = some (excClassObj nm q C N bs bmB true sn sub ab col dd k0 k1 k2 k3 k5 newId)
  over : PySem.W.excOver K C bmB = true
  sa : PySem.W.findIn K (.ref C) "__setattr__" = some (some (.builtin "object.__setattr__"))
  ga : PySem.W.findIn K (.ref C) "__getattribute__" = some (some (.builtin "BaseException.__getattribute__"))
  gg : PySem.W.findIn K (.ref C) "__getattr__" = some none
  exC : PySem.W.subIn K (.ref C) (.type "BaseException") = some true
  tyC : PySem.W.typeIn K (.ref C) = some (.type "type")
  kC : PySem.W.keepIn K (.ref C) = true
  hdC : PySem.W.hasDictIn K C = true
  clC : PySem.W.findIn K (.ref C) "__class__" = some (some (.builtin "object.__class__"))
  mrO : PySem.W.mroIn K C (.type "object") = some true
theorem Own.data {K : PySem.W.Frag} {newId : String} {bmB : List Value} {C : Addr} (T : Own K newId bmB C) : ∃ cd, PySem.W.clsIn K C = some cd ∧ cd.hasDict = true := by
  obtain ⟨nm, q, N, bs, sn, sub, ab, col, dd, k0, k1, k2, k3, k5, e⟩ := T.cls
  refine ⟨{ name := nm, bases := bs, mro := .ref C :: bmB, ns := N, qualname := q, hasDict := true, slotNames := sn, subclasses := sub, abstract := ab, collection := col, hasDel := false }, ?_, rfl⟩
  unfold PySem.W.clsIn
  rw [e] <;> rfl
theorem taker_of {K : PySem.W.Frag} {C : Addr} {f : Str} (h : PySem.W.findIn K (.ref C) f = some none) : PySem.W.takerIn K C f = some none := by
  unfold PySem.W.takerIn
  rw [h]; rfl
section
variable {X : Cx} {pins : List (Addr × Obj)} {σ : L2.St} {H H1 H2 : Hp} {s : Shared} {a C dx : Addr} {f : Str} {newId initId B : String} {bmB : List Value}
/-- an object that stands in the heap, untracked and not of the entry, is tracked from now on -/
theorem adopt {o : HO} (I : Inv X pins σ H s) (hn : H a = none) (n0 : X.s_0.heap.get? a = none) (nL : a ≠ X.env.locals) (nC : ∀ x c, X.env.cells.lookup x = some c → c ≠ a) (nP : ∀ p ∈ X.pn ++ pins, p.1 ≠ a)
    (new : ObjOk X.prog X.w (upd H a o) s.heap a o) : Inv X pins σ (upd H a o) s := by
  have up : ∀ {b : Addr} {u : HO}, H b = some u → upd H a o b = some u := fun {b u} e => by rw [upd_ne (ne_of_none e hn)]; exact e
  refine ⟨I.ok, I.os, I.bare, ⟨I.base.keep, I.base.slot, fun b q e n x => ?_, I.base.there, fun b xs e => up (I.base.tups b xs e), fun b q u e => up (I.base.frzs b q u e), fun b ps e => ?_⟩, I.loc, I.cell, ?_, fun x c e => ?_, fun p hp => ?_, fun b u e => ?_, I.len⟩
  · rw [upd_ne (fun z => by rw [z, n0] at e; cases e)]
    exact I.base.free b q e n x
  · obtain ⟨m, z⟩ := I.base.tbls b ps e
    exact ⟨m, up z⟩
  · rw [upd_ne (Ne.symm nL)]; exact I.free
  · rw [upd_ne (nC x c e)]; exact I.freeC x c e
  · obtain ⟨e, n, r⟩ := I.pin p hp
    exact ⟨e, by rw [upd_ne (nP p hp)]; exact n, r⟩
  · by_cases hb : b = a
    · subst hb
      rw [upd_same] at e; cases e
      exact new
    · rw [upd_ne hb] at e
      exact (I.hok b u e).stay (fun _ _ _ z => z) (fun c z => up z) (fun c xs z => up z)
theorem low_ne {n : Nat} {b a : Addr} (h : b < n) (h' : n ≤ a) : b ≠ a := Nat.ne_of_lt (Nat.lt_of_lt_of_le h h')
theorem get_lt_size {h : Heap} {b : Addr} {o : Obj} (e : h.get? b = some o) : b < h.objs.size := Heap.lt_size e
/-- self.f = y -/
theorem ost_one {y : V} {u : Value} {Q : Unit → Shared → Prop} {E : Value → Shared → Prop} {A : Around} (T : Own X.K newId bmB C) (SF : StoreFacts B bmB "object.__setattr__" "object") (I : Inv X pins σ H s) (e : H a = some (exo a C none)) (hno : PySem.W.findIn X.K (.ref C) f = some none) (ry : RelV y u)
    (h : ∀ dx s', H dx = none → dx ≠ a → Inv X pins σ (upd (upd H a (exo a C (some dx))) dx (exd dx [(f, y)])) s' → Q () s') : wpAny (model X.prog X.w) A (setAttr (.ref a) f u) Q E s := by
  obtain ⟨cd, hcd, hh⟩ := T.data
  obtain ⟨t1, ho⟩ := exo_at I.hok e
  obtain ⟨hp, g, d, t, os⟩ := s
  refine PySem.W.set_plain I.kIn (ox := { cls := .ref C, dict := none, data := .fields #[.ref t1, .none, .none, .none, .bool false, .none] }) (od := none) ⟨ho, rfl, rfl, trivial⟩ T.sa ?_
  refine osa_first SF I.kIn ho hcd T.over hh (taker_of hno) fun h' tk' dx k dn dne hx hns => ?_
  have hnd : H dx = none := I.hok.fresh dn
  have J := I.write (t' := tk') (x := a) (e := a) (o := exo a C (some dx)) (by rw [e]; exact True.intro) (.inl rfl) k ⟨_, hx⟩ (exo_ok hx)
  refine h dx _ hnd dne (adopt J (by rw [upd_ne dne]; exact hnd) ?_ ?_ ?_ ?_ (exd_ok hns (relO_put (fs := []) ry fun _ => True.intro)))
  · cases z : X.s_0.heap.get? dx with
    | none => rfl
    | some o => exact absurd rfl (low_ne (Nat.lt_of_lt_of_le (Heap.lt_size z) I.sz) dn)
  · exact Ne.symm (low_ne I.lt dn)
  · intro x c ec
    obtain ⟨v, ob, eo, _⟩ := I.cell x c ec
    exact low_ne (Heap.lt_size eo) dn
  · intro p hp'
    exact low_ne (Heap.lt_size (I.pin p hp').1) dn
/-- B.__init__(self, ..) -/
theorem oinit_any {us : List Value} {Q : Value → Shared → Prop} {E : Value → Shared → Prop} {A : Around} (T : Own X.K newId bmB C) (F : ExcBaseFacts B newId initId bmB) (I : Inv X pins σ H s) (e : H a = some (exo a C none)) (hl : us.length ≤ sizeLine) (h : ∀ s', Inv X pins σ H s' → Q .none s') :
    wpAny (model X.prog X.w) A (call (.builtin initId) (.ref a :: us)) Q E s := by
  obtain ⟨nm, q, N, bs, sn, sub, ab, col, dd, k0, k1, k2, k3, k5, hC⟩ := T.cls
  obtain ⟨t1, ho⟩ := exo_at I.hok e
  obtain ⟨hp, g, d, t, os⟩ := s
  refine wpAny_call (HandSPX.init_base F (fun _ => rfl) (I.kIn _ _ hC) ho hl fun h' t2 k hx => ?_)
  have J := I.write (t' := t) (x := a) (e := a) (o := exo a C none) (by rw [e]; exact True.intro) (.inl rfl) k ⟨_, hx⟩ (exo_ok hx)
  have eu : upd H a (exo a C none) = H := by
    funext b
    unfold upd
    split
    · rename_i z; rw [z, e]
    · rfl
  rw [eu] at J
  exact h _ J
def tBi (K : PySem.W.Frag) (newId : String) (bmB : List Value) (ta : TA) : TE := fun σ H Q => ta σ H fun vs H1 => ∃ (a C : Addr) (ws : List V), vs = .ref a :: ws ∧ ws.length ≤ 1000 ∧ Own K newId bmB C ∧ H1 a = some (exo a C none) ∧ Q .non H1
def tOs (K : PySem.W.Frag) (newId : String) (bmB : List Value) (f : Str) (to te : TE) : TS := fun D σ H => te σ H fun y H1 => to σ H1 fun x H2 => ∃ a C : Addr, x = .ref a ∧ Own K newId bmB C ∧ PySem.W.findIn K (.ref C) f = some none ∧ H2 a = some (exo a C none) ∧
  ∀ dx, H2 dx = none → dx ≠ a → D.nx σ (upd (upd H2 a (exo a C (some dx))) dx (exd dx [(f, y)]))
theorem pe_binit {n : Str} {o e : Expr} {es : List Expr} {ta : TA} {p1 p2 pos : Pos} {pl : Sem Bool} (F : ExcBaseFacts B newId initId bmB) (hg : Gl X n) (hm : X.mg n = none) (hv : bootBuiltins n = some (.type B)) (hn : n ≠ "__name__") (hdb : (n == ("__debug__" : Str)) = false)
    (hty : typeOf (.type B) = pure (.type "type")) (hst : Manifest.isStub B = false) (hha : PySem.W.handedIn (.builtin initId) = true) (vV : PySem.W.findCls X.K (.type B) (.type "type") "__init__" = some (.val (.builtin initId))) (ha : PA X (e :: es) ta)
    (hc : eval (.Call (.Attribute (.Name n p1) "__init__" p2) (e :: es) [] pos) X.env = (do
      let ov ← eval (.Name n p1) X.env
      standAt p2.atName
      let (f, first) ← holding [ov] (getMethod ov "__init__" pl)
      callWith pos f first (backTo pos (starEach (e :: es) X.env)) (backToKw pos (keywordEach [] X.env))) := by rfl)
    (he : starEach (e :: es) X.env = (false, eval e X.env) :: starEach es X.env := by rfl) (hpl : (backTo pos (starEach es X.env)).any (·.1) = false := by rfl) :
    PE X (.Call (.Attribute (.Name n p1) "__init__" p2) (e :: es) [] pos) (tBi X.K newId bmB ta) := by
  refine ⟨fun pins s σ H Q I h => PySem.W.methodCall_KW (ld_blt I hg hm hv ?_ hn hdb) hc⟩
  obtain ⟨m, fr⟩ := I.fr
  refine PySem.W.method_type fr I.ok.mod.kin hty hst vV hha ?_
  show wpAny _ _ (callWith pos (Value.builtin initId) [] (backTo pos (starEach (e :: es) X.env)) []) _ _ _
  refine PyProof.Rows.callWith_method1 (thn (ha.run pos pins _ σ H _ (I.tok _) h) fun us s1 ⟨vs, H1, I1, r1, a, C, ws, ev, hl, T, ea, q⟩ => ?_) he hpl
  subst ev
  cases r1 with
  | @cons _ u0 _ ur ra rr =>
    obtain rfl : u0 = Value.ref a := ra
    exact oinit_any T F I1 ea (by rw [← Paired.length rr, sizeLine_eq]; omega) fun s' J => ⟨.non, H1, J, rfl, q⟩
theorem ps_os {o e : Expr} {to te : TE} {p' pos : Pos} (SF : StoreFacts B bmB "object.__setattr__" "object") (ho : PE X o to) (he : PE X e te) (hs : swapsWith e (some (.Attribute o f p')) pos.line X.env = pure false := by rfl) : PS X (.Assign [.Attribute o f p'] e pos) (tOs X.K newId bmB f to te) := by
  refine ⟨fun pins s σ H D I h => plainObj_wpAny_Assign_Attribute (thn (he.run pins s σ H _ I h) fun v s1 ⟨y, H1, I1, r1, q1⟩ => thn (ho.run pins s1 σ H1 _ I1 q1) fun u s2 ⟨x, H2, I2, r2, a, C, ex, T, hno, ea, q⟩ => ?_) hs⟩
  subst ex
  obtain rfl : u = Value.ref a := r2
  exact ost_one T SF I2 ea hno r1 fun dx s' n ne J => ⟨σ, _, J, q dx n ne⟩
/-- the new error is let go: the heap without it -/
theorem mk_gone {hp hp2 h2 : Heap} {g1 g2 : Array GenState} {d1 d2 : Drawn} {t1 t2 : Nat} {os1 os2 : OsState} {dv : Option Addr} (I1 : Inv X pins σ H1 ⟨hp, g1, d1, t1, os1⟩)
    (ha : hp.objs.size ≤ a) (k : ∀ b o, hp.get? b = some o → hp2.get? b = some o) (un : Un (frs X.stack) [] (upd H1 a (exo a C none)) H2 hp2 h2) (hok : HOk X.prog X.w H2 h2) (ho : os2 = os1) (hb : AllBare g2) (ea : H2 a = some (exo a C dv)) :
    ∃ (t0 : Addr) (G : Heap), Inv X pins σ (del H2 a) ⟨G, g2, d2, t2, os2⟩ ∧ (∀ b o, G.get? b = some o → h2.get? b = some o) ∧ G.get? a = none ∧
      h2.get? a = some ({ cls := .ref C, dict := dv, data := .fields #[.ref t0, .none, .none, .none, .bool false, .none] } : Obj) := by
  obtain ⟨t0, hoe⟩ := exo_at hok ea
  have hn : H1 a = none := I1.hok.fresh ha
  obtain ⟨G, g1', g2'⟩ := restrict h2 fun b => decide (b ≠ a)
  have gk : ∀ b, b ≠ a → G.get? b = h2.get? b := fun b q => g1' b (decide_eq_true q)
  have ga : G.get? a = none := g2' a (decide_eq_false (fun z => z rfl))
  have na : ∀ {b : Addr} {o : Obj}, hp.get? b = some o → b ≠ a := fun q => low_ne (Heap.lt_size q) ha
  have up : ∀ {b : Addr}, b ≠ a → H1 b = none → upd H1 a (exo a C none) b = none := fun q n => by rw [upd_ne q]; exact n
  have tr : ∀ {b : Addr} {u : HO}, H1 b = some u → upd H1 a (exo a C none) b = some u ∧ b ≠ a := fun q => ⟨by rw [upd_ne (ne_of_none q hn)]; exact q, ne_of_none q hn⟩
  have U : Un (frs X.stack) [] H1 (del H2 a) hp G := {
    keep := fun b o z n hf hx => by rw [gk b (na z)]; exact un.keep b o (k b o z) (up (na z) n) hf hx
    slot := fun b o z n hf hx => by rw [gk b (na z)]; exact un.slot b o (k b o z) (up (na z) n) hf hx
    free := fun b o z n hx => by rw [del_ne (na z)]; exact un.free b o (k b o z) (up (na z) n) hx
    there := fun b o z hx => by rw [gk b (na z)]; exact un.there b o (k b o z) hx
    tups := fun b xs z => by rw [del_ne (tr z).2]; exact un.tups b xs (tr z).1
    frzs := fun b o v z => by rw [del_ne (tr z).2]; exact un.frzs b o v (tr z).1
    tbls := fun b ps z => by rw [del_ne (tr z).2]; exact un.tbls b ps (tr z).1 }
  have hok3 : HOk X.prog X.w (del H2 a) G := fun b o z => by
    have hba : b ≠ a := fun e => by rw [e, del_same] at z; cases z
    rw [del_ne hba] at z
    have noa : ∀ {c : Addr}, H2 c = some (.own b) → c ≠ a := fun hc => at_ne ea hc exo_own
    refine (hok b o z).stay (fun c v hc y => ?_) (fun c hc => by rw [del_ne (noa hc)]; exact hc) (fun c xs hc => by rw [del_ne (at_ne ea hc exo_tup)]; exact hc)
    have hca : c ≠ a := hc.elim (fun q => by rw [q]; exact hba) noa
    rw [gk c hca]; exact y
  have J : Inv X pins σ (del H2 a) ⟨G, g2, d2, t2, os2⟩ := I1.call' (ch := []) ho U hok3 hb (fun b z => absurd z (by simp))
  refine ⟨t0, G, J, fun b o z => ?_, ga, hoe⟩
  by_cases hba : b = a
  · rw [hba, ga] at z; cases z
  · exact (gk b hba).symm.trans z
/-- C(e, ..), C's own __init__ keeping sp -/
def tMkE (C : Addr) (sp : Sp) (ta : TA) : L2.St → Hp → XK → Prop := fun σ H Q => ta σ H fun vs H1 => vs.length ≤ 1000 ∧ ∀ a, H1 a = none → sp (.ref a :: vs) (upd H1 a (exo a C none))
  (fun v H2 => v = .non ∧ ((H2 a = some (exo a C none) ∧ Q (.ref C) none (del H2 a)) ∨ ∃ (d : Addr) (fs : List (Str × V)), H2 a = some (exo a C (some d)) ∧ H2 d = some (exd d fs) ∧ Q (.ref C) (some d) (upd (del H2 a) d (.xd fs)))) (fun _ _ _ => False)
/-- what such a call leaves -/
theorem made_run {vs : List V} {us : List Value} {fI : Addr} {k : Nat} {fd : FuncData} {ps : List Str} {sp : Sp} {Q : XK} {CX : CXT} (T : Own X.K newId bmB C) (F : ExcBaseFacts B newId initId bmB) (iC : PySem.W.findIn X.K (.ref C) "__init__" = some (some (.ref fI))) (tI : PySem.W.typeIn X.K (.ref fI) = some (.type "function"))
    (F1 : FnOk X.prog X.w X.K X.mg X.base CX k fI fd ps sp) (hr : Room (k + 1) X.A) (hb : Binds X.K fd ps []) (hx : Passes CX X (fun _ _ _ => False)) (I1 : Inv X pins σ H1 s) (r1 : Vals vs us) (hz : vs.length ≤ 1000)
    (q1 : ∀ a, H1 a = none → sp (.ref a :: vs) (upd H1 a (exo a C none)) (fun v H2 => v = .non ∧ ((H2 a = some (exo a C none) ∧ Q (.ref C) none (del H2 a)) ∨ ∃ (d : Addr) (fs : List (Str × V)), H2 a = some (exo a C (some d)) ∧ H2 d = some (exd d fs) ∧ Q (.ref C) (some d) (upd (del H2 a) d (.xd fs)))) (fun _ _ _ => False)) :
    wpAny (model X.prog X.w) X.A (call (.ref C) us) (MkP X pins σ Q) X.xe s := by
  obtain ⟨nm, q, N, bs, sn, sub, ab, col, dd, k0, k1, k2, k3, k5, hC⟩ := T.cls
  obtain ⟨hp, g, dr, tk, os⟩ := s
  have hsz : hp.objs.size ≤ hp.objs.size + 1 := Nat.le_succ _
  have hq := q1 (hp.objs.size + 1) (I1.hok.fresh hsz)
  obtain ⟨hp2, ehp⟩ : ∃ hp2, hp2 = (hp.push (PySem.W.kdv_tup us)).push (HandSPX.excO C hp.objs.size) := ⟨_, rfl⟩
  have kk : ∀ b o, hp.get? b = some o → hp2.get? b = some o := fun b o e => by rw [ehp]; exact Heap.get?_push_of_some _ (Heap.get?_push_of_some _ e)
  have hget : hp2.get? (hp.objs.size + 1) = some (HandSPX.excO C hp.objs.size) := by rw [ehp]; heap_get
  have I2 : Inv X pins σ (upd H1 (hp.objs.size + 1) (exo (hp.objs.size + 1) C none)) ⟨hp2, g, dr, tk, os⟩ := I1.laid (t' := tk) kk hsz (exo_ok hget)
  have r2 : Vals (V.ref (hp.objs.size + 1) :: vs) (Value.ref (hp.objs.size + 1) :: us) := .cons rfl r1
  have hl : (Value.ref (hp.objs.size + 1) :: us ++ []).length = ps.length := by
    rw [List.append_nil, ← r2.length]; exact F1.len _ _ _ _ hq
  have hus : us.length ≤ sizeLine := by rw [← Paired.length r1, sizeLine_eq]; omega
  refine wpAny_call (HandSPX.call_own F (fun _ => rfl) (I1.kIn _ _ hC) (PySem.W.looks_findIn I1.kIn iC) (fun self => PySem.W.bind_fn I1.kIn self tI) hus ?_)
  rw [← ehp]
  refine codeAny_mono (F1.run _ X.stack _ _ ⟨Value.ref (hp.objs.size + 1) :: us, []⟩ (Value.ref (hp.objs.size + 1) :: us) _ _ (fun _ _ _ => False) (hr.make C us []) (I2.env0.make C us []) ?_ r2 hq) fun r s' hq' => ?_
  · have z := hb ⟨hp2, g, dr, tk, os⟩ (Value.ref (hp.objs.size + 1) :: us) I2.kIn hl
    rw [List.append_nil] at z; exact z
  cases r with
  | error er => exact hx pins σ _ _ er s' I2 hq'
  | ok fl =>
    cases fl with
    | ret u =>
      obtain ⟨v, H2, os2, bare2, un2, hok2, rv, ev, alt⟩ := hq'
      subst ev
      obtain ⟨h2, g2, d2, t2, os'⟩ := s'
      refine ⟨rv, ?_⟩
      rcases alt with ⟨ea, q2⟩ | ⟨d, fs, ea, ed, q2⟩
      · obtain ⟨t0, G, J, kG, ge, hoe⟩ := mk_gone (d2 := d2) (t2 := t2) I1 hsz kk un2 hok2 os2 bare2 ea
        exact ⟨_, _, _, ⟨G, g2, d2, t2, os'⟩, _, .ref C, none, rfl, J, kG, ge, hoe, ⟨rfl, rfl⟩, rfl, rfl, del_same, rfl, bare2, raises_own T.exC T.tyC, q2⟩
      · obtain ⟨t0, G, J, kG, ge, hoe⟩ := mk_gone (d2 := d2) (t2 := t2) I1 hsz kk un2 hok2 os2 bare2 ea
        have hda : d ≠ hp.objs.size + 1 := fun z => by
          rw [z] at ed
          obtain ⟨mA, ⟨ob, es, ep, e1, e2, _⟩, _⟩ := exd_at hok2 ed
          rw [hoe] at e1
          have z2 := Option.some.inj e1
          subst z2
          cases e2
        have ed' : del H2 (hp.objs.size + 1) d = some (exd d fs) := by rw [del_ne hda]; exact ed
        obtain ⟨mA, ns, rel⟩ := exd_at J.hok ed'
        have J2 := J.write (t' := t2) (h' := G) (x := d) (e := d) (o := .xd fs) (by rw [ed']; exact True.intro) (.inl rfl) (fun _ _ _ z => z) (by obtain ⟨ob, _, _, e1, _⟩ := ns; exact ⟨ob, e1⟩) ⟨mA, ns, rel⟩
        exact ⟨_, _, _, ⟨G, g2, d2, t2, os'⟩, _, .ref C, some d, rfl, J2, kG, ge, hoe, ⟨rfl, rfl⟩, rfl, rfl, by rw [upd_ne (Ne.symm hda)]; exact del_same, rfl, bare2, raises_own T.exC T.tyC, q2⟩
    | next => exact False.elim hq'
    | brk => exact False.elim hq'
    | cont => exact False.elim hq'
theorem pmk_e {x : Str} {fI : Addr} {k : Nat} {fd : FuncData} {ps : List Str} {sp : Sp} {CX : CXT} {e : Expr} {es : List Expr} {ta : TA} {p pos : Pos} (T : Own X.K newId bmB C) (F : ExcBaseFacts B newId initId bmB) (iC : PySem.W.findIn X.K (.ref C) "__init__" = some (some (.ref fI))) (tI : PySem.W.typeIn X.K (.ref fI) = some (.type "function"))
    (F1 : FnOk X.prog X.w X.K X.mg X.base CX k fI fd ps sp) (hr : Room (k + 1) X.A) (hb : Binds X.K fd ps []) (hx : Passes CX X (fun _ _ _ => False)) (hg : Gl X x) (hm : X.mg x = some (.ref C)) (ha : PA X (e :: es) ta)
    (hdb : (x == ("__debug__" : Str)) = false := by decide) (he : starEach (e :: es) X.env = (false, eval e X.env) :: starEach es X.env := by rfl) (hpl : (backTo pos (starEach es X.env)).any (·.1) = false := by rfl) :
    PMk X (.Call (.Name x p) (e :: es) [] pos) (tMkE C sp ta) := by
  intro pins s σ H Q I h
  refine wpAny_Call_Name_kw (ld_glob I hg hm ?_ hdb)
  exact PySem.W.callWith_K (h₀ := X.base) I.ok.mod.kin T.kC (thn (ha.run pos pins s σ H _ I h) fun us s1 ⟨vs, H1, I1, r1, hz, q1⟩ => ⟨I1.kIn, made_run T F iC tI F1 hr hb hx I1 r1 hz q1⟩) he hpl
end
end Pc
namespace Pc
open PySem PySem.Spec PyProof.Rows L2 RZ
/-! ### errors of the program: caught, kept, looked at -/
section
open PySem.W
variable {M : Model} {K : Frag} {h : Heap}
theorem Looks.bind' {α β : Type} {x : Sem α} {f : α → Sem β} {a : α} {b : β} (hx : Looks M h x a) (hf : Looks M h (f a) b) : Looks M h (x >>= f) b := fun A Q E s k q =>
  wpAny_bind (hx A _ E s k (hf A Q E s k q))
theorem loop_all {α β : Type} {f : α → β → Sem (ForInStep β)} {b : β} : ∀ cs : List α, (∀ c ∈ cs, Looks M h (f c b) (.yield b)) → Looks M h (forIn cs b f) b
  | [], _ => by rw [List.forIn_nil]; exact .now
  | c :: cs, hc => by
    rw [List.forIn_cons]
    exact Looks.bind' (hc c List.mem_cons_self) (loop_all cs fun c' h' => hc c' (List.mem_cons_of_mem _ h'))
theorem loop_any {α β : Type} {f : α → β → Sem (ForInStep β)} {b b1 : β} : ∀ (bs : List Bool) (cs : List α), bs.length = cs.length → bs.any id = true → (∀ (i : Nat) (c : α) (y : Bool), cs[i]? = some c → bs[i]? = some y → Looks M h (f c b) (if y = true then .done b1 else .yield b)) → Looks M h (forIn cs b f) b1
  | [], [], _, e, _ => absurd e (by decide)
  | y :: bs, c :: cs, hl, e, hc => by
    rw [List.forIn_cons]
    have h0 := hc 0 c y rfl rfl
    cases y with
    | true => exact Looks.bind' h0 .now
    | false => exact Looks.bind' h0 (loop_any bs cs (Nat.succ.inj hl) e fun i c' y' h1 h2 => hc (i + 1) c' y' h1 h2)
/-- an except clause with several classes, of which one is the error's -/
theorem exm_some {cls : Value} {cs : List Value} {tp e : Addr} {o : Obj} {n : Nat} (X : K.In h) (LT : Looks M h (typeOf (.ref e)) cls) (hp : h.get? tp = some o) (hc : o.cls = .type "tuple") (hd : o.data = .seq cs.toArray n) (bs : List Bool) (hl : bs.length = cs.length) (hb : bs.any id = true)
    (hx : ∀ (i : Nat) (c : Value) (y : Bool), cs[i]? = some c → bs[i]? = some y → exmOne K cls c = some y) : Looks M h (excMatches (.ref e) (.ref tp)) true := by
  have at_ : ∀ c ∈ cs, ∃ y, exmOne K cls c = some y := fun c hm => by
    obtain ⟨i, hi, rfl⟩ := List.getElem_of_mem hm
    exact ⟨bs[i]'(by omega), hx i _ _ (List.getElem?_eq_getElem hi) (List.getElem?_eq_getElem _)⟩
  have L0 : Looks M h (isInstance (.ref tp) (.type "tuple")) true := fun A Q E s k q => by
    refine wpAny_bind (wpAny_typeOf_ref (k _ _ hp) ?_)
    rw [hc]
    exact (Looks.of_pure isSubtype_tuple_tuple) A Q E s k q
  unfold excMatches
  refine Looks.bind' L0 ?_
  dsimp only
  rw [if_pos rfl]
  refine Looks.bind' (a := some cs.toArray) (fun A Q E s k q => wpAny_seqItems (k _ _ hp) hd q) ?_
  refine Looks.bind' (a := cs) .now ?_
  refine Looks.bind' (a := PUnit.unit) (loop_all cs fun c hm => ?_) ?_
  · obtain ⟨y, hy⟩ := at_ c hm
    refine Looks.bind' (exm_cls X hy).1 ?_
    exact .now
  refine Looks.bind' LT ?_
  refine Looks.bind' (loop_any (b1 := (some true, ())) bs cs hl hb fun i c y h1 h2 => Looks.bind' (exm_cls X (hx i c y h1 h2)).2 ?_) ?_
  · cases y <;> exact .now
  · exact .now
end
end Pc
namespace Pc
open PySem PySem.Spec PyProof.Rows L2 RZ
/-- an error that was caught and is kept: its class, its dict -/
def exk (a : Addr) (cls : Value) (d : Option Addr) : HO := .ext fun h => ∃ (oe : Obj) (vs : Array Value), h.get? a = some oe ∧ Zc cls d oe ∧ oe.data = .fields vs
theorem exk_ok {P : Program} {w : World} {H : Hp} {h : Heap} {a : Addr} {cls : Value} {d : Option Addr} {oe : Obj} {vs : Array Value} (e : h.get? a = some oe) (z : Zc cls d oe) (q : oe.data = .fields vs) : ObjOk P w H h a (exk a cls d) :=
  ⟨⟨oe, vs, e, z, q⟩, ⟨oe, e⟩, fun _ _ ⟨o, v, r, r'⟩ k => ⟨o, v, k o r, r'⟩⟩
theorem exk_at {P : Program} {w : World} {H : Hp} {h : Heap} {a : Addr} {cls : Value} {d : Option Addr} (hok : HOk P w H h) (e : H a = some (exk a cls d)) : ∃ (oe : Obj) (vs : Array Value), h.get? a = some oe ∧ Zc cls d oe ∧ oe.data = .fields vs := by
  have x : ObjOk P w H h a (.ext fun h => ∃ (oe : Obj) (vs : Array Value), h.get? a = some oe ∧ Zc cls d oe ∧ oe.data = .fields vs) := hok a _ e
  exact x.1
theorem fly_keeps {B h h' : Heap} {l : List PySem.Env} {e : Addr} {Z : Obj → Prop} (R : HandSPX.FlyingZ B l e Z h) (k : ∀ b o, h.get? b = some o → h'.get? b = some o) : HandSPX.FlyingZ B l e Z h' := by
  obtain ⟨f1, f2, f3, oe, ws, T, oT, ts, r1, r2, r3, r4, r5, r6, r7, r8⟩ := R
  exact ⟨fun b o q => k b o (f1 b o q), f2, f3.of_keeps fun b o q _ => ⟨o, k b o q, rfl⟩, oe, ws, T, oT, ts, k _ _ r1, r2, r3, r4, r5, r6, k _ _ r7, r8⟩
/-- names of classes, one by one -/
def NamesAll (X : Cx) (es : List Expr) (cs : List Value) : Prop := Paired (fun (e : Expr) c => ∃ (x : Str) (p : Pos), e = .Name x p ∧ Names X x c) es cs
theorem names_run {X : Cx} {pins : List (Addr × Obj)} {σ : L2.St} {H : Hp} {s : Shared} {E : Value → Shared → Prop} {pos : Pos} (I : Inv X pins σ H s) :
    ∀ {es : List Expr} {cs : List Value} {Q : List Value → Shared → Prop}, NamesAll X es cs → Q cs s → wpAny (model X.prog X.w) X.A (spliced (backTo pos (starEach es X.env))) Q E s := by
  intro es cs Q h
  revert Q
  induction h with
  | nil => intro Q q; exact wpAny_items_nil q
  | cons h1 _ ih =>
    intro Q q
    obtain ⟨x, p, rfl, hg, hdb, hm⟩ := h1
    refine wpAny_items_cons ?_
    rcases hm with hm | ⟨hm, hv, hn⟩
    · exact ld_glob I hg hm (ih q) hdb
    · exact ld_blt I hg hm hv (ih q) hn hdb
/-- of which classes the error is -/
def Hits (K : PySem.W.Frag) (cls : Value) (cs : List Value) : Prop := ∃ bs : List Bool, bs.length = cs.length ∧ bs.any id = true ∧ ∀ (i : Nat) (c : Value) (y : Bool), cs[i]? = some c → bs[i]? = some y → PySem.W.exmOne K cls c = some y
/-- what 'except (..) as n: suite' wishes of an error of the body (slot i is n's): the error is kept -/
def wKept (K : PySem.W.Frag) (cs : List Value) (i : Nat) (ts : Addr → TS) (D : Ends) : WX := fun cls d σ H => Hits K cls cs ∧ ∀ a, H a = none →
  ts a { nx := fun σ' H' => D.nx (σ'.set i none) (upd H' a (exk a cls d)), rt := fun _ _ => False } (σ.set i (some (.ref a))) H
section
variable {X : Cx} {n : Str} {i : Nat} {body suite : List Stmt} {b₀ : Stmt} {es : List Expr} {cs : List Value} {kk : Nat} {tpos pos pos' : Pos} {tb : WX → TS} {ts : Addr → TS}
theorem ps_try_kept (hex : X.ex = []) (hs : X.stack = X.env :: X.outer) (hf : X.env.frame = some X.env.locals) (hN : X.N.Nodup) (hi : X.N[i]? = some n) (hln : X.env.kindOf n = some .local) (hc : NamesAll X es cs) (hcl : cs.length ≤ 1000)
    (hb : ∀ (W : WX) (pn : List (Addr × Obj)) (xe : Value → Shared → Prop), Takes (X.tr pn xe) W → PassesOwn (model X.prog X.w) X.A X.env xe → PSs (X.tr pn xe) body (tb W))
    (hsu : ∀ (a : Addr) (oe : Obj) (pn : List (Addr × Obj)), PSs (X.suite a ((a, oe) :: pn)) (b₀ :: suite) (ts a)) :
    PS X (.Try body [.ExceptHandler (some (.Tuple es kk tpos)) (some n) (b₀ :: suite) pos'] [] [] pos) (fun D σ H => tb (wKept X.K cs i ts D) D σ H) := by
  refine ⟨fun pins s σ H D I h => ?_⟩
  have ok := I.ok
  have hfr : X.A.frames = some (X.env :: X.outer) := by rw [ok.frames, hs]
  refine wpAny_Try_except (wpAny_mono ((hb (wKept X.K cs i ts D) (X.pn ++ pins) (fun e s₁ => wpAny (model X.prog X.w) X.A (noteFrame e X.env) (fun _ s₂ => wpAny (model X.prog X.w) X.A (setFlight e none) (fun _ s₃ =>
    wpAny (model X.prog X.w) X.A (handleBy e X.env [.ExceptHandler (some (.Tuple es kk tpos)) (some n) (b₀ :: suite) pos']) (SP X pins D) X.xe s₃) X.xe s₂) X.xe s₁) (fun u s' xx => ?_) PassesOwn.looking).run [] s σ H D (I.toTry _) h) (fun f s1 hsp => ?_) (fun e s1 he => he))
  · obtain ⟨a, B, sI, pins', σ', H', cls, d, rfl, J', nb, up, sky, na, os, ag, ⟨bs, hbl, hba, hbx⟩, hyes⟩ := xx
    have J : Inv X pins σ' H' sI := J'.ofTry ok
    rw [hs] at sky
    show wpAny (model X.prog X.w) X.A (noteFrame (.ref a) X.env) _ _ _
    refine Sky.land Zc.steady hfr hf sky fun h3 fl3 up3 => ?_
    obtain ⟨oe3, vs3, he3, hz3, hd3⟩ := fl3.there
    have nfr : a ∉ frs (X.env :: X.outer) := fun hm => by
      obtain ⟨_, o', e', hnf⟩ := fl3.2.2.1.mem hm
      rw [he3] at e'; cases e'
      exact hnf _ hd3
    have nL : a ≠ X.env.locals := fun z => nfr (List.mem_filterMap.mpr ⟨X.env, List.mem_cons_self, by rw [hf, z]⟩)
    have nF : a ∉ X.fs := fun hm => by
      obtain ⟨e, he, q⟩ := List.mem_filterMap.mp hm
      exact nfr (List.mem_filterMap.mpr ⟨e, List.mem_cons_of_mem _ he, q⟩)
    have nI : sI.heap.get? a = none := by
      cases z : sI.heap.get? a with
      | none => rfl
      | some o =>
        have y := nb a o z (by rw [hs]; exact nfr)
        rw [fl3.2.1] at y; cases y
    have J3 : Inv X pins σ' H' { s' with heap := h3 } := J.landed nb fl3.1 (up.trans up3) os ag
    have S3 := J3.suite he3 hd3 na nL nF
    refine wpAny_handleBy_cons (codeAny_handlers_test (wpAny_Tuple_spliced (names_run (X := X.suite a ((a, oe3) :: (X.pn ++ pins))) (cs := cs) S3 (L2.Paired.mapP hc fun _ _ z => z) ⟨by rw [sizeLine_eq]; omega, ?_⟩))) (by intro q; cases q)
    dsimp only
    have kp : ∀ b o, h3.get? b = some o → (h3.push { cls := .type "tuple", data := .seq cs.toArray }).get? b = some o := fun _ _ z => Heap.get?_push_of_some _ z
    have LT : PySem.W.Looks (model X.prog X.w) (h3.push { cls := .type "tuple", data := .seq cs.toArray }) (typeOf (.ref a)) cls := fun A Q E s k q => wpAny_typeOf_ref (k _ _ (kp _ _ he3)) (by rw [hz3.1]; exact q)
    refine (exm_some (J3.kIn.keeps kp) LT (Heap.get?_push_size h3 rfl) rfl rfl bs hbl hba hbx).here ?_
    refine codeAny_handlers_suite_as (HandSPX.lands_againZ (fly_keeps fl3 kp) fun h4 fl4 up4 => ?_)
    have J4 : Inv X pins σ' H' { s' with heap := h4 } := J.landed nb fl4.1 (((up.trans up3).trans (Heap.UpToSlots.of_keeps kp)).trans up4) os ag
    obtain ⟨oe4, vs4, he4, hz4, hd4⟩ := fl4.there
    have S4 := J4.suite he4 hd4 na nL nF
    refine store_ok (X := X.suite a ((a, oe4) :: (X.pn ++ pins))) (v := .ref a) S4 hN hi (.inl hln) rfl (fun s5 S5 => ?_) (.inr hln)
    refine wpAny_mono ((hsu a oe4 (X.pn ++ pins)).run [] s5 _ H' _ S5 (hyes a na)) (fun f s6 hsp => ?_) (fun _ _ z => False.elim z)
    cases f with
    | next =>
      obtain ⟨σ6, H6, S6, q6⟩ := hsp
      refine gone_ok (X := X.suite a ((a, oe4) :: (X.pn ++ pins))) S6 hN hi hln fun s7 S7 => ⟨_, _, adopt (S7.unsuite ok) ?_ ?_ nL ?_ ?_ ?_, q6⟩
      · exact (S7.pin (a, oe4) (List.mem_append_left _ List.mem_cons_self)).2.1
      · cases z : X.s_0.heap.get? a with
        | none => rfl
        | some o =>
          obtain ⟨o', y⟩ := J.base.there a o z (by rw [hex]; exact fun q => nomatch q)
          rw [nI] at y; cases y
      · intro x c ec z
        obtain ⟨v, ob, eo, _⟩ := J.cell x c ec
        rw [z, nI] at eo; cases eo
      · intro p hp z
        have y := (J.pin p hp).1
        rw [z, nI] at y; cases y
      · exact exk_ok (S7.pin (a, oe4) (List.mem_append_left _ List.mem_cons_self)).1 hz4 hd4
    | brk => obtain ⟨σ6, H6, S6, q6⟩ := hsp; exact q6.elim
    | cont => obtain ⟨σ6, H6, S6, q6⟩ := hsp; exact q6.elim
    | ret u => obtain ⟨v6, σ6, H6, S6, r6, q6⟩ := hsp; exact q6.elim
  · cases f with
    | next => obtain ⟨σ', H', J', q⟩ := hsp; exact wpAny_execs_nil ⟨σ', H', J'.ofTry ok, q⟩
    | brk => obtain ⟨σ', H', J', q⟩ := hsp; exact ⟨σ', H', J'.ofTry ok, q⟩
    | cont => obtain ⟨σ', H', J', q⟩ := hsp; exact ⟨σ', H', J'.ofTry ok, q⟩
    | ret u => obtain ⟨v, σ', H', J', r, q⟩ := hsp; exact ⟨v, σ', H', J'.ofTry ok, r, q⟩
end
end Pc
namespace Pc
open PySem PySem.Spec PyProof.Rows L2 RZ
/-- what isinstance asks of the class of a kept error -/
structure KeptC (K : PySem.W.Frag) (C : Addr) : Prop where
  ga : PySem.W.findIn K (.ref C) "__getattribute__" = some (some (.builtin "BaseException.__getattribute__"))
  gg : PySem.W.findIn K (.ref C) "__getattr__" = some none
  exC : PySem.W.subIn K (.ref C) (.type "BaseException") = some true
  hdC : PySem.W.hasDictIn K C = true
  clC : PySem.W.findIn K (.ref C) "__class__" = some (some (.builtin "object.__class__"))
  mrO : PySem.W.mroIn K C (.type "object") = some true
  sp : PySem.W.specialIn K (.builtin "object.__class__") "__get__" = some (some (.builtin "getset_descriptor.__get__"))
  tk : PySem.W.takesIn K (.builtin "object.__class__") = some true
/-- a kept error with its dict -/
def Kept (H : Hp) (a C : Addr) (d : Option Addr) : Prop := H a = some (exk a (.ref C) d) ∧ (d = none ∨ ∃ dd fs, d = some dd ∧ H dd = some (.xd fs))
section
variable {X : Cx} {pins : List (Addr × Obj)} {σ : L2.St} {H : Hp} {s : Shared} {a C : Addr} {d : Option Addr}
theorem kept_inst (I : Inv X pins σ H s) (h : Kept H a C d) : ∃ (oe : Obj) (od : Option Obj), PySem.W.InstAt s.heap a oe C od := by
  obtain ⟨e, hd⟩ := h
  obtain ⟨oe, vs, ho, hz, hv⟩ := exk_at I.hok e
  have nc : PySem.W.notCls oe = true := by unfold PySem.W.notCls; rw [hv] <;> rfl
  rcases hd with rfl | ⟨dd, fs, rfl, ed⟩
  · exact ⟨oe, none, ho, hz.1, nc, by rw [hz.2]; trivial⟩
  · obtain ⟨mA, ⟨od, es, ep, q, _⟩, _⟩ := (show ObjOk X.prog X.w H s.heap dd (.xd fs) from I.hok dd _ ed)
    exact ⟨oe, some od, ho, hz.1, nc, by rw [hz.2]; exact q⟩
theorem kept_kit (T : KeptC X.K C) {oe : Obj} {od : Option Obj} : PySem.W.KitX X.K (.ref a) (.ref C) (fun h => PySem.W.InstAt h a oe C od) :=
  PySem.W.kitx_exc (by obtain ⟨cd, hc, _⟩ := PySem.W.any_some T.hdC; rw [hc]; rfl) T.ga T.gg T.exC T.clC T.sp T.tk T.mrO
/-- isinstance(e, c), e a kept error -/
def rIsk (K : PySem.W.Frag) : List V → Hp → VK → Prop := fun xs H Q => ∃ (a C : Addr) (d : Option Addr) (c : V) (u : Value) (b : Bool), xs = [.ref a, c] ∧ Kept H a C d ∧ KeptC K C ∧ ClsV c u ∧ PySem.W.kitOne K (.ref C) u = some b ∧ Q (.bl b) H
theorem call_isk : CallR X (.builtin "isinstance") (rIsk X.K) := by
  intro pins s σ H xs us Q I r h
  obtain ⟨a, C, d, c, u, b, rfl, hk, T, k, e, q⟩ := h
  obtain ⟨u1, u2, rfl, r1, r2⟩ := vals2 r
  cases (show u1 = Value.ref a from r1)
  have e2 := k.eq r2
  subst e2
  obtain ⟨oe, od, J⟩ := kept_inst I hk
  exact PySem.W.kia_one (kept_kit T) I.kIn J e (fun z => nomatch z) fun tk => ⟨.bl b, H, I.tok tk, rfl, q⟩
/-- isinstance(e, (c, ..)) -/
def rIskT (K : PySem.W.Frag) : List V → Hp → VK → Prop := fun xs H Q => ∃ (a C : Addr) (d : Option Addr) (tp : Addr) (cs : List V) (us : List Value) (b : Bool), xs = [.ref a, .ref tp] ∧ Kept H a C d ∧ KeptC K C ∧ H tp = some (.tup cs) ∧ Paired ClsV cs us ∧ PySem.W.kitAny K (.ref C) us = some b ∧ Q (.bl b) H
theorem call_iskT : CallR X (.builtin "isinstance") (rIskT X.K) := by
  intro pins s σ H xs us Q I r h
  obtain ⟨a, C, d, tp, cs, ws, b, rfl, hk, T, hT, k, e, q⟩ := h
  obtain ⟨u1, u2, rfl, r1, r2⟩ := vals2 r
  cases (show u1 = Value.ref a from r1)
  cases (show u2 = Value.ref tp from r2)
  obtain ⟨oe, od, J⟩ := kept_inst I hk
  obtain ⟨_, its, rv, o, h1, h2, n, h3⟩ := (show ObjOk X.prog X.w H s.heap tp (.tup cs) from I.hok tp _ hT)
  have e3 := ClsV.all k rv
  subst e3
  obtain ⟨oc, od', dt, sl⟩ := o
  simp only at h2 h3
  subst h2 h3
  exact PySem.W.kia_tup (kept_kit T) I.kIn J h1 e (fun z => nomatch z) fun tk => ⟨.bl b, H, I.tok tk, rfl, q⟩
/-- e.f, e a kept error -/
def tKf (K : PySem.W.Frag) (f : Str) (te : TE) : TE := fun σ H Q => te σ H fun x H1 => ∃ (a C dd : Addr) (fs : List (Str × V)) (v : V), x = .ref a ∧ H1 a = some (exk a (.ref C) (some dd)) ∧ KeptC K C ∧ PySem.W.findIn K (.ref C) f = some none ∧ H1 dd = some (.xd fs) ∧ fs.lookup f = some v ∧ Q v H1
theorem pe_kf {e : Expr} {te : TE} {f : Str} {pos : Pos} (he : PE X e te) (hb : attributeBase e f X.env (eval e X.env) = eval e X.env := by rfl) : PE X (.Attribute e f pos) (tKf X.K f te) := by
  refine ⟨fun pins s σ H Q I h => attr_of hb (thn (he.run pins s σ H _ I h) fun u s1 hh => ?_)⟩
  obtain ⟨x, H1, I1, rx, a, C, dd, fs, v, ex, ea, T, hno, ed, l, q⟩ := hh
  subst ex
  obtain rfl : u = Value.ref a := rx
  obtain ⟨oe, vs, ho, hz, hv⟩ := exk_at I1.hok ea
  obtain ⟨mA, hns, hr⟩ := (show ObjOk X.prog X.w H1 s1.heap dd (.xd fs) from I1.hok dd _ ed)
  obtain ⟨od, hod, hl⟩ := lookIn_ns hns
  obtain ⟨w', hw, rw'⟩ := RelO.some_of (v := v) (o := mA f) (by rw [← l]; exact hr f)
  have J : PySem.W.InstAt s1.heap a oe C (some od) := ⟨ho, hz.1, by unfold PySem.W.notCls; rw [hv] <;> rfl, by rw [hz.2]; exact hod⟩
  exact HandSPX.exc_get I1.kIn J T.ga T.gg T.exC (PySem.W.findObj_own T.hdC hno rfl (by rw [hl, hw])) (handed_of rw') ⟨v, H1, I1.tok _, rw', q⟩
end
end Pc
namespace Pc
open PySem PySem.Spec PyProof.Rows L2 RZ
/-! ### errors with one field: made, flying -/
/-- an error of the class at C with the field f flies, from the heap H on -/
def Flies (C : Addr) (f : Str) (v : V) (H : Hp) (E : XK) : Prop := ∀ d H', Same H H' → H d = none → H' d = some (.xd [(f, v)]) → E (.ref C) (some d) H'
theorem Flies.same {C : Addr} {f : Str} {v : V} {H H1 : Hp} {E : XK} (h : Flies C f v H E) (s : Same H H1) : Flies C f v H1 E := fun d H' s' n e => h d H' (s.trans s') (s.free n) e
def spInit1 (C : Addr) (f : Str) : Sp := fun vs H Q _ => ∃ (a : Addr) (v : V), vs = [.ref a, v] ∧ H a = some (exo a C none) ∧ ∀ dx, H dx = none → dx ≠ a → Q .non (upd (upd H a (exo a C (some dx))) dx (exd dx [(f, v)]))
theorem raised1 {C : Addr} {f : Str} {v : V} {H1 : Hp} {Q : XK} (h : Flies C f v H1 Q) : [v].length ≤ 1000 ∧ ∀ a, H1 a = none → spInit1 C f (.ref a :: [v]) (upd H1 a (exo a C none))
    (fun v' H2 => v' = .non ∧ ((H2 a = some (exo a C none) ∧ Q (.ref C) none (del H2 a)) ∨ ∃ (d : Addr) (fs : List (Str × V)), H2 a = some (exo a C (some d)) ∧ H2 d = some (exd d fs) ∧ Q (.ref C) (some d) (upd (del H2 a) d (.xd fs)))) (fun _ _ _ => False) := by
  refine ⟨(by show 1 ≤ 1000; decide), fun a na => ⟨a, v, rfl, upd_same, fun dx nd ne => ⟨rfl, .inr ⟨dx, [(f, v)], ?_, upd_same, h dx _ ?_ ?_ upd_same⟩⟩⟩⟩
  · rw [upd_ne (Ne.symm ne), upd_same]
  · intro b o hb
    have nd' : H1 dx = none := by rw [upd_ne ne] at nd; exact nd
    have hbd := ne_of_none hb nd'
    have hba := ne_of_none hb na
    rw [upd_ne hbd, del_ne hba, upd_ne hbd, upd_ne hba, upd_ne hba]
    exact hb
  · rw [upd_ne ne] at nd; exact nd
/-- the try's wish of such an error -/
theorem kept1 {K : PySem.W.Frag} {C : Addr} {f : Str} {v : V} {cs : List Value} {i : Nat} {ts : Addr → TS} {D : Ends} {σ : L2.St} {H : Hp} (hh : Hits K (.ref C) cs)
    (h : ∀ d H' a, Same H H' → H d = none → H' d = some (.xd [(f, v)]) → H' a = none → a ≠ d → ts a { nx := fun σ' H'' => D.nx (σ'.set i none) (upd H'' a (exk a (.ref C) (some d))), rt := fun _ _ => False } (σ.set i (some (.ref a))) H') :
    Flies C f v H (fun cls d H' => wKept K cs i ts D cls d σ H') := fun d H' s n e => ⟨hh, fun a na => h d H' a s n e na (fun z => by rw [z, e] at na; cases na)⟩
theorem Kept.mk1 {H' : Hp} {a d C : Addr} {fs : List (Str × V)} (e : H' d = some (.xd fs)) (n : H' a = none) : Kept (upd H' a (exk a (.ref C) (some d))) a C (some d) :=
  ⟨upd_same, .inr ⟨d, fs, rfl, by rw [upd_ne (ne_of_none e n)]; exact e⟩⟩
theorem Kept.same {H H' : Hp} {a C : Addr} {d : Option Addr} (h : Kept H a C d) (s : Same H H') : Kept H' a C d :=
  ⟨s _ _ h.1, h.2.imp id fun ⟨dd, fs, e, z⟩ => ⟨dd, fs, e, s _ _ z⟩⟩
theorem over_of {K : PySem.W.Frag} {C : Addr} {bmB : List Value} {newId : String} {nm q : Str} {N : Addr} {bs : List Value} {sn : List Str} {sub : List Value} {ab : Bool} {col : Option Bool} {dd : Option Addr} {k0 k1 k2 k3 k5 : Option Value}
    (h : K.lookup C = some (excClassObj nm q C N bs bmB true sn sub ab col dd k0 k1 k2 k3 k5 newId)) (ht : PySem.W.excTail bmB bmB = true) : PySem.W.excOver K C bmB = true := by
  have e : PySem.W.clsIn K C = some { name := nm, bases := bs, mro := .ref C :: bmB, ns := N, qualname := q, hasDict := true, slotNames := sn, subclasses := sub, abstract := ab, collection := col, hasDel := false } := by
    unfold PySem.W.clsIn
    rw [h] <;> rfl
  unfold PySem.W.excOver
  rw [e]
  show ((C == C) && PySem.W.excTail bmB bmB) = true
  rw [ht, beq_self_eq_true]; rfl
theorem kcls_of {K : PySem.W.Frag} {t : Value} {D : Addr} {b : Bool} (h2 : PySem.W.isClsIn K D = true) (h3 : PySem.W.typeIn K (.ref D) = some (.type "type")) (h4 : PySem.W.subIn K t (.ref D) = some b) : PySem.W.kitCls K t (.ref D) = some b := by
  have e2 : ((PySem.W.clsIn K D).isSome && PySem.W.typeIn K (.ref D) == some (.type "type")) = true := by
    have h2' : (PySem.W.clsIn K D).isSome = true := h2
    rw [h2', h3] <;> rfl
  show (if ((PySem.W.clsIn K D).isSome && PySem.W.typeIn K (.ref D) == some (.type "type")) = true then PySem.W.subIn K t (.ref D) else none) = some b
  rw [if_pos e2]
  exact h4
theorem exm_of' {K : PySem.W.Frag} {t : Value} {D : Addr} {b : Bool} (h1 : PySem.W.subIn K (.ref D) (.type "BaseException") = some true) (h2 : PySem.W.isClsIn K D = true) (h3 : PySem.W.typeIn K (.ref D) = some (.type "type")) (h4 : PySem.W.subIn K t (.ref D) = some b) : PySem.W.exmOne K t (.ref D) = some b := by
  have e1 : (PySem.W.subIn K (.ref D) (.type "BaseException") == some true) = true := by rw [h1] <;> rfl
  show (if (PySem.W.subIn K (.ref D) (.type "BaseException") == some true) = true then PySem.W.kitCls K t (.ref D) else none) = some b
  rw [if_pos e1]
  exact kcls_of h2 h3 h4
theorem kit_own {K : PySem.W.Frag} {C D : Addr} {b : Bool} (h0 : PySem.W.subIn K (.ref C) (.ref C) = some true) (h2 : PySem.W.isClsIn K D = true) (h3 : PySem.W.typeIn K (.ref D) = some (.type "type")) (h4 : PySem.W.subIn K (.ref C) (.ref D) = some b) : PySem.W.kitOne K (.ref C) (.ref D) = some b := by
  by_cases e : C = D
  · subst e
    rw [h0] at h4
    rw [← h4]
    show (if ((Value.ref C) == (Value.ref C)) = true then some true else _) = some true
    rw [if_pos (beq_self_eq_true _)]
  · have n : ((Value.ref C) == (Value.ref D)) = false := beq_false_of_ne (fun z => e (Value.ref.inj z))
    show (if ((Value.ref C) == (Value.ref D)) = true then some true else PySem.W.kitCls K (.ref C) (.ref D)) = some b
    rw [if_neg (by rw [n]; exact Bool.false_ne_true)]
    exact kcls_of h2 h3 h4
theorem kit_blt {K : PySem.W.Frag} {C : Addr} {T : String} {b : Bool} (hm : PySem.W.kitMeta T = true) (h4 : PySem.W.subIn K (.ref C) (.type T) = some b) : PySem.W.kitOne K (.ref C) (.type T) = some b := by
  have n : ((Value.ref C) == (Value.type T)) = false := beq_false_of_ne (fun z => nomatch z)
  show (if ((Value.ref C) == (Value.type T)) = true then some true else (if PySem.W.kitMeta T = true then PySem.W.subIn K (.ref C) (.type T) else none)) = some b
  rw [if_neg (by rw [n]; exact Bool.false_ne_true), if_pos hm]
  exact h4
theorem kit_all {K : PySem.W.Frag} {t : Value} : ∀ {us : List Value}, (∀ u ∈ us, PySem.W.kitOne K t u = some false) → PySem.W.kitAny K t us = some false
  | [], _ => rfl
  | u :: us, h => by
    show (match PySem.W.kitOne K t u with | some true => some true | some false => PySem.W.kitAny K t us | none => none) = some false
    rw [h u List.mem_cons_self]
    exact kit_all fun x hx => h x (List.mem_cons_of_mem _ hx)
end Pc
namespace Pc
open PySem PySem.Spec PyProof.Rows L2 RZ
theorem kit_nil {K : PySem.W.Frag} {t : Value} : PySem.W.kitAny K t [] = some false := rfl
theorem kit_cons {K : PySem.W.Frag} {t u : Value} {us : List Value} (h : PySem.W.kitOne K t u = some false) (r : PySem.W.kitAny K t us = some false) : PySem.W.kitAny K t (u :: us) = some false := by
  show (match PySem.W.kitOne K t u with | some true => some true | some false => PySem.W.kitAny K t us | none => none) = some false
  rw [h]
  exact r
theorem hits_of {K : PySem.W.Frag} {cls : Value} {cs : List Value} (bs : List Bool) (hb : bs.any id = true) (h : Paired (fun c b => PySem.W.exmOne K cls c = some b) cs bs) : Hits K cls cs :=
  ⟨bs, h.length.symm, hb, fun i c y hc hy => by
    obtain ⟨y', e, z⟩ := paired_get h hc
    rw [hy] at e; cases e
    exact z⟩
end Pc
namespace Pc
open PySem PySem.Spec PyProof.Rows L2 RZ
/-- two promises of one def -/
theorem FnOk.or {P : Program} {w : World} {K : PySem.W.Frag} {mg : Str → Option Value} {base : Heap} {CX : CXT} {k : Nat} {f : Addr} {fd : FuncData} {ps : List Str} {sp sp' : Sp} (F : FnOk P w K mg base CX k f fd ps sp) (G : FnOk P w K mg base CX k f fd ps sp') :
    FnOk P w K mg base CX k f fd ps (fun vs H Q E => sp vs H Q E ∨ sp' vs H Q E) where
  len vs H Q E h := h.elim (F.len vs H Q E) (G.len vs H Q E)
  run A outer s H args us vs Q E hr e0 hb r h := h.elim (F.run A outer s H args us vs Q E hr e0 hb r) (G.run A outer s H args us vs Q E hr e0 hb r)
end Pc
namespace Pc
open PySem PySem.Spec PyProof.Rows L2 RZ
def topS (i : Nat) : Stmt := PySem.Challenge.pw_partnercall_k78_whole_words_that_do_the.main.body.getD i (.Pass ⟨0, 0, 0, 0⟩)
abbrev s_p_is_integer_below : Stmt := topS 4
abbrev N_p_is_integer_below : List Str := ["value", "limit"]
theorem sc_p_is_integer_below : FnScope ["value", "limit"] ["value", "limit"] (defScope s_p_is_integer_below) := ⟨rfl, rfl, rfl, by decide +kernel, rfl, by decide +kernel, by decide +kernel⟩
abbrev s_p_joins_in_pairs : Stmt := topS 5
abbrev N_p_joins_in_pairs : List Str := ["value", "at", "other", "item"]
theorem sc_p_joins_in_pairs : FnScope ["value", "at", "other", "item"] ["value"] (defScope s_p_joins_in_pairs) := ⟨rfl, rfl, rfl, by decide +kernel, rfl, by decide +kernel, by decide +kernel⟩
abbrev s_p_is_pairing : Stmt := topS 6
abbrev N_p_is_pairing : List Str := ["value"]
theorem sc_p_is_pairing : FnScope ["value"] ["value"] (defScope s_p_is_pairing) := ⟨rfl, rfl, rfl, by decide +kernel, rfl, by decide +kernel, by decide +kernel⟩
abbrev s_p_couples : Stmt := topS 7
abbrev N_p_couples : List Str := ["pairing", "x", "y"]
theorem sc_p_couples : FnScope ["pairing", "x", "y"] ["pairing"] (defScope s_p_couples) := ⟨rfl, rfl, rfl, by decide +kernel, rfl, by decide +kernel, by decide +kernel⟩
abbrev s_p_pairing_of : Stmt := topS 8
abbrev N_p_pairing_of : List Str := ["couples", "partners", "x", "y"]
theorem sc_p_pairing_of : FnScope ["couples", "partners", "x", "y"] ["couples"] (defScope s_p_pairing_of) := ⟨rfl, rfl, rfl, by decide +kernel, rfl, by decide +kernel, by decide +kernel⟩
abbrev s_p_pairings_many : Stmt := topS 9
abbrev N_p_pairings_many : List Str := ["size", "many", "factor"]
theorem sc_p_pairings_many : FnScope ["size", "many", "factor"] ["size"] (defScope s_p_pairings_many) := ⟨rfl, rfl, rfl, by decide +kernel, rfl, by decide +kernel, by decide +kernel⟩
abbrev s_p_pairing_at : Stmt := topS 10
abbrev N_p_pairing_at : List Str := ["size", "number", "many", "found", "free", "rest", "person", "choice"]
theorem sc_p_pairing_at : FnScope ["size", "number", "many", "found", "free", "rest", "person", "choice"] ["size", "number"] (defScope s_p_pairing_at) := ⟨rfl, rfl, rfl, by decide +kernel, rfl, by decide +kernel, by decide +kernel⟩
abbrev s_p_join_two : Stmt := topS 12
abbrev N_p_join_two : List Str := ["joined", "a", "b", "left", "right"]
theorem sc_p_join_two : FnScope ["joined", "a", "b", "left", "right"] ["joined", "a", "b"] (defScope s_p_join_two) := ⟨rfl, rfl, rfl, by decide +kernel, rfl, by decide +kernel, by decide +kernel⟩
abbrev s_p_people_of : Stmt := topS 14
abbrev N_p_people_of : List Str := ["sheet"]
theorem sc_p_people_of : FnScope ["sheet"] ["sheet"] (defScope s_p_people_of) := ⟨rfl, rfl, rfl, by decide +kernel, rfl, by decide +kernel, by decide +kernel⟩
abbrev s_p_check_sizes : Stmt := topS 15
abbrev N_p_check_sizes : List Str := ["first", "second"]
theorem sc_p_check_sizes : FnScope ["first", "second"] ["first", "second"] (defScope s_p_check_sizes) := ⟨rfl, rfl, rfl, by decide +kernel, rfl, by decide +kernel, by decide +kernel⟩
abbrev s_p_lower_pairs : Stmt := topS 16
abbrev N_p_lower_pairs : List Str := ["sheet", "size", "x"]
theorem sc_p_lower_pairs : FnScope ["sheet", "size", "x"] ["sheet"] (defScope s_p_lower_pairs) := ⟨rfl, rfl, rfl, by decide +kernel, rfl, by decide +kernel, by decide +kernel⟩
abbrev s_p_strands : Stmt := topS 17
abbrev N_p_strands : List Str := ["sheet", "size", "x"]
theorem sc_p_strands : FnScope ["sheet", "size", "x"] ["sheet"] (defScope s_p_strands) := ⟨rfl, rfl, rfl, by decide +kernel, rfl, by decide +kernel, by decide +kernel⟩
abbrev s_p_followed_path : Stmt := topS 19
abbrev N_p_followed_path : List Str := ["sheet", "pairing", "person", "size", "ends", "partner"]
theorem sc_p_followed_path : FnScope ["sheet", "pairing", "person", "size", "ends", "partner"] ["sheet", "pairing", "person"] (defScope s_p_followed_path) := ⟨rfl, rfl, rfl, by decide +kernel, rfl, by decide +kernel, by decide +kernel⟩
abbrev s_p_result : Stmt := topS 20
abbrev N_p_result : List Str := ["sheet", "pairing", "size", "person"]
theorem sc_p_result : FnScope ["sheet", "pairing", "size", "person"] ["sheet", "pairing"] (defScope s_p_result) := ⟨rfl, rfl, rfl, by decide +kernel, rfl, by decide +kernel, by decide +kernel⟩
abbrev s_p_loose_people : Stmt := topS 22
abbrev N_p_loose_people : List Str := ["sheet", "size", "person"]
theorem sc_p_loose_people : FnScope ["sheet", "size", "person"] ["sheet"] (defScope s_p_loose_people) := ⟨rfl, rfl, rfl, by decide +kernel, rfl, by decide +kernel, by decide +kernel⟩
abbrev s_p_result_at : Stmt := topS 23
abbrev N_p_result_at : List Str := ["sheet", "number", "people", "chosen", "x", "y"]
theorem sc_p_result_at : FnScope ["sheet", "number", "people", "chosen", "x", "y"] ["sheet", "number"] (defScope s_p_result_at) := ⟨rfl, rfl, rfl, by decide +kernel, rfl, by decide +kernel, by decide +kernel⟩
abbrev s_p_crossings : Stmt := topS 25
abbrev N_p_crossings : List Str := ["sheet", "above", "found", "number", "ends", "at", "other", "x", "y"]
theorem sc_p_crossings : FnScope ["sheet", "above", "found", "number", "ends", "at", "other", "x", "y"] ["sheet"] (defScope s_p_crossings) := ⟨rfl, rfl, rfl, by decide +kernel, rfl, by decide +kernel, by decide +kernel⟩
abbrev s_p_do_same : Stmt := topS 26
abbrev N_p_do_same : List Str := ["one", "other", "first", "second"]
theorem sc_p_do_same : FnScope ["one", "other", "first", "second"] ["one", "other"] (defScope s_p_do_same) := ⟨rfl, rfl, rfl, by decide +kernel, rfl, by decide +kernel, by decide +kernel⟩
abbrev s_p_behind_call : Stmt := topS 27
abbrev N_p_behind_call : List Str := ["sheet", "call", "a", "b", "ends"]
theorem sc_p_behind_call : FnScope ["sheet", "call", "a", "b", "ends"] ["sheet", "call"] (defScope s_p_behind_call) := ⟨rfl, rfl, rfl, by decide +kernel, rfl, by decide +kernel, by decide +kernel⟩
abbrev s_p_parting_couple : Stmt := topS 28
abbrev N_p_parting_couple : List Str := ["one", "other", "free", "possible", "partner", "call"]
theorem sc_p_parting_couple : FnScope ["one", "other", "free", "possible", "partner", "call"] ["one", "other", "free"] (defScope s_p_parting_couple) := ⟨rfl, rfl, rfl, by decide +kernel, rfl, by decide +kernel, by decide +kernel⟩
abbrev s_p_parting : Stmt := topS 29
abbrev N_p_parting : List Str := ["one", "other", "first", "second", "found", "free", "couple", "person"]
theorem sc_p_parting : FnScope ["one", "other", "first", "second", "found", "free", "couple", "person"] ["one", "other"] (defScope s_p_parting) := ⟨rfl, rfl, rfl, by decide +kernel, rfl, by decide +kernel, by decide +kernel⟩
abbrev s_p_shows_parting : Stmt := topS 30
abbrev N_p_shows_parting : List Str := ["one", "other", "value"]
theorem sc_p_shows_parting : FnScope ["one", "other", "value"] ["one", "other", "value"] (defScope s_p_shows_parting) := ⟨rfl, rfl, rfl, by decide +kernel, rfl, by decide +kernel, by decide +kernel⟩
abbrev s_stream : Stmt := topS 32
abbrev N_stream : List Str := ["_law_script", "_law_k", "_law_cell"]
theorem sc_stream : FnScope ["_law_script", "_law_k", "_law_cell"] ["_law_script", "_law_k"] (defScope s_stream) := ⟨rfl, rfl, rfl, by decide +kernel, rfl, by decide +kernel, by decide +kernel⟩
abbrev s_draw : Stmt := topS 33
abbrev N_draw : List Str := ["_law_source", "_law_bound", "_law_found", "_law_once", "_law_twice"]
theorem sc_draw : FnScope ["_law_source", "_law_bound", "_law_found", "_law_once", "_law_twice"] ["_law_source", "_law_bound"] (defScope s_draw) := ⟨rfl, rfl, rfl, by decide +kernel, rfl, by decide +kernel, by decide +kernel⟩
abbrev s_folded : Stmt := topS 34
abbrev N_folded : List Str := ["_law_script", "_law_most", "_law_cells", "_law_k", "_law_cell"]
theorem sc_folded : FnScope ["_law_script", "_law_most", "_law_cells", "_law_k", "_law_cell"] ["_law_script", "_law_most"] (defScope s_folded) := ⟨rfl, rfl, rfl, by decide +kernel, rfl, by decide +kernel, by decide +kernel⟩
abbrev s_pick : Stmt := topS 35
abbrev N_pick : List Str := ["_law_source", "_law_some"]
theorem sc_pick : FnScope ["_law_source", "_law_some"] ["_law_source", "_law_some"] (defScope s_pick) := ⟨rfl, rfl, rfl, by decide +kernel, rfl, by decide +kernel, by decide +kernel⟩
abbrev s_same : Stmt := topS 36
abbrev N_same : List Str := ["_law_found", "_law_due", "_law_mine", "_law_its"]
theorem sc_same : FnScope ["_law_found", "_law_due", "_law_mine", "_law_its"] ["_law_found", "_law_due"] (defScope s_same) := ⟨rfl, rfl, rfl, by decide +kernel, rfl, by decide +kernel, by decide +kernel⟩
abbrev s_shuffled : Stmt := topS 37
abbrev N_shuffled : List Str := ["_law_source", "_law_some", "_law_left", "_law_found"]
theorem sc_shuffled : FnScope ["_law_source", "_law_some", "_law_left", "_law_found"] ["_law_source", "_law_some"] (defScope s_shuffled) := ⟨rfl, rfl, rfl, by decide +kernel, rfl, by decide +kernel, by decide +kernel⟩
abbrev s_random_pairing : Stmt := topS 38
abbrev N_random_pairing : List Str := ["_law_source", "_law_crowd", "_law_row", "_law_found", "_law_at"]
theorem sc_random_pairing : FnScope ["_law_source", "_law_crowd", "_law_row", "_law_found", "_law_at"] ["_law_source", "_law_crowd"] (defScope s_random_pairing) := ⟨rfl, rfl, rfl, by decide +kernel, rfl, by decide +kernel, by decide +kernel⟩
abbrev s_random_call : Stmt := topS 39
abbrev N_random_call : List Str := ["_law_source", "_law_some", "_law_duo"]
theorem sc_random_call : FnScope ["_law_source", "_law_some", "_law_duo"] ["_law_source", "_law_some"] (defScope s_random_call) := ⟨rfl, rfl, rfl, by decide +kernel, rfl, by decide +kernel, by decide +kernel⟩
abbrev s_random_word : Stmt := topS 40
abbrev N_random_word : List Str := ["_law_source", "_law_crowd", "_law_most", "_law_some", "_law_turn"]
theorem sc_random_word : FnScope ["_law_source", "_law_crowd", "_law_most", "_law_some", "_law_turn"] ["_law_source", "_law_crowd", "_law_most"] (defScope s_random_word) := ⟨rfl, rfl, rfl, by decide +kernel, rfl, by decide +kernel, by decide +kernel⟩
abbrev s_joined_ends : Stmt := topS 41
abbrev N_joined_ends : List Str := ["_law_crowd", "_law_tape", "_law_page", "_law_left", "_law_right_here", "_law_low", "_law_high", "_law_one_end", "_law_two_end"]
theorem sc_joined_ends : FnScope ["_law_crowd", "_law_tape", "_law_page", "_law_left", "_law_right_here", "_law_low", "_law_high", "_law_one_end", "_law_two_end"] ["_law_crowd", "_law_tape"] (defScope s_joined_ends) := ⟨rfl, rfl, rfl, by decide +kernel, rfl, by decide +kernel, by decide +kernel⟩
abbrev s_read : Stmt := topS 42
abbrev N_read : List Str := ["_law_page", "_law_start", "_law_crowd", "_law_found", "_law_spot", "_law_here"]
theorem sc_read : FnScope ["_law_page", "_law_start", "_law_crowd", "_law_found", "_law_spot", "_law_here"] ["_law_page", "_law_start"] (defScope s_read) := ⟨rfl, rfl, rfl, by decide +kernel, rfl, by decide +kernel, by decide +kernel⟩
abbrev s_all_pairings : Stmt := topS 43
abbrev N_all_pairings : List Str := ["_law_crowd", "_law_found", "_law_turn", "_law_longer", "_law_some", "_law_met", "_law_free", "_law_spot", "_law_duo", "_law_mate_here"]
theorem sc_all_pairings : FnScope ["_law_crowd", "_law_found", "_law_turn", "_law_longer", "_law_some", "_law_met", "_law_free", "_law_spot", "_law_duo", "_law_mate_here"] ["_law_crowd"] (defScope s_all_pairings) := ⟨rfl, rfl, rfl, by decide +kernel, rfl, by decide +kernel, by decide +kernel⟩
abbrev s_joined_up : Stmt := topS 44
abbrev N_joined_up : List Str := ["_law_some", "_law_found", "_law_left", "_law_right_here"]
theorem sc_joined_up : FnScope ["_law_some", "_law_found", "_law_left", "_law_right_here"] ["_law_some"] (defScope s_joined_up) := ⟨rfl, rfl, rfl, by decide +kernel, rfl, by decide +kernel, by decide +kernel⟩
abbrev s_exchanged : Stmt := topS 45
abbrev N_exchanged : List Str := ["_law_source", "_law_page", "_law_crowd", "_law_found", "_law_end", "_law_uppers", "_law_order", "_law_kind", "_law_there"]
theorem sc_exchanged : FnScope ["_law_source", "_law_page", "_law_crowd", "_law_found", "_law_end", "_law_uppers", "_law_order", "_law_kind", "_law_there"] ["_law_source", "_law_page"] (defScope s_exchanged) := ⟨rfl, rfl, rfl, by decide +kernel, rfl, by decide +kernel, by decide +kernel⟩
abbrev s_mate : Stmt := topS 46
abbrev N_mate : List Str := ["_law_source", "_law_page", "_law_crowd", "_law_kind", "_law_found", "_law_ends", "_law_low", "_law_high", "_law_one_end", "_law_two_end"]
theorem sc_mate : FnScope ["_law_source", "_law_page", "_law_crowd", "_law_kind", "_law_found", "_law_ends", "_law_low", "_law_high", "_law_one_end", "_law_two_end"] ["_law_source", "_law_page"] (defScope s_mate) := ⟨rfl, rfl, rfl, by decide +kernel, rfl, by decide +kernel, by decide +kernel⟩
abbrev s_right : Stmt := topS 47
abbrev N_right : List Str := ["_law_source", "_law_crowd", "_law_every", "_law_turn", "_law_page", "_law_mate_here", "_law_apart", "_law_found", "_law_start"]
theorem sc_right : FnScope ["_law_source", "_law_crowd", "_law_every", "_law_turn", "_law_page", "_law_mate_here", "_law_apart", "_law_found", "_law_start"] ["_law_source"] (defScope s_right) := ⟨rfl, rfl, rfl, by decide +kernel, rfl, by decide +kernel, by decide +kernel⟩
abbrev s_law : Stmt := topS 48
abbrev N_law : List Str := ["_law_script", "_law_cells", "_law_k", "_law_source", "_law_turn"]
theorem sc_law : FnScope ["_law_script", "_law_cells", "_law_k", "_law_source", "_law_turn"] ["_law_script"] (defScope s_law) := ⟨rfl, rfl, rfl, by decide +kernel, rfl, by decide +kernel, by decide +kernel⟩
set_option genInjectivity false in
set_option genSizeOf false in
structure Env (K : PySem.W.Frag) (mg : Str → Option Value) where
  n_isinstance : mg "isinstance" = none
  n_int : mg "int" = none
  n_bool : mg "bool" = none
  n_len : mg "len" = none
  n_tuple : mg "tuple" = none
  n_all : mg "all" = none
  n_enumerate : mg "enumerate" = none
  n_range : mg "range" = none
  n_list : mg "list" = none
  n_divmod : mg "divmod" = none
  n_abs : mg "abs" = none
  n_zip : mg "zip" = none
  n_str : mg "str" = none
  n_min : mg "min" = none
  n_max : mg "max" = none
  n_sum : mg "sum" = none
  n_sorted : mg "sorted" = none
  f_p_is_integer_below : Addr
  d_p_is_integer_below : FuncData
  F_p_is_integer_below : Fun K "is_integer_below" "is_integer_below" s_p_is_integer_below f_p_is_integer_below d_p_is_integer_below
  g_p_is_integer_below : mg "is_integer_below" = some (.ref f_p_is_integer_below)
  f_p_joins_in_pairs : Addr
  d_p_joins_in_pairs : FuncData
  F_p_joins_in_pairs : Fun K "joins_in_pairs" "joins_in_pairs" s_p_joins_in_pairs f_p_joins_in_pairs d_p_joins_in_pairs
  g_p_joins_in_pairs : mg "joins_in_pairs" = some (.ref f_p_joins_in_pairs)
  f_p_is_pairing : Addr
  d_p_is_pairing : FuncData
  F_p_is_pairing : Fun K "is_pairing" "is_pairing" s_p_is_pairing f_p_is_pairing d_p_is_pairing
  g_p_is_pairing : mg "is_pairing" = some (.ref f_p_is_pairing)
  f_p_couples : Addr
  d_p_couples : FuncData
  F_p_couples : Fun K "couples" "couples" s_p_couples f_p_couples d_p_couples
  g_p_couples : mg "couples" = some (.ref f_p_couples)
  f_p_pairing_of : Addr
  d_p_pairing_of : FuncData
  F_p_pairing_of : Fun K "pairing_of" "pairing_of" s_p_pairing_of f_p_pairing_of d_p_pairing_of
  g_p_pairing_of : mg "pairing_of" = some (.ref f_p_pairing_of)
  f_p_pairings_many : Addr
  d_p_pairings_many : FuncData
  F_p_pairings_many : Fun K "pairings_many" "pairings_many" s_p_pairings_many f_p_pairings_many d_p_pairings_many
  g_p_pairings_many : mg "pairings_many" = some (.ref f_p_pairings_many)
  f_p_pairing_at : Addr
  d_p_pairing_at : FuncData
  F_p_pairing_at : Fun K "pairing_at" "pairing_at" s_p_pairing_at f_p_pairing_at d_p_pairing_at
  g_p_pairing_at : mg "pairing_at" = some (.ref f_p_pairing_at)
  f_p_join_two : Addr
  d_p_join_two : FuncData
  F_p_join_two : Fun K "join_two" "join_two" s_p_join_two f_p_join_two d_p_join_two
  g_p_join_two : mg "join_two" = some (.ref f_p_join_two)
  f_p_people_of : Addr
  d_p_people_of : FuncData
  F_p_people_of : Fun K "people_of" "people_of" s_p_people_of f_p_people_of d_p_people_of
  g_p_people_of : mg "people_of" = some (.ref f_p_people_of)
  f_p_check_sizes : Addr
  d_p_check_sizes : FuncData
  F_p_check_sizes : Fun K "check_sizes" "check_sizes" s_p_check_sizes f_p_check_sizes d_p_check_sizes
  g_p_check_sizes : mg "check_sizes" = some (.ref f_p_check_sizes)
  f_p_lower_pairs : Addr
  d_p_lower_pairs : FuncData
  F_p_lower_pairs : Fun K "lower_pairs" "lower_pairs" s_p_lower_pairs f_p_lower_pairs d_p_lower_pairs
  g_p_lower_pairs : mg "lower_pairs" = some (.ref f_p_lower_pairs)
  f_p_strands : Addr
  d_p_strands : FuncData
  F_p_strands : Fun K "strands" "strands" s_p_strands f_p_strands d_p_strands
  g_p_strands : mg "strands" = some (.ref f_p_strands)
  f_p_followed_path : Addr
  d_p_followed_path : FuncData
  F_p_followed_path : Fun K "followed_path" "followed_path" s_p_followed_path f_p_followed_path d_p_followed_path
  g_p_followed_path : mg "followed_path" = some (.ref f_p_followed_path)
  f_p_result : Addr
  d_p_result : FuncData
  F_p_result : Fun K "result" "result" s_p_result f_p_result d_p_result
  g_p_result : mg "result" = some (.ref f_p_result)
  f_p_loose_people : Addr
  d_p_loose_people : FuncData
  F_p_loose_people : Fun K "loose_people" "loose_people" s_p_loose_people f_p_loose_people d_p_loose_people
  g_p_loose_people : mg "loose_people" = some (.ref f_p_loose_people)
  f_p_result_at : Addr
  d_p_result_at : FuncData
  F_p_result_at : Fun K "result_at" "result_at" s_p_result_at f_p_result_at d_p_result_at
  g_p_result_at : mg "result_at" = some (.ref f_p_result_at)
  f_p_crossings : Addr
  d_p_crossings : FuncData
  F_p_crossings : Fun K "crossings" "crossings" s_p_crossings f_p_crossings d_p_crossings
  g_p_crossings : mg "crossings" = some (.ref f_p_crossings)
  f_p_do_same : Addr
  d_p_do_same : FuncData
  F_p_do_same : Fun K "do_same" "do_same" s_p_do_same f_p_do_same d_p_do_same
  g_p_do_same : mg "do_same" = some (.ref f_p_do_same)
  f_p_behind_call : Addr
  d_p_behind_call : FuncData
  F_p_behind_call : Fun K "behind_call" "behind_call" s_p_behind_call f_p_behind_call d_p_behind_call
  g_p_behind_call : mg "behind_call" = some (.ref f_p_behind_call)
  f_p_parting_couple : Addr
  d_p_parting_couple : FuncData
  F_p_parting_couple : Fun K "parting_couple" "parting_couple" s_p_parting_couple f_p_parting_couple d_p_parting_couple
  g_p_parting_couple : mg "parting_couple" = some (.ref f_p_parting_couple)
  f_p_parting : Addr
  d_p_parting : FuncData
  F_p_parting : Fun K "parting" "parting" s_p_parting f_p_parting d_p_parting
  g_p_parting : mg "parting" = some (.ref f_p_parting)
  f_p_shows_parting : Addr
  d_p_shows_parting : FuncData
  F_p_shows_parting : Fun K "shows_parting" "shows_parting" s_p_shows_parting f_p_shows_parting d_p_shows_parting
  g_p_shows_parting : mg "shows_parting" = some (.ref f_p_shows_parting)
  f_stream : Addr
  d_stream : FuncData
  F_stream : Fun K "_law_stream" "_law_stream" s_stream f_stream d_stream
  g_stream : mg "_law_stream" = some (.ref f_stream)
  f_draw : Addr
  d_draw : FuncData
  F_draw : Fun K "_law_draw" "_law_draw" s_draw f_draw d_draw
  g_draw : mg "_law_draw" = some (.ref f_draw)
  f_folded : Addr
  d_folded : FuncData
  F_folded : Fun K "_law_folded" "_law_folded" s_folded f_folded d_folded
  g_folded : mg "_law_folded" = some (.ref f_folded)
  f_pick : Addr
  d_pick : FuncData
  F_pick : Fun K "_law_pick" "_law_pick" s_pick f_pick d_pick
  g_pick : mg "_law_pick" = some (.ref f_pick)
  f_same : Addr
  d_same : FuncData
  F_same : Fun K "_law_same" "_law_same" s_same f_same d_same
  g_same : mg "_law_same" = some (.ref f_same)
  f_shuffled : Addr
  d_shuffled : FuncData
  F_shuffled : Fun K "_law_shuffled" "_law_shuffled" s_shuffled f_shuffled d_shuffled
  g_shuffled : mg "_law_shuffled" = some (.ref f_shuffled)
  f_random_pairing : Addr
  d_random_pairing : FuncData
  F_random_pairing : Fun K "_law_random_pairing" "_law_random_pairing" s_random_pairing f_random_pairing d_random_pairing
  g_random_pairing : mg "_law_random_pairing" = some (.ref f_random_pairing)
  f_random_call : Addr
  d_random_call : FuncData
  F_random_call : Fun K "_law_random_call" "_law_random_call" s_random_call f_random_call d_random_call
  g_random_call : mg "_law_random_call" = some (.ref f_random_call)
  f_random_word : Addr
  d_random_word : FuncData
  F_random_word : Fun K "_law_random_word" "_law_random_word" s_random_word f_random_word d_random_word
  g_random_word : mg "_law_random_word" = some (.ref f_random_word)
  f_joined_ends : Addr
  d_joined_ends : FuncData
  F_joined_ends : Fun K "_law_joined_ends" "_law_joined_ends" s_joined_ends f_joined_ends d_joined_ends
  g_joined_ends : mg "_law_joined_ends" = some (.ref f_joined_ends)
  f_read : Addr
  d_read : FuncData
  F_read : Fun K "_law_read" "_law_read" s_read f_read d_read
  g_read : mg "_law_read" = some (.ref f_read)
  f_all_pairings : Addr
  d_all_pairings : FuncData
  F_all_pairings : Fun K "_law_all_pairings" "_law_all_pairings" s_all_pairings f_all_pairings d_all_pairings
  g_all_pairings : mg "_law_all_pairings" = some (.ref f_all_pairings)
  f_joined_up : Addr
  d_joined_up : FuncData
  F_joined_up : Fun K "_law_joined_up" "_law_joined_up" s_joined_up f_joined_up d_joined_up
  g_joined_up : mg "_law_joined_up" = some (.ref f_joined_up)
  f_exchanged : Addr
  d_exchanged : FuncData
  F_exchanged : Fun K "_law_exchanged" "_law_exchanged" s_exchanged f_exchanged d_exchanged
  g_exchanged : mg "_law_exchanged" = some (.ref f_exchanged)
  f_mate : Addr
  d_mate : FuncData
  F_mate : Fun K "_law_mate" "_law_mate" s_mate f_mate d_mate
  g_mate : mg "_law_mate" = some (.ref f_mate)
  f_right : Addr
  d_right : FuncData
  F_right : Fun K "_law_right" "_law_right" s_right f_right d_right
  g_right : mg "_law_right" = some (.ref f_right)
theorem Env.b_p_is_integer_below {K : PySem.W.Frag} {mg : Str → Option Value} (T : Env K mg) : Binds K T.d_p_is_integer_below ["value", "limit"] [] := T.F_p_is_integer_below.binds fun _ _ _ _ _ _ us hl => match us, hl with | [_, _], _ => rfl
theorem Env.b_p_joins_in_pairs {K : PySem.W.Frag} {mg : Str → Option Value} (T : Env K mg) : Binds K T.d_p_joins_in_pairs ["value"] [] := T.F_p_joins_in_pairs.binds fun _ _ _ _ _ _ us hl => match us, hl with | [_], _ => rfl
theorem Env.b_p_is_pairing {K : PySem.W.Frag} {mg : Str → Option Value} (T : Env K mg) : Binds K T.d_p_is_pairing ["value"] [] := T.F_p_is_pairing.binds fun _ _ _ _ _ _ us hl => match us, hl with | [_], _ => rfl
theorem Env.b_p_couples {K : PySem.W.Frag} {mg : Str → Option Value} (T : Env K mg) : Binds K T.d_p_couples ["pairing"] [] := T.F_p_couples.binds fun _ _ _ _ _ _ us hl => match us, hl with | [_], _ => rfl
theorem Env.b_p_pairing_of {K : PySem.W.Frag} {mg : Str → Option Value} (T : Env K mg) : Binds K T.d_p_pairing_of ["couples"] [] := T.F_p_pairing_of.binds fun _ _ _ _ _ _ us hl => match us, hl with | [_], _ => rfl
theorem Env.b_p_pairings_many {K : PySem.W.Frag} {mg : Str → Option Value} (T : Env K mg) : Binds K T.d_p_pairings_many ["size"] [] := T.F_p_pairings_many.binds fun _ _ _ _ _ _ us hl => match us, hl with | [_], _ => rfl
theorem Env.b_p_pairing_at {K : PySem.W.Frag} {mg : Str → Option Value} (T : Env K mg) : Binds K T.d_p_pairing_at ["size", "number"] [] := T.F_p_pairing_at.binds fun _ _ _ _ _ _ us hl => match us, hl with | [_, _], _ => rfl
theorem Env.b_p_join_two {K : PySem.W.Frag} {mg : Str → Option Value} (T : Env K mg) : Binds K T.d_p_join_two ["joined", "a", "b"] [] := T.F_p_join_two.binds fun _ _ _ _ _ _ us hl => match us, hl with | [_, _, _], _ => rfl
theorem Env.b_p_people_of {K : PySem.W.Frag} {mg : Str → Option Value} (T : Env K mg) : Binds K T.d_p_people_of ["sheet"] [] := T.F_p_people_of.binds fun _ _ _ _ _ _ us hl => match us, hl with | [_], _ => rfl
theorem Env.b_p_check_sizes {K : PySem.W.Frag} {mg : Str → Option Value} (T : Env K mg) : Binds K T.d_p_check_sizes ["first", "second"] [] := T.F_p_check_sizes.binds fun _ _ _ _ _ _ us hl => match us, hl with | [_, _], _ => rfl
theorem Env.b_p_lower_pairs {K : PySem.W.Frag} {mg : Str → Option Value} (T : Env K mg) : Binds K T.d_p_lower_pairs ["sheet"] [] := T.F_p_lower_pairs.binds fun _ _ _ _ _ _ us hl => match us, hl with | [_], _ => rfl
theorem Env.b_p_strands {K : PySem.W.Frag} {mg : Str → Option Value} (T : Env K mg) : Binds K T.d_p_strands ["sheet"] [] := T.F_p_strands.binds fun _ _ _ _ _ _ us hl => match us, hl with | [_], _ => rfl
theorem Env.b_p_followed_path {K : PySem.W.Frag} {mg : Str → Option Value} (T : Env K mg) : Binds K T.d_p_followed_path ["sheet", "pairing", "person"] [] := T.F_p_followed_path.binds fun _ _ _ _ _ _ us hl => match us, hl with | [_, _, _], _ => rfl
theorem Env.b_p_result {K : PySem.W.Frag} {mg : Str → Option Value} (T : Env K mg) : Binds K T.d_p_result ["sheet", "pairing"] [] := T.F_p_result.binds fun _ _ _ _ _ _ us hl => match us, hl with | [_, _], _ => rfl
theorem Env.b_p_loose_people {K : PySem.W.Frag} {mg : Str → Option Value} (T : Env K mg) : Binds K T.d_p_loose_people ["sheet"] [] := T.F_p_loose_people.binds fun _ _ _ _ _ _ us hl => match us, hl with | [_], _ => rfl
theorem Env.b_p_result_at {K : PySem.W.Frag} {mg : Str → Option Value} (T : Env K mg) : Binds K T.d_p_result_at ["sheet", "number"] [] := T.F_p_result_at.binds fun _ _ _ _ _ _ us hl => match us, hl with | [_, _], _ => rfl
theorem Env.b_p_crossings {K : PySem.W.Frag} {mg : Str → Option Value} (T : Env K mg) : Binds K T.d_p_crossings ["sheet"] [] := T.F_p_crossings.binds fun _ _ _ _ _ _ us hl => match us, hl with | [_], _ => rfl
theorem Env.b_p_do_same {K : PySem.W.Frag} {mg : Str → Option Value} (T : Env K mg) : Binds K T.d_p_do_same ["one", "other"] [] := T.F_p_do_same.binds fun _ _ _ _ _ _ us hl => match us, hl with | [_, _], _ => rfl
theorem Env.b_p_behind_call {K : PySem.W.Frag} {mg : Str → Option Value} (T : Env K mg) : Binds K T.d_p_behind_call ["sheet", "call"] [] := T.F_p_behind_call.binds fun _ _ _ _ _ _ us hl => match us, hl with | [_, _], _ => rfl
theorem Env.b_p_parting_couple {K : PySem.W.Frag} {mg : Str → Option Value} (T : Env K mg) : Binds K T.d_p_parting_couple ["one", "other", "free"] [] := T.F_p_parting_couple.binds fun _ _ _ _ _ _ us hl => match us, hl with | [_, _, _], _ => rfl
theorem Env.b_p_parting {K : PySem.W.Frag} {mg : Str → Option Value} (T : Env K mg) : Binds K T.d_p_parting ["one", "other"] [] := T.F_p_parting.binds fun _ _ _ _ _ _ us hl => match us, hl with | [_, _], _ => rfl
theorem Env.b_p_shows_parting {K : PySem.W.Frag} {mg : Str → Option Value} (T : Env K mg) : Binds K T.d_p_shows_parting ["one", "other", "value"] [] := T.F_p_shows_parting.binds fun _ _ _ _ _ _ us hl => match us, hl with | [_, _, _], _ => rfl
theorem Env.b_stream {K : PySem.W.Frag} {mg : Str → Option Value} (T : Env K mg) : Binds K T.d_stream ["_law_script", "_law_k"] [] := T.F_stream.binds fun _ _ _ _ _ _ us hl => match us, hl with | [_, _], _ => rfl
theorem Env.b_draw {K : PySem.W.Frag} {mg : Str → Option Value} (T : Env K mg) : Binds K T.d_draw ["_law_source", "_law_bound"] [] := T.F_draw.binds fun _ _ _ _ _ _ us hl => match us, hl with | [_, _], _ => rfl
theorem Env.b_folded {K : PySem.W.Frag} {mg : Str → Option Value} (T : Env K mg) : Binds K T.d_folded ["_law_script", "_law_most"] [] := T.F_folded.binds fun _ _ _ _ _ _ us hl => match us, hl with | [_, _], _ => rfl
theorem Env.b_pick {K : PySem.W.Frag} {mg : Str → Option Value} (T : Env K mg) : Binds K T.d_pick ["_law_source", "_law_some"] [] := T.F_pick.binds fun _ _ _ _ _ _ us hl => match us, hl with | [_, _], _ => rfl
theorem Env.b_same {K : PySem.W.Frag} {mg : Str → Option Value} (T : Env K mg) : Binds K T.d_same ["_law_found", "_law_due"] [] := T.F_same.binds fun _ _ _ _ _ _ us hl => match us, hl with | [_, _], _ => rfl
theorem Env.b_shuffled {K : PySem.W.Frag} {mg : Str → Option Value} (T : Env K mg) : Binds K T.d_shuffled ["_law_source", "_law_some"] [] := T.F_shuffled.binds fun _ _ _ _ _ _ us hl => match us, hl with | [_, _], _ => rfl
theorem Env.b_random_pairing {K : PySem.W.Frag} {mg : Str → Option Value} (T : Env K mg) : Binds K T.d_random_pairing ["_law_source", "_law_crowd"] [] := T.F_random_pairing.binds fun _ _ _ _ _ _ us hl => match us, hl with | [_, _], _ => rfl
theorem Env.b_random_call {K : PySem.W.Frag} {mg : Str → Option Value} (T : Env K mg) : Binds K T.d_random_call ["_law_source", "_law_some"] [] := T.F_random_call.binds fun _ _ _ _ _ _ us hl => match us, hl with | [_, _], _ => rfl
theorem Env.b_random_word {K : PySem.W.Frag} {mg : Str → Option Value} (T : Env K mg) : Binds K T.d_random_word ["_law_source", "_law_crowd", "_law_most"] [] := T.F_random_word.binds fun _ _ _ _ _ _ us hl => match us, hl with | [_, _, _], _ => rfl
theorem Env.b_joined_ends {K : PySem.W.Frag} {mg : Str → Option Value} (T : Env K mg) : Binds K T.d_joined_ends ["_law_crowd", "_law_tape"] [] := T.F_joined_ends.binds fun _ _ _ _ _ _ us hl => match us, hl with | [_, _], _ => rfl
theorem Env.b_read {K : PySem.W.Frag} {mg : Str → Option Value} (T : Env K mg) : Binds K T.d_read ["_law_page", "_law_start"] [] := T.F_read.binds fun _ _ _ _ _ _ us hl => match us, hl with | [_, _], _ => rfl
theorem Env.b_all_pairings {K : PySem.W.Frag} {mg : Str → Option Value} (T : Env K mg) : Binds K T.d_all_pairings ["_law_crowd"] [] := T.F_all_pairings.binds fun _ _ _ _ _ _ us hl => match us, hl with | [_], _ => rfl
theorem Env.b_joined_up {K : PySem.W.Frag} {mg : Str → Option Value} (T : Env K mg) : Binds K T.d_joined_up ["_law_some"] [] := T.F_joined_up.binds fun _ _ _ _ _ _ us hl => match us, hl with | [_], _ => rfl
theorem Env.b_exchanged {K : PySem.W.Frag} {mg : Str → Option Value} (T : Env K mg) : Binds K T.d_exchanged ["_law_source", "_law_page"] [] := T.F_exchanged.binds fun _ _ _ _ _ _ us hl => match us, hl with | [_, _], _ => rfl
theorem Env.b_mate {K : PySem.W.Frag} {mg : Str → Option Value} (T : Env K mg) : Binds K T.d_mate ["_law_source", "_law_page"] [] := T.F_mate.binds fun _ _ _ _ _ _ us hl => match us, hl with | [_, _], _ => rfl
theorem Env.b_right {K : PySem.W.Frag} {mg : Str → Option Value} (T : Env K mg) : Binds K T.d_right ["_law_source"] [] := T.F_right.binds fun _ _ _ _ _ _ us hl => match us, hl with | [_], _ => rfl
end Pc

namespace Pc
open PySem PySem.Spec PyProof.Rows L2 RZ
section
variable {P : Program} {w : World} {K : PySem.W.Frag} {mg : Str → Option Value} {base : Heap}
/-! ### a source -/
def spBox (K : PySem.W.Frag) : Sp := fun vs H Q _ => ∃ (a : Addr) (ns : List Int) (k : Nat), vs = [.ref a, .int k] ∧ SqL K H a (ns.map V.int) ∧ k ≤ 100 ∧
  ∀ H' b, Same H H' → H b = none → Box 1000000000 H' b → Q (.ref b) H'
theorem ok_box (T : Env K mg) : FnOk P w K mg base CX0 1 T.f_stream T.d_stream ["_law_script", "_law_k"] (spBox K) := by
  refine T.F_stream.ok sc_stream (fun vs H Q E h => ?_) (fun cdv A outer s H vs Q E hr h => ?_)
  · obtain ⟨a, ns, k, rfl, _⟩ := h
    rfl
  · obtain ⟨a, ns, k, rfl, hS, hk, q⟩ := h
    refine ⟨_, pss_cons (ps_set (i := 2) sc_stream.nd rfl (.inl rfl) pe_int) <| pss_cons (ps_if (pt_cmpR op_lt (pv 1) (pe_callB call_len_seq (by rfl) T.n_len PySem.boot_len (pa_cons (pv 0) pa_nil)) (nomark _)) (pss_one (ps_set (i := 2) sc_stream.nd rfl (.inl rfl) (pe_ix ix_list (pv 0) (pv 1) (fun _ _ => rfl)))) pss_nil)
      (pss_one (ps_ret (pe_lst (pa_cons
          (pe_op op_mul (pe_callB call_abs (by rfl) T.n_abs (by decide +kernel) (pa_cons (pv 2) pa_nil))
            (pe_callTy call_int1 (by rfl) T.n_int (by decide +kernel) (pa_cons (pe_cmpR op_ge (pe_callB call_abs (by rfl) T.n_abs (by decide +kernel) (pa_cons (pv 2) pa_nil)) (pe_op op_pow pe_int pe_int) (nomark _)) pa_nil)))
        (pa_cons (pe_op op_add (pe_op op_add (pe_op op_mod (pv 2) pe_int) (pe_op op_mul pe_int (pv 1))) pe_int)
        (pa_cons pe_int pa_nil)))))), ?_⟩
    refine ⟨.int k, rfl, .ref a, rfl, a, ns.map V.int, rfl, .inl hS, _, _, rfl, rfl, _, rfl, ite2 (fun e => ?_) (fun e => ?_)⟩
    · have e1 : k < ns.length := by
        have := of_decide_eq_true e
        rw [List.length_map] at this
        omega
      refine ⟨.ref a, rfl, .int k, rfl, a, _, _, _, rfl, rfl, hS, atI_nat (v := .int ns[k]) (by rw [List.getElem?_map, List.getElem?_eq_getElem e1]; rfl), ?_⟩
      revert e; generalize ns[k] = c; intro _
      refine ⟨_, rfl, _, rfl, _, rfl, _, rfl, 10, 18, rfl, rfl, ⟨by decide, by decide, by decide⟩, _, _, rfl, rfl, .inr ⟨_, rfl, _, _, rfl, rfl, .inr (in64 (one0 _)), _, rfl, _, _, rfl, rfl, (show (0 : Int) < 2305843009213693951 by decide), _, rfl, _, _, rfl, rfl, .inl ⟨by decide, by decide⟩, _, _, rfl, rfl, _, _, rfl, rfl, ?_⟩⟩
      refine ⟨by show 3 ≤ sizeLine; decide, fun b nb => q _ b (same_new nb) nb ⟨_, _, 0, upd_same, Int.mul_nonneg ?_ (one0 _).1, ?_, ?_, by decide, by decide⟩⟩
      · split <;> omega
      · omega
      · omega
    · refine ⟨_, rfl, _, rfl, _, rfl, _, rfl, 10, 18, rfl, rfl, ⟨by decide, by decide, by decide⟩, _, _, rfl, rfl, .inr ⟨_, rfl, _, _, rfl, rfl, .inr (in64 (one0 _)), _, rfl, _, _, rfl, rfl, (show (0 : Int) < 2305843009213693951 by decide), _, rfl, _, _, rfl, rfl, .inl ⟨by decide, by decide⟩, _, _, rfl, rfl, _, _, rfl, rfl, ?_⟩⟩
      refine ⟨by show 3 ≤ sizeLine; decide, fun b nb => q _ b (same_new nb) nb ⟨_, _, 0, upd_same, Int.mul_nonneg ?_ (one0 _).1, ?_, ?_, by decide, by decide⟩⟩
      · split <;> omega
      · omega
      · omega
end
end Pc
namespace Pc
open PySem PySem.Spec PyProof.Rows L2 RZ
section
variable {P : Program} {w : World} {K : PySem.W.Frag} {mg : Str → Option Value} {base : Heap}
/-! ### a draw below a span of at most ten million -/
def spTake : Sp := fun vs H Q _ => ∃ (b : Addr) (n : Nat) (s : Int), vs = [.ref b, .int s] ∧ Box (n + 1) H b ∧ 0 < s ∧ s ≤ 10000000 ∧
  ∀ (r : Int) (H' : Hp), 0 ≤ r → r < s → Box n H' b → Keep b H H' → Q (.int r) H'
theorem ok_take (T : Env K mg) : FnOk P w K mg base CX0 1 T.f_draw T.d_draw ["_law_source", "_law_bound"] spTake := by
  refine T.F_draw.ok sc_draw (fun vs H Q E h => ?_) (fun cdv A outer s H vs Q E hr h => ?_)
  · obtain ⟨b, n, s, rfl, _⟩ := h
    rfl
  · obtain ⟨b, n, s, rfl, ⟨x, y, z, hb, hx, hy, hy2, hz, hz2⟩, hs, hs2, q⟩ := h
    refine ⟨_, pss_cons (ps_if (pt_cmpR op_gt (pe_ix ix_list (pv 0) pe_int (fun _ _ => rfl)) pe_int (nomark _))
        (pss_cons (ps_set (i := 2) sc_draw.nd rfl (.inl rfl) (pe_op op_mod (pe_ix ix_list (pv 0) pe_int (fun _ _ => rfl)) (pv 1)))
        (pss_cons (ps_asg (pe_op op_fdiv (pe_ix ix_list (pv 0) pe_int (fun _ _ => rfl)) (pv 1)) (pg_sub (pv 0) pe_int set_list))
        (pss_one (ps_ret (pv 2))))) pss_nil)
      (pss_cons (ps_if (pt_cmpR op_gt (pv 1) (pe_op op_pow pe_int pe_int) (nomark _)) pss_never pss_nil)
      (pss_cons (ps_asg (pe_op op_add (pe_ix ix_list (pv 0) pe_int (fun _ _ => rfl)) pe_int) (pg_sub (pv 0) pe_int set_list))
      (pss_cons (ps_set (i := 3) sc_draw.nd rfl (.inl rfl) (pe_op op_mod (pe_op op_mul (pe_op op_add (pe_ix ix_list (pv 0) pe_int (fun _ _ => rfl)) (pe_op op_mul pe_int (pe_ix ix_list (pv 0) pe_int (fun _ _ => rfl)))) (pe_op op_add pe_int (pe_ix ix_list (pv 0) pe_int (fun _ _ => rfl)))) pe_int))
      (pss_cons (ps_set (i := 4) sc_draw.nd rfl (.inl rfl) (pe_op op_mod (pe_op op_mul (pe_op op_add (pe_op op_add (pv 3) (pe_ix ix_list (pv 0) pe_int (fun _ _ => rfl))) (pe_op op_fdiv (pe_ix ix_list (pv 0) pe_int (fun _ _ => rfl)) pe_int)) (pe_op op_add (pe_op op_mod (pv 3) pe_int) pe_int)) pe_int))
      (pss_one (ps_ret (pe_op op_mod (pe_op op_fdiv (pe_op op_mod (pe_op op_add (pe_op op_mul (pv 4) pe_int) (pv 3)) pe_int) pe_int) (pv 1)))))))), ?_⟩
    have hS : SqL K H b [.int x, .int y, .int z] := .inl (.inl hb)
    refine ⟨.ref b, rfl, b, _, 0, .int x, rfl, rfl, hS, atI_nat (j := 0) rfl, x, 0, rfl, rfl, _, rfl, ite2 (fun e => ?_) (fun e => ?_)⟩
    · -- the number itself serves
      refine ⟨.ref b, rfl, b, _, 0, .int x, rfl, rfl, hS, atI_nat (j := 0) rfl, .int s, rfl, x, s, rfl, rfl, hs, ?_⟩
      refine ⟨.ref b, rfl, b, _, 0, .int x, rfl, rfl, hS, atI_nat (j := 0) rfl, .int s, rfl, x, s, rfl, rfl, ⟨hs, by omega⟩, .ref b, rfl, b, _, 0, 0, rfl, rfl, hb, rfl, ?_⟩
      refine ⟨_, rfl, q _ _ (Int.emod_nonneg _ (by omega)) (Int.emod_lt_of_pos _ hs) ⟨_, y, z, upd_same, ?_, hy, hy2, hz, by omega⟩ keep_upd⟩
      exact Int.ediv_nonneg hx (by omega)
    · refine ⟨.int s, rfl, 10, 7, rfl, rfl, ⟨by decide, by decide, by decide⟩, s, _, rfl, rfl, _, rfl, ite2 (fun e2 => ?_) (fun _ => ?_)⟩
      · have e3 := of_decide_eq_true e2
        have e4 : (10 : Int) ^ Int.toNat 7 = 10000000 := by decide
        rw [e4] at e3
        omega
      refine ⟨.ref b, rfl, b, _, 2, .int z, rfl, rfl, hS, atI_nat (j := 2) rfl, z, 1, rfl, rfl, .ref b, rfl, b, _, 2, 2, rfl, rfl, hb, rfl, ?_⟩
      have h2 : upd H b (.lst ([V.int x, V.int y, V.int z].set 2 (.int (z + 1)))) b = some (.lst [.int x, .int y, .int (z + 1)]) := upd_same
      have hS2 : SqL K (upd H b (.lst ([V.int x, V.int y, V.int z].set 2 (.int (z + 1))))) b [.int x, .int y, .int (z + 1)] := .inl (.inl h2)
      refine ⟨.ref b, rfl, b, _, 1, .int y, rfl, rfl, hS2, atI_nat (j := 1) rfl, .ref b, rfl, b, _, 2, .int (z + 1), rfl, rfl, hS2, atI_nat (j := 2) rfl, 48271, z + 1, rfl, rfl, .inl ⟨by decide, by decide⟩, y, _, rfl, rfl, .ref b, rfl, b, _, 2, .int (z + 1), rfl, rfl, hS2, atI_nat (j := 2) rfl, 39373, z + 1, rfl, rfl, _, _, rfl, rfl, .inr ⟨by omega, by omega⟩, _, 2147483647, rfl, rfl, (show (0 : Int) < 2147483647 by decide), ?_⟩
      have o1 : 0 ≤ (y + 48271 * (z + 1)) * (39373 + (z + 1)) % 2147483647 := Int.emod_nonneg _ (by decide)
      have o2 : (y + 48271 * (z + 1)) * (39373 + (z + 1)) % 2147483647 < 2147483647 := Int.emod_lt_of_pos _ (by decide)
      have o3 : 0 ≤ (y + 48271 * (z + 1)) * (39373 + (z + 1)) % 2147483647 % 40009 := Int.emod_nonneg _ (by decide)
      have o4 : (y + 48271 * (z + 1)) * (39373 + (z + 1)) % 2147483647 % 40009 < 40009 := Int.emod_lt_of_pos _ (by decide)
      refine ⟨_, rfl, .ref b, rfl, b, _, 2, .int (z + 1), rfl, rfl, hS2, atI_nat (j := 2) rfl, _, z + 1, rfl, rfl, .ref b, rfl, b, _, 1, .int y, rfl, rfl, hS2, atI_nat (j := 1) rfl, y, 1000003, rfl, rfl, ⟨by decide, by decide⟩, _, _, rfl, rfl, _, rfl, _, 40009, rfl, rfl, (show (0 : Int) < 40009 by decide), _, 7, rfl, rfl, _, _, rfl, rfl, .inr ⟨Int.lt_of_lt_of_le (by decide) (Int.add_le_add_right o3 7), Int.lt_trans (Int.add_lt_add_right o4 7) (by decide)⟩, _, 2147483629, rfl, rfl, (show (0 : Int) < 2147483629 by decide), ?_⟩
      refine ⟨_, rfl, _, 48271, rfl, rfl, .inr ⟨by decide, by decide⟩, _, rfl, _, _, rfl, rfl, _, 2147483587, rfl, rfl, (show (0 : Int) < 2147483587 by decide), _, 64, rfl, rfl, ⟨by decide, by decide⟩, .int s, rfl, _, s, rfl, rfl, hs, ?_⟩
      exact q _ _ (Int.emod_nonneg _ (by omega)) (Int.emod_lt_of_pos _ hs) ⟨x, y, z + 1, h2, hx, hy, hy2, by omega, by omega⟩ keep_upd
end
end Pc
namespace Pc
open PySem PySem.Spec PyProof.Rows L2 RZ
/-! ### data -/
theorem dp_ints {K : PySem.W.Frag} {H : Hp} : ∀ ns : List Int, DpAll K H (ns.map V.int) (ns.map PyData.int)
  | [] => .nil
  | n :: r => .cons (.int n) (dp_ints r)
theorem lay_ints : ∀ ns : List Int, PyData.canLayAll0 (ns.map PyData.int) = true
  | [] => rfl
  | n :: r => by
    show (PyData.canLay0 (.int n) && PyData.canLayAll0 (r.map PyData.int)) = true
    rw [lay_ints r]; rfl
theorem depth_ints : ∀ ns : List Int, PyData.depthAll (ns.map PyData.int) = 0
  | [] => rfl
  | n :: r => by
    show max (PyData.depth (.int n)) (PyData.depthAll (r.map PyData.int)) = 0
    rw [depth_ints r]; rfl
theorem shaped_list {ds : List PyData} (h : PyData.canLayAll0 ds = true) (d : PyData.depthAll ds ≤ 63) : SeqAt.shaped (.list ds) = true := by
  unfold SeqAt.shaped
  rw [Bool.and_eq_true]
  exact ⟨h, decide_eq_true (show PyData.depthAll ds + 1 ≤ 64 by omega)⟩
theorem shaped_tuple {ds : List PyData} (h : PyData.canLayAll0 ds = true) (d : PyData.depthAll ds ≤ 63) : SeqAt.shaped (.tuple ds) = true := by
  unfold SeqAt.shaped
  rw [Bool.and_eq_true]
  exact ⟨h, decide_eq_true (show PyData.depthAll ds + 1 ≤ 64 by omega)⟩
theorem shaped_ints (ns : List Int) : SeqAt.shaped (.list (ns.map PyData.int)) = true := shaped_list (lay_ints ns) (by rw [depth_ints]; decide)
theorem shaped_intsT (ns : List Int) : SeqAt.shaped (.tuple (ns.map PyData.int)) = true := shaped_tuple (lay_ints ns) (by rw [depth_ints]; decide)
/-- what a slice of a list of ints is -/
theorem cut_ints (ns : List Int) (lo hi : Option Int) : ∃ ms : List Int, cutV (ns.map V.int) lo hi = ms.map V.int ∧ ms = (ns.drop (HT.sIx ns.length 0 lo)).take (HT.sIx ns.length ns.length hi - HT.sIx ns.length 0 lo) := by
  refine ⟨_, ?_, rfl⟩
  unfold cutV
  rw [List.length_map, List.map_take, List.map_drop]
theorem map_set_int (cs : List Int) (j : Nat) (v : Int) : (cs.map V.int).set j (.int v) = (cs.set j v).map V.int := by
  rw [List.map_set]
theorem small63 {n : Nat} (h : n ≤ 63) : n ≤ sizeLine := Nat.le_trans h (by decide)
end Pc
namespace Pc
open PySem PySem.Spec PyProof.Rows L2 RZ
section
variable {P : Program} {w : World} {K : PySem.W.Frag} {mg : Str → Option Value} {base : Heap}
/-! ### the numbers of the script, the later ones added to the first -/
def spCells (K : PySem.W.Frag) : Sp := fun vs H Q _ => ∃ (a : Addr) (ns : List Int) (m : Nat), vs = [.ref a, .int m] ∧ SqL K H a (ns.map V.int) ∧ ns.length ≤ 63 ∧ 0 < m ∧ m ≤ 60 ∧
  ∀ H' p (cs : List Int), Same H H' → H p = none → H' p = some (.lst (cs.map V.int)) → 1 ≤ cs.length → cs.length ≤ m → Q (.ref p) H'
theorem ok_cells (T : Env K mg) : FnOk P w K mg base CX0 1 T.f_folded T.d_folded ["_law_script", "_law_most"] (spCells K) := by
  refine T.F_folded.ok sc_folded (fun vs H Q E h => ?_) (fun cdv A outer s H vs Q E hr h => ?_)
  · obtain ⟨a, ns, m, rfl, _⟩ := h
    rfl
  · obtain ⟨a, ns, m, rfl, hS, hn, hm, hm2, q⟩ := h
    refine ⟨_, pss_cons (ps_set (i := 2) sc_folded.nd rfl (.inl rfl) (pe_orT (pe_callTy call_list_of (by rfl) T.n_list (by decide +kernel) (pa_cons (pe_slice sl_list (pv 0) po_none (po_some (pv 1))) pa_nil)) (pe_one (pe_lst (pa_cons pe_int pa_nil)))))
      (pss_cons (ps_for PassesOwn.never rfl (pi_enum (by rfl) T.n_enumerate (pa_cons (pe_slice sl_list (pv 0) (po_some (pv 1)) (po_some pe_int)) pa_nil))
          (pg_tup rfl (pgs_cons (pg_name (i := 3) sc_folded.nd rfl (.inl rfl)) (pgs_cons (pg_name (i := 4) sc_folded.nd rfl (.inl rfl)) pgs_nil)))
        (pss_one (ps_asg (pe_op op_add (pe_ix ix_list (pv 2) (pe_op op_mod (pv 3) (pv 1)) (fun _ _ => rfl)) (pe_op op_mul (pv 4) (pe_op op_add (pv 3) pe_int)))
          (pg_sub (pv 2) (pe_op op_mod (pv 3) (pv 1)) set_list))))
      (pss_one (ps_ret (pv 2)))), ?_⟩
    obtain ⟨ms, e1, e2⟩ := cut_ints ns none (some (m : Int))
    obtain ⟨ls, e3, e4⟩ := cut_ints ns (some (m : Int)) (some 63)
    have f2 : ms.length = min m ns.length := by
      rw [e2, HT.sIx_none, HT.sIx_nat, List.length_take, List.drop_zero]
      omega
    have f4 : ls.length = ns.length - m := by
      rw [e4, HT.sIx_nat, show (63 : Int) = ((63 : Nat) : Int) from rfl, HT.sIx_nat, List.length_take, List.length_drop]
      omega
    -- the copy of the first ones
    refine ⟨.ref a, rfl, .int m, rfl, m, rfl, a, ns.map V.int, rfl, hS, fun c nc => ⟨c, _, rfl, .inl (.inl (.inl upd_same)), fun l nl => ?_⟩⟩
    rw [e1] at nl ⊢
    have s1 : Same H (upd (upd H c (.lst (ms.map V.int))) l (.lst (ms.map V.int))) := (same_new nc).trans (same_new nl)
    have nl0 : H l = none := (same_new nc).free nl
    have el0 : (upd (upd H c (.lst (ms.map V.int))) l (.lst (ms.map V.int))) l = some (.lst (ms.map V.int)) := upd_same
    revert s1 el0
    generalize upd (upd H c (.lst (ms.map V.int))) l (.lst (ms.map V.int)) = H0
    intro s1 el0
    refine ⟨!(ms.map V.int).isEmpty, .inl ⟨_, .inl (.inl el0), rfl⟩, ite2 (fun k => ?wa) (fun k => ?wb)⟩
    case' wa =>
      obtain ⟨cs0, g3, g4, g5, g6⟩ : ∃ cs0 : List Int, H0 l = some (.lst (cs0.map V.int)) ∧ 1 ≤ cs0.length ∧ cs0.length ≤ m ∧ (0 < ls.length → cs0.length = m) := by
        refine ⟨ms, el0, ?_, by omega, by omega⟩
        cases ms with
        | nil => exact absurd (show false = true from k) Bool.false_ne_true
        | cons x r => simp
      clear el0
    case' wb =>
      have hm0 : ms.length = 0 := by
        cases ms with
        | nil => rfl
        | cons x r => exact absurd rfl k
      refine ⟨by show 1 ≤ sizeLine; decide, fun l2 nl2 => ?_⟩
      have s3 := s1.trans (same_new (o := .lst [.int 0]) nl2)
      have nl3 := s1.free nl2
      have g3' : (upd H0 l2 (.lst [.int 0])) l2 = some (.lst [.int 0]) := upd_same
      clear nl0 s1 el0
      revert s3 g3'
      generalize upd H0 l2 (.lst [.int 0]) = H3
      intro s3 g3'
      clear nl2
      clear H0
      revert l2 nl3 H3 s3 g3'
      intro l nl0 H0 s1 g3'
      obtain ⟨cs0, g3, g4, g5, g6⟩ : ∃ cs0 : List Int, H0 l = some (.lst (cs0.map V.int)) ∧ 1 ≤ cs0.length ∧ cs0.length ≤ m ∧ (0 < ls.length → cs0.length = m) := ⟨[0], g3', by decide, hm, by omega⟩
    all_goals
      refine ⟨.ref a, rfl, .int m, rfl, m, rfl, _, rfl, a, ns.map V.int, rfl, s1.seq hS, fun d nd => ?_⟩
      rw [e3]
      refine ⟨d, ls.map V.int, rfl, .inl (.inl upd_same), ?_⟩
      have s2 : Same H _ := s1.trans (same_new (o := .lst (ls.map V.int)) nd)
      have ldd : l ≠ d := ne_of_none g3 nd
      refine for_it walk_enum (fun i σ H' => Same H H' ∧ H' d = some (.lst (ls.map V.int)) ∧ ∃ (y3 y4 : Option V) (cs : List Int), σ = [some (.ref a), some (.int m), some (.ref l), y3, y4] ∧ H' l = some (.lst (cs.map V.int)) ∧ cs.length = cs0.length)
        ⟨s2, upd_same, none, none, cs0, rfl, by rw [upd_ne ldd]; exact g3, rfl⟩ (fun i σ H' _ h => .inl (.inl h.2.1)) (fun i x σ H1 H2 hi h y => ?_) (fun σ H' h => ?_)
      · obtain ⟨sm, ed, y3, y4, cs, rfl, el, ecl⟩ := h
        obtain ⟨t, v1, v2, rfl, nt, rfl, g1, g2⟩ := y
        rw [List.length_map] at hi
        have ev1 : v1 = .int (i : Nat) := (Option.some.inj g1).symm
        have ev2 : v2 = .int ls[i] := by
          have g3 : (ls.map V.int)[i]? = some v2 := g2
          rw [List.getElem?_map, List.getElem?_eq_getElem hi] at g3
          exact (Option.some.inj g3).symm
        subst ev1 ev2
        have hml : cs.length = m := by omega
        have hlt : l ≠ t := ne_of_none el nt
        have hdt : d ≠ t := ne_of_none ed nt
        have elt : (upd H1 t (.tup [.int (i : Nat), .int ls[i]])) l = some (.lst (cs.map V.int)) := by rw [upd_ne hlt]; exact el
        have him : ((i : Int) % (m : Int)) = ((i % m : Nat) : Int) := by omega
        have hjm : i % m < cs.length := by rw [hml]; exact Nat.mod_lt _ hm
        have hix : ixN (cs.map V.int).length ((i : Int) % (m : Int)) = some (i % m) := by
          rw [him]
          unfold ixN
          rw [List.length_map, if_pos (by omega), if_pos (by omega)]; rfl
        refine ⟨t, _, rfl, .inl (.inl upd_same), rfl, _, _, rfl, _, _, rfl, rfl, ?_⟩
        refine ⟨.ref l, rfl, .int (i : Nat), rfl, .int m, rfl, (i : Nat), m, rfl, rfl, (show (0 : Int) < m by omega), l, _, _, .int cs[i % m], rfl, rfl, .inl (.inl elt), ?_, ?_⟩
        · unfold atI
          show (ixN (cs.map V.int).length ((i : Int) % (m : Int))).bind _ = _
          rw [hix]
          show (cs.map V.int)[i % m]? = _
          rw [List.getElem?_map, List.getElem?_eq_getElem hjm]; rfl
        refine ⟨.int ls[i], rfl, .int (i : Nat), rfl, (i : Nat), 2, rfl, rfl, ls[i], _, rfl, rfl, .inr ⟨by omega, by omega⟩, cs[i % m], _, rfl, rfl, .ref l, rfl, .int (i : Nat), rfl, .int m, rfl, (i : Nat), m, rfl, rfl, (show (0 : Int) < m by omega), l, _, _, i % m, rfl, rfl, elt, hix, ?_⟩
        refine ⟨?_, ?_, _, _, cs.set (i % m) (cs[i % m] + ls[i] * ((i : Nat) + 2)), rfl, ?_, ?_⟩
        · intro b o hb
          have nb : b ≠ l := ne_of_none hb nl0
          rw [upd_ne nb]
          exact same_new nt _ _ (sm b o hb)
        · rw [upd_ne ldd.symm, upd_ne hdt]; exact ed
        · rw [upd_same, ← map_set_int]
        · rw [List.length_set]; exact ecl
      · obtain ⟨sm, ed, y3, y4, cs, rfl, el, ecl⟩ := h
        exact ⟨.ref l, rfl, q _ l cs sm nl0 el (by omega) (by omega)⟩
end
end Pc
namespace Pc
open PySem PySem.Spec PyProof.Rows L2 RZ
/-! ### xs != [] for any items -/
def rNeNil (K : PySem.W.Frag) : R2 := fun x y H Q => ∃ a b xs, x = .ref a ∧ y = .ref b ∧ SqL K H a xs ∧ SqL K H b [] ∧ Q (.bl (!xs.isEmpty)) H
theorem op_neNil {X : Cx} (hu : X.A.units + 64 < cLine) : OpR X (compareOp .NotEq) (rNeNil X.K) := by
  intro pins s σ H x y v u Q I rx ry h
  obtain ⟨a, b, xs, rfl, rfl, h1, h2, q⟩ := h
  cases rx; cases ry
  obtain ⟨its, rv, p1, _⟩ := I.list h1
  obtain ⟨its2, rv2, p2, _⟩ := I.list h2
  have l1 := rv.length
  have l2 := rv2.length
  have hu0 : X.A.units < cLine := by omega
  cases xs with
  | nil =>
    have z1 : its.length = 0 := l1.symm
    have z2 : its2.length = 0 := l2.symm
    refine SeqAt.RcNeAt.lists (e := fun _ => true) p1.isList p2.isList (by simp [z1, z2]) hu0 (fun j j1 _ => ?_) X.prog X.w X.xe _ ?_
    · rw [List.size_toArray] at j1; omega
    · rw [List.size_toArray, z1]
      exact ⟨.bl false, H, I, rfl, q⟩
  | cons z r =>
    have z1 : its.length ≠ 0 := by rw [← l1]; simp
    have z2 : its2.length = 0 := l2.symm
    refine SeqAt.RcNeAt.lists_lengths p1.isList p2.isList (by simp [z2, z1]) hu0 X.prog X.w X.xe _ ?_
    exact ⟨.bl true, H, I, rfl, q⟩
theorem perm_erase {α : Type} : ∀ {l : List α} {i : Nat} (h : i < l.length), (l[i] :: l.eraseIdx i).Perm l
  | a :: r, 0, _ => List.Perm.refl _
  | a :: r, i + 1, h => (List.Perm.swap a (r[i]'(Nat.lt_of_succ_lt_succ h)) (r.eraseIdx i)).trans ((perm_erase (l := r) (i := i) (Nat.lt_of_succ_lt_succ h)).cons a)
/-- the place of an index that is not negative -/
theorem seq_ix {i : Int} {n : Nat} (h0 : 0 ≤ i) (h : i < n) : seqIndex? i n = some i.toNat := seqIndex_of h0 h
end Pc
namespace Pc
open PySem PySem.Spec PyProof.Rows L2 RZ
section
variable {P : Program} {w : World} {K : PySem.W.Frag} {mg : Str → Option Value} {base : Heap}
/-! ### some things in drawn order -/
def spStrewn (K : PySem.W.Frag) : Sp := fun vs H Q _ => ∃ (b a : Addr) (n : Nat) (xs : List V), vs = [.ref b, .ref a] ∧ Box (n + xs.length) H b ∧ SqL K H a xs ∧ xs.length ≤ 1000 ∧
  ∀ (H' : Hp) (p : Addr) (ys : List V), ys.Perm xs → Keep b H H' → Box n H' b → H p = none → H' p = some (.lst ys) → Q (.ref p) H'
theorem ok_strewn (T : Env K mg) : FnOk P w K mg base CX0 2 T.f_shuffled T.d_shuffled ["_law_source", "_law_some"] (spStrewn K) := by
  have GT : FnOk P w K mg base CX0 1 T.f_draw T.d_draw ["_law_source", "_law_bound"] spTake := ok_take T
  refine T.F_shuffled.ok sc_shuffled (fun vs H Q E h => ?_) (fun cdv A outer s H vs Q E hr h => ?_)
  · obtain ⟨b, a, n, xs, rfl, _⟩ := h
    rfl
  · obtain ⟨b, a, n, xs, rfl, hB, hS, hlen, q⟩ := h
    refine ⟨_, pss_cons (ps_par (by rfl) sc_shuffled.nd (i := 2) (j := 3) rfl rfl (by decide) rfl rfl (pa_cons (pe_callTy call_list_of (by rfl) T.n_list (by decide +kernel) (pa_cons (pv 1) pa_nil)) (pa_cons (pe_lst pa_nil) pa_nil)) (by rfl))
      (pss_cons (ps_while PassesOwn.never (pt_cmpR (op_neNil hr.units) (pv 2) (pe_lst pa_nil) (nomark _))
        (pss_one (ps_expr (pe_bm PySem.F.plainAttrs_list PySem.F.slot_list_append PySem.F.type_list_append mt_append (pv 3) (pa_cons
          (pe_bm PySem.F.plainAttrs_list PySem.F.slot_list_pop PySem.F.type_list_pop mt_popAt (pv 2) (pa_cons
            (pe_call GT hr (by rfl) T.g_draw T.F_draw.kp T.b_draw .nil pass0 (pa_cons (pv 0) (pa_cons (pe_callB call_len_seq (by rfl) T.n_len PySem.boot_len (pa_cons (pv 2) pa_nil)) pa_nil))) pa_nil)) pa_nil)))))
      (pss_one (ps_ret (pv 3)))), ?_⟩
    refine ⟨.ref a, rfl, a, xs, rfl, .inl hS, fun l nl => ⟨Nat.zero_le _, fun f nf => ⟨_, _, rfl, ?_⟩⟩⟩
    have s1 : Same H (upd (upd H l (.lst xs)) f (.lst [])) := (same_new nl).trans (same_new nf)
    have nf0 : H f = none := (same_new nl).free nf
    have hlf : l ≠ f := ne_of_none upd_same nf
    have hbl : b ≠ l := hB.ne_new nl
    have hbf : b ≠ f := hB.ne_new nf0
    refine ⟨fun m σ H' => ∃ left found : List V, σ = [some (.ref b), some (.ref a), some (.ref l), some (.ref f)] ∧ H' l = some (.lst left) ∧ H' f = some (.lst found) ∧ (left ++ found).Perm xs ∧ Box (n + left.length) H' b ∧ Keep b H H' ∧ left.length = m,
      ⟨xs.length, xs, [], rfl, by rw [upd_ne hlf, upd_same], upd_same, by rw [List.append_nil], hB.same s1, Keep.of_same s1, rfl⟩, fun m σ H' hW => ?_⟩
    obtain ⟨left, found, rfl, el, ef, hp, hb', hk, hm⟩ := hW
    refine ⟨.ref l, rfl, Nat.zero_le _, fun e ne => ⟨l, e, left, rfl, rfl, .inl (.inl ?_), .inl (.inl upd_same), _, rfl, ite2 (fun c => ?_) (fun c => ?_)⟩⟩
    · rw [upd_ne (ne_of_none el ne)]; exact el
    · -- one more is drawn
      have hl0 : 0 < left.length := by
        cases left with
        | nil => exact absurd c (by decide)
        | cons x r => exact Nat.succ_pos _
      have hll : left.length ≤ 1000 := by
        have := hp.length_eq
        rw [List.length_append] at this
        omega
      have el2 : (upd H' e (.lst [])) l = some (.lst left) := by rw [upd_ne (ne_of_none el ne)]; exact el
      have ef2 : (upd H' e (.lst [])) f = some (.lst found) := by rw [upd_ne (ne_of_none ef ne)]; exact ef
      refine ⟨fun σ' H2 => ∃ left' found' : List V, σ' = [some (.ref b), some (.ref a), some (.ref l), some (.ref f)] ∧ H2 l = some (.lst left') ∧ H2 f = some (.lst found') ∧ (left' ++ found').Perm xs ∧ Box (n + left'.length) H2 b ∧ Keep b H H2 ∧ left'.length + 1 = m,
        fun σ' H2 h2 => ?_, ?_⟩
      · obtain ⟨left', found', g1, g2, g3, g4, g5, g6, g7⟩ := h2
        exact ⟨left'.length, by omega, left', found', g1, g2, g3, g4, g5, g6, rfl⟩
      · refine ⟨.ref f, rfl, .inl ⟨rfl, _, .inl (.inl ef2)⟩, .ref l, rfl, .inl ⟨rfl, _, .inl (.inl el2)⟩, .ref b, rfl, .ref l, rfl, l, left, rfl, .inl (.inl (.inl el2)), ?_⟩
        refine ⟨b, n + (left.length - 1), left.length, rfl, (hb'.same (same_new ne)).mono (by omega), by omega, by omega, fun r H2 r0 r1 hb2 k2 => ?_⟩
        have el3 : H2 l = some (.lst left) := k2 l _ hbl.symm el2
        have ef3 : H2 f = some (.lst found) := k2 f _ hbf.symm ef2
        have hj : r.toNat < left.length := by omega
        refine ⟨l, left, r, r.toNat, left[r.toNat], rfl, rfl, el3, by omega, by omega, seq_ix r0 r1, List.getElem?_eq_getElem hj, ?_⟩
        have ef4 : (upd H2 l (.lst (left.eraseIdx r.toNat))) f = some (.lst found) := by rw [upd_ne hlf.symm]; exact ef3
        have hfl : found.length ≤ 1000 := by
          have := hp.length_eq
          rw [List.length_append] at this
          omega
        refine ⟨f, found, _, rfl, rfl, ef4, small1000 hfl, left.eraseIdx r.toNat, found ++ [left[r.toNat]], rfl, ?_, upd_same, ?_, ?_, ?_, ?_⟩
        · rw [upd_ne hlf, upd_same]
        · refine List.Perm.trans ?_ hp
          have p1 : (left[r.toNat] :: left.eraseIdx r.toNat).Perm left := perm_erase hj
          have p2 : (left.eraseIdx r.toNat ++ (found ++ [left[r.toNat]])).Perm (left[r.toNat] :: left.eraseIdx r.toNat ++ found) := by
            rw [← List.append_assoc]
            exact List.perm_append_comm.trans (by rw [List.singleton_append, List.cons_append])
          exact p2.trans (p1.append_right found)
        · have : (left.eraseIdx r.toNat).length = left.length - 1 := List.length_eraseIdx_of_lt hj
          rw [this]
          refine (hb2.keep (c := l) keep_upd hbl).keep (c := f) keep_upd hbf
        · intro x o nx hx
          have nxl : x ≠ l := ne_of_none hx nl
          have nxf : x ≠ f := ne_of_none hx nf0
          rw [upd_ne nxf, upd_ne nxl]
          exact k2 x o nx (same_new ne _ _ (hk x o nx hx))
        · rw [List.length_eraseIdx_of_lt hj]; omega
    · have hl0 : left = [] := by
        cases left with
        | nil => rfl
        | cons x r => exact absurd rfl c
      subst hl0
      have ef2 : (upd H' e (.lst [])) f = some (.lst found) := by rw [upd_ne (ne_of_none ef ne)]; exact ef
      exact ⟨.ref f, rfl, q _ f found hp (hk.trans (Keep.of_same (same_new ne))) (hb'.same (same_new ne)) nf0 ef2⟩
end
end Pc
namespace Pc
open PySem PySem.Spec PyProof.Rows L2 RZ
/-! ### pairings as lists of natural numbers -/
/-- the numbers as values -/
def nv (l : List Nat) : List V := l.map fun (i : Nat) => V.int (i : Int)
theorem nv_length (l : List Nat) : (nv l).length = l.length := List.length_map _
theorem nv_get {l : List Nat} {i x : Nat} (h : l[i]? = some x) : (nv l)[i]? = some (.int x) := by
  unfold nv; rw [List.getElem?_map, h]; rfl
theorem nv_at {l : List Nat} {i x : Nat} (h : l[i]? = some x) : atI (nv l) (i : Int) = some (.int x) := atI_nat (nv_get h)
theorem nv_set (l : List Nat) (i x : Nat) : (nv l).set i (.int (x : Int)) = nv (l.set i x) := by
  unfold nv; rw [List.map_set]
theorem nv_get' {l : List Nat} {i : Nat} {v : V} (h : (nv l)[i]? = some v) : ∃ x, l[i]? = some x ∧ v = .int (x : Int) := by
  unfold nv at h
  rw [List.getElem?_map] at h
  cases e : l[i]? with
  | none => rw [e] at h; cases h
  | some x => rw [e] at h; exact ⟨x, rfl, (Option.some.inj h).symm⟩
theorem ixN_nat {n i : Nat} (h : i < n) : ixN n (i : Int) = some i := by
  unfold ixN
  rw [if_pos (by omega), if_pos (by omega)]; rfl
theorem get_some {α : Type} {l : List α} {i : Nat} (h : i < l.length) : ∃ x, l[i]? = some x := ⟨_, List.getElem?_eq_getElem h⟩
theorem get_lt {α : Type} {l : List α} {i : Nat} {x : α} (h : l[i]? = some x) : i < l.length := (List.getElem?_eq_some_iff.mp h).1
/-- a pairing of n people -/
structure IsPair (n : Nat) (ps : List Nat) : Prop where
  len : ps.length = n
  par : ∀ x, x < n → ∃ y, ps[x]? = some y ∧ y < n ∧ y ≠ x ∧ ps[y]? = some x
/-- after t turns: the first t pairs are joined -/
def PInv (os fs : List Nat) (t : Nat) : Prop := fs.length = os.length ∧ ∀ j, j < t → ∀ x y, os[2 * j]? = some x → os[2 * j + 1]? = some y → fs[x]? = some y ∧ fs[y]? = some x
theorem PInv.step {os fs : List Nat} {t x y : Nat} (hnd : os.Nodup) (hlt : ∀ z ∈ os, z < os.length) (h : PInv os fs t) (hx : os[2 * t]? = some x) (hy : os[2 * t + 1]? = some y) :
    PInv os ((fs.set x y).set y x) (t + 1) := by
  obtain ⟨hl, hp⟩ := h
  have xl : x < fs.length := by rw [hl]; exact hlt x (List.mem_of_getElem? hx)
  have yl : y < fs.length := by rw [hl]; exact hlt y (List.mem_of_getElem? hy)
  have xy : x ≠ y := fun e => by
    subst e
    have := nd_ix hnd hx hy
    omega
  refine ⟨by rw [List.length_set, List.length_set, hl], fun j hj u v hu hv => ?_⟩
  by_cases e : j = t
  · subst e
    have e1 : u = x := Option.some.inj (hu.symm.trans hx)
    have e2 : v = y := Option.some.inj (hv.symm.trans hy)
    subst e1 e2
    refine ⟨?_, ?_⟩
    · rw [List.getElem?_set_ne (Ne.symm xy), List.getElem?_set_self xl]
    · rw [List.getElem?_set_self (by rw [List.length_set]; exact yl)]
  · obtain ⟨h1, h2⟩ := hp j (by omega) u v hu hv
    have a1 : x ≠ u := fun z => by subst z; have := nd_ix hnd hx hu; omega
    have a2 : y ≠ u := fun z => by subst z; have := nd_ix hnd hy hu; omega
    have a3 : x ≠ v := fun z => by subst z; have := nd_ix hnd hx hv; omega
    have a4 : y ≠ v := fun z => by subst z; have := nd_ix hnd hy hv; omega
    refine ⟨?_, ?_⟩
    · rw [List.getElem?_set_ne a2, List.getElem?_set_ne a1]; exact h1
    · rw [List.getElem?_set_ne a4, List.getElem?_set_ne a3]; exact h2
theorem PInv.done {os fs : List Nat} {n : Nat} (hp : os.Perm (List.range n)) (he : n % 2 = 0) (h : PInv os fs (n / 2)) : IsPair n fs := by
  have hl : os.length = n := by rw [hp.length_eq, List.length_range]
  have hnd : os.Nodup := hp.nodup_iff.mpr List.nodup_range
  refine ⟨by rw [h.1, hl], fun x hx => ?_⟩
  have hm : x ∈ os := hp.mem_iff.mpr (List.mem_range.mpr hx)
  obtain ⟨i, hi, ei⟩ := List.mem_iff_getElem.mp hm
  have gi : os[i]? = some x := by rw [List.getElem?_eq_getElem hi, ei]
  have lt_n : ∀ {k z : Nat}, os[k]? = some z → z < n := fun {k z} hz => List.mem_range.mp (hp.mem_iff.mp (List.mem_of_getElem? hz))
  by_cases hq : i % 2 = 0
  · have i1 : i + 1 < os.length := by omega
    obtain ⟨y, gy⟩ := get_some i1
    have g1 : os[2 * (i / 2)]? = some x := by rw [show 2 * (i / 2) = i by omega]; exact gi
    have g2 : os[2 * (i / 2) + 1]? = some y := by rw [show 2 * (i / 2) + 1 = i + 1 by omega]; exact gy
    obtain ⟨r1, r2⟩ := h.2 (i / 2) (by omega) x y g1 g2
    exact ⟨y, r1, lt_n gy, fun e => by subst e; have := nd_ix hnd gi gy; omega, r2⟩
  · have i1 : i - 1 < os.length := by omega
    obtain ⟨y, gy⟩ := get_some i1
    have g1 : os[2 * (i / 2)]? = some y := by rw [show 2 * (i / 2) = i - 1 by omega]; exact gy
    have g2 : os[2 * (i / 2) + 1]? = some x := by rw [show 2 * (i / 2) + 1 = i by omega]; exact gi
    obtain ⟨r1, r2⟩ := h.2 (i / 2) (by omega) y x g1 g2
    exact ⟨y, r2, lt_n gy, fun e => by subst e; have := nd_ix hnd gi gy; omega, r1⟩
/-- range(0, n, 2) -/
theorem fits_long {i : Int} (h1 : -(2 ^ 62) ≤ i) (h2 : i < 2 ^ 62) : Builtin.Range.rangeFitsLong i = true := by
  unfold Builtin.Range.rangeFitsLong
  rw [Bool.and_eq_true]
  exact ⟨decide_eq_true (by omega), decide_eq_true (by omega)⟩
theorem rgc_two {n : Nat} (h : n ≤ 1000000) : RgC 0 (n : Int) 2 ((n + 1) / 2) := by
  have e : Builtin.Range.rangeSize 0 (n : Int) 2 = (((n + 1) / 2 : Nat) : Int) := by
    unfold Builtin.Range.rangeSize
    rw [if_pos (by decide)]
    split <;> omega
  refine ⟨by decide, by decide, ?_, e⟩
  unfold Builtin.Range.small
  rw [e, fits_long (i := 0) (by decide) (by decide), fits_long (i := (n : Int)) (by omega) (by omega), fits_long (i := 2) (by decide) (by decide), fits_long (i := (((n + 1) / 2 : Nat) : Int)) (by omega) (by omega), if_pos (by decide), fits_long (i := (n : Int) + (2 - 1)) (by omega) (by omega), Bool.or_true]
  rfl
theorem rep_flat {α : Type} (n : Nat) (x : α) : (List.replicate n [x]).flatten = List.replicate n x := by
  induction n with
  | zero => rfl
  | succ n ih => rw [List.replicate_succ, List.flatten_cons, ih, List.replicate_succ]; rfl
end Pc
namespace Pc
open PySem PySem.Spec PyProof.Rows L2 RZ
section
variable {P : Program} {w : World} {K : PySem.W.Frag} {mg : Str → Option Value} {base : Heap}
/-! ### one of some -/
def spOf (K : PySem.W.Frag) : Sp := fun vs H Q _ => ∃ (b a : Addr) (n : Nat) (xs : List V), vs = [.ref b, .ref a] ∧ Box (n + 1) H b ∧ a ≠ b ∧ H a = some (.lst xs) ∧ 0 < xs.length ∧ xs.length ≤ 1000 ∧
  ∀ (H' : Hp) (i : Nat) (v : V), xs[i]? = some v → Keep b H H' → Box n H' b → Q v H'
theorem ok_of (T : Env K mg) : FnOk P w K mg base CX0 2 T.f_pick T.d_pick ["_law_source", "_law_some"] (spOf K) := by
  have GT : FnOk P w K mg base CX0 1 T.f_draw T.d_draw ["_law_source", "_law_bound"] spTake := ok_take T
  refine T.F_pick.ok sc_pick (fun vs H Q E h => ?_) (fun cdv A outer s H vs Q E hr h => ?_)
  · obtain ⟨b, a, n, xs, rfl, _⟩ := h
    rfl
  · obtain ⟨b, a, n, xs, rfl, hB, hab, ha, h0, hl, q⟩ := h
    refine ⟨_, pss_one (ps_ret (pe_ix ix_list (pv 1) (pe_call GT hr (by rfl) T.g_draw T.F_draw.kp T.b_draw .nil pass0 (pa_cons (pv 0) (pa_cons (pe_callB call_len_seq (by rfl) T.n_len PySem.boot_len (pa_cons (pv 1) pa_nil)) pa_nil))) (fun _ _ => rfl))), ?_⟩
    refine ⟨.ref a, rfl, .ref b, rfl, .ref a, rfl, a, xs, rfl, .inl (.inl (.inl ha)), b, n, xs.length, rfl, hB, by omega, by omega, fun r H' r0 r1 hB' k => ?_⟩
    obtain ⟨v, hv⟩ := get_some (l := xs) (i := r.toNat) (by omega)
    refine ⟨a, xs, r, v, rfl, rfl, .inl (.inl (k _ _ hab ha)), ?_, q H' r.toNat v hv k hB'⟩
    have := atI_nat hv
    rw [show ((r.toNat : Nat) : Int) = r by omega] at this
    exact this
end
end Pc
namespace Pc
open PySem PySem.Spec PyProof.Rows L2 RZ
theorem perm_map_inv {α β : Type} (f : α → β) {zs ys : List β} (h : zs.Perm ys) : ∀ l : List α, zs = l.map f → ∃ l' : List α, ys = l'.map f ∧ l'.Perm l := by
  induction h with
  | nil => exact fun l e => ⟨l, e, List.Perm.refl _⟩
  | cons x _ ih =>
    intro l e
    cases l with
    | nil => cases e
    | cons a r =>
      injection e with e1 e2
      obtain ⟨l', h1, h2⟩ := ih r e2
      exact ⟨a :: l', by rw [h1, e1]; rfl, h2.cons a⟩
  | swap x y t =>
    intro l e
    cases l with
    | nil => cases e
    | cons a r =>
      cases r with
      | nil => injection e with _ e2; cases e2
      | cons b r =>
        injection e with e1 e2
        injection e2 with e2 e3
        exact ⟨b :: a :: r, by rw [e1, e2, e3]; rfl, List.Perm.swap _ _ _⟩
  | trans _ _ ih1 ih2 =>
    intro l e
    obtain ⟨l1, h1, h2⟩ := ih1 l e
    obtain ⟨l2, h3, h4⟩ := ih2 l1 h1
    exact ⟨l2, h3, h4.trans h2⟩
theorem rg_nv (n : Nat) : rgV 0 (n : Int) = nv (List.range n) := by
  unfold rgV nv
  rw [Int.sub_zero, Int.toNat_natCast]
  refine List.map_congr_left fun i _ => ?_
  rw [Int.zero_add]
end Pc
namespace Pc
open PySem PySem.Spec PyProof.Rows L2 RZ
section
variable {P : Program} {w : World} {K : PySem.W.Frag} {mg : Str → Option Value} {base : Heap}
/-! ### a drawn pairing -/
def spRandom : Sp := fun vs H Q _ => ∃ (b : Addr) (n k : Nat), vs = [.ref b, .int k] ∧ Box (n + k) H b ∧ k % 2 = 0 ∧ k ≤ 1000 ∧
  ∀ (H' : Hp) (p : Addr) (ps : List Nat), IsPair k ps → Keep b H H' → Box n H' b → H p = none → H' p = some (.tup (nv ps)) → Q (.ref p) H'
theorem ok_random (T : Env K mg) : FnOk P w K mg base CX0 3 T.f_random_pairing T.d_random_pairing ["_law_source", "_law_crowd"] spRandom := by
  have GS : FnOk P w K mg base CX0 2 T.f_shuffled T.d_shuffled ["_law_source", "_law_some"] (spStrewn K) := ok_strewn T
  refine T.F_random_pairing.ok sc_random_pairing (fun vs H Q E h => ?_) (fun cdv A outer s H vs Q E hr h => ?_)
  · obtain ⟨b, n, k, rfl, _⟩ := h
    rfl
  · obtain ⟨b0, m, n, rfl, hB, he, hn, q⟩ := h
    refine ⟨_, pss_cons (ps_par (by rfl) sc_random_pairing.nd (i := 2) (j := 3) rfl rfl (by decide) rfl rfl (pa_cons (pe_call GS hr (by rfl) T.g_shuffled T.F_shuffled.kp T.b_shuffled .nil pass0 (pa_cons (pv 0) (pa_cons (pe_listRg rfl (by rfl) T.n_list (prg_1 (by rfl) T.n_range (pv 1))) pa_nil)))
        (pa_cons (pe_op op_rep (pe_lst (pa_cons pe_int pa_nil)) (pv 1)) pa_nil)) (by rfl)) <|
      pss_cons (ps_for PassesOwn.never rfl (pi_range3 rfl T.n_range (pa_cons pe_int (pa_cons (pv 1) (pa_cons pe_int pa_nil))))
          (pg_name (i := 4) sc_random_pairing.nd rfl (.inl rfl))
        (pss_one (ps_asg (pe_tup (pa_cons (pe_ix ix_list (pv 2) (pe_op op_add (pv 4) pe_int) (fun _ _ => rfl)) (pa_cons (pe_ix ix_list (pv 2) (pv 4) (fun _ _ => rfl)) pa_nil)))
          (pg_tup rfl (pgs_cons (pg_sub (pv 3) (pe_ix ix_list (pv 2) (pv 4) (fun _ _ => rfl)) set_list) (pgs_cons (pg_sub (pv 3) (pe_ix ix_list (pv 2) (pe_op op_add (pv 4) pe_int) (fun _ _ => rfl)) set_list) pgs_nil)))))) <|
      pss_one (ps_ret (pe_callTy call_tuple_of (by rfl) T.n_tuple (by decide +kernel) (pa_cons (pv 3) pa_nil))), ?_⟩
    refine ⟨.ref b0, rfl, .int n, rfl, n, rfl, RgOk.of_le (by decide) (by omega) (by decide) (by omega), fun rl nrl => ?_⟩
    have sr : Same H _ := same_new (o := .lst (rgV 0 (n : Int))) nrl
    have hrl : (rgV 0 (n : Int)).length = n := by rw [rgV_length]; omega
    refine ⟨b0, rl, m, _, rfl, (hB.same sr).mono (by rw [hrl]; exact Nat.le_refl _), .inl (.inl upd_same), by rw [hrl]; exact hn, fun H1 a ys hpy hk2 hB1 na0 ea0 => ?_⟩
    obtain ⟨os, ee1, hp⟩ := perm_map_inv (fun (i : Nat) => V.int (i : Int)) hpy.symm (List.range n) (rg_nv n)
    have ea1 : H1 a = some (.lst (nv os)) := by rw [ea0, ee1]; rfl
    have hS : SqL K H1 a (nv os) := .inl (.inl ea1)
    have kk : Keep b0 H H1 := (Keep.of_same sr).trans hk2
    have hl : os.length = n := by rw [hp.length_eq, List.length_range]
    have hl2 : (nv os).length = n := by rw [nv_length, hl]
    have hnd : os.Nodup := hp.nodup_iff.mpr List.nodup_range
    have hlt : ∀ z ∈ os, z < os.length := fun z hz => by rw [hl]; exact List.mem_range.mp (hp.mem_iff.mp hz)
    refine ⟨by show 1 ≤ sizeLine; decide, fun e ne => ?_⟩
    have s0 : Same H1 (upd H1 e (.lst [.int 0])) := same_new ne
    refine ⟨.int n, rfl, e, _, [.int 0], rfl, rfl, upd_same, by omega, by omega, ?_, fun f nf => ⟨_, _, rfl, ?_⟩⟩
    · show 1 * Int.toNat (n : Int) ≤ sizeLine
      exact Nat.le_of_lt (small1000 (by omega))
    have s1 : Same H1 _ := s0.trans (same_new (o := .lst (List.replicate ((n : Nat) : Int).toNat [V.int 0]).flatten) nf)
    have nf0 : H1 f = none := s0.free nf
    have e0 : (List.replicate ((n : Nat) : Int).toNat [V.int 0]).flatten = nv (List.replicate n 0) := by
      rw [rep_flat, Int.toNat_natCast]
      unfold nv
      rw [List.map_replicate]; rfl
    have ef0 : (upd (upd H1 e (.lst [.int 0])) f (.lst (List.replicate ((n : Nat) : Int).toNat [V.int 0]).flatten)) f = some (.lst (nv (List.replicate n 0))) := by rw [upd_same, e0]
    refine ⟨.int n, rfl, 0, _, 2, n / 2, rfl, ?_, ?_⟩
    · have := rgc_two (n := n) (by omega)
      rw [show (n + 1) / 2 = n / 2 by omega] at this
      exact this
    refine for_rangeC (fun t σ H' => Same H1 H' ∧ ∃ (y : Option V) (fs : List Nat), σ = [some (.ref b0), some (.int n), some (.ref a), some (.ref f), y] ∧ H' f = some (.lst (nv fs)) ∧ PInv os fs t)
      ⟨s1, none, List.replicate n 0, rfl, ef0, by rw [List.length_replicate, hl], fun j hj => absurd hj (Nat.not_lt_zero _)⟩ (fun t σ H' ht h => ?_) (fun σ H' h => ?_)
    · obtain ⟨sm, y, fs, rfl, ef, pi⟩ := h
      obtain ⟨x1, g1⟩ := get_some (l := os) (i := 2 * t) (by omega)
      obtain ⟨x2, g2⟩ := get_some (l := os) (i := 2 * t + 1) (by omega)
      have hS' : SqL K H' a (nv os) := sm.seq hS
      have ea : atI (nv os) ((0 : Int) + (t : Nat) * 2) = some (.int x1) := by
        rw [show (0 : Int) + (t : Nat) * 2 = ((2 * t : Nat) : Int) by omega]; exact nv_at g1
      have eb : atI (nv os) ((0 : Int) + (t : Nat) * 2 + 1) = some (.int x2) := by
        rw [show (0 : Int) + (t : Nat) * 2 + 1 = ((2 * t + 1 : Nat) : Int) by omega]; exact nv_at g2
      have l1 : x1 < fs.length := by rw [pi.1]; exact hlt _ (List.mem_of_getElem? g1)
      have l2 : x2 < fs.length := by rw [pi.1]; exact hlt _ (List.mem_of_getElem? g2)
      refine ⟨.ref a, rfl, _, rfl, _, 1, rfl, rfl, a, _, _, _, rfl, rfl, hS', eb, .ref a, rfl, _, rfl, a, _, _, _, rfl, rfl, hS', ea, by show 2 ≤ sizeLine; decide, fun tp nt => ?_⟩
      have st : Same H' (upd H' tp (.tup [.int x2, .int x1])) := same_new nt
      have eft : (upd H' tp (.tup [.int x2, .int x1])) f = some (.lst (nv fs)) := st _ _ ef
      have nft : f ≠ tp := ne_of_none ef nt
      refine ⟨tp, _, rfl, .inl (.inl upd_same), rfl, _, _, rfl, .ref f, rfl, .ref a, rfl, _, rfl, a, _, _, _, rfl, rfl, st.seq hS', ea, f, _, _, x1, rfl, rfl, eft, ixN_nat (by rw [nv_length]; exact l1), ?_⟩
      have sq : SqL K (upd (upd H' tp (.tup [.int x2, .int x1])) f (.lst ((nv fs).set x1 (.int x2)))) a (nv os) := by
        have : ∀ b o, H1 b = some o → (upd (upd H' tp (.tup [.int x2, .int x1])) f (.lst ((nv fs).set x1 (.int x2)))) b = some o := fun b o hb => by
          rw [upd_ne (ne_of_none hb nf0)]; exact st _ _ (sm _ _ hb)
        exact Same.seq this hS
      refine ⟨_, _, rfl, .ref f, rfl, .ref a, rfl, _, rfl, _, 1, rfl, rfl, a, _, _, _, rfl, rfl, sq, eb, f, _, _, x2, rfl, rfl, upd_same, ?_, ?_⟩
      · rw [List.length_set]; exact ixN_nat (by rw [nv_length]; exact l2)
      · refine ⟨rfl, fun b o hb => ?_, _, (fs.set x1 x2).set x2 x1, rfl, ?_, pi.step hnd hlt g1 g2⟩
        · rw [upd_ne (ne_of_none hb nf0), upd_ne (ne_of_none hb nf0)]; exact st _ _ (sm _ _ hb)
        · rw [upd_same, nv_set, nv_set]
    · obtain ⟨sm, y, fs, rfl, ef, pi⟩ := h
      refine ⟨.ref f, rfl, f, _, rfl, .inl ⟨.inl (.inl ef), fun p np => ?_⟩⟩
      have sp := sm.trans (same_new (o := .tup (nv fs)) np)
      refine q _ p fs (pi.done hp he) (kk.trans (Keep.of_same sp)) (hB1.same sp) ?_ upd_same
      have np1 : H1 p = none := sm.free np
      cases e : H p with
      | none => rfl
      | some o =>
        by_cases hb : p = b0
        · subst hb
          obtain ⟨y, hy⟩ := hB1.lst
          rw [hy] at np1; cases np1
        · rw [kk p o hb e] at np1; cases np1
end
end Pc
namespace Pc
open PySem PySem.Spec PyProof.Rows L2 RZ
/-- the first k of a list of numbers, as a slice -/
theorem cut_head (l : List Nat) (k : Nat) : cutV (nv l) none (some (k : Int)) = nv (l.take k) := by
  unfold cutV nv
  rw [HT.sIx_none, HT.sIx_nat, List.drop_zero, List.length_map, Nat.sub_zero, List.map_take]
  by_cases h : k ≤ l.length
  · rw [Nat.min_eq_left h]
  · rw [Nat.min_eq_right (by omega), List.take_of_length_le (by rw [List.length_map]; omega), List.take_of_length_le (by rw [List.length_map]; omega)]
theorem keep_none {b p : Addr} {k : Nat} {H H' : Hp} (hk : Keep b H H') (hB : Box k H' b) (h : H' p = none) : H p = none := by
  cases e : H p with
  | none => rfl
  | some o =>
    by_cases hb : p = b
    · subst hb
      obtain ⟨y, hy⟩ := hB.lst
      rw [hy] at h; cases h
    · rw [hk p o hb e] at h; cases h
end Pc
namespace Pc
open PySem PySem.Spec PyProof.Rows L2 RZ
section
variable {P : Program} {w : World} {K : PySem.W.Frag} {mg : Str → Option Value} {base : Heap}
/-! ### a drawn call of some people -/
def spCallOf (K : PySem.W.Frag) : Sp := fun vs H Q _ => ∃ (b a : Addr) (m n : Nat) (l : List Nat), vs = [.ref b, .ref a] ∧ Box (m + l.length) H b ∧ SqL K H a (nv l) ∧ l.Nodup ∧ 2 ≤ l.length ∧ l.length ≤ 1000 ∧ (∀ x ∈ l, x < n) ∧
  ∀ (H' : Hp) (t : Addr) (x y : Nat), x < y → y < n → H t = none → H' t = some (.tup [.int x, .int y]) → Keep b H H' → Box m H' b → Q (.ref t) H'
theorem ok_call_of (T : Env K mg) : FnOk P w K mg base CX0 3 T.f_random_call T.d_random_call ["_law_source", "_law_some"] (spCallOf K) := by
  have GS : FnOk P w K mg base CX0 2 T.f_shuffled T.d_shuffled ["_law_source", "_law_some"] (spStrewn K) := ok_strewn T
  refine T.F_random_call.ok sc_random_call (fun vs H Q E h => ?_) (fun cdv A outer s H vs Q E hr h => ?_)
  · obtain ⟨b, a, m, n, l, rfl, _⟩ := h
    rfl
  · obtain ⟨b, a, m, n, l, rfl, hB, hS, hnd, h2, hl, hlt, q⟩ := h
    refine ⟨_, pss_cons (ps_set (i := 2) sc_random_call.nd rfl (.inl rfl) (pe_slice sl_list (pe_call GS hr (by rfl) T.g_shuffled T.F_shuffled.kp T.b_shuffled .nil pass0 (pa_cons (pv 0) (pa_cons (pv 1) pa_nil))) po_none (po_some pe_int))) <|
      pss_one (ps_ret (pe_tup (pa_cons (pe_callB (cr_min rfl) (by rfl) T.n_min (by decide +kernel) (pa_cons (pv 2) pa_nil)) (pa_cons (pe_callB (cr_max rfl) (by rfl) T.n_max (by decide +kernel) (pa_cons (pv 2) pa_nil)) pa_nil)))), ?_⟩
    refine ⟨.ref b, rfl, .ref a, rfl, b, a, m, nv l, rfl, by rw [nv_length]; exact hB, hS, by rw [nv_length]; exact hl, fun H1 p2 ys hpy k1 hB1 np2 ep2 => ?_⟩
    obtain ⟨os, e1, hp⟩ := perm_map_inv (fun (i : Nat) => V.int (i : Int)) hpy.symm l rfl
    have ep : H1 p2 = some (.lst (nv os)) := by rw [ep2, e1]; rfl
    have hol : os.length = l.length := hp.length_eq
    have hon : os.Nodup := hp.nodup_iff.mpr hnd
    refine ⟨2, rfl, p2, nv os, rfl, .inl (.inl ep), fun p3 np3 => ?_⟩
    have ec : cutV (nv os) none (some 2) = nv (os.take 2) := cut_head os 2
    rw [ec]
    match os, hol, hon, hp with
    | [], ho, _, _ => exact absurd ho (by simp only [List.length_nil]; omega)
    | [_], ho, _, _ => exact absurd ho (by simp only [List.length_cons, List.length_nil]; omega)
    | x :: y :: r, _, hon, hp =>
      have hx : x < n := hlt x (hp.mem_iff.mp List.mem_cons_self)
      have hy : y < n := hlt y (hp.mem_iff.mp (List.mem_cons_of_mem _ List.mem_cons_self))
      have hxy : x ≠ y := fun e => (List.nodup_cons.mp hon).1 (by rw [e]; exact List.mem_cons_self)
      have s3 : Same H1 _ := same_new (o := .lst (nv [x, y])) np3
      have e3 : (upd H1 p3 (.lst (nv [x, y]))) p3 = some (.lst ([(x : Int), (y : Int)].map V.int)) := upd_same
      refine ⟨.ref p3, rfl, p3, [(x : Int), (y : Int)], rfl, .inl (.inl e3), by show 0 < 2; decide, fun u u1 u2 => ?_⟩
      refine ⟨.ref p3, rfl, p3, [(x : Int), (y : Int)], rfl, .inl (.inl e3), by show 0 < 2; decide, fun v v1 v2 => ?_⟩
      have ux := u2 (x : Int) List.mem_cons_self
      have uy := u2 (y : Int) (List.mem_cons_of_mem _ List.mem_cons_self)
      have vx := v2 (x : Int) List.mem_cons_self
      have vy := v2 (y : Int) (List.mem_cons_of_mem _ List.mem_cons_self)
      have u3 : u = (x : Int) ∨ u = (y : Int) := by
        rcases List.mem_cons.mp u1 with z | z
        · exact .inl z
        · exact .inr (List.mem_singleton.mp z)
      have v3 : v = (x : Int) ∨ v = (y : Int) := by
        rcases List.mem_cons.mp v1 with z | z
        · exact .inl z
        · exact .inr (List.mem_singleton.mp z)
      refine ⟨by show 2 ≤ sizeLine; decide, fun t nt => ?_⟩
      have kt : Keep b H _ := k1.trans (Keep.of_same (s3.trans (same_new (o := .tup [.int u, .int v]) nt)))
      refine q _ t u.toNat v.toNat (by omega) (by omega) (keep_none (k1.trans (Keep.of_same s3)) (hB1.same s3) nt) ?_ kt (hB1.same (s3.trans (same_new nt)))
      rw [upd_same, show ((u.toNat : Nat) : Int) = u by omega, show ((v.toNat : Nat) : Int) = v by omega]
end
end Pc
namespace Pc
open PySem PySem.Spec PyProof.Rows L2 RZ
/-! ### data where more is tracked -/
theorem same_tup {K : PySem.W.Frag} {H H' : Hp} {a : Addr} {xs : List V} (e : Same H H') (h : SqT K H a xs) : SqT K H' a xs := by
  rcases h with (h | ⟨o, h⟩) | h
  · exact .inl (.inl (e _ _ h))
  · exact .inl (.inr ⟨o, e _ _ h⟩)
  · exact .inr h
mutual
theorem dp_same {K : PySem.W.Frag} {H H' : Hp} (e : Same H H') : ∀ {v : V} {d : PyData}, Dp K H v d → Dp K H' v d
  | _, _, .non => .non
  | _, _, .bl b => .bl b
  | _, _, .int i => .int i
  | _, _, .str x => .str x
  | _, _, .lst h a => .lst (e.seq h) (dpa_same e a)
  | _, _, .tup h a => .tup (same_tup e h) (dpa_same e a)
theorem dpa_same {K : PySem.W.Frag} {H H' : Hp} (e : Same H H') : ∀ {vs : List V} {ds : List PyData}, DpAll K H vs ds → DpAll K H' vs ds
  | _, _, .nil => .nil
  | _, _, .cons h a => .cons (dp_same e h) (dpa_same e a)
end
theorem dpa_len {K : PySem.W.Frag} {H : Hp} : ∀ {vs : List V} {ds : List PyData}, DpAll K H vs ds → vs.length = ds.length
  | _, _, .nil => rfl
  | _, _, .cons _ a => by rw [List.length_cons, List.length_cons, dpa_len a]
theorem dpa_get {K : PySem.W.Frag} {H : Hp} : ∀ {vs : List V} {ds : List PyData} {i : Nat} {v : V}, DpAll K H vs ds → vs[i]? = some v → ∃ d, ds[i]? = some d ∧ Dp K H v d
  | _, _, _, _, .nil, h => by simp at h
  | _, _, 0, _, .cons (d := d) h _, e => by
    cases Option.some.inj e
    exact ⟨d, rfl, h⟩
  | _, _, i + 1, v, .cons _ a, e => dpa_get (i := i) a e
theorem depth_get : ∀ {ds : List PyData} {i : Nat} {d : PyData}, ds[i]? = some d → d.depth ≤ PyData.depthAll ds
  | [], _, _, h => by simp at h
  | d :: r, 0, _, h => by
    cases Option.some.inj h
    exact Nat.le_max_left _ _
  | d :: r, i + 1, x, h => Nat.le_trans (depth_get (i := i) (ds := r) h) (Nat.le_max_right _ _)
mutual
/-- no list in it is longer than a hundred thousand -/
def narrow : PyData → Prop
  | .list xs => xs.length ≤ 100000 ∧ narrowAll xs
  | .tuple xs => xs.length ≤ 100000 ∧ narrowAll xs
  | _ => True
def narrowAll : List PyData → Prop
  | [] => True
  | x :: xs => narrow x ∧ narrowAll xs
end
theorem narrow_get : ∀ {ds : List PyData} {i : Nat} {d : PyData}, narrowAll ds → ds[i]? = some d → narrow d
  | [], _, _, _, h => by simp at h
  | d :: r, 0, _, n, h => by
    cases Option.some.inj h
    exact n.1
  | d :: r, i + 1, x, n, h => narrow_get (i := i) (ds := r) n.2 h
theorem narrow_of : ∀ {ds : List PyData}, (∀ d ∈ ds, narrow d) → narrowAll ds
  | [], _ => trivial
  | d :: r, h => ⟨h d List.mem_cons_self, narrow_of fun x hx => h x (List.mem_cons_of_mem _ hx)⟩
theorem narrow_ints (ns : List Int) : narrowAll (ns.map PyData.int) := narrow_of fun d hd => by
  obtain ⟨i, _, rfl⟩ := List.mem_map.mp hd
  exact trivial
theorem line_big {n : Nat} (h : n ≤ 100000) : n < sizeLine := Nat.lt_of_le_of_lt h (by decide)
theorem ty_lst {K : PySem.W.Frag} {H : Hp} {a : Addr} {xs : List V} (h : SqL K H a xs) : TyX K H (.ref a) (.type "list") := by
  rcases h with (h | ⟨o, h⟩) | ⟨o, its, n, h, c, _⟩
  · exact .base (.lst h)
  · exact .base (.frz h)
  · exact .kList h c
theorem ty_tup {K : PySem.W.Frag} {H : Hp} {a : Addr} {xs : List V} (h : SqT K H a xs) : TyX K H (.ref a) (.type "tuple") := by
  rcases h with (h | ⟨o, h⟩) | ⟨o, its, n, h, c, _⟩
  · exact .base (.tup h)
  · exact .fTuple h
  · exact .kTuple h c
theorem kit2 {K : PySem.W.Frag} {t a b : String} {p q : Bool} (h1 : kitB t a = some p) (h2 : kitB t b = some q) : PySem.W.kitAny K (.type t) [.type a, .type b] = some (p || q) := by
  refine kitAny_cons (kit_ty h1) (fun e => kitAny_cons (kit_ty h2) (fun e2 => ?_) (fun e2 => ?_)) (fun e => ?_)
  · subst e e2; rfl
  · subst e e2; rfl
  · subst e; rfl
section
variable {K : PySem.W.Frag}
theorem any_lt_int : PySem.W.kitAny K (.type "int") [.type "list", .type "tuple"] = some false := kit2 (p := false) (q := false) (by decide +kernel) (by decide +kernel)
theorem any_sb_int : PySem.W.kitAny K (.type "int") [.type "str", .type "bool"] = some false := kit2 (p := false) (q := false) (by decide +kernel) (by decide +kernel)
theorem any_bs_int : PySem.W.kitAny K (.type "int") [.type "bool", .type "str"] = some false := kit2 (p := false) (q := false) (by decide +kernel) (by decide +kernel)
theorem one_int_int : PySem.W.kitOne K (.type "int") (.type "int") = some true := kit_ty (by decide +kernel)
theorem one_int_bool : PySem.W.kitOne K (.type "int") (.type "bool") = some false := kit_ty (by decide +kernel)
theorem one_int_list : PySem.W.kitOne K (.type "int") (.type "list") = some false := kit_ty (by decide +kernel)
theorem one_int_tuple : PySem.W.kitOne K (.type "int") (.type "tuple") = some false := kit_ty (by decide +kernel)
theorem any_lt_none : PySem.W.kitAny K (.type "NoneType") [.type "list", .type "tuple"] = some false := kit2 (p := false) (q := false) (by decide +kernel) (by decide +kernel)
theorem any_sb_none : PySem.W.kitAny K (.type "NoneType") [.type "str", .type "bool"] = some false := kit2 (p := false) (q := false) (by decide +kernel) (by decide +kernel)
theorem any_bs_none : PySem.W.kitAny K (.type "NoneType") [.type "bool", .type "str"] = some false := kit2 (p := false) (q := false) (by decide +kernel) (by decide +kernel)
theorem one_none_int : PySem.W.kitOne K (.type "NoneType") (.type "int") = some false := kit_ty (by decide +kernel)
theorem one_none_bool : PySem.W.kitOne K (.type "NoneType") (.type "bool") = some false := kit_ty (by decide +kernel)
theorem one_none_list : PySem.W.kitOne K (.type "NoneType") (.type "list") = some false := kit_ty (by decide +kernel)
theorem one_none_tuple : PySem.W.kitOne K (.type "NoneType") (.type "tuple") = some false := kit_ty (by decide +kernel)
theorem any_lt_bool : PySem.W.kitAny K (.type "bool") [.type "list", .type "tuple"] = some false := kit2 (p := false) (q := false) (by decide +kernel) (by decide +kernel)
theorem any_sb_bool : PySem.W.kitAny K (.type "bool") [.type "str", .type "bool"] = some true := kit2 (p := false) (q := true) (by decide +kernel) (by decide +kernel)
theorem any_bs_bool : PySem.W.kitAny K (.type "bool") [.type "bool", .type "str"] = some true := kit2 (p := true) (q := false) (by decide +kernel) (by decide +kernel)
theorem one_bool_int : PySem.W.kitOne K (.type "bool") (.type "int") = some true := kit_ty (by decide +kernel)
theorem one_bool_bool : PySem.W.kitOne K (.type "bool") (.type "bool") = some true := kit_ty (by decide +kernel)
theorem one_bool_list : PySem.W.kitOne K (.type "bool") (.type "list") = some false := kit_ty (by decide +kernel)
theorem one_bool_tuple : PySem.W.kitOne K (.type "bool") (.type "tuple") = some false := kit_ty (by decide +kernel)
theorem any_lt_str : PySem.W.kitAny K (.type "str") [.type "list", .type "tuple"] = some false := kit2 (p := false) (q := false) (by decide +kernel) (by decide +kernel)
theorem any_sb_str : PySem.W.kitAny K (.type "str") [.type "str", .type "bool"] = some true := kit2 (p := true) (q := false) (by decide +kernel) (by decide +kernel)
theorem any_bs_str : PySem.W.kitAny K (.type "str") [.type "bool", .type "str"] = some true := kit2 (p := false) (q := true) (by decide +kernel) (by decide +kernel)
theorem one_str_int : PySem.W.kitOne K (.type "str") (.type "int") = some false := kit_ty (by decide +kernel)
theorem one_str_bool : PySem.W.kitOne K (.type "str") (.type "bool") = some false := kit_ty (by decide +kernel)
theorem one_str_list : PySem.W.kitOne K (.type "str") (.type "list") = some false := kit_ty (by decide +kernel)
theorem one_str_tuple : PySem.W.kitOne K (.type "str") (.type "tuple") = some false := kit_ty (by decide +kernel)
theorem any_lt_list : PySem.W.kitAny K (.type "list") [.type "list", .type "tuple"] = some true := kit2 (p := true) (q := false) (by decide +kernel) (by decide +kernel)
theorem any_sb_list : PySem.W.kitAny K (.type "list") [.type "str", .type "bool"] = some false := kit2 (p := false) (q := false) (by decide +kernel) (by decide +kernel)
theorem any_bs_list : PySem.W.kitAny K (.type "list") [.type "bool", .type "str"] = some false := kit2 (p := false) (q := false) (by decide +kernel) (by decide +kernel)
theorem one_list_int : PySem.W.kitOne K (.type "list") (.type "int") = some false := kit_ty (by decide +kernel)
theorem one_list_bool : PySem.W.kitOne K (.type "list") (.type "bool") = some false := kit_ty (by decide +kernel)
theorem one_list_list : PySem.W.kitOne K (.type "list") (.type "list") = some true := kit_ty (by decide +kernel)
theorem one_list_tuple : PySem.W.kitOne K (.type "list") (.type "tuple") = some false := kit_ty (by decide +kernel)
theorem any_lt_tuple : PySem.W.kitAny K (.type "tuple") [.type "list", .type "tuple"] = some true := kit2 (p := false) (q := true) (by decide +kernel) (by decide +kernel)
theorem any_sb_tuple : PySem.W.kitAny K (.type "tuple") [.type "str", .type "bool"] = some false := kit2 (p := false) (q := false) (by decide +kernel) (by decide +kernel)
theorem any_bs_tuple : PySem.W.kitAny K (.type "tuple") [.type "bool", .type "str"] = some false := kit2 (p := false) (q := false) (by decide +kernel) (by decide +kernel)
theorem one_tuple_int : PySem.W.kitOne K (.type "tuple") (.type "int") = some false := kit_ty (by decide +kernel)
theorem one_tuple_bool : PySem.W.kitOne K (.type "tuple") (.type "bool") = some false := kit_ty (by decide +kernel)
theorem one_tuple_list : PySem.W.kitOne K (.type "tuple") (.type "list") = some false := kit_ty (by decide +kernel)
theorem one_tuple_tuple : PySem.W.kitOne K (.type "tuple") (.type "tuple") = some true := kit_ty (by decide +kernel)
end
theorem cls2 (a b : String) : Paired ClsV [.ty a, .ty b] [.type a, .type b] := .cons (.ty a) (.cons (.ty b) .nil)
/-- zip of two tuples -/
theorem walk_zipT {K : PySem.W.Frag} {a b : Addr} {xs ys : List V} {n : Nat} (hn : n = min xs.length ys.length) : Walk (ItzT K a b) n (fun H => SqT K H a xs ∧ SqT K H b ys) (YPair (fun i => xs[i]?) (fun i => ys[i]?)) := by
  subst hn
  refine ⟨fun i _ hi q => ?_, fun _ q => ⟨xs, ys, q.1, q.2, by omega⟩, fun i H v H' _ q y => ?_⟩
  · obtain ⟨x, hx⟩ := get_some (l := xs) (i := i) (by omega)
    obtain ⟨z, hz⟩ := get_some (l := ys) (i := i) (by omega)
    exact ⟨xs, ys, x, z, q.1, q.2, hx, hz⟩
  · obtain ⟨T, x, z, h1, h2, h3, h4, h5⟩ := y
    exact ⟨T, x, z, h1, h2, h3, h4 xs q.1, h5 ys q.2⟩
theorem fn_never {P : Program} {w : World} {K : PySem.W.Frag} {mg : Str → Option Value} {base : Heap} {CX : CXT} {k : Nat} {f : Addr} {fd : FuncData} {ps : List Str} {sp : Sp} (h : ∀ vs H Q E, ¬ sp vs H Q E) : FnOk P w K mg base CX k f fd ps sp :=
  ⟨fun vs H Q E q => absurd q (h vs H Q E), fun _ _ _ H _ _ vs Q E _ _ _ _ q => absurd q (h vs H Q E)⟩
/-- a comprehension without a test -/
theorem yes_if {σ : L2.St} {H : Hp} {A B : Hp → Prop} (h : A H) : tYes σ H (fun b H3 => if b = true then A H3 else B H3) := by
  show if true = true then A H else B H
  exact iteT h
theorem all_rep : ∀ n : Nat, (List.replicate n true).all id = true
  | 0 => rfl
  | n + 1 => by rw [List.replicate_succ, List.all_cons, all_rep n]; rfl
end Pc
namespace Pc
open PySem PySem.Spec PyProof.Rows L2 RZ
section
variable {P : Program} {w : World} {K : PySem.W.Frag} {mg : Str → Option Value} {base : Heap}
/-! ### the same data twice -/
def spSame (K : PySem.W.Frag) (n : Nat) : Sp := fun vs H Q _ => ∃ (x y : V) (d : PyData), vs = [x, y] ∧ Dp K H x d ∧ Dp K H y d ∧ d.depth < n ∧ narrow d ∧ ∀ H', Same H H' → Q (.bl true) H'
theorem same_step (T : Env K mg) (n : Nat) (G : FnOk P w K mg base CX0 n T.f_same T.d_same ["_law_found", "_law_due"] (spSame K n)) : FnOk P w K mg base CX0 (n + 1) T.f_same T.d_same ["_law_found", "_law_due"] (spSame K (n + 1)) := by
  refine T.F_same.ok sc_same (fun vs H Q E h => ?_) (fun cdv A outer s H vs Q E hr h => ?_)
  · obtain ⟨x, y, d, rfl, _⟩ := h
    rfl
  · obtain ⟨x, y, d, rfl, hx, hy, hd, hw, q⟩ := h
    refine ⟨_, pss_cons (ps_if (pt_val (pe_callB call_isiT (by rfl) T.n_isinstance (by decide +kernel) (pa_cons (pv 1) (pa_cons (pe_tup (pa_cons (pe_bltn (v := .ty "list") (by rfl) T.n_list (by decide +kernel) rfl) (pa_cons (pe_bltn (v := .ty "tuple") (by rfl) T.n_tuple (by decide +kernel) rfl) pa_nil))) pa_nil))))
        (pss_cons (ps_if (PW.pt (pw_or (pt_cmpR op_ne (pe_callB call_isi (by rfl) T.n_isinstance (by decide +kernel) (pa_cons (pv 0) (pa_cons (pe_bltn (v := .ty "list") (by rfl) T.n_list (by decide +kernel) rfl) pa_nil))) (pe_callB call_isi (by rfl) T.n_isinstance (by decide +kernel) (pa_cons (pv 1) (pa_cons (pe_bltn (v := .ty "list") (by rfl) T.n_list (by decide +kernel) rfl) pa_nil))) (nomark _))
            (pw_or1 (pt_cmpR op_ne (pe_callB call_isi (by rfl) T.n_isinstance (by decide +kernel) (pa_cons (pv 0) (pa_cons (pe_bltn (v := .ty "tuple") (by rfl) T.n_tuple (by decide +kernel) rfl) pa_nil))) (pe_callB call_isi (by rfl) T.n_isinstance (by decide +kernel) (pa_cons (pv 1) (pa_cons (pe_bltn (v := .ty "tuple") (by rfl) T.n_tuple (by decide +kernel) rfl) pa_nil))) (nomark _)))))
          (pss_one (ps_ret pe_bl)) pss_nil)
        (pss_one (ps_ret (pe_and (pe_cmpR op_eq (pe_callB call_len_seq (by rfl) T.n_len PySem.boot_len (pa_cons (pv 0) pa_nil)) (pe_callB call_len_seq (by rfl) T.n_len PySem.boot_len (pa_cons (pv 1) pa_nil)) (nomark _))
          (pe_one (pe_callB (cr_all rfl) (by rfl) T.n_all (by decide +kernel) (pa_cons
            (pe_lc (own := [("_law_mine", 2), ("_law_its", 3)]) (g := gTup K 2 (gCons (gName 2) (gCons (gName 3) gNil))) (tt := tYes) (by rfl) sc_same.nd (pi_zipA (by rfl) T.n_zip (pa_cons (pv 0) (pa_cons (pv 1) pa_nil)))
              (blkOk_by (N := N_same) (sc := defScope s_same) (by decide +kernel))
              (fun _ _ _ _ _ => pg_tup (by rfl) (pgs_cons (pg_name (i := 2) sc_same.nd rfl (.inl rfl)) (pgs_cons (pg_name (i := 3) sc_same.nd rfl (.inl rfl)) pgs_nil)))
              (fun _ _ _ _ _ => pts_nil)
              (fun _ _ _ _ _ => pe_call G hr (by rfl) T.g_same T.F_same.kp T.b_same .nil pass0 (pa_cons (pv 2) (pa_cons (pv 3) pa_nil)))) pa_nil))))))) pss_nil)
      (pss_cons (ps_if (PW.pt (pw_or (pt_cmpR op_isN (pv 1) pe_non (nomark _)) (pw_or1 (pt_val (pe_callB call_isiT (by rfl) T.n_isinstance (by decide +kernel) (pa_cons (pv 1) (pa_cons (pe_tup (pa_cons (pe_bltn (v := .ty "bool") (by rfl) T.n_bool (by decide +kernel) rfl) (pa_cons (pe_bltn (v := .ty "str") (by rfl) T.n_str (by decide +kernel) rfl) pa_nil))) pa_nil)))))))
        (pss_one (ps_ret (pe_and (pe_cmpR op_eq (pv 0) (pv 1) (nomark _))
          (pe_and (pe_cmpR op_eq (pe_callB call_isi (by rfl) T.n_isinstance (by decide +kernel) (pa_cons (pv 0) (pa_cons (pe_bltn (v := .ty "bool") (by rfl) T.n_bool (by decide +kernel) rfl) pa_nil))) (pe_callB call_isi (by rfl) T.n_isinstance (by decide +kernel) (pa_cons (pv 1) (pa_cons (pe_bltn (v := .ty "bool") (by rfl) T.n_bool (by decide +kernel) rfl) pa_nil))) (nomark _))
          (pe_one (pe_cmpR op_eq (pe_cmpR op_isN (pv 0) pe_non (nomark _)) (pe_cmpR op_isN (pv 1) pe_non (nomark _)) (nomark _))))))) pss_nil)
      (pss_one (ps_ret (pe_and (pe_callB call_isi (by rfl) T.n_isinstance (by decide +kernel) (pa_cons (pv 0) (pa_cons (pe_bltn (v := .ty "int") (by rfl) T.n_int (by decide +kernel) rfl) pa_nil)))
        (pe_and (pe_not (pe_callB call_isi (by rfl) T.n_isinstance (by decide +kernel) (pa_cons (pv 0) (pa_cons (pe_bltn (v := .ty "bool") (by rfl) T.n_bool (by decide +kernel) rfl) pa_nil)))) (pe_one (pe_cmpR op_eq (pv 0) (pv 1) (nomark _)))))))), ?_⟩
    cases d with
    | dict _ => cases hx
    | int i =>
      cases hx; cases hy
      refine ⟨_, rfl, by show 2 ≤ sizeLine; decide, fun t nt => ⟨_, t, _, _, _, _, rfl, upd_same, cls2 _ _, .base (.int i), any_lt_int, _, rfl, iteF ?_⟩⟩
      refine ⟨_, rfl, rfl, _, rfl, iteF ⟨_, rfl, by show 2 ≤ sizeLine; decide, fun u nu => ⟨_, u, _, _, _, _, rfl, upd_same, cls2 _ _, .base (.int i), any_bs_int, _, rfl, iteF ?_⟩⟩⟩
      refine ⟨_, rfl, _, _, _, _, _, rfl, .ty _, .base (.int i), one_int_int, _, rfl, iteT ⟨_, rfl, _, _, _, _, _, rfl, .ty _, .base (.int i), one_int_bool, _, rfl, _, rfl, iteT ⟨_, rfl, _, rfl, rfl, ?_⟩⟩⟩
      rw [decide_eq_true rfl]
      exact q _ ((same_new nt).trans (same_new nu))
    | none =>
      cases hx; cases hy
      refine ⟨_, rfl, by show 2 ≤ sizeLine; decide, fun t nt => ⟨_, t, _, _, _, _, rfl, upd_same, cls2 _ _, .base .non, any_lt_none, _, rfl, iteF ?_⟩⟩
      refine ⟨_, rfl, rfl, _, rfl, iteT ?_⟩
      refine ⟨_, rfl, _, rfl, rfl, _, rfl, iteT ⟨_, rfl, _, _, _, _, _, rfl, .ty _, .base .non, one_none_bool, _, rfl, _, _, _, _, _, rfl, .ty _, .base .non, one_none_bool, rfl, _, rfl, iteT ⟨_, rfl, rfl, _, rfl, rfl, rfl, ?_⟩⟩⟩
      exact q _ (same_new nt)
    | bool b =>
      cases hx; cases hy
      refine ⟨_, rfl, by show 2 ≤ sizeLine; decide, fun t nt => ⟨_, t, _, _, _, _, rfl, upd_same, cls2 _ _, .base (.bl b), any_lt_bool, _, rfl, iteF ?_⟩⟩
      refine ⟨_, rfl, rfl, _, rfl, iteF ⟨_, rfl, by show 2 ≤ sizeLine; decide, fun u nu => ⟨_, u, _, _, _, _, rfl, upd_same, cls2 _ _, .base (.bl b), any_bs_bool, _, rfl, iteT ?_⟩⟩⟩
      refine ⟨_, rfl, _, rfl, rfl, _, rfl, ?_⟩
      rw [decide_eq_true rfl]
      refine iteT ⟨_, rfl, _, _, _, _, _, rfl, .ty _, .base (.bl b), one_bool_bool, _, rfl, _, _, _, _, _, rfl, .ty _, .base (.bl b), one_bool_bool, rfl, _, rfl, iteT ⟨_, rfl, rfl, _, rfl, rfl, rfl, ?_⟩⟩
      rw [decide_eq_true rfl]
      exact q _ ((same_new nt).trans (same_new nu))
    | str z =>
      cases hx; cases hy
      refine ⟨_, rfl, by show 2 ≤ sizeLine; decide, fun t nt => ⟨_, t, _, _, _, _, rfl, upd_same, cls2 _ _, .base (.str z), any_lt_str, _, rfl, iteF ?_⟩⟩
      refine ⟨_, rfl, rfl, _, rfl, iteF ⟨_, rfl, by show 2 ≤ sizeLine; decide, fun u nu => ⟨_, u, _, _, _, _, rfl, upd_same, cls2 _ _, .base (.str z), any_bs_str, _, rfl, iteT ?_⟩⟩⟩
      refine ⟨_, rfl, _, rfl, rfl, _, rfl, ?_⟩
      rw [decide_eq_true rfl]
      refine iteT ⟨_, rfl, _, _, _, _, _, rfl, .ty _, .base (.str z), one_str_bool, _, rfl, _, _, _, _, _, rfl, .ty _, .base (.str z), one_str_bool, rfl, _, rfl, iteT ⟨_, rfl, rfl, _, rfl, rfl, rfl, ?_⟩⟩
      rw [decide_eq_true rfl]
      exact q _ ((same_new nt).trans (same_new nu))
    | list ds =>
      cases hx with
      | lst hsx hax =>
      cases hy with
      | lst hsy hay =>
      rename_i a xs b ys
      have hlx := dpa_len hax
      have hly := dpa_len hay
      obtain ⟨hw1, hw2⟩ := hw
      refine ⟨_, rfl, by show 2 ≤ sizeLine; decide, fun t nt => ?_⟩
      have s1 : Same H (upd H t (.tup [.ty "list", .ty "tuple"])) := same_new nt
      have hsx1 := Same.seq s1 hsx
      have hsy1 := Same.seq s1 hsy
      refine ⟨_, t, _, _, _, _, rfl, upd_same, cls2 _ _, ty_lst hsy1, any_lt_list, _, rfl, iteT ?_⟩
      refine ⟨_, rfl, _, _, _, _, _, rfl, .ty _, ty_lst hsx1, one_list_list, _, rfl, _, _, _, _, _, rfl, .ty _, ty_lst hsy1, one_list_list, rfl, _, rfl, iteNS rfl ?_⟩
      refine ⟨_, rfl, _, _, _, _, _, rfl, .ty _, ty_lst hsx1, one_list_tuple, _, rfl, _, _, _, _, _, rfl, .ty _, ty_lst hsy1, one_list_tuple, rfl, _, rfl, iteNS rfl ?_⟩
      refine ⟨_, rfl, a, xs, rfl, .inl hsx1, _, rfl, b, ys, rfl, .inl hsy1, rfl, _, rfl, ?_⟩
      rw [decide_eq_true (show V.int (xs.length : Int) = V.int (ys.length : Int) by rw [hlx, hly])]
      refine iteT ⟨_, rfl, _, rfl, a, b, xs, ys, rfl, .inl ⟨hsx1, hsy1, fun D nD => ?_⟩⟩
      have nD0 : H D = none := s1.free nD
      refine lc_it (walk_zip (n := xs.length) (by omega)) (fun i H' => Same H H' ∧ H' D = some (.lst (List.replicate i (.bl true)))) ⟨s1.trans (same_new nD), upd_same⟩ (fun i H' _ h => ⟨Same.seq h.1 hsx, Same.seq h.1 hsy⟩) (fun i v H1 H2 hi h yy => ?_) (fun H' h => ?_)
      · obtain ⟨sm, eD⟩ := h
        obtain ⟨tp, u, v, rfl, nT, rfl, g1, g2⟩ := yy
        obtain ⟨d1, e1, f1⟩ := dpa_get hax g1
        obtain ⟨d2, e2, f2⟩ := dpa_get hay g2
        cases Option.some.inj (e1.symm.trans e2)
        have st : Same H (upd H1 tp (.tup [u, v])) := sm.trans (same_new nT)
        refine ⟨tp, _, rfl, .inl (.inl upd_same), rfl, _, _, rfl, _, _, rfl, rfl, rfl, yes_if ?_⟩
        refine ⟨_, rfl, _, rfl, u, v, d1, rfl, dp_same st f1, dp_same st f2, ?_, narrow_get hw2 e1, fun H3 s3 => ⟨_, s3 _ _ (same_new nT _ _ eD), ?_, ?_, ?_⟩⟩
        · have := depth_get e1
          have hd' : PyData.depthAll ds + 1 < n + 1 := hd
          omega
        · rw [List.length_replicate]
          exact line_big (by omega)
        · intro c o hc
          rw [upd_ne (ne_of_none hc nD0)]
          exact s3 _ _ (st _ _ hc)
        · rw [upd_same, List.replicate_succ']
      · obtain ⟨sm, eD⟩ := h
        refine ⟨D, List.replicate xs.length true, rfl, ?_, ?_⟩
        · rw [List.map_replicate]
          exact .inl (.inl eD)
        · rw [all_rep]
          exact q _ sm
    | tuple ds =>
      cases hx with
      | tup hsx hax =>
      cases hy with
      | tup hsy hay =>
      rename_i a xs b ys
      have hlx := dpa_len hax
      have hly := dpa_len hay
      obtain ⟨hw1, hw2⟩ := hw
      refine ⟨_, rfl, by show 2 ≤ sizeLine; decide, fun t nt => ?_⟩
      have s1 : Same H (upd H t (.tup [.ty "list", .ty "tuple"])) := same_new nt
      have hsx1 := same_tup s1 hsx
      have hsy1 := same_tup s1 hsy
      refine ⟨_, t, _, _, _, _, rfl, upd_same, cls2 _ _, ty_tup hsy1, any_lt_tuple, _, rfl, iteT ?_⟩
      refine ⟨_, rfl, _, _, _, _, _, rfl, .ty _, ty_tup hsx1, one_tuple_list, _, rfl, _, _, _, _, _, rfl, .ty _, ty_tup hsy1, one_tuple_list, rfl, _, rfl, iteNS rfl ?_⟩
      refine ⟨_, rfl, _, _, _, _, _, rfl, .ty _, ty_tup hsx1, one_tuple_tuple, _, rfl, _, _, _, _, _, rfl, .ty _, ty_tup hsy1, one_tuple_tuple, rfl, _, rfl, iteNS rfl ?_⟩
      refine ⟨_, rfl, a, xs, rfl, .inr hsx1, _, rfl, b, ys, rfl, .inr hsy1, rfl, _, rfl, ?_⟩
      rw [decide_eq_true (show V.int (xs.length : Int) = V.int (ys.length : Int) by rw [hlx, hly])]
      refine iteT ⟨_, rfl, _, rfl, a, b, xs, ys, rfl, .inr ⟨hsx1, hsy1, fun D nD => ?_⟩⟩
      have nD0 : H D = none := s1.free nD
      refine lc_it (walk_zipT (n := xs.length) (by omega)) (fun i H' => Same H H' ∧ H' D = some (.lst (List.replicate i (.bl true)))) ⟨s1.trans (same_new nD), upd_same⟩ (fun i H' _ h => ⟨same_tup h.1 hsx, same_tup h.1 hsy⟩) (fun i v H1 H2 hi h yy => ?_) (fun H' h => ?_)
      · obtain ⟨sm, eD⟩ := h
        obtain ⟨tp, u, v, rfl, nT, rfl, g1, g2⟩ := yy
        obtain ⟨d1, e1, f1⟩ := dpa_get hax g1
        obtain ⟨d2, e2, f2⟩ := dpa_get hay g2
        cases Option.some.inj (e1.symm.trans e2)
        have st : Same H (upd H1 tp (.tup [u, v])) := sm.trans (same_new nT)
        refine ⟨tp, _, rfl, .inl (.inl upd_same), rfl, _, _, rfl, _, _, rfl, rfl, rfl, yes_if ?_⟩
        refine ⟨_, rfl, _, rfl, u, v, d1, rfl, dp_same st f1, dp_same st f2, ?_, narrow_get hw2 e1, fun H3 s3 => ⟨_, s3 _ _ (same_new nT _ _ eD), ?_, ?_, ?_⟩⟩
        · have := depth_get e1
          have hd' : PyData.depthAll ds + 1 < n + 1 := hd
          omega
        · rw [List.length_replicate]
          exact line_big (by omega)
        · intro c o hc
          rw [upd_ne (ne_of_none hc nD0)]
          exact s3 _ _ (st _ _ hc)
        · rw [upd_same, List.replicate_succ']
      · obtain ⟨sm, eD⟩ := h
        refine ⟨D, List.replicate xs.length true, rfl, ?_, ?_⟩
        · rw [List.map_replicate]
          exact .inl (.inl eD)
        · rw [all_rep]
          exact q _ sm
theorem ok_same (T : Env K mg) : ∀ n : Nat, FnOk P w K mg base CX0 n T.f_same T.d_same ["_law_found", "_law_due"] (spSame K n)
  | 0 => fn_never fun vs H Q E h => by
    obtain ⟨x, y, d, _, _, _, hd, _⟩ := h
    exact absurd hd (Nat.not_lt_zero _)
  | n + 1 => same_step T n (ok_same T n)
end
end Pc
namespace Pc
open PySem PySem.Spec PyProof.Rows L2 RZ
/-! ### enumerate of a tuple -/
theorem draws_tuple {prog : Program} {w : World} {A : Around} (hh : A.handled = none) (it l : Addr) (hne : l ≠ it) (items : Array Value) :
    Draws prog w A it [it, l] items.size (fun i v => items[i]? = some v) (fun i h => h.IsTupleIter it l i ∧ h.IsTuple l items) where
  live i h st := by
    obtain ⟨⟨o, ho, _⟩, _⟩ := st
    exact ⟨o, ho⟩
  frame i h h' st hk := ⟨Heap.IsTupleIter.at st.1 (hk it (by simp)), Heap.IsTuple.at st.2 (hk l (by simp))⟩
  item i s Q E hi st hQ := by
    have hx : items[i]? = some items[i] := by simp [hi]
    exact nextOf_tuple_item st.1 st.2 hx fun h' hit' hs' => hQ _ h' s.toks hx ⟨hit', st.2.extBut hs'.extBut hne⟩ hs'
  done s Q E st hE := nextOf_tuple_end hh st.1 st.2 (by simp) hE
set_option maxHeartbeats 4000000 in
theorem enum_newT (l : Addr) (items : Array Value) (n : Nat) (dct : Option Addr) (sl : Array (Option Value)) :
    Meets (Builtin.«enumerate.__new__» ⟨[.type "enumerate", .ref l], []⟩) (fun _ R s =>
      s.heap.get? l = some { cls := .type "tuple", dict := dct, data := .seq items n, slots := sl } ∧
      R (.ok (.ret (.ref (s.heap.push { cls := .type "tuple_iterator", data := .fields #[.ref l, .int 0 0] }).objs.size)))
        { s with heap := Heap.push (s.heap.push { cls := .type "tuple_iterator", data := .fields #[.ref l, .int 0 0] }) { cls := .type "enumerate", data := .fields #[.none, .bool false, .ref s.heap.objs.size, rawInt 0, .none, .none] } }) := by
  refine .of_wp fun prog w A R s h => ?_
  obtain ⟨hp, g, d, tk, os⟩ := s
  obtain ⟨hl, h⟩ := h
  have subE := sub_enumerate
  have isT : Heap.IsTuple (Shared.heap ⟨hp, g, d, tk, os⟩) l items := ⟨_, hl, rfl, n, rfl⟩
  wp_walk using AutoSeq1.wpAny_loadPart' hl
  refine wpAny_stack_any fun st => wpAny_pure ?_
  split
  · rename_i c _ _ _ _ _
    cases (c == Value.type "enumerate") <;> (wp_walk using AutoSeq1.wpAny_loadPart' hl, wpAny_pyIter_tuple isT; exact ⟨_, rfl, h⟩)
  · wp_walk using AutoSeq1.wpAny_loadPart' hl, wpAny_pyIter_tuple isT
    exact ⟨_, rfl, h⟩
theorem call_enumT {prog : Program} {w : World} {A : Around} {E : Value → Shared → Prop} {s : Shared} {l : Addr} {items : Array Value} {Q : Value → Shared → Prop} (hL : s.heap.IsTuple l items)
    (h : ∀ h', IsEnum h' (s.heap.objs.size + 1) s.heap.objs.size 0 .none → h'.IsTupleIter s.heap.objs.size l 0 →
      (∀ b o, s.heap.get? b = some o → h'.get? b = some o) → Q (.ref (s.heap.objs.size + 1)) { s with heap := h' }) :
    wpAny (model prog w) A (call (.type "enumerate") [.ref l]) Q E s := by
  obtain ⟨⟨c, dct, dt, sl⟩, hl, hc, n, hd⟩ := hL
  have hc' : c = .type "tuple" := hc
  have hd' : dt = .seq items n := hd
  subst hc' hd'
  refine callType_new F.called_enumerate (by decide) (F.typeCall_enumerate_1 _) (F.newCall_enumerate_1 _) (fun obj => F.args_object_init_2 obj _) F.entry_enumerate_new (enum_newT l items n dct sl) ⟨hl, ?_⟩
  have hz : (s.heap.push { cls := .type "tuple_iterator", data := .fields #[.ref l, .int 0 0] }).objs.size = s.heap.objs.size + 1 := Heap.size_push ..
  have he := Heap.get?_push_size (s.heap.push { cls := .type "tuple_iterator", data := .fields #[.ref l, .int 0 0] })
    (o := { cls := .type "enumerate", data := .fields #[.none, .bool false, .ref s.heap.objs.size, rawInt 0, .none, .none] }) rfl
  rw [hz] at he
  show _ ∧ _
  rw [hz]
  exact ⟨⟨_, he, rfl⟩, h _ he ⟨{ cls := .type "tuple_iterator", data := .fields #[.ref l, .int 0 0] }, Heap.get?_push_of_some _ (Heap.get?_push_size _ rfl), rfl, rfl⟩ fun b o x => Heap.get?_push_of_some _ (Heap.get?_push_of_some _ x)⟩
/-- the tuple at a, its items in new pairs with their places -/
def IteT (K : PySem.W.Frag) (a : Addr) : It where
  go i H := ∃ (xs : List V) (x : V), SqT K H a xs ∧ xs[i]? = some x
  yld i H v H' := ∃ T x, v = .ref T ∧ H T = none ∧ H' = upd H T (.tup [.int (i : Nat), x]) ∧ ∀ xs, SqT K H a xs → xs[i]? = some x
  stop i H := ∃ xs : List V, SqT K H a xs ∧ xs.length ≤ i
theorem turn_enumT {P : Program} {w : World} {K : PySem.W.Frag} {elts : List Expr} {kk : Nat} {tpos : Pos} (a e it : Addr) (hei : e ≠ it) (hae : a ≠ e) (hai : a ≠ it) :
    Turn P w K (.Tuple elts kk tpos) (IteT K a) [e, it] e (fun i h => (∃ old, IsEnum h e it ((i : Nat) : Int) old) ∧ h.IsTupleIter it a i) where
  mem := by simp
  obj i h st b hb := by
    obtain ⟨⟨old, he⟩, ⟨o, ho, hc, hd⟩⟩ := st
    rcases (show b = e ∨ b = it by simpa using hb) with z | z
    · rw [z]; exact ⟨_, he, fun v q => nomatch q⟩
    · rw [z]; exact ⟨o, ho, fun v q => by rw [hd] at q; cases q⟩
  keep i h h' st k := by
    obtain ⟨⟨old, he⟩, hi⟩ := st
    exact ⟨⟨old, k e (by simp) _ he⟩, hi.at fun o q => k it (by simp) o q⟩
  item := by
    intro X hP hw hK hc i pins s σ H E I hf st hg
    subst hP hw hK
    obtain ⟨⟨old, he⟩, hit⟩ := st
    obtain ⟨xs, x, hq, hx⟩ := hg
    obtain ⟨its, rv, p, hz⟩ := I.tuple hq
    have p2 : s.heap.IsTuple a its.toArray := p
    obtain ⟨u, hu, ru⟩ := rv.get hx
    have hlt : i < its.toArray.size := by
      rw [List.size_toArray]
      exact get_lt hu
    have D := draws_tuple (prog := X.prog) (w := X.w) (A := X.A.in1) (show X.A.in1.handled = none from I.ok.hd hc) it a hai its.toArray
    have hel : e < s.heap.objs.size := Heap.lt_size he
    have hil : it < s.heap.objs.size := by obtain ⟨_, q, _⟩ := hit; exact Heap.lt_size q
    refine wpAny_pyNext_enum_itemD D he ⟨hit, p2⟩ hlt hei (by simp [hei, hae.symm]) fun y h' tk hy ho hst hT hsz hk => ?_
    have ey : y = u := by
      have : its.toArray[i]? = some y := hy
      rw [List.getElem?_toArray, hu] at this
      exact (Option.some.inj this).symm
    subst ey
    refine ⟨_, rfl, wpAny_letOwnedTupleGo_enum (s := { s with heap := h', toks := tk + 1 }) ho fun h'' he' sb => ?_⟩
    have hT2 : h''.get? s.heap.objs.size = some { cls := .type "tuple", data := .seq #[.int i tk, y] } := (sb.2 _ (Nat.ne_of_gt hel)).trans hT
    have new : ObjOk X.prog X.w (upd H s.heap.objs.size (.tup [.int (i : Nat), x])) h'' s.heap.objs.size (.tup [.int (i : Nat), x]) :=
      ⟨by show 2 ≤ sizeLine; decide, [.int i tk, y], .cons ⟨_, rfl⟩ (.cons ru .nil), ⟨_, hT2, rfl, _, rfl⟩⟩
    have I1 := I.turnedNew (t' := tk + 1) (h' := h'') (ch := [e, it]) (fun b ob hb q => (sb.2 b (fun z => hb (by simp [z]))).trans (hk b ob (fun z => hb (by simp [z])) (fun z => hb (by simp [z])) q)) hf (Nat.le_refl _) new
    refine ⟨.ref s.heap.objs.size, _, I1, rfl, ⟨_, x, rfl, I.hok.fresh (Nat.le_refl _), rfl, fun ys hy => by rw [I.tuple_inj hy hq]; exact hx⟩, ⟨⟨y, ?_⟩, hst.1.at fun o q => (sb.2 it hei.symm).trans q⟩, fun b hb => ?_⟩
    · rw [show ((i + 1 : Nat) : Int) = (i : Int) + 1 by omega]; exact he'
    · have hb' : b < s.heap.objs.size := by
        rcases (show b = e ∨ b = it by simpa using hb) with z | z
        · rw [z]; exact hel
        · rw [z]; exact hil
      rw [upd_ne (Nat.ne_of_lt hb')]
      exact (hf b hb).1
  done := by
    intro X hP hw hK hc i pins s σ H E I hf st hg
    subst hP hw hK
    obtain ⟨⟨old, he⟩, hit⟩ := st
    obtain ⟨xs, hq, hx⟩ := hg
    obtain ⟨its, rv, p, hz⟩ := I.tuple hq
    have p2 : s.heap.IsTuple a its.toArray := p
    obtain ⟨f0, f1, f2, f3, f4, f5⟩ := hf it (by simp)
    have hl := rv.length
    have hT : s.TypeIs (.ref e) "enumerate" := ⟨_, he, rfl⟩
    unfold pyNext
    refine wpAny_bind (wpAny_attempt (wpAny_callSpecial?_slot (name := Str.ofString "__next__") hT F.slot_enumerate_next (wpAny_call_entry F.slot_enumerate_next hT F.entry_enumerate_next ?_ (F.args_enumerate_next_1 _))))
    show wpAny _ _ (field (.ref e) 2 >>= _) _ _ _
    refine wpAny_bind (wpAny_field he rfl (x := .ref it) rfl ?_)
    refine wpAny_bind (nextOf_tuple_end (show X.A.in1.handled = none from I.ok.hd hc) hit p2 (by simp; omega) fun h' x he' hx' => ?_)
    obtain ⟨o, ho, hcl⟩ := hx'
    refine wpAny_bind (wpAny_isInstance (T := "StopIteration") (b := true) ⟨o, ho, hcl⟩ isSubtype_stop ?_)
    exact wpAny_pure ⟨rfl, I.turned (t' := s.toks) (fun b o hb q => he' b o hb q) f0 f1 f3 f4 f5⟩
  self A i s Q E st h := by
    obtain ⟨⟨_, he⟩, _⟩ := st
    exact wpAny_pyIter_enum he h
/-- enumerate of a list or a tuple -/
def iEnumA (K : PySem.W.Frag) (ta : TA) : TI := fun σ H R => ta σ H fun vs H1 => ∃ a xs, vs = [.ref a] ∧ ((SqL K H1 a xs ∧ R (Ite K a) H1) ∨ (SqT K H1 a xs ∧ R (IteT K a) H1))
theorem pi_enumA {X : Cx} {e : Expr} {ta : TA} {p pos tpos : Pos} {elts : List Expr} {kk : Nat} (hg : Gl X "enumerate") (hm : X.mg "enumerate" = none) (ha : PA X [e] ta) (hs : starEach [e] X.env = [(false, eval e X.env)] := by rfl) :
    PI X (.Tuple elts kk tpos) (.Call (.Name "enumerate" p) [e] [] pos) (iEnumA X.K ta) := by
  constructor
  intro pins s σ H R I h
  refine Call_ (ld_blt I hg hm boot_enumerate (callWith_type1 (thn (ha.run pos pins s σ H _ I h) fun us s1 r => ?_) hs rfl))
  obtain ⟨vs, H1, I1, r1, a, xs, ex, q1⟩ := r
  subst ex
  cases r1 with
  | cons r rr =>
    cases rr
    cases r
    have fr : ∀ b, b ∈ [s1.heap.objs.size + 1, s1.heap.objs.size] → FpOk X pins H1 b := fun b hb => by
      have hle : s1.heap.objs.size ≤ b := by
        rcases (show b = s1.heap.objs.size + 1 ∨ b = s1.heap.objs.size by simpa using hb) with z | z <;> omega
      exact I1.fpOk hle (I1.hok.fresh hle)
    rcases q1 with ⟨hq, q⟩ | ⟨hq, q⟩
    · obtain ⟨its, rv, p', hz⟩ := I1.list hq
      refine call_enumerate_list p'.isList fun h' he hit _ hk => wpAny_pyIter_enum he ?_
      exact ⟨_, _, _, _, H1, rfl, I1.kept (t' := s1.toks) hk, turn_enum a (s1.heap.objs.size + 1) s1.heap.objs.size, ⟨⟨.none, he⟩, hit, Nat.succ_ne_self _⟩, fr, q⟩
    · obtain ⟨its, rv, p', hz⟩ := I1.tuple hq
      have p2 : s1.heap.IsTuple a its.toArray := p'
      have hlt : a < s1.heap.objs.size := by obtain ⟨o, ho, _⟩ := p2; exact Heap.lt_size ho
      refine call_enumT p2 fun h' he hit hk => wpAny_pyIter_enum he ?_
      exact ⟨_, _, _, _, H1, rfl, I1.kept (t' := s1.toks) hk, turn_enumT a (s1.heap.objs.size + 1) s1.heap.objs.size (Nat.succ_ne_self _) (Nat.ne_of_lt (Nat.lt_succ_of_lt hlt)) (Nat.ne_of_lt hlt), ⟨⟨.none, he⟩, hit⟩, fr, q⟩
theorem walk_enumT {K : PySem.W.Frag} {a : Addr} {xs : List V} : Walk (IteT K a) xs.length (fun H => SqT K H a xs) (YPair (fun i => some (.int (i : Nat))) (fun i => xs[i]?)) where
  goes i H hi q := by
    obtain ⟨x, hx⟩ := get_some hi
    exact ⟨xs, x, q, hx⟩
  stops H q := ⟨xs, q, Nat.le_refl _⟩
  yields i H v H' hi q y := by
    obtain ⟨T, x, h1, h2, h3, h4⟩ := y
    exact ⟨T, .int (i : Nat), x, h1, h2, h3, rfl, h4 xs q⟩
end Pc
namespace Pc
open PySem PySem.Spec PyProof.Rows L2 RZ
/-! ### t[::-1] of a pair -/
section
variable {prog : Program} {w : World} {A : Around} {E : Value → Shared → Prop} {s : Shared}
theorem applied_rev2 {sl : Addr} {vk : Value} {Q : Int × Int × Nat → Shared → Prop} (hs : s.heap.IsSliceOf sl .none .none vk) (pk : IsPart vk (some (-1))) (h : Q (1, -1, 2) s) :
    wpAny (model prog w) A (Builtin.Slice.sliceApplied (.ref sl) (pure (2 : Int))) Q E s := by
  obtain ⟨os, hos, hcs, hds⟩ := id hs
  unfold Builtin.Slice.sliceApplied Builtin.Slice.sliceFields
  refine wpAny_bind (wpAny_bind (wpAny_field hos hds (x := .none) rfl ?_))
  refine wpAny_bind (wpAny_field hos hds (x := .none) rfl ?_)
  refine wpAny_bind (wpAny_field hos hds (x := vk) rfl (wpAny_pure ?_))
  refine wpAny_bind (HT.slicePart_ pk ?_)
  show wpAny _ _ (if ((-1 : Int) == 0) = true then _ else _) _ _ s
  rw [if_neg (by decide)]
  refine wpAny_bind (HT.slicePart_ .none (wpAny_bind (HT.slicePart_ .none (wpAny_bind (wpAny_pure ?_)))))
  exact wpAny_pure h
theorem item_rev2 {t sl : Addr} {u v vk : Value} {Q : Value → Shared → Prop} (ht : IsTup s.heap t #[u, v]) (hs : s.heap.IsSliceOf sl .none .none vk) (pk : IsPart vk (some (-1)))
    (h : Q (.ref s.heap.objs.size) { s with heap := s.heap.push { cls := .type "tuple", data := .seq #[v, u] } }) : wpAny (model prog w) A (getItem (.ref t) (.ref sl)) Q E s := by
  obtain ⟨os, hos, hcs, hds⟩ := id hs
  have hTs : s.TypeIs (.ref sl) "slice" := ⟨os, hos, hcs⟩
  unfold getItem
  try with_reducible refine wpAny_holding ?_
  first | refine wpAny_bind (wpAny_pure ?_) | skip
  refine wpAny_bind (wpAny_sequenceKey ht.typeIs (by decide) ?_)
  refine wpAny_bind (wpAny_callSpecial?_slot (name := Str.ofString "__getitem__") ht.typeIs PyProof.Rows.slot_tuple_getitem (wpAny_call_entry PyProof.Rows.slot_tuple_getitem ht.typeIs entry_tuple_getitem ?_ (args_tuple_getitem _ _)))
  show wpAny _ _ (Builtin.Tuple.tupleItemsOf (.ref t) >>= _) _ _ s
  refine wpAny_bind (tupleItemsOf_ ht ?_)
  refine wpAny_bind (wpAny_typeOf hTs ?_)
  rw [if_pos (by decide)]
  refine wpAny_bind (applied_rev2 hs pk ?_)
  show wpAny _ _ (if ((1 : Int) == 0 && (-1 : Int) == 1 && (2 : Nat) == 2) = true then _ else _) _ _ s
  rw [if_neg (by decide)]
  have e : ((List.range 2).filterMap fun (k : Nat) => (#[u, v] : Array Value)[((1 : Int) + (k : Int) * -1).toNat]?).toArray = #[v, u] := rfl
  rw [e]
  have hz : sizeOk (.seq (#[v, u] : Array Value)) := by show 2 ≤ sizeLine; decide
  first
    | exact wpAny_bind (m := Builtin.Tuple.tupleExact _) (wpAny_newObj_type (wpAny_pure ⟨_, rfl, wpAny_pure h⟩) hz)
    | exact wpAny_bind (wpAny_bind (m := Builtin.Tuple.tupleExact _) (wpAny_newObj_type (wpAny_pure (wpAny_pure ⟨_, rfl, wpAny_pure h⟩)) hz))
    | exact wpAny_bind (wpAny_bind (m := Builtin.Tuple.tupleExact _) (wpAny_newObj_type (wpAny_pure ⟨_, rfl, wpAny_pure h⟩) hz))
    | exact wpAny_bind (m := Builtin.Tuple.tupleExact _) (wpAny_newObj_type (wpAny_bind (wpAny_pure (wpAny_pure ⟨_, rfl, wpAny_pure h⟩))) hz)
end
def tRev2 (K : PySem.W.Frag) (te : TE) : TE := fun σ H Q => te σ H fun x H1 => ∃ a y z, x = .ref a ∧ SqT K H1 a [y, z] ∧ ∀ p, H1 p = none → Q (.ref p) (upd H1 p (.tup [z, y]))
theorem pe_rev2 {X : Cx} {e : Expr} {te : TE} {k : Nat} {p1 p2 p3 pos : Pos} (he : PE X e te) : PE X (.Subscript e (.Slice none none (some (.UnaryOp .USub (.Constant (.int 1) k p1) p2)) p3) pos) (tRev2 X.K te) := by
  constructor
  intro pins s σ H Q I h
  refine Subscript_ (thn (he.run pins s σ H _ I h) fun v s1 r => ?_)
  obtain ⟨x, H1, I1, r1, a, y, z, ex, hx, q⟩ := r
  subst ex
  cases r1
  have hst : PO X (some (.UnaryOp .USub (.Constant (.int 1) k p1) p2)) (tPart (tUn (rU fun i => .int (-i)) (tC (.int 1)))) := po_some (pe_un un_neg pe_int)
  refine wpAny_Slice (thn (po_none.run pins s1 σ H1 (fun o H2 => o = none ∧ H2 = H1) I1 ⟨rfl, rfl⟩) fun vl s2 ⟨l, H2, I2, pl, el, e2⟩ => ?_)
  subst el e2
  refine thn (po_none.run pins s2 σ H2 (fun o H3 => o = none ∧ H3 = H2) I2 ⟨rfl, rfl⟩) fun vu s3 ⟨u, H3, I3, pu, eu, e3⟩ => ?_
  subst eu e3
  refine thn (hst.run pins s3 σ H3 (fun o H4 => o = some (-1) ∧ H4 = H3) I3 ⟨1, rfl, -1, rfl, rfl, rfl⟩) fun vs s4 ⟨o, H4, I4, ps, eo, e4⟩ => ?_
  subst eo e4
  cases pl
  cases pu
  have I5 : Inv X pins σ H4 { s4 with heap := s4.heap.push { cls := .type "slice", data := .fields #[.none, .none, vs] } } := I4.kept (t' := s4.toks) fun b ob q => Heap.get?_push_of_some _ q
  obtain ⟨its, r, ht, hz⟩ := I5.tuple hx
  obtain ⟨w1, w2, ei, r1, r2⟩ := vals2 r
  subst ei
  show wpAny (model X.prog X.w) X.A (subscriptTail e (.Slice none none (some (.UnaryOp .USub (.Constant (.int 1) k p1) p2)) p3) (.ref a) (.ref s4.heap.objs.size)) (EP X pins σ Q) X.xe _
  refine tail_any (ops := [.ref a, .ref s4.heap.objs.size]) ht.typeIs PyProof.Rows.slot_tuple_getitem.lookup ?_ (by with_unfolding_all rfl)
  refine item_rev2 ht (Heap.IsSliceOf.new _ .none .none vs) ps ?_
  refine ⟨.ref _, _, I5.laid (t' := s4.toks) (o := .tup [z, y]) (fun b ob q => Heap.get?_push_of_some _ q) (Nat.le_refl _) ?_, rfl, q _ (I5.hok.fresh (Nat.le_refl _))⟩
  exact ⟨by show 2 ≤ sizeLine; decide, [w2, w1], .cons r2 (.cons r1 .nil), IsTup.new _ _⟩
end Pc
namespace Pc
open PySem PySem.Spec PyProof.Rows L2 RZ
/-! ### defs that run where no repr is under way (repr asks for that) -/
structure FnG (P : Program) (w : World) (K : PySem.W.Frag) (mg : Str → Option Value) (base : Heap) (CX : CXT) (k : Nat) (f : Addr) (fd : FuncData) (ps : List Str) (sp : Sp) : Prop where
  len : ∀ vs H Q E, sp vs H Q E → vs.length = ps.length
  run : ∀ (A : Around) (outer : List PySem.Env) (s : Shared) (H : Hp) (args : Args) (us : List Value) (vs : List V) (Q : VK) (E : XK), Room k A → A.guards = some [] → Env0 P w K mg base A outer s H →
    BindsTo s fd args (ps.zip us) → Vals vs us → sp vs H Q E → codeAny (model P w) A (.call (.ref f) args) (CR CX outer P w H s Q E) s
section
variable {P : Program} {w : World} {K : PySem.W.Frag} {mg : Str → Option Value} {base : Heap}
theorem fun_g {x qual : Str} {st : Stmt} {f : Addr} {fd : FuncData} {N ps : List Str} {k : Nat} {sp : Sp} (F : Fun K x qual st f fd) (S : FnScope N ps (defScope st)) (len : ∀ vs H Q E, sp vs H Q E → vs.length = ps.length)
    (hbody : ∀ (cdv : Value) (A : Around) (outer : List PySem.Env) (s : Shared) (H : Hp) (vs : List V) (Q : VK) (E : XK), Room k (A.deeper (envOfC qual (defScope st) s.heap.objs.size f cdv)) → A.guards = some [] → sp vs H Q E →
      ∃ t, PSs (cxOf CX0 P w K mg base N qual (defScope st) f cdv A outer s H E).nox (defBody st) t ∧ t { nx := fun _ H' => Q .non H', rt := Q } (start N vs) H) : FnG P w K mg base CX0 (k + 1) f fd ps sp := by
  obtain ⟨oc, od, kV, doc, pm, an, cdv, ct, osl, rfl, lk, hcd⟩ := F.ex
  constructor
  · exact len
  intro A outer s H args us vs Q E hr hgd e0 hb r hsp
  have hl := len _ _ _ _ hsp
  have up : ∀ b o, base.get? b = some o → s.heap.get? b = some o := fun b o e => (e0.bs b o e).1
  have KX : K.In s.heap := e0.mod.kin.keeps up
  have lim : s.heap.NoLimit := e0.mod.nolimit.keeps up
  obtain ⟨t, ht, hq⟩ := hbody cdv A outer s H vs Q E (hr.deeper _) hgd hsp
  refine codeAny_call_function hr.depth (KX _ _ lk) rfl S.co S.gen rfl (PySem.W.codeRec_of KX hcd) (hb _ _ _ _ ?_)
  refine wpAny_newFunctionEnv_cells S.kind ?_ ?_
  · rintro ⟨n, v⟩ hy
    rcases S.par n (List.of_mem_zip hy).1 with z | z
    · exact Or.inl z
    · exact Or.inr ⟨z, PySem.W.cellsFrom_some _ _ _ (Or.inl z)⟩
  intro env he s1 x
  subst he
  refine ⟨lim.keeps x.toInCall.keep, codeAny_func ?_⟩
  have I := inv_start (CX := CX0) (E := E) S hr.hd e0 hl r x
  refine wpAny_mono (ht.nox.run [] s1 (start N vs) H _ I hq) ?_ (fun _ _ z => z)
  intro fl s' hs
  cases fl with
  | brk => obtain ⟨_, _, _, z⟩ := hs; exact z.elim
  | cont => obtain ⟨_, _, _, z⟩ := hs; exact z.elim
  | next =>
    obtain ⟨σ', H', J, z⟩ := hs
    exact ⟨V.non, H', J.os, J.bare, J.base, J.hok, rfl, z⟩
  | ret u =>
    obtain ⟨v, σ', H', J, rv, z⟩ := hs
    exact ⟨v, H', J.os, J.bare, J.base, J.hok, rv, z⟩
end
section
variable {X : Cx} {CX : CXT} {k : Nat} {f : Addr} {fd : FuncData} {ps : List Str} {sp : Sp} {x : Str} {e : Expr} {es : List Expr} {ds : List Value} {dvs : List V} {E : XK} {t : TA} {p pos : Pos}
theorem pe_callG (F : FnG X.prog X.w X.K X.mg X.base CX k f fd ps sp) (hr : Room k X.A) (hgd : X.A.guards = some []) (hg : Gl X x) (hm : X.mg x = some (.ref f)) (hk : PySem.W.keepIn X.K (.ref f) = true) (hb : Binds X.K fd ps ds) (hd : Vals dvs ds) (hx : Passes CX X E)
    (ha : PA X (e :: es) t) (hdb : (x == ("__debug__" : Str)) = false := by decide) (he : starEach (e :: es) X.env = (false, eval e X.env) :: starEach es X.env := by rfl) (hpl : (backTo pos (starEach es X.env)).any (·.1) = false := by rfl) :
    PE X (.Call (.Name x p) (e :: es) [] pos) (tCall sp dvs E t) := by
  constructor
  intro pins s σ H Q I h
  refine wpAny_Call_Name_kw (ld_glob I hg hm ?_ hdb)
  refine PySem.W.callWith_K (h₀ := X.base) I.ok.mod.kin hk (thn (ha.run pos pins s σ H _ I h) ?_) he hpl
  rintro us s1 ⟨vs, H1, I1, r, q⟩
  refine ⟨I1.kIn, ?_⟩
  have r2 : Vals (vs ++ dvs) (us ++ ds) := r.append hd
  have hl : (us ++ ds).length = ps.length := by
    rw [← r2.length]
    exact F.len _ _ _ _ q
  refine wpAny_call (codeAny_mono (F.run X.A X.stack s1 H1 ⟨us, []⟩ (us ++ ds) (vs ++ dvs) Q E hr hgd I1.env0 (hb s1 us I1.kIn hl) r2 q) ?_)
  intro res s' hq
  cases res with
  | error e => exact hx pins σ H1 s1 e s' I1 hq
  | ok fl =>
    cases fl with
    | ret u => exact I1.after hq
    | next => exact hq.elim
    | brk => exact hq.elim
    | cont => exact hq.elim
end
/-! ### the law's own call, where no repr is under way -/
theorem law_g {P : Program} {w : World} {K : PySem.W.Frag} {mg mb : Str → Option Value} {CX : CXT} {k : Nat} {fa a : Addr} {fd : FuncData} {x : Str} {sp : Sp} {s₁ : Shared} {vs : List Value} {ns : List Int}
    (KX : K.In s₁.heap) (hns : s₁.heap.Ns mainGlobals mg) (hb : s₁.heap.Ns builtinsNs mb) (hbb : ∀ x : Str, x ≠ "__name__" → mb x = bootBuiltins x) (hlim : s₁.heap.NoLimit) (hg : s₁.gens = #[])
    (ha : s₁.heap.get? a = some { cls := .type "list", data := .seq vs.toArray }) (hi : IntsAre vs ns) (hl : ns.length ≤ sizeLine) (hr : Room k callerA)
    (F : ∀ base : Heap, K.In base → base.Ns mainGlobals mg → FnG P w K mg base CX k fa fd [x] sp) (hbind : ∀ (s : Shared) (u : Value), BindsTo s fd ⟨[u], []⟩ [(x, u)])
    (hsp : ∀ H : Hp, SqL K H a (ns.map V.int) → sp [.ref a] H (fun v _ => v = .bl true) fun _ _ _ => False)
    (hCX : ∀ H e s', CX [] H s₁ (fun _ _ _ => False) e s' → False) :
    codeAny (model P w) callerA (.call (.ref fa) ⟨[.ref a], []⟩) (fun r s' => r = .ok (.ret (.bool true)) ∧ OldK s₁.heap s'.heap ∧ s'.os = s₁.os ∧ AllBare s'.gens) s₁ := by
  have rv := vals_ints hi
  have len0 := hi.length
  let lo : Obj := { cls := .type "list", data := .seq vs.toArray }
  have main : ∀ H : Hp, SqL K H a (ns.map V.int) → HOk P w H s₁.heap → (∀ b u, H b = some u → b = a ∧ u = .frz lo (.lst (ns.map V.int)) ∧ K.lookup a = none) →
      codeAny (model P w) callerA (.call (.ref fa) ⟨[.ref a], []⟩) (fun r s' => r = .ok (.ret (.bool true)) ∧ OldK s₁.heap s'.heap ∧ s'.os = s₁.os ∧ AllBare s'.gens) s₁ := by
    intro H hS hok hA
    have free : ∀ {b : Addr} {o : Obj}, s₁.heap.get? b = some o → (∀ n, o.data ≠ .seq vs.toArray n) → H b = none := by
      intro b o e d
      cases z : H b with
      | none => rfl
      | some u =>
        obtain ⟨rfl, _⟩ := hA b u z
        rw [ha] at e
        cases e
        exact absurd rfl (d _)
    have nsK : ∀ {b : Addr} {m : Str → Option Value}, s₁.heap.Ns b m → (hidT s₁.heap H).Ns b m := by
      rintro b m ⟨o, es, ep, e, d, r⟩
      exact ⟨o, es, ep, hidT_get e (free e fun n => by rw [d]; exact fun z => nomatch z), d, r⟩
    have hKb : K.In (hidT s₁.heap H) := by
      intro b o e
      refine hidT_get (KX b o e) ?_
      cases z : H b with
      | none => rfl
      | some u =>
        obtain ⟨rfl, _, hn⟩ := hA b u z
        rw [hn] at e
        cases e
    obtain ⟨mc, l1, l2⟩ := hlim
    have e0 : Env0 P w K mg (hidT s₁.heap H) callerA [] s₁ H :=
      { frames := rfl, mod := ⟨hKb, nsK hns, ⟨mb, nsK hb, hbb⟩, ⟨mc, nsK l1, l2⟩⟩, bs := fun b o e => of_hidT e, bsz := Nat.le_of_eq (hidT_size _ _), funs := trivial, frf := fun b hb => absurd (show b ∈ ([] : List Addr) from hb) (by simp), hok := hok, bare := .of_eq hg }
    have R := (F _ hKb (nsK hns)).run callerA [] s₁ H ⟨[.ref a], []⟩ [.ref a] [.ref a] _ _ hr rfl e0 (hbind s₁ (.ref a)) (.cons rfl .nil) (hsp H hS)
    refine codeAny_mono R ?_
    intro res s' h
    cases res with
    | error e => exact (hCX H e s' h).elim
    | ok fl =>
      cases fl with
      | next => exact h.elim
      | brk => exact h.elim
      | cont => exact h.elim
      | ret u =>
        obtain ⟨v, H', os, bare, un, hok', r', q⟩ := h
        have q' : v = .bl true := q
        subst q'
        obtain rfl : u = Value.bool true := r'
        refine ⟨rfl, OldK.of_keep ?_, os, bare⟩
        intro b o e
        cases z : H b with
        | none => exact un.keep b o e z (fun y => absurd (show b ∈ ([] : List Addr) from y) (by simp)) (by simp)
        | some u =>
          obtain ⟨rfl, rfl, _⟩ := hA b u z
          obtain ⟨g1, _⟩ := hok _ _ z
          obtain ⟨g2, _⟩ := hok' _ _ (un.frzs _ lo _ z)
          rw [e] at g1
          cases g1
          exact g2
  cases hk : K.lookup a with
  | some o =>
    have e := KX a o hk
    rw [ha] at e
    cases e
    refine main (fun _ => none) ?_ (fun b u z => nomatch z) (fun b u z => nomatch z)
    exact Or.inr ⟨_, vs.toArray, _, hk, rfl, rfl, rfl, by rw [List.size_toArray, len0]; exact hl, by simpa using rv⟩
  | none =>
    have sp1 : ∀ b u, (upd (fun _ => none) a (.frz lo (.lst (ns.map V.int)))) b = some u → b = a ∧ u = .frz lo (.lst (ns.map V.int)) ∧ K.lookup a = none := by
      intro b u z
      by_cases hba : b = a
      · subst hba
        rw [upd_same] at z
        exact ⟨rfl, (Option.some.inj z).symm, hk⟩
      · rw [upd_ne hba] at z
        cases z
    refine main (upd (fun _ => none) a (.frz lo (.lst (ns.map V.int)))) (Or.inl (Or.inr ⟨lo, upd_same⟩)) ?_ sp1
    intro b u z
    obtain ⟨rfl, rfl, _⟩ := sp1 b u z
    exact ⟨ha, by rw [List.length_map]; exact hl, vs, _, rv, ha⟩
theorem walk_g {l : PySem.W.OpenLaw} {n k : Nat} {q : Program} {loose : List Str} {XP : (Str → Option Value) → Heap → Prop} {YP : World → Heap → Prop} {d : DefRec} {K : Params → PySem.W.Frag} {sp : World → Sp} {x : Str}
    (hn : l.most = some n) (hn2 : n ≤ sizeLine) (hdf : d.params.defaults = []) (hr : Room k callerA) (hY : ∀ (w : World) (h : Heap), YP w h → (K w.params).In h)
    (F : ∀ (w : World) (mg : Str → Option Value) (fa : Addr) (h : Heap), (K w.params).In h → h.Ns mainGlobals mg → mg d.name = some (.ref fa) →
      ∃ fd : FuncData, (∀ (s : Shared) (u : Value), BindsTo s fd ⟨[u], []⟩ [(x, u)]) ∧ ∀ base : Heap, (K w.params).In base → base.Ns mainGlobals mg → FnG l.prog w (K w.params) mg base CX0 k fa fd [x] (sp w))
    (hsp : ∀ (w : World) (H : Hp) (a : Addr) (ns : List Int), ns.length ≤ n → SqL (K w.params) H a (ns.map V.int) → sp w [.ref a] H (fun v _ => v = .bl true) fun _ _ _ => False) :
    PySem.W.WalkO q loose XP YP l.row.toRowW d [] (fun f vs => PySem.call f vs) := by
  refine Att.attach_call hn hdf ?_
  intro w s₀ s₁ mg mb fa o pm cd doc a vs ns G Y ho hd hcd hmg hobj hints hlen hg
  obtain ⟨fd, hb, hF⟩ := F w mg fa _ (hY w _ Y) G.T.g hmg
  exact law_g (hY w _ Y) G.T.g G.T.b G.T.builtins G.T.nolimit hg hobj hints (Nat.le_trans hlen hn2) hr hF hb (fun H hS => hsp w H a ns hlen hS) fun _ _ _ z => z
/-! ### repr of data -/
theorem call_reprD {X : Cx} (hgd : X.A.guards = some []) (hu : X.A.units + 64 < cLine) : CallR X (.builtin "repr") (fun xs H Q => ∃ (a : Addr) (d : PyData), xs = [.ref a] ∧ Dp X.K H (.ref a) d ∧ d.canLay0 = true ∧ d.showable = true ∧ d.depth ≤ 60 ∧ d.shown.length ≤ sizeLine ∧ Q (.str d.shown) H) := by
  intro pins s σ H xs us Q I r h
  obtain ⟨a, d, rfl, hd, hl, hs, hdp, hz, q⟩ := h
  obtain ⟨u, rfl, ru⟩ := vals1 r
  cases ru
  obtain ⟨as, rd⟩ := Dp.reads I d (.ref a) (.ref a) hd rfl
  refine repr_of_reads' rd hs (PyData.noDict_hsm (PyData.hasDict_of_canLay d hl)) hgd (by omega) (fun _ _ e => e) ?_ hz
  intro h' u tk hk
  exact ⟨.str d.shown, H, I.kept (t' := tk) hk, ⟨u, rfl⟩, q⟩
end Pc
namespace Pc
open PySem PySem.Spec PyProof.Rows L2 RZ
/-! ### data of small size: its depth is at most k, its text has at most m signs -/
structure Fine (k m : Nat) (d : PyData) : Prop where
  lay : d.canLay0 = true
  show_ : d.showable = true
  depth : d.depth ≤ k
  nar : narrow d
  len : d.shown.length ≤ m
theorem Fine.mono {k m k' m' : Nat} {d : PyData} (h : Fine k m d) (hk : k ≤ k') (hm : m ≤ m') : Fine k' m' d := ⟨h.lay, h.show_, Nat.le_trans h.depth hk, h.nar, Nat.le_trans h.len hm⟩
theorem Fine.shaped {k m : Nat} {d : PyData} (h : Fine k m d) (hk : k ≤ 64) : SeqAt.shaped d = true := by
  unfold SeqAt.shaped
  rw [Bool.and_eq_true]
  exact ⟨h.lay, decide_eq_true (Nat.le_trans h.depth hk)⟩
theorem str_len (t : String) : (Str.ofString t).length = t.length := by
  rw [Str.ofString_eq_toList]
  show (t.toList.map Char.toNat).toArray.size = t.length
  rw [List.size_toArray, List.length_map, String.length_toList]
theorem log_lt {i : Int} {k : Nat} (h : i.natAbs < 2 ^ k) (hk : 0 < k) : i.natAbs.log2 < k := by
  by_cases h0 : i.natAbs = 0
  · rw [h0]; exact hk
  · exact (Nat.log2_lt h0).mpr h
theorem fine_int {i : Int} (h : i.natAbs < 2 ^ 60) : Fine 0 61 (.int i) := by
  have hl := log_lt h (by decide)
  refine ⟨rfl, decide_eq_true (Nat.lt_of_lt_of_le hl (by decide)), Nat.le_refl _, trivial, ?_⟩
  show (Str.ofString (toString i)).length ≤ 61
  rw [str_len]
  exact int_text_length_le (by decide) hl
theorem fine_nat {i : Nat} (h : i < 2 ^ 60) : Fine 0 61 (.int (i : Int)) := fine_int (by rw [Int.natAbs_natCast]; exact h)
theorem all_lay {ds : List PyData} (h : ∀ d ∈ ds, d.canLay0 = true) : PyData.canLayAll0 ds = true := by
  induction ds with
  | nil => rfl
  | cons d r ih =>
    show (d.canLay0 && PyData.canLayAll0 r) = true
    rw [h d List.mem_cons_self, ih fun x hx => h x (List.mem_cons_of_mem _ hx)]; rfl
theorem all_showable {ds : List PyData} (h : ∀ d ∈ ds, d.showable = true) : PyData.showableAll ds = true := by
  induction ds with
  | nil => rfl
  | cons d r ih =>
    show (d.showable && PyData.showableAll r) = true
    rw [h d List.mem_cons_self, ih fun x hx => h x (List.mem_cons_of_mem _ hx)]; rfl
theorem all_depth {ds : List PyData} {k : Nat} (h : ∀ d ∈ ds, d.depth ≤ k) : PyData.depthAll ds ≤ k := by
  induction ds with
  | nil => exact Nat.zero_le _
  | cons d r ih => exact Nat.max_le.mpr ⟨h d List.mem_cons_self, ih fun x hx => h x (List.mem_cons_of_mem _ hx)⟩
theorem all_shown {ds : List PyData} {m : Nat} (h : ∀ d ∈ ds, d.shown.length ≤ m) : ((PyData.shownAll ds).map (·.length)).sum ≤ ds.length * m ∧ (PyData.shownAll ds).length = ds.length := by
  induction ds with
  | nil => exact ⟨Nat.zero_le _, rfl⟩
  | cons d r ih =>
    obtain ⟨h1, h2⟩ := ih fun x hx => h x (List.mem_cons_of_mem _ hx)
    have h3 := h d List.mem_cons_self
    refine ⟨?_, congrArg (· + 1) h2⟩
    show ((d.shown :: PyData.shownAll r).map (·.length)).sum ≤ (r.length + 1) * m
    rw [List.map_cons, List.sum_cons, Nat.add_mul, Nat.one_mul]
    omega
theorem fine_list {ds : List PyData} {k m n : Nat} (h : ∀ d ∈ ds, Fine k m d) (hn : ds.length ≤ n) (hb : n ≤ 100000) : Fine (k + 1) (n * (m + 2) + 3) (.list ds) := by
  refine ⟨all_lay fun d hd => (h d hd).lay, all_showable fun d hd => (h d hd).show_, Nat.succ_le_succ (all_depth fun d hd => (h d hd).depth), ⟨Nat.le_trans hn hb, narrow_of fun d hd => (h d hd).nar⟩, ?_⟩
  obtain ⟨h1, h2⟩ := all_shown fun d hd => (h d hd).len
  have h3 := listText_len_le (PyData.shownAll ds)
  have h4 : ds.length * m ≤ n * m := Nat.mul_le_mul_right _ hn
  show (listText (PyData.shownAll ds)).length ≤ _
  rw [Nat.mul_add]
  omega
theorem fine_tuple {ds : List PyData} {k m n : Nat} (h : ∀ d ∈ ds, Fine k m d) (hn : ds.length ≤ n) (hb : n ≤ 100000) : Fine (k + 1) (n * (m + 2) + 3) (.tuple ds) := by
  refine ⟨all_lay fun d hd => (h d hd).lay, all_showable fun d hd => (h d hd).show_, Nat.succ_le_succ (all_depth fun d hd => (h d hd).depth), ⟨Nat.le_trans hn hb, narrow_of fun d hd => (h d hd).nar⟩, ?_⟩
  obtain ⟨h1, h2⟩ := all_shown fun d hd => (h d hd).len
  have h3 := tupleText_len_le (PyData.shownAll ds)
  have h4 : ds.length * m ≤ n * m := Nat.mul_le_mul_right _ hn
  show (tupleText (PyData.shownAll ds)).length ≤ _
  rw [Nat.mul_add]
  omega
/-- numbers as data -/
def nd (l : List Nat) : List PyData := l.map fun (i : Nat) => PyData.int (i : Int)
theorem nd_length (l : List Nat) : (nd l).length = l.length := List.length_map _
theorem dp_nats {K : PySem.W.Frag} {H : Hp} : ∀ l : List Nat, DpAll K H (nv l) (nd l)
  | [] => .nil
  | i :: r => .cons (.int i) (dp_nats r)
theorem fine_nd {l : List Nat} (h : ∀ i ∈ l, i < 2 ^ 60) : ∀ d ∈ nd l, Fine 0 61 d := fun d hd => by
  obtain ⟨i, hi, rfl⟩ := List.mem_map.mp hd
  exact fine_nat (h i hi)
/-- a tuple of numbers -/
theorem fine_tup {l : List Nat} {n : Nat} (h : ∀ i ∈ l, i < 2 ^ 60) (hn : l.length ≤ n) (hb : n ≤ 100000) : Fine 1 (n * 63 + 3) (.tuple (nd l)) := fine_tuple (fine_nd h) (by rw [nd_length]; exact hn) hb
/-! ### lists of pairs of numbers -/
/-- at the places as stand the pairs ps -/
def Prs (H : Hp) (as : List Addr) (ps : List (Nat × Nat)) : Prop := Paired (fun a (p : Nat × Nat) => H a = some (.tup [.int p.1, .int p.2])) as ps
theorem Prs.length {H : Hp} {as : List Addr} {ps : List (Nat × Nat)} (h : Prs H as ps) : as.length = ps.length := Paired.length h
theorem prs_same {H H' : Hp} (e : Same H H') : ∀ {as : List Addr} {ps : List (Nat × Nat)}, Prs H as ps → Prs H' as ps
  | _, _, .nil => .nil
  | _, _, .cons h r => .cons (e _ _ h) (prs_same e r)
theorem prs_keep {b : Addr} {H H' : Hp} {ys : List V} (k : Keep b H H') (hb : H b = some (.lst ys)) : ∀ {as : List Addr} {ps : List (Nat × Nat)}, Prs H as ps → Prs H' as ps
  | _, _, .nil => .nil
  | _, _, .cons h r => .cons (k.tup hb h) (prs_keep k hb r)
theorem prs_get {H : Hp} : ∀ {as : List Addr} {ps : List (Nat × Nat)} {i : Nat} {a : Addr}, Prs H as ps → as[i]? = some a → ∃ p, ps[i]? = some p ∧ H a = some (.tup [.int p.1, .int p.2])
  | _, _, _, _, .nil, h => by simp at h
  | _, _, 0, _, .cons (b := p) h _, e => by
    cases Option.some.inj e
    exact ⟨p, rfl, h⟩
  | _, _, i + 1, a, .cons _ r, e => prs_get (i := i) r e
theorem prs_append {H : Hp} : ∀ {as bs : List Addr} {ps qs : List (Nat × Nat)}, Prs H as ps → Prs H bs qs → Prs H (as ++ bs) (ps ++ qs)
  | _, _, _, _, .nil, s => s
  | _, _, _, _, .cons h r, s => .cons h (prs_append r s)
def pd (p : Nat × Nat) : PyData := .tuple [.int (p.1 : Int), .int (p.2 : Int)]
theorem prs_dp {K : PySem.W.Frag} {H : Hp} : ∀ {as : List Addr} {ps : List (Nat × Nat)}, Prs H as ps → DpAll K H (as.map V.ref) (ps.map pd)
  | _, _, .nil => .nil
  | _, _, .cons h r => .cons (.tup (.inl (.inl h)) (.cons (.int _) (.cons (.int _) .nil))) (prs_dp r)
theorem fine_pd {p : Nat × Nat} (h1 : p.1 < 2 ^ 60) (h2 : p.2 < 2 ^ 60) : Fine 1 129 (pd p) := fine_tuple (n := 2) (fun d hd => by
  rcases List.mem_cons.mp hd with z | z
  · rw [z]; exact fine_nat h1
  · rw [List.mem_singleton.mp z]; exact fine_nat h2) (Nat.le_refl _) (by decide)
/-- a list of pairs -/
theorem fine_pds {ps : List (Nat × Nat)} {n : Nat} (h : ∀ p ∈ ps, p.1 < 2 ^ 60 ∧ p.2 < 2 ^ 60) (hn : ps.length ≤ n) (hb : n ≤ 100000) : Fine 2 (n * 131 + 3) (.list (ps.map pd)) :=
  fine_list (fun d hd => by
    obtain ⟨p, hp, rfl⟩ := List.mem_map.mp hd
    exact fine_pd (h p hp).1 (h p hp).2) (by rw [List.length_map]; exact hn) hb
end Pc
namespace Pc
open PySem PySem.Spec PyProof.Rows L2 RZ
/-! ### a list or a tuple: walked, unpacked -/
/-- a list or a tuple is read -/
def Sq (K : PySem.W.Frag) (H : Hp) (a : Addr) (xs : List V) : Prop := SqL K H a xs ∨ SqT K H a xs
theorem Sq.same {K : PySem.W.Frag} {H H' : Hp} {a : Addr} {xs : List V} (h : Sq K H a xs) (e : Same H H') : Sq K H' a xs := h.imp (fun z => e.seq z) (fun z => same_tup e z)
def iSeq (K : PySem.W.Frag) (tl : TE) : TI := fun σ H R => tl σ H fun x H1 => ∃ a, x = .ref a ∧ (((∃ xs, SqL K H1 a xs) ∧ R (Itl K a) H1) ∨ ((∃ xs, SqT K H1 a xs) ∧ R (Itt K a) H1))
section
variable {X : Cx}
theorem pi_seq {tg l : Expr} {tl : TE} (hl : PE X l tl) : PI X tg l (iSeq X.K tl) := by
  constructor
  intro pins s σ H R I h
  refine thn (hl.run pins s σ H _ I h) ?_
  rintro v s1 ⟨x, H1, I1, r1, a, ex, q⟩
  subst ex
  cases r1
  rcases q with ⟨⟨xs, hx⟩, q⟩ | ⟨⟨xs, hx⟩, q⟩
  · obtain ⟨its, _, p, _⟩ := I1.list hx
    refine wpAny_pyIter_list p.isList ?_
    exact pi_one (tk := s1.toks) I1 _ (turn_list _ _) ⟨_, Heap.get?_push_size _ rfl, rfl, rfl⟩ q
  · obtain ⟨its, _, p, _⟩ := I1.tuple hx
    refine wpAny_pyIter_tuple p ?_
    exact pi_one (tk := s1.toks) I1 _ (turn_tuple _ _) ⟨_, Heap.get?_push_size _ rfl, rfl, rfl⟩ q
/-- names unpacked from a tuple or a list -/
def gSeq (K : PySem.W.Frag) (n : Nat) (t : TGs) : TG := fun v σ H Q => ∃ a xs, v = .ref a ∧ Sq K H a xs ∧ xs.length = n ∧ t xs σ H Q
theorem pg_seq {es : List Expr} {k : Nat} {t : TGs} {n : Nat} {pos : Pos} (hc : X.calm = true) (h : PGs X es t)
    (hn : (assignEach es X.env).length = n := by rfl) (hst : (assignEach es X.env).findIdx? (·.1) = none := by rfl) : PG X (.Tuple es k pos) (gSeq X.K n t) := by
  constructor
  intro pins s σ H v u Q I r hw
  obtain ⟨a, xs, e, hq, hl, hw⟩ := hw
  rcases hq with hq | hq
  · exact (pg_unl (pos := pos) (k := k) hc h hn hst).run pins s σ H v u Q I r ⟨a, xs, e, hq, hl, hw⟩
  · exact (pg_tup (pos := pos) (k := k) hc h hn hst).run pins s σ H v u Q I r ⟨a, xs, e, hq, hl, hw⟩
/-! ### a call with keywords alone -/
def tKw (n : Nat) (sp : Sp) (gV : List V → List V) (E : XK) (tk : TA) : TE := fun σ H Q => tk σ H fun zs H1 => zs.length = n ∧ sp (gV zs) H1 Q E
theorem pe_kw {CX : CXT} {k : Nat} {f : Addr} {fd : FuncData} {ps ks : List Str} {sp : Sp} {E : XK} {x : Str} {p pos : Pos} {kws : List Keyword} {tk : TA} {g : List Value → List Value} {gV : List V → List V}
    (F : FnOk X.prog X.w X.K X.mg X.base CX k f fd ps sp) (hr : Room k X.A) (hg : Gl X x) (hm : X.mg x = some (.ref f)) (hk : PySem.W.keepIn X.K (.ref f) = true)
    (hb : ∀ (s : Shared) (ws : List Value), ws.length = ks.length → BindsTo s fd ⟨[], ks.zip ws⟩ (ps.zip (g ws))) (rel : ∀ {zs : List V} {ws : List Value}, zs.length = ks.length → Vals zs ws → Vals (gV zs) (g ws)) (hx : Passes CX X E) (hkw : PK X kws tk)
    (hall : (backToKw pos (keywordEach kws X.env)).all (·.1.isSome) = true := by rfl) (hks : (backToKw pos (keywordEach kws X.env)).filterMap (·.1) = ks := by rfl) (hdb : (x == ("__debug__" : Str)) = false := by decide)
    (hpl : ((backTo pos (starEach [] X.env)).any (·.1) || (backToKw pos (keywordEach kws X.env)).any (·.1.isNone)) = false := by rfl) :
    PE X (.Call (.Name x p) [] kws pos) (tKw ks.length sp gV E tk) := by
  constructor
  intro pins s σ H Q I h
  refine wpAny_Call_Name_kw (ld_glob I hg hm ?_ hdb)
  refine PySem.W.callWith_KW0 (h₀ := X.base) I.ok.mod.kin hk hall (thn (hkw.run pos pins s σ H _ I h) ?_) hpl
  rintro ws s2 ⟨zs, H2, I2, rz, hz, q⟩
  refine ⟨I2.kIn, ?_⟩
  rw [hks]
  refine wpAny_call (codeAny_mono (F.run X.A X.stack s2 H2 ⟨[], ks.zip ws⟩ (g ws) (gV zs) Q E hr I2.env0 (hb s2 ws (by rw [← rz.length, hz])) (rel hz rz) q) ?_)
  intro res s' hq
  cases res with
  | error e => exact hx pins σ H2 s2 e s' I2 hq
  | ok fl =>
    cases fl with
    | ret u => exact I2.after hq
    | next => exact hq.elim
    | brk => exact hq.elim
    | cont => exact hq.elim
end
theorem kw_to {K : PySem.W.Frag} {x qual : Str} {st : Stmt} {f : Addr} {fd : FuncData} {ps ks : List Str} {g : List Value → List Value} (F : Fun K x qual st f fd)
    (h : ∀ (kV doc pm : Value) (an : Option Addr) (cdv ct : Value) (ws : List Value), ws.length = ks.length → bindArgs (PySem.W.fnOf x qual (defArgs st) (defBody st) (defScope st) .none kV doc pm an cdv ct) ⟨[], ks.zip ws⟩ = pure (ps.zip (g ws))) :
    ∀ (s : Shared) (ws : List Value), ws.length = ks.length → BindsTo s fd ⟨[], ks.zip ws⟩ (ps.zip (g ws)) := by
  obtain ⟨oc, od, kV, doc, pm, an, cdv, ct, osl, rfl, lk, hcd⟩ := F.ex
  intro s ws hl
  exact .of_eq (h kV doc pm an cdv ct ws hl)
end Pc
namespace Pc
open PySem PySem.Spec PyProof.Rows L2 RZ
/-! ### the couples of a pairing -/
/-- the couples whose first person is below i -/
def cplN (ps : List Nat) (i : Nat) : List (Nat × Nat) := ((List.range i).filter fun x => decide (x < ps.getD x 0)).map fun x => (x, ps.getD x 0)
def cpl (ps : List Nat) : List (Nat × Nat) := cplN ps ps.length
theorem getD_of {ps : List Nat} {x y : Nat} (h : ps[x]? = some y) : ps.getD x 0 = y := by
  rw [List.getD_eq_getElem?_getD, h]; rfl
theorem cplN_yes {ps : List Nat} {i y : Nat} (h : ps[i]? = some y) (hl : i < y) : cplN ps (i + 1) = cplN ps i ++ [(i, y)] := by
  unfold cplN
  rw [List.range_succ, List.filter_append, List.map_append]
  congr 1
  rw [List.filter_cons_of_pos (by rw [getD_of h]; exact decide_eq_true hl), List.filter_nil, List.map_cons, List.map_nil, getD_of h]
theorem cplN_no {ps : List Nat} {i y : Nat} (h : ps[i]? = some y) (hl : ¬ i < y) : cplN ps (i + 1) = cplN ps i := by
  unfold cplN
  rw [List.range_succ, List.filter_append, List.map_append, List.filter_cons_of_neg (by rw [getD_of h]; simpa using hl), List.filter_nil, List.map_nil, List.append_nil]
theorem cplN_len (ps : List Nat) (i : Nat) : (cplN ps i).length ≤ i := by
  unfold cplN
  rw [List.length_map]
  exact Nat.le_trans (List.length_filter_le _ _) (by rw [List.length_range]; exact Nat.le_refl _)
theorem mem_cpl {n : Nat} {ps : List Nat} (h : IsPair n ps) {p : Nat × Nat} : p ∈ cpl ps ↔ ps[p.1]? = some p.2 ∧ p.1 < p.2 := by
  unfold cpl cplN
  rw [h.len]
  constructor
  · intro hp
    obtain ⟨x, hx, rfl⟩ := List.mem_map.mp hp
    obtain ⟨h1, h2⟩ := List.mem_filter.mp hx
    obtain ⟨y, e, _⟩ := h.par x (List.mem_range.mp h1)
    rw [getD_of e] at h2 ⊢
    exact ⟨e, of_decide_eq_true h2⟩
  · rintro ⟨e, hl⟩
    refine List.mem_map.mpr ⟨p.1, List.mem_filter.mpr ⟨List.mem_range.mpr ?_, ?_⟩, ?_⟩
    · rw [← h.len]; exact get_lt e
    · rw [getD_of e]; exact decide_eq_true hl
    · rw [getD_of e]
theorem IsPair.back {n : Nat} {ps : List Nat} (h : IsPair n ps) {x y : Nat} (e : ps[x]? = some y) : ps[y]? = some x ∧ y < n ∧ x < n ∧ y ≠ x := by
  have hx : x < n := by rw [← h.len]; exact get_lt e
  obtain ⟨z, e1, e2, e3, e4⟩ := h.par x hx
  cases Option.some.inj (e.symm.trans e1)
  exact ⟨e4, e2, hx, e3⟩
theorem cpl_cover {n : Nat} {ps : List Nat} (h : IsPair n ps) {z : Nat} (hz : z < n) : ∃ p ∈ cpl ps, p.1 = z ∨ p.2 = z := by
  obtain ⟨y, e1, e2, e3, e4⟩ := h.par z hz
  rcases Nat.lt_or_gt_of_ne e3 with l | l
  · exact ⟨(y, z), (mem_cpl h).mpr ⟨e4, l⟩, .inr rfl⟩
  · exact ⟨(z, y), (mem_cpl h).mpr ⟨e1, l⟩, .inl rfl⟩
theorem filter_split {α : Type} (f : α → Bool) : ∀ l : List α, (l.filter f).length + (l.filter fun x => !f x).length = l.length
  | [] => rfl
  | a :: r => by
    have ih := filter_split f r
    cases e : f a with
    | true => rw [List.filter_cons_of_pos e, List.filter_cons_of_neg (by rw [e]; decide), List.length_cons, List.length_cons]; omega
    | false => rw [List.filter_cons_of_neg (by rw [e]; decide), List.filter_cons_of_pos (by rw [e]; rfl), List.length_cons, List.length_cons]; omega
theorem cpl_half {n : Nat} {ps : List Nat} (h : IsPair n ps) : 2 * (cpl ps).length = n := by
  have e1 : (cpl ps).length = ((List.range n).filter fun x => decide (x < ps.getD x 0)).length := by
    unfold cpl cplN; rw [List.length_map, h.len]
  have inj : ∀ x y, x < n → y < n → ps.getD x 0 = ps.getD y 0 → x = y := fun x y hx hy e => by
    obtain ⟨u, a1, _, _, a4⟩ := h.par x hx
    obtain ⟨v, b1, _, _, b4⟩ := h.par y hy
    rw [getD_of a1, getD_of b1] at e
    subst e
    exact Option.some.inj (a4.symm.trans b4)
  have nd0 : (List.range n).Nodup := List.nodup_range
  have p1 : (((List.range n).filter fun x => decide (x < ps.getD x 0)).map fun x => ps.getD x 0).Perm ((List.range n).filter fun x => !decide (x < ps.getD x 0)) := by
    refine (List.perm_ext_iff_of_nodup ?_ (nd0.filter _)).mpr fun z => ?_
    · refine List.Pairwise.map _ (fun a b hab => hab) ?_
      refine List.Pairwise.imp_of_mem (fun {a b} ha hb hab => ?_) (nd0.filter fun x => decide (x < ps.getD x 0))
      exact fun e => hab (inj a b (List.mem_range.mp (List.mem_filter.mp ha).1) (List.mem_range.mp (List.mem_filter.mp hb).1) e)
    · constructor
      · intro hz
        obtain ⟨x, hx, rfl⟩ := List.mem_map.mp hz
        obtain ⟨h1, h2⟩ := List.mem_filter.mp hx
        obtain ⟨y, a1, a2, a3, a4⟩ := h.par x (List.mem_range.mp h1)
        rw [getD_of a1] at h2 ⊢
        have h3 := of_decide_eq_true h2
        refine List.mem_filter.mpr ⟨List.mem_range.mpr a2, ?_⟩
        rw [getD_of a4, decide_eq_false (by omega)]; rfl
      · intro hz
        obtain ⟨h1, h2⟩ := List.mem_filter.mp hz
        obtain ⟨y, a1, a2, a3, a4⟩ := h.par z (List.mem_range.mp h1)
        rw [getD_of a1] at h2
        have h3 : ¬ z < y := by simpa using h2
        refine List.mem_map.mpr ⟨y, List.mem_filter.mpr ⟨List.mem_range.mpr a2, ?_⟩, getD_of a4⟩
        rw [getD_of a4]
        exact decide_eq_true (by omega)
  have e2 := p1.length_eq
  rw [List.length_map] at e2
  have e3 := filter_split (fun x => decide (x < ps.getD x 0)) (List.range n)
  rw [List.length_range] at e3
  omega
/-- what pairs must be so that they make the pairing ps -/
structure Makes (qs : List (Nat × Nat)) (ps : List Nat) : Prop where
  half : 2 * qs.length = ps.length
  ok : ∀ p ∈ qs, ps[p.1]? = some p.2 ∧ ps[p.2]? = some p.1
  all : ∀ z, z < ps.length → ∃ p ∈ qs, p.1 = z ∨ p.2 = z
theorem makes_cpl {n : Nat} {ps : List Nat} (h : IsPair n ps) : Makes (cpl ps) ps where
  half := by rw [cpl_half h, h.len]
  ok p hp := by
    obtain ⟨e, _⟩ := (mem_cpl h).mp hp
    exact ⟨e, (h.back e).1⟩
  all z hz := cpl_cover h (by rw [← h.len]; exact hz)
/-- the pairs of qs in any order, turned or not -/
theorem Makes.turned {qs rs : List (Nat × Nat)} {ps : List Nat} (h : Makes qs ps) (hl : rs.length = qs.length) (h1 : ∀ p ∈ rs, p ∈ qs ∨ (p.2, p.1) ∈ qs) (h2 : ∀ p ∈ qs, p ∈ rs ∨ (p.2, p.1) ∈ rs) : Makes rs ps where
  half := by rw [hl]; exact h.half
  ok p hp := by
    rcases h1 p hp with z | z
    · exact h.ok p z
    · obtain ⟨a, b⟩ := h.ok _ z
      exact ⟨b, a⟩
  all z hz := by
    obtain ⟨p, hp, e⟩ := h.all z hz
    rcases h2 p hp with q | q
    · exact ⟨p, q, e⟩
    · exact ⟨_, q, e.symm⟩
def CInv (ps : List Nat) (qs : List (Nat × Nat)) (fs : List Nat) (i : Nat) : Prop := fs.length = ps.length ∧ ∀ j, j < i → ∀ p, qs[j]? = some p → fs[p.1]? = ps[p.1]? ∧ fs[p.2]? = ps[p.2]?
theorem set_keeps {ps fs : List Nat} {x y z : Nat} (hy : ps[x]? = some y) (hx : x < fs.length) (h : fs[z]? = ps[z]?) : (fs.set x y)[z]? = ps[z]? := by
  by_cases e : x = z
  · subst e
    rw [List.getElem?_set_self hx, hy]
  · rw [List.getElem?_set_ne e]; exact h
theorem CInv.step {ps fs : List Nat} {qs : List (Nat × Nat)} {i : Nat} {p : Nat × Nat} (m : Makes qs ps) (h : CInv ps qs fs i) (hp : qs[i]? = some p) : CInv ps qs ((fs.set p.1 p.2).set p.2 p.1) (i + 1) := by
  obtain ⟨hl, hj⟩ := h
  obtain ⟨o1, o2⟩ := m.ok p (List.mem_of_getElem? hp)
  have l1 : p.1 < fs.length := by rw [hl]; exact get_lt o1
  have l2 : p.2 < (fs.set p.1 p.2).length := by rw [List.length_set, hl]; exact get_lt o2
  refine ⟨by rw [List.length_set, List.length_set, hl], fun j hj2 r hr => ?_⟩
  by_cases e : j = i
  · subst e
    cases Option.some.inj (hp.symm.trans hr)
    refine ⟨set_keeps o2 l2 ?_, ?_⟩
    · rw [List.getElem?_set_self l1, o1]
    · rw [List.getElem?_set_self l2, o2]
  · obtain ⟨a, b⟩ := hj j (by omega) r hr
    exact ⟨set_keeps o2 l2 (set_keeps o1 l1 a), set_keeps o2 l2 (set_keeps o1 l1 b)⟩
theorem CInv.done {ps fs : List Nat} {qs : List (Nat × Nat)} (m : Makes qs ps) (h : CInv ps qs fs qs.length) : fs = ps := by
  refine List.ext_getElem? fun z => ?_
  by_cases hz : z < ps.length
  · obtain ⟨p, hp, e⟩ := m.all z hz
    obtain ⟨i, hi, ei⟩ := List.mem_iff_getElem.mp hp
    obtain ⟨a, b⟩ := h.2 i hi p (by rw [List.getElem?_eq_getElem hi, ei])
    rcases e with e | e
    · rw [← e]; exact a
    · rw [← e]; exact b
  · rw [List.getElem?_eq_none (by rw [h.1]; omega), List.getElem?_eq_none (by omega)]
end Pc
namespace Pc
open PySem PySem.Spec PyProof.Rows L2 RZ
section
variable {K : PySem.W.Frag}
/-- the values us are the pairs qs, each a tuple or a list -/
def Items (K : PySem.W.Frag) (H : Hp) (us : List V) (qs : List (Nat × Nat)) : Prop := us.length = qs.length ∧ ∀ (i : Nat) (v : V), us[i]? = some v → ∃ (c : Addr) (p : Nat × Nat), v = .ref c ∧ qs[i]? = some p ∧ Sq K H c [.int p.1, .int p.2]
theorem Items.same {H H' : Hp} {us : List V} {qs : List (Nat × Nat)} (h : Items K H us qs) (e : Same H H') : Items K H' us qs := ⟨h.1, fun i v hv => by
  obtain ⟨c, p, h1, h2, h3⟩ := h.2 i v hv
  exact ⟨c, p, h1, h2, h3.same e⟩⟩
theorem items_of {H : Hp} {as : List Addr} {qs : List (Nat × Nat)} (h : Prs H as qs) : Items K H (as.map V.ref) qs := ⟨by rw [List.length_map]; exact h.length, fun i v hv => by
  rw [List.getElem?_map] at hv
  cases e : as[i]? with
  | none => rw [e] at hv; cases hv
  | some c =>
    rw [e] at hv
    obtain ⟨p, h1, h2⟩ := prs_get h e
    exact ⟨c, p, (Option.some.inj hv).symm, h1, .inr (.inl (.inl h2))⟩⟩
end
end Pc
namespace Pc
open PySem PySem.Spec PyProof.Rows L2 RZ
theorem paired_perm {α β : Type} {R : α → β → Prop} {as bs : List α} (h : as.Perm bs) : ∀ ps : List β, Paired R as ps → ∃ qs : List β, qs.Perm ps ∧ Paired R bs qs := by
  induction h with
  | nil => exact fun ps h => ⟨ps, List.Perm.refl _, h⟩
  | cons x _ ih =>
    intro ps h
    cases h with
    | cons r t =>
      obtain ⟨qs, h1, h2⟩ := ih _ t
      exact ⟨_ :: qs, h1.cons _, .cons r h2⟩
  | swap x y l =>
    intro ps h
    cases h with
    | cons r t =>
      cases t with
      | cons r2 t2 => exact ⟨_, List.Perm.swap _ _ _, .cons r2 (.cons r t2)⟩
  | trans _ _ ih1 ih2 =>
    intro ps h
    obtain ⟨qs, h1, h2⟩ := ih1 ps h
    obtain ⟨rs, h3, h4⟩ := ih2 qs h2
    exact ⟨rs, h3.trans h1, h4⟩
/-- the same pairs, some turned -/
def Turned (qs rs : List (Nat × Nat)) : Prop := rs.length = qs.length ∧ ∀ (j : Nat) (p q : Nat × Nat), qs[j]? = some p → rs[j]? = some q → q = p ∨ q = (p.2, p.1)
theorem Turned.mem1 {qs rs : List (Nat × Nat)} (h : Turned qs rs) : ∀ p ∈ rs, p ∈ qs ∨ (p.2, p.1) ∈ qs := fun p hp => by
  obtain ⟨j, hj, e⟩ := List.mem_iff_getElem.mp hp
  obtain ⟨q, hq⟩ := get_some (l := qs) (i := j) (by rw [← h.1]; exact hj)
  rcases h.2 j q p hq (by rw [List.getElem?_eq_getElem hj, e]) with z | z
  · exact .inl (z ▸ List.mem_of_getElem? hq)
  · refine .inr ?_
    rw [z]
    exact List.mem_of_getElem? hq
theorem Turned.mem2 {qs rs : List (Nat × Nat)} (h : Turned qs rs) : ∀ p ∈ qs, p ∈ rs ∨ (p.2, p.1) ∈ rs := fun p hp => by
  obtain ⟨j, hj, e⟩ := List.mem_iff_getElem.mp hp
  obtain ⟨q, hq⟩ := get_some (l := rs) (i := j) (by rw [h.1]; exact hj)
  rcases h.2 j p q (by rw [List.getElem?_eq_getElem hj, e]) hq with z | z
  · exact .inl (z ▸ List.mem_of_getElem? hq)
  · exact .inr (z ▸ List.mem_of_getElem? hq)
theorem Makes.perm {qs rs : List (Nat × Nat)} {ps : List Nat} (h : Makes qs ps) (e : rs.Perm qs) : Makes rs ps := h.turned e.length_eq (fun p hp => .inl (e.mem_iff.mp hp)) (fun p hp => .inl (e.mem_iff.mpr hp))
theorem IsPair.lt {n : Nat} {ps : List Nat} (h : IsPair n ps) : ∀ i ∈ ps, i < n := fun i hi => by
  obtain ⟨x, hx, e⟩ := List.mem_iff_getElem.mp hi
  obtain ⟨y, e1, e2, _⟩ := h.par x (by rw [← h.len]; exact hx)
  rw [List.getElem?_eq_getElem hx, e] at e1
  cases Option.some.inj e1
  exact e2
theorem Makes.lt {qs : List (Nat × Nat)} {ps : List Nat} (h : Makes qs ps) : ∀ p ∈ qs, p.1 < ps.length ∧ p.2 < ps.length := fun p hp => ⟨get_lt (h.ok p hp).1, get_lt (h.ok p hp).2⟩
theorem iteN {A B : Prop} (h : B) : if (!true) = true then A else B := by
  rw [if_neg (by decide)]
  exact h
end Pc
namespace Pc
open PySem PySem.Spec PyProof.Rows L2 RZ
/-! ### a loop over a list or a tuple that stays as it is -/
theorem for_seq {K : PySem.W.Frag} {a : Addr} {xs : List V} {g : TG} {tb : TS} {D : Ends} {σ : L2.St} {H0 H : Hp} (hS : Sq K H0 a xs) (Pv : Nat → L2.St → Hp → Prop) (h0 : Pv 0 σ H) (hst : ∀ i σ H', Pv i σ H' → Same H0 H')
    (hs : ∀ i x σ H', xs[i]? = some x → Pv i σ H' → g x σ H' fun σ2 H2 => tb { D with nx := Pv (i + 1), ct := Pv (i + 1), bk := D.nx } σ2 H2) (hd : ∀ σ H', Pv xs.length σ H' → D.nx σ H') :
    ((∃ ys, SqL K H a ys) ∧ ∃ W : Nat → Nat → L2.St → Hp → Prop, (∃ m, W 0 m σ H) ∧ ∀ i m σ H, W i m σ H → ((Itl K a).stop i H ∧ D.nx σ H) ∨ ((Itl K a).go i H ∧ ∃ N : L2.St → Hp → Prop, (∀ σ' H', N σ' H' → ∃ m', m' < m ∧ W (i + 1) m' σ' H') ∧ ∀ x H', (Itl K a).yld i H x H' → g x σ H' fun σ2 H2 => tb { D with nx := N, ct := N, bk := D.nx } σ2 H2)) ∨
    ((∃ ys, SqT K H a ys) ∧ ∃ W : Nat → Nat → L2.St → Hp → Prop, (∃ m, W 0 m σ H) ∧ ∀ i m σ H, W i m σ H → ((Itt K a).stop i H ∧ D.nx σ H) ∨ ((Itt K a).go i H ∧ ∃ N : L2.St → Hp → Prop, (∀ σ' H', N σ' H' → ∃ m', m' < m ∧ W (i + 1) m' σ' H') ∧ ∀ x H', (Itt K a).yld i H x H' → g x σ H' fun σ2 H2 => tb { D with nx := N, ct := N, bk := D.nx } σ2 H2)) := by
  rcases hS with h | h
  · exact .inl ⟨⟨_, (hst 0 σ H h0).seq h⟩, for_list Pv h0 (fun i σ H' _ p => (hst i σ H' p).seq h) hs hd⟩
  · exact .inr ⟨⟨_, same_tup (hst 0 σ H h0) h⟩, for_tup Pv h0 (fun i σ H' _ p => same_tup (hst i σ H' p) h) hs hd⟩
/-! ### two are joined, and the two that are left -/
def jn (fs : List Nat) (a b : Nat) : List Nat := if fs.getD a 0 = b then fs else (((fs.set a b).set b a).set (fs.getD a 0) (fs.getD b 0)).set (fs.getD b 0) (fs.getD a 0)
theorem jn_len (fs : List Nat) (a b : Nat) : (jn fs a b).length = fs.length := by
  unfold jn
  split
  · rfl
  · simp only [List.length_set]
/-- the four are different -/
theorem four {n : Nat} {fs : List Nat} (h : IsPair n fs) {a b c d : Nat} (hab : a ≠ b) (ea : fs[a]? = some c) (eb : fs[b]? = some d) (hcb : c ≠ b) : c ≠ a ∧ d ≠ b ∧ d ≠ a ∧ c ≠ d ∧ a < n ∧ b < n ∧ c < n ∧ d < n := by
  obtain ⟨a1, a2, a3, a4⟩ := h.back ea
  obtain ⟨b1, b2, b3, b4⟩ := h.back eb
  refine ⟨a4, b4, fun e => ?_, fun e => ?_, a3, b3, a2, b2⟩
  · rw [e, ea] at b1; exact hcb (Option.some.inj b1)
  · rw [e, b1] at a1; exact hab (Option.some.inj a1).symm
theorem jn_same {fs : List Nat} {a b : Nat} (e : fs[a]? = some b) : jn fs a b = fs := by
  unfold jn
  rw [getD_of e, if_pos rfl]
theorem jn_get {n : Nat} {fs : List Nat} (h : IsPair n fs) {a b c d : Nat} (hab : a ≠ b) (ea : fs[a]? = some c) (eb : fs[b]? = some d) (hcb : c ≠ b) (z : Nat) :
    (jn fs a b)[z]? = if z = a then some b else if z = b then some a else if z = c then some d else if z = d then some c else fs[z]? := by
  obtain ⟨x1, x2, x3, x4, l1, l2, l3, l4⟩ := four h hab ea eb hcb
  unfold jn
  rw [getD_of ea, getD_of eb, if_neg hcb]
  have hl := h.len
  by_cases z4 : z = d
  · subst z4
    rw [List.getElem?_set_self (by simp only [List.length_set]; omega), if_neg x3, if_neg x2, if_neg (Ne.symm x4), if_pos rfl]
  · rw [List.getElem?_set_ne (Ne.symm z4)]
    by_cases z3 : z = c
    · subst z3
      rw [List.getElem?_set_self (by simp only [List.length_set]; omega), if_neg x1, if_neg hcb, if_pos rfl]
    · rw [List.getElem?_set_ne (Ne.symm z3)]
      by_cases z2 : z = b
      · subst z2
        rw [List.getElem?_set_self (by simp only [List.length_set]; omega), if_neg (Ne.symm hab), if_pos rfl]
      · rw [List.getElem?_set_ne (Ne.symm z2)]
        by_cases z1 : z = a
        · subst z1
          rw [List.getElem?_set_self (by omega), if_pos rfl]
        · rw [List.getElem?_set_ne (Ne.symm z1), if_neg z1, if_neg z2, if_neg z3, if_neg z4]
theorem jn_pair {n : Nat} {fs : List Nat} (h : IsPair n fs) {a b : Nat} (hab : a ≠ b) (ha : a < n) (hb : b < n) : IsPair n (jn fs a b) := by
  obtain ⟨c, ea, _⟩ := h.par a ha
  obtain ⟨d, eb, _⟩ := h.par b hb
  by_cases hcb : c = b
  · subst hcb; rw [jn_same ea]; exact h
  · have G := jn_get h hab ea eb hcb
    obtain ⟨x1, x2, x3, x4, _, _, l3, l4⟩ := four h hab ea eb hcb
    refine ⟨by rw [jn_len]; exact h.len, fun x hx => ?_⟩
    by_cases z1 : x = a
    · subst z1
      exact ⟨b, by rw [G, if_pos rfl], hb, hab.symm, by rw [G, if_neg hab.symm, if_pos rfl]⟩
    · by_cases z2 : x = b
      · subst z2
        exact ⟨a, by rw [G, if_neg z1, if_pos rfl], ha, hab, by rw [G, if_pos rfl]⟩
      · by_cases z3 : x = c
        · subst z3
          exact ⟨d, by rw [G, if_neg z1, if_neg z2, if_pos rfl], l4, x4.symm, by rw [G, if_neg x3, if_neg x2, if_neg x4.symm, if_pos rfl]⟩
        · by_cases z4 : x = d
          · subst z4
            exact ⟨c, by rw [G, if_neg z1, if_neg z2, if_neg z3, if_pos rfl], l3, x4, by rw [G, if_neg x1, if_neg hcb, if_pos rfl]⟩
          · obtain ⟨y, e1, e2, e3, e4⟩ := h.par x hx
            have back : ∀ {u : Nat}, y = u → fs[u]? = some x := fun e => by rw [← e]; exact e4
            refine ⟨y, by rw [G, if_neg z1, if_neg z2, if_neg z3, if_neg z4]; exact e1, e2, e3, ?_⟩
            rw [G, if_neg, if_neg, if_neg, if_neg]
            · exact e4
            · intro e; have q := back e; rw [(h.back eb).1] at q; exact z2 (Option.some.inj q).symm
            · intro e; have q := back e; rw [(h.back ea).1] at q; exact z1 (Option.some.inj q).symm
            · intro e; have q := back e; rw [eb] at q; exact z4 (Option.some.inj q).symm
            · intro e; have q := back e; rw [ea] at q; exact z3 (Option.some.inj q).symm
/-- all pairs are calls of n people -/
def Calls (n : Nat) (qs : List (Nat × Nat)) : Prop := ∀ q ∈ qs, q.1 < q.2 ∧ q.2 < n
/-- the calls done one after another -/
def runs (qs : List (Nat × Nat)) (ps : List Nat) : List Nat := qs.foldl (fun fs q => jn fs q.1 q.2) ps
theorem runs_take {qs : List (Nat × Nat)} {ps : List Nat} {i : Nat} {q : Nat × Nat} (h : qs[i]? = some q) : runs (qs.take (i + 1)) ps = jn (runs (qs.take i) ps) q.1 q.2 := by
  unfold runs
  rw [List.take_add_one, h, List.foldl_append]
  rfl
theorem runs_pair {n : Nat} : ∀ (qs : List (Nat × Nat)) {ps : List Nat}, IsPair n ps → Calls n qs → IsPair n (runs qs ps)
  | [], _, h, _ => h
  | q :: r, ps, h, hc => by
    have h1 := hc q List.mem_cons_self
    exact runs_pair r (jn_pair h (by omega) (by omega) h1.2) (fun x hx => hc x (List.mem_cons_of_mem _ hx))
theorem Calls.take {n : Nat} {qs : List (Nat × Nat)} (h : Calls n qs) (i : Nat) : Calls n (qs.take i) := fun q hq => h q (List.mem_of_mem_take hq)
end Pc
namespace Pc
open PySem PySem.Spec PyProof.Rows L2 RZ
section
variable {P : Program} {w : World} {K : PySem.W.Frag} {mg : Str → Option Value} {base : Heap}
/-! ### drawn calls -/
def spSomeCalls : Sp := fun vs H Q _ => ∃ (b : Addr) (k n m : Nat), vs = [.ref b, .int n, .int m] ∧ Box (k + n * m + n + 10) H b ∧ 2 ≤ n ∧ n ≤ 1000 ∧ m ≤ 1000 ∧
  ∀ (H' : Hp) (p : Addr) (as : List Addr) (qs : List (Nat × Nat)), Calls n qs → qs.length ≤ m → H p = none → H' p = some (.lst (as.map V.ref)) → Prs H' as qs → Keep b H H' → Box k H' b → Q (.ref p) H'
theorem ok_some_calls (T : Env K mg) : FnOk P w K mg base CX0 4 T.f_random_word T.d_random_word ["_law_source", "_law_crowd", "_law_most"] spSomeCalls := by
  have GT : FnOk P w K mg base CX0 1 T.f_draw T.d_draw ["_law_source", "_law_bound"] spTake := ok_take T
  have GS : FnOk P w K mg base CX0 2 T.f_shuffled T.d_shuffled ["_law_source", "_law_some"] (spStrewn K) := ok_strewn T
  have GA : FnOk P w K mg base CX0 3 T.f_random_call T.d_random_call ["_law_source", "_law_some"] (spCallOf K) := ok_call_of T
  refine T.F_random_word.ok sc_random_word (fun vs H Q E h => ?_) (fun cdv A outer s H vs Q E hr h => ?_)
  · obtain ⟨b, k, n, m, rfl, _⟩ := h
    rfl
  · obtain ⟨b, k, n, m, rfl, hB, h2', hn, hm, q⟩ := h
    have h1 := hr.mono (show 1 ≤ 3 by decide)
    have h2 := hr.mono (show 2 ≤ 3 by decide)
    refine ⟨_, pss_cons (ps_set (i := 3) sc_random_word.nd rfl (.inr rfl) (pe_listRg rfl (by rfl) T.n_list (prg_1 (by rfl) T.n_range (pv 1)))) <|
      pss_cons (ps_if (PW.pt (pw_and (pt_cmpR op_gt (pv 1) pe_int (nomark _)) (pw_and1 (pt_cmpR op_eq (pe_call GT h1 (by rfl) T.g_draw T.F_draw.kp T.b_draw .nil pass0 (pa_cons (pv 0) (pa_cons pe_int pa_nil))) pe_int (nomark _)))))
        (pss_one (ps_set (i := 3) sc_random_word.nd rfl (.inr rfl) (pe_slice sl_list (pe_call GS h2 (by rfl) T.g_shuffled T.F_shuffled.kp T.b_shuffled .nil pass0 (pa_cons (pv 0) (pa_cons (pv 3) pa_nil))) po_none (po_some pe_int)))) pss_nil) <|
      pss_one (ps_ret (pe_lc (own := [("_law_turn", 4)]) (g := gName 4) (tt := tYes) (te := tCall (spCallOf K) [] E0 (tCons (tVar 0) (tCons (tVar 3) tNil))) rfl sc_random_word.nd
        (pi_range1 (by rfl) T.n_range (pa_cons (pe_call GT h1 (by rfl) T.g_draw T.F_draw.kp T.b_draw .nil pass0 (pa_cons (pv 0) (pa_cons (pe_op op_add (pv 2) pe_int) pa_nil))) pa_nil))
        (blkOk_by (N := N_random_word) (sc := defScope s_random_word) (by decide +kernel))
        (fun _ _ _ _ _ => pg_name (i := 4) sc_random_word.nd rfl (.inl rfl)) (fun _ _ _ _ _ => pts_nil)
        (fun _ _ _ _ _ => pe_call GA hr (by rfl) T.g_random_call T.F_random_call.kp T.b_random_call .nil pass0 (pa_cons (pv 0) (pa_cons (pv 3) pa_nil))))), ?_⟩
    refine ⟨.int n, rfl, n, rfl, RgOk.of_le (by decide) (by omega) (by decide) (by omega), fun rl nrl => ?_⟩
    rw [rg_nv]
    have sr : Same H _ := same_new (o := .lst (nv (List.range n))) nrl
    have er : (upd H rl (.lst (nv (List.range n)))) rl = some (.lst (nv (List.range n))) := upd_same
    have rb : rl ≠ b := (hB.ne_new nrl).symm
    have hBr := hB.same sr
    revert sr er hBr
    generalize upd H rl (.lst (nv (List.range n))) = Hr
    intro sr er hBr
    have kr : Keep b H Hr := Keep.of_same sr
    have lr : (List.range n).length = n := List.length_range
    refine ⟨.int n, rfl, n, 4, rfl, rfl, _, rfl, ite2 (fun c => ?_) (fun c => ?_)⟩
    · have c' : 4 < n := by have := of_decide_eq_true c; omega
      refine ⟨.ref b, rfl, b, k + n * m + n + 9, 3, rfl, hBr, by decide, by decide, fun r3 H3 r30 r31 hB3 k3 => ⟨rfl, _, rfl, ite2 (fun c3 => ?_) (fun c3 => ?_)⟩⟩
      · refine ⟨.ref b, rfl, .ref rl, rfl, b, rl, k + n * m + 9, nv (List.range n), rfl, hB3.mono (by rw [nv_length, lr]; omega), .inl (.inl (k3 _ _ rb er)), by rw [nv_length, lr]; exact hn, fun H4 p4 ys hpy k4 hB4 np4 ep4 => ?_⟩
        obtain ⟨os, e1, hp⟩ := perm_map_inv (fun (i : Nat) => V.int (i : Int)) hpy.symm (List.range n) rfl
        have ep : H4 p4 = some (.lst (nv os)) := by rw [ep4, e1]; rfl
        refine ⟨4, rfl, p4, nv os, rfl, .inl (.inl ep), fun sa nsa => ?_⟩
        have ec : cutV (nv os) none (some 4) = nv (os.take 4) := cut_head os 4
        rw [ec]
        have hol : os.length = n := by rw [hp.length_eq, lr]
        have s5 : Same H4 _ := same_new (o := .lst (nv (os.take 4))) nsa
        have f3 : (upd H4 sa (.lst (nv (os.take 4)))) sa = some (.lst (nv (os.take 4))) := upd_same
        have f0 : Keep b H _ := kr.trans (k3.trans (k4.trans (Keep.of_same s5)))
        have f1 := (hB4.same s5).mono (show k + n * m + 5 ≤ _ by omega)
        have f2 : sa ≠ b := (hB4.ne_new nsa).symm
        have f4 : (os.take 4).Nodup := (List.take_sublist 4 os).nodup (hp.nodup_iff.mpr List.nodup_range)
        have f5 : 2 ≤ (os.take 4).length := by rw [List.length_take]; omega
        have f6 : (os.take 4).length ≤ n := by rw [List.length_take]; omega
        have f7 : ∀ x ∈ os.take 4, x < n := fun x hx => List.mem_range.mp (hp.mem_iff.mp (List.mem_of_mem_take hx))
        revert s5 f3 f0 f1 f4 f5 f6 f7
        generalize upd H4 sa (.lst (nv (os.take 4))) = H0
        generalize os.take 4 = ss
        intro s5 f3 f0 f1 f4 f5 f6 f7
        have hnm : ∀ j : Nat, j < m → n * (m - (j + 1)) + n ≤ n * (m - j) := fun j hj => by
          rw [show m - j = (m - (j + 1)) + 1 by omega, Nat.mul_succ]; exact Nat.le_refl _
        refine ⟨.ref b, rfl, .int m, rfl, m, 1, rfl, rfl, b, k + n * m + 4, (m : Int) + 1, rfl, f1, by omega, by omega, fun r H2 r0 r1 hB2 k2 => ?_⟩
        refine ⟨r, rfl, by omega, by omega, fun D nD => ?_⟩
        have bD : b ≠ D := hB2.ne_new nD
        have k02 : Keep b H H2 := f0.trans k2
        have nD0 : H D = none := keep_none k02 hB2 nD
        have eS2 := k2 _ _ f2 f3
        have sD : sa ≠ D := ne_of_none eS2 nD
        refine lc_range (n := r.toNat) (fun j H' => Keep b H2 H' ∧ Box (k + n * (m - j)) H' b ∧ ∃ (as : List Addr) (qs : List (Nat × Nat)), H' D = some (.lst (as.map V.ref)) ∧ Prs H' as qs ∧ Calls n qs ∧ qs.length = j)
          ⟨Keep.of_same (same_new nD), (hB2.same (same_new nD)).mono (by rw [Nat.sub_zero]; omega), [], [], upd_same, .nil, fun q hq => by simp at hq, rfl⟩ (fun j H' hj hPv => ?_) (fun H' hPv => ?_)
        · obtain ⟨k3, hB3, as, qs, eD, hA, hc, hql⟩ := hPv
          have hj' := hnm j (by omega)
          refine ⟨rfl, yes_if ⟨_, rfl, _, rfl, b, sa, k + n * (m - (j + 1)), n, ss, rfl, hB3.mono (by omega), .inl (.inl (k3 _ _ f2 eS2)), f4, f5, by omega, f7, fun H4 t x y hxy hy nt et k4 hB4 => ?_⟩⟩
          have eD4 := k4 _ _ bD.symm eD
          have ntD : t ≠ D := fun z => by rw [z, eD4] at et; cases et
          obtain ⟨yb, hyb⟩ := hB3.lst
          refine ⟨_, eD4, small1000 (by rw [List.length_map, hA.length]; omega), fun a o na ha => ?_, hB4.keep (c := D) keep_upd bD, as ++ [t], qs ++ [(x, y)], ?_, ?_, ?_, ?_⟩
          · rw [upd_ne (ne_of_none ha nD)]; exact k4 _ _ na (k3 _ _ na ha)
          · rw [upd_same, List.map_append]; rfl
          · refine prs_append (prs_keep (b := D) keep_upd eD4 (prs_keep k4 hyb hA)) (.cons ?_ .nil)
            rw [upd_ne ntD]; exact et
          · intro q hq
            rcases List.mem_append.mp hq with z | z
            · exact hc q z
            · rw [List.mem_singleton.mp z]; exact ⟨hxy, by show y < n; omega⟩
          · rw [List.length_append, hql]; rfl
        · obtain ⟨k3, hB3, as, qs, eD, hA, hc, hql⟩ := hPv
          exact q H' D as qs hc (by omega) nD0 eD hA (k02.trans k3) (hB3.mono (by omega))
      · have f0 : Keep b H H3 := kr.trans k3
        have f1 : Box (k + n * m + 5) H3 b := hB3.mono (by omega)
        have f2 := rb
        have f3 := k3 _ _ rb er
        have f4 : (List.range n).Nodup := List.nodup_range
        have f5 : 2 ≤ (List.range n).length := by rw [lr]; exact h2'
        have f6 : (List.range n).length ≤ n := Nat.le_of_eq lr
        have f7 : ∀ x ∈ List.range n, x < n := fun x hx => List.mem_range.mp hx
        clear er
        revert f3 f4 f5 f6 f7
        generalize List.range n = ss
        intro f3 f4 f5 f6 f7
        have hnm : ∀ j : Nat, j < m → n * (m - (j + 1)) + n ≤ n * (m - j) := fun j hj => by
          rw [show m - j = (m - (j + 1)) + 1 by omega, Nat.mul_succ]; exact Nat.le_refl _
        refine ⟨.ref b, rfl, .int m, rfl, m, 1, rfl, rfl, b, k + n * m + 4, (m : Int) + 1, rfl, f1, by omega, by omega, fun r H2 r0 r1 hB2 k2 => ?_⟩
        refine ⟨r, rfl, by omega, by omega, fun D nD => ?_⟩
        have bD : b ≠ D := hB2.ne_new nD
        have k02 : Keep b H H2 := f0.trans k2
        have nD0 : H D = none := keep_none k02 hB2 nD
        have eS2 := k2 _ _ f2 f3
        have sD : rl ≠ D := ne_of_none eS2 nD
        refine lc_range (n := r.toNat) (fun j H' => Keep b H2 H' ∧ Box (k + n * (m - j)) H' b ∧ ∃ (as : List Addr) (qs : List (Nat × Nat)), H' D = some (.lst (as.map V.ref)) ∧ Prs H' as qs ∧ Calls n qs ∧ qs.length = j)
          ⟨Keep.of_same (same_new nD), (hB2.same (same_new nD)).mono (by rw [Nat.sub_zero]; omega), [], [], upd_same, .nil, fun q hq => by simp at hq, rfl⟩ (fun j H' hj hPv => ?_) (fun H' hPv => ?_)
        · obtain ⟨k3, hB3, as, qs, eD, hA, hc, hql⟩ := hPv
          have hj' := hnm j (by omega)
          refine ⟨rfl, yes_if ⟨_, rfl, _, rfl, b, rl, k + n * (m - (j + 1)), n, ss, rfl, hB3.mono (by omega), .inl (.inl (k3 _ _ f2 eS2)), f4, f5, by omega, f7, fun H4 t x y hxy hy nt et k4 hB4 => ?_⟩⟩
          have eD4 := k4 _ _ bD.symm eD
          have ntD : t ≠ D := fun z => by rw [z, eD4] at et; cases et
          obtain ⟨yb, hyb⟩ := hB3.lst
          refine ⟨_, eD4, small1000 (by rw [List.length_map, hA.length]; omega), fun a o na ha => ?_, hB4.keep (c := D) keep_upd bD, as ++ [t], qs ++ [(x, y)], ?_, ?_, ?_, ?_⟩
          · rw [upd_ne (ne_of_none ha nD)]; exact k4 _ _ na (k3 _ _ na ha)
          · rw [upd_same, List.map_append]; rfl
          · refine prs_append (prs_keep (b := D) keep_upd eD4 (prs_keep k4 hyb hA)) (.cons ?_ .nil)
            rw [upd_ne ntD]; exact et
          · intro q hq
            rcases List.mem_append.mp hq with z | z
            · exact hc q z
            · rw [List.mem_singleton.mp z]; exact ⟨hxy, by show y < n; omega⟩
          · rw [List.length_append, hql]; rfl
        · obtain ⟨k3, hB3, as, qs, eD, hA, hc, hql⟩ := hPv
          exact q H' D as qs hc (by omega) nD0 eD hA (k02.trans k3) (hB3.mono (by omega))
    · have f0 : Keep b H Hr := kr
      have f1 : Box (k + n * m + 5) Hr b := hBr.mono (by omega)
      have f2 := rb
      have f3 := er
      have f4 : (List.range n).Nodup := List.nodup_range
      have f5 : 2 ≤ (List.range n).length := by rw [lr]; exact h2'
      have f6 : (List.range n).length ≤ n := Nat.le_of_eq lr
      have f7 : ∀ x ∈ List.range n, x < n := fun x hx => List.mem_range.mp hx
      clear er
      revert f3 f4 f5 f6 f7
      generalize List.range n = ss
      intro f3 f4 f5 f6 f7
      have hnm : ∀ j : Nat, j < m → n * (m - (j + 1)) + n ≤ n * (m - j) := fun j hj => by
        rw [show m - j = (m - (j + 1)) + 1 by omega, Nat.mul_succ]; exact Nat.le_refl _
      refine ⟨.ref b, rfl, .int m, rfl, m, 1, rfl, rfl, b, k + n * m + 4, (m : Int) + 1, rfl, f1, by omega, by omega, fun r H2 r0 r1 hB2 k2 => ?_⟩
      refine ⟨r, rfl, by omega, by omega, fun D nD => ?_⟩
      have bD : b ≠ D := hB2.ne_new nD
      have k02 : Keep b H H2 := f0.trans k2
      have nD0 : H D = none := keep_none k02 hB2 nD
      have eS2 := k2 _ _ f2 f3
      have sD : rl ≠ D := ne_of_none eS2 nD
      refine lc_range (n := r.toNat) (fun j H' => Keep b H2 H' ∧ Box (k + n * (m - j)) H' b ∧ ∃ (as : List Addr) (qs : List (Nat × Nat)), H' D = some (.lst (as.map V.ref)) ∧ Prs H' as qs ∧ Calls n qs ∧ qs.length = j)
        ⟨Keep.of_same (same_new nD), (hB2.same (same_new nD)).mono (by rw [Nat.sub_zero]; omega), [], [], upd_same, .nil, fun q hq => by simp at hq, rfl⟩ (fun j H' hj hPv => ?_) (fun H' hPv => ?_)
      · obtain ⟨k3, hB3, as, qs, eD, hA, hc, hql⟩ := hPv
        have hj' := hnm j (by omega)
        refine ⟨rfl, yes_if ⟨_, rfl, _, rfl, b, rl, k + n * (m - (j + 1)), n, ss, rfl, hB3.mono (by omega), .inl (.inl (k3 _ _ f2 eS2)), f4, f5, by omega, f7, fun H4 t x y hxy hy nt et k4 hB4 => ?_⟩⟩
        have eD4 := k4 _ _ bD.symm eD
        have ntD : t ≠ D := fun z => by rw [z, eD4] at et; cases et
        obtain ⟨yb, hyb⟩ := hB3.lst
        refine ⟨_, eD4, small1000 (by rw [List.length_map, hA.length]; omega), fun a o na ha => ?_, hB4.keep (c := D) keep_upd bD, as ++ [t], qs ++ [(x, y)], ?_, ?_, ?_, ?_⟩
        · rw [upd_ne (ne_of_none ha nD)]; exact k4 _ _ na (k3 _ _ na ha)
        · rw [upd_same, List.map_append]; rfl
        · refine prs_append (prs_keep (b := D) keep_upd eD4 (prs_keep k4 hyb hA)) (.cons ?_ .nil)
          rw [upd_ne ntD]; exact et
        · intro q hq
          rcases List.mem_append.mp hq with z | z
          · exact hc q z
          · rw [List.mem_singleton.mp z]; exact ⟨hxy, by show y < n; omega⟩
        · rw [List.length_append, hql]; rfl
      · obtain ⟨k3, hB3, as, qs, eD, hA, hc, hql⟩ := hPv
        exact q H' D as qs hc (by omega) nD0 eD hA (k02.trans k3) (hB3.mono (by omega))
end
end Pc
namespace Pc
open PySem PySem.Spec PyProof.Rows L2 RZ
/-! ### lists of tuples of numbers -/
def Tups (H : Hp) (as : List Addr) (ls : List (List Nat)) : Prop := Paired (fun a l => H a = some (.tup (nv l))) as ls
theorem Tups.length {H : Hp} {as : List Addr} {ls : List (List Nat)} (h : Tups H as ls) : as.length = ls.length := Paired.length h
theorem tups_same {H H' : Hp} (e : Same H H') : ∀ {as : List Addr} {ls : List (List Nat)}, Tups H as ls → Tups H' as ls
  | _, _, .nil => .nil
  | _, _, .cons h r => .cons (e _ _ h) (tups_same e r)
theorem tups_keep {b : Addr} {H H' : Hp} {ys : List V} (k : Keep b H H') (hb : H b = some (.lst ys)) : ∀ {as : List Addr} {ls : List (List Nat)}, Tups H as ls → Tups H' as ls
  | _, _, .nil => .nil
  | _, _, .cons h r => .cons (k.tup hb h) (tups_keep k hb r)
theorem tups_append {H : Hp} : ∀ {as bs : List Addr} {ls ms : List (List Nat)}, Tups H as ls → Tups H bs ms → Tups H (as ++ bs) (ls ++ ms)
  | _, _, _, _, .nil, s => s
  | _, _, _, _, .cons h r, s => .cons h (tups_append r s)
theorem tups_get {H : Hp} : ∀ {as : List Addr} {ls : List (List Nat)} {i : Nat} {a : Addr}, Tups H as ls → as[i]? = some a → ∃ l, ls[i]? = some l ∧ H a = some (.tup (nv l))
  | _, _, _, _, .nil, h => by simp at h
  | _, _, 0, _, .cons (b := p) h _, e => by
    cases Option.some.inj e
    exact ⟨p, rfl, h⟩
  | _, _, i + 1, a, .cons _ r, e => tups_get (i := i) r e
def td (l : List Nat) : PyData := .tuple (nd l)
theorem tups_dp {K : PySem.W.Frag} {H : Hp} : ∀ {as : List Addr} {ls : List (List Nat)}, Tups H as ls → DpAll K H (as.map V.ref) (ls.map td)
  | _, _, .nil => .nil
  | _, _, .cons (b := l) h r => .cons (.tup (.inl (.inl h)) (dp_nats l)) (tups_dp r)
theorem fine_tds {ls : List (List Nat)} {n m : Nat} (h : ∀ l ∈ ls, l.length ≤ m ∧ ∀ i ∈ l, i < 2 ^ 60) (hn : ls.length ≤ n) (hb : n ≤ 100000) (hm : m ≤ 100000) : Fine 2 (n * (m * 63 + 5) + 3) (.list (ls.map td)) :=
  fine_list (fun d hd => by
    obtain ⟨l, hl, rfl⟩ := List.mem_map.mp hd
    exact fine_tup (h l hl).2 (h l hl).1 hm) (by rw [List.length_map]; exact hn) hb
/-- the pairings before the first call and behind each -/
def alongs (qs : List (Nat × Nat)) (ps : List Nat) (i : Nat) : List (List Nat) := (List.range (i + 1)).map fun j => runs (qs.take j) ps
theorem alongs_zero (qs : List (Nat × Nat)) (ps : List Nat) : alongs qs ps 0 = [ps] := rfl
theorem alongs_succ (qs : List (Nat × Nat)) (ps : List Nat) (i : Nat) : alongs qs ps (i + 1) = alongs qs ps i ++ [runs (qs.take (i + 1)) ps] := by
  unfold alongs
  rw [List.range_succ, List.map_append]
  rfl
theorem alongs_len (qs : List (Nat × Nat)) (ps : List Nat) (i : Nat) : (alongs qs ps i).length = i + 1 := by
  unfold alongs
  rw [List.length_map, List.length_range]
theorem alongs_mem {n i : Nat} {qs : List (Nat × Nat)} {ps l : List Nat} (hP : IsPair n ps) (hc : Calls n qs) (h : l ∈ alongs qs ps i) : IsPair n l := by
  obtain ⟨j, _, rfl⟩ := List.mem_map.mp h
  exact runs_pair _ hP (hc.take j)
end Pc
namespace Pc
open PySem PySem.Spec PyProof.Rows L2 RZ
/-! ### sheets as lists of natural numbers -/
/-- the empty sheet of n people -/
def emp (n : Nat) : List Nat := (List.range (2 * n)).map fun e => (e + n) % (2 * n)
theorem emp_len (n : Nat) : (emp n).length = 2 * n := by unfold emp; rw [List.length_map, List.length_range]
theorem emp_get {n e : Nat} (h : e < 2 * n) : (emp n)[e]? = some ((e + n) % (2 * n)) := by
  unfold emp
  rw [List.getElem?_map, List.getElem?_range h]
  rfl
theorem emp_lo {n e : Nat} (h : e < n) : (emp n)[e]? = some (n + e) := by
  rw [emp_get (by omega), Nat.mod_eq_of_lt (by omega), Nat.add_comm]
theorem emp_hi {n e : Nat} (h : e < n) : (emp n)[n + e]? = some e := by
  rw [emp_get (by omega), show n + e + n = e + 1 * (2 * n) by omega, Nat.add_mul_mod_self_right, Nat.mod_eq_of_lt (by omega)]
theorem emp_pair {n : Nat} (hn : 0 < n) : IsPair (2 * n) (emp n) := by
  refine ⟨emp_len n, fun x hx => ?_⟩
  by_cases h : x < n
  · exact ⟨n + x, emp_lo h, by omega, by omega, emp_hi h⟩
  · have e : x = n + (x - n) := by omega
    refine ⟨x - n, ?_, by omega, by omega, ?_⟩
    · have := emp_hi (n := n) (e := x - n) (by omega)
      rw [← e] at this; exact this
    · have := emp_lo (n := n) (e := x - n) (by omega)
      rw [← e] at this; exact this
/-- the calls at the lower ends -/
def low (n : Nat) (qs : List (Nat × Nat)) : List (Nat × Nat) := qs.map fun q => (n + q.1, n + q.2)
theorem low_calls {n : Nat} {qs : List (Nat × Nat)} (h : Calls n qs) : Calls (2 * n) (low n qs) := fun q hq => by
  obtain ⟨r, hr, rfl⟩ := List.mem_map.mp hq
  have := h r hr
  exact ⟨by show n + r.1 < n + r.2; omega, by show n + r.2 < 2 * n; omega⟩
theorem low_take (n : Nat) (qs : List (Nat × Nat)) (i : Nat) : (low n qs).take i = low n (qs.take i) := by unfold low; rw [List.map_take]
theorem low_get {n i : Nat} {qs : List (Nat × Nat)} {q : Nat × Nat} (h : qs[i]? = some q) : (low n qs)[i]? = some (n + q.1, n + q.2) := by
  unfold low; rw [List.getElem?_map, h]; rfl
/-- the sheet with calls added -/
def shw (n : Nat) (qs : List (Nat × Nat)) (fs : List Nat) : List Nat := runs (low n qs) fs
theorem shw_take {n i : Nat} {qs : List (Nat × Nat)} {fs : List Nat} {q : Nat × Nat} (h : qs[i]? = some q) : shw n (qs.take (i + 1)) fs = jn (shw n (qs.take i) fs) (n + q.1) (n + q.2) := by
  unfold shw
  rw [← low_take, ← low_take, runs_take (low_get h)]
theorem shw_pair {n : Nat} {qs : List (Nat × Nat)} {fs : List Nat} (hP : IsPair (2 * n) fs) (h : Calls n qs) : IsPair (2 * n) (shw n qs fs) := runs_pair _ hP (low_calls h)
/-- the other order of the stores -/
theorem jn_alt {n : Nat} {fs : List Nat} (h : IsPair n fs) {a b c d : Nat} (hab : a ≠ b) (ea : fs[a]? = some c) (eb : fs[b]? = some d) (hcb : c ≠ b) : (((fs.set c d).set d c).set a b).set b a = jn fs a b := by
  obtain ⟨x1, x2, x3, x4, l1, l2, l3, l4⟩ := four h hab ea eb hcb
  have hl := h.len
  refine List.ext_getElem? fun z => ?_
  rw [jn_get h hab ea eb hcb]
  by_cases z2 : z = b
  · subst z2
    rw [List.getElem?_set_self (by simp only [List.length_set]; omega), if_neg hab.symm, if_pos rfl]
  · rw [List.getElem?_set_ne (Ne.symm z2)]
    by_cases z1 : z = a
    · subst z1
      rw [List.getElem?_set_self (by simp only [List.length_set]; omega), if_pos rfl]
    · rw [List.getElem?_set_ne (Ne.symm z1), if_neg z1, if_neg z2]
      by_cases z4 : z = d
      · subst z4
        rw [List.getElem?_set_self (by simp only [List.length_set]; omega), if_neg (Ne.symm x4), if_pos rfl]
      · rw [List.getElem?_set_ne (Ne.symm z4)]
        by_cases z3 : z = c
        · subst z3
          rw [List.getElem?_set_self (by omega), if_pos rfl]
        · rw [List.getElem?_set_ne (Ne.symm z3), if_neg z3, if_neg z4]
theorem range_shift (n : Nat) : rgV (n : Int) (2 * (n : Int)) = nv ((List.range n).map fun i => n + i) := by
  unfold rgV nv
  rw [show (2 * (n : Int) - (n : Int)).toNat = n by omega, List.map_map]
  refine List.map_congr_left fun i _ => ?_
  show V.int ((n : Int) + (i : Nat)) = V.int (((n + i : Nat) : Int))
  rw [show (((n + i : Nat) : Int)) = (n : Int) + (i : Nat) by omega]
/-- strands in any order: the upper ends in turn, the lower ends as drawn -/
def SInv (n : Nat) (ls fs : List Nat) (t : Nat) : Prop := fs.length = 2 * n ∧ ∀ j, j < t → ∀ l, ls[j]? = some l → fs[j]? = some l ∧ fs[l]? = some j
theorem SInv.step {n : Nat} {ls fs : List Nat} {t l : Nat} (hp : ls.Perm ((List.range n).map fun i => n + i)) (h : SInv n ls fs t) (hl : ls[t]? = some l) : SInv n ls ((fs.set t l).set l t) (t + 1) := by
  have hln : ls.length = n := by rw [hp.length_eq, List.length_map, List.length_range]
  have hnd : ls.Nodup := hp.nodup_iff.mpr (List.Pairwise.map _ (fun a b (hab : a ≠ b) => show n + a ≠ n + b by omega) List.nodup_range)
  have big : ∀ {j x : Nat}, ls[j]? = some x → n ≤ x ∧ x < 2 * n := fun hx => by
    obtain ⟨i, hi, e⟩ := List.mem_map.mp (hp.mem_iff.mp (List.mem_of_getElem? hx))
    have := List.mem_range.mp hi
    omega
  have ht : t < n := by rw [← hln]; exact get_lt hl
  have hb := big hl
  obtain ⟨h1, h2⟩ := h
  refine ⟨by simp only [List.length_set]; exact h1, fun j hj x hx => ?_⟩
  have hjn : j < n := by rw [← hln]; exact get_lt hx
  have hbx := big hx
  by_cases e : j = t
  · subst e
    cases Option.some.inj (hl.symm.trans hx)
    exact ⟨by rw [List.getElem?_set_ne (by omega), List.getElem?_set_self (by omega)], by rw [List.getElem?_set_self (by simp only [List.length_set]; omega)]⟩
  · obtain ⟨g1, g2⟩ := h2 j (by omega) x hx
    have xl : l ≠ x := fun z => by subst z; exact e (nd_ix hnd hx hl)
    exact ⟨by rw [List.getElem?_set_ne (by omega), List.getElem?_set_ne (by omega)]; exact g1, by rw [List.getElem?_set_ne xl, List.getElem?_set_ne (by omega)]; exact g2⟩
theorem SInv.done {n : Nat} {ls fs : List Nat} (hp : ls.Perm ((List.range n).map fun i => n + i)) (h : SInv n ls fs n) : IsPair (2 * n) fs := by
  have hln : ls.length = n := by rw [hp.length_eq, List.length_map, List.length_range]
  refine ⟨h.1, fun x hx => ?_⟩
  by_cases e : x < n
  · obtain ⟨l, hl⟩ := get_some (l := ls) (i := x) (by omega)
    obtain ⟨i, hi, e'⟩ := List.mem_map.mp (hp.mem_iff.mp (List.mem_of_getElem? hl))
    have := List.mem_range.mp hi
    obtain ⟨g1, g2⟩ := h.2 x e l hl
    exact ⟨l, g1, by omega, by omega, g2⟩
  · have hm : x ∈ ls := hp.mem_iff.mpr (List.mem_map.mpr ⟨x - n, List.mem_range.mpr (by omega), by omega⟩)
    obtain ⟨j, hj, ej⟩ := List.mem_iff_getElem.mp hm
    obtain ⟨g1, g2⟩ := h.2 j (by omega) x (by rw [List.getElem?_eq_getElem hj, ej])
    exact ⟨j, g2, by omega, by omega, g1⟩
theorem emp_step (n i : Nat) (h : i < 2 * n) : (emp n).take (i + 1) = (emp n).take i ++ [(i + n) % (2 * n)] := by
  rw [List.take_add_one, emp_get h]
  rfl
theorem nv_snoc' (l : List Nat) (x : Nat) : nv l ++ [.int (x : Int)] = nv (l ++ [x]) := by
  unfold nv
  rw [List.map_append]; rfl
theorem mod_cast_n (i n : Nat) : ((0 : Int) + (i : Nat) + (n : Int)) % (2 * (n : Int)) = (((i + n) % (2 * n) : Nat) : Int) := by
  have h : (((i + n) % (2 * n) : Nat) : Int) = ((i + n : Nat) : Int) % ((2 * n : Nat) : Int) := Int.natCast_emod _ _
  rw [h, Int.natCast_add, Int.natCast_mul, Int.zero_add]
  rfl
end Pc
namespace Pc
open PySem PySem.Spec PyProof.Rows L2 RZ
/-! ### pairs that are chosen from a range -/
def selN (c : Nat → Bool) (g : Nat → Nat × Nat) (i : Nat) : List (Nat × Nat) := ((List.range i).filter c).map g
theorem selN_yes {c : Nat → Bool} {g : Nat → Nat × Nat} {i : Nat} (h : c i = true) : selN c g (i + 1) = selN c g i ++ [g i] := by
  unfold selN
  rw [List.range_succ, List.filter_append, List.map_append, List.filter_cons_of_pos h, List.filter_nil, List.map_cons, List.map_nil]
theorem selN_no {c : Nat → Bool} {g : Nat → Nat × Nat} {i : Nat} (h : c i = false) : selN c g (i + 1) = selN c g i := by
  unfold selN
  rw [List.range_succ, List.filter_append, List.map_append, List.filter_cons_of_neg (by rw [h]; decide), List.filter_nil, List.map_nil, List.append_nil]
theorem selN_len (c : Nat → Bool) (g : Nat → Nat × Nat) (i : Nat) : (selN c g i).length ≤ i := by
  unfold selN
  rw [List.length_map]
  exact Nat.le_trans (List.length_filter_le _ _) (by rw [List.length_range]; exact Nat.le_refl _)
theorem selN_mem {c : Nat → Bool} {g : Nat → Nat × Nat} {i : Nat} {p : Nat × Nat} : p ∈ selN c g i ↔ ∃ x, x < i ∧ c x = true ∧ g x = p := by
  unfold selN
  rw [List.mem_map]
  constructor
  · rintro ⟨x, hx, e⟩
    have := List.mem_filter.mp hx
    exact ⟨x, List.mem_range.mp this.1, this.2, e⟩
  · rintro ⟨x, h1, h2, e⟩
    exact ⟨x, List.mem_filter.mpr ⟨List.mem_range.mpr h1, h2⟩, e⟩
/-- one more pair is put to the list -/
theorem sel_step {H H1 : Hp} {D u : Addr} {as : List Addr} {c : Nat → Bool} {g : Nat → Nat × Nat} {i : Nat} {v1 v2 : V} (nD : H D = none) (sm : Same H H1) (eD : H1 D = some (.lst (as.map V.ref))) (hA : Prs H1 as (selN c g i)) (hc : c i = true) (nu : H1 u = none)
    (hv : [v1, v2] = [V.int ((g i).1 : Int), V.int ((g i).2 : Int)]) (hi : i ≤ 999) : ∃ acc, (upd H1 u (.tup [v1, v2])) D = some (.lst acc) ∧ acc.length < sizeLine ∧
      (Same H (upd (upd H1 u (.tup [v1, v2])) D (.lst (acc ++ [.ref u]))) ∧ ∃ as' : List Addr, (upd (upd H1 u (.tup [v1, v2])) D (.lst (acc ++ [.ref u]))) D = some (.lst (as'.map V.ref)) ∧ Prs (upd (upd H1 u (.tup [v1, v2])) D (.lst (acc ++ [.ref u]))) as' (selN c g (i + 1))) := by
  have su : Same H1 (upd H1 u (.tup [v1, v2])) := same_new nu
  have nuD : u ≠ D := fun e => by rw [e, eD] at nu; cases nu
  refine ⟨_, su _ _ eD, ?_, fun b' o hb => ?_, as ++ [u], ?_, ?_⟩
  · rw [List.length_map, hA.length]
    have := selN_len c g i
    exact small1000 (by omega)
  · rw [upd_ne (ne_of_none hb nD)]; exact su _ _ (sm _ _ hb)
  · rw [upd_same, List.map_append]; rfl
  · rw [selN_yes hc]
    refine prs_append (prs_keep (b := D) (ys := as.map V.ref) keep_upd (su _ _ eD) (prs_same su hA)) (.cons ?_ .nil)
    rw [upd_ne nuD, upd_same, hv]
theorem ix_sq {K : PySem.W.Frag} {H : Hp} {a : Addr} {xs : List V} {i : Int} {v : V} {Q : VK} (h : Sq K H a xs) (e : atI xs i = some v) (q : Q v H) : rIx K (.ref a) (.int i) H Q :=
  h.elim (fun z => .inl ⟨a, xs, i, v, rfl, rfl, z, e, q⟩) (fun z => .inr (.inl ⟨a, xs, i, v, rfl, rfl, z, e, q⟩))
/-! ### upper pairs, lower pairs, strands -/
def upC (fs : List Nat) (n x : Nat) : Bool := decide (x < fs.getD x 0) && decide (fs.getD x 0 < n)
def upG (fs : List Nat) (x : Nat) : Nat × Nat := (x, fs.getD x 0)
def loC (fs : List Nat) (n x : Nat) : Bool := decide (n + x < fs.getD (n + x) 0)
def loG (fs : List Nat) (n x : Nat) : Nat × Nat := (x, fs.getD (n + x) 0 - n)
def stC (fs : List Nat) (n x : Nat) : Bool := decide (n ≤ fs.getD x 0)
def stG (fs : List Nat) (n x : Nat) : Nat × Nat := (x, fs.getD x 0 - n)
def ups (fs : List Nat) (n : Nat) : List (Nat × Nat) := selN (upC fs n) (upG fs) n
def los (fs : List Nat) (n : Nat) : List (Nat × Nat) := selN (loC fs n) (loG fs n) n
def sts (fs : List Nat) (n : Nat) : List (Nat × Nat) := selN (stC fs n) (stG fs n) n
theorem ups_mem {n : Nat} {fs : List Nat} (h : IsPair (2 * n) fs) {p : Nat × Nat} (hp : p ∈ ups fs n) : fs[p.1]? = some p.2 ∧ p.1 < p.2 ∧ p.2 < n := by
  obtain ⟨x, hx, hc, e⟩ := selN_mem.mp hp
  obtain ⟨y, ey, _⟩ := h.par x (by omega)
  unfold upC at hc
  rw [getD_of ey, Bool.and_eq_true, decide_eq_true_iff, decide_eq_true_iff] at hc
  subst e
  show fs[x]? = some (fs.getD x 0) ∧ x < fs.getD x 0 ∧ fs.getD x 0 < n
  rw [getD_of ey]
  exact ⟨ey, hc.1, hc.2⟩
theorem los_mem {n : Nat} {fs : List Nat} (h : IsPair (2 * n) fs) {p : Nat × Nat} (hp : p ∈ los fs n) : fs[n + p.1]? = some (n + p.2) ∧ p.1 < p.2 ∧ p.2 < n := by
  obtain ⟨x, hx, hc, e⟩ := selN_mem.mp hp
  obtain ⟨y, ey, hy, _⟩ := h.par (n + x) (by omega)
  unfold loC at hc
  rw [getD_of ey, decide_eq_true_iff] at hc
  subst e
  show fs[n + x]? = some (n + (fs.getD (n + x) 0 - n)) ∧ x < fs.getD (n + x) 0 - n ∧ fs.getD (n + x) 0 - n < n
  rw [getD_of ey, show n + (y - n) = y by omega]
  exact ⟨ey, by omega, by omega⟩
theorem sts_mem {n : Nat} {fs : List Nat} (h : IsPair (2 * n) fs) {p : Nat × Nat} (hp : p ∈ sts fs n) : fs[p.1]? = some (n + p.2) ∧ p.1 < n ∧ p.2 < n := by
  obtain ⟨x, hx, hc, e⟩ := selN_mem.mp hp
  obtain ⟨y, ey, hy, _⟩ := h.par x (by omega)
  unfold stC at hc
  rw [getD_of ey, decide_eq_true_iff] at hc
  subst e
  show fs[x]? = some (n + (fs.getD x 0 - n)) ∧ x < n ∧ fs.getD x 0 - n < n
  rw [getD_of ey, show n + (y - n) = y by omega]
  exact ⟨ey, by omega, by omega⟩
/-- all joins of a sheet, as pairs of ends -/
def jns (fs : List Nat) (n : Nat) : List (Nat × Nat) := ups fs n ++ ((los fs n).map (fun p => (n + p.1, n + p.2)) ++ (sts fs n).map (fun p => (p.1, n + p.2)))
theorem jns_ok {n : Nat} {fs : List Nat} (h : IsPair (2 * n) fs) : ∀ p ∈ jns fs n, fs[p.1]? = some p.2 ∧ p.1 < p.2 := fun p hp => by
  rcases List.mem_append.mp hp with z | z
  · have := ups_mem h z; exact ⟨this.1, this.2.1⟩
  · rcases List.mem_append.mp z with z | z
    · obtain ⟨r, hr, rfl⟩ := List.mem_map.mp z
      have := los_mem h hr
      exact ⟨this.1, by show n + r.1 < n + r.2; omega⟩
    · obtain ⟨r, hr, rfl⟩ := List.mem_map.mp z
      have := sts_mem h hr
      exact ⟨this.1, by show r.1 < n + r.2; omega⟩
theorem sel_fst {c : Nat → Bool} {g : Nat → Nat × Nat} {i : Nat} (h : ∀ x, (g x).1 = x) : (selN c g i).map Prod.fst = (List.range i).filter c := by
  unfold selN
  rw [List.map_map]
  conv => rhs; rw [← List.map_id ((List.range i).filter c)]
  exact List.map_congr_left fun x _ => h x
theorem jns_nodup {n : Nat} {fs : List Nat} (h : IsPair (2 * n) fs) : ((jns fs n).map Prod.fst).Nodup := by
  have e1 : (ups fs n).map Prod.fst = (List.range n).filter (upC fs n) := sel_fst fun _ => rfl
  have e2 : ((los fs n).map (fun p => (n + p.1, n + p.2))).map Prod.fst = ((List.range n).filter (loC fs n)).map (fun x => n + x) := by
    rw [← sel_fst (c := loC fs n) (g := loG fs n) (i := n) fun _ => rfl, List.map_map, List.map_map]; rfl
  have e3 : ((sts fs n).map (fun p => (p.1, n + p.2))).map Prod.fst = (List.range n).filter (stC fs n) := by
    rw [← sel_fst (c := stC fs n) (g := stG fs n) (i := n) fun _ => rfl, List.map_map]; rfl
  unfold jns
  rw [List.map_append, List.map_append, e1, e2, e3]
  have nr : (List.range n).Nodup := List.nodup_range
  refine List.nodup_append.mpr ⟨nr.filter _, List.nodup_append.mpr ⟨?_, nr.filter _, fun a ha b hb => ?_⟩, fun a ha b hb => ?_⟩
  · exact List.Pairwise.map _ (fun a b (hab : a ≠ b) => show n + a ≠ n + b by omega) (nr.filter _)
  · obtain ⟨x, _, rfl⟩ := List.mem_map.mp ha
    have := List.mem_range.mp (List.mem_filter.mp hb).1
    omega
  · have ha1 := List.mem_range.mp (List.mem_filter.mp ha).1
    have ha2 := (List.mem_filter.mp ha).2
    unfold upC at ha2
    rw [Bool.and_eq_true, decide_eq_true_iff, decide_eq_true_iff] at ha2
    rcases List.mem_append.mp hb with z | z
    · obtain ⟨x, _, rfl⟩ := List.mem_map.mp z; omega
    · have hb2 := (List.mem_filter.mp z).2
      unfold stC at hb2
      rw [decide_eq_true_iff] at hb2
      intro e; subst e; omega
theorem jns_all {n : Nat} {fs : List Nat} (h : IsPair (2 * n) fs) {z y : Nat} (e : fs[z]? = some y) (hz : z < y) : (z, y) ∈ jns fs n := by
  obtain ⟨_, hy, hz2, _⟩ := h.back e
  unfold jns
  by_cases c : z < n
  · by_cases d : y < n
    · refine List.mem_append.mpr (.inl (selN_mem.mpr ⟨z, c, ?_, ?_⟩))
      · unfold upC; rw [getD_of e, decide_eq_true hz, decide_eq_true d]; rfl
      · unfold upG; rw [getD_of e]
    · refine List.mem_append.mpr (.inr (List.mem_append.mpr (.inr (List.mem_map.mpr ⟨(z, y - n), selN_mem.mpr ⟨z, c, ?_, ?_⟩, ?_⟩))))
      · unfold stC; rw [getD_of e]; exact decide_eq_true (by omega)
      · unfold stG; rw [getD_of e]
      · show (z, n + (y - n)) = (z, y); rw [show n + (y - n) = y by omega]
  · have e' : fs[n + (z - n)]? = some y := by rw [show n + (z - n) = z by omega]; exact e
    refine List.mem_append.mpr (.inr (List.mem_append.mpr (.inl (List.mem_map.mpr ⟨(z - n, y - n), selN_mem.mpr ⟨z - n, by omega, ?_, ?_⟩, ?_⟩))))
    · unfold loC; rw [getD_of e']; exact decide_eq_true (by omega)
    · unfold loG; rw [getD_of e']
    · show (n + (z - n), n + (y - n)) = (z, y); rw [show n + (z - n) = z by omega, show n + (y - n) = y by omega]
/-- the ends of joins in a row -/
def flat : List (Nat × Nat) → List Nat
  | [] => []
  | p :: r => p.1 :: p.2 :: flat r
theorem flat_app : ∀ a b : List (Nat × Nat), flat (a ++ b) = flat a ++ flat b
  | [], _ => rfl
  | p :: r, b => by show p.1 :: p.2 :: flat (r ++ b) = _; rw [flat_app r b]; rfl
theorem flat_mem : ∀ {l : List (Nat × Nat)} {z : Nat}, z ∈ flat l ↔ ∃ p ∈ l, z = p.1 ∨ z = p.2
  | [], z => by simp [flat]
  | p :: r, z => by
    show z ∈ p.1 :: p.2 :: flat r ↔ _
    rw [List.mem_cons, List.mem_cons, flat_mem (l := r)]
    constructor
    · rintro (e | e | ⟨q, hq, e⟩)
      · exact ⟨p, List.mem_cons_self, .inl e⟩
      · exact ⟨p, List.mem_cons_self, .inr e⟩
      · exact ⟨q, List.mem_cons_of_mem _ hq, e⟩
    · rintro ⟨q, hq, e⟩
      rcases List.mem_cons.mp hq with z | z
      · subst z; exact e.elim .inl (fun e => .inr (.inl e))
      · exact .inr (.inr ⟨q, z, e⟩)
theorem flat_len : ∀ l : List (Nat × Nat), (flat l).length = 2 * l.length
  | [] => rfl
  | p :: r => by show (flat r).length + 1 + 1 = 2 * (r.length + 1); rw [flat_len r]; omega
theorem flat_nodup {n : Nat} {fs : List Nat} (h : IsPair n fs) : ∀ {l : List (Nat × Nat)}, (∀ p ∈ l, fs[p.1]? = some p.2 ∧ p.1 < p.2) → (l.map Prod.fst).Nodup → (flat l).Nodup
  | [], _, _ => List.nodup_nil
  | p :: r, ho, hd => by
    have hp := ho p List.mem_cons_self
    obtain ⟨n1, n2⟩ := List.nodup_cons.mp (show (p.1 :: r.map Prod.fst).Nodup from hd)
    have hr : ∀ q ∈ r, fs[q.1]? = some q.2 ∧ q.1 < q.2 := fun q hq => ho q (List.mem_cons_of_mem _ hq)
    have ih := flat_nodup h hr n2
    have bp := (h.back hp.1).1
    have ne1 : ∀ q ∈ r, p.1 ≠ q.1 := fun q hq e => n1 (List.mem_map.mpr ⟨q, hq, e.symm⟩)
    show (p.1 :: p.2 :: flat r).Nodup
    refine List.nodup_cons.mpr ⟨fun hm => ?_, List.nodup_cons.mpr ⟨fun hm => ?_, ih⟩⟩
    · rcases List.mem_cons.mp hm with e | e
      · omega
      · obtain ⟨q, hq, e⟩ := flat_mem.mp e
        have hq' := hr q hq
        rcases e with e | e
        · exact ne1 q hq e
        · have bq := (h.back hq'.1).1
          rw [← e, hp.1] at bq
          have := Option.some.inj bq
          omega
    · obtain ⟨q, hq, e⟩ := flat_mem.mp hm
      have hq' := hr q hq
      rcases e with e | e
      · have e1 := hq'.1
        rw [← e, bp] at e1
        have := Option.some.inj e1
        omega
      · have bq := (h.back hq'.1).1
        rw [← e, bp] at bq
        exact ne1 q hq (Option.some.inj bq)
theorem jns_perm {n : Nat} {fs : List Nat} (h : IsPair (2 * n) fs) : (flat (jns fs n)).Perm (List.range (2 * n)) := by
  refine (List.perm_ext_iff_of_nodup (flat_nodup h (jns_ok h) (jns_nodup h)) List.nodup_range).mpr fun z => ?_
  rw [flat_mem, List.mem_range]
  constructor
  · rintro ⟨p, hp, e⟩
    obtain ⟨b1, b2, b3, _⟩ := h.back (jns_ok h p hp).1
    rcases e with e | e <;> omega
  · intro hz
    obtain ⟨y, ey, hy, hne, eb⟩ := h.par z hz
    by_cases c : z < y
    · exact ⟨_, jns_all h ey c, .inl rfl⟩
    · exact ⟨_, jns_all h eb (by omega), .inr rfl⟩
theorem flat_two {f : Nat → Bool} : ∀ {l : List (Nat × Nat)}, (∀ p ∈ l, f p.1 = true ∧ f p.2 = true) → (flat l).countP f = 2 * l.length
  | [], _ => rfl
  | p :: r, h => by
    have hp := h p List.mem_cons_self
    show (p.1 :: p.2 :: flat r).countP f = _
    rw [List.countP_cons_of_pos hp.1, List.countP_cons_of_pos hp.2, flat_two fun q hq => h q (List.mem_cons_of_mem _ hq), List.length_cons]
    omega
theorem flat_none {f : Nat → Bool} : ∀ {l : List (Nat × Nat)}, (∀ p ∈ l, f p.1 = false ∧ f p.2 = false) → (flat l).countP f = 0
  | [], _ => rfl
  | p :: r, h => by
    have hp := h p List.mem_cons_self
    show (p.1 :: p.2 :: flat r).countP f = _
    rw [List.countP_cons_of_neg (by rw [hp.1]; decide), List.countP_cons_of_neg (by rw [hp.2]; decide), flat_none fun q hq => h q (List.mem_cons_of_mem _ hq)]
theorem flat_one {f : Nat → Bool} : ∀ {l : List (Nat × Nat)}, (∀ p ∈ l, f p.1 = true ∧ f p.2 = false) → (flat l).countP f = l.length
  | [], _ => rfl
  | p :: r, h => by
    have hp := h p List.mem_cons_self
    show (p.1 :: p.2 :: flat r).countP f = _
    rw [List.countP_cons_of_pos hp.1, List.countP_cons_of_neg (by rw [hp.2]; decide), flat_one fun q hq => h q (List.mem_cons_of_mem _ hq), List.length_cons]
theorem range_low (n : Nat) : (List.range (2 * n)).countP (fun z => decide (z < n)) = n := by
  rw [show 2 * n = n + n by omega, List.range_add, List.countP_append, List.countP_eq_length.mpr (fun a ha => decide_eq_true (List.mem_range.mp ha)), List.countP_eq_zero.mpr (fun a ha => ?_), List.length_range, Nat.add_zero]
  obtain ⟨x, _, rfl⟩ := List.mem_map.mp ha
  rw [decide_eq_true_iff]; omega
theorem ups_los {n : Nat} {fs : List Nat} (h : IsPair (2 * n) fs) : (ups fs n).length = (los fs n).length := by
  have hp := jns_perm h
  have hl := hp.length_eq
  have hc := hp.countP_eq (fun z => decide (z < n))
  rw [range_low] at hc
  rw [flat_len, List.length_range] at hl
  unfold jns at hc hl
  rw [List.length_append, List.length_append, List.length_map, List.length_map] at hl
  have x1 : (flat (ups fs n)).countP (fun z => decide (z < n)) = 2 * (ups fs n).length := flat_two fun p hp => by
    have := ups_mem h hp
    exact ⟨decide_eq_true (by omega), decide_eq_true (by omega)⟩
  have x2 : (flat ((los fs n).map (fun p => (n + p.1, n + p.2)))).countP (fun z => decide (z < n)) = 0 := flat_none fun p hp => by
    obtain ⟨r, hr, rfl⟩ := List.mem_map.mp hp
    exact ⟨decide_eq_false (by show ¬ n + r.1 < n; omega), decide_eq_false (by show ¬ n + r.2 < n; omega)⟩
  have x3 : (flat ((sts fs n).map (fun p => (p.1, n + p.2)))).countP (fun z => decide (z < n)) = ((sts fs n).map (fun p => (p.1, n + p.2))).length := flat_one fun p hp => by
    obtain ⟨r, hr, rfl⟩ := List.mem_map.mp hp
    have := sts_mem h hr
    exact ⟨decide_eq_true (by show r.1 < n; omega), decide_eq_false (by show ¬ n + r.2 < n; omega)⟩
  rw [flat_app, flat_app, List.countP_append, List.countP_append, x1, x2, x3, List.length_map] at hc
  omega
end Pc
namespace Pc
open PySem PySem.Spec PyProof.Rows L2 RZ
section
variable {P : Program} {w : World} {K : PySem.W.Frag} {mg : Str → Option Value} {base : Heap}
/-! ### the number of people of a sheet -/
def spPeople (K : PySem.W.Frag) : Sp := fun vs H Q _ => ∃ (a : Addr) (fs : List Nat) (n : Nat), vs = [.ref a] ∧ Sq K H a (nv fs) ∧ fs.length = 2 * n ∧ Q (.int n) H
theorem ok_p_people_of (T : Env K mg) : FnOk P w K mg base CX0 1 T.f_p_people_of T.d_p_people_of ["sheet"] (spPeople K) := by
  refine T.F_p_people_of.ok sc_p_people_of (fun vs H Q E h => ?_) (fun cdv A outer s H vs Q E hr h => ?_)
  · obtain ⟨a, fs, n, rfl, _⟩ := h
    rfl
  · obtain ⟨a, fs, n, rfl, hS, hl, q⟩ := h
    refine ⟨_, pss_one (ps_ret (pe_op op_fdiv (pe_callB call_len_seq (by rfl) T.n_len PySem.boot_len (pa_cons (pv 0) pa_nil)) pe_int)), ?_⟩
    refine ⟨.ref a, rfl, a, _, rfl, hS, _, 2, rfl, rfl, ⟨by decide, by decide⟩, ?_⟩
    show Q (.int (((nv fs).length : Int) / 2)) H
    rw [nv_length, hl, show (((2 * n : Nat) : Int) / 2) = (n : Int) by omega]
    exact q
end
end Pc
namespace Pc
/-! ### ways along a sheet and a pairing -/
/-- nodup numbers below n are n at most -/
theorem few_below : ∀ (n : Nat) (l : List Nat), l.Nodup → (∀ x ∈ l, x < n) → l.length ≤ n
  | 0, l, _, h => by
    cases l with
    | nil => exact Nat.le_refl _
    | cons a r => exact absurd (h a List.mem_cons_self) (Nat.not_lt_zero _)
  | n + 1, l, hd, h => by
    by_cases hm : n ∈ l
    · have h1 : (l.erase n).length = l.length - 1 := List.length_erase_of_mem hm
      have h2 := few_below n (l.erase n) (hd.erase n) (fun x hx => by
        have hx' := (hd.mem_erase_iff).mp hx
        have := h x hx'.2
        have := hx'.1
        omega)
      omega
    · have h2 := few_below n l hd (fun x hx => by
        have := h x hx
        have : x ≠ n := fun e => hm (e ▸ hx)
        omega)
      omega
/-- a function on the first n + 1 numbers into the n first ones takes one value twice -/
theorem pigeon (n : Nat) (f : Nat → Nat) (h : ∀ i, i ≤ n → f i < n) : ∃ i j, i < j ∧ j ≤ n ∧ f i = f j := by
  apply Classical.byContradiction
  intro hn
  have hd : ((List.range (n + 1)).map f).Nodup := by
    rw [List.nodup_iff_pairwise_ne, List.pairwise_map]
    refine List.Pairwise.imp_of_mem ?_ List.pairwise_lt_range
    intro a b ha hb hab e
    exact hn ⟨a, b, hab, by have := List.mem_range.mp hb; omega, e⟩
  have := few_below n _ hd (fun x hx => by
    obtain ⟨i, hi, rfl⟩ := List.mem_map.mp hx
    exact h i (by have := List.mem_range.mp hi; omega))
  rw [List.length_map, List.length_range] at this
  omega
section
variable (fs ps : List Nat) (n : Nat)
/-- the whole way from an end: along the join, along the couple, and so on until a lower end -/
inductive Trail : Nat → List Nat → Prop
  | stop {z : Nat} : n ≤ fs.getD z 0 → Trail z [z, fs.getD z 0]
  | go {z : Nat} {l : List Nat} : fs.getD z 0 < n → Trail (ps.getD (fs.getD z 0) 0) l → Trail z (z :: fs.getD z 0 :: l)
/-- where the steps of a way begin -/
def hop (z : Nat) : Nat → Nat
  | 0 => z
  | k + 1 => ps.getD (fs.getD (hop z k) 0) 0
end
theorem IsPair.d {n : Nat} {ps : List Nat} (h : IsPair n ps) {x : Nat} (hx : x < n) : ps.getD x 0 < n ∧ ps.getD x 0 ≠ x ∧ ps.getD (ps.getD x 0) 0 = x ∧ ps[x]? = some (ps.getD x 0) := by
  obtain ⟨y, h1, h2, h3, h4⟩ := h.par x hx
  rw [getD_of h1]
  exact ⟨h2, h3, getD_of h4, h1⟩
theorem IsPair.inj {n : Nat} {ps : List Nat} (h : IsPair n ps) {x y : Nat} (hx : x < n) (hy : y < n) (e : ps.getD x 0 = ps.getD y 0) : x = y := by
  rw [← (h.d hx).2.2.1, ← (h.d hy).2.2.1, e]
theorem Trail.det {fs ps : List Nat} {n z : Nat} {l m : List Nat} (h : Trail fs ps n z l) : Trail fs ps n z m → l = m := by
  induction h generalizing m with
  | stop h1 => intro h; cases h with
    | stop _ => rfl
    | go h2 _ => omega
  | go h1 _ ih => intro h; cases h with
    | stop h2 => omega
    | go _ h3 => rw [ih h3]
theorem Trail.len {fs ps : List Nat} {n z : Nat} {l : List Nat} (h : Trail fs ps n z l) : 2 ≤ l.length ∧ l.length % 2 = 0 ∧ n ≤ l.getLastD 0 := by
  induction h with
  | stop h1 => exact ⟨Nat.le_refl _, by simp only [List.length_cons, List.length_nil], h1⟩
  | @go z l h1 _ ih =>
    refine ⟨by simp only [List.length_cons]; omega, by simp only [List.length_cons]; omega, ?_⟩
    cases l with
    | nil => exact absurd ih.1 (by decide)
    | cons a r => exact ih.2.2
theorem hop_step (fs ps : List Nat) (z k : Nat) : hop fs ps (ps.getD (fs.getD z 0) 0) k = hop fs ps z (k + 1) := by
  induction k with
  | zero => rfl
  | succ k ih => rw [hop, ih]; rfl
theorem trail_of {fs ps : List Nat} {n : Nat} : ∀ (m z : Nat), n ≤ fs.getD (hop fs ps z m) 0 → ∃ l, Trail fs ps n z l ∧ l.length ≤ 2 * m + 2
  | 0, z, h => ⟨_, .stop h, Nat.le_refl _⟩
  | m + 1, z, h => by
    by_cases c : fs.getD z 0 < n
    · obtain ⟨l, h1, h2⟩ := trail_of m (ps.getD (fs.getD z 0) 0) (by rw [hop_step]; exact h)
      exact ⟨_, .go c h1, by simp only [List.length_cons]; omega⟩
    · exact ⟨_, .stop (by omega), by simp only [List.length_cons, List.length_nil]; omega⟩
/-- every way from a lower end comes to a lower end -/
theorem trail_ex {fs ps : List Nat} {n : Nat} (hF : IsPair (2 * n) fs) (hP : IsPair n ps) {z : Nat} (hz : n ≤ z) (hz2 : z < 2 * n) : ∃ l, Trail fs ps n z l ∧ l.length ≤ 2 * n + 2 := by
  apply Classical.byContradiction
  intro hn
  have small : ∀ k, k ≤ n → fs.getD (hop fs ps z k) 0 < n := fun k hk => by
    apply Classical.byContradiction
    intro h
    obtain ⟨l, h1, h2⟩ := trail_of (fs := fs) (ps := ps) (n := n) k z (by omega)
    exact hn ⟨l, h1, by omega⟩
  have hl : ∀ k, k ≤ n → hop fs ps z k < 2 * n ∧ (0 < k → hop fs ps z k < n) := fun k hk => by
    cases k with
    | zero => exact ⟨hz2, fun h => absurd h (Nat.lt_irrefl _)⟩
    | succ k =>
      have := (hP.d (small k (by omega))).1
      exact ⟨by show ps.getD _ 0 < 2 * n; omega, fun _ => this⟩
  have diff : ∀ i j, i < j → j ≤ n → hop fs ps z i ≠ hop fs ps z j := fun i => by
    induction i with
    | zero =>
      intro j hj hn2 e
      have := (hl j hn2).2 hj
      have e' : z = hop fs ps z j := e
      omega
    | succ i ih =>
      intro j hj hn2 e
      cases j with
      | zero => omega
      | succ j =>
        have e1 : fs.getD (hop fs ps z i) 0 = fs.getD (hop fs ps z j) 0 := hP.inj (small i (by omega)) (small j (by omega)) e
        exact ih j (by omega) (by omega) (hF.inj (hl i (by omega)).1 (hl j (by omega)).1 e1)
  obtain ⟨i, j, h1, h2, h3⟩ := pigeon n (fun k => fs.getD (hop fs ps z k) 0) small
  exact diff i j h1 h2 (hF.inj (hl i (by omega)).1 (hl j h2).1 h3)
/-- the way of a lower end, and where it ends -/
noncomputable def trl (fs ps : List Nat) (n z : Nat) : List Nat := open Classical in if h : ∃ l, Trail fs ps n z l then h.choose else []
noncomputable def far (fs ps : List Nat) (n z : Nat) : Nat := (trl fs ps n z).getLastD 0
theorem Trail.eq {fs ps : List Nat} {n z : Nat} {l : List Nat} (h : Trail fs ps n z l) : trl fs ps n z = l := by
  unfold trl
  rw [dif_pos ⟨l, h⟩]
  exact (Exists.choose_spec (⟨l, h⟩ : ∃ l, Trail fs ps n z l)).det h
theorem trl_trail {fs ps : List Nat} {n : Nat} (hF : IsPair (2 * n) fs) (hP : IsPair n ps) {z : Nat} (hz : n ≤ z) (hz2 : z < 2 * n) : Trail fs ps n z (trl fs ps n z) ∧ (trl fs ps n z).length ≤ 2 * n + 2 := by
  obtain ⟨l, h1, h2⟩ := trail_ex hF hP hz hz2
  rw [h1.eq]; exact ⟨h1, h2⟩
/-- what is read -/
noncomputable def rd (fs ps : List Nat) (n : Nat) : List Nat := (List.range n).map fun x => far fs ps n (n + x) - n
end Pc
namespace Pc
theorem lastc {l : List Nat} (h : 2 ≤ l.length) (a b d : Nat) : (a :: b :: l).getLastD d = l.getLastD d := by
  cases l with
  | nil => exact absurd h (by decide)
  | cons x r => rfl
theorem Trail.last {fs ps : List Nat} {n z : Nat} {l : List Nat} (hF : IsPair (2 * n) fs) (hP : IsPair n ps) (h : Trail fs ps n z l) : z < 2 * n → l.getLastD 0 < 2 * n := by
  induction h with
  | @stop z h1 => intro hz; exact (hF.d hz).1
  | @go z l h1 h2 ih =>
    intro hz
    rw [lastc h2.len.1]
    have := (hP.d h1).1
    exact ih (by omega)
theorem Trail.rev {fs ps : List Nat} {n z : Nat} {l : List Nat} (hF : IsPair (2 * n) fs) (hP : IsPair n ps) (h : Trail fs ps n z l) : z < 2 * n → ∀ t : List Nat, (n ≤ z → t = []) → (z < n → Trail fs ps n (ps.getD z 0) t) → Trail fs ps n (l.getLastD 0) (l.reverse ++ t) := by
  have one : ∀ {z : Nat} {t : List Nat}, z < 2 * n → (n ≤ z → t = []) → (z < n → Trail fs ps n (ps.getD z 0) t) → Trail fs ps n (fs.getD z 0) (fs.getD z 0 :: z :: t) := fun {z t} hz h1 h2 => by
    have e := (hF.d hz).2.2.1
    by_cases c : z < n
    · have := Trail.go (fs := fs) (ps := ps) (n := n) (z := fs.getD z 0) (l := t) (by rw [e]; exact c) (by rw [e]; exact h2 c)
      rw [e] at this; exact this
    · rw [h1 (by omega)]
      have := Trail.stop (fs := fs) (ps := ps) (n := n) (z := fs.getD z 0) (by rw [e]; omega)
      rw [e] at this; exact this
  induction h with
  | @stop z h1 => intro hz t a b; exact one hz a b
  | @go z l h1 h2 ih =>
    intro hz t a b
    have hz' := hP.d h1
    rw [lastc h2.len.1]
    have := ih (by omega) (fs.getD z 0 :: z :: t) (fun x => by omega) (fun _ => by rw [hz'.2.2.1]; exact one hz a b)
    simp only [List.reverse_cons, List.append_assoc, List.cons_append, List.nil_append]
    exact this
theorem Trail.back {fs ps : List Nat} {n z : Nat} {l : List Nat} (hF : IsPair (2 * n) fs) (hP : IsPair n ps) (h : Trail fs ps n z l) (hz : n ≤ z) (hz2 : z < 2 * n) : Trail fs ps n (l.getLastD 0) l.reverse := by
  have := h.rev hF hP hz2 [] (fun _ => rfl) (fun h => by omega)
  rw [List.append_nil] at this; exact this
theorem Trail.head {fs ps : List Nat} {n z : Nat} {l : List Nat} (h : Trail fs ps n z l) : l[0]? = some z := by
  cases h <;> rfl
theorem Trail.adj {fs ps : List Nat} {n z : Nat} {l : List Nat} (hF : IsPair (2 * n) fs) (hP : IsPair n ps) (h : Trail fs ps n z l) : z < 2 * n → ∀ i x, l[i]? = some x → l[i + 1]? ≠ some x := by
  induction h with
  | @stop z h1 =>
    intro hz i x h1 h2
    have hi : i + 1 < 2 := get_lt h2
    have : i = 0 := by omega
    subst this
    have e1 : z = x := Option.some.inj h1
    have e2 : fs.getD z 0 = x := Option.some.inj h2
    exact (hF.d hz).2.1 (e2.trans e1.symm)
  | @go z l h1 h2 ih =>
    intro hz i x g1 g2
    have hz' := hP.d h1
    cases i with
    | zero =>
      have e1 : z = x := Option.some.inj g1
      have e2 : fs.getD z 0 = x := Option.some.inj g2
      exact (hF.d hz).2.1 (e2.trans e1.symm)
    | succ i =>
      cases i with
      | zero =>
        have e1 : fs.getD z 0 = x := Option.some.inj g1
        have e2 : some (ps.getD (fs.getD z 0) 0) = some x := h2.head.symm.trans g2
        exact hz'.2.1 ((Option.some.inj e2).trans e1.symm)
      | succ i => exact ih (by omega) i x g1 g2
theorem last_get {l : List Nat} (h : 0 < l.length) : l[l.length - 1]? = some (l.getLastD 0) := by
  cases l with
  | nil => exact absurd h (by decide)
  | cons a r => rw [← List.getLast?_eq_getElem?, List.getLast?_eq_some_getLast (List.cons_ne_nil a r), List.getLastD_cons, ← List.getLast_eq_getLastD (h := List.cons_ne_nil a r)]
theorem far_is {fs ps : List Nat} {n z : Nat} {l : List Nat} (h : Trail fs ps n z l) : far fs ps n z = l.getLastD 0 := by
  unfold far; rw [h.eq]
theorem far_d {fs ps : List Nat} {n : Nat} (hF : IsPair (2 * n) fs) (hP : IsPair n ps) {z : Nat} (hz : n ≤ z) (hz2 : z < 2 * n) : n ≤ far fs ps n z ∧ far fs ps n z < 2 * n ∧ far fs ps n (far fs ps n z) = z ∧ far fs ps n z ≠ z := by
  obtain ⟨l, h1, _⟩ := trail_ex hF hP hz hz2
  have hb := h1.back hF hP hz hz2
  have hl := h1.len
  have e := far_is h1
  have e2 := far_is hb
  rw [e, e2]
  refine ⟨hl.2.2, h1.last hF hP hz2, ?_, fun c => ?_⟩
  · have g := last_get (l := l.reverse) (by rw [List.length_reverse]; omega)
    rw [List.length_reverse, List.getElem?_reverse (by omega), show l.length - 1 - (l.length - 1) = 0 by omega, h1.head] at g
    exact (Option.some.inj g).symm
  · rw [c] at hb
    have e3 : l = l.reverse := h1.det hb
    obtain ⟨k, hk⟩ : ∃ k, l.length = 2 * k := ⟨l.length / 2, by omega⟩
    have g1 : l[k - 1]? = l[k]? := by
      have g : l[k - 1]? = l.reverse[k - 1]? := congrArg (fun (m : List Nat) => m[k - 1]?) e3
      rw [List.getElem?_reverse (by omega), show l.length - 1 - (k - 1) = k by omega] at g
      exact g
    have lt : k - 1 < l.length := by omega
    exact h1.adj hF hP hz2 (k - 1) l[k - 1] (List.getElem?_eq_getElem lt) (by rw [show k - 1 + 1 = k by omega, ← g1]; exact List.getElem?_eq_getElem lt)
theorem rd_len (fs ps : List Nat) (n : Nat) : (rd fs ps n).length = n := by unfold rd; rw [List.length_map, List.length_range]
theorem rd_get (fs ps : List Nat) {n x : Nat} (h : x < n) : (rd fs ps n)[x]? = some (far fs ps n (n + x) - n) := by
  unfold rd; rw [List.getElem?_map, List.getElem?_range h]; rfl
theorem rd_pair {fs ps : List Nat} {n : Nat} (hF : IsPair (2 * n) fs) (hP : IsPair n ps) : IsPair n (rd fs ps n) := by
  refine ⟨rd_len _ _ _, fun x hx => ?_⟩
  obtain ⟨h1, h2, h3, h4⟩ := far_d hF hP (z := n + x) (by omega) (by omega)
  refine ⟨_, rd_get fs ps hx, by omega, by omega, ?_⟩
  rw [rd_get fs ps (by omega), show n + (far fs ps n (n + x) - n) = far fs ps n (n + x) by omega, h3, show n + x - n = x by omega]
/-- a sheet that differs only at four ends -/
structure Near (fs gs : List Nat) (n A B c d : Nat) : Prop where
  la : n ≤ A
  lb : n ≤ B
  ab : A ≠ B
  fc : fs.getD c 0 = A
  un : ∀ z, fs.getD z 0 = A → z = c
  fd : fs.getD d 0 = B
  fb : fs.getD B 0 = d
  gc : gs.getD c 0 = d
  eq : ∀ z, z ≠ A → z ≠ B → z ≠ c → z ≠ d → gs.getD z 0 = fs.getD z 0
theorem Trail.near {fs gs ps : List Nat} {n A B c d z : Nat} {l : List Nat} (hP : IsPair n ps) (N : Near fs gs n A B c d) (h : Trail fs ps n z l) : z ≠ A → z ≠ B → l.getLastD 0 ≠ A → l.getLastD 0 ≠ B → Trail gs ps n z l := by
  have la := N.la
  have lb := N.lb
  induction h with
  | @stop z h1 =>
    intro hA hB eA eB
    have e : gs.getD z 0 = fs.getD z 0 := N.eq z hA hB (fun e => eA (by rw [e]; exact N.fc)) (fun e => eB (by rw [e]; exact N.fd))
    rw [← e]; exact .stop (by rw [e]; exact h1)
  | @go z l h1 h2 ih =>
    intro hA hB eA eB
    rw [lastc h2.len.1] at eA eB
    have e : gs.getD z 0 = fs.getD z 0 := N.eq z hA hB (fun e => by rw [e, N.fc] at h1; omega) (fun e => by rw [e, N.fd] at h1; omega)
    have hz' := (hP.d h1).1
    have t := ih (by omega) (by omega) eA eB
    rw [← e] at h1 t ⊢
    exact .go h1 t
theorem Trail.over {fs gs ps : List Nat} {n A B c d z : Nat} {l m : List Nat} (hP : IsPair n ps) (N : Near fs gs n A B c d) (hm : Trail fs ps n B m) (mA : m.getLastD 0 ≠ A) (mB : m.getLastD 0 ≠ B) (h : Trail fs ps n z l) : z ≠ A → z ≠ B → l.getLastD 0 = A → ∃ k, Trail gs ps n z k ∧ k.getLastD 0 = m.getLastD 0 := by
  have la := N.la
  have lb := N.lb
  have fb := N.fb
  induction h with
  | @stop z h1 =>
    intro hA hB eA
    by_cases zc : z = c
    · subst zc
      cases hm with
      | stop h => 
        refine ⟨_, .stop (by rw [N.gc, ← fb]; exact h), ?_⟩
        rw [N.gc, ← fb]; rfl
      | @go _ m h h2 =>
        rw [lastc h2.len.1] at mA mB ⊢
        rw [fb] at h h2
        have := hP.d h
        refine ⟨_, .go (by rw [N.gc]; exact h) (by rw [N.gc]; exact h2.near hP N (by omega) (by omega) mA mB), ?_⟩
        rw [lastc h2.len.1]
    · exact absurd (N.un z eA) zc
  | @go z l h1 h2 ih =>
    intro hA hB eA
    rw [lastc h2.len.1] at eA
    have e : gs.getD z 0 = fs.getD z 0 := N.eq z hA hB (fun e => by rw [e, N.fc] at h1; omega) (fun e => by rw [e, N.fd] at h1; omega)
    have hz' := (hP.d h1).1
    obtain ⟨k, t1, t2⟩ := ih (by omega) (by omega) eA
    rw [← e] at h1 t1
    refine ⟨_, .go h1 t1, ?_⟩
    rw [lastc t1.len.1]; exact t2

theorem jn_near {fs : List Nat} {n A B : Nat} (hF : IsPair (2 * n) fs) (hA : n ≤ A) (hB : n ≤ B) (hA2 : A < 2 * n) (hB2 : B < 2 * n) (hab : A ≠ B) (hc : fs.getD A 0 ≠ B) : Near fs (jn fs A B) n A B (fs.getD A 0) (fs.getD B 0) ∧ Near fs (jn fs A B) n B A (fs.getD B 0) (fs.getD A 0) ∧ (jn fs A B).getD A 0 = B ∧ (jn fs A B).getD B 0 = A := by
  obtain ⟨a1, a2, a3, a4⟩ := hF.d hA2
  obtain ⟨b1, b2, b3, b4⟩ := hF.d hB2
  have G := jn_get hF hab a4 b4 hc
  obtain ⟨x1, x2, x3, x4, _⟩ := four hF hab a4 b4 hc
  have D : ∀ z, (jn fs A B).getD z 0 = ((jn fs A B)[z]?).getD 0 := fun z => List.getD_eq_getElem?_getD
  have un : ∀ {X : Nat}, n ≤ X → X < 2 * n → ∀ z, fs.getD z 0 = X → z = fs.getD X 0 := fun {X} h1 h2 z e => by
    by_cases hz : z < 2 * n
    · rw [← e, (hF.d hz).2.2.1]
    · rw [List.getD_eq_getElem?_getD, List.getElem?_eq_none (by rw [hF.len]; omega)] at e
      have e' : 0 = X := e
      omega
  have E : ∀ z, z ≠ A → z ≠ B → z ≠ fs.getD A 0 → z ≠ fs.getD B 0 → (jn fs A B).getD z 0 = fs.getD z 0 := fun z h1 h2 h3 h4 => by
    rw [D, G, if_neg h1, if_neg h2, if_neg h3, if_neg h4, ← List.getD_eq_getElem?_getD]
  refine ⟨⟨hA, hB, hab, a3, un hA hA2, b3, rfl, ?_, E⟩, ⟨hB, hA, hab.symm, b3, un hB hB2, a3, rfl, ?_, fun z h1 h2 h3 h4 => E z h2 h1 h4 h3⟩, ?_, ?_⟩
  · rw [D, G, if_neg x1, if_neg hc, if_pos rfl]; rfl
  · rw [D, G, if_neg x3, if_neg x2, if_neg (Ne.symm x4), if_pos rfl]; rfl
  · rw [D, G, if_pos rfl]; rfl
  · rw [D, G, if_neg hab.symm, if_pos rfl]; rfl
theorem IsPair.ofd {fs : List Nat} {n x y : Nat} (h : IsPair n fs) (hx : x < n) (e : fs.getD x 0 = y) : fs[x]? = some y := by
  rw [← e]; exact (h.d hx).2.2.2
/-- a call added to a sheet is a call behind what is read -/
theorem rd_jn {fs ps : List Nat} {n a b : Nat} (hF : IsPair (2 * n) fs) (hP : IsPair n ps) (hab : a ≠ b) (ha : a < n) (hb : b < n) : rd (jn fs (n + a) (n + b)) ps n = jn (rd fs ps n) a b := by
  have hR := rd_pair hF hP
  by_cases hc : fs.getD (n + a) 0 = n + b
  · rw [jn_same (hF.ofd (by omega) hc)]
    have t : Trail fs ps n (n + a) [n + a, n + b] := by
      have := Trail.stop (fs := fs) (ps := ps) (n := n) (z := n + a) (by rw [hc]; omega)
      rw [hc] at this; exact this
    refine (jn_same ?_).symm
    rw [rd_get fs ps ha, far_is t]
    show some (n + b - n) = some b
    rw [Nat.add_sub_cancel_left]
  · obtain ⟨N1, N2, gA, gB⟩ := jn_near hF (A := n + a) (B := n + b) (by omega) (by omega) (by omega) (by omega) (by omega) hc
    have hF' : IsPair (2 * n) (jn fs (n + a) (n + b)) := jn_pair hF (by omega) (by omega) (by omega)
    have fA := far_d hF hP (z := n + a) (by omega) (by omega)
    have fB := far_d hF hP (z := n + b) (by omega) (by omega)
    have tA : Trail (jn fs (n + a) (n + b)) ps n (n + a) [n + a, n + b] := by
      have := Trail.stop (fs := jn fs (n + a) (n + b)) (ps := ps) (n := n) (z := n + a) (by rw [gA]; omega)
      rw [gA] at this; exact this
    have tB : Trail (jn fs (n + a) (n + b)) ps n (n + b) [n + b, n + a] := by
      have := Trail.stop (fs := jn fs (n + a) (n + b)) (ps := ps) (n := n) (z := n + b) (by rw [gB]; omega)
      rw [gB] at this; exact this
    obtain ⟨lA, hlA, _⟩ := trail_ex hF hP (z := n + a) (by omega) (by omega)
    obtain ⟨lB, hlB, _⟩ := trail_ex hF hP (z := n + b) (by omega) (by omega)
    have eA := far_is hlA
    have eB := far_is hlB
    have ga := rd_get fs ps ha
    have gb := rd_get fs ps hb
    refine List.ext_getElem? fun x => ?_
    by_cases hx : x < n
    · rw [rd_get _ ps hx]
      have fX := far_d hF hP (z := n + x) (by omega) (by omega)
      obtain ⟨lX, hlX, _⟩ := trail_ex hF hP (z := n + x) (by omega) (by omega)
      have eX := far_is hlX
      by_cases xa : x = a
      · subst xa
        rw [far_is tA, show [n + x, n + b].getLastD 0 - n = b by show n + b - n = b; omega]
        by_cases c : far fs ps n (n + x) - n = b
        · rw [jn_same (by rw [rd_get fs ps hx, c]), rd_get fs ps hx, c]
        · rw [jn_get hR hab ga gb c, if_pos rfl]
      · by_cases xb : x = b
        · subst xb
          rw [far_is tB, show [n + x, n + a].getLastD 0 - n = a by show n + a - n = a; omega]
          by_cases c : far fs ps n (n + a) - n = x
          · rw [jn_same (by rw [rd_get fs ps ha, c]), rd_get fs ps hx, show n + x = far fs ps n (n + a) by omega, fA.2.2.1, Nat.add_sub_cancel_left]
          · rw [jn_get hR hab ga gb c, if_neg (Ne.symm hab), if_pos rfl]
        · by_cases yA : far fs ps n (n + x) = n + a
          · -- the way of x came to a
            have e1 : far fs ps n (n + a) = n + x := by rw [← yA]; exact fX.2.2.1
            have e2 : far fs ps n (n + b) ≠ n + a := fun z => by
              have := fB.2.2.1
              rw [z, e1] at this; omega
            obtain ⟨k, k1, k2⟩ := Trail.over hP N1 hlB (by rw [← eB]; exact e2) (by rw [← eB]; exact fB.2.2.2) hlX (by omega) (by omega) (by rw [← eX]; exact yA)
            rw [far_is k1, k2, ← eB, jn_get hR hab ga gb (by omega), if_neg xa, if_neg xb, if_pos (by omega)]
          · by_cases yB : far fs ps n (n + x) = n + b
            · have e1 : far fs ps n (n + b) = n + x := by rw [← yB]; exact fX.2.2.1
              have e2 : far fs ps n (n + a) ≠ n + b := fun z => by
                have := fA.2.2.1
                rw [z, e1] at this; omega
              obtain ⟨k, k1, k2⟩ := Trail.over hP N2 hlA (by rw [← eA]; exact e2) (by rw [← eA]; exact fA.2.2.2) hlX (by omega) (by omega) (by rw [← eX]; exact yB)
              have e3 : far fs ps n (n + a) ≠ n + x := fun z => by
                have := fA.2.2.1
                rw [z, yB] at this; omega
              rw [far_is k1, k2, ← eA, jn_get hR hab ga gb (by omega), if_neg xa, if_neg xb, if_neg (by omega), if_pos (by omega)]
            · have t := hlX.near hP N1 (by omega) (by omega) (by rw [← eX]; exact yA) (by rw [← eX]; exact yB)
              rw [far_is t, ← eX, ← rd_get fs ps hx]
              by_cases c : far fs ps n (n + a) - n = b
              · rw [jn_same (by rw [rd_get fs ps ha, c])]
              · have e1 : far fs ps n (n + a) ≠ n + x := fun z => by
                  have := fA.2.2.1
                  rw [z] at this; exact yA this
                have e2 : far fs ps n (n + b) ≠ n + x := fun z => by
                  have := fB.2.2.1
                  rw [z] at this; exact yB this
                rw [jn_get hR hab ga gb c, if_neg xa, if_neg xb, if_neg (by omega), if_neg (by omega)]
    · rw [List.getElem?_eq_none (by rw [rd_len]; omega), List.getElem?_eq_none (by rw [jn_len, rd_len]; omega)]
end Pc
namespace Pc
theorem rd_emp {ps : List Nat} {n : Nat} (hn : 0 < n) (hP : IsPair n ps) : rd (emp n) ps n = ps := by
  refine List.ext_getElem? fun x => ?_
  by_cases hx : x < n
  · obtain ⟨h1, _, _, h4⟩ := hP.d hx
    have e1 : (emp n).getD (n + x) 0 = x := getD_of (emp_hi hx)
    have e2 : (emp n).getD (ps.getD x 0) 0 = n + ps.getD x 0 := getD_of (emp_lo h1)
    have t2 := Trail.stop (fs := emp n) (ps := ps) (n := n) (z := ps.getD x 0) (by rw [e2]; omega)
    have t := Trail.go (fs := emp n) (ps := ps) (n := n) (z := n + x) (by rw [e1]; exact hx) (by rw [e1]; exact t2)
    rw [rd_get _ ps hx, far_is t, h4]
    show some ((emp n).getD (ps.getD x 0) 0 - n) = _
    rw [e2, Nat.add_sub_cancel_left]
  · rw [List.getElem?_eq_none (by rw [rd_len]; omega), List.getElem?_eq_none (by rw [hP.len]; omega)]
theorem rd_runs {n : Nat} {ps : List Nat} (hP : IsPair n ps) : ∀ (qs : List (Nat × Nat)) {fs : List Nat}, IsPair (2 * n) fs → Calls n qs → rd (shw n qs fs) ps n = runs qs (rd fs ps n)
  | [], _, _, _ => rfl
  | q :: r, fs, hF, hc => by
    have h1 := hc q List.mem_cons_self
    have h2 := rd_runs hP r (jn_pair hF (a := n + q.1) (b := n + q.2) (by omega) (by omega) (by omega)) (fun x hx => hc x (List.mem_cons_of_mem _ hx))
    rw [rd_jn hF hP (by omega) (by omega) h1.2] at h2
    exact h2
/-- guarantee (a) -/
theorem rd_word {n : Nat} {ps : List Nat} {qs : List (Nat × Nat)} (hn : 0 < n) (hP : IsPair n ps) (hc : Calls n qs) : rd (shw n qs (emp n)) ps n = runs qs ps := by
  rw [rd_runs hP qs (emp_pair hn) hc, rd_emp hn hP]
end Pc
namespace Pc
/-! ### walks along layers: a layer of m upper and n lower ends joins them in pairs -/
section
variable {S Y : Type} (step : S → S ⊕ Y)
inductive Ends : S → Y → Prop
  | stop {s : S} {y : Y} : step s = .inr y → Ends s y
  | go {s t : S} {y : Y} : step s = .inl t → Ends t y → Ends s y
/-- where a walk is after i steps -/
def itr (s : S) : Nat → S
  | 0 => s
  | i + 1 => match step (itr s i) with
    | .inl t => t
    | .inr _ => itr s i
end
theorem Ends.det {S Y : Type} {step : S → S ⊕ Y} {s : S} {x y : Y} (h : Ends step s x) : Ends step s y → x = y := by
  induction h with
  | stop h1 => intro h; cases h with
    | stop h2 => rw [h1] at h2; exact Sum.inr.inj h2
    | go h2 _ => rw [h1] at h2; cases h2
  | go h1 _ ih => intro h; cases h with
    | stop h2 => rw [h1] at h2; cases h2
    | go h2 h3 => rw [h1] at h2; cases h2; exact ih h3
theorem itr_step {S Y : Type} {step : S → S ⊕ Y} {s t : S} (h : step s = .inl t) : ∀ i, itr step t i = itr step s (i + 1)
  | 0 => by show t = (match step s with | .inl t => t | .inr _ => s); rw [h]
  | i + 1 => by
    show (match step (itr step t i) with | .inl t => t | .inr _ => itr step t i) = (match step (itr step s (i + 1)) with | .inl t => t | .inr _ => itr step s (i + 1))
    rw [itr_step h i]
theorem itr_succ {S Y : Type} {step : S → S ⊕ Y} {s t : S} {i : Nat} (h : step (itr step s i) = .inl t) : itr step s (i + 1) = t := by
  show (match step (itr step s i) with | .inl t => t | .inr _ => itr step s i) = t
  rw [h]
theorem Ends.nth {S Y : Type} {step : S → S ⊕ Y} {s : S} {y : Y} (h : Ends step s y) : ∃ m, (∀ i, i < m → step (itr step s i) = .inl (itr step s (i + 1))) ∧ step (itr step s m) = .inr y := by
  induction h with
  | stop h => exact ⟨0, fun i hi => absurd hi (Nat.not_lt_zero _), h⟩
  | go h _ ih =>
    obtain ⟨m, h1, h2⟩ := ih
    refine ⟨m + 1, fun i hi => ?_, by rw [← itr_step h]; exact h2⟩
    cases i with
    | zero => rw [← itr_step h 0]; exact h
    | succ i =>
      have := h1 i (by omega)
      rw [itr_step h, itr_step h] at this; exact this
theorem ends_of {S Y : Type} {step : S → S ⊕ Y} : ∀ (m : Nat) (s : S) (y : Y), step (itr step s m) = .inr y → ∃ z, Ends step s z
  | 0, s, y, h => ⟨y, .stop h⟩
  | m + 1, s, y, h => by
    cases e : step s with
    | inr z => exact ⟨z, .stop e⟩
    | inl t =>
      obtain ⟨z, hz⟩ := ends_of m t y (by rw [itr_step e]; exact h)
      exact ⟨z, .go e hz⟩
/-- the step of a walk along a layer f, of m and n ends, and a layer g behind it -/
def cstep (f g : List Nat) (m n : Nat) : Bool × Nat → (Bool × Nat) ⊕ Nat
  | (true, z) => if f.getD z 0 < m then .inr (f.getD z 0) else .inl (false, f.getD z 0 - m)
  | (false, z) => if g.getD z 0 < n then .inl (true, m + g.getD z 0) else .inr (m + (g.getD z 0 - n))
def cst (m n e : Nat) : Bool × Nat := if e < m then (true, e) else (false, n + (e - m))
theorem cs_tl {f g : List Nat} {m n z : Nat} (h : f.getD z 0 < m) : cstep f g m n (true, z) = .inr (f.getD z 0) := if_pos h
theorem cs_tg {f g : List Nat} {m n z : Nat} (h : m ≤ f.getD z 0) : cstep f g m n (true, z) = .inl (false, f.getD z 0 - m) := if_neg (by omega)
theorem cs_fl {f g : List Nat} {m n z : Nat} (h : g.getD z 0 < n) : cstep f g m n (false, z) = .inl (true, m + g.getD z 0) := if_pos h
theorem cs_fg {f g : List Nat} {m n z : Nat} (h : n ≤ g.getD z 0) : cstep f g m n (false, z) = .inr (m + (g.getD z 0 - n)) := if_neg (by omega)
def opp (f g : List Nat) : Bool × Nat → Bool × Nat
  | (true, z) => (true, f.getD z 0)
  | (false, z) => (false, g.getD z 0)
/-- the states of a walk -/
def Val (m n k : Nat) : Bool × Nat → Prop
  | (true, z) => z < m + n
  | (false, z) => z < n + k
section
variable {f g : List Nat} {m n k : Nat} (hf : IsPair (m + n) f) (hg : IsPair (n + k) g)
include hf hg
theorem cs_val {s t : Bool × Nat} (hs : Val m n k s) (h : cstep f g m n s = .inl t) : Val m n k t ∧ (t = (true, t.2) ∧ m ≤ t.2 ∨ t = (false, t.2) ∧ t.2 < n) ∧ t.1 = !s.1 ∧ cstep f g m n (opp f g t) = .inl (opp f g s) := by
  obtain ⟨b, z⟩ := s
  cases b with
  | true =>
    have hz : z < m + n := hs
    by_cases c : f.getD z 0 < m
    · rw [cs_tl c] at h; cases h
    · rw [cs_tg (by omega)] at h
      cases h
      have := hf.d hz
      have hx : f.getD z 0 - m < n + k := by omega
      have gx := hg.d hx
      refine ⟨hx, .inr ⟨rfl, by show f.getD z 0 - m < n; omega⟩, rfl, ?_⟩
      show cstep f g m n (false, g.getD (f.getD z 0 - m) 0) = .inl (true, f.getD z 0)
      rw [cs_fl (by rw [gx.2.2.1]; omega), gx.2.2.1, show m + (f.getD z 0 - m) = f.getD z 0 by omega]
  | false =>
    have hz : z < n + k := hs
    by_cases c : g.getD z 0 < n
    · rw [cs_fl c] at h
      cases h
      have hx : m + g.getD z 0 < m + n := by omega
      have fx := hf.d hx
      refine ⟨hx, .inl ⟨rfl, by show m ≤ m + g.getD z 0; omega⟩, rfl, ?_⟩
      show cstep f g m n (true, f.getD (m + g.getD z 0) 0) = .inl (false, g.getD z 0)
      rw [cs_tg (by rw [fx.2.2.1]; omega), fx.2.2.1, show m + g.getD z 0 - m = g.getD z 0 by omega]
    · rw [cs_fg (by omega)] at h; cases h
theorem opp_opp {s : Bool × Nat} (hs : Val m n k s) : opp f g (opp f g s) = s ∧ opp f g s ≠ s ∧ (opp f g s).1 = s.1 ∧ Val m n k (opp f g s) := by
  obtain ⟨b, z⟩ := s
  cases b with
  | true =>
    have := hf.d (show z < m + n from hs)
    exact ⟨by show (true, f.getD (f.getD z 0) 0) = (true, z); rw [this.2.2.1], fun e => this.2.1 (congrArg Prod.snd e), rfl, this.1⟩
  | false =>
    have := hg.d (show z < n + k from hs)
    exact ⟨by show (false, g.getD (g.getD z 0) 0) = (false, z); rw [this.2.2.1], fun e => this.2.1 (congrArg Prod.snd e), rfl, this.1⟩
theorem cs_inj {s t u : Bool × Nat} (hs : Val m n k s) (ht : Val m n k t) (h1 : cstep f g m n s = .inl u) (h2 : cstep f g m n t = .inl u) : s = t := by
  have a := (cs_val hf hg hs h1).2.2.2
  have b := (cs_val hf hg ht h2).2.2.2
  rw [a] at b
  have e : opp f g s = opp f g t := Sum.inl.inj b
  rw [← (opp_opp hf hg hs).1, e, (opp_opp hf hg ht).1]
theorem cs_end {s : Bool × Nat} {y : Nat} (hs : Val m n k s) (h : cstep f g m n s = .inr y) : cst m n y = opp f g s ∧ y < m + k := by
  obtain ⟨b, z⟩ := s
  cases b with
  | true =>
    by_cases c : f.getD z 0 < m
    · rw [cs_tl c] at h; cases h
      refine ⟨?_, by omega⟩
      unfold cst; rw [if_pos c]; rfl
    · rw [cs_tg (by omega)] at h; cases h
  | false =>
    have := hg.d (show z < n + k from hs)
    by_cases c : g.getD z 0 < n
    · rw [cs_fl c] at h; cases h
    · rw [cs_fg (by omega)] at h; cases h
      refine ⟨?_, by omega⟩
      unfold cst; rw [if_neg (by omega), show n + (m + (g.getD z 0 - n) - m) = g.getD z 0 by omega]; rfl
theorem cst_val {e : Nat} (he : e < m + k) : Val m n k (cst m n e) ∧ cstep f g m n (opp f g (cst m n e)) = .inr e := by
  unfold cst
  by_cases c : e < m
  · rw [if_pos c]
    have := hf.d (show e < m + n by omega)
    refine ⟨show e < m + n by omega, ?_⟩
    show cstep f g m n (true, f.getD e 0) = .inr e
    rw [cs_tl (by rw [this.2.2.1]; exact c), this.2.2.1]
  · rw [if_neg c]
    have := hg.d (show n + (e - m) < n + k by omega)
    refine ⟨show n + (e - m) < n + k by omega, ?_⟩
    show cstep f g m n (false, g.getD (n + (e - m)) 0) = .inr e
    rw [cs_fg (by rw [this.2.2.1]; omega), this.2.2.1, show m + (n + (e - m) - n) = e by omega]
theorem cs_out {e : Nat} (he : e < m + k) {s : Bool × Nat} (hs : Val m n k s) : cstep f g m n s ≠ .inl (cst m n e) := fun h => by
  have h1 := (cs_val hf hg hs h).2.2.2
  rw [(cst_val hf hg he).2] at h1
  cases h1
theorem walk_ends {e : Nat} (he : e < m + k) : ∃ y, Ends (cstep f g m n) (cst m n e) y := by
  apply Classical.byContradiction
  intro hn
  have go : ∀ i, cstep f g m n (itr (cstep f g m n) (cst m n e) i) = .inl (itr (cstep f g m n) (cst m n e) (i + 1)) := fun i => by
    cases h : cstep f g m n (itr (cstep f g m n) (cst m n e) i) with
    | inr y => exact absurd (ends_of i _ y h) hn
    | inl t => rw [itr_succ h]
  have val : ∀ i, Val m n k (itr (cstep f g m n) (cst m n e) i) := fun i => by
    induction i with
    | zero => exact (cst_val hf hg he).1
    | succ i ih => exact (cs_val hf hg ih (go i)).1
  have diff : ∀ i j, i < j → itr (cstep f g m n) (cst m n e) i ≠ itr (cstep f g m n) (cst m n e) j := fun i => by
    induction i with
    | zero =>
      intro j hj h
      cases j with
      | zero => omega
      | succ j => exact cs_out hf hg he (val j) ((go j).trans (congrArg Sum.inl h.symm))
    | succ i ih =>
      intro j hj h
      cases j with
      | zero => omega
      | succ j => exact ih j (by omega) (cs_inj hf hg (val i) (val j) (go i) ((go j).trans (congrArg Sum.inl h.symm)))
  let code : Bool × Nat → Nat := fun s => if s.1 = true then s.2 - m else n + s.2
  obtain ⟨i, j, h1, h2, h3⟩ := pigeon (2 * n) (fun i => code (itr (cstep f g m n) (cst m n e) (i + 1))) (fun i _ => by
    have v := val (i + 1)
    have := (cs_val hf hg (val i) (go i)).2.1
    generalize itr (cstep f g m n) (cst m n e) (i + 1) = s at v this
    obtain ⟨b, z⟩ := s
    cases b with
    | true =>
      rcases this with h | h
      · have hv : z < m + n := v
        have hz : m ≤ z := h.2
        show (if true = true then z - m else n + z) < 2 * n
        rw [if_pos rfl]; omega
      · cases h.1
    | false =>
      rcases this with h | h
      · cases h.1
      · have hz : z < n := h.2
        show (if false = true then z - m else n + z) < 2 * n
        rw [if_neg Bool.false_ne_true]; omega)
  refine diff (i + 1) (j + 1) (by omega) ?_
  have v1 := (cs_val hf hg (val i) (go i)).2.1
  have v2 := (cs_val hf hg (val j) (go j)).2.1
  have w1 := val (i + 1)
  have w2 := val (j + 1)
  have h3' : code (itr (cstep f g m n) (cst m n e) (i + 1)) = code (itr (cstep f g m n) (cst m n e) (j + 1)) := h3
  clear h3 diff val go hn
  generalize itr (cstep f g m n) (cst m n e) (i + 1) = s at v1 h3' w1
  generalize itr (cstep f g m n) (cst m n e) (j + 1) = t at v2 h3' w2
  obtain ⟨b, z⟩ := s
  obtain ⟨b', z'⟩ := t
  have T : ∀ z, code (true, z) = z - m := fun z => if_pos rfl
  have F : ∀ z, code (false, z) = n + z := fun z => if_neg Bool.false_ne_true
  cases b <;> cases b'
  · rw [F, F] at h3'
    have : z = z' := by omega
    rw [this]
  · rw [F, T] at h3'
    rcases v2 with h | h
    · have : z' < m + n := w2
      have : m ≤ z' := h.2
      omega
    · cases h.1
  · rw [T, F] at h3'
    rcases v1 with h | h
    · have : z < m + n := w1
      have : m ≤ z := h.2
      omega
    · cases h.1
  · rw [T, T] at h3'
    rcases v1 with h | h
    · rcases v2 with h' | h'
      · have : m ≤ z := h.2
        have : m ≤ z' := h'.2
        have : z = z' := by omega
        rw [this]
      · cases h'.1
    · cases h.1
theorem ends_back {s : Bool × Nat} {y : Nat} (h : Ends (cstep f g m n) s y) : Val m n k s → y < m + k ∧ ∀ y0, Ends (cstep f g m n) (opp f g s) y0 → Ends (cstep f g m n) (cst m n y) y0 := by
  induction h with
  | stop h1 =>
    intro hs
    have := cs_end hf hg hs h1
    exact ⟨this.2, fun y0 h0 => by rw [this.1]; exact h0⟩
  | go h1 _ ih =>
    intro hs
    obtain ⟨v1, _, _, v2⟩ := cs_val hf hg hs h1
    obtain ⟨i1, i2⟩ := ih v1
    exact ⟨i1, fun y0 h0 => i2 y0 (.go v2 h0)⟩
theorem ends_inv {e y : Nat} (he : e < m + k) (h : Ends (cstep f g m n) (cst m n e) y) : y < m + k ∧ Ends (cstep f g m n) (cst m n y) e ∧ y ≠ e := by
  obtain ⟨v, o⟩ := cst_val hf hg he
  obtain ⟨h1, h2⟩ := ends_back hf hg h v
  refine ⟨h1, h2 e (.stop o), fun c => ?_⟩
  subst c
  obtain ⟨t, g1, g2⟩ := h.nth
  have val : ∀ i, i ≤ t → Val m n k (itr (cstep f g m n) (cst m n y) i) := fun i => by
    induction i with
    | zero => exact fun _ => v
    | succ i ih => exact fun hi => (cs_val hf hg (ih (by omega)) (g1 i (by omega))).1
  have mir : ∀ j, j ≤ t → opp f g (itr (cstep f g m n) (cst m n y) (t - j)) = itr (cstep f g m n) (cst m n y) j := fun j => by
    induction j with
    | zero => intro _; exact (cs_end hf hg (val t (Nat.le_refl _)) g2).1.symm
    | succ j ih =>
      intro hj
      have a1 := ih (by omega)
      have a2 := g1 (t - (j + 1)) (by omega)
      rw [show t - (j + 1) + 1 = t - j by omega] at a2
      have a3 := (cs_val hf hg (val _ (by omega)) a2).2.2.2
      rw [a1, g1 j (by omega)] at a3
      exact (Sum.inl.inj a3).symm
  by_cases p : t % 2 = 0
  · have := mir (t / 2) (by omega)
    rw [show t - t / 2 = t / 2 by omega] at this
    exact (opp_opp hf hg (val (t / 2) (by omega))).2.1 this
  · have a := mir (t / 2) (by omega)
    rw [show t - t / 2 = t / 2 + 1 by omega] at a
    have b := (opp_opp hf hg (val (t / 2 + 1) (by omega))).2.2.1
    have c := (cs_val hf hg (val (t / 2) (by omega)) (g1 (t / 2) (by omega))).2.2.1
    rw [a] at b
    rw [← b] at c
    exact absurd c (by cases (itr (cstep f g m n) (cst m n y) (t / 2)).1 <;> decide)
end
/-- two layers one behind the other -/
noncomputable def cfar (f g : List Nat) (m n e : Nat) : Nat := open Classical in if h : ∃ y, Ends (cstep f g m n) (cst m n e) y then h.choose else 0
noncomputable def cmp (f g : List Nat) (m n k : Nat) : List Nat := (List.range (m + k)).map fun e => cfar f g m n e
theorem cfar_is {f g : List Nat} {m n e y : Nat} (h : Ends (cstep f g m n) (cst m n e) y) : cfar f g m n e = y := by
  unfold cfar
  rw [dif_pos ⟨y, h⟩]
  exact (Exists.choose_spec (⟨y, h⟩ : ∃ y, Ends (cstep f g m n) (cst m n e) y)).det h
theorem cmp_len (f g : List Nat) (m n k : Nat) : (cmp f g m n k).length = m + k := by unfold cmp; rw [List.length_map, List.length_range]
theorem cmp_get (f g : List Nat) {m n k e : Nat} (h : e < m + k) : (cmp f g m n k)[e]? = some (cfar f g m n e) := by unfold cmp; rw [List.getElem?_map, List.getElem?_range h]; rfl
theorem cmp_d (f g : List Nat) {m n k e : Nat} (h : e < m + k) : (cmp f g m n k).getD e 0 = cfar f g m n e := by
  rw [List.getD_eq_getElem?_getD, cmp_get f g h]; rfl
theorem cmp_ends {f g : List Nat} {m n k e : Nat} (hf : IsPair (m + n) f) (hg : IsPair (n + k) g) (he : e < m + k) : Ends (cstep f g m n) (cst m n e) ((cmp f g m n k).getD e 0) := by
  obtain ⟨y, h⟩ := walk_ends hf hg he
  rw [cmp_d f g he, cfar_is h]; exact h
theorem cmp_pair {f g : List Nat} {m n k : Nat} (hf : IsPair (m + n) f) (hg : IsPair (n + k) g) : IsPair (m + k) (cmp f g m n k) := by
  refine ⟨cmp_len .., fun e he => ?_⟩
  obtain ⟨y, h⟩ := walk_ends hf hg he
  obtain ⟨h1, h2, h3⟩ := ends_inv hf hg he h
  exact ⟨y, by rw [cmp_get f g he, cfar_is h], h1, h3, by rw [cmp_get f g h1, cfar_is h2]⟩
theorem cmp_ext {f g x : List Nat} {m n k : Nat} (hx : x.length = m + k) (h : ∀ e, e < m + k → Ends (cstep f g m n) (cst m n e) (x.getD e 0)) : cmp f g m n k = x := by
  refine List.ext_getElem? fun e => ?_
  by_cases he : e < m + k
  · rw [cmp_get f g he, cfar_is (h e he), List.getD_eq_getElem?_getD, List.getElem?_eq_getElem (by omega)]; rfl
  · rw [List.getElem?_eq_none (by rw [cmp_len]; omega), List.getElem?_eq_none (by omega)]
end Pc
namespace Pc
/-! ### three layers -/
def step3 (f g h : List Nat) (m n k : Nat) : Nat × Nat → (Nat × Nat) ⊕ Nat
  | (0, z) => if f.getD z 0 < m then .inr (f.getD z 0) else .inl (1, f.getD z 0 - m)
  | (1, z) => if g.getD z 0 < n then .inl (0, m + g.getD z 0) else .inl (2, g.getD z 0 - n)
  | (_, z) => if h.getD z 0 < k then .inl (1, n + h.getD z 0) else .inr (m + (h.getD z 0 - k))
section
variable {f g h : List Nat} {m n k l : Nat}
/-- the first two -/
def em1 : Bool × Nat → Nat × Nat
  | (true, z) => (0, z)
  | (false, z) => (1, z)
theorem first_two {s : Bool × Nat} {e : Nat} (w : Ends (cstep f g m n) s e) : (e < m → Ends (step3 f g h m n k) (em1 s) e) ∧ (m ≤ e → ∀ y, Ends (step3 f g h m n k) (2, e - m) y → Ends (step3 f g h m n k) (em1 s) y) := by
  induction w with
  | @stop s e h1 =>
    obtain ⟨b, z⟩ := s
    cases b with
    | true =>
      by_cases c : f.getD z 0 < m
      · rw [cs_tl c] at h1; cases h1
        exact ⟨fun _ => .stop (if_pos c), fun q => absurd c (by omega)⟩
      · rw [cs_tg (by omega)] at h1; cases h1
    | false =>
      by_cases c : g.getD z 0 < n
      · rw [cs_fl c] at h1; cases h1
      · rw [cs_fg (by omega)] at h1; cases h1
        refine ⟨fun q => by omega, fun _ y hy => .go (t := (2, g.getD z 0 - n)) (if_neg c) ?_⟩
        rw [show m + (g.getD z 0 - n) - m = g.getD z 0 - n by omega] at hy
        exact hy
  | @go s t e h1 _ ih =>
    have st : step3 f g h m n k (em1 s) = .inl (em1 t) := by
      obtain ⟨b, z⟩ := s
      cases b with
      | true =>
        by_cases c : f.getD z 0 < m
        · rw [cs_tl c] at h1; cases h1
        · rw [cs_tg (by omega)] at h1; cases h1
          exact if_neg c
      | false =>
        by_cases c : g.getD z 0 < n
        · rw [cs_fl c] at h1; cases h1
          exact if_pos c
        · rw [cs_fg (by omega)] at h1; cases h1
    exact ⟨fun q => .go st (ih.1 q), fun q y hy => .go st (ih.2 q y hy)⟩
/-- the last two -/
def em2 : Bool × Nat → Nat × Nat
  | (true, z) => (1, z)
  | (false, z) => (2, z)
theorem last_two {s : Bool × Nat} {e : Nat} (w : Ends (cstep g h n k) s e) : (n ≤ e → Ends (step3 f g h m n k) (em2 s) (m + (e - n))) ∧ (e < n → ∀ y, Ends (step3 f g h m n k) (0, m + e) y → Ends (step3 f g h m n k) (em2 s) y) := by
  induction w with
  | @stop s e h1 =>
    obtain ⟨b, z⟩ := s
    cases b with
    | true =>
      by_cases c : g.getD z 0 < n
      · rw [cs_tl c] at h1; cases h1
        exact ⟨fun q => absurd c (by omega), fun _ y hy => .go (t := (0, m + g.getD z 0)) (if_pos c) hy⟩
      · rw [cs_tg (by omega)] at h1; cases h1
    | false =>
      by_cases c : h.getD z 0 < k
      · rw [cs_fl c] at h1; cases h1
      · rw [cs_fg (by omega)] at h1; cases h1
        refine ⟨fun _ => .stop ?_, fun q => by omega⟩
        rw [show m + (n + (h.getD z 0 - k) - n) = m + (h.getD z 0 - k) by omega]
        exact if_neg c
  | @go s t e h1 _ ih =>
    have st : step3 f g h m n k (em2 s) = .inl (em2 t) := by
      obtain ⟨b, z⟩ := s
      cases b with
      | true =>
        by_cases c : g.getD z 0 < n
        · rw [cs_tl c] at h1; cases h1
        · rw [cs_tg (by omega)] at h1; cases h1
          exact if_neg c
      | false =>
        by_cases c : h.getD z 0 < k
        · rw [cs_fl c] at h1; cases h1
          exact if_pos c
        · rw [cs_fg (by omega)] at h1; cases h1
    exact ⟨fun q => .go st (ih.1 q), fun q y hy => .go st (ih.2 q y hy)⟩
def em3 (m n : Nat) : Bool × Nat → Nat × Nat
  | (true, z) => if z < m then (0, z) else (1, n + (z - m))
  | (false, z) => (2, z)
def em4 (n k : Nat) : Bool × Nat → Nat × Nat
  | (true, z) => (0, z)
  | (false, z) => if z < n then (1, z) else (2, k + (z - n))
theorem em3_cst (z : Nat) : em3 m n (true, z) = em1 (cst m n z) := by
  unfold cst
  by_cases c : z < m
  · rw [if_pos c]; exact if_pos c
  · rw [if_neg c]; exact if_neg c
theorem em4_cst (z : Nat) : em4 n k (false, z) = em2 (cst n k z) := by
  unfold cst
  by_cases c : z < n
  · rw [if_pos c]; exact if_pos c
  · rw [if_neg c]; exact if_neg c
theorem left_three (hf : IsPair (m + n) f) (hg : IsPair (n + k) g) (hh : IsPair (k + l) h) {s : Bool × Nat} {y : Nat} (w : Ends (cstep (cmp f g m n k) h m k) s y) : Val m k l s → Ends (step3 f g h m n k) (em3 m n s) y := by
  have hfg := cmp_pair hf hg
  induction w with
  | @stop s e h1 =>
    intro hs
    obtain ⟨b, z⟩ := s
    cases b with
    | true =>
      have W := first_two (h := h) (k := k) (cmp_ends hf hg (show z < m + k from hs))
      by_cases c : (cmp f g m n k).getD z 0 < m
      · rw [cs_tl c] at h1; cases h1
        rw [em3_cst]; exact W.1 c
      · rw [cs_tg (by omega)] at h1; cases h1
    | false =>
      by_cases c : h.getD z 0 < k
      · rw [cs_fl c] at h1; cases h1
      · rw [cs_fg (by omega)] at h1; cases h1
        exact .stop (if_neg c)
  | @go s t e h1 _ ih =>
    intro hs
    have ht := (cs_val hfg hh hs h1).1
    obtain ⟨b, z⟩ := s
    cases b with
    | true =>
      have W := first_two (h := h) (k := k) (cmp_ends hf hg (show z < m + k from hs))
      by_cases c : (cmp f g m n k).getD z 0 < m
      · rw [cs_tl c] at h1; cases h1
      · rw [cs_tg (by omega)] at h1; cases h1
        rw [em3_cst]; exact W.2 (by omega) _ (ih ht)
    | false =>
      by_cases c : h.getD z 0 < k
      · rw [cs_fl c] at h1; cases h1
        refine .go (t := (1, n + h.getD z 0)) (if_pos c) ?_
        have q := ih ht
        have e : em3 m n (true, m + h.getD z 0) = (1, n + h.getD z 0) := by
          show (if m + h.getD z 0 < m then _ else _) = _
          rw [if_neg (by omega), show m + h.getD z 0 - m = h.getD z 0 by omega]
        rw [e] at q; exact q
      · rw [cs_fg (by omega)] at h1; cases h1
theorem right_three (hf : IsPair (m + n) f) (hg : IsPair (n + k) g) (hh : IsPair (k + l) h) {s : Bool × Nat} {y : Nat} (w : Ends (cstep f (cmp g h n k l) m n) s y) : Val m n l s → Ends (step3 f g h m n k) (em4 n k s) y := by
  have hgh := cmp_pair hg hh
  induction w with
  | @stop s e h1 =>
    intro hs
    obtain ⟨b, z⟩ := s
    cases b with
    | true =>
      by_cases c : f.getD z 0 < m
      · rw [cs_tl c] at h1; cases h1
        exact .stop (if_pos c)
      · rw [cs_tg (by omega)] at h1; cases h1
    | false =>
      have W := last_two (f := f) (m := m) (cmp_ends hg hh (show z < n + l from hs))
      by_cases c : (cmp g h n k l).getD z 0 < n
      · rw [cs_fl c] at h1; cases h1
      · rw [cs_fg (by omega)] at h1; cases h1
        rw [em4_cst]; exact W.1 (by omega)
  | @go s t e h1 _ ih =>
    intro hs
    have ht := (cs_val hf hgh hs h1).1
    obtain ⟨b, z⟩ := s
    cases b with
    | true =>
      by_cases c : f.getD z 0 < m
      · rw [cs_tl c] at h1; cases h1
      · rw [cs_tg (by omega)] at h1; cases h1
        refine .go (t := (1, f.getD z 0 - m)) (if_neg c) ?_
        have q := ih ht
        have fz := hf.d (show z < m + n from hs)
        have e : em4 n k (false, f.getD z 0 - m) = (1, f.getD z 0 - m) := if_pos (by omega)
        rw [e] at q; exact q
    | false =>
      have W := last_two (f := f) (m := m) (cmp_ends hg hh (show z < n + l from hs))
      by_cases c : (cmp g h n k l).getD z 0 < n
      · rw [cs_fl c] at h1; cases h1
        rw [em4_cst]; exact W.2 c _ (ih ht)
      · rw [cs_fg (by omega)] at h1; cases h1
/-- the order of joining does not matter -/
theorem cmp_assoc (hf : IsPair (m + n) f) (hg : IsPair (n + k) g) (hh : IsPair (k + l) h) : cmp (cmp f g m n k) h m k l = cmp f (cmp g h n k l) m n l := by
  have hfg := cmp_pair hf hg
  have hgh := cmp_pair hg hh
  refine cmp_ext (by rw [cmp_len]) fun e he => ?_
  obtain ⟨y, w⟩ := walk_ends hfg hh he
  have a := left_three hf hg hh w (cst_val hfg hh he).1
  have b := right_three hf hg hh (cmp_ends hf hgh he) (cst_val hf hgh he).1
  have e1 : em3 m n (cst m k e) = em4 n k (cst m n e) := by
    unfold cst
    by_cases c : e < m
    · rw [if_pos c, if_pos c]; exact if_pos c
    · rw [if_neg c, if_neg c]
      show (2, k + (e - m)) = if n + (e - m) < n then _ else _
      rw [if_neg (by omega), show n + (e - m) - n = e - m by omega]
  rw [e1] at a
  rw [← a.det b]; exact w
end
/-! ### what is read is a layer behind a pairing -/
theorem trail_ends {fs ps : List Nat} {n z : Nat} {l : List Nat} (hP : IsPair n ps) (h : Trail fs ps n z l) : Ends (cstep ps fs 0 n) (false, z) (l.getLastD 0 - n) := by
  induction h with
  | @stop z h1 =>
    have := cs_fg (f := ps) (g := fs) (m := 0) (n := n) (z := z) h1
    rw [Nat.zero_add] at this
    exact .stop this
  | @go z l h1 h2 ih =>
    have a := cs_fl (f := ps) (g := fs) (m := 0) (n := n) (z := z) h1
    rw [Nat.zero_add] at a
    have b := cs_tg (f := ps) (g := fs) (m := 0) (n := n) (z := fs.getD z 0) (Nat.zero_le _)
    rw [Nat.sub_zero] at b
    rw [lastc h2.len.1]
    exact .go a (.go b ih)
theorem rd_cmp {fs ps : List Nat} {n : Nat} (hF : IsPair (2 * n) fs) (hP : IsPair n ps) : rd fs ps n = cmp ps fs 0 n n := by
  refine (cmp_ext (by rw [rd_len, Nat.zero_add]) fun e he => ?_).symm
  obtain ⟨l, h1, _⟩ := trail_ex hF hP (z := n + e) (by omega) (by omega)
  have := trail_ends hP h1
  rw [← far_is h1] at this
  have e1 : (rd fs ps n).getD e 0 = far fs ps n (n + e) - n := by
    rw [List.getD_eq_getElem?_getD, rd_get fs ps (by omega)]; rfl
  rw [e1]
  unfold cst
  rw [if_neg (Nat.not_lt_zero _), Nat.sub_zero]
  exact this
/-! ### a call added to the second layer -/
section
variable {f g g' : List Nat} {m n k A B c d : Nat}
theorem Ends.near (hf : IsPair (m + n) f) (hg : IsPair (n + k) g) (hN : Near g g' n A B c d) {s : Bool × Nat} {y : Nat} (w : Ends (cstep f g m n) s y) : Val m n k s → s ≠ (false, A) → s ≠ (false, B) → y ≠ m + (A - n) → y ≠ m + (B - n) → Ends (cstep f g' m n) s y := by
  have la := hN.la
  have lb := hN.lb
  induction w with
  | @stop s y h1 =>
    intro vs s1 s2 y1 y2
    obtain ⟨b, z⟩ := s
    cases b with
    | true =>
      by_cases q : f.getD z 0 < m
      · rw [cs_tl q] at h1; cases h1; exact .stop (cs_tl q)
      · rw [cs_tg (by omega)] at h1; cases h1
    | false =>
      by_cases q : g.getD z 0 < n
      · rw [cs_fl q] at h1; cases h1
      · rw [cs_fg (by omega)] at h1; cases h1
        have e : g'.getD z 0 = g.getD z 0 := hN.eq z (fun e => s1 (by rw [e])) (fun e => s2 (by rw [e])) (fun e => y1 (by rw [e, hN.fc])) (fun e => y2 (by rw [e, hN.fd]))
        have := cs_fg (f := f) (g := g') (m := m) (n := n) (z := z) (by rw [e]; omega)
        rw [e] at this; exact .stop this
  | @go s t y h1 _ ih =>
    intro vs s1 s2 y1 y2
    have cv := cs_val hf hg vs h1
    obtain ⟨b, z⟩ := s
    cases b with
    | true =>
      by_cases q : f.getD z 0 < m
      · rw [cs_tl q] at h1; cases h1
      · rw [cs_tg (by omega)] at h1; cases h1
        have hz := (hf.d (show z < m + n from vs)).1
        exact .go (cs_tg (by omega)) (ih cv.1 (fun h => by have := congrArg Prod.snd h; have e : f.getD z 0 - m = A := this; omega) (fun h => by have := congrArg Prod.snd h; have e : f.getD z 0 - m = B := this; omega) y1 y2)
    | false =>
      by_cases q : g.getD z 0 < n
      · rw [cs_fl q] at h1; cases h1
        have e : g'.getD z 0 = g.getD z 0 := hN.eq z (fun e => s1 (by rw [e])) (fun e => s2 (by rw [e])) (fun e => by rw [e, hN.fc] at q; omega) (fun e => by rw [e, hN.fd] at q; omega)
        have := cs_fl (f := f) (g := g') (m := m) (n := n) (z := z) (by rw [e]; exact q)
        rw [e] at this
        exact .go this (ih cv.1 (fun h => by cases h) (fun h => by cases h) y1 y2)
      · rw [cs_fg (by omega)] at h1; cases h1
theorem Ends.over (hf : IsPair (m + n) f) (hg : IsPair (n + k) g) (hN : Near g g' n A B c d) (hB : B < n + k) {y' : Nat} (wB : Ends (cstep f g m n) (false, B) y') (yA : y' ≠ m + (A - n)) (yB : y' ≠ m + (B - n)) {s : Bool × Nat} {y : Nat} (w : Ends (cstep f g m n) s y) :
    Val m n k s → s ≠ (false, A) → s ≠ (false, B) → y = m + (A - n) → Ends (cstep f g' m n) s y' := by
  have la := hN.la
  have lb := hN.lb
  have fb := hN.fb
  induction w with
  | @stop s y h1 =>
    intro vs s1 s2 y1
    obtain ⟨b, z⟩ := s
    cases b with
    | true =>
      by_cases q : f.getD z 0 < m
      · rw [cs_tl q] at h1; cases h1; omega
      · rw [cs_tg (by omega)] at h1; cases h1
    | false =>
      by_cases q : g.getD z 0 < n
      · rw [cs_fl q] at h1; cases h1
      · rw [cs_fg (by omega)] at h1; cases h1
        have zc : z = c := hN.un z (by omega)
        subst zc
        -- the way of B goes on from here
        cases wB with
        | stop h2 =>
          by_cases p : g.getD B 0 < n
          · rw [cs_fl p] at h2; cases h2
          · rw [cs_fg (by omega)] at h2; cases h2
            have := cs_fg (f := f) (g := g') (m := m) (n := n) (z := z) (by rw [hN.gc, ← fb]; omega)
            rw [hN.gc, ← fb] at this; exact .stop this
        | @go _ t _ h2 h3 =>
          have cv := cs_val hf hg (show Val m n k (false, B) from hB) h2
          by_cases p : g.getD B 0 < n
          · rw [cs_fl p] at h2; cases h2
            have := cs_fl (f := f) (g := g') (m := m) (n := n) (z := z) (by rw [hN.gc, ← fb]; exact p)
            rw [hN.gc, ← fb] at this
            exact .go this (h3.near hf hg hN cv.1 (fun h => by cases h) (fun h => by cases h) yA yB)
          · rw [cs_fg (by omega)] at h2; cases h2
  | @go s t y h1 _ ih =>
    intro vs s1 s2 y1
    have cv := cs_val hf hg vs h1
    obtain ⟨b, z⟩ := s
    cases b with
    | true =>
      by_cases q : f.getD z 0 < m
      · rw [cs_tl q] at h1; cases h1
      · rw [cs_tg (by omega)] at h1; cases h1
        have hz := (hf.d (show z < m + n from vs)).1
        exact .go (cs_tg (by omega)) (ih cv.1 (fun h => by have := congrArg Prod.snd h; have e : f.getD z 0 - m = A := this; omega) (fun h => by have := congrArg Prod.snd h; have e : f.getD z 0 - m = B := this; omega) y1)
    | false =>
      by_cases q : g.getD z 0 < n
      · rw [cs_fl q] at h1; cases h1
        have e : g'.getD z 0 = g.getD z 0 := hN.eq z (fun e => s1 (by rw [e])) (fun e => s2 (by rw [e])) (fun e => by rw [e, hN.fc] at q; omega) (fun e => by rw [e, hN.fd] at q; omega)
        have := cs_fl (f := f) (g := g') (m := m) (n := n) (z := z) (by rw [e]; exact q)
        rw [e] at this
        exact .go this (ih cv.1 (fun h => by cases h) (fun h => by cases h) y1)
      · rw [cs_fg (by omega)] at h1; cases h1
end
/-- a call at the lower ends of the second layer is one at the lower ends of both -/
theorem cmp_jn {f g : List Nat} {m n k a b : Nat} (hn : k = n) (h0 : 0 < n) (hf : IsPair (m + n) f) (hg : IsPair (n + k) g) (hab : a ≠ b) (ha : a < k) (hb : b < k) : cmp f (jn g (n + a) (n + b)) m n k = jn (cmp f g m n k) (m + a) (m + b) := by
  subst hn
  have hR := cmp_pair hf hg
  have hg2 : IsPair (2 * k) g := by rw [show 2 * k = k + k by omega]; exact hg
  by_cases hc : g.getD (k + a) 0 = k + b
  · rw [jn_same (hg.ofd (by omega) hc)]
    have w : Ends (cstep f g m k) (cst m k (m + a)) (m + b) := by
      have := cs_fg (f := f) (g := g) (m := m) (n := k) (z := k + a) (by rw [hc]; omega)
      rw [hc, show k + b - k = b by omega] at this
      unfold cst
      rw [if_neg (by omega), show m + a - m = a by omega]
      exact .stop this
    refine (jn_same ?_).symm
    rw [cmp_get f g (by omega), cfar_is w]
  · obtain ⟨N1, N2, gA, gB⟩ := jn_near hg2 (A := k + a) (B := k + b) (by omega) (by omega) (by omega) (by omega) (by omega) hc
    have hg' : IsPair (k + k) (jn g (k + a) (k + b)) := jn_pair hg (by omega) (by omega) (by omega)
    have ga := hR.d (show m + a < m + k by omega)
    have gb := hR.d (show m + b < m + k by omega)
    have sA : cst m k (m + a) = (false, k + a) := by unfold cst; rw [if_neg (by omega), show m + a - m = a by omega]
    have sB : cst m k (m + b) = (false, k + b) := by unfold cst; rw [if_neg (by omega), show m + b - m = b by omega]
    have wA := cmp_ends hf hg (show m + a < m + k by omega)
    have wB := cmp_ends hf hg (show m + b < m + k by omega)
    have JS : (cmp f g m k k).getD (m + a) 0 = m + b → jn (cmp f g m k k) (m + a) (m + b) = cmp f g m k k := fun c => jn_same (hR.ofd (by omega) c)
    rw [sA] at wA
    rw [sB] at wB
    refine cmp_ext (by rw [jn_len, cmp_len]) fun e he => ?_
    have G : ∀ {v : Nat}, (jn (cmp f g m k k) (m + a) (m + b))[e]? = some v → (jn (cmp f g m k k) (m + a) (m + b)).getD e 0 = v := fun h => getD_of h
    have we := cmp_ends hf hg he
    have ve := (cst_val hf hg he).1
    have ge := hR.d he
    have ne : ∀ {x : Nat}, x < k → e ≠ m + x → cst m k e ≠ (false, k + x) := fun {x} hx h z => by
      unfold cst at z
      by_cases c : e < m
      · rw [if_pos c] at z; cases z
      · rw [if_neg c] at z
        have : k + (e - m) = k + x := congrArg Prod.snd z
        omega
    by_cases ea : e = m + a
    · subst ea
      have w : Ends (cstep f (jn g (k + a) (k + b)) m k) (cst m k (m + a)) (m + b) := by
        have := cs_fg (f := f) (g := jn g (k + a) (k + b)) (m := m) (n := k) (z := k + a) (by rw [gA]; omega)
        rw [gA, show k + b - k = b by omega] at this
        rw [sA]; exact .stop this
      by_cases c : (cmp f g m k k).getD (m + a) 0 = m + b
      · rw [JS c, c]; exact w
      · rw [G (by rw [jn_get hR (by omega) ga.2.2.2 gb.2.2.2 c, if_pos rfl])]; exact w
    · by_cases eb : e = m + b
      · subst eb
        have w : Ends (cstep f (jn g (k + a) (k + b)) m k) (cst m k (m + b)) (m + a) := by
          have := cs_fg (f := f) (g := jn g (k + a) (k + b)) (m := m) (n := k) (z := k + b) (by rw [gB]; omega)
          rw [gB, show k + a - k = a by omega] at this
          rw [sB]; exact .stop this
        by_cases c : (cmp f g m k k).getD (m + a) 0 = m + b
        · rw [JS c, show (cmp f g m k k).getD (m + b) 0 = m + a by rw [← c]; exact ga.2.2.1]; exact w
        · rw [G (by rw [jn_get hR (by omega) ga.2.2.2 gb.2.2.2 c, if_neg (by omega), if_pos rfl])]; exact w
      · have s1 := ne ha ea
        have s2 := ne hb eb
        by_cases yA : (cmp f g m k k).getD e 0 = m + a
        · have e1 : (cmp f g m k k).getD (m + a) 0 = e := by rw [← yA]; exact ge.2.2.1
          have e2 : (cmp f g m k k).getD (m + b) 0 ≠ m + a := fun z => by
            have := gb.2.2.1
            rw [z, e1] at this; omega
          have w := Ends.over hf hg N1 (by omega) wB (by rw [show k + a - k = a by omega]; exact e2) (by rw [show k + b - k = b by omega]; exact gb.2.1) we ve s1 s2 (by rw [show k + a - k = a by omega]; exact yA)
          rw [G (by rw [jn_get hR (by omega) ga.2.2.2 gb.2.2.2 (by rw [e1]; omega), if_neg ea, if_neg eb, if_pos e1.symm])]; exact w
        · by_cases yB : (cmp f g m k k).getD e 0 = m + b
          · have e1 : (cmp f g m k k).getD (m + b) 0 = e := by rw [← yB]; exact ge.2.2.1
            have e2 : (cmp f g m k k).getD (m + a) 0 ≠ m + b := fun z => by
              have := ga.2.2.1
              rw [z, e1] at this; omega
            have e3 : (cmp f g m k k).getD (m + a) 0 ≠ e := fun z => by
              have := ga.2.2.1
              rw [z, yB] at this; omega
            have w := Ends.over hf hg N2 (by omega) wA (by rw [show k + b - k = b by omega]; exact e2) (by rw [show k + a - k = a by omega]; exact ga.2.1) we ve s2 s1 (by rw [show k + b - k = b by omega]; exact yB)
            rw [G (by rw [jn_get hR (by omega) ga.2.2.2 gb.2.2.2 e2, if_neg ea, if_neg eb, if_neg (fun z => e3 z.symm), if_pos e1.symm])]; exact w
          · have w := we.near hf hg N1 ve s1 s2 (by rw [show k + a - k = a by omega]; exact yA) (by rw [show k + b - k = b by omega]; exact yB)
            by_cases c : (cmp f g m k k).getD (m + a) 0 = m + b
            · rw [JS c]; exact w
            · have e1 : (cmp f g m k k).getD (m + a) 0 ≠ e := fun z => by
                have := ga.2.2.1
                rw [z] at this; exact yA this
              have e2 : (cmp f g m k k).getD (m + b) 0 ≠ e := fun z => by
                have := gb.2.2.1
                rw [z] at this; exact yB this
              rw [G (by rw [jn_get hR (by omega) ga.2.2.2 gb.2.2.2 c, if_neg ea, if_neg eb, if_neg (fun z => e1 z.symm), if_neg (fun z => e2 z.symm)]; exact ge.2.2.2)]; exact w
end Pc
namespace Pc
/-! ### sheets one after another -/
theorem IsPair.two {n : Nat} {f : List Nat} (h : IsPair (2 * n) f) : IsPair (n + n) f := by rw [← Nat.two_mul]; exact h
theorem IsPair.one {n : Nat} {f : List Nat} (h : IsPair (n + n) f) : IsPair (2 * n) f := by rw [Nat.two_mul]; exact h
noncomputable def fol (f g : List Nat) (n : Nat) : List Nat := cmp f g n n n
theorem fol_pair {f g : List Nat} {n : Nat} (hf : IsPair (2 * n) f) (hg : IsPair (2 * n) g) : IsPair (2 * n) (fol f g n) := (cmp_pair hf.two hg.two).one
theorem fol_assoc {f g h : List Nat} {n : Nat} (hf : IsPair (2 * n) f) (hg : IsPair (2 * n) g) (hh : IsPair (2 * n) h) : fol (fol f g n) h n = fol f (fol g h n) n := cmp_assoc hf.two hg.two hh.two
theorem rd_fol {f g ps : List Nat} {n : Nat} (hf : IsPair (2 * n) f) (hg : IsPair (2 * n) g) (hP : IsPair n ps) : rd (fol f g n) ps n = rd g (rd f ps n) n := by
  have hR := rd_pair hf hP
  have hP0 : IsPair (0 + n) ps := by rw [Nat.zero_add]; exact hP
  rw [rd_cmp (fol_pair hf hg) hP, rd_cmp hg hR, rd_cmp hf hP]
  exact (cmp_assoc hP0 hf.two hg.two).symm
theorem fol_emp {f : List Nat} {n : Nat} (hn : 0 < n) (hf : IsPair (2 * n) f) : fol f (emp n) n = f := by
  refine cmp_ext (by rw [hf.len]; omega) fun e he => ?_
  have fe := hf.d (show e < 2 * n by omega)
  have em : ∀ {x : Nat}, x < n → (emp n).getD x 0 = n + x := fun h => getD_of (emp_lo h)
  have em2 : ∀ {x : Nat}, x < n → (emp n).getD (n + x) 0 = x := fun h => getD_of (emp_hi h)
  -- from the first layer
  have T : ∀ {z : Nat}, z < 2 * n → Ends (cstep f (emp n) n n) (true, z) (f.getD z 0) := fun {z} hz => by
    have fz := hf.d hz
    by_cases c : f.getD z 0 < n
    · exact .stop (cs_tl c)
    · refine .go (cs_tg (by omega)) (.stop ?_)
      have e1 := em (x := f.getD z 0 - n) (by omega)
      rw [cs_fg (by rw [e1]; omega), e1, show n + (n + (f.getD z 0 - n) - n) = f.getD z 0 by omega]
  unfold cst
  by_cases c : e < n
  · rw [if_pos c]; exact T (by omega)
  · rw [if_neg c]
    have e1 := em2 (x := e - n) (by omega)
    refine .go (t := (true, e)) ?_ (T (by omega))
    rw [cs_fl (by rw [e1]; omega), e1, show n + (e - n) = e by omega]
theorem emp_fol {f : List Nat} {n : Nat} (hn : 0 < n) (hf : IsPair (2 * n) f) : fol (emp n) f n = f := by
  refine cmp_ext (by rw [hf.len]; omega) fun e he => ?_
  have em : ∀ {x : Nat}, x < n → (emp n).getD x 0 = n + x := fun h => getD_of (emp_lo h)
  have em2 : ∀ {x : Nat}, x < n → (emp n).getD (n + x) 0 = x := fun h => getD_of (emp_hi h)
  have T : ∀ {z : Nat}, z < 2 * n → Ends (cstep (emp n) f n n) (false, z) (f.getD z 0) := fun {z} hz => by
    have fz := hf.d hz
    by_cases c : f.getD z 0 < n
    · refine .go (cs_fl c) (.stop ?_)
      have e1 := em2 c
      rw [cs_tl (by rw [e1]; exact c), e1]
    · refine .stop ?_
      rw [cs_fg (by omega), show n + (f.getD z 0 - n) = f.getD z 0 by omega]
  unfold cst
  by_cases c : e < n
  · rw [if_pos c]
    have e1 := em c
    refine .go (t := (false, e)) ?_ (T (by omega))
    rw [cs_tg (by rw [e1]; omega), e1, show n + e - n = e by omega]
  · rw [if_neg c, show n + (e - n) = e by omega]; exact T (by omega)
theorem fol_shw {f : List Nat} {n : Nat} (hn : 0 < n) (hf : IsPair (2 * n) f) : ∀ (qs : List (Nat × Nat)) {g : List Nat}, IsPair (2 * n) g → Calls n qs → fol f (shw n qs g) n = shw n qs (fol f g n)
  | [], _, _, _ => rfl
  | q :: r, g, hg, hc => by
    have h1 := hc q List.mem_cons_self
    have h2 := fol_shw hn hf r (jn_pair hg (a := n + q.1) (b := n + q.2) (by omega) (by omega) (by omega)) (fun x hx => hc x (List.mem_cons_of_mem _ hx))
    have e : fol f (jn g (n + q.1) (n + q.2)) n = jn (fol f g n) (n + q.1) (n + q.2) := cmp_jn rfl hn hf.two hg.two (by omega) (by omega) h1.2
    rw [e] at h2
    exact h2
/-- the sheet of a word behind a sheet is the word added to it -/
theorem fol_word {f : List Nat} {n : Nat} {qs : List (Nat × Nat)} (hn : 0 < n) (hf : IsPair (2 * n) f) (hc : Calls n qs) : fol f (shw n qs (emp n)) n = shw n qs f := by
  rw [fol_shw hn hf qs (emp_pair hn) hc, fol_emp hn hf]
theorem shw_app (n : Nat) (qs rs : List (Nat × Nat)) (f : List Nat) : shw n (qs ++ rs) f = shw n rs (shw n qs f) := by
  unfold shw runs low
  rw [List.map_append, List.foldl_append]
/-! ### again and again -/
noncomputable def pw (f : List Nat) (n : Nat) : Nat → List Nat
  | 0 => emp n
  | k + 1 => fol (pw f n k) f n
theorem pw_pair {f : List Nat} {n : Nat} (hn : 0 < n) (hf : IsPair (2 * n) f) : ∀ k, IsPair (2 * n) (pw f n k)
  | 0 => emp_pair hn
  | k + 1 => fol_pair (pw_pair hn hf k) hf
theorem pw_add {f : List Nat} {n : Nat} (hn : 0 < n) (hf : IsPair (2 * n) f) (a : Nat) : ∀ b, fol (pw f n a) (pw f n b) n = pw f n (a + b)
  | 0 => fol_emp hn (pw_pair hn hf a)
  | b + 1 => by
    show fol (pw f n a) (fol (pw f n b) f n) n = fol (pw f n (a + b)) f n
    rw [← fol_assoc (pw_pair hn hf a) (pw_pair hn hf b) hf, pw_add hn hf a b]
theorem pw_one {f : List Nat} {n : Nat} (hn : 0 < n) (hf : IsPair (2 * n) f) : pw f n 1 = f := emp_fol hn hf
/-! ### upside down -/
def os (n e : Nat) : Nat := if e < n then e + n else e - n
theorem os_lt {n e : Nat} (h : e < 2 * n) : os n e < 2 * n := by unfold os; split <;> omega
theorem os_os {n e : Nat} (h : e < 2 * n) : os n (os n e) = e := by
  unfold os
  by_cases c : e < n
  · rw [if_pos c, if_neg (by omega)]; omega
  · rw [if_neg c, if_pos (by omega)]; omega
def mir (f : List Nat) (n : Nat) : List Nat := (List.range (2 * n)).map fun e => os n (f.getD (os n e) 0)
theorem mir_len (f : List Nat) (n : Nat) : (mir f n).length = 2 * n := by unfold mir; rw [List.length_map, List.length_range]
theorem mir_get (f : List Nat) {n e : Nat} (h : e < 2 * n) : (mir f n)[e]? = some (os n (f.getD (os n e) 0)) := by unfold mir; rw [List.getElem?_map, List.getElem?_range h]; rfl
theorem mir_d (f : List Nat) {n e : Nat} (h : e < 2 * n) : (mir f n).getD e 0 = os n (f.getD (os n e) 0) := getD_of (mir_get f h)
theorem mir_pair {f : List Nat} {n : Nat} (hf : IsPair (2 * n) f) : IsPair (2 * n) (mir f n) := by
  refine ⟨mir_len f n, fun e he => ?_⟩
  have fo := hf.d (os_lt he)
  refine ⟨_, mir_get f he, os_lt fo.1, fun z => ?_, ?_⟩
  · have := congrArg (os n) z
    rw [os_os fo.1] at this
    exact fo.2.1 this
  · rw [mir_get f (os_lt fo.1), os_os fo.1, fo.2.2.1, os_os he]
theorem list_d {x y : List Nat} (h : x.length = y.length) (e : ∀ i, i < x.length → x.getD i 0 = y.getD i 0) : x = y := by
  refine List.ext_getElem? fun i => ?_
  by_cases hi : i < x.length
  · have := e i hi
    rw [List.getD_eq_getElem?_getD, List.getD_eq_getElem?_getD, List.getElem?_eq_getElem hi, List.getElem?_eq_getElem (by omega)] at this
    rw [List.getElem?_eq_getElem hi, List.getElem?_eq_getElem (by omega)]
    exact congrArg some this
  · rw [List.getElem?_eq_none (by omega), List.getElem?_eq_none (by omega)]
theorem mir_mir {f : List Nat} {n : Nat} (hf : IsPair (2 * n) f) : mir (mir f n) n = f := by
  refine list_d (by rw [mir_len, hf.len]) fun e he => ?_
  rw [mir_len] at he
  rw [mir_d _ he, mir_d _ (os_lt he), os_os he, os_os (hf.d he).1]
theorem mir_emp {n : Nat} : mir (emp n) n = emp n := by
  refine list_d (by rw [mir_len, emp_len]) fun e he => ?_
  rw [mir_len] at he
  rw [mir_d _ he]
  by_cases c : e < n
  · have e1 : os n e = n + e := by unfold os; rw [if_pos c]; omega
    rw [e1, getD_of (emp_hi c), getD_of (emp_lo c), e1]
  · have e1 : os n e = e - n := by unfold os; rw [if_neg c]
    have h2 := emp_hi (n := n) (e := e - n) (by omega)
    rw [show n + (e - n) = e by omega] at h2
    rw [e1, getD_of (emp_lo (by omega)), getD_of h2]
    unfold os; rw [if_neg (by omega)]; omega
/-- a walk seen from below -/
theorem mir_ends {f g : List Nat} {n : Nat} (hf : IsPair (2 * n) f) (hg : IsPair (2 * n) g) {s : Bool × Nat} {y : Nat} (w : Ends (cstep f g n n) s y) : Val n n n s → Ends (cstep (mir g n) (mir f n) n n) (!s.1, os n s.2) (os n y) := by
  induction w with
  | @stop s y h1 =>
    intro hs
    obtain ⟨b, z⟩ := s
    have hz : z < 2 * n := by cases b <;> (have : z < n + n := hs; omega)
    cases b with
    | true =>
      have fz := hf.d hz
      by_cases c : f.getD z 0 < n
      · rw [cs_tl c] at h1; cases h1
        have e1 : (mir f n).getD (os n z) 0 = os n (f.getD z 0) := by rw [mir_d _ (os_lt hz), os_os hz]
        have e2 : os n (f.getD z 0) = f.getD z 0 + n := by unfold os; rw [if_pos c]
        refine .stop ?_
        show cstep (mir g n) (mir f n) n n (false, os n z) = _
        rw [cs_fg (by rw [e1, e2]; omega), e1, e2, show n + (f.getD z 0 + n - n) = f.getD z 0 + n by omega]
      · rw [cs_tg (by omega)] at h1; cases h1
    | false =>
      have gz := hg.d hz
      by_cases c : g.getD z 0 < n
      · rw [cs_fl c] at h1; cases h1
      · rw [cs_fg (by omega)] at h1; cases h1
        have e1 : (mir g n).getD (os n z) 0 = os n (g.getD z 0) := by rw [mir_d _ (os_lt hz), os_os hz]
        have e2 : os n (g.getD z 0) = g.getD z 0 - n := by unfold os; rw [if_neg c]
        refine .stop ?_
        show cstep (mir g n) (mir f n) n n (true, os n z) = _
        rw [cs_tl (by rw [e1, e2]; omega), e1, show n + (g.getD z 0 - n) = g.getD z 0 by omega]
  | @go s t y h1 _ ih =>
    intro hs
    have cv := cs_val hf.two hg.two hs h1
    have IH := ih cv.1
    obtain ⟨b, z⟩ := s
    have hz : z < 2 * n := by cases b <;> (have : z < n + n := hs; omega)
    cases b with
    | true =>
      have fz := hf.d hz
      by_cases c : f.getD z 0 < n
      · rw [cs_tl c] at h1; cases h1
      · rw [cs_tg (by omega)] at h1; cases h1
        have e1 : (mir f n).getD (os n z) 0 = os n (f.getD z 0) := by rw [mir_d _ (os_lt hz), os_os hz]
        have e2 : os n (f.getD z 0) = f.getD z 0 - n := by unfold os; rw [if_neg c]
        have e3 : os n (f.getD z 0 - n) = n + (f.getD z 0 - n) := by unfold os; rw [if_pos (by omega)]; omega
        refine .go (t := (true, n + (f.getD z 0 - n))) ?_ (by rw [← e3]; exact IH)
        show cstep (mir g n) (mir f n) n n (false, os n z) = _
        rw [cs_fl (by rw [e1, e2]; omega), e1, e2]
    | false =>
      have gz := hg.d hz
      by_cases c : g.getD z 0 < n
      · rw [cs_fl c] at h1; cases h1
        have e1 : (mir g n).getD (os n z) 0 = os n (g.getD z 0) := by rw [mir_d _ (os_lt hz), os_os hz]
        have e2 : os n (g.getD z 0) = g.getD z 0 + n := by unfold os; rw [if_pos c]
        have e3 : os n (n + g.getD z 0) = g.getD z 0 := by unfold os; rw [if_neg (by omega)]; omega
        refine .go (t := (false, g.getD z 0)) ?_ (by have := IH; rw [show os n (true, n + g.getD z 0).2 = g.getD z 0 from e3] at this; exact this)
        show cstep (mir g n) (mir f n) n n (true, os n z) = _
        rw [cs_tg (by rw [e1, e2]; omega), e1, e2, show g.getD z 0 + n - n = g.getD z 0 by omega]
      · rw [cs_fg (by omega)] at h1; cases h1
theorem mir_fol {f g : List Nat} {n : Nat} (hf : IsPair (2 * n) f) (hg : IsPair (2 * n) g) : mir (fol f g n) n = fol (mir g n) (mir f n) n := by
  refine (cmp_ext (by rw [mir_len]; omega) fun e he => ?_).symm
  have he2 : e < 2 * n := by omega
  have w := mir_ends hf hg (cmp_ends hf.two hg.two (show os n e < n + n by have := os_lt he2; omega)) (cst_val hf.two hg.two (by have := os_lt he2; omega)).1
  rw [mir_d _ he2]
  have e1 : ((!(cst n n (os n e)).1, os n (cst n n (os n e)).2) : Bool × Nat) = cst n n e := by
    unfold cst
    by_cases c : e < n
    · have e2 : os n e = e + n := by unfold os; rw [if_pos c]
      rw [e2, if_neg (by omega), if_pos c, show n + (e + n - n) = e + n by omega]
      show (true, os n (e + n)) = _
      unfold os; rw [if_neg (by omega), Nat.add_sub_cancel]
    · have e2 : os n e = e - n := by unfold os; rw [if_neg c]
      rw [e2, if_pos (by omega), if_neg c]
      show (false, os n (e - n)) = _
      unfold os; rw [if_pos (by omega), Nat.add_comm]
  rw [e1] at w
  exact w
/-- forth, back and forth again -/
theorem fol_mir {f : List Nat} {n : Nat} (hf : IsPair (2 * n) f) : fol (fol f (mir f n) n) f n = f := by
  have hm := mir_pair hf
  have hfm := fol_pair hf hm
  have up : ∀ {x : Nat}, x < n → n ≤ f.getD x 0 → (fol f (mir f n) n).getD x 0 = n + x := fun {x} hx h => by
    have fx := hf.d (show x < 2 * n by omega)
    have w : Ends (cstep f (mir f n) n n) (cst n n x) (n + x) := by
      unfold cst; rw [if_pos hx]
      refine .go (cs_tg h) (.stop ?_)
      have e1 : (mir f n).getD (f.getD x 0 - n) 0 = x + n := by
        rw [mir_d _ (by omega), show os n (f.getD x 0 - n) = f.getD x 0 by unfold os; rw [if_pos (by omega)]; omega, fx.2.2.1]
        unfold os; rw [if_pos hx]
      rw [cs_fg (by rw [e1]; omega), e1, show n + (x + n - n) = n + x by omega]
    show (cmp f (mir f n) n n n).getD x 0 = _
    rw [cmp_d _ _ (by omega), cfar_is w]
  have upp : ∀ {x : Nat}, x < n → f.getD x 0 < n → (fol f (mir f n) n).getD x 0 = f.getD x 0 := fun {x} hx h => by
    have w : Ends (cstep f (mir f n) n n) (cst n n x) (f.getD x 0) := by
      unfold cst; rw [if_pos hx]; exact .stop (cs_tl h)
    show (cmp f (mir f n) n n n).getD x 0 = _
    rw [cmp_d _ _ (by omega), cfar_is w]
  have dn : ∀ {x : Nat}, x < n → n ≤ f.getD x 0 → (fol f (mir f n) n).getD (n + x) 0 = x := fun {x} hx h => by
    have := hfm.d (show x < 2 * n by omega)
    rw [up hx h] at this
    exact this.2.2.1
  refine cmp_ext (by rw [hf.len]; omega) fun e he => ?_
  have fe := hf.d (show e < 2 * n by omega)
  unfold cst
  by_cases c : e < n
  · rw [if_pos c]
    by_cases q : f.getD e 0 < n
    · have := cs_tl (f := fol f (mir f n) n) (g := f) (m := n) (n := n) (z := e) (by rw [upp c q]; exact q)
      rw [upp c q] at this; exact .stop this
    · have u := up c (by omega)
      refine .go (t := (false, e)) ?_ (.stop ?_)
      · rw [cs_tg (by rw [u]; omega), u, show n + e - n = e by omega]
      · rw [cs_fg (by omega), show n + (f.getD e 0 - n) = f.getD e 0 by omega]
  · rw [if_neg c, show n + (e - n) = e by omega]
    by_cases q : f.getD e 0 < n
    · have u := dn q (by rw [fe.2.2.1]; omega)
      refine .go (cs_fl q) (.stop ?_)
      rw [cs_tl (by rw [u]; exact q), u]
    · refine .stop ?_
      rw [cs_fg (by omega), show n + (f.getD e 0 - n) = f.getD e 0 by omega]
/-! ### a walk counted -/
inductive EndsN {S Y : Type} (step : S → S ⊕ Y) : Nat → S → Y → Prop
  | stop {s : S} {y : Y} : step s = .inr y → EndsN step 0 s y
  | go {t : Nat} {s u : S} {y : Y} : step s = .inl u → EndsN step t u y → EndsN step (t + 1) s y
theorem Ends.count {S Y : Type} {step : S → S ⊕ Y} {s : S} {y : Y} (h : Ends step s y) : ∃ t, EndsN step t s y := by
  induction h with
  | stop h => exact ⟨0, .stop h⟩
  | go h _ ih =>
    obtain ⟨t, ht⟩ := ih
    exact ⟨t + 1, .go h ht⟩
end Pc
namespace Pc
open PySem PySem.Spec PyProof.Rows L2 RZ
/-- x //= c -/
def ipHalf : TIp := fun x y H Q => ∃ i j, x = .int i ∧ y = .int j ∧ (0 < j ∧ j < 1073741824) ∧ Q (.int (i / j)) H
theorem ip_half {X : Cx} : PIp X .FloorDiv ipHalf := by
  intro pins s σ H x y v u Q I r1 r2 h
  obtain ⟨i, j, e1, e2, hj, q⟩ := h
  subst e1 e2
  obtain ⟨t, rfl⟩ := r1
  obtain ⟨t', rfl⟩ := r2
  refine PyProof.Rows.ifloordiv_int (by omega) ?_ (.inl (PyProof.noPylong_small (by omega)))
  rw [Int.fdiv_eq_ediv_of_nonneg i (by omega)]
  exact ⟨.int _, H, I.tok _, ⟨_, rfl⟩, q⟩
theorem bl_dec (a b : Bool) : decide (V.bl a = V.bl b) = (a == b) := by cases a <;> cases b <;> rfl
end Pc
namespace Pc
theorem iteY {b : Bool} {A B : Prop} (h : b = true) (a : A) : if b = true then A else B := by rw [if_pos h]; exact a
theorem iteX {b : Bool} {A B : Prop} (h : b = false) (a : B) : if b = true then A else B := by rw [h, if_neg Bool.false_ne_true]; exact a
end Pc
namespace Pc
/-! ### how many strands -/
theorem sts_ups {n : Nat} {fs : List Nat} (h : IsPair (2 * n) fs) : 2 * (ups fs n).length + (sts fs n).length = n := by
  have hp := jns_perm h
  have hc := hp.countP_eq (fun z => decide (z < n))
  rw [range_low] at hc
  unfold jns at hc
  have x1 : (flat (ups fs n)).countP (fun z => decide (z < n)) = 2 * (ups fs n).length := flat_two fun p hp => by
    have := ups_mem h hp
    exact ⟨decide_eq_true (by omega), decide_eq_true (by omega)⟩
  have x2 : (flat ((los fs n).map (fun p => (n + p.1, n + p.2)))).countP (fun z => decide (z < n)) = 0 := flat_none fun p hp => by
    obtain ⟨r, hr, rfl⟩ := List.mem_map.mp hp
    exact ⟨decide_eq_false (by show ¬ n + r.1 < n; omega), decide_eq_false (by show ¬ n + r.2 < n; omega)⟩
  have x3 : (flat ((sts fs n).map (fun p => (p.1, n + p.2)))).countP (fun z => decide (z < n)) = ((sts fs n).map (fun p => (p.1, n + p.2))).length := flat_one fun p hp => by
    obtain ⟨r, hr, rfl⟩ := List.mem_map.mp hp
    have := sts_mem h hr
    exact ⟨decide_eq_true (by show r.1 < n; omega), decide_eq_false (by show ¬ n + r.2 < n; omega)⟩
  rw [flat_app, flat_app, List.countP_append, List.countP_append, x1, x2, x3, List.length_map] at hc
  omega
theorem sel_len {c d : Nat → Bool} {g k : Nat → Nat × Nat} {n : Nat} (h : ∀ x, x < n → c x = d x) : (selN c g n).length = (selN d k n).length := by
  unfold selN
  rw [List.length_map, List.length_map]
  exact congrArg List.length (List.filter_congr fun x hx => h x (List.mem_range.mp hx))
theorem sel_le {c d : Nat → Bool} {g k : Nat → Nat × Nat} {n : Nat} (h : ∀ x, x < n → c x = true → d x = true) : (selN c g n).length ≤ (selN d k n).length := by
  unfold selN
  rw [List.length_map, List.length_map, ← List.countP_eq_length_filter, ← List.countP_eq_length_filter]
  exact List.countP_mono_left fun x hx => h x (List.mem_range.mp hx)
theorem ups_mir {n : Nat} {f : List Nat} (hf : IsPair (2 * n) f) : (ups (mir f n) n).length = (los f n).length := by
  refine sel_len fun x hx => ?_
  have fx := hf.d (show n + x < 2 * n by omega)
  have e : (mir f n).getD x 0 = os n (f.getD (n + x) 0) := by rw [mir_d f (by omega), show os n x = n + x by unfold os; rw [if_pos hx]; omega]
  unfold upC loC
  rw [e]
  by_cases c : f.getD (n + x) 0 < n
  · rw [show os n (f.getD (n + x) 0) = f.getD (n + x) 0 + n by unfold os; rw [if_pos c], decide_eq_false (show ¬ f.getD (n + x) 0 + n < n by omega), decide_eq_false (show ¬ n + x < f.getD (n + x) 0 by omega), Bool.and_false]
  · rw [show os n (f.getD (n + x) 0) = f.getD (n + x) 0 - n by unfold os; rw [if_neg c], decide_eq_true (show f.getD (n + x) 0 - n < n by omega), Bool.and_true]
    by_cases q : n + x < f.getD (n + x) 0
    · rw [decide_eq_true q, decide_eq_true (by omega)]
    · rw [decide_eq_false q, decide_eq_false (by omega)]
theorem sts_mir {n : Nat} {f : List Nat} (hf : IsPair (2 * n) f) : (sts (mir f n) n).length = (sts f n).length := by
  have a := sts_ups hf
  have b := sts_ups (mir_pair hf)
  rw [ups_mir hf, ← ups_los hf] at b
  omega
theorem sts_fol {n : Nat} {f g : List Nat} : (sts (fol f g n) n).length ≤ (sts f n).length := by
  refine sel_le fun x hx h => ?_
  unfold stC at h ⊢
  by_cases c : f.getD x 0 < n
  · have w : Ends (cstep f g n n) (cst n n x) (f.getD x 0) := by unfold cst; rw [if_pos hx]; exact .stop (cs_tl c)
    have e : (fol f g n).getD x 0 = f.getD x 0 := by show (cmp f g n n n).getD x 0 = _; rw [cmp_d _ _ (by omega), cfar_is w]
    rw [e, decide_eq_false (by omega)] at h; cases h
  · exact decide_eq_true (by omega)
theorem sts_fol' {n : Nat} {f g : List Nat} (hf : IsPair (2 * n) f) (hg : IsPair (2 * n) g) : (sts (fol f g n) n).length ≤ (sts g n).length := by
  rw [← sts_mir (fol_pair hf hg), mir_fol hf hg, ← sts_mir hg]
  exact sts_fol
end Pc
namespace Pc
open PySem PySem.Spec PyProof.Rows L2 RZ
theorem room65 {k : Nat} {A : Around} (r : Room k A) : A.units + 65 < cLine := by have := r.un; omega
/-- x *= c, both small -/
def ipMul : TIp := fun x y H Q => ∃ i j, x = .int i ∧ y = .int j ∧ CMul i j ∧ Q (.int (i * j)) H
theorem ip_mul {X : Cx} : PIp X .Mult ipMul := by
  intro pins s σ H x y v u Q I r1 r2 h
  obtain ⟨i, j, e1, e2, hj, q⟩ := h
  subst e1 e2
  obtain ⟨t, rfl⟩ := r1
  obtain ⟨t', rfl⟩ := r2
  exact PyProof.Rows.imul_int ⟨.int _, H, I.tok _, ⟨_, rfl⟩, q⟩ hj.ok
end Pc
namespace Pc
/-! ### counting -/
theorem cnt_same {p q : Nat → Bool} {n : Nat} (h : ∀ y, y < n → q y = p y) : (List.range n).countP q = (List.range n).countP p :=
  List.countP_congr fun x hx => by rw [h x (List.mem_range.mp hx)]
theorem cnt_off {p q : Nat → Bool} {a : Nat} : ∀ {n : Nat}, (∀ y, y < n → y ≠ a → q y = p y) → a < n → p a = true → q a = false → (List.range n).countP q + 1 = (List.range n).countP p
  | 0, _, h, _, _ => absurd h (Nat.not_lt_zero _)
  | n + 1, h, ha, h1, h2 => by
    rw [List.range_succ, List.countP_append, List.countP_append]
    by_cases e : a = n
    · subst e
      rw [cnt_same (p := p) (q := q) (fun y hy => h y (by omega) (by omega)), List.countP_cons_of_neg (by rw [h2]; decide), List.countP_cons_of_pos h1]
      rfl
    · have ih := cnt_off (p := p) (q := q) (a := a) (n := n) (fun y hy hn => h y (by omega) hn) (by omega) h1 h2
      have e1 : [n].countP q = [n].countP p := by
        have := h n (by omega) (fun z => e z.symm)
        by_cases c : p n = true
        · rw [List.countP_cons_of_pos c, List.countP_cons_of_pos (by rw [this]; exact c)]; rfl
        · rw [List.countP_cons_of_neg c, List.countP_cons_of_neg (by rw [this]; exact c)]; rfl
      rw [e1]
      omega
/-! ### the people at the lower ends of strands -/
def lsC (f : List Nat) (n y : Nat) : Bool := decide (f.getD (n + y) 0 < n)
def lse (f : List Nat) (n : Nat) : List Nat := (List.range n).filter (lsC f n)
theorem lse_len {f : List Nat} {n : Nat} (hf : IsPair (2 * n) f) : (lse f n).length = (sts f n).length := by
  rw [← sts_mir hf]
  unfold lse sts selN
  rw [List.length_map]
  refine congrArg List.length (List.filter_congr fun x hx => ?_)
  have hx := List.mem_range.mp hx
  have fx := hf.d (show n + x < 2 * n by omega)
  have e : (mir f n).getD x 0 = os n (f.getD (n + x) 0) := by rw [mir_d f (by omega), show os n x = n + x by unfold os; rw [if_pos hx]; omega]
  unfold lsC stC
  rw [e]
  by_cases c : f.getD (n + x) 0 < n
  · rw [decide_eq_true c, show os n (f.getD (n + x) 0) = f.getD (n + x) 0 + n by unfold os; rw [if_pos c], decide_eq_true (by omega)]
  · rw [decide_eq_false c, show os n (f.getD (n + x) 0) = f.getD (n + x) 0 - n by unfold os; rw [if_neg c], decide_eq_false (by omega)]
theorem lse_cnt (f : List Nat) (n : Nat) : (lse f n).length = (List.range n).countP (lsC f n) := (List.countP_eq_length_filter ..).symm
/-- a call takes two strands if both people's lower ends are strands, else none -/
theorem lse_jn {f : List Nat} {n a b : Nat} (hf : IsPair (2 * n) f) (hab : a ≠ b) (ha : a < n) (hb : b < n) : (lse (jn f (n + a) (n + b)) n).length + (if (lsC f n a && lsC f n b) = true then 2 else 0) = (lse f n).length := by
  rw [lse_cnt, lse_cnt]
  have fa := hf.d (show n + a < 2 * n by omega)
  have fb := hf.d (show n + b < 2 * n by omega)
  by_cases hc : f.getD (n + a) 0 = n + b
  · rw [jn_same (hf.ofd (by omega) hc), if_neg, Nat.add_zero]
    unfold lsC
    rw [hc, decide_eq_false (show ¬ n + b < n by omega), Bool.false_and]
    decide
  · have G := jn_get hf (show n + a ≠ n + b by omega) fa.2.2.2 fb.2.2.2 hc
    have D : ∀ z, (jn f (n + a) (n + b)).getD z 0 = ((jn f (n + a) (n + b))[z]?).getD 0 := fun z => List.getD_eq_getElem?_getD
    obtain ⟨x1, x2, x3, x4, _⟩ := four hf (show n + a ≠ n + b by omega) fa.2.2.2 fb.2.2.2 hc
    have pa : lsC (jn f (n + a) (n + b)) n a = false := by
      unfold lsC; rw [D, G, if_pos rfl]; exact decide_eq_false (by show ¬ n + b < n; omega)
    have pb : lsC (jn f (n + a) (n + b)) n b = false := by
      unfold lsC; rw [D, G, if_neg (by omega), if_pos rfl]; exact decide_eq_false (by show ¬ n + a < n; omega)
    have same : ∀ y, y ≠ a → y ≠ b → n + y ≠ f.getD (n + a) 0 → n + y ≠ f.getD (n + b) 0 → lsC (jn f (n + a) (n + b)) n y = lsC f n y := fun y h1 h2 h3 h4 => by
      unfold lsC; rw [D, G, if_neg (by omega), if_neg (by omega), if_neg h3, if_neg h4, ← List.getD_eq_getElem?_getD]
    by_cases ca : f.getD (n + a) 0 < n
    · by_cases cb : f.getD (n + b) 0 < n
      · have qa : lsC f n a = true := decide_eq_true ca
        have qb : lsC f n b = true := decide_eq_true cb
        rw [qa, qb, Bool.and_true, if_pos rfl]
        have s1 := cnt_off (p := lsC f n) (q := fun y => if y = a then false else lsC f n y) (a := a) (n := n) (fun y _ h => if_neg h) ha qa (if_pos rfl)
        have s2 := cnt_off (p := fun y => if y = a then false else lsC f n y) (q := lsC (jn f (n + a) (n + b)) n) (a := b) (n := n) (fun y _ h => by
          by_cases e : y = a
          · rw [e, if_pos rfl]; exact pa
          · rw [if_neg e]; exact same y e h (by omega) (by omega)) hb (by rw [if_neg (Ne.symm hab)]; exact qb) pb
        omega
      · have qb : lsC f n b = false := decide_eq_false cb
        have qa : lsC f n a = true := decide_eq_true ca
        rw [qa, qb, if_neg (by decide), Nat.add_zero]
        -- the one at the other end of b's pair gets the strand
        have hv : f.getD (n + b) 0 - n < n := by omega
        have ev : n + (f.getD (n + b) 0 - n) = f.getD (n + b) 0 := by omega
        have qv : lsC f n (f.getD (n + b) 0 - n) = false := by unfold lsC; rw [ev, fb.2.2.1]; exact decide_eq_false (by omega)
        have pv : lsC (jn f (n + a) (n + b)) n (f.getD (n + b) 0 - n) = true := by
          unfold lsC; rw [ev, D, G, if_neg x3, if_neg x2, if_neg (Ne.symm x4), if_pos rfl]; exact decide_eq_true ca
        have s1 := cnt_off (p := lsC f n) (q := fun y => if y = a then false else lsC f n y) (a := a) (n := n) (fun y _ h => if_neg h) ha qa (if_pos rfl)
        have va : f.getD (n + b) 0 - n ≠ a := fun z => by rw [z, qa] at qv; cases qv
        have s2 := cnt_off (q := fun y => if y = a then false else lsC f n y) (p := lsC (jn f (n + a) (n + b)) n) (a := f.getD (n + b) 0 - n) (n := n) (fun y _ h => by
          by_cases e : y = a
          · rw [e, if_pos rfl]; exact pa.symm
          · rw [if_neg e]
            by_cases e2 : y = b
            · rw [e2, pb, qb]
            · exact (same y e e2 (by omega) (by omega)).symm) hv pv (by rw [if_neg va]; exact qv)
        omega
    · have qa : lsC f n a = false := decide_eq_false ca
      by_cases cb : f.getD (n + b) 0 < n
      · have qb : lsC f n b = true := decide_eq_true cb
        rw [qa, qb, if_neg (by decide), Nat.add_zero]
        have hv : f.getD (n + a) 0 - n < n := by omega
        have ev : n + (f.getD (n + a) 0 - n) = f.getD (n + a) 0 := by omega
        have qv : lsC f n (f.getD (n + a) 0 - n) = false := by unfold lsC; rw [ev, fa.2.2.1]; exact decide_eq_false (by omega)
        have pv : lsC (jn f (n + a) (n + b)) n (f.getD (n + a) 0 - n) = true := by
          unfold lsC; rw [ev, D, G, if_neg x1, if_neg hc, if_pos rfl]; exact decide_eq_true cb
        have s1 := cnt_off (p := lsC f n) (q := fun y => if y = b then false else lsC f n y) (a := b) (n := n) (fun y _ h => if_neg h) hb qb (if_pos rfl)
        have vb : f.getD (n + a) 0 - n ≠ b := fun z => by rw [z, qb] at qv; cases qv
        have s2 := cnt_off (q := fun y => if y = b then false else lsC f n y) (p := lsC (jn f (n + a) (n + b)) n) (a := f.getD (n + a) 0 - n) (n := n) (fun y _ h => by
          by_cases e : y = b
          · rw [e, if_pos rfl]; exact pb.symm
          · rw [if_neg e]
            by_cases e2 : y = a
            · rw [e2, pa, qa]
            · exact (same y e2 e (by omega) (by omega)).symm) hv pv (by rw [if_neg vb]; exact qv)
        omega
      · have qb : lsC f n b = false := decide_eq_false cb
        rw [qa, qb, if_neg (by decide), Nat.add_zero]
        refine cnt_same fun y hy => ?_
        by_cases e1 : y = a
        · rw [e1, pa, qa]
        · by_cases e2 : y = b
          · rw [e2, pb, qb]
          · by_cases e3 : n + y = f.getD (n + a) 0
            · have h1 : lsC f n y = false := by unfold lsC; rw [e3, fa.2.2.1]; exact decide_eq_false (by omega)
              have h2 : lsC (jn f (n + a) (n + b)) n y = false := by unfold lsC; rw [e3, D, G, if_neg x1, if_neg hc, if_pos rfl]; exact decide_eq_false cb
              rw [h1, h2]
            · by_cases e4 : n + y = f.getD (n + b) 0
              · have h1 : lsC f n y = false := by unfold lsC; rw [e4, fb.2.2.1]; exact decide_eq_false (by omega)
                have h2 : lsC (jn f (n + a) (n + b)) n y = false := by unfold lsC; rw [e4, D, G, if_neg x3, if_neg x2, if_neg (Ne.symm x4), if_pos rfl]; exact decide_eq_false ca
                rw [h1, h2]
              · exact same y e1 e2 e3 e4
/-! ### how many pairings -/
def dfac : Nat → Nat
  | 0 => 1
  | r + 1 => dfac r * (2 * r + 1)
theorem dfac_pos : ∀ r, 0 < dfac r
  | 0 => Nat.one_pos
  | r + 1 => Nat.mul_pos (dfac_pos r) (by omega)
theorem dfac_dvd (r : Nat) : ∀ k, dfac r ∣ dfac (r + k)
  | 0 => Nat.dvd_refl _
  | k + 1 => Nat.dvd_trans (dfac_dvd r k) ⟨2 * (r + k) + 1, rfl⟩
end Pc
namespace Pc
open PySem PySem.Spec PyProof.Rows L2 RZ
theorem in_nat (i : Nat) (l : List Nat) : inV (.int (i : Int)) (nv l) = decide (i ∈ l) := by
  unfold inV nv
  rw [List.any_map, Bool.eq_iff_iff, List.any_eq_true, decide_eq_true_iff]
  constructor
  · rintro ⟨x, hx, e⟩
    have e' : eqV (.int (x : Int)) (.int (i : Int)) = true := e
    have : (x : Int) = (i : Int) := by simpa [eqV] using e'
    have : x = i := by omega
    exact this ▸ hx
  · intro h
    exact ⟨i, h, by show eqV (.int (i : Int)) (.int (i : Int)) = true; simp [eqV]⟩
theorem flat_nat (l : List Nat) : (nv l).all flatV = true := by
  unfold nv
  rw [List.all_map, List.all_eq_true]
  exact fun x _ => rfl
theorem mem_data {ps : List (Nat × Nat)} {p : Nat × Nat} (h : p ∈ ps) : ((ps.map pd).any fun z => PyData.eqv z (pd p)) = true := by
  rw [List.any_eq_true]
  exact ⟨pd p, List.mem_map.mpr ⟨p, h, rfl⟩, PySem.SeqAt.eqv_refl _ rfl⟩
/-! ### a call and the pairs of a sheet -/
theorem los_jn {f : List Nat} {n a b : Nat} (hf : IsPair (2 * n) f) (hab : a < b) (hb : b < n) : (a, b) ∈ los (jn f (n + a) (n + b)) n := by
  have e : (jn f (n + a) (n + b)).getD (n + a) 0 = n + b := by
    have fa := hf.d (show n + a < 2 * n by omega)
    have fb := hf.d (show n + b < 2 * n by omega)
    by_cases hc : f.getD (n + a) 0 = n + b
    · rw [jn_same (hf.ofd (by omega) hc), hc]
    · exact getD_of (by rw [jn_get hf (by omega) fa.2.2.2 fb.2.2.2 hc, if_pos rfl])
  refine selN_mem.mpr ⟨a, by omega, ?_, ?_⟩
  · unfold loC; rw [e]; exact decide_eq_true (by omega)
  · unfold loG; rw [e, Nat.add_sub_cancel_left]
theorem ups_jn {f : List Nat} {n a b : Nat} (hf : IsPair (2 * n) f) (hab : a < b) (hb : b < n) {p : Nat × Nat} (hp : p ∈ ups f n) : p ∈ ups (jn f (n + a) (n + b)) n := by
  obtain ⟨x, hx, c, e⟩ := selN_mem.mp hp
  unfold upC at c
  rw [Bool.and_eq_true, decide_eq_true_iff, decide_eq_true_iff] at c
  have fa := hf.d (show n + a < 2 * n by omega)
  have fb := hf.d (show n + b < 2 * n by omega)
  have fx := hf.d (show x < 2 * n by omega)
  have e2 : (jn f (n + a) (n + b)).getD x 0 = f.getD x 0 := by
    by_cases hc : f.getD (n + a) 0 = n + b
    · rw [jn_same (hf.ofd (by omega) hc)]
    · refine getD_of ?_
      rw [jn_get hf (by omega) fa.2.2.2 fb.2.2.2 hc, if_neg (by omega), if_neg (by omega), if_neg (fun z => by rw [z, fa.2.2.1] at c; omega), if_neg (fun z => by rw [z, fb.2.2.1] at c; omega)]
      exact fx.2.2.2
  refine selN_mem.mpr ⟨x, hx, ?_, ?_⟩
  · unfold upC; rw [e2, decide_eq_true c.1, decide_eq_true c.2]; rfl
  · rw [← e]; unfold upG; rw [e2]
theorem low_lows {f : List Nat} {n y : Nat} (hf : IsPair (2 * n) f) (hy : y < n) : decide (y ∈ (sts f n).map Prod.snd) = lsC f n y := by
  have fy := hf.d (show n + y < 2 * n by omega)
  unfold lsC
  rw [decide_eq_decide]
  constructor
  · intro h
    obtain ⟨p, hp, e⟩ := List.mem_map.mp h
    obtain ⟨h1, h2, h3⟩ := sts_mem hf hp
    have := (hf.back h1).1
    rw [e] at this
    rw [getD_of this]; exact h2
  · intro h
    refine List.mem_map.mpr ⟨(f.getD (n + y) 0, y), ?_, rfl⟩
    refine selN_mem.mpr ⟨f.getD (n + y) 0, h, ?_, ?_⟩
    · unfold stC; rw [fy.2.2.1]; exact decide_eq_true (by omega)
    · unfold stG; rw [fy.2.2.1, Nat.add_sub_cancel_left]
theorem rd_los {f ps : List Nat} {n : Nat} (hf : IsPair (2 * n) f) {p : Nat × Nat} (hp : p ∈ los f n) : (rd f ps n)[p.1]? = some p.2 := by
  obtain ⟨h1, h2, h3⟩ := los_mem hf hp
  have e := getD_of h1
  have t := Trail.stop (fs := f) (ps := ps) (n := n) (z := n + p.1) (by rw [e]; omega)
  rw [rd_get f ps (by omega), far_is t, e]
  show some (n + p.2 - n) = _
  rw [Nat.add_sub_cancel_left]
theorem jn_idem {n : Nat} {fs : List Nat} (hP : IsPair n fs) {a b : Nat} (hab : a ≠ b) (ha : a < n) (hb : b < n) : jn (jn fs a b) a b = jn fs a b := by
  have fa := hP.d ha
  have fb := hP.d hb
  refine jn_same ?_
  by_cases hc : fs.getD a 0 = b
  · rw [jn_same (hP.ofd ha hc)]; exact hP.ofd ha hc
  · rw [jn_get hP hab fa.2.2.2 fb.2.2.2 hc, if_pos rfl]
end Pc
namespace Pc
/-! ### words that settle -/
def sw : List Nat → List (Nat × Nat)
  | a :: b :: c :: r => (a, b) :: sw (c :: r)
  | _ => []
theorem sw_eq : ∀ l : List Nat, sw l = (List.range ((l.length - 1) / 2)).map fun i => (l.getD (2 * i) 0, l.getD (2 * i + 1) 0)
  | [] => rfl
  | [_] => by simp [sw]
  | [_, _] => by simp [sw]
  | a :: b :: c :: r => by
    show (a, b) :: sw (c :: r) = _
    rw [sw_eq (c :: r)]
    have e : ((a :: b :: c :: r).length - 1) / 2 = ((c :: r).length - 1) / 2 + 1 := by simp only [List.length_cons]; omega
    rw [e, List.range_succ_eq_map, List.map_cons, List.map_map]
    rfl
theorem sw_len (l : List Nat) : (sw l).length = (l.length - 1) / 2 := by rw [sw_eq, List.length_map, List.length_range]
theorem lse_two {f : List Nat} {n a b : Nat} (hf : IsPair (2 * n) f) (hab : a ≠ b) (ha : a < n) (hb : b < n) (qa : lsC f n a = true) (qb : lsC f n b = true) : lse (jn f (n + a) (n + b)) n = (lse f n).filter (fun y => !decide (y = a) && !decide (y = b)) := by
  have fa := hf.d (show n + a < 2 * n by omega)
  have fb := hf.d (show n + b < 2 * n by omega)
  have ca : f.getD (n + a) 0 < n := of_decide_eq_true qa
  have cb : f.getD (n + b) 0 < n := of_decide_eq_true qb
  have hc : f.getD (n + a) 0 ≠ n + b := by omega
  have G := jn_get hf (show n + a ≠ n + b by omega) fa.2.2.2 fb.2.2.2 hc
  have D : ∀ z, (jn f (n + a) (n + b)).getD z 0 = ((jn f (n + a) (n + b))[z]?).getD 0 := fun z => List.getD_eq_getElem?_getD
  unfold lse
  rw [List.filter_filter]
  refine List.filter_congr fun y _ => ?_
  unfold lsC
  rw [D, G]
  by_cases e1 : y = a
  · rw [if_pos (by omega), decide_eq_true e1]
    show decide (n + b < n) = _
    rw [decide_eq_false (by omega)]; rfl
  · by_cases e2 : y = b
    · rw [if_neg (by omega), if_pos (by omega), decide_eq_true e2]
      show decide (n + a < n) = _
      rw [decide_eq_false (by omega), Bool.not_true, Bool.and_false]; rfl
    · rw [if_neg (by omega), if_neg (by omega), if_neg (by omega), if_neg (by omega), ← List.getD_eq_getElem?_getD, decide_eq_false e1, decide_eq_false e2]
      simp
theorem lse_nodup (f : List Nat) (n : Nat) : (lse f n).Nodup := List.nodup_range.filter _
theorem lse_mem {f : List Nat} {n y : Nat} : y ∈ lse f n ↔ y < n ∧ lsC f n y = true := by
  unfold lse; rw [List.mem_filter, List.mem_range]
theorem settle_end {n : Nat} : ∀ (l : List Nat) {f : List Nat}, IsPair (2 * n) f → lse f n = l → (lse (shw n (sw l) f) n).length ≤ 2 ∧ IsPair (2 * n) (shw n (sw l) f)
  | [], f, hf, h => by
    show (lse f n).length ≤ 2 ∧ IsPair (2 * n) f
    rw [h]; exact ⟨by decide, hf⟩
  | [_], f, hf, h => by
    show (lse f n).length ≤ 2 ∧ IsPair (2 * n) f
    rw [h]; exact ⟨by simp, hf⟩
  | [_, _], f, hf, h => by
    show (lse f n).length ≤ 2 ∧ IsPair (2 * n) f
    rw [h]; exact ⟨by simp, hf⟩
  | a :: b :: c :: r, f, hf, h => by
    have hnd := lse_nodup f n
    rw [h] at hnd
    obtain ⟨n1, hnd2⟩ := List.nodup_cons.mp hnd
    obtain ⟨n2, _⟩ := List.nodup_cons.mp hnd2
    have ma := lse_mem.mp (show a ∈ lse f n by rw [h]; exact List.mem_cons_self)
    have mb := lse_mem.mp (show b ∈ lse f n by rw [h]; exact List.mem_cons_of_mem _ List.mem_cons_self)
    have hab : a ≠ b := fun e => n1 (e ▸ List.mem_cons_self)
    have hj : IsPair (2 * n) (jn f (n + a) (n + b)) := jn_pair hf (by omega) (by omega) (by omega)
    have e : lse (jn f (n + a) (n + b)) n = c :: r := by
      rw [lse_two hf hab ma.1 mb.1 ma.2 mb.2, h, List.filter_cons_of_neg (by simp), List.filter_cons_of_neg (by simp)]
      refine List.filter_eq_self.mpr fun y hy => ?_
      have y1 : y ≠ a := fun z => n1 (z ▸ List.mem_cons_of_mem _ hy)
      have y2 : y ≠ b := fun z => n2 (z ▸ hy)
      rw [decide_eq_false y1, decide_eq_false y2]; rfl
    exact settle_end (c :: r) hj e
theorem sw_calls {n : Nat} {f : List Nat} : ∀ (l : List Nat), l.Pairwise (· < ·) → (∀ x ∈ l, x < n) → Calls n (sw l)
  | [], _, _ => fun q hq => by simp [sw] at hq
  | [_], _, _ => fun q hq => by simp [sw] at hq
  | [_, _], _, _ => fun q hq => by simp [sw] at hq
  | a :: b :: c :: r, hp, hl => fun q hq => by
    rcases List.mem_cons.mp (show q ∈ (a, b) :: sw (c :: r) from hq) with z | z
    · rw [z]
      exact ⟨(List.pairwise_cons.mp hp).1 b List.mem_cons_self, hl b (List.mem_cons_of_mem _ List.mem_cons_self)⟩
    · exact sw_calls (f := f) (c :: r) (List.pairwise_cons.mp (List.pairwise_cons.mp hp).2).2 (fun x hx => hl x (List.mem_cons_of_mem _ (List.mem_cons_of_mem _ hx))) q z
theorem lse_asc (f : List Nat) (n : Nat) : (lse f n).Pairwise (· < ·) := List.pairwise_lt_range.filter _
theorem word_calls (f : List Nat) (n : Nat) : Calls n (sw (lse f n)) := sw_calls (f := f) _ (lse_asc f n) fun x hx => (lse_mem.mp hx).1
/-- who is loose has somebody who is loose -/
theorem rd_loose {f ps : List Nat} {n x : Nat} (hf : IsPair (2 * n) f) (hP : IsPair n ps) (hx : x ∈ lse f n) : (rd f ps n).getD x 0 ∈ lse f n ∧ (rd f ps n).getD x 0 ≠ x := by
  obtain ⟨hxn, hc⟩ := lse_mem.mp hx
  have hR := rd_pair hf hP
  have rx := hR.d hxn
  refine ⟨lse_mem.mpr ⟨rx.1, ?_⟩, rx.2.1⟩
  cases q : lsC f n ((rd f ps n).getD x 0) with
  | true => rfl
  | false =>
    have c : n ≤ f.getD (n + (rd f ps n).getD x 0) 0 := by
      have := of_decide_eq_false q
      omega
    have t := Trail.stop (fs := f) (ps := ps) (n := n) (z := n + (rd f ps n).getD x 0) c
    have e1 : (rd f ps n).getD ((rd f ps n).getD x 0) 0 = f.getD (n + (rd f ps n).getD x 0) 0 - n := by
      refine getD_of ?_
      rw [rd_get f ps rx.1, far_is t]; rfl
    rw [rx.2.2.1] at e1
    have fy := hf.d (show n + (rd f ps n).getD x 0 < 2 * n by omega)
    have e2 : f.getD (n + (rd f ps n).getD x 0) 0 = n + x := by omega
    have e3 := fy.2.2.1
    rw [e2] at e3
    have := of_decide_eq_true hc
    omega
theorem two_same {l : List Nat} (hl : l.length ≤ 2) {x y z : Nat} (hx : x ∈ l) (hy : y ∈ l) (hz : z ∈ l) (h1 : y ≠ x) (h2 : z ≠ x) : y = z := by
  match l, hl with
  | [], _ => simp at hx
  | [u], _ =>
    rw [List.mem_singleton] at hx hy
    exact absurd (hy.trans hx.symm) h1
  | [u, v], _ =>
    simp only [List.mem_cons, List.not_mem_nil, or_false] at hx hy hz
    omega
/-- with two strands at most there is only one result -/
theorem rd_settled {f ps qs : List Nat} {n : Nat} (hf : IsPair (2 * n) f) (hP : IsPair n ps) (hQ : IsPair n qs) (hl : (lse f n).length ≤ 2) : rd f ps n = rd f qs n := by
  refine list_d (by rw [rd_len, rd_len]) fun x hx => ?_
  rw [rd_len] at hx
  by_cases c : lsC f n x = true
  · have hm := lse_mem.mpr ⟨hx, c⟩
    exact two_same hl hm (rd_loose hf hP hm).1 (rd_loose hf hQ hm).1 (rd_loose hf hP hm).2 (rd_loose hf hQ hm).2
  · have c' : n ≤ f.getD (n + x) 0 := by
      apply Classical.byContradiction
      intro h
      exact c (decide_eq_true (by omega))
    have t1 := Trail.stop (fs := f) (ps := ps) (n := n) (z := n + x) c'
    have t2 := Trail.stop (fs := f) (ps := qs) (n := n) (z := n + x) c'
    rw [List.getD_eq_getElem?_getD, List.getD_eq_getElem?_getD, rd_get f ps hx, rd_get f qs hx, far_is t1, far_is t2]
/-- the word of a sheet leads everybody to the same -/
theorem word_settles {f ps qs : List Nat} {n : Nat} (hf : IsPair (2 * n) f) (hP : IsPair n ps) (hQ : IsPair n qs) : runs (sw (lse f n)) (rd f ps n) = runs (sw (lse f n)) (rd f qs n) := by
  obtain ⟨h1, h2⟩ := settle_end (lse f n) hf rfl
  rw [← rd_runs hP _ hf (word_calls f n), ← rd_runs hQ _ hf (word_calls f n)]
  exact rd_settled h2 hP hQ h1
/-- calls of couples make these couples -/
theorem runs_keep {n : Nat} {ps : List Nat} (hP : IsPair n ps) : ∀ (cs : List (Nat × Nat)) {R : List Nat}, IsPair n R → (∀ p ∈ cs, ps[p.1]? = some p.2 ∧ p.1 < p.2) → ∀ x y, ps[x]? = some y → (R.getD x 0 = y ∨ (x, y) ∈ cs ∨ (y, x) ∈ cs) → (runs cs R).getD x 0 = y
  | [], R, _, _, x, y, _, h => by
    rcases h with h | h | h
    · exact h
    · simp at h
    · simp at h
  | (a, b) :: cs, R, hR, hc, x, y, hxy, h => by
    have hab := hc (a, b) List.mem_cons_self
    have h1 : ps[a]? = some b := hab.1
    have hlt : a < b := hab.2
    obtain ⟨b1, b2, b3, b4⟩ := hP.back h1
    have Ra := hR.d b3
    have Rb := hR.d b2
    have hj : IsPair n (jn R a b) := jn_pair hR (by omega) b3 b2
    obtain ⟨x1, x2, x3, x4⟩ := hP.back hxy
    refine runs_keep hP cs (R := jn R a b) hj (fun p hp => hc p (List.mem_cons_of_mem _ hp)) x y hxy ?_
    have ja : (jn R a b).getD a 0 = b ∧ (jn R a b).getD b 0 = a := by
      by_cases c : R.getD a 0 = b
      · rw [jn_same (hR.ofd b3 c)]
        exact ⟨c, by have := Ra.2.2.1; rw [c] at this; exact this⟩
      · have G := jn_get hR (show a ≠ b by omega) Ra.2.2.2 Rb.2.2.2 c
        exact ⟨getD_of (by rw [G, if_pos rfl]), getD_of (by rw [G, if_neg (by omega), if_pos rfl])⟩
    rcases h with h | h | h
    · refine .inl ?_
      by_cases c : R.getD a 0 = b
      · rw [jn_same (hR.ofd b3 c)]; exact h
      · have G := jn_get hR (show a ≠ b by omega) Ra.2.2.2 Rb.2.2.2 c
        have xa : x ≠ a := fun e => by subst e; rw [h1] at hxy; rw [← Option.some.inj hxy] at h; exact c h
        have xb : x ≠ b := fun e => by
          subst e
          rw [b1] at hxy
          rw [← Option.some.inj hxy] at h
          have := Rb.2.2.1
          rw [h] at this; exact c this
        have xc : x ≠ R.getD a 0 := fun e => by
          have : R.getD x 0 = a := by rw [e]; exact Ra.2.2.1
          rw [h] at this
          rw [this, h1] at x1
          exact xb (Option.some.inj x1).symm
        have xd : x ≠ R.getD b 0 := fun e => by
          have : R.getD x 0 = b := by rw [e]; exact Rb.2.2.1
          rw [h] at this
          rw [this, b1] at x1
          exact xa (Option.some.inj x1).symm
        refine getD_of ?_
        rw [G, if_neg xa, if_neg xb, if_neg xc, if_neg xd]
        exact hR.ofd x3 h
    · rcases List.mem_cons.mp h with z | z
      · injection z with z1 z2
        subst z1 z2
        exact .inl ja.1
      · exact .inr (.inl z)
    · rcases List.mem_cons.mp h with z | z
      · injection z with z1 z2
        subst z1 z2
        exact .inl ja.2
      · exact .inr (.inr z)
theorem in_drop {α : Type} {l : List α} {p : α} (h : p ∈ l) : p ∈ l.dropLast ∨ ∃ hn : l ≠ [], p = l.getLast hn := by
  have hn : l ≠ [] := fun e => by rw [e] at h; simp at h
  rw [← List.dropLast_concat_getLast hn] at h
  rcases List.mem_append.mp h with z | z
  · exact .inl z
  · exact .inr ⟨hn, List.mem_singleton.mp z⟩
/-- the couples but the last lead everybody there -/
theorem cpl_runs {n : Nat} {ps q0 : List Nat} (hP : IsPair n ps) (hQ : IsPair n q0) : runs (cpl ps).dropLast q0 = ps := by
  have hc : ∀ p ∈ (cpl ps).dropLast, ps[p.1]? = some p.2 ∧ p.1 < p.2 := fun p hp => (mem_cpl hP).mp (List.dropLast_subset _ hp)
  have hcalls : Calls n (cpl ps).dropLast := fun p hp => by
    have := hc p hp
    exact ⟨this.2, (hP.back this.1).2.1⟩
  have hR := runs_pair _ hQ hcalls
  have good : ∀ {x : Nat}, x < n → ∀ {p : Nat × Nat}, p ∈ (cpl ps).dropLast → (p.1 = x ∨ p.2 = x) → (runs (cpl ps).dropLast q0).getD x 0 = ps.getD x 0 := fun {x} hx {p} hp e => by
    have px := hP.d hx
    have pp := hc p hp
    refine runs_keep hP _ hQ hc x _ px.2.2.2 (.inr ?_)
    rcases e with e | e
    · left
      have : ps.getD x 0 = p.2 := by rw [← e]; exact getD_of pp.1
      rw [this, ← e]; exact hp
    · right
      have : ps.getD x 0 = p.1 := by rw [← e]; exact getD_of (hP.back pp.1).1
      rw [this, ← e]; exact hp
  refine list_d (by rw [hR.len, hP.len]) fun x hx => ?_
  rw [hR.len] at hx
  obtain ⟨p, hp, ep⟩ := cpl_cover hP hx
  rcases in_drop hp with z | ⟨hn, z⟩
  · exact good hx z ep
  · have rx := hR.d hx
    have px := hP.d hx
    obtain ⟨p', hp', ep'⟩ := cpl_cover hP rx.1
    rcases in_drop hp' with z' | ⟨hn', z'⟩
    · have g := good rx.1 z' ep'
      rw [rx.2.2.1] at g
      have := (hP.d rx.1).2.2.1
      rw [← g] at this
      exact this.symm
    · have e : p' = p := z'.trans z.symm
      subst e
      have pp := (mem_cpl hP).mp hp
      have g1 := getD_of pp.1
      have g2 := getD_of (hP.back pp.1).1
      rcases ep with e | e
      · rw [← e, g1]
        rcases ep' with e' | e'
        · exact absurd (e'.symm.trans e).symm (fun w => rx.2.1 w.symm)
        · rw [← e] at e'; exact e'.symm
      · rw [← e, g2]
        rcases ep' with e' | e'
        · rw [← e] at e'; exact e'.symm
        · exact absurd (e'.symm.trans e).symm (fun w => rx.2.1 w.symm)
end Pc
namespace Pc
open PySem PySem.Spec PyProof.Rows L2 RZ
theorem cut_k (vs : List V) (i : Nat) : cutV vs none (some (i : Int)) = vs.take i := by
  unfold cutV
  rw [HT.sIx_none, HT.sIx_nat, List.drop_zero, Nat.sub_zero]
  by_cases h : i ≤ vs.length
  · rw [Nat.min_eq_left h]
  · rw [Nat.min_eq_right (by omega), List.take_of_length_le (Nat.le_refl _), List.take_of_length_le (by omega)]
end Pc
namespace Pc
open PySem PySem.Spec PyProof.Rows L2 RZ
/-! ### pairs that have everybody once make a pairing -/
def prt (qs : List (Nat × Nat)) (z : Nat) : Nat := match qs.find? (fun p => decide (p.1 = z) || decide (p.2 = z)) with
  | some p => if p.1 = z then p.2 else p.1
  | none => 0
def mkp (qs : List (Nat × Nat)) : List Nat := (List.range (2 * qs.length)).map (prt qs)
theorem mkp_len (qs : List (Nat × Nat)) : (mkp qs).length = 2 * qs.length := by unfold mkp; rw [List.length_map, List.length_range]
theorem mkp_get {qs : List (Nat × Nat)} {z : Nat} (h : z < 2 * qs.length) : (mkp qs)[z]? = some (prt qs z) := by unfold mkp; rw [List.getElem?_map, List.getElem?_range h]; rfl
theorem prt_of : ∀ {qs : List (Nat × Nat)}, (flat qs).Nodup → ∀ {p : Nat × Nat}, p ∈ qs → prt qs p.1 = p.2 ∧ prt qs p.2 = p.1
  | [], _, _, h => absurd h List.not_mem_nil
  | q :: qs, hn, p, h => by
    have hn' : (q.1 :: q.2 :: flat qs).Nodup := hn
    rw [List.nodup_cons, List.nodup_cons] at hn'
    obtain ⟨n1, n2, n3⟩ := hn'
    have n12 : q.1 ≠ q.2 := fun e => n1 (by rw [e]; exact List.mem_cons_self)
    have m1 : q.1 ∉ flat qs := fun e => n1 (List.mem_cons_of_mem _ e)
    rcases List.mem_cons.mp h with e | h'
    · subst e
      unfold prt
      rw [List.find?_cons_of_pos (by simp), List.find?_cons_of_pos (by simp)]
      exact ⟨if_pos rfl, if_neg n12⟩
    · have a1 : p.1 ∈ flat qs := flat_mem.mpr ⟨p, h', .inl rfl⟩
      have a2 : p.2 ∈ flat qs := flat_mem.mpr ⟨p, h', .inr rfl⟩
      have c : ∀ z, z ∈ flat qs → prt (q :: qs) z = prt qs z := fun z hz => by
        unfold prt
        rw [List.find?_cons_of_neg]
        intro e
        rw [Bool.or_eq_true, decide_eq_true_eq, decide_eq_true_eq] at e
        rcases e with e | e
        · exact m1 (by rw [e]; exact hz)
        · exact n2 (by rw [e]; exact hz)
      rw [c _ a1, c _ a2]
      exact prt_of n3 h'
theorem makes_mkp {qs : List (Nat × Nat)} (h : (flat qs).Perm (List.range (2 * qs.length))) : Makes qs (mkp qs) where
  half := (mkp_len qs).symm
  ok p hp := by
    have hn : (flat qs).Nodup := h.nodup_iff.mpr List.nodup_range
    have l1 : p.1 < 2 * qs.length := List.mem_range.mp (h.mem_iff.mp (flat_mem.mpr ⟨p, hp, .inl rfl⟩))
    have l2 : p.2 < 2 * qs.length := List.mem_range.mp (h.mem_iff.mp (flat_mem.mpr ⟨p, hp, .inr rfl⟩))
    rw [mkp_get l1, mkp_get l2, (prt_of hn hp).1, (prt_of hn hp).2]
    exact ⟨rfl, rfl⟩
  all z hz := by
    rw [mkp_len] at hz
    obtain ⟨p, hp, e⟩ := flat_mem.mp (h.mem_iff.mpr (List.mem_range.mpr hz))
    exact ⟨p, hp, e.imp Eq.symm Eq.symm⟩
theorem flat_ne {qs : List (Nat × Nat)} (h : (flat qs).Nodup) {p : Nat × Nat} (hp : p ∈ qs) : p.1 ≠ p.2 := by
  induction qs with
  | nil => exact absurd hp List.not_mem_nil
  | cons q r ih =>
    have hn' : (q.1 :: q.2 :: flat r).Nodup := h
    rw [List.nodup_cons, List.nodup_cons] at hn'
    rcases List.mem_cons.mp hp with e | e
    · subst e; exact fun e => hn'.1 (by rw [e]; exact List.mem_cons_self)
    · exact ih hn'.2.2 e
theorem Makes.pair {qs : List (Nat × Nat)} {ps : List Nat} (m : Makes qs ps) (h : ∀ p ∈ qs, p.1 ≠ p.2) : IsPair ps.length ps where
  len := rfl
  par x hx := by
    obtain ⟨p, hp, e⟩ := m.all x hx
    obtain ⟨o1, o2⟩ := m.ok p hp
    have ne := h p hp
    rcases e with e | e
    · subst e; exact ⟨p.2, o1, get_lt o2, fun z => ne z.symm, o2⟩
    · subst e; exact ⟨p.1, o2, get_lt o1, ne, o1⟩
theorem mkp_pair {qs : List (Nat × Nat)} (h : (flat qs).Perm (List.range (2 * qs.length))) : IsPair (2 * qs.length) (mkp qs) := by
  have := (makes_mkp h).pair fun p hp => flat_ne (h.nodup_iff.mpr List.nodup_range) hp
  rw [mkp_len] at this
  exact this
/-- what the same pairs make is one -/
theorem Makes.one {qs : List (Nat × Nat)} {ps rs : List Nat} (m : Makes qs ps) (k : Makes qs rs) : ps = rs := by
  have hl : ps.length = rs.length := by rw [← m.half, k.half]
  refine List.ext_getElem? fun z => ?_
  by_cases hz : z < ps.length
  · obtain ⟨p, hp, e⟩ := m.all z hz
    rcases e with e | e
    · rw [← e, (m.ok p hp).1, (k.ok p hp).1]
    · rw [← e, (m.ok p hp).2, (k.ok p hp).2]
  · rw [List.getElem?_eq_none (by omega), List.getElem?_eq_none (by omega)]
/-! ### the pairing with a number -/
def una : Nat → List Nat → Nat → List (Nat × Nat)
  | 0, _, _ => []
  | j + 1, l, k => (l.getD 0 0, l.tail.getD (k / dfac j) 0) :: una j (l.tail.eraseIdx (k / dfac j)) (k % dfac j)
theorem una_len : ∀ (j : Nat) (l : List Nat) (k : Nat), (una j l k).length = j
  | 0, _, _ => rfl
  | j + 1, l, k => by
    show (una j _ _).length + 1 = j + 1
    rw [una_len j]
theorem choice_lt {j k : Nat} (h : k < dfac (j + 1)) : k / dfac j < 2 * j + 1 := by
  rw [Nat.div_lt_iff_lt_mul (dfac_pos j), Nat.mul_comm]
  exact h
theorem flat_una : ∀ (j : Nat) {l : List Nat} {k : Nat}, l.length = 2 * j → k < dfac j → (flat (una j l k)).Perm l
  | 0, l, k, hl, _ => by
    have : l = [] := List.length_eq_zero_iff.mp (by omega)
    subst this
    exact List.Perm.refl _
  | j + 1, [], k, hl, _ => by simp at hl
  | j + 1, x :: t, k, hl, hk => by
    have ht : t.length = 2 * j + 1 := by rw [List.length_cons] at hl; omega
    have hc := choice_lt hk
    have e : t.getD (k / dfac j) 0 = t[k / dfac j]'(by omega) := by rw [List.getD_eq_getElem?_getD, List.getElem?_eq_getElem (by omega)]; rfl
    show (x :: t.getD (k / dfac j) 0 :: flat (una j (t.eraseIdx (k / dfac j)) (k % dfac j))).Perm (x :: t)
    rw [e]
    refine List.Perm.cons x (((flat_una j (by rw [List.length_eraseIdx, if_pos (by omega)]; omega) (Nat.mod_lt _ (dfac_pos j))).cons _).trans (perm_erase (by omega)))
def pat (r k : Nat) : List Nat := mkp (una r (List.range (2 * r)) k)
theorem una_flat {r k : Nat} (hk : k < dfac r) : (flat (una r (List.range (2 * r)) k)).Perm (List.range (2 * (una r (List.range (2 * r)) k).length)) := by
  rw [una_len]
  exact flat_una r (by rw [List.length_range]) hk
theorem pat_pair {r k : Nat} (hk : k < dfac r) : IsPair (2 * r) (pat r k) := by
  have := mkp_pair (una_flat hk)
  rw [una_len] at this
  exact this
theorem pat_makes {r k : Nat} (hk : k < dfac r) : Makes (una r (List.range (2 * r)) k) (pat r k) := makes_mkp (una_flat hk)
end Pc
namespace Pc
open PySem PySem.Spec PyProof.Rows L2 RZ
/-! ### results by number -/
theorem lse_le (f : List Nat) (n : Nat) : (lse f n).length ≤ n := Nat.le_trans (List.length_filter_le _ _) (by rw [List.length_range]; exact Nat.le_refl _)
theorem los_in {f : List Nat} {n x y : Nat} (hf : IsPair (2 * n) f) (hx : x < n) (e : f.getD (n + x) 0 = n + y) (hxy : x < y) : (x, y) ∈ los f n := by
  unfold los
  rw [selN_mem]
  refine ⟨x, hx, ?_, ?_⟩
  · unfold loC; rw [e]; exact decide_eq_true (by omega)
  · unfold loG; rw [e]; congr 1; omega
theorem flat_shift (n : Nat) : ∀ qs : List (Nat × Nat), flat (qs.map fun p => (n + p.1, n + p.2)) = (flat qs).map (n + ·)
  | [] => rfl
  | p :: r => by
    show (n + p.1) :: (n + p.2) :: flat (r.map fun p => (n + p.1, n + p.2)) = _
    rw [flat_shift n r]; rfl
theorem nodup_of_map {α β : Type} (g : α → β) : ∀ {l : List α}, (l.map g).Nodup → l.Nodup
  | [], _ => List.nodup_nil
  | x :: r, h => by
    have h' : (g x :: r.map g).Nodup := h
    rw [List.nodup_cons] at h'
    exact List.nodup_cons.mpr ⟨fun m => h'.1 (List.mem_map.mpr ⟨x, m, rfl⟩), nodup_of_map g h'.2⟩
theorem nodup_map {α β : Type} {g : α → β} (inj : ∀ a b, g a = g b → a = b) : ∀ {l : List α}, l.Nodup → (l.map g).Nodup
  | [], _ => List.nodup_nil
  | x :: r, h => by
    rw [List.nodup_cons] at h
    refine List.nodup_cons.mpr ⟨fun m => ?_, nodup_map inj h.2⟩
    obtain ⟨y, hy, e⟩ := List.mem_map.mp m
    rw [inj _ _ e] at hy
    exact h.1 hy
theorem los_perm {f : List Nat} {n : Nat} (hf : IsPair (2 * n) f) : (flat (los f n) ++ lse f n).Perm (List.range n) := by
  have hlo : ∀ {z : Nat}, z ∈ flat (los f n) → z < n ∧ n ≤ f.getD (n + z) 0 := fun {z} hz => by
    obtain ⟨p, hp, e⟩ := flat_mem.mp hz
    obtain ⟨e1, e2, e3⟩ := los_mem hf hp
    rcases e with e | e
    · subst e; rw [getD_of e1]; omega
    · subst e; rw [getD_of (hf.back e1).1]; omega
  have nd1 : (flat (los f n)).Nodup := by
    refine nodup_of_map (n + ·) ?_
    rw [← flat_shift]
    refine flat_nodup hf (fun p hp => ?_) ?_
    · obtain ⟨q, hq, e⟩ := List.mem_map.mp hp
      obtain ⟨e1, e2, _⟩ := los_mem hf hq
      rw [← e]
      exact ⟨e1, by show n + q.1 < n + q.2; omega⟩
    · rw [List.map_map]
      have : ((los f n).map Prod.fst).Nodup := by
        unfold los
        rw [sel_fst (g := loG f n) (fun x => rfl)]
        exact List.nodup_range.filter _
      have e : (los f n).map (Prod.fst ∘ fun p => (n + p.1, n + p.2)) = ((los f n).map Prod.fst).map (n + ·) := by rw [List.map_map]; rfl
      rw [e]
      exact nodup_map (fun a b (h : n + a = n + b) => by omega) this
  refine (List.perm_ext_iff_of_nodup (List.nodup_append.mpr ⟨nd1, lse_nodup f n, fun a ha b hb e => ?_⟩) List.nodup_range).mpr fun z => ?_
  · subst e
    have h1 := (hlo ha).2
    have h2 := of_decide_eq_true (lse_mem.mp hb).2
    omega
  · rw [List.mem_append, List.mem_range]
    constructor
    · rintro (h | h)
      · exact (hlo h).1
      · exact (lse_mem.mp h).1
    · intro hz
      have d := hf.d (show n + z < 2 * n by omega)
      by_cases c : f.getD (n + z) 0 < n
      · exact .inr (lse_mem.mpr ⟨hz, decide_eq_true c⟩)
      · refine .inl (flat_mem.mpr ?_)
        obtain ⟨y, ey⟩ : ∃ y, f.getD (n + z) 0 = n + y := ⟨f.getD (n + z) 0 - n, by omega⟩
        rw [ey] at d
        by_cases c2 : z < y
        · exact ⟨_, los_in hf hz ey c2, .inl rfl⟩
        · exact ⟨_, los_in hf (show y < n by omega) d.2.2.1 (by omega), .inr rfl⟩
theorem cpl_flat {n : Nat} {ps : List Nat} (h : IsPair n ps) : (flat (cpl ps)).Perm (List.range n) := by
  have nd : ((cpl ps).map Prod.fst).Nodup := by
    unfold cpl cplN
    rw [List.map_map]
    have : (Prod.fst ∘ fun x => (x, ps.getD x 0)) = (id : Nat → Nat) := rfl
    rw [this, List.map_id]
    exact List.nodup_range.filter _
  refine (List.perm_ext_iff_of_nodup (flat_nodup h (fun p hp => (mem_cpl h).mp hp) nd) List.nodup_range).mpr fun z => ?_
  rw [flat_mem, List.mem_range]
  constructor
  · rintro ⟨p, hp, e⟩
    obtain ⟨b1, b2, b3, _⟩ := h.back ((mem_cpl h).mp hp).1
    rcases e with e | e <;> omega
  · intro hz
    obtain ⟨p, hp, e⟩ := cpl_cover h hz
    exact ⟨p, hp, e.imp Eq.symm Eq.symm⟩
/-- the pairs at the places that qs name -/
def rel (l : List Nat) (qs : List (Nat × Nat)) : List (Nat × Nat) := qs.map fun p => (l.getD p.1 0, l.getD p.2 0)
theorem flat_rel (l : List Nat) : ∀ qs : List (Nat × Nat), flat (rel l qs) = (flat qs).map fun i => l.getD i 0
  | [] => rfl
  | p :: r => by
    show l.getD p.1 0 :: l.getD p.2 0 :: flat (rel l r) = _
    rw [flat_rel l r]; rfl
theorem range_getD (l : List Nat) : (List.range l.length).map (fun i => l.getD i 0) = l := by
  refine List.ext_getElem? fun i => ?_
  rw [List.getElem?_map]
  by_cases h : i < l.length
  · rw [List.getElem?_range h, List.getElem?_eq_getElem h, Option.map_some, List.getD_eq_getElem?_getD, List.getElem?_eq_getElem h]; rfl
  · rw [List.getElem?_eq_none (by rw [List.length_range]; omega), List.getElem?_eq_none (by omega)]; rfl
def rpr (f : List Nat) (n k : Nat) : List (Nat × Nat) := los f n ++ rel (lse f n) (cpl (pat ((lse f n).length / 2) k))
def rat (f : List Nat) (n k : Nat) : List Nat := mkp (rpr f n k)
section
variable {f : List Nat} {n k : Nat}
theorem lse_even (hf : IsPair (2 * n) f) (he : n % 2 = 0) : (lse f n).length % 2 = 0 ∧ (lse f n).length ≤ n ∧ 2 * (los f n).length + (lse f n).length = n := by
  have h1 := (los_perm hf).length_eq
  rw [List.length_append, flat_len, List.length_range] at h1
  omega
theorem rpr_flat0 (hf : IsPair (2 * n) f) (he : n % 2 = 0) (hk : k < dfac ((lse f n).length / 2)) : (flat (rpr f n k)).Perm (List.range n) := by
  unfold rpr
  rw [flat_app, flat_rel]
  refine List.Perm.trans ?_ (los_perm hf)
  refine List.Perm.append_left _ ?_
  have h1 := (cpl_flat (pat_pair hk)).map fun i => (lse f n).getD i 0
  rw [show 2 * ((lse f n).length / 2) = (lse f n).length by have := lse_even hf he; omega] at h1
  rw [range_getD] at h1
  exact h1
theorem rpr_len (hf : IsPair (2 * n) f) (he : n % 2 = 0) (hk : k < dfac ((lse f n).length / 2)) : 2 * (rpr f n k).length = n := by
  have := (rpr_flat0 hf he hk).length_eq
  rw [flat_len, List.length_range] at this
  exact this
theorem rpr_flat (hf : IsPair (2 * n) f) (he : n % 2 = 0) (hk : k < dfac ((lse f n).length / 2)) : (flat (rpr f n k)).Perm (List.range (2 * (rpr f n k).length)) := by
  rw [rpr_len hf he hk]; exact rpr_flat0 hf he hk
theorem rat_makes (hf : IsPair (2 * n) f) (he : n % 2 = 0) (hk : k < dfac ((lse f n).length / 2)) : Makes (rpr f n k) (rat f n k) := makes_mkp (rpr_flat hf he hk)
theorem rat_pair (hf : IsPair (2 * n) f) (he : n % 2 = 0) (hk : k < dfac ((lse f n).length / 2)) : IsPair n (rat f n k) := by
  have := mkp_pair (rpr_flat hf he hk)
  rw [rpr_len hf he hk] at this
  exact this
/-- with two strands at most: the only result -/
theorem rat_rd {ps : List Nat} (hf : IsPair (2 * n) f) (he : n % 2 = 0) (hl : (lse f n).length ≤ 2) (hP : IsPair n ps) : rat f n 0 = rd f ps n := by
  have hR := rd_pair hf hP
  have hk : 0 < dfac ((lse f n).length / 2) := dfac_pos _
  refine (rat_makes hf he hk).one ⟨by rw [rpr_len hf he hk, hR.len], fun p hp => ?_, fun z hz => ?_⟩
  · unfold rpr at hp
    rcases List.mem_append.mp hp with h | h
    · have := rd_los (ps := ps) hf h
      exact ⟨this, (hR.back this).1⟩
    · have h2 : (lse f n).length = 2 := by
        have h3 := lse_even hf he
        by_cases h0 : (lse f n).length = 2
        · exact h0
        · have h4 : (lse f n).length = 0 := by omega
          rw [h4] at h
          simp [rel, pat, una, mkp, cpl, cplN] at h
      rw [h2] at h
      have e : cpl (pat (2 / 2) 0) = [(0, 1)] := by decide
      rw [e] at h
      obtain ⟨x, y, exy⟩ : ∃ x y, lse f n = [x, y] := by
        match hh : lse f n, h2 with
        | [x, y], _ => exact ⟨x, y, rfl⟩
      rw [exy] at h
      have hp' : p = (x, y) := by simpa [rel] using h
      subst hp'
      have hx : x ∈ lse f n := by rw [exy]; exact List.mem_cons_self
      have hq := rd_loose hf hP hx
      have e2 : (rd f ps n).getD x 0 = y := by
        have := hq.1
        rw [exy] at this
        rcases List.mem_cons.mp this with z | z
        · exact absurd z hq.2
        · exact List.mem_singleton.mp z
      have xn := (lse_mem.mp hx).1
      have e3 : (rd f ps n)[x]? = some y := by rw [(hR.d xn).2.2.2, e2]
      exact ⟨e3, (hR.back e3).1⟩
  · rw [hR.len] at hz
    obtain ⟨p, hp, e⟩ := flat_mem.mp ((rpr_flat0 hf he hk).mem_iff.mpr (List.mem_range.mpr hz))
    exact ⟨p, hp, e.imp Eq.symm Eq.symm⟩
end
theorem dfac_one {r : Nat} : dfac r = 1 ↔ r ≤ 1 := by
  constructor
  · intro h
    match r, h with
    | 0, _ => omega
    | 1, _ => omega
    | r + 2, h =>
      have : dfac (r + 1) * (2 * (r + 1) + 1) = 1 := h
      have := Nat.eq_one_of_mul_eq_one_left this
      omega
  · intro h
    rcases (show r = 0 ∨ r = 1 by omega) with e | e <;> subst e <;> rfl
end Pc
namespace Pc
open PySem PySem.Spec PyProof.Rows L2 RZ
/-! ### data of small size, by its depth -/
def Sz : Nat → Nat
  | 0 => 61
  | 1 => 6303
  | 2 => 630503
  | _ => 15762628
abbrev Fi (j : Nat) (d : PyData) : Prop := Fine j (Sz j) d
theorem Sz_le : ∀ j, Sz j ≤ Sz (j + 1)
  | 0 => by decide
  | 1 => by decide
  | 2 => by decide
  | _ + 3 => Nat.le_refl _
theorem Fine.up {j : Nat} {d : PyData} (h : Fi j d) : Fi (j + 1) d := h.mono (Nat.le_succ _) (Sz_le j)
theorem Fine.sh {j : Nat} {d : PyData} (h : Fi j d) (hj : j ≤ 60 := by decide) : SeqAt.shaped d = true := Fine.shaped h (by omega)
theorem fi_int {i : Int} (h : i.natAbs < 2 ^ 60) : Fi 0 (.int i) := fine_int h
theorem fi_bl {b : Bool} : Fi 0 (.bool b) := ⟨rfl, rfl, Nat.le_refl _, trivial, by cases b <;> decide⟩
theorem fi_non : Fi 0 .none := ⟨rfl, rfl, Nat.le_refl _, trivial, by decide⟩
theorem fi_tup {l : List Nat} {m : Nat} (hl : IsPair m l) (hm : m ≤ 100) : Fi 1 (td l) := (fine_tup (n := 100) (fun i hi => by have := hl.lt i hi; omega) (by rw [hl.len]; omega) (by decide)).mono (Nat.le_refl _) (by decide)
/-- numbers of small size, not many -/
def Fw (l : List Nat) : Prop := l.length ≤ 100 ∧ ∀ i ∈ l, i < 2 ^ 60
theorem fb {l : List Nat} {m : Nat} (hl : IsPair m l) (hm : m ≤ 100) : Fw l := ⟨by rw [hl.len]; exact hm, fun i hi => by have := hl.lt i hi; omega⟩
theorem fi_tup' {l : List Nat} (h : Fw l) : Fi 1 (td l) := (fine_tup (n := 100) h.2 h.1 (by decide)).mono (Nat.le_refl _) (by decide)
theorem fi_lst {l : List Nat} (h : Fw l) : Fi 1 (.list (nd l)) := (fine_list (k := 0) (m := 61) (n := 100) (fine_nd h.2) (by rw [nd_length]; exact h.1) (by decide)).mono (Nat.le_refl _) (by decide)
theorem fi_prs {qs : List (Nat × Nat)} (h : qs.length ≤ 1000 ∧ ∀ p ∈ qs, p.1 < 2 ^ 60 ∧ p.2 < 2 ^ 60) : Fi 2 (.list (qs.map pd)) := (fine_pds (n := 1000) h.2 h.1 (by decide)).mono (Nat.le_refl _) (by decide)
theorem fa_nil {j : Nat} : ∀ d ∈ ([] : List PyData), Fi j d := fun _ h => absurd h List.not_mem_nil
theorem fa_cons {j : Nat} {d : PyData} {ds : List PyData} (h : Fi j d) (r : ∀ x ∈ ds, Fi j x) : ∀ x ∈ d :: ds, Fi j x := fun x hx => (List.mem_cons.mp hx).elim (fun e => by rw [e]; exact h) (r x)
def Few (j n : Nat) : Prop := n * (Sz j + 2) + 3 ≤ Sz (j + 1) ∧ n ≤ 100000
instance (j n : Nat) : Decidable (Few j n) := by unfold Few; infer_instance
theorem fi_list {j : Nat} {ds : List PyData} (h : ∀ d ∈ ds, Fi j d) (hn : n = ds.length := by rfl) (hf : Few j n := by decide) : Fi (j + 1) (.list ds) := (fine_list (k := j) (m := Sz j) (n := n) h (by rw [hn]; exact Nat.le_refl _) hf.2).mono (Nat.le_refl _) hf.1
theorem fi_tuple {j : Nat} {ds : List PyData} (h : ∀ d ∈ ds, Fi j d) (hn : n = ds.length := by rfl) (hf : Few j n := by decide) : Fi (j + 1) (.tuple ds) := (fine_tuple (k := j) (m := Sz j) (n := n) h (by rw [hn]; exact Nat.le_refl _) hf.2).mono (Nat.le_refl _) hf.1
theorem fi_ne {j : Nat} {d : PyData} (h : Fi j d) : (!PyData.eqv d d) = false := by
  rw [PySem.SeqAt.eqv_refl _ h.lay]; rfl
theorem fi_eq {j : Nat} {d : PyData} (h : Fi j d) : PyData.eqv d d = true := PySem.SeqAt.eqv_refl _ h.lay
/-! ### arguments by name, in another order -/
def pm10 {α : Type} : List α → List α
  | [a, b] => [b, a]
  | l => l
theorem rel_pm10 {zs : List V} {ws : List Value} (_ : zs.length = 2) (r : Vals zs ws) : Vals (pm10 zs) (pm10 ws) := by
  match zs, ws, r with
  | [], _, .nil => exact .nil
  | [_], _, .cons h .nil => exact .cons h .nil
  | [_, _], _, .cons h1 (.cons h2 .nil) => exact .cons h2 (.cons h1 .nil)
  | _ :: _ :: _ :: _, _, .cons h1 (.cons h2 (.cons h3 r)) => exact .cons h1 (.cons h2 (.cons h3 r))
def pm0 {α : Type} (l : List α) : List α := l
theorem rel_pm0 {zs : List V} {ws : List Value} (_ : zs.length = 1) (r : Vals zs ws) : Vals (pm0 zs) (pm0 ws) := r
end Pc
namespace Pc
open PySem PySem.Spec PyProof.Rows L2 RZ
theorem calls_app {n : Nat} {qs rs : List (Nat × Nat)} (h : Calls n qs) (g : Calls n rs) : Calls n (qs ++ rs) := fun q hq => (List.mem_append.mp hq).elim (h q) (g q)
end Pc
namespace Pc
open PySem PySem.Spec PyProof.Rows L2 RZ
/-- the slots, written out -/
theorem st_eq {t : TS} {D : L2.Ends} {σ : L2.St} {H : Hp} (σ' : L2.St) (h : t D σ' H) (e : σ = σ') : t D σ H := by rw [e]; exact h
end Pc
namespace Pc
open PySem PySem.Spec PyProof.Rows L2 RZ
theorem st_set {i : Nat} {v : V} {σ : L2.St} {H : Hp} {Q : L2.St → Hp → Prop} (σ' : L2.St) (h : Q σ' H) (e : σ.set i (some v) = σ') : gName i v σ H Q := by
  unfold gName
  rw [e]; exact h
end Pc
namespace Pc
open PySem PySem.Spec PyProof.Rows L2 RZ
theorem fi_same {x y : V} (e : x = y) : (!decide (x = y)) = false := by rw [decide_eq_true e]; rfl
theorem fi_is {x y : V} (e : x = y) : decide (x = y) = true := decide_eq_true e
end Pc
namespace Pc
open PySem PySem.Spec PyProof.Rows L2 RZ
theorem st_kept {D : L2.Ends} {i : Nat} {a C d : Addr} {σ1 : L2.St} {H : Hp} (σ' : L2.St) (h : D.nx σ' (upd H a (exk a (.ref C) (some d)))) (e : σ1.set i none = σ') :
    ({ nx := fun σ'' H'' => D.nx (σ''.set i none) (upd H'' a (exk a (.ref C) (some d))), rt := fun _ _ => False } : L2.Ends).nx σ1 H := by
  show D.nx (σ1.set i none) _
  rw [e]; exact h
end Pc
namespace Pc
open PySem PySem.Spec PyProof.Rows L2 RZ
theorem st_setH {i : Nat} {v : V} {σ : L2.St} {H : Hp} {Q : L2.St → Hp → Prop} (σ' : L2.St) (H' : Hp) (h : Q σ' H') (e : σ.set i (some v) = σ') (eh : H = H') : gName i v σ H Q := by
  unfold gName
  rw [e, eh]; exact h
end Pc
namespace Pc
/-! ### sheets that do the same: guarantee (c) -/
theorem jn_gd {n : Nat} {f : List Nat} (hf : IsPair n f) {a b : Nat} (hab : a ≠ b) (ha : a < n) (hb : b < n) (hc : f.getD a 0 ≠ b) (z : Nat) :
    (jn f a b).getD z 0 = if z = a then b else if z = b then a else if z = f.getD a 0 then f.getD b 0 else if z = f.getD b 0 then f.getD a 0 else f.getD z 0 := by
  have e := jn_get hf hab (hf.d ha).2.2.2 (hf.d hb).2.2.2 hc z
  rw [List.getD_eq_getElem?_getD, e]
  split
  · rfl
  · split
    · rfl
    · split
      · rfl
      · split
        · rfl
        · rw [List.getD_eq_getElem?_getD]
theorem jn_has {n : Nat} {f : List Nat} (hf : IsPair n f) {a b : Nat} (hab : a ≠ b) (ha : a < n) (hb : b < n) : (jn f a b).getD a 0 = b ∧ (jn f a b).getD b 0 = a := by
  by_cases hc : f.getD a 0 = b
  · rw [jn_same (hf.ofd ha hc)]
    exact ⟨hc, by rw [← hc]; exact (hf.d ha).2.2.1⟩
  · rw [jn_gd hf hab ha hb hc, jn_gd hf hab ha hb hc, if_pos rfl, if_neg hab.symm, if_pos rfl]
    exact ⟨rfl, rfl⟩
theorem jn_idle {n : Nat} {f : List Nat} (hf : IsPair n f) {a b : Nat} (ha : a < n) (hc : f.getD a 0 = b) : jn f a b = f := jn_same (hf.ofd ha hc)
/-- a join seen from below -/
theorem mir_jn {n : Nat} {f : List Nat} (hf : IsPair (2 * n) f) {a b : Nat} (hab : a ≠ b) (ha : a < n) (hb : b < n) : mir (jn f a b) n = jn (mir f n) (n + a) (n + b) := by
  have hm := mir_pair hf
  have oa : os n a = n + a := by unfold os; rw [if_pos ha]; omega
  have ob : os n b = n + b := by unfold os; rw [if_pos hb]; omega
  have oA : os n (n + a) = a := by unfold os; rw [if_neg (by omega)]; omega
  have oB : os n (n + b) = b := by unfold os; rw [if_neg (by omega)]; omega
  have inj : ∀ {x y : Nat}, x < 2 * n → y < 2 * n → os n x = os n y → x = y := fun {x y} hx hy e => by
    rw [← os_os hx, e, os_os hy]
  have mA : (mir f n).getD (n + a) 0 = os n (f.getD a 0) := by rw [mir_d f (by omega), oA]
  have mB : (mir f n).getD (n + b) 0 = os n (f.getD b 0) := by rw [mir_d f (by omega), oB]
  have fa := hf.d (show a < 2 * n by omega)
  have fb := hf.d (show b < 2 * n by omega)
  by_cases hc : f.getD a 0 = b
  · rw [jn_idle hf (by omega) hc, jn_idle hm (by omega) (by rw [mA, hc, ob])]
  · have hc' : (mir f n).getD (n + a) 0 ≠ n + b := by
      rw [mA, ← ob]; exact fun e => hc (inj fa.1 (by omega) e)
    refine list_d (by rw [mir_len, jn_len, mir_len]) fun z hz => ?_
    rw [mir_len] at hz
    rw [mir_d _ hz, jn_gd hf hab (by omega) (by omega) hc, jn_gd hm (by omega) (by omega) (by omega) hc', mA, mB]
    have oz := os_lt hz
    have key : ∀ {w : Nat}, w < 2 * n → (os n z = w ↔ z = os n w) := fun {w} hw => ⟨fun e => by rw [← e, os_os hz], fun e => by rw [e, os_os hw]⟩
    by_cases z1 : z = n + a
    · subst z1; rw [if_pos oA, if_pos rfl, ob]
    · rw [if_neg (fun e => z1 (((key (by omega)).mp e).trans oa)), if_neg z1]
      by_cases z2 : z = n + b
      · subst z2; rw [if_pos oB, if_pos rfl, oa]
      · rw [if_neg (fun e => z2 (((key (by omega)).mp e).trans ob)), if_neg z2]
        by_cases z3 : z = os n (f.getD a 0)
        · rw [if_pos ((key fa.1).mpr z3), if_pos z3]
        · rw [if_neg (fun e => z3 ((key fa.1).mp e)), if_neg z3]
          by_cases z4 : z = os n (f.getD b 0)
          · rw [if_pos ((key fb.1).mpr z4), if_pos z4]
          · rw [if_neg (fun e => z4 ((key fb.1).mp e)), if_neg z4, mir_d f hz]
theorem mir_one {n a b : Nat} (hab : a < b) (hb : b < n) : mir (jn (emp n) (n + a) (n + b)) n = jn (emp n) (n + a) (n + b) := by
  have he : IsPair (2 * n) (emp n) := emp_pair (by omega)
  have e : jn (emp n) (n + a) (n + b) = jn (emp n) a b := by
    have ea : (emp n).getD a 0 = n + a := getD_of (emp_lo (by omega))
    have eb : (emp n).getD b 0 = n + b := getD_of (emp_lo hb)
    have eA : (emp n).getD (n + a) 0 = a := getD_of (emp_hi (by omega))
    have eB : (emp n).getD (n + b) 0 = b := getD_of (emp_hi hb)
    refine list_d (by rw [jn_len, jn_len]) fun z hz => ?_
    rw [jn_gd he (by omega) (by omega) (by omega) (by rw [eA]; omega), jn_gd he (by omega) (by omega) (by omega) (by rw [ea]; omega), ea, eb, eA, eB]
    repeat' split
    all_goals first | rfl | omega
  have h := mir_jn he (show a ≠ b by omega) (by omega) hb
  rw [mir_emp] at h
  rw [e, h, e]
/-- a call before a sheet joins the two upper ends -/
theorem jn_fol {n : Nat} {f : List Nat} (hf : IsPair (2 * n) f) {a b : Nat} (hab : a < b) (hb : b < n) : fol (jn (emp n) (n + a) (n + b)) f n = jn f a b := by
  have he : IsPair (2 * n) (emp n) := emp_pair (by omega)
  have hw : IsPair (2 * n) (jn (emp n) (n + a) (n + b)) := jn_pair he (by omega) (by omega) (by omega)
  have hm := mir_pair hf
  have hc : Calls n [(a, b)] := fun q hq => by rw [List.mem_singleton] at hq; rw [hq]; exact ⟨hab, hb⟩
  have h1 : mir (fol (jn (emp n) (n + a) (n + b)) f n) n = mir (jn f a b) n := by
    rw [mir_fol hw hf, mir_one hab hb, mir_jn hf (by omega) (by omega) hb]
    exact fol_word (qs := [(a, b)]) (by omega) hm hc
  rw [← mir_mir (fol_pair hw hf), h1, mir_mir (jn_pair hf (by omega) (by omega) (by omega))]
theorem jn_comm {n : Nat} {f : List Nat} (hf : IsPair n f) {a b : Nat} (hab : a ≠ b) (ha : a < n) (hb : b < n) : jn f a b = jn f b a := by
  have fa := hf.d ha
  have fb := hf.d hb
  by_cases hc : f.getD a 0 = b
  · rw [jn_idle hf ha hc, jn_idle hf hb (by rw [← hc]; exact fa.2.2.1)]
  · have hc' : f.getD b 0 ≠ a := fun e => hc (by rw [← e]; exact fb.2.2.1)
    have ne : f.getD a 0 ≠ f.getD b 0 := fun e => hab (hf.inj ha hb e)
    refine list_d (by rw [jn_len, jn_len]) fun z hz => ?_
    rw [jn_gd hf hab ha hb hc, jn_gd hf hab.symm hb ha hc']
    by_cases z1 : z = a
    · rw [if_pos z1, if_neg (by omega), if_pos z1]
    · rw [if_neg z1]
      by_cases z2 : z = b
      · rw [if_pos z2, if_pos z2]
      · rw [if_neg z2, if_neg z2, if_neg z1]
        by_cases z3 : z = f.getD a 0
        · rw [if_pos z3, if_neg (by omega), if_pos z3]
        · rw [if_neg z3, if_neg z3]
theorem rd_up {n : Nat} {f q : List Nat} (hf : IsPair (2 * n) f) (hq : IsPair n q) {a b : Nat} (hab : a ≠ b) (ha : a < n) (hb : b < n) : rd (jn f a b) q n = rd f (jn q a b) n := by
  have main : ∀ {a b : Nat}, a < b → b < n → rd (jn f a b) q n = rd f (jn q a b) n := fun {a b} hab hb => by
    have he : IsPair (2 * n) (emp n) := emp_pair (by omega)
    have hw : IsPair (2 * n) (jn (emp n) (n + a) (n + b)) := jn_pair he (by omega) (by omega) (by omega)
    rw [← jn_fol hf hab hb, rd_fol hw hf hq]
    congr 1
    rw [rd_jn he hq (by omega) (by omega) hb, rd_emp (by omega) hq]
  by_cases c : a < b
  · exact main c hb
  · rw [jn_comm hf hab (by omega) (by omega), jn_comm hq hab ha hb]
    exact main (by omega) ha
/-! ### equal results -/
def Sames (S T : List Nat) (n : Nat) : Prop := ∀ q, IsPair n q → rd S q n = rd T q n
theorem Sames.symm {S T : List Nat} {n : Nat} (h : Sames S T n) : Sames T S n := fun q hq => (h q hq).symm
theorem Sames.up {S T : List Nat} {n a b : Nat} (hS : IsPair (2 * n) S) (hT : IsPair (2 * n) T) (h : Sames S T n) (hab : a ≠ b) (ha : a < n) (hb : b < n) : Sames (jn S a b) (jn T a b) n := fun q hq => by
  rw [rd_up hS hq hab ha hb, rd_up hT hq hab ha hb]
  exact h _ (jn_pair hq hab ha hb)
theorem a_pair {n : Nat} (he : n % 2 = 0) : ∃ q, IsPair n q := ⟨pat (n / 2) 0, by
  have := pat_pair (r := n / 2) (k := 0) (dfac_pos _)
  rw [show 2 * (n / 2) = n by omega] at this
  exact this⟩
theorem two_pair {n a b : Nat} (he : n % 2 = 0) (hab : a ≠ b) (ha : a < n) (hb : b < n) : ∃ q, IsPair n q ∧ q.getD a 0 = b := by
  obtain ⟨q, hq⟩ := a_pair he
  exact ⟨jn q a b, jn_pair hq hab ha hb, (jn_has hq hab ha hb).1⟩
/-- along a lower pair -/
theorem rd_low {n x : Nat} {S q : List Nat} (hx : x < n) (h : n ≤ S.getD (n + x) 0) : (rd S q n).getD x 0 = S.getD (n + x) 0 - n := by
  refine getD_of ?_
  rw [rd_get S q hx, far_is (Trail.stop h)]
  rfl
/-- along two strands -/
theorem rd_two {n x : Nat} {S q : List Nat} (hx : x < n) (h : S.getD (n + x) 0 < n) (h2 : n ≤ S.getD (q.getD (S.getD (n + x) 0) 0) 0) : (rd S q n).getD x 0 = S.getD (q.getD (S.getD (n + x) 0) 0) 0 - n := by
  refine getD_of ?_
  rw [rd_get S q hx, far_is (Trail.go h (Trail.stop h2))]
  rfl
theorem lse_lt {S : List Nat} {n y : Nat} (h : y ∈ lse S n) : y < n ∧ S.getD (n + y) 0 < n := by
  have := lse_mem.mp h
  exact ⟨this.1, of_decide_eq_true this.2⟩
theorem lse_of {S : List Nat} {n y : Nat} (h : y < n) (h2 : S.getD (n + y) 0 < n) : y ∈ lse S n := lse_mem.mpr ⟨h, decide_eq_true h2⟩
/-- who are a couple in all results, where somebody else is loose, are a lower pair -/
theorem sure_low {n x y z : Nat} {S : List Nat} (hS : IsPair (2 * n) S) (he : n % 2 = 0) (hx : x < n) (hz : z ∈ lse S n) (zx : z ≠ x) (zy : z ≠ y) (h : ∀ q, IsPair n q → (rd S q n).getD x 0 = y) : S.getD (n + x) 0 = n + y := by
  obtain ⟨q0, hq0⟩ := a_pair he
  by_cases c : n ≤ S.getD (n + x) 0
  · have := h q0 hq0
    rw [rd_low hx c] at this
    omega
  · exfalso
    have hz' := lse_lt hz
    have sx := hS.d (show n + x < 2 * n by omega)
    have sz := hS.d (show n + z < 2 * n by omega)
    have ne : S.getD (n + x) 0 ≠ S.getD (n + z) 0 := fun e => zx (by have := hS.inj (show n + x < 2 * n by omega) (show n + z < 2 * n by omega) e; omega)
    obtain ⟨q, hq, hqq⟩ := two_pair he ne (by omega) hz'.2
    have := h q hq
    rw [rd_two hx (by omega) (by rw [hqq, sz.2.2.1]; omega), hqq, sz.2.2.1] at this
    omega
/-- a list without repetitions that is longer has something else -/
theorem other_in {l : List Nat} (hd : l.Nodup) : ∀ (ks : List Nat), ks.length < l.length → ∃ z ∈ l, z ∉ ks
  | ks, h => by
    apply Classical.byContradiction
    intro hn
    have sub : ∀ z ∈ l, z ∈ ks := fun z hz => Classical.byContradiction fun c => hn ⟨z, hz, c⟩
    have : ∀ (l ks : List Nat), l.Nodup → (∀ z ∈ l, z ∈ ks) → l.length ≤ ks.length := fun l => by
      induction l with
      | nil => intro ks _ _; exact Nat.zero_le _
      | cons a r ih =>
        intro ks hd hs
        have hd' := List.nodup_cons.mp hd
        have ha := hs a List.mem_cons_self
        have := ih (ks.erase a) hd'.2 (fun z hz => (List.mem_erase_of_ne (fun e => hd'.1 (by rw [← e]; exact hz))).mpr (hs z (List.mem_cons_of_mem _ hz)))
        rw [List.length_erase_of_mem ha] at this
        have := List.length_pos_of_mem ha
        simp only [List.length_cons]
        omega
    have := this l ks hd sub
    omega
theorem other2 {S : List Nat} {n : Nat} (h : 3 ≤ (lse S n).length) (x y : Nat) : ∃ z ∈ lse S n, z ≠ x ∧ z ≠ y := by
  obtain ⟨z, hz, h1⟩ := other_in (lse_nodup S n) [x, y] (by show 2 < _; omega)
  simp only [List.mem_cons, List.not_mem_nil, or_false, not_or] at h1
  exact ⟨z, hz, h1.1, h1.2⟩
theorem Sames.low {S T : List Nat} {n x : Nat} (hT : IsPair (2 * n) T) (he : n % 2 = 0) (h : Sames S T n) (l : 3 ≤ (lse T n).length) (hx : x < n) (c : n ≤ S.getD (n + x) 0) : T.getD (n + x) 0 = S.getD (n + x) 0 := by
  obtain ⟨z, hz, zx, zy⟩ := other2 l x (S.getD (n + x) 0 - n)
  have := sure_low hT he hx hz zx zy (fun q hq => by rw [← h q hq, rd_low hx c])
  omega
theorem Sames.lse {S T : List Nat} {n : Nat} (hS : IsPair (2 * n) S) (hT : IsPair (2 * n) T) (he : n % 2 = 0) (h : Sames S T n) (l : 3 ≤ (lse S n).length) (m : 3 ≤ (lse T n).length) : Pc.lse S n = Pc.lse T n := by
  unfold Pc.lse
  refine List.filter_congr fun x hx => ?_
  have hx := List.mem_range.mp hx
  unfold lsC
  by_cases c : S.getD (n + x) 0 < n
  · by_cases d : T.getD (n + x) 0 < n
    · rw [decide_eq_true c, decide_eq_true d]
    · have := h.symm.low hS he l hx (by omega)
      omega
  · have := h.low hT he m hx (by omega)
    rw [this]
/-- one of them settled, the other one not -/
theorem Sames.both {S T : List Nat} {n : Nat} (hS : IsPair (2 * n) S) (hT : IsPair (2 * n) T) (he : n % 2 = 0) (h : Sames S T n) (l : (Pc.lse S n).length ≤ 2) : (Pc.lse T n).length ≤ 2 := by
  apply Classical.byContradiction
  intro c
  obtain ⟨q0, hq0⟩ := a_pair he
  obtain ⟨x, hx, _⟩ := other2 (S := T) (n := n) (by omega) 0 0
  have hx' := lse_lt hx
  obtain ⟨z, hz, zx, zy⟩ := other2 (S := T) (n := n) (by omega) x ((rd S q0 n).getD x 0)
  have := sure_low hT he hx'.1 hz zx zy (fun q hq => by rw [← h q hq, rd_settled hS hq hq0 l])
  omega
/-- two strands of one, seen in the other -/
theorem Sames.duo {S T : List Nat} {n x y : Nat} (hS : IsPair (2 * n) S) (hT : IsPair (2 * n) T) (he : n % 2 = 0) (h : Sames S T n) (l : 4 ≤ (Pc.lse S n).length) (m : 4 ≤ (Pc.lse T n).length) (hx : x ∈ Pc.lse S n) (hy : y ∈ Pc.lse S n) (hxy : x ≠ y) :
    n ≤ T.getD (S.getD (n + x) 0) 0 ∧ n ≤ T.getD (S.getD (n + y) 0) 0 ∧
    ((T.getD (S.getD (n + x) 0) 0 = n + x ∧ T.getD (S.getD (n + y) 0) 0 = n + y) ∨ (T.getD (S.getD (n + x) 0) 0 = n + y ∧ T.getD (S.getD (n + y) 0) 0 = n + x) ∨
      ((Pc.lse T n).length = 4 ∧ T.getD (S.getD (n + x) 0) 0 ≠ n + x ∧ T.getD (S.getD (n + x) 0) 0 ≠ n + y ∧ T.getD (S.getD (n + y) 0) 0 ≠ n + x ∧ T.getD (S.getD (n + y) 0) 0 ≠ n + y)) := by
  have el := h.lse hS hT he (by omega) (by omega)
  have hx1 := lse_lt hx
  have hy1 := lse_lt hy
  have tx := lse_lt (el ▸ hx)
  have ty := lse_lt (el ▸ hy)
  have sx := hS.d (show n + x < 2 * n by omega)
  have sy := hS.d (show n + y < 2 * n by omega)
  have ne : S.getD (n + x) 0 ≠ S.getD (n + y) 0 := fun e => hxy (by have := hS.inj (show n + x < 2 * n by omega) (show n + y < 2 * n by omega) e; omega)
  revert sx sy ne hx1 hy1
  generalize ea : S.getD (n + x) 0 = a
  generalize eb : S.getD (n + y) 0 = b
  intro hx1 hy1 sx sy ne
  have ha : a < n := hx1.2
  have hb : b < n := hy1.2
  have ta := hT.d (show a < 2 * n by omega)
  have tb := hT.d (show b < 2 * n by omega)
  have hS' : IsPair (2 * n) (jn S a b) := jn_pair hS ne (by omega) (by omega)
  have hT' : IsPair (2 * n) (jn T a b) := jn_pair hT ne (by omega) (by omega)
  have h' := h.up hS hT ne ha hb
  have cS : S.getD a 0 ≠ b := by omega
  have gS := fun z => jn_gd hS ne (show a < 2 * n by omega) (show b < 2 * n by omega) cS z
  have lowS : (jn S a b).getD (n + x) 0 = n + y := by
    rw [gS, if_neg (by omega), if_neg (by omega), if_pos (by omega)]; omega
  have res : ∀ q, IsPair n q → (rd (jn T a b) q n).getD x 0 = y := fun q hq => by
    rw [← h' q hq, rd_low hx1.1 (by omega), lowS]; omega
  by_cases cT : T.getD a 0 = b
  · exfalso
    have e := jn_idle hT (show a < 2 * n by omega) cT
    rw [e] at res
    obtain ⟨z, hz, zx, zy⟩ := other2 (S := T) (n := n) (by omega) x y
    have := sure_low hT he hx1.1 hz zx zy res
    omega
  have gT := fun z => jn_gd hT ne (show a < 2 * n by omega) (show b < 2 * n by omega) cT z
  have keep : ∀ z, z ∈ Pc.lse T n → n + z ≠ T.getD a 0 → n + z ≠ T.getD b 0 → z ∈ Pc.lse (jn T a b) n := fun z hz z1 z2 => by
    have := lse_lt hz
    refine lse_of this.1 ?_
    rw [gT, if_neg (by omega), if_neg (by omega), if_neg z1, if_neg z2]; exact this.2
  by_cases c1 : n ≤ T.getD a 0
  · by_cases c2 : n ≤ T.getD b 0
    · refine ⟨c1, c2, ?_⟩
      have nab : T.getD a 0 ≠ T.getD b 0 := fun e => ne (hT.inj (by omega) (by omega) e)
      have r1 : ∀ {u v : Nat}, u < n → (jn T a b).getD (n + u) 0 = n + v → ∀ q, IsPair n q → (rd (jn T a b) q n).getD u 0 = v := fun {u v} hu e q hq => by
        rw [rd_low hu (by omega), e]; omega
      obtain ⟨q0, hq0⟩ := a_pair he
      have e1 : (jn T a b).getD (T.getD a 0) 0 = T.getD b 0 := by
        rw [gT, if_neg (by omega), if_neg (by omega), if_pos rfl]
      have e2 : (jn T a b).getD (T.getD b 0) 0 = T.getD a 0 := by
        rw [gT, if_neg (by omega), if_neg (by omega), if_neg nab.symm, if_pos rfl]
      have px : (jn T a b).getD (n + x) 0 = n + y ∨ (T.getD a 0 ≠ n + x ∧ T.getD b 0 ≠ n + x) := by
        by_cases z1 : T.getD a 0 = n + x
        · have := r1 (u := x) (v := T.getD b 0 - n) hx1.1 (by rw [← z1, e1]; omega) q0 hq0
          rw [res q0 hq0] at this
          left; rw [← z1, e1]; omega
        · by_cases z2 : T.getD b 0 = n + x
          · have := r1 (u := x) (v := T.getD a 0 - n) hx1.1 (by rw [← z2, e2]; omega) q0 hq0
            rw [res q0 hq0] at this
            left; rw [← z2, e2]; omega
          · exact .inr ⟨z1, z2⟩
      rcases px with px | ⟨z1, z2⟩
      · rw [gT, if_neg (by omega), if_neg (by omega)] at px
        by_cases z1 : n + x = T.getD a 0
        · rw [if_pos z1] at px; exact .inl ⟨z1.symm, px⟩
        · rw [if_neg z1] at px
          by_cases z2 : n + x = T.getD b 0
          · rw [if_pos z2] at px; exact .inr (.inl ⟨px, z2.symm⟩)
          · rw [if_neg z2] at px; omega
      · -- y is not there either
        have tx' : (jn T a b).getD (n + x) 0 = T.getD (n + x) 0 := by
          rw [gT, if_neg (by omega), if_neg (by omega), if_neg (Ne.symm z1), if_neg (Ne.symm z2)]
        have back := (hT'.d (show n + x < 2 * n by omega)).2.2.1
        have ry : ∀ q, IsPair n q → (rd (jn T a b) q n).getD y 0 = x := fun q hq => by
          have := (rd_pair hT' hq).d hx1.1
          rw [res q hq] at this
          exact this.2.2.1
        have w1 : T.getD a 0 ≠ n + y := fun w => by
          have := r1 (u := y) (v := T.getD b 0 - n) hy1.1 (by rw [← w, e1]; omega) q0 hq0
          rw [ry q0 hq0] at this; omega
        have w2 : T.getD b 0 ≠ n + y := fun w => by
          have := r1 (u := y) (v := T.getD a 0 - n) hy1.1 (by rw [← w, e2]; omega) q0 hq0
          rw [ry q0 hq0] at this; omega
        refine .inr (.inr ⟨?_, z1, w1, z2, w2⟩)
        apply Classical.byContradiction
        intro c4
        obtain ⟨z, hz, h1⟩ := other_in (lse_nodup T n) [x, y, T.getD a 0 - n, T.getD b 0 - n] (by show 4 < _; omega)
        simp only [List.mem_cons, List.not_mem_nil, or_false, not_or] at h1
        have := sure_low hT' he hx1.1 (keep z hz (by omega) (by omega)) h1.1 h1.2.1 res
        omega
    · exfalso
      -- only a leads down
      obtain ⟨z, hz, zx⟩ := other_in (lse_nodup T n) [x, y, T.getD a 0 - n] (by show 3 < _; omega)
      have hz3 : z ≠ x ∧ z ≠ y ∧ z ≠ T.getD a 0 - n := by
        simp only [List.mem_cons, List.not_mem_nil, or_false, not_or] at zx
        exact zx
      have := sure_low hT' he hx1.1 (keep z hz (by omega) (by omega)) hz3.1 hz3.2.1 res
      rw [gT, if_neg (by omega), if_neg (by omega)] at this
      by_cases z1 : n + x = T.getD a 0
      · rw [if_pos z1] at this; omega
      · rw [if_neg z1, if_neg (by omega)] at this; omega
  · exfalso
    obtain ⟨z, hz, zx⟩ := other_in (lse_nodup T n) [x, y, T.getD b 0 - n] (by show 3 < _; omega)
    have hz3 : z ≠ x ∧ z ≠ y ∧ z ≠ T.getD b 0 - n := by
      simp only [List.mem_cons, List.not_mem_nil, or_false, not_or] at zx
      exact zx
    by_cases c2 : n ≤ T.getD b 0
    · have := sure_low hT' he hx1.1 (keep z hz (by omega) (by omega)) hz3.1 hz3.2.1 res
      rw [gT, if_neg (by omega), if_neg (by omega), if_neg (by omega)] at this
      by_cases z1 : n + x = T.getD b 0
      · rw [if_pos z1] at this; omega
      · rw [if_neg z1] at this; omega
    · have := sure_low hT' he hx1.1 (keep z hz (by omega) (by omega)) hz3.1 hz3.2.1 res
      rw [gT, if_neg (by omega), if_neg (by omega), if_neg (by omega), if_neg (by omega)] at this
      omega
end Pc
namespace Pc
theorem Sames.ups {S T : List Nat} {n a : Nat} (hS : IsPair (2 * n) S) (hT : IsPair (2 * n) T) (he : n % 2 = 0) (h : Sames S T n) (l : 4 ≤ (Pc.lse S n).length) (m : 4 ≤ (Pc.lse T n).length) (ha : a < n) (c : n ≤ S.getD a 0) : n ≤ T.getD a 0 := by
  have sa := hS.d (show a < 2 * n by omega)
  have e1 : S.getD (n + (S.getD a 0 - n)) 0 = a := by rw [show n + (S.getD a 0 - n) = S.getD a 0 by omega]; exact sa.2.2.1
  have hx : S.getD a 0 - n ∈ Pc.lse S n := lse_of (by omega) (by omega)
  obtain ⟨y, hy, yx, _⟩ := other2 (S := S) (n := n) (by omega) (S.getD a 0 - n) 0
  have := (h.duo hS hT he l m hx hy (Ne.symm yx)).1
  rw [e1] at this
  exact this
theorem Sames.upper {S T : List Nat} {n x : Nat} (hS : IsPair (2 * n) S) (hT : IsPair (2 * n) T) (he : n % 2 = 0) (h : Sames S T n) (l : 4 ≤ (Pc.lse S n).length) (m : 4 ≤ (Pc.lse T n).length) (hx : x < n) (c : S.getD x 0 < n) : T.getD x 0 = S.getD x 0 := by
  apply Classical.byContradiction
  intro ne
  have sx := hS.d (show x < 2 * n by omega)
  have tx := hT.d (show x < 2 * n by omega)
  have cT : T.getD x 0 < n := by
    apply Classical.byContradiction
    intro d
    have := h.symm.ups hT hS he m l hx (by omega)
    omega
  obtain ⟨ℓ, hl, _⟩ := other2 (S := S) (n := n) (by omega) 0 0
  have hl1 := lse_lt hl
  have sl := hS.d (show n + ℓ < 2 * n by omega)
  revert hl1 sl
  generalize ea : S.getD (n + ℓ) 0 = a
  intro hl1 sl
  have ha : a < n := hl1.2
  have eS : S.getD a 0 = n + ℓ := sl.2.2.1
  have cTa := h.ups hS hT he l m ha (by omega)
  have ta := hT.d (show a < 2 * n by omega)
  have ax : a ≠ x := fun e => by rw [e] at eS; omega
  have hS' : IsPair (2 * n) (jn S a x) := jn_pair hS ax (by omega) (by omega)
  have hT' : IsPair (2 * n) (jn T a x) := jn_pair hT ax (by omega) (by omega)
  have h' := h.up hS hT ax ha hx
  have gS := fun z => jn_gd hS ax (show a < 2 * n by omega) (show x < 2 * n by omega) (by omega) z
  have gT := fun z => jn_gd hT ax (show a < 2 * n by omega) (show x < 2 * n by omega) (by omega) z
  have l' : 4 ≤ (Pc.lse (jn S a x) n).length := by
    refine Nat.le_trans l (Nat.le_of_eq ?_)
    unfold Pc.lse
    refine congrArg List.length (List.filter_congr fun y hy => ?_)
    have hy := List.mem_range.mp hy
    unfold lsC
    rw [gS, if_neg (by omega), if_neg (by omega)]
    by_cases z1 : n + y = S.getD a 0
    · rw [if_pos z1, z1, (hS.d (show a < 2 * n by omega)).2.2.1, decide_eq_true ha, decide_eq_true c]
    · rw [if_neg z1, if_neg (by omega)]
  have m' : 4 ≤ (Pc.lse (jn T a x) n).length := by
    refine Nat.le_trans m (Nat.le_of_eq ?_)
    unfold Pc.lse
    refine congrArg List.length (List.filter_congr fun y hy => ?_)
    have hy := List.mem_range.mp hy
    unfold lsC
    rw [gT, if_neg (by omega), if_neg (by omega)]
    by_cases z1 : n + y = T.getD a 0
    · rw [if_pos z1, z1, ta.2.2.1, decide_eq_true ha, decide_eq_true cT]
    · rw [if_neg z1, if_neg (by omega)]
  -- z is at a strand of the one, not of the other
  have zT : (jn T a x).getD (T.getD x 0) 0 = T.getD a 0 := by
    rw [gT, if_neg (fun e => by rw [e] at tx; omega), if_neg tx.2.1, if_neg (by omega), if_pos rfl]
  have zS := h'.symm.ups hT' hS' he m' l' cT (by omega)
  rw [gS] at zS
  by_cases z1 : T.getD x 0 = a
  · rw [z1] at tx; omega
  · rw [if_neg z1, if_neg tx.2.1, if_neg (by omega), if_neg (by omega)] at zS
    have := h.ups hS hT he l m cT zS
    omega
/-- pointwise, when the strands are known -/
theorem Sames.all {S T : List Nat} {n : Nat} (hS : IsPair (2 * n) S) (hT : IsPair (2 * n) T) (he : n % 2 = 0) (h : Sames S T n) (l : 4 ≤ (Pc.lse S n).length) (m : 4 ≤ (Pc.lse T n).length) (k : ∀ a, a < n → n ≤ S.getD a 0 → T.getD a 0 = S.getD a 0) : T = S := by
  refine list_d (by rw [hS.len, hT.len]) fun e hel => ?_
  rw [hT.len] at hel
  have se := hS.d hel
  by_cases c : e < n
  · by_cases d : n ≤ S.getD e 0
    · exact k e c d
    · exact h.upper hS hT he l m c (by omega)
  · obtain ⟨x, rfl⟩ : ∃ x, e = n + x := ⟨e - n, by omega⟩
    by_cases d : n ≤ S.getD (n + x) 0
    · exact h.low hT he (by omega) (by omega) d
    · have := k (S.getD (n + x) 0) (by omega) (by rw [se.2.2.1]; omega)
      rw [se.2.2.1] at this
      have t := (hT.d (show S.getD (n + x) 0 < 2 * n by omega)).2.2.1
      rw [this] at t
      exact t
theorem Sames.five {S T : List Nat} {n : Nat} (hS : IsPair (2 * n) S) (hT : IsPair (2 * n) T) (he : n % 2 = 0) (h : Sames S T n) (l : 4 ≤ (Pc.lse S n).length) (m : 4 ≤ (Pc.lse T n).length) (m4 : (Pc.lse T n).length ≠ 4) : T = S := by
  refine h.all hS hT he l m fun a ha c => ?_
  have sa := hS.d (show a < 2 * n by omega)
  obtain ⟨x, hx⟩ : ∃ x, S.getD a 0 = n + x := ⟨S.getD a 0 - n, by omega⟩
  have e1 : S.getD (n + x) 0 = a := by rw [← hx]; exact sa.2.2.1
  have hxl : x ∈ Pc.lse S n := lse_of (by omega) (by omega)
  obtain ⟨y, hy, yx, _⟩ := other2 (S := S) (n := n) (by omega) x x
  obtain ⟨z, hz, zx, zy⟩ := other2 (S := S) (n := n) (by omega) x y
  have d1 := (h.duo hS hT he l m hxl hy (Ne.symm yx)).2.2
  have d2 := (h.duo hS hT he l m hxl hz (Ne.symm zx)).2.2
  rw [e1] at d1 d2
  rcases d1 with d1 | d1 | d1
  · rw [d1.1, hx]
  · rcases d2 with d2 | d2 | d2
    · rw [d2.1, hx]
    · omega
    · exact absurd d2.1 m4
  · exact absurd d1.1 m4
/-! ### four strands joined crosswise -/
def upl (S : List Nat) (n : Nat) : List Nat := (List.range n).filter fun x => decide (n ≤ S.getD x 0)
theorem upl_mem {S : List Nat} {n a : Nat} : a ∈ upl S n ↔ a < n ∧ n ≤ S.getD a 0 := by
  unfold upl; rw [List.mem_filter, List.mem_range, decide_eq_true_iff]
theorem upl_nodup (S : List Nat) (n : Nat) : (upl S n).Nodup := List.nodup_range.filter _
theorem upl_sts (S : List Nat) (n : Nat) : (sts S n).map Prod.fst = upl S n := sel_fst (c := stC S n) fun _ => rfl
theorem upl_len {S : List Nat} {n : Nat} (hS : IsPair (2 * n) S) : (upl S n).length = (lse S n).length := by
  rw [← upl_sts, List.length_map, lse_len hS]
/-- T is S with its four strands joined crosswise along P -/
structure Crd (S : List Nat) (n : Nat) (A P T : List Nat) : Prop where
  len : T.length = 2 * n
  up : ∀ i, i < 4 → T.getD (A.getD i 0) 0 = S.getD (A.getD (P.getD i 0) 0) 0
  lo : ∀ i, i < 4 → T.getD (S.getD (A.getD i 0) 0) 0 = A.getD (P.getD i 0) 0
  ot : ∀ e, e < 2 * n → e ∉ A → S.getD e 0 ∉ A → T.getD e 0 = S.getD e 0
def P4 (k : Nat) : List Nat := if k = 0 then [1, 0, 3, 2] else if k = 1 then [2, 3, 0, 1] else [3, 2, 1, 0]
theorem P4_ok : ∀ k, k < 3 → ∀ i, i < 4 → (P4 k).getD i 0 < 4 ∧ (P4 k).getD ((P4 k).getD i 0) 0 = i := by decide
def Duo4 (i j s t : Nat) : Prop := (s = i ∧ t = j) ∨ (s = j ∧ t = i) ∨ (s ≠ i ∧ s ≠ j ∧ t ≠ i ∧ t ≠ j)
def duo4 (i j s t : Nat) : Bool := decide ((s = i ∧ t = j) ∨ (s = j ∧ t = i) ∨ (s ≠ i ∧ s ≠ j ∧ t ≠ i ∧ t ≠ j)) && decide (s ≠ t)
theorem comb4B : ((List.range 4).all fun s0 => (List.range 4).all fun s1 => (List.range 4).all fun s2 => (List.range 4).all fun s3 =>
    !(duo4 0 1 s0 s1 && duo4 0 2 s0 s2 && duo4 0 3 s0 s3 && duo4 1 2 s1 s2 && duo4 1 3 s1 s3 && duo4 2 3 s2 s3) || (decide ([s0, s1, s2, s3] = [0, 1, 2, 3]) || (decide ([s0, s1, s2, s3] = P4 0) || (decide ([s0, s1, s2, s3] = P4 1) || decide ([s0, s1, s2, s3] = P4 2))))) = true := by decide +kernel
theorem duo4_of {i j s t : Nat} (h : Duo4 i j s t ∧ s ≠ t) : duo4 i j s t = true := by
  unfold duo4; rw [Bool.and_eq_true, decide_eq_true_iff, decide_eq_true_iff]; exact h
theorem comb4 {s0 s1 s2 s3 : Nat} (h0 : s0 < 4) (h1 : s1 < 4) (h2 : s2 < 4) (h3 : s3 < 4) (d01 : Duo4 0 1 s0 s1 ∧ s0 ≠ s1) (d02 : Duo4 0 2 s0 s2 ∧ s0 ≠ s2) (d03 : Duo4 0 3 s0 s3 ∧ s0 ≠ s3) (d12 : Duo4 1 2 s1 s2 ∧ s1 ≠ s2) (d13 : Duo4 1 3 s1 s3 ∧ s1 ≠ s3) (d23 : Duo4 2 3 s2 s3 ∧ s2 ≠ s3) :
    [s0, s1, s2, s3] = [0, 1, 2, 3] ∨ [s0, s1, s2, s3] = P4 0 ∨ [s0, s1, s2, s3] = P4 1 ∨ [s0, s1, s2, s3] = P4 2 := by
  have h := comb4B
  rw [List.all_eq_true] at h
  have h := h s0 (List.mem_range.mpr h0)
  rw [List.all_eq_true] at h
  have h := h s1 (List.mem_range.mpr h1)
  rw [List.all_eq_true] at h
  have h := h s2 (List.mem_range.mpr h2)
  rw [List.all_eq_true] at h
  have h := h s3 (List.mem_range.mpr h3)
  rw [duo4_of d01, duo4_of d02, duo4_of d03, duo4_of d12, duo4_of d13, duo4_of d23] at h
  simpa using h
theorem four_of {l : List Nat} (h : l.length = 4) : ∃ a b c d, l = [a, b, c, d] := by
  match l, h with
  | [a, b, c, d], _ => exact ⟨a, b, c, d, rfl⟩
theorem Sames.four {S T : List Nat} {n : Nat} (hS : IsPair (2 * n) S) (hT : IsPair (2 * n) T) (he : n % 2 = 0) (h : Sames S T n) (l : (Pc.lse S n).length = 4) (m : 4 ≤ (Pc.lse T n).length) : T = S ∨ ∃ k, k < 3 ∧ Crd S n (upl S n) (P4 k) T := by
  have el := h.lse hS hT he (by omega) (by omega)
  have hl4 : (upl S n).length = 4 := by rw [upl_len hS, l]
  have hnd := upl_nodup S n
  have ilt : ∀ {i j : Nat}, i < 4 → j < 4 → (upl S n).getD i 0 = (upl S n).getD j 0 → i = j := fun {i j} hi hj e => by
    rw [List.getD_eq_getElem?_getD, List.getD_eq_getElem?_getD, List.getElem?_eq_getElem (by omega), List.getElem?_eq_getElem (by omega)] at e
    exact (List.getElem_inj hnd).mp e
  have mem : ∀ i, i < 4 → (upl S n).getD i 0 < n ∧ n ≤ S.getD ((upl S n).getD i 0) 0 := fun i hi => by
    refine upl_mem.mp ?_
    rw [List.getD_eq_getElem?_getD, List.getElem?_eq_getElem (by omega)]
    exact List.getElem_mem _
  have sur : ∀ a, a < n → n ≤ S.getD a 0 → ∃ i, i < 4 ∧ (upl S n).getD i 0 = a := fun a h1 h2 => by
    obtain ⟨i, hi⟩ := List.mem_iff_getElem?.mp (upl_mem.mpr ⟨h1, h2⟩)
    exact ⟨i, by have := get_lt hi; omega, getD_of hi⟩
  have pick : ∀ i, i < 4 → ∃ j, j < 4 ∧ T.getD ((upl S n).getD i 0) 0 = S.getD ((upl S n).getD j 0) 0 := fun i hi => by
    obtain ⟨m1, m2⟩ := mem i hi
    have t1 := h.ups hS hT he (by omega) m m1 m2
    have ta := hT.d (show (upl S n).getD i 0 < 2 * n by omega)
    have tl : T.getD ((upl S n).getD i 0) 0 - n ∈ Pc.lse T n := lse_of (by omega) (by rw [show n + (T.getD ((upl S n).getD i 0) 0 - n) = T.getD ((upl S n).getD i 0) 0 by omega, ta.2.2.1]; exact m1)
    rw [← el] at tl
    have sl := lse_lt tl
    rw [show n + (T.getD ((upl S n).getD i 0) 0 - n) = T.getD ((upl S n).getD i 0) 0 by omega] at sl
    have s2 := hS.d ta.1
    obtain ⟨j, hj, ej⟩ := sur _ sl.2 (by rw [s2.2.2.1]; exact t1)
    exact ⟨j, hj, by rw [ej, s2.2.2.1]⟩
  obtain ⟨s0, h0, e0⟩ := pick 0 (by decide)
  obtain ⟨s1, h1, e1⟩ := pick 1 (by decide)
  obtain ⟨s2, h2, e2⟩ := pick 2 (by decide)
  obtain ⟨s3, h3, e3⟩ := pick 3 (by decide)
  have duo : ∀ {i j s t : Nat}, i < 4 → j < 4 → i ≠ j → s < 4 → t < 4 → T.getD ((upl S n).getD i 0) 0 = S.getD ((upl S n).getD s 0) 0 → T.getD ((upl S n).getD j 0) 0 = S.getD ((upl S n).getD t 0) 0 → Duo4 i j s t ∧ s ≠ t := fun {i j s t} hi hj hij hs ht ei ej => by
    have mi := mem i hi
    have mj := mem j hj
    have si := hS.d (show (upl S n).getD i 0 < 2 * n by omega)
    have sj := hS.d (show (upl S n).getD j 0 < 2 * n by omega)
    have bi : S.getD (n + (S.getD ((upl S n).getD i 0) 0 - n)) 0 = (upl S n).getD i 0 := by rw [show n + (S.getD ((upl S n).getD i 0) 0 - n) = S.getD ((upl S n).getD i 0) 0 by omega]; exact si.2.2.1
    have bj : S.getD (n + (S.getD ((upl S n).getD j 0) 0 - n)) 0 = (upl S n).getD j 0 := by rw [show n + (S.getD ((upl S n).getD j 0) 0 - n) = S.getD ((upl S n).getD j 0) 0 by omega]; exact sj.2.2.1
    have inj : ∀ {u v : Nat}, u < 4 → v < 4 → S.getD ((upl S n).getD u 0) 0 = S.getD ((upl S n).getD v 0) 0 → u = v := fun {u v} hu hv e => ilt hu hv (hS.inj (by have := mem u hu; omega) (by have := mem v hv; omega) e)
    have d := (h.duo hS hT he (by omega) m (x := S.getD ((upl S n).getD i 0) 0 - n) (y := S.getD ((upl S n).getD j 0) 0 - n) (lse_of (by omega) (by omega)) (lse_of (by omega) (by omega)) (fun e => hij (inj hi hj (by omega)))).2.2
    rw [bi, bj, ei, ej] at d
    have ms := mem s hs
    have mt := mem t ht
    refine ⟨?_, fun e => hij (ilt hi hj (hT.inj (by omega) (by omega) (by rw [ei, ej, e])))⟩
    rcases d with ⟨d1, d2⟩ | ⟨d1, d2⟩ | ⟨_, d1, d2, d3, d4⟩
    · exact .inl ⟨inj hs hi (by omega), inj ht hj (by omega)⟩
    · exact .inr (.inl ⟨inj hs hj (by omega), inj ht hi (by omega)⟩)
    · exact .inr (.inr ⟨fun e => d1 (by rw [e]; omega), fun e => d2 (by rw [e]; omega), fun e => d3 (by rw [e]; omega), fun e => d4 (by rw [e]; omega)⟩)
  have d01 := duo (by decide) (by decide) (by decide) h0 h1 e0 e1
  have d02 := duo (by decide) (by decide) (by decide) h0 h2 e0 e2
  have d03 := duo (by decide) (by decide) (by decide) h0 h3 e0 e3
  have d12 := duo (by decide) (by decide) (by decide) h1 h2 e1 e2
  have d13 := duo (by decide) (by decide) (by decide) h1 h3 e1 e3
  have d23 := duo (by decide) (by decide) (by decide) h2 h3 e2 e3
  have sel : ∀ i, i < 4 → T.getD ((upl S n).getD i 0) 0 = S.getD ((upl S n).getD ([s0, s1, s2, s3].getD i 0) 0) 0 := fun i hi => by
    rcases (show i = 0 ∨ i = 1 ∨ i = 2 ∨ i = 3 by omega) with z | z | z | z <;> subst z
    · exact e0
    · exact e1
    · exact e2
    · exact e3
  rcases comb4 h0 h1 h2 h3 d01 d02 d03 d12 d13 d23 with z | zk
  · left
    refine h.all hS hT he (by omega) m fun a ha c => ?_
    obtain ⟨i, hi, rfl⟩ := sur a ha c
    rw [sel i hi, z]
    rcases (show i = 0 ∨ i = 1 ∨ i = 2 ∨ i = 3 by omega) with z | z | z | z <;> subst z <;> rfl
  · right
    obtain ⟨k, hk, z⟩ : ∃ k, k < 3 ∧ [s0, s1, s2, s3] = P4 k := by
      rcases zk with z | z | z
      · exact ⟨0, by decide, z⟩
      · exact ⟨1, by decide, z⟩
      · exact ⟨2, by decide, z⟩
    refine ⟨k, hk, ⟨hT.len, fun i hi => by rw [sel i hi, z], fun i hi => ?_, fun e hel h1 h2 => ?_⟩⟩
    · have pk := P4_ok k hk i hi
      have := sel _ pk.1
      rw [z, pk.2] at this
      have mi := mem _ pk.1
      rw [← this]
      exact (hT.d (by omega)).2.2.1
    · have se := hS.d hel
      by_cases c : e < n
      · exact h.upper hS hT he (by omega) m c (by
          apply Classical.byContradiction
          intro d
          exact h1 (upl_mem.mpr ⟨c, by omega⟩))
      · obtain ⟨x, rfl⟩ : ∃ x, e = n + x := ⟨e - n, by omega⟩
        refine h.low hT he (by omega) (by omega) ?_
        apply Classical.byContradiction
        intro d
        exact h2 (upl_mem.mpr ⟨by omega, by rw [se.2.2.1]; omega⟩)
end Pc
namespace Pc
/-! ### crossings do the same -/
theorem Crd.pair {S T : List Nat} {n k : Nat} (hS : IsPair (2 * n) S) (hk : k < 3) (l : (upl S n).length = 4) (h : Crd S n (upl S n) (P4 k) T) : IsPair (2 * n) T := by
  have mem : ∀ i, i < 4 → (upl S n).getD i 0 < n ∧ n ≤ S.getD ((upl S n).getD i 0) 0 := fun i hi => by
    refine upl_mem.mp ?_
    rw [List.getD_eq_getElem?_getD, List.getElem?_eq_getElem (by omega)]
    exact List.getElem_mem _
  have sur : ∀ a, a ∈ upl S n → ∃ i, i < 4 ∧ (upl S n).getD i 0 = a := fun a ha => by
    obtain ⟨i, hi⟩ := List.mem_iff_getElem?.mp ha
    exact ⟨i, by have := get_lt hi; omega, getD_of hi⟩
  have main : ∀ e, e < 2 * n → T.getD e 0 < 2 * n ∧ T.getD e 0 ≠ e ∧ T.getD (T.getD e 0) 0 = e := fun e he => by
    have se := hS.d he
    by_cases c : e ∈ upl S n
    · obtain ⟨i, hi, rfl⟩ := sur e c
      have pk := P4_ok k hk i hi
      have m1 := mem _ pk.1
      have mi := mem i hi
      have sp := hS.d (show (upl S n).getD ((P4 k).getD i 0) 0 < 2 * n by omega)
      rw [h.up i hi]
      refine ⟨sp.1, by omega, ?_⟩
      rw [h.lo _ pk.1, pk.2]
    · by_cases d : S.getD e 0 ∈ upl S n
      · obtain ⟨i, hi, ei⟩ := sur _ d
        have pk := P4_ok k hk i hi
        have m1 := mem _ pk.1
        have mi := mem i hi
        have ee : e = S.getD ((upl S n).getD i 0) 0 := by rw [ei]; exact se.2.2.1.symm
        have t1 := h.lo i hi
        rw [← ee] at t1 mi
        rw [t1]
        refine ⟨by omega, by omega, ?_⟩
        rw [h.up _ pk.1, pk.2]
        exact ee.symm
      · have o := h.ot e he c d
        rw [o]
        refine ⟨se.1, se.2.1, ?_⟩
        rw [h.ot _ se.1 d (by rw [se.2.2.1]; exact c)]
        exact se.2.2.1
  refine ⟨h.len, fun x hx => ?_⟩
  obtain ⟨m1, m2, m3⟩ := main x hx
  have g : ∀ {y : Nat}, y < 2 * n → T[y]? = some (T.getD y 0) := fun {y} hy => by
    rw [List.getD_eq_getElem?_getD, List.getElem?_eq_getElem (by rw [h.len]; omega)]; rfl
  exact ⟨_, g hx, m1, m2, by rw [g m1, m3]⟩
/-- the lower ends of strands are moved -/
def phi (S T : List Nat) (n e : Nat) : Nat := if n ≤ e ∧ S.getD e 0 < n then T.getD (S.getD e 0) 0 else e
structure Low4 (S T : List Nat) (n : Nat) : Prop where
  hS : IsPair (2 * n) S
  hT : IsPair (2 * n) T
  up : ∀ e, e < n → S.getD e 0 < n → T.getD e 0 = S.getD e 0
  st : ∀ e, e < n → n ≤ S.getD e 0 → n ≤ T.getD e 0
  lo : ∀ e, n ≤ e → e < 2 * n → n ≤ S.getD e 0 → T.getD e 0 = S.getD e 0
theorem Low4.phi {S T : List Nat} {n e : Nat} (h : Low4 S T n) (he : e < 2 * n) : T.getD (phi S T n e) 0 = Pc.phi S T n (S.getD e 0) := by
  have se := h.hS.d he
  unfold Pc.phi
  by_cases c : e < n
  · rw [if_neg (by omega)]
    by_cases d : S.getD e 0 < n
    · rw [if_neg (by omega)]; exact h.up e c d
    · rw [se.2.2.1, if_pos ⟨by omega, c⟩]
  · by_cases d : S.getD e 0 < n
    · rw [if_pos ⟨by omega, d⟩, if_neg (by omega)]
      exact (h.hT.d (by omega)).2.2.1
    · rw [if_neg (by omega), se.2.2.1, if_neg (by omega)]
      exact h.lo e (by omega) he (by omega)
theorem Low4.lt {S T : List Nat} {n e : Nat} (h : Low4 S T n) (he : e < 2 * n) : (n ≤ e → n ≤ Pc.phi S T n e) ∧ (e < n → Pc.phi S T n e = e) := by
  have se := h.hS.d he
  unfold Pc.phi
  refine ⟨fun c => ?_, fun c => if_neg (by omega)⟩
  by_cases d : S.getD e 0 < n
  · rw [if_pos ⟨c, d⟩]
    exact h.st _ d (by rw [se.2.2.1]; exact c)
  · rw [if_neg (by omega)]; exact c
theorem Low4.trail {S T q : List Nat} {n z : Nat} {l : List Nat} (h : Low4 S T n) (hq : IsPair n q) (t : Trail S q n z l) : z < 2 * n → ∃ k, Trail T q n (Pc.phi S T n z) k ∧ k.getLastD 0 = Pc.phi S T n (l.getLastD 0) := by
  induction t with
  | @stop z h1 =>
    intro hz
    have e := h.phi hz
    have sz := h.hS.d hz
    refine ⟨_, .stop (by rw [e]; exact (h.lt sz.1).1 h1), ?_⟩
    show T.getD _ 0 = _
    rw [e]; rfl
  | @go z l h1 h2 ih =>
    intro hz
    have e := h.phi hz
    have sz := h.hS.d hz
    have e2 := (h.lt sz.1).2 h1
    have qz := hq.d h1
    obtain ⟨k, k1, k2⟩ := ih (by omega)
    rw [(h.lt (show q.getD (S.getD z 0) 0 < 2 * n by omega)).2 qz.1] at k1
    refine ⟨_, .go (by rw [e, e2]; exact h1) (by rw [e, e2]; exact k1), ?_⟩
    rw [lastc k1.len.1, lastc h2.len.1, k2]
theorem Low4.rd {S T q : List Nat} {n x : Nat} (h : Low4 S T n) (hq : IsPair n q) (hx : x < n) : (Pc.rd T q n).getD (Pc.phi S T n (n + x) - n) 0 = Pc.phi S T n (n + (Pc.rd S q n).getD x 0) - n := by
  obtain ⟨l, hl, _⟩ := trail_ex h.hS hq (z := n + x) (by omega) (by omega)
  obtain ⟨k, k1, k2⟩ := h.trail hq hl (by omega)
  have p1 := (h.lt (show n + x < 2 * n by omega)).1 (by omega)
  have p2 : Pc.phi S T n (n + x) < 2 * n := by
    have sx := h.hS.d (show n + x < 2 * n by omega)
    unfold Pc.phi
    split
    · exact (h.hT.d sx.1).1
    · omega
  have f := far_d h.hS hq (z := n + x) (by omega) (by omega)
  have e1 : (Pc.rd S q n).getD x 0 = l.getLastD 0 - n := getD_of (by rw [rd_get S q hx, far_is hl])
  refine getD_of ?_
  rw [rd_get T q (by omega), show n + (Pc.phi S T n (n + x) - n) = Pc.phi S T n (n + x) by omega, far_is k1, k2, e1]
  rw [far_is hl] at f
  rw [show n + (l.getLastD 0 - n) = l.getLastD 0 by omega]
theorem Crd.low4 {S T : List Nat} {n k : Nat} (hS : IsPair (2 * n) S) (hk : k < 3) (l : (upl S n).length = 4) (h : Crd S n (upl S n) (P4 k) T) : Low4 S T n where
  hS := hS
  hT := h.pair hS hk l
  up := fun e he c => h.ot e (by omega) (fun z => by have := upl_mem.mp z; omega) (fun z => by
    have := upl_mem.mp z
    rw [(hS.d (show e < 2 * n by omega)).2.2.1] at this
    omega)
  st := fun e he c => by
    obtain ⟨i, hi⟩ := List.mem_iff_getElem?.mp (upl_mem.mpr ⟨he, c⟩)
    have hi4 : i < 4 := by have := get_lt hi; omega
    have pk := P4_ok k hk i hi4
    have := h.up i hi4
    rw [getD_of hi] at this
    rw [this]
    have m : (upl S n).getD ((P4 k).getD i 0) 0 ∈ upl S n := by
      rw [List.getD_eq_getElem?_getD, List.getElem?_eq_getElem (by omega)]
      exact List.getElem_mem _
    exact (upl_mem.mp m).2
  lo := fun e h1 h2 c => h.ot e h2 (fun z => by have := upl_mem.mp z; omega) (fun z => by have := upl_mem.mp z; omega)
/-- a fixed-point-free involution of four -/
theorem inv4B : ((List.range 4).all fun t0 => (List.range 4).all fun t1 => (List.range 4).all fun t2 => (List.range 4).all fun t3 =>
    decide (t0 = 0) || (decide (t1 = 1) || (decide (t2 = 2) || (decide (t3 = 3) || (!(decide ([t0, t1, t2, t3].getD t0 0 = 0) && decide ([t0, t1, t2, t3].getD t1 0 = 1) && decide ([t0, t1, t2, t3].getD t2 0 = 2) && decide ([t0, t1, t2, t3].getD t3 0 = 3)) ||
    (decide ([t0, t1, t2, t3] = P4 0) || (decide ([t0, t1, t2, t3] = P4 1) || decide ([t0, t1, t2, t3] = P4 2)))))))) = true := by decide +kernel
theorem inv4 {t0 t1 t2 t3 : Nat} (h0 : t0 < 4) (h1 : t1 < 4) (h2 : t2 < 4) (h3 : t3 < 4) (n0 : t0 ≠ 0) (n1 : t1 ≠ 1) (n2 : t2 ≠ 2) (n3 : t3 ≠ 3) (e0 : [t0, t1, t2, t3].getD t0 0 = 0) (e1 : [t0, t1, t2, t3].getD t1 0 = 1) (e2 : [t0, t1, t2, t3].getD t2 0 = 2) (e3 : [t0, t1, t2, t3].getD t3 0 = 3) :
    [t0, t1, t2, t3] = P4 0 ∨ [t0, t1, t2, t3] = P4 1 ∨ [t0, t1, t2, t3] = P4 2 := by
  have h := inv4B
  rw [List.all_eq_true] at h
  have h := h t0 (List.mem_range.mpr h0)
  rw [List.all_eq_true] at h
  have h := h t1 (List.mem_range.mpr h1)
  rw [List.all_eq_true] at h
  have h := h t2 (List.mem_range.mpr h2)
  rw [List.all_eq_true] at h
  have h := h t3 (List.mem_range.mpr h3)
  rw [decide_eq_false n0, decide_eq_false n1, decide_eq_false n2, decide_eq_false n3, decide_eq_true e0, decide_eq_true e1, decide_eq_true e2, decide_eq_true e3] at h
  simpa using h
theorem P4_comm : ∀ k, k < 3 → ∀ j, j < 3 → ∀ i, i < 4 → (P4 k).getD ((P4 j).getD i 0) 0 = (P4 j).getD ((P4 k).getD i 0) 0 := by decide
theorem Crd.same {S T : List Nat} {n k : Nat} (hS : IsPair (2 * n) S) (hk : k < 3) (l : (upl S n).length = 4) (h : Crd S n (upl S n) (P4 k) T) : Sames S T n := fun q hq => by
  have hT := h.pair hS hk l
  have L := h.low4 hS hk l
  have hnd := upl_nodup S n
  have hR := rd_pair hS hq
  have hR' := rd_pair hT hq
  have mem : ∀ i, i < 4 → (upl S n).getD i 0 < n ∧ n ≤ S.getD ((upl S n).getD i 0) 0 := fun i hi => by
    refine upl_mem.mp ?_
    rw [List.getD_eq_getElem?_getD, List.getElem?_eq_getElem (by omega)]
    exact List.getElem_mem _
  have ilt : ∀ {i j : Nat}, i < 4 → j < 4 → (upl S n).getD i 0 = (upl S n).getD j 0 → i = j := fun {i j} hi hj e => by
    rw [List.getD_eq_getElem?_getD, List.getD_eq_getElem?_getD, List.getElem?_eq_getElem (by omega), List.getElem?_eq_getElem (by omega)] at e
    exact (List.getElem_inj hnd).mp e
  have low : ∀ i, i < 4 → S.getD ((upl S n).getD i 0) 0 < 2 * n ∧ S.getD (S.getD ((upl S n).getD i 0) 0) 0 = (upl S n).getD i 0 := fun i hi => by
    have := hS.d (show (upl S n).getD i 0 < 2 * n by have := mem i hi; omega)
    exact ⟨this.1, this.2.2.1⟩
  -- loose people by number
  have loose : ∀ x, x ∈ Pc.lse S n → ∃ i, i < 4 ∧ S.getD ((upl S n).getD i 0) 0 = n + x := fun x hx => by
    have h1 := lse_lt hx
    have sx := hS.d (show n + x < 2 * n by omega)
    obtain ⟨i, hi⟩ := List.mem_iff_getElem?.mp (upl_mem.mpr ⟨h1.2, by rw [sx.2.2.1]; omega⟩)
    exact ⟨i, by have := get_lt hi; omega, by rw [getD_of hi]; exact sx.2.2.1⟩
  have isl : ∀ i, i < 4 → S.getD ((upl S n).getD i 0) 0 - n ∈ Pc.lse S n := fun i hi => by
    have m := mem i hi
    have lo := low i hi
    exact lse_of (by omega) (by rw [show n + (S.getD ((upl S n).getD i 0) 0 - n) = S.getD ((upl S n).getD i 0) 0 by omega, lo.2]; exact m.1)
  have inj : ∀ {i j : Nat}, i < 4 → j < 4 → S.getD ((upl S n).getD i 0) 0 - n = S.getD ((upl S n).getD j 0) 0 - n → i = j := fun {i j} hi hj e => by
    have m1 := mem i hi
    have m2 := mem j hj
    exact ilt hi hj (hS.inj (by omega) (by omega) (by omega))
  -- partners by number
  have par : ∀ i, i < 4 → ∃ t, t < 4 ∧ (rd S q n).getD (S.getD ((upl S n).getD i 0) 0 - n) 0 = S.getD ((upl S n).getD t 0) 0 - n ∧ t ≠ i := fun i hi => by
    have r := rd_loose hS hq (isl i hi)
    obtain ⟨t, ht, et⟩ := loose _ r.1
    refine ⟨t, ht, by omega, fun e => r.2 ?_⟩
    rw [e] at et; omega
  obtain ⟨t0, h0, e0, f0⟩ := par 0 (by decide)
  obtain ⟨t1, h1, e1, f1⟩ := par 1 (by decide)
  obtain ⟨t2, h2, e2, f2⟩ := par 2 (by decide)
  obtain ⟨t3, h3, e3, f3⟩ := par 3 (by decide)
  have tt : ∀ i, i < 4 → (rd S q n).getD (S.getD ((upl S n).getD i 0) 0 - n) 0 = S.getD ((upl S n).getD ([t0, t1, t2, t3].getD i 0) 0) 0 - n := fun i hi => by
    rcases (show i = 0 ∨ i = 1 ∨ i = 2 ∨ i = 3 by omega) with z | z | z | z <;> subst z
    · exact e0
    · exact e1
    · exact e2
    · exact e3
  have tlt : ∀ i, i < 4 → [t0, t1, t2, t3].getD i 0 < 4 := fun i hi => by
    rcases (show i = 0 ∨ i = 1 ∨ i = 2 ∨ i = 3 by omega) with z | z | z | z <;> subst z
    · exact h0
    · exact h1
    · exact h2
    · exact h3
  have ttt : ∀ i, i < 4 → [t0, t1, t2, t3].getD ([t0, t1, t2, t3].getD i 0) 0 = i := fun i hi => by
    have a := tt i hi
    have b := tt _ (tlt i hi)
    have r := (hR.d (lse_lt (isl i hi)).1).2.2.1
    rw [a, b] at r
    exact inj (tlt _ (tlt i hi)) hi r
  obtain ⟨j, hj, ej⟩ : ∃ j, j < 3 ∧ [t0, t1, t2, t3] = P4 j := by
    rcases inv4 h0 h1 h2 h3 f0 f1 f2 f3 (ttt 0 (by decide)) (ttt 1 (by decide)) (ttt 2 (by decide)) (ttt 3 (by decide)) with z | z | z
    · exact ⟨0, by decide, z⟩
    · exact ⟨1, by decide, z⟩
    · exact ⟨2, by decide, z⟩
  rw [ej] at tt
  have ph : ∀ i, i < 4 → phi S T n (S.getD ((upl S n).getD i 0) 0) = S.getD ((upl S n).getD ((P4 k).getD i 0) 0) 0 := fun i hi => by
    have m := mem i hi
    unfold phi
    rw [(low i hi).2, if_pos ⟨m.2, m.1⟩, h.up i hi]
  have pid : ∀ x, x < n → x ∉ Pc.lse S n → phi S T n (n + x) = n + x := fun x hx c => by
    unfold phi
    rw [if_neg (fun z => c (lse_of hx z.2))]
  refine (list_d (by rw [rd_len, rd_len]) fun x hx => ?_).symm
  rw [rd_len] at hx
  by_cases c : x ∈ Pc.lse S n
  · obtain ⟨i, hi, ei⟩ := loose x c
    have pk := P4_ok k hk i hi
    have r := L.rd hq (x := S.getD ((upl S n).getD ((P4 k).getD i 0) 0) 0 - n) (lse_lt (isl _ pk.1)).1
    have pj := P4_ok j hj _ pk.1
    have mp := mem _ pk.1
    have mj := mem _ pj.1
    rw [show n + (S.getD ((upl S n).getD ((P4 k).getD i 0) 0) 0 - n) = S.getD ((upl S n).getD ((P4 k).getD i 0) 0) 0 by omega, ph _ pk.1, pk.2, tt _ pk.1, show n + (S.getD ((upl S n).getD ((P4 j).getD ((P4 k).getD i 0) 0) 0) 0 - n) = S.getD ((upl S n).getD ((P4 j).getD ((P4 k).getD i 0) 0) 0) 0 by omega, ph _ pj.1, P4_comm k hk j hj _ pk.1, pk.2, ei, Nat.add_sub_cancel_left] at r
    rw [r, show x = S.getD ((upl S n).getD i 0) 0 - n by omega, tt i hi]
  · have r := L.rd hq hx
    rw [pid x hx c, Nat.add_sub_cancel_left] at r
    have hr := hR.d hx
    have c2 : (rd S q n).getD x 0 ∉ Pc.lse S n := fun z => c (by
      have := (rd_loose hS hq z).1
      rw [hr.2.2.1] at this
      exact this)
    rw [pid _ hr.1 c2, Nat.add_sub_cancel_left] at r
    exact r
/-! ### as the program makes them -/
def crs1 (S A P : List Nat) (fs : List Nat) (i : Nat) : List Nat := (fs.set (A.getD i 0) (S.getD (A.getD (P.getD i 0) 0) 0)).set (S.getD (A.getD (P.getD i 0) 0) 0) (A.getD i 0)
def crsI (S A P : List Nat) (i : Nat) : List Nat := (List.range i).foldl (crs1 S A P) S
theorem crsI_succ (S A P : List Nat) (i : Nat) : crsI S A P (i + 1) = crs1 S A P (crsI S A P i) i := by
  unfold crsI; rw [List.range_succ, List.foldl_append]; rfl
theorem crsI_len (S A P : List Nat) : ∀ i, (crsI S A P i).length = S.length
  | 0 => rfl
  | i + 1 => by rw [crsI_succ]; unfold crs1; rw [List.length_set, List.length_set]; exact crsI_len S A P i
def crs (S : List Nat) (n k : Nat) : List Nat := crsI S (upl S n) (P4 k) 4
theorem getD_set' (fs : List Nat) {a z v : Nat} (ha : a < fs.length) : (fs.set a v).getD z 0 = if z = a then v else fs.getD z 0 := by
  rw [List.getD_eq_getElem?_getD]
  by_cases c : z = a
  · subst c; rw [if_pos rfl, List.getElem?_set_self ha]; rfl
  · rw [if_neg c, List.getElem?_set_ne (Ne.symm c), ← List.getD_eq_getElem?_getD]
theorem crs_crd {S : List Nat} {n k : Nat} (hS : IsPair (2 * n) S) (hk : k < 3) (l : (upl S n).length = 4) : Crd S n (upl S n) (P4 k) (crs S n k) := by
  have hnd := upl_nodup S n
  have mem : ∀ i, i < 4 → (upl S n).getD i 0 < n ∧ n ≤ S.getD ((upl S n).getD i 0) 0 := fun i hi => by
    refine upl_mem.mp ?_
    rw [List.getD_eq_getElem?_getD, List.getElem?_eq_getElem (by omega)]
    exact List.getElem_mem _
  have ilt : ∀ {i j : Nat}, i < 4 → j < 4 → (upl S n).getD i 0 = (upl S n).getD j 0 → i = j := fun {i j} hi hj e => by
    rw [List.getD_eq_getElem?_getD, List.getD_eq_getElem?_getD, List.getElem?_eq_getElem (by omega), List.getElem?_eq_getElem (by omega)] at e
    exact (List.getElem_inj hnd).mp e
  have low : ∀ i, i < 4 → S.getD ((upl S n).getD i 0) 0 < 2 * n ∧ S.getD (S.getD ((upl S n).getD i 0) 0) 0 = (upl S n).getD i 0 := fun i hi => by
    have := hS.d (show (upl S n).getD i 0 < 2 * n by have := mem i hi; omega)
    exact ⟨this.1, this.2.2.1⟩
  have inj : ∀ {i j : Nat}, i < 4 → j < 4 → S.getD ((upl S n).getD i 0) 0 = S.getD ((upl S n).getD j 0) 0 → i = j := fun {i j} hi hj e => ilt hi hj (hS.inj (by have := mem i hi; omega) (by have := mem j hj; omega) e)
  have I : ∀ i, i ≤ 4 → (∀ j, j < i → (crsI S (upl S n) (P4 k) i).getD ((upl S n).getD j 0) 0 = S.getD ((upl S n).getD ((P4 k).getD j 0) 0) 0 ∧ (crsI S (upl S n) (P4 k) i).getD (S.getD ((upl S n).getD ((P4 k).getD j 0) 0) 0) 0 = (upl S n).getD j 0) ∧
      ∀ e, e < 2 * n → e ∉ upl S n → S.getD e 0 ∉ upl S n → (crsI S (upl S n) (P4 k) i).getD e 0 = S.getD e 0 := fun i => by
    induction i with
    | zero => exact fun _ => ⟨fun j hj => absurd hj (Nat.not_lt_zero _), fun e _ _ _ => rfl⟩
    | succ i ih =>
      intro hi
      obtain ⟨g1, g2⟩ := ih (by omega)
      have hl := crsI_len S (upl S n) (P4 k) i
      rw [hS.len] at hl
      have pk := P4_ok k hk i (by omega)
      have mi := mem i (by omega)
      have mp := mem _ pk.1
      have lp := low _ pk.1
      have G : ∀ z, (crsI S (upl S n) (P4 k) (i + 1)).getD z 0 = if z = S.getD ((upl S n).getD ((P4 k).getD i 0) 0) 0 then (upl S n).getD i 0 else if z = (upl S n).getD i 0 then S.getD ((upl S n).getD ((P4 k).getD i 0) 0) 0 else (crsI S (upl S n) (P4 k) i).getD z 0 := fun z => by
        rw [crsI_succ]
        unfold crs1
        rw [getD_set' _ (by rw [List.length_set]; omega), getD_set' _ (by omega)]
      refine ⟨fun j hj => ?_, fun e he h1 h2 => ?_⟩
      · by_cases c : j = i
        · subst c
          refine ⟨?_, ?_⟩
          · rw [G, if_neg (by omega), if_pos rfl]
          · rw [G, if_pos rfl]
        · have pj := P4_ok k hk j (by omega)
          have mj := mem j (by omega)
          have mq := mem _ pj.1
          obtain ⟨a, b⟩ := g1 j (by omega)
          refine ⟨?_, ?_⟩
          · rw [G, if_neg (by omega), if_neg (fun e => c (ilt (by omega) (by omega) e))]; exact a
          · rw [G, if_neg (fun e => c (by
              have := inj pj.1 pk.1 e
              have q1 := pj.2
              rw [this, pk.2] at q1
              exact q1.symm)), if_neg (by omega)]; exact b
      · rw [G, if_neg (fun z => h2 ?_), if_neg (fun z => h1 ?_)]
        · exact g2 e he h1 h2
        · rw [z, List.getD_eq_getElem?_getD, List.getElem?_eq_getElem (by omega)]; exact List.getElem_mem _
        · rw [z, lp.2, List.getD_eq_getElem?_getD, List.getElem?_eq_getElem (by omega)]; exact List.getElem_mem _
  obtain ⟨I1, I2⟩ := I 4 (Nat.le_refl _)
  refine ⟨by show (crsI S (upl S n) (P4 k) 4).length = _; rw [crsI_len, hS.len], fun i hi => (I1 i hi).1, fun i hi => ?_, I2⟩
  have pk := P4_ok k hk i hi
  have := (I1 _ pk.1).2
  rw [pk.2] at this
  exact this
theorem Crd.det {S T U : List Nat} {n k : Nat} (hS : IsPair (2 * n) S) (l : (upl S n).length = 4) (h : Crd S n (upl S n) (P4 k) T) (g : Crd S n (upl S n) (P4 k) U) : T = U := by
  refine list_d (by rw [h.len, g.len]) fun e he => ?_
  rw [h.len] at he
  have sur : ∀ a, a ∈ upl S n → ∃ i, i < 4 ∧ (upl S n).getD i 0 = a := fun a ha => by
    obtain ⟨i, hi⟩ := List.mem_iff_getElem?.mp ha
    exact ⟨i, by have := get_lt hi; omega, getD_of hi⟩
  by_cases c : e ∈ upl S n
  · obtain ⟨i, hi, rfl⟩ := sur e c
    rw [h.up i hi, g.up i hi]
  · by_cases d : S.getD e 0 ∈ upl S n
    · obtain ⟨i, hi, ei⟩ := sur _ d
      have ee : e = S.getD ((upl S n).getD i 0) 0 := by rw [ei]; exact (hS.d he).2.2.1.symm
      rw [ee, h.lo i hi, g.lo i hi]
    · rw [h.ot e he c d, g.ot e he c d]
/-! ### the decision -/
def doS (f g : List Nat) (n : Nat) : Bool :=
  decide (f = g) || (decide ((sts f n).length ≤ 2) && decide ((sts g n).length ≤ 2) && decide (rat f n 0 = rat g n 0)) ||
  (decide ((sts f n).length = 4) && decide ((sts g n).length = 4) && (decide (g = crs f n 0) || decide (g = crs f n 1) || decide (g = crs f n 2)))
theorem doS_iff {f g : List Nat} {n : Nat} (hf : IsPair (2 * n) f) (hg : IsPair (2 * n) g) (he : n % 2 = 0) : doS f g n = true ↔ Sames f g n := by
  have lf := lse_len hf
  have lg := lse_len hg
  have ef := (lse_even hf he).1
  have eg := (lse_even hg he).1
  constructor
  · intro h
    unfold doS at h
    rw [Bool.or_eq_true, Bool.or_eq_true] at h
    rcases h with (h | h) | h
    · rw [of_decide_eq_true h]; exact fun _ _ => rfl
    · rw [Bool.and_eq_true, Bool.and_eq_true, decide_eq_true_iff, decide_eq_true_iff, decide_eq_true_iff] at h
      obtain ⟨⟨h1, h2⟩, h3⟩ := h
      exact fun q hq => by rw [← rat_rd hf he (by omega) hq, ← rat_rd hg he (by omega) hq, h3]
    · rw [Bool.and_eq_true, Bool.and_eq_true, decide_eq_true_iff, decide_eq_true_iff] at h
      obtain ⟨⟨h1, h2⟩, h3⟩ := h
      have l4 : (upl f n).length = 4 := by rw [upl_len hf]; omega
      obtain ⟨k, hk, ek⟩ : ∃ k, k < 3 ∧ g = crs f n k := by
        rw [Bool.or_eq_true, Bool.or_eq_true, decide_eq_true_iff, decide_eq_true_iff, decide_eq_true_iff] at h3
        rcases h3 with (z | z) | z
        · exact ⟨0, by decide, z⟩
        · exact ⟨1, by decide, z⟩
        · exact ⟨2, by decide, z⟩
      rw [ek]
      exact (crs_crd hf hk l4).same hf hk l4
  · intro h
    obtain ⟨q, hq⟩ := a_pair he
    unfold doS
    by_cases c : (sts f n).length ≤ 2
    · have d := h.both hf hg he (by omega)
      have : rat f n 0 = rat g n 0 := by rw [rat_rd hf he (by omega) hq, rat_rd hg he d hq]; exact h q hq
      rw [decide_eq_true c, decide_eq_true (show (sts g n).length ≤ 2 by omega), decide_eq_true this]; simp
    · have d : 3 ≤ (lse g n).length := by
        apply Classical.byContradiction
        intro d
        have := h.symm.both hg hf he (by omega)
        omega
      by_cases e : (lse f n).length = 4
      · have el := h.lse hf hg he (by omega) d
        rcases h.four hf hg he e (by omega) with z | ⟨k, hk, z⟩
        · rw [decide_eq_true z.symm]; rfl
        · have l4 : (upl f n).length = 4 := by rw [upl_len hf]; omega
          have := z.det hf l4 (crs_crd hf hk l4)
          rw [el] at e
          rw [decide_eq_true (show (sts f n).length = 4 by rw [← lf, el, e]), decide_eq_true (show (sts g n).length = 4 by omega)]
          rcases (show k = 0 ∨ k = 1 ∨ k = 2 by omega) with w | w | w <;> (subst w; rw [decide_eq_true this]; simp)
      · have := h.symm.five hg hf he (by omega) (by omega) e
        rw [decide_eq_true this]; rfl
end Pc
namespace Pc
open PySem PySem.Spec PyProof.Rows L2 RZ
section
variable {P : Program} {w : World} {K : PySem.W.Frag} {mg : Str → Option Value} {base : Heap}
/-! ### numbers of people that are equal -/
def spCheckSizes : Sp := fun vs H Q _ => ∃ n : Nat, vs = [.int n, .int n] ∧ Q .non H
theorem ok_p_check_sizes (T : Env K mg) : FnOk P w K mg base CX0 1 T.f_p_check_sizes T.d_p_check_sizes ["first", "second"] spCheckSizes := by
  refine T.F_p_check_sizes.ok sc_p_check_sizes (fun vs H Q E h => ?_) (fun cdv A outer s H vs Q E hr h => ?_)
  · obtain ⟨n, rfl, _⟩ := h
    rfl
  · obtain ⟨n, rfl, q⟩ := h
    refine ⟨_, pss_one (ps_if (pt_cmpR op_ne (pv 0) (pv 1) (nomark _)) pss_never pss_nil), ?_⟩
    refine ⟨_, rfl, _, rfl, rfl, _, rfl, ite2 (fun c => ?_) (fun _ => q)⟩
    rw [decide_eq_true rfl] at c
    exact absurd c (by decide)
end
end Pc
namespace Pc
open PySem PySem.Spec PyProof.Rows L2 RZ
section
variable {P : Program} {w : World} {K : PySem.W.Frag} {mg : Str → Option Value} {base : Heap}
/-! ### join_two -/
def spJoin : Sp := fun vs H Q _ => ∃ (j : Addr) (fs : List Nat) (n a b : Nat), vs = [.ref j, .int a, .int b] ∧ H j = some (.lst (nv fs)) ∧ IsPair n fs ∧ a < n ∧ b < n ∧
  ∀ H' : Hp, H' j = some (.lst (nv (jn fs a b))) → Keep j H H' → Q (.bl (!decide (fs.getD a 0 = b))) H'
theorem ok_p_join_two (T : Env K mg) : FnOk P w K mg base CX0 1 T.f_p_join_two T.d_p_join_two ["joined", "a", "b"] spJoin := by
  refine T.F_p_join_two.ok sc_p_join_two (fun vs H Q E h => ?_) (fun cdv A outer s H vs Q E hr h => ?_)
  · obtain ⟨j, fs, n, a, b, rfl, _⟩ := h
    rfl
  · obtain ⟨j, fs, n, a, b, rfl, hj, hP, ha, hb, q⟩ := h
    refine ⟨_, pss_cons (ps_set (i := 3) sc_p_join_two.nd rfl (.inl rfl) (pe_ix ix_list (pv 0) (pv 1) (fun _ _ => rfl))) <|
      pss_cons (ps_set (i := 4) sc_p_join_two.nd rfl (.inl rfl) (pe_ix ix_list (pv 0) (pv 2) (fun _ _ => rfl))) <|
      pss_cons (ps_if (pt_cmpR op_eq (pv 3) (pv 2) (nomark _)) (pss_one (ps_ret pe_bl)) pss_nil) <|
      pss_cons (ps_asg (pv 2) (pg_sub (pv 0) (pv 1) set_list)) <| pss_cons (ps_asg (pv 1) (pg_sub (pv 0) (pv 2) set_list)) <|
      pss_cons (ps_asg (pv 4) (pg_sub (pv 0) (pv 3) set_list)) <| pss_cons (ps_asg (pv 3) (pg_sub (pv 0) (pv 4) set_list)) <| pss_one (ps_ret pe_bl), ?_⟩
    obtain ⟨c, ea, hc, _⟩ := hP.par a ha
    obtain ⟨d, eb, hd, _⟩ := hP.par b hb
    have hS : SqL K H j (nv fs) := .inl (.inl hj)
    have hl := hP.len
    refine ⟨.ref j, rfl, .int a, rfl, j, _, _, _, rfl, rfl, hS, nv_at ea, ?_⟩
    refine ⟨.ref j, rfl, .int b, rfl, j, _, _, _, rfl, rfl, hS, nv_at eb, ?_⟩
    refine ⟨_, rfl, _, rfl, rfl, _, rfl, ite2 (fun e => ?_) (fun e => ?_)⟩
    · have e1 : c = b := by have := V.int.inj (of_decide_eq_true e); omega
      subst e1
      have := q H (by rw [jn_same ea]; exact hj) (Keep.refl _ _)
      rw [getD_of ea, decide_eq_true rfl] at this
      exact this
    · have e1 : c ≠ b := fun z => e (by rw [z]; exact decide_eq_true rfl)
      have ln : ∀ {l : List V}, l.length = fs.length → ∀ {i : Nat}, i < n → ixN l.length (i : Int) = some i := fun {l} hl2 {i} hi => ixN_nat (by rw [hl2, hl]; exact hi)
      refine ⟨_, rfl, .ref j, rfl, _, rfl, j, _, _, a, rfl, rfl, hj, ln (nv_length _) ha, ?_⟩
      refine ⟨_, rfl, .ref j, rfl, _, rfl, j, _, _, b, rfl, rfl, upd_same, ln (by rw [List.length_set, nv_length]) hb, ?_⟩
      refine ⟨_, rfl, .ref j, rfl, _, rfl, j, _, _, c, rfl, rfl, upd_same, ln (by rw [List.length_set, List.length_set, nv_length]) hc, ?_⟩
      refine ⟨_, rfl, .ref j, rfl, _, rfl, j, _, _, d, rfl, rfl, upd_same, ln (by rw [List.length_set, List.length_set, List.length_set, nv_length]) hd, ?_⟩
      have := q (upd (upd (upd (upd H j (.lst ((nv fs).set a (.int b)))) j (.lst (((nv fs).set a (.int b)).set b (.int a)))) j (.lst ((((nv fs).set a (.int b)).set b (.int a)).set c (.int d)))) j (.lst (((((nv fs).set a (.int b)).set b (.int a)).set c (.int d)).set d (.int c))))
        (by
          rw [upd_same, nv_set, nv_set, nv_set, nv_set]
          unfold jn
          rw [getD_of ea, getD_of eb, if_neg e1])
        (fun x o nx hx => by rw [upd_ne nx, upd_ne nx, upd_ne nx, upd_ne nx]; exact hx)
      rw [getD_of ea, decide_eq_false e1] at this
      exact this
end
end Pc
namespace Pc
open PySem PySem.Spec PyProof.Rows L2 RZ
section
variable {P : Program} {w : World} {K : PySem.W.Frag} {mg : Str → Option Value} {base : Heap}
/-! ### pairs of a sheet -/
def spPairs (K : PySem.W.Frag) (g : List Nat → Nat → List (Nat × Nat)) : Sp := fun vs H Q _ => ∃ (a : Addr) (fs : List Nat) (n : Nat), vs = [.ref a] ∧ Sq K H a (nv fs) ∧ IsPair (2 * n) fs ∧ n ≤ 500 ∧
  ∀ (H' : Hp) (p : Addr) (as : List Addr), Same H H' → H p = none → H' p = some (.lst (as.map V.ref)) → Prs H' as (g fs n) → Q (.ref p) H'
theorem at0 {fs : List Nat} {i z : Nat} (e : fs[i]? = some z) : atI (nv fs) ((0 : Int) + (i : Nat)) = some (.int z) := by rw [Int.zero_add]; exact nv_at e
theorem at1 {fs : List Nat} {n i z : Nat} (e : fs[n + i]? = some z) : atI (nv fs) ((n : Int) + ((0 : Int) + (i : Nat))) = some (.int z) := by
  rw [Int.zero_add, show (n : Int) + (i : Int) = ((n + i : Nat) : Int) by omega]; exact nv_at e
end
end Pc
namespace Pc
open PySem PySem.Spec PyProof.Rows L2 RZ
section
variable {P : Program} {w : World} {K : PySem.W.Frag} {mg : Str → Option Value} {base : Heap}
/-! ### lower pairs -/
theorem ok_p_lower_pairs (T : Env K mg) : FnOk P w K mg base CX0 2 T.f_p_lower_pairs T.d_p_lower_pairs ["sheet"] (spPairs K los) := by
  have G0 : FnOk P w K mg base CX0 1 T.f_p_people_of T.d_p_people_of ["sheet"] (spPeople K) := ok_p_people_of T
  refine T.F_p_lower_pairs.ok sc_p_lower_pairs (fun vs H Q E h => ?_) (fun cdv A outer s H vs Q E hr h => ?_)
  · obtain ⟨a, fs, n, rfl, _⟩ := h
    rfl
  · obtain ⟨a, fs, n, rfl, hS, hP, hn, q⟩ := h
    refine ⟨_, pss_cons (ps_set (i := 1) sc_p_lower_pairs.nd rfl (.inr rfl) (pe_call G0 hr (by rfl) T.g_p_people_of T.F_p_people_of.kp T.b_p_people_of .nil pass0 (pa_cons (pv 0) pa_nil))) <|
      pss_one (ps_ret (pe_lc (own := [("x", 2)]) (g := gName 2) (tt := tTest (tOp (rI0 fun i j => .bl (decide (j < i))) (tOp (rIx K) (tVar 0) (tOp (rI0 fun i j => .int (i + j)) (tVar 1) (tVar 2))) (tOp (rI0 fun i j => .int (i + j)) (tVar 1) (tVar 2))))
          (te := tTup (tCons (tVar 2) (tCons (tOp (rI0 fun i j => .int (i - j)) (tOp (rIx K) (tVar 0) (tOp (rI0 fun i j => .int (i + j)) (tVar 1) (tVar 2))) (tVar 1)) tNil))) rfl sc_p_lower_pairs.nd
        (pi_range1 (by rfl) T.n_range (pa_cons (pv 1) pa_nil)) (blkOk_by (N := N_p_lower_pairs) (sc := defScope s_p_lower_pairs) (by decide +kernel)) (fun _ _ _ _ _ => pg_name (i := 2) sc_p_lower_pairs.nd rfl (.inl rfl))
        (fun _ _ _ _ _ => pts_one (pt_cmpR op_gt (pe_ix ix_seq (pv 0) (pe_op op_add (pv 1) (pv 2)) (fun _ _ => rfl)) (pe_op op_add (pv 1) (pv 2)) (nomark _)))
        (fun _ _ _ _ _ => pe_tup (pa_cons (pv 2) (pa_cons (pe_op op_sub (pe_ix ix_seq (pv 0) (pe_op op_add (pv 1) (pv 2)) (fun _ _ => rfl)) (pv 1)) pa_nil))))), ?_⟩
    have hl := hP.len
    refine ⟨.ref a, rfl, a, fs, n, rfl, hS, hl, _, rfl, _, rfl, by omega, by omega, fun D nD => ?_⟩
    rw [show ((n : Int)).toNat = n by omega]
    refine lc_range (n := n) (fun i H' => Same H H' ∧ ∃ as : List Addr, H' D = some (.lst (as.map V.ref)) ∧ Prs H' as (selN (loC fs n) (loG fs n) i)) ⟨same_new nD, [], upd_same, .nil⟩ (fun i H1 hi hPv => ?_) (fun H1 hPv => ?_)
    · obtain ⟨sm, as, eD, hA⟩ := hPv
      obtain ⟨z, ez, _⟩ := hP.par (n + i) (by omega)
      have hS1 := hS.same sm
      refine ⟨rfl, _, rfl, _, rfl, _, rfl, _, _, rfl, rfl, ix_sq hS1 (at1 ez) ⟨_, rfl, _, rfl, _, _, rfl, rfl, _, _, rfl, rfl, _, rfl, ite2 (fun c => ?_) (fun c => ?_)⟩⟩
      · have hz : n + i < z := by have := of_decide_eq_true c; omega
        refine ⟨_, rfl, _, rfl, _, rfl, _, rfl, _, _, rfl, rfl, ix_sq hS1 (at1 ez) ⟨_, rfl, _, _, rfl, rfl, by show 2 ≤ sizeLine; decide, fun u nu => sel_step nD sm eD hA ?_ nu ?_ (by omega)⟩⟩
        · unfold loC; rw [getD_of ez, decide_eq_true hz]
        · unfold loG; rw [getD_of ez]
          show [V.int ((0 : Int) + (i : Nat)), V.int ((z : Int) - (n : Int))] = [V.int (i : Int), V.int ((z - n : Nat) : Int)]
          rw [Int.zero_add, show (z : Int) - (n : Int) = ((z - n : Nat) : Int) by omega]
      · refine ⟨sm, as, eD, ?_⟩
        rw [selN_no]
        · exact hA
        · unfold loC; rw [getD_of ez, decide_eq_false (fun h => c (decide_eq_true (by omega)))]
    · obtain ⟨sm, as, eD, hA⟩ := hPv
      exact q H1 D as sm nD eD hA
end
end Pc
namespace Pc
open PySem PySem.Spec PyProof.Rows L2 RZ
section
variable {P : Program} {w : World} {K : PySem.W.Frag} {mg : Str → Option Value} {base : Heap}
/-! ### strands -/
theorem ok_p_strands (T : Env K mg) : FnOk P w K mg base CX0 2 T.f_p_strands T.d_p_strands ["sheet"] (spPairs K sts) := by
  have G0 : FnOk P w K mg base CX0 1 T.f_p_people_of T.d_p_people_of ["sheet"] (spPeople K) := ok_p_people_of T
  refine T.F_p_strands.ok sc_p_strands (fun vs H Q E h => ?_) (fun cdv A outer s H vs Q E hr h => ?_)
  · obtain ⟨a, fs, n, rfl, _⟩ := h
    rfl
  · obtain ⟨a, fs, n, rfl, hS, hP, hn, q⟩ := h
    refine ⟨_, pss_cons (ps_set (i := 1) sc_p_strands.nd rfl (.inr rfl) (pe_call G0 hr (by rfl) T.g_p_people_of T.F_p_people_of.kp T.b_p_people_of .nil pass0 (pa_cons (pv 0) pa_nil))) <|
      pss_one (ps_ret (pe_lc (own := [("x", 2)]) (g := gName 2) (tt := tTest (tOp (rI0 fun i j => .bl (decide (j ≤ i))) (tOp (rIx K) (tVar 0) (tVar 2)) (tVar 1)))
          (te := tTup (tCons (tVar 2) (tCons (tOp (rI0 fun i j => .int (i - j)) (tOp (rIx K) (tVar 0) (tVar 2)) (tVar 1)) tNil))) rfl sc_p_strands.nd
        (pi_range1 (by rfl) T.n_range (pa_cons (pv 1) pa_nil)) (blkOk_by (N := N_p_strands) (sc := defScope s_p_strands) (by decide +kernel)) (fun _ _ _ _ _ => pg_name (i := 2) sc_p_strands.nd rfl (.inl rfl))
        (fun _ _ _ _ _ => pts_one (pt_cmpR op_ge (pe_ix ix_seq (pv 0) (pv 2) (fun _ _ => rfl)) (pv 1) (nomark _)))
        (fun _ _ _ _ _ => pe_tup (pa_cons (pv 2) (pa_cons (pe_op op_sub (pe_ix ix_seq (pv 0) (pv 2) (fun _ _ => rfl)) (pv 1)) pa_nil))))), ?_⟩
    have hl := hP.len
    refine ⟨.ref a, rfl, a, fs, n, rfl, hS, hl, _, rfl, _, rfl, by omega, by omega, fun D nD => ?_⟩
    rw [show ((n : Int)).toNat = n by omega]
    refine lc_range (n := n) (fun i H' => Same H H' ∧ ∃ as : List Addr, H' D = some (.lst (as.map V.ref)) ∧ Prs H' as (selN (stC fs n) (stG fs n) i)) ⟨same_new nD, [], upd_same, .nil⟩ (fun i H1 hi hPv => ?_) (fun H1 hPv => ?_)
    · obtain ⟨sm, as, eD, hA⟩ := hPv
      obtain ⟨z, ez, _⟩ := hP.par i (by omega)
      have hS1 := hS.same sm
      refine ⟨rfl, _, rfl, _, rfl, ix_sq hS1 (at0 ez) ⟨_, rfl, _, _, rfl, rfl, _, rfl, ite2 (fun c => ?_) (fun c => ?_)⟩⟩
      · have hz : n ≤ z := by have := of_decide_eq_true c; omega
        refine ⟨_, rfl, _, rfl, _, rfl, ix_sq hS1 (at0 ez) ⟨_, rfl, _, _, rfl, rfl, by show 2 ≤ sizeLine; decide, fun u nu => sel_step nD sm eD hA ?_ nu ?_ (by omega)⟩⟩
        · unfold stC; rw [getD_of ez, decide_eq_true hz]
        · unfold stG; rw [getD_of ez]
          show [V.int ((0 : Int) + (i : Nat)), V.int ((z : Int) - (n : Int))] = [V.int (i : Int), V.int ((z - n : Nat) : Int)]
          rw [Int.zero_add, show (z : Int) - (n : Int) = ((z - n : Nat) : Int) by omega]
      · refine ⟨sm, as, eD, ?_⟩
        rw [selN_no]
        · exact hA
        · unfold stC; rw [getD_of ez, decide_eq_false (fun h => c (decide_eq_true (by omega)))]
    · obtain ⟨sm, as, eD, hA⟩ := hPv
      exact q H1 D as sm nD eD hA
end
end Pc
namespace Pc
open PySem PySem.Spec PyProof.Rows L2 RZ
section
variable {P : Program} {w : World} {K : PySem.W.Frag} {mg : Str → Option Value} {base : Heap}
/-! ### the people at the lower ends of strands -/
def spLoose (K : PySem.W.Frag) : Sp := fun vs H Q _ => ∃ (a : Addr) (f : List Nat) (n : Nat), vs = [.ref a] ∧ Sq K H a (nv f) ∧ IsPair (2 * n) f ∧ n ≤ 500 ∧
  ∀ (H' : Hp) (t : Addr), Same H H' → H t = none → H' t = some (.lst (nv (lse f n))) → Q (.ref t) H'
theorem lse_step (f : List Nat) (n i : Nat) : (List.range (i + 1)).filter (lsC f n) = (List.range i).filter (lsC f n) ++ (if lsC f n i = true then [i] else []) := by
  rw [List.range_succ, List.filter_append]
  by_cases c : lsC f n i = true
  · rw [if_pos c, List.filter_cons_of_pos c, List.filter_nil]
  · rw [if_neg c, List.filter_cons_of_neg c, List.filter_nil]
theorem ok_p_loose_people (T : Env K mg) : FnOk P w K mg base CX0 2 T.f_p_loose_people T.d_p_loose_people ["sheet"] (spLoose K) := by
  have G0 : FnOk P w K mg base CX0 1 T.f_p_people_of T.d_p_people_of ["sheet"] (spPeople K) := ok_p_people_of T
  refine T.F_p_loose_people.ok sc_p_loose_people (fun vs H Q E h => ?_) (fun cdv A outer s H vs Q E hr h => ?_)
  · obtain ⟨a, f, n, rfl, _⟩ := h
    rfl
  · obtain ⟨a, f, n, rfl, ha, hf, hn, q⟩ := h
    refine ⟨_, pss_cons (ps_set (i := 1) sc_p_loose_people.nd rfl (.inr rfl) (pe_call G0 hr (by rfl) T.g_p_people_of T.F_p_people_of.kp T.b_p_people_of .nil pass0 (pa_cons (pv 0) pa_nil))) <|
      pss_one (ps_ret (pe_lc (own := [("person", 2)]) (g := gName 2) (tt := tTest (tOp (rI0 fun i j => .bl (decide (i < j))) (tOp (rIx K) (tVar 0) (tOp (rI0 fun i j => .int (i + j)) (tVar 1) (tVar 2))) (tVar 1))) (te := tVar 2) rfl sc_p_loose_people.nd
        (pi_range1 (by rfl) T.n_range (pa_cons (pv 1) pa_nil)) (blkOk_by (N := N_p_loose_people) (sc := defScope s_p_loose_people) (by decide +kernel)) (fun _ _ _ _ _ => pg_name (i := 2) sc_p_loose_people.nd rfl (.inl rfl))
        (fun _ _ _ _ _ => pts_one (pt_cmpR op_lt (pe_ix ix_seq (pv 0) (pe_op op_add (pv 1) (pv 2)) (fun _ _ => rfl)) (pv 1) (nomark _)))
        (fun _ _ _ _ _ => pv 2))), ?_⟩
    refine ⟨.ref a, rfl, a, f, n, rfl, ha, hf.len, _, rfl, _, rfl, by omega, by omega, fun D nD => ?_⟩
    rw [show ((n : Int)).toNat = n by omega]
    refine lc_range (n := n) (fun i H' => Same H H' ∧ H' D = some (.lst (nv ((List.range i).filter (lsC f n))))) ⟨same_new nD, upd_same⟩ (fun i H1 hi hPv => ?_) (fun H1 hPv => ?_)
    · obtain ⟨sm, eD⟩ := hPv
      have fi := hf.d (show n + i < 2 * n by omega)
      refine ⟨rfl, _, rfl, _, rfl, _, rfl, _, _, rfl, rfl, ix_sq (ha.same sm) (at1 fi.2.2.2) ⟨_, rfl, _, _, rfl, rfl, _, rfl, ite2 (fun c => ?_) (fun c => ?_)⟩⟩
      · have hc : lsC f n i = true := decide_eq_true (by have := of_decide_eq_true c; omega)
        refine ⟨_, rfl, _, eD, line_big ?_, fun x o hx => ?_, ?_⟩
        · rw [nv_length]
          exact Nat.le_trans (List.length_filter_le _ _) (by rw [List.length_range]; omega)
        · rw [upd_ne (ne_of_none hx nD)]; exact sm _ _ hx
        · rw [upd_same, lse_step, if_pos hc, ← nv_snoc']
          show some (HO.lst (nv ((List.range i).filter (lsC f n)) ++ [V.int ((0 : Int) + (i : Nat))])) = _
          rw [Int.zero_add]
      · refine ⟨sm, ?_⟩
        have hc : ¬ lsC f n i = true := fun z => c (decide_eq_true (by have := of_decide_eq_true z; omega))
        rw [lse_step, if_neg hc, List.append_nil]; exact eD
    · obtain ⟨sm, eD⟩ := hPv
      exact q H1 D sm nD eD
end
end Pc
namespace Pc
open PySem PySem.Spec PyProof.Rows L2 RZ
section
variable {P : Program} {w : World} {K : PySem.W.Frag} {mg : Str → Option Value} {base : Heap}
/-! ### couples -/
def spCouples (K : PySem.W.Frag) : Sp := fun vs H Q _ => ∃ (a : Addr) (ps : List Nat), vs = [.ref a] ∧ Sq K H a (nv ps) ∧ ps.length ≤ 1000 ∧
  ∀ (H' : Hp) (p : Addr) (as : List Addr), Same H H' → H p = none → H' p = some (.lst (as.map V.ref)) → Prs H' as (cpl ps) → Q (.ref p) H'
theorem ok_p_couples (T : Env K mg) : FnOk P w K mg base CX0 1 T.f_p_couples T.d_p_couples ["pairing"] (spCouples K) := by
  refine T.F_p_couples.ok sc_p_couples (fun vs H Q E h => ?_) (fun cdv A outer s H vs Q E hr h => ?_)
  · obtain ⟨a, ps, rfl, _⟩ := h
    rfl
  · obtain ⟨a, ps, rfl, hS, hn, q⟩ := h
    refine ⟨_, pss_one (ps_ret (pe_lc (own := [("x", 1), ("y", 2)]) (g := gTup K 2 (gCons (gName 1) (gCons (gName 2) gNil))) (by rfl) sc_p_couples.nd (pi_enumA (by rfl) T.n_enumerate (pa_cons (pv 0) pa_nil))
      (blkOk_by (N := N_p_couples) (sc := defScope s_p_couples) (by decide +kernel))
      (fun _ _ _ _ _ => pg_tup (by rfl) (pgs_cons (pg_name (i := 1) sc_p_couples.nd rfl (.inl rfl)) (pgs_cons (pg_name (i := 2) sc_p_couples.nd rfl (.inl rfl)) pgs_nil)))
      (fun _ _ _ _ _ => pts_one (pt_cmpR op_lt (pv 1) (pv 2) (nomark _)))
      (fun _ _ _ _ _ => pe_tup (pa_cons (pv 1) (pa_cons (pv 2) pa_nil))))), ?_⟩
    -- one turn, whatever is walked
    have turn : ∀ (D : Addr), H D = none → ∀ (i : Nat) (x : V) (H1 H2 : Hp), i < (nv ps).length → (Same H H1 ∧ ∃ as : List Addr, H1 D = some (.lst (as.map V.ref)) ∧ Prs H1 as (cplN ps i)) → YPair (fun i => some (.int (i : Nat))) (fun i => (nv ps)[i]?) i H1 x H2 →
        gTup K 2 (gCons (gName 1) (gCons (gName 2) gNil)) x (wipe (L2.start ["pairing", "x", "y"] [V.ref a]) [1, 2]) H2 fun σ2 H2 => wipe σ2 [1, 2] = wipe (L2.start ["pairing", "x", "y"] [V.ref a]) [1, 2] ∧ tTest (tOp (rI0 fun i j => .bl (decide (i < j))) (tVar 1) (tVar 2)) σ2 H2 fun b H3 =>
          if b = true then tTup (tCons (tVar 1) (tCons (tVar 2) tNil)) σ2 H3 fun y H4 => ∃ acc, H4 D = some (.lst acc) ∧ acc.length < sizeLine ∧ (Same H (upd H4 D (.lst (acc ++ [y]))) ∧ ∃ as : List Addr, (upd H4 D (.lst (acc ++ [y]))) D = some (.lst (as.map V.ref)) ∧ Prs (upd H4 D (.lst (acc ++ [y]))) as (cplN ps (i + 1)))
          else (Same H H3 ∧ ∃ as : List Addr, H3 D = some (.lst (as.map V.ref)) ∧ Prs H3 as (cplN ps (i + 1))) := by
      intro D nD0 i x H1 H2 hi hP y
      obtain ⟨sm, as, eD, hA⟩ := hP
      obtain ⟨t, v1, v2, rfl, nt, rfl, g1, g2⟩ := y
      have ev1 : v1 = .int (i : Nat) := (Option.some.inj g1).symm
      obtain ⟨z, ez, ev2⟩ := nv_get' g2
      subst ev1 ev2
      have st : Same H1 (upd H1 t (.tup [.int (i : Nat), .int z])) := same_new nt
      have eDt := st _ _ eD
      refine ⟨t, _, rfl, .inl (.inl upd_same), rfl, _, _, rfl, _, _, rfl, rfl, rfl, _, rfl, _, rfl, _, _, rfl, rfl, _, rfl, ite2 (fun c => ?_) (fun c => ?_)⟩
      · have hl : i < z := by have := of_decide_eq_true c; omega
        refine ⟨_, rfl, _, rfl, by show 2 ≤ sizeLine; decide, fun u nu => ⟨_, same_new nu _ _ eDt, ?_, ?_⟩⟩
        · rw [List.length_map, hA.length]
          have := cplN_len ps i
          rw [nv_length] at hi
          exact small1000 (by omega)
        · have su : Same H1 _ := st.trans (same_new (o := .tup [.int (i : Nat), .int z]) nu)
          have nuD : u ≠ D := fun e => by rw [e, eDt] at nu; cases nu
          have sD : ∀ b o, b ≠ D → (upd (upd H1 t (.tup [.int (i : Nat), .int z])) u (.tup [.int (i : Nat), .int z])) b = some o → (upd (upd (upd H1 t (.tup [.int (i : Nat), .int z])) u (.tup [.int (i : Nat), .int z])) D (.lst (as.map V.ref ++ [.ref u]))) b = some o := fun b o nb hb => by rw [upd_ne nb]; exact hb
          refine ⟨fun b o hb => sD b o (ne_of_none hb nD0) (su _ _ (sm _ _ hb)), as ++ [u], ?_, ?_⟩
          · rw [upd_same, List.map_append]; rfl
          · rw [cplN_yes ez hl]
            refine prs_append ?_ (.cons ?_ .nil)
            · exact prs_keep (b := D) (ys := as.map V.ref) keep_upd (same_new nu _ _ eDt) (prs_same su hA)
            · exact sD u _ nuD upd_same
      · have hl : ¬ i < z := fun hl => c (decide_eq_true (by omega))
        refine ⟨sm.trans st, as, eDt, ?_⟩
        rw [cplN_no ez hl]
        exact prs_same st hA
    have fin : ∀ (D : Addr), H D = none → ∀ H' : Hp, (Same H H' ∧ ∃ as : List Addr, H' D = some (.lst (as.map V.ref)) ∧ Prs H' as (cplN ps (nv ps).length)) → Q (.ref D) H' := by
      rintro D nD H' ⟨sm, as, eD, hA⟩
      rw [nv_length] at hA
      exact q H' D as sm nD eD hA
    rcases hS with hS | hS
    · refine ⟨.ref a, rfl, a, nv ps, rfl, .inl ⟨hS, fun D nD => ?_⟩⟩
      exact lc_it walk_enum (fun i H' => Same H H' ∧ ∃ as : List Addr, H' D = some (.lst (as.map V.ref)) ∧ Prs H' as (cplN ps i)) ⟨same_new nD, [], upd_same, .nil⟩ (fun i H' _ h => h.1.seq hS) (turn D nD) (fin D nD)
    · refine ⟨.ref a, rfl, a, nv ps, rfl, .inr ⟨hS, fun D nD => ?_⟩⟩
      exact lc_it walk_enumT (fun i H' => Same H H' ∧ ∃ as : List Addr, H' D = some (.lst (as.map V.ref)) ∧ Prs H' as (cplN ps i)) ⟨same_new nD, [], upd_same, .nil⟩ (fun i H' _ h => same_tup h.1 hS) (turn D nD) (fin D nD)
end
end Pc
namespace Pc
open PySem PySem.Spec PyProof.Rows L2 RZ
section
variable {P : Program} {w : World} {K : PySem.W.Frag} {mg : Str → Option Value} {base : Heap}
/-! ### pairing_of -/
def spPairingOf (K : PySem.W.Frag) : Sp := fun vs H Q _ => ∃ (a : Addr) (us : List V) (qs : List (Nat × Nat)) (ps : List Nat), vs = [.ref a] ∧ Sq K H a us ∧ Items K H us qs ∧ Makes qs ps ∧ ps.length ≤ 1000 ∧
  ∀ (H' : Hp) (t : Addr), Same H H' → H t = none → H' t = some (.tup (nv ps)) → Q (.ref t) H'
theorem ok_p_pairing_of (T : Env K mg) : FnOk P w K mg base CX0 1 T.f_p_pairing_of T.d_p_pairing_of ["couples"] (spPairingOf K) := by
  refine T.F_p_pairing_of.ok sc_p_pairing_of (fun vs H Q E h => ?_) (fun cdv A outer s H vs Q E hr h => ?_)
  · obtain ⟨a, us, qs, ps, rfl, _⟩ := h
    rfl
  · obtain ⟨a, us, qs, ps, rfl, hS, hI, hM, hn, q⟩ := h
    refine ⟨_, pss_cons (ps_set (i := 1) sc_p_pairing_of.nd rfl (.inl rfl) (pe_op op_rep (pe_lst (pa_cons pe_int pa_nil)) (pe_op op_mul pe_int (pe_callB call_len_seq (by rfl) T.n_len PySem.boot_len (pa_cons (pv 0) pa_nil)))))
      (pss_cons (ps_for PassesOwn.never rfl (pi_seq (pv 0)) (pg_seq (by rfl) (pgs_cons (pg_name (i := 2) sc_p_pairing_of.nd rfl (.inl rfl)) (pgs_cons (pg_name (i := 3) sc_p_pairing_of.nd rfl (.inl rfl)) pgs_nil)))
        (pss_cons (ps_asg (pv 3) (pg_sub (pv 1) (pv 2) set_list)) (pss_one (ps_asg (pv 2) (pg_sub (pv 1) (pv 3) set_list)))))
      (pss_one (ps_ret (pe_callTy call_tuple_of (by rfl) T.n_tuple (by decide +kernel) (pa_cons (pv 1) pa_nil))))), ?_⟩
    have hlen : us.length = qs.length := hI.1
    have hhalf := hM.half
    refine ⟨by show 1 ≤ sizeLine; decide, fun e ne => ?_⟩
    have s0 : Same H (upd H e (.lst [.int 0])) := same_new ne
    have hlq : SqL K (upd H e (.lst [.int 0])) a us ∨ SqT K (upd H e (.lst [.int 0])) a us := hS.same s0
    refine ⟨.ref a, rfl, a, us, rfl, hlq, 2, _, rfl, rfl, .inl ⟨by decide, by decide⟩, e, _, [.int 0], rfl, rfl, upd_same, by omega, by omega, ?_, fun f nf => ?_⟩
    · show 1 * Int.toNat (2 * (us.length : Int)) ≤ sizeLine
      exact Nat.le_of_lt (small1000 (by omega))
    have e0 : (List.replicate (2 * (us.length : Int)).toNat [V.int 0]).flatten = nv (List.replicate ps.length 0) := by
      rw [rep_flat, show (2 * (us.length : Int)).toNat = ps.length by omega]
      unfold nv
      rw [List.map_replicate]; rfl
    have s1 : Same H _ := s0.trans (same_new (o := .lst (List.replicate (2 * (us.length : Int)).toNat [V.int 0]).flatten) nf)
    have nf0 : H f = none := s0.free nf
    -- one turn
    have turn : ∀ (i : Nat) (x : V) (σ : L2.St) (H1 : Hp), us[i]? = some x → (Same H H1 ∧ ∃ (y2 y3 : Option V) (fs : List Nat), σ = [some (.ref a), some (.ref f), y2, y3] ∧ H1 f = some (.lst (nv fs)) ∧ CInv ps qs fs i) →
        ∀ N : L2.St → Hp → Prop, (∀ σ' H', (Same H H' ∧ ∃ (y2 y3 : Option V) (fs : List Nat), σ' = [some (.ref a), some (.ref f), y2, y3] ∧ H' f = some (.lst (nv fs)) ∧ CInv ps qs fs (i + 1)) → N σ' H') →
        gSeq K 2 (gCons (gName 2) (gCons (gName 3) gNil)) x σ H1 fun σ2 H2 => ∃ v3, σ2[3]? = some (some v3) ∧ ∃ v1, σ2[1]? = some (some v1) ∧ ∃ v2, σ2[2]? = some (some v2) ∧ rSetL v1 v2 v3 H2 fun H3 => ∃ w2, σ2[2]? = some (some w2) ∧ ∃ w1, σ2[1]? = some (some w1) ∧ ∃ w3, σ2[3]? = some (some w3) ∧ rSetL w1 w3 w2 H3 fun H4 => N σ2 H4 := by
      intro i x σ H1 hx hP N hN
      obtain ⟨sm, y2, y3, fs, rfl, ef, ci⟩ := hP
      obtain ⟨c, p, rfl, hp, hc⟩ := hI.2 i x hx
      obtain ⟨o1, o2⟩ := hM.ok p (List.mem_of_getElem? hp)
      have l1 : p.1 < fs.length := by rw [ci.1]; exact get_lt o1
      have l2 : p.2 < fs.length := by rw [ci.1]; exact get_lt o2
      refine ⟨c, _, rfl, hc.same sm, rfl, _, _, rfl, _, _, rfl, rfl, _, rfl, _, rfl, _, rfl, f, _, _, p.1, rfl, rfl, ef, ixN_nat (by rw [nv_length]; exact l1), _, rfl, _, rfl, _, rfl, f, _, _, p.2, rfl, rfl, upd_same, ?_, hN _ _ ⟨fun b o hb => ?_, _, _, (fs.set p.1 p.2).set p.2 p.1, rfl, ?_, ci.step hM hp⟩⟩
      · rw [List.length_set]; exact ixN_nat (by rw [nv_length]; exact l2)
      · rw [upd_ne (ne_of_none hb nf0), upd_ne (ne_of_none hb nf0)]; exact sm _ _ hb
      · rw [upd_same, nv_set, nv_set]
    have start : Same H (upd (upd H e (.lst [.int 0])) f (.lst (List.replicate (2 * (us.length : Int)).toNat [V.int 0]).flatten)) ∧ ∃ (y2 y3 : Option V) (fs : List Nat), ([some (.ref a), some (.ref f), none, none] : L2.St) = [some (.ref a), some (.ref f), y2, y3] ∧ (upd (upd H e (.lst [.int 0])) f (.lst (List.replicate (2 * (us.length : Int)).toNat [V.int 0]).flatten)) f = some (.lst (nv fs)) ∧ CInv ps qs fs 0 :=
      ⟨s1, none, none, List.replicate ps.length 0, rfl, by rw [upd_same, e0], by rw [List.length_replicate], fun j hj => absurd hj (Nat.not_lt_zero _)⟩
    have fin : ∀ (σ : L2.St) (H' : Hp), (Same H H' ∧ ∃ (y2 y3 : Option V) (fs : List Nat), σ = [some (.ref a), some (.ref f), y2, y3] ∧ H' f = some (.lst (nv fs)) ∧ CInv ps qs fs us.length) → ∃ v, σ[1]? = some (some v) ∧ ∃ (p : Addr) (ys : List V), [v] = [.ref p] ∧ ((SqL K H' p ys ∧ ∀ l, H' l = none → Q (.ref l) (upd H' l (.tup ys))) ∨ (SqT K H' p ys ∧ Q (.ref p) H')) := by
      rintro σ H' ⟨sm, y2, y3, fs, rfl, ef, ci⟩
      rw [hlen] at ci
      have e := ci.done hM
      subst e
      exact ⟨_, rfl, f, _, rfl, .inl ⟨.inl (.inl ef), fun l nl => q _ l (sm.trans (same_new nl)) (sm.free nl) upd_same⟩⟩
    rcases hS with hS | hS
    · refine ⟨.ref a, rfl, a, rfl, .inl ⟨⟨_, s1.seq hS⟩, ?_⟩⟩
      exact for_list (xs := us) _ start (fun i σ H' _ h => h.1.seq hS) (fun i x σ H1 hx hP => turn i x σ H1 hx hP _ fun _ _ z => z) fin
    · refine ⟨.ref a, rfl, a, rfl, .inr ⟨⟨_, same_tup s1 hS⟩, ?_⟩⟩
      exact for_tup (xs := us) _ start (fun i σ H' _ h => same_tup h.1 hS) (fun i x σ H1 hx hP => turn i x σ H1 hx hP _ fun _ _ z => z) fin
end
end Pc
namespace Pc
open PySem PySem.Spec PyProof.Rows L2 RZ
theorem rgc_odd {r : Nat} (h : r ≤ 100000) : RgC 1 ((2 * r : Nat) : Int) 2 r := by
  have e : Builtin.Range.rangeSize 1 ((2 * r : Nat) : Int) 2 = (r : Int) := by
    unfold Builtin.Range.rangeSize
    rw [if_pos (by decide)]
    split <;> omega
  refine ⟨by decide, by decide, ?_, e⟩
  unfold Builtin.Range.small
  rw [e, fits_long (i := 1) (by decide) (by decide), fits_long (i := ((2 * r : Nat) : Int)) (by omega) (by omega), fits_long (i := 2) (by decide) (by decide), fits_long (i := (r : Int)) (by omega) (by omega), if_pos (by decide), fits_long (i := ((2 * r : Nat) : Int) + (2 - 1)) (by omega) (by omega), Bool.or_true]
  rfl
theorem dfac_small {r : Nat} (h : r ≤ 10) : dfac r ≤ 654729075 := by
  have := Nat.le_of_dvd (dfac_pos (r + (10 - r))) (dfac_dvd r (10 - r))
  rw [show r + (10 - r) = 10 by omega] at this
  exact Nat.le_trans this (by decide)
section
variable {P : Program} {w : World} {K : PySem.W.Frag} {mg : Str → Option Value} {base : Heap}
/-! ### how many pairings, how many results -/
def spMany : Sp := fun vs H Q _ => ∃ r : Nat, vs = [.int ((2 * r : Nat) : Int)] ∧ r ≤ 10 ∧ Q (.int (dfac r : Nat)) H
theorem ok_p_pairings_many (T : Env K mg) : FnOk P w K mg base CX0 1 T.f_p_pairings_many T.d_p_pairings_many ["size"] spMany := by
  refine T.F_p_pairings_many.ok sc_p_pairings_many (fun vs H Q E h => ?_) (fun cdv A outer s H vs Q E hr h => ?_)
  · obtain ⟨r, rfl, _⟩ := h
    rfl
  · obtain ⟨r, rfl, hr', q⟩ := h
    refine ⟨_, pss_cons (ps_set (i := 1) sc_p_pairings_many.nd rfl (.inl rfl) pe_int) <|
      pss_cons (ps_for PassesOwn.never rfl (pi_range3 rfl T.n_range (pa_cons pe_int (pa_cons (pv 0) (pa_cons pe_int pa_nil)))) (pg_name (i := 2) sc_p_pairings_many.nd rfl (.inl rfl))
        (pss_one (ps_aug (i := 1) sc_p_pairings_many.nd rfl (.inl rfl) (pv 2) ip_mul))) <|
      pss_one (ps_ret (pv 1)), ?_⟩
    refine ⟨_, rfl, 1, _, 2, r, rfl, rgc_odd (by omega), ?_⟩
    refine for_rangeC (fun t σ H' => H' = H ∧ ∃ y : Option V, σ = [some (.int ((2 * r : Nat) : Int)), some (.int (dfac t : Nat)), y]) ⟨rfl, none, rfl⟩ (fun t σ H' ht h => ?_) (fun σ H' h => ?_)
    · obtain ⟨rfl, y, rfl⟩ := h
      have hd := dfac_small (r := t) (by omega)
      refine ⟨_, rfl, _, rfl, _, _, rfl, rfl, .inl ⟨by omega, by omega⟩, rfl, some (.int (1 + (t : Nat) * 2)), ?_⟩
      show [some (V.int ((2 * r : Nat) : Int)), some (V.int ((dfac t : Int) * (1 + (t : Nat) * 2))), some (V.int (1 + (t : Nat) * 2))] = _
      rw [show ((dfac t : Nat) : Int) * (1 + (t : Nat) * 2) = ((dfac (t + 1) : Nat) : Int) by
        show _ = ((dfac t * (2 * t + 1) : Nat) : Int)
        rw [Int.natCast_mul, show ((2 * t + 1 : Nat) : Int) = 1 + (t : Nat) * 2 by omega]]
    · obtain ⟨rfl, y, rfl⟩ := h
      exact ⟨_, rfl, q⟩
end
end Pc
namespace Pc
open PySem PySem.Spec PyProof.Rows L2 RZ
/-- a comprehension over a list or a tuple that stays as it is -/
theorem lc_seq' {K : PySem.W.Frag} {a : Addr} {xs : List V} {g : TG} {tt : TT} {te : TE} {vs : List Nat} {σ : L2.St} {H0 H1 : Hp} {Qd : Addr → Hp → Prop} (hS : Sq K H0 a xs) (s0 : Same H0 H1)
    (step : ∀ D, H1 D = none → ∃ Pv : Nat → Hp → Prop, Pv 0 (upd H1 D (.lst [])) ∧ (∀ i H', Pv i H' → Same H0 H') ∧ (∀ i x H', xs[i]? = some x → Pv i H' → g x (wipe σ vs) H' fun σ2 H2 => wipe σ2 vs = wipe σ vs ∧ tt σ2 H2 fun b H3 =>
      if b = true then te σ2 H3 fun y H4 => ∃ acc, H4 D = some (.lst acc) ∧ acc.length < sizeLine ∧ Pv (i + 1) (upd H4 D (.lst (acc ++ [y]))) else Pv (i + 1) H3) ∧ ∀ H', Pv xs.length H' → Qd D H') :
    ((∃ ys, SqL K H1 a ys) ∧ ∀ D, H1 D = none → ∃ W : Nat → Nat → Hp → Prop, (∃ m, W 0 m (upd H1 D (.lst []))) ∧ ∀ i m H, W i m H → ((Itl K a).stop i H ∧ Qd D H) ∨ ((Itl K a).go i H ∧ ∃ Nx : Hp → Prop, (∀ H', Nx H' → ∃ m', m' < m ∧ W (i + 1) m' H') ∧ ∀ x H', (Itl K a).yld i H x H' → g x (wipe σ vs) H' fun σ2 H2 => wipe σ2 vs = wipe σ vs ∧ tt σ2 H2 fun b H3 =>
        if b = true then te σ2 H3 fun y H4 => ∃ acc, H4 D = some (.lst acc) ∧ acc.length < sizeLine ∧ Nx (upd H4 D (.lst (acc ++ [y]))) else Nx H3)) ∨
    ((∃ ys, SqT K H1 a ys) ∧ ∀ D, H1 D = none → ∃ W : Nat → Nat → Hp → Prop, (∃ m, W 0 m (upd H1 D (.lst []))) ∧ ∀ i m H, W i m H → ((Itt K a).stop i H ∧ Qd D H) ∨ ((Itt K a).go i H ∧ ∃ Nx : Hp → Prop, (∀ H', Nx H' → ∃ m', m' < m ∧ W (i + 1) m' H') ∧ ∀ x H', (Itt K a).yld i H x H' → g x (wipe σ vs) H' fun σ2 H2 => wipe σ2 vs = wipe σ vs ∧ tt σ2 H2 fun b H3 =>
        if b = true then te σ2 H3 fun y H4 => ∃ acc, H4 D = some (.lst acc) ∧ acc.length < sizeLine ∧ Nx (upd H4 D (.lst (acc ++ [y]))) else Nx H3)) := by
  rcases hS with h | h
  · refine .inl ⟨⟨_, s0.seq h⟩, fun D nD => ?_⟩
    obtain ⟨Pv, h0, hst, hs, hd⟩ := step D nD
    exact lc_list Pv h0 (fun i H' _ p => (hst i H' p).seq h) hs hd
  · refine .inr ⟨⟨_, same_tup s0 h⟩, fun D nD => ?_⟩
    obtain ⟨Pv, h0, hst, hs, hd⟩ := step D nD
    exact lc_tup Pv h0 (fun i H' _ p => same_tup (hst i H' p) h) hs hd
end Pc
namespace Pc
open PySem PySem.Spec PyProof.Rows L2 RZ
theorem nv_erase : ∀ (l : List Nat) (k : Nat), (nv l).eraseIdx k = nv (l.eraseIdx k)
  | [], _ => rfl
  | _ :: _, 0 => rfl
  | x :: l, k + 1 => congrArg (V.int (x : Int) :: ·) (nv_erase l k)
section
variable {P : Program} {w : World} {K : PySem.W.Frag} {mg : Str → Option Value} {base : Heap}
/-! ### the pairing with a number -/
def spPairingAt : Sp := fun vs H Q _ => ∃ r k : Nat, vs = [.int ((2 * r : Nat) : Int), .int k] ∧ r ≤ 10 ∧ k < dfac r ∧
  ∀ (H' : Hp) (t : Addr), Same H H' → H t = none → H' t = some (.tup (nv (pat r k))) → Q (.ref t) H'
theorem ok_p_pairing_at (T : Env K mg) : FnOk P w K mg base CX0 2 T.f_p_pairing_at T.d_p_pairing_at ["size", "number"] spPairingAt := by
  have G1 : FnOk P w K mg base CX0 1 T.f_p_pairings_many T.d_p_pairings_many ["size"] spMany := ok_p_pairings_many T
  have G2 : FnOk P w K mg base CX0 1 T.f_p_pairing_of T.d_p_pairing_of ["couples"] (spPairingOf K) := ok_p_pairing_of T
  refine T.F_p_pairing_at.ok sc_p_pairing_at (fun vs H Q E h => ?_) (fun cdv A outer s H vs Q E hr h => ?_)
  · obtain ⟨r, k, rfl, _⟩ := h
    rfl
  · obtain ⟨r, k0, rfl, hr10, hk0, q⟩ := h
    refine ⟨_, pss_cons (ps_set (i := 2) sc_p_pairing_at.nd rfl (.inl rfl) (pe_call G1 hr (by rfl) T.g_p_pairings_many T.F_p_pairings_many.kp T.b_p_pairings_many .nil pass0 (pa_cons (pv 0) pa_nil))) <|
      pss_cons (ps_if (pt_not (pt_chain op_le op_lt pe_int (pv 1) (pv 2))) pss_never pss_nil) <|
      pss_cons (ps_set (i := 3) sc_p_pairing_at.nd rfl (.inl rfl) (pe_lst pa_nil)) <|
      pss_cons (ps_set (i := 4) sc_p_pairing_at.nd rfl (.inl rfl) (pe_listRg rfl (by rfl) T.n_list (prg_1 (by rfl) T.n_range (pv 0)))) <|
      pss_cons (ps_set (i := 5) sc_p_pairing_at.nd rfl (.inl rfl) (pv 1)) <|
      pss_cons (ps_while PassesOwn.never (pt_truth (pv 4) (by intro _; rfl))
        (pss_cons (ps_set (i := 6) sc_p_pairing_at.nd rfl (.inl rfl) (pe_bm PySem.F.plainAttrs_list PySem.F.slot_list_pop PySem.F.type_list_pop mt_popAt (pv 4) (pa_cons pe_int pa_nil))) <|
        pss_cons (ps_aug (i := 2) sc_p_pairing_at.nd rfl (.inl rfl) (pe_callB call_len_seq (by rfl) T.n_len PySem.boot_len (pa_cons (pv 4) pa_nil)) ip_half) <|
        pss_cons (ps_asg (pe_callB call_divmod (by rfl) T.n_divmod (by decide +kernel) (pa_cons (pv 5) (pa_cons (pv 2) pa_nil))) (pg_tup rfl (pgs_cons (pg_name (i := 7) sc_p_pairing_at.nd rfl (.inl rfl)) (pgs_cons (pg_name (i := 5) sc_p_pairing_at.nd rfl (.inl rfl)) pgs_nil)))) <|
        pss_one (ps_expr (pe_bm PySem.F.plainAttrs_list PySem.F.slot_list_append PySem.F.type_list_append mt_append (pv 3) (pa_cons
          (pe_tup (pa_cons (pv 6) (pa_cons (pe_bm PySem.F.plainAttrs_list PySem.F.slot_list_pop PySem.F.type_list_pop mt_popAt (pv 4) (pa_cons (pv 7) pa_nil)) pa_nil))) pa_nil))))) <|
      pss_one (ps_ret (pe_call G2 hr (by rfl) T.g_p_pairing_of T.F_p_pairing_of.kp T.b_p_pairing_of .nil pass0 (pa_cons (pv 3) pa_nil))), ?_⟩
    refine ⟨_, rfl, r, rfl, hr10, ?_⟩
    refine ⟨_, rfl, 0, k0, rfl, rfl, _, rfl, ?_⟩
    rw [decide_eq_true (show (0 : Int) ≤ (k0 : Int) by omega)]
    refine iteT ⟨_, rfl, k0, (dfac r : Nat), rfl, rfl, _, rfl, ?_⟩
    rw [decide_eq_true (show (k0 : Int) < ((dfac r : Nat) : Int) by omega)]
    refine iteN ⟨Nat.zero_le _, fun f nf => ?_⟩
    refine ⟨_, rfl, _, rfl, RgOk.of_le (by decide) (by omega) (by decide) (by omega), fun l nl => ?_⟩
    rw [rg_nv]
    have lf : l ≠ f := fun e => by rw [e, upd_same] at nl; cases nl
    have nl0 : H l = none := (same_new nf).free nl
    have s0 : Same H (upd (upd H f (.lst [])) l (.lst (nv (List.range (2 * r))))) := (same_new nf).trans (same_new nl)
    refine ⟨_, rfl, ?_⟩
    have hd10 : dfac 10 = 654729075 := by decide
    refine ⟨fun m σ Hx => ∃ (fr : List Nat) (k : Nat) (as : List Addr) (dn : List (Nat × Nat)) (y6 y7 : Option V), σ = [some (.int ((2 * r : Nat) : Int)), some (.int (k0 : Nat)), some (.int (dfac m : Nat)), some (.ref f), some (.ref l), some (.int (k : Nat)), y6, y7] ∧ Hx l = some (.lst (nv fr)) ∧ Hx f = some (.lst (as.map V.ref)) ∧ Prs Hx as dn ∧
        fr.length = 2 * m ∧ k < dfac m ∧ m ≤ r ∧ dn.length + m = r ∧ dn ++ una m fr k = una r (List.range (2 * r)) k0 ∧ Same H Hx,
      ⟨r, List.range (2 * r), k0, [], [], none, none, rfl, upd_same, by rw [upd_ne (Ne.symm lf), upd_same]; rfl, .nil, by rw [List.length_range], hk0, Nat.le_refl _, by simp, rfl, s0⟩, fun m σ Hx hW => ?_⟩
    obtain ⟨fr, k, as, dn, y6, y7, rfl, el, ef, hA, hfr, hk, hmr, hdn, hun, sm⟩ := hW
    refine ⟨_, rfl, _, .inl ⟨_, .inl (.inl el), rfl⟩, ite2 (fun c => ?_) (fun c => ?_)⟩
    · cases m with
      | zero =>
        have : fr = [] := List.length_eq_zero_iff.mp (by omega)
        subst this
        exact absurd c (by decide)
      | succ j =>
        cases fr with
        | nil => simp at hfr
        | cons x t =>
          have ht : t.length = 2 * j + 1 := by rw [List.length_cons] at hfr; omega
          have hc := choice_lt hk
          have hdj := dfac_small (r := j) (by omega)
          have hdp := dfac_pos j
          refine ⟨fun σ' H2 => ∃ (fr : List Nat) (k : Nat) (as : List Addr) (dn : List (Nat × Nat)) (y6 y7 : Option V), σ' = [some (.int ((2 * r : Nat) : Int)), some (.int (k0 : Nat)), some (.int (dfac j : Nat)), some (.ref f), some (.ref l), some (.int (k : Nat)), y6, y7] ∧ H2 l = some (.lst (nv fr)) ∧ H2 f = some (.lst (as.map V.ref)) ∧ Prs H2 as dn ∧
            fr.length = 2 * j ∧ k < dfac j ∧ j ≤ r ∧ dn.length + j = r ∧ dn ++ una j fr k = una r (List.range (2 * r)) k0 ∧ Same H H2, fun σ' H2 h2 => ⟨j, Nat.lt_succ_self _, h2⟩, ?_⟩
          refine ⟨_, rfl, .inl ⟨rfl, _, .inl (.inl el)⟩, l, _, 0, 0, .int (x : Nat), rfl, rfl, el, by decide, by decide, seq_ix (by decide) (by rw [nv_length, List.length_cons]; omega), rfl, ?_⟩
          have el1 : (upd Hx l (.lst (nv t))) l = some (.lst (nv t)) := upd_same
          have ef1 : (upd Hx l (.lst (nv t))) f = some (.lst (as.map V.ref)) := by rw [upd_ne (Ne.symm lf)]; exact ef
          have k1 : Keep l Hx (upd Hx l (.lst (nv t))) := keep_upd
          have hA1 : Prs (upd Hx l (.lst (nv t))) as dn := prs_keep k1 el hA
          have sm1 : Same H (upd Hx l (.lst (nv t))) := fun z o hz => by rw [upd_ne (ne_of_none hz nl0)]; exact sm _ _ hz
          rw [show (nv (x :: t)).eraseIdx 0 = nv t from rfl]
          revert el1 ef1 hA1 sm1
          generalize upd Hx l (.lst (nv t)) = H1
          intro el1 ef1 hA1 sm1
          refine ⟨_, rfl, _, rfl, l, _, rfl, .inl (.inl (.inl el1)), _, _, rfl, rfl, ⟨by rw [nv_length]; omega, by rw [nv_length]; omega⟩, ?_⟩
          rw [show ((dfac (j + 1) : Nat) : Int) / ((nv t).length : Int) = ((dfac j : Nat) : Int) by
            rw [nv_length, ht]
            show ((dfac j * (2 * j + 1) : Nat) : Int) / ((2 * j + 1 : Nat) : Int) = _
            rw [← Int.natCast_ediv, Nat.mul_div_cancel _ (by omega)]]
          refine ⟨_, rfl, _, rfl, _, _, rfl, ⟨by omega, by omega⟩, fun d nd => ?_⟩
          rw [show ((k : Nat) : Int) / ((dfac j : Nat) : Int) = ((k / dfac j : Nat) : Int) from (Int.natCast_ediv _ _).symm, show ((k : Nat) : Int) % ((dfac j : Nat) : Int) = ((k % dfac j : Nat) : Int) from (Int.natCast_emod _ _).symm]
          refine ⟨d, _, rfl, .inl (.inl upd_same), rfl, _, _, rfl, _, _, rfl, rfl, ?_⟩
          have s2 : Same H1 (upd H1 d (.tup [.int ((k / dfac j : Nat) : Int), .int ((k % dfac j : Nat) : Int)])) := same_new nd
          revert s2
          generalize upd H1 d (.tup [.int ((k / dfac j : Nat) : Int), .int ((k % dfac j : Nat) : Int)]) = H2
          intro s2
          have el2 := s2 _ _ el1
          have ef2 := s2 _ _ ef1
          have hA2 := prs_same s2 hA1
          have sm2 := sm1.trans s2
          have hct : k / dfac j < t.length := by omega
          have hnn : (0 : Int) ≤ ((k / dfac j : Nat) : Int) := Int.natCast_nonneg _
          have eg : t[k / dfac j]? = some (t.getD (k / dfac j) 0) := by rw [List.getD_eq_getElem?_getD, List.getElem?_eq_getElem hct]; rfl
          refine ⟨_, rfl, .inl ⟨rfl, _, .inl (.inl ef2)⟩, _, rfl, _, rfl, .inl ⟨rfl, _, .inl (.inl el2)⟩, _, rfl, l, _, _, k / dfac j, .int ((t.getD (k / dfac j) 0 : Nat) : Int), rfl, rfl, el2, by omega, by omega, ?_, ?_, ?_⟩
          · have := seq_ix (i := ((k / dfac j : Nat) : Int)) (n := (nv t).length) (by omega) (by rw [nv_length]; omega)
            rw [Int.toNat_natCast] at this
            exact this
          · unfold nv
            rw [List.getElem?_map, eg]; rfl
          have el3 : (upd H2 l (.lst (nv (t.eraseIdx (k / dfac j))))) l = some (.lst (nv (t.eraseIdx (k / dfac j)))) := upd_same
          have ef3 : (upd H2 l (.lst (nv (t.eraseIdx (k / dfac j))))) f = some (.lst (as.map V.ref)) := by rw [upd_ne (Ne.symm lf)]; exact ef2
          have hA3 : Prs (upd H2 l (.lst (nv (t.eraseIdx (k / dfac j))))) as dn := prs_keep (b := l) keep_upd el2 hA2
          have sm3 : Same H (upd H2 l (.lst (nv (t.eraseIdx (k / dfac j))))) := fun z o hz => by rw [upd_ne (ne_of_none hz nl0)]; exact sm2 _ _ hz
          rw [nv_erase]
          revert el3 ef3 hA3 sm3
          generalize upd H2 l (.lst (nv (t.eraseIdx (k / dfac j)))) = H3
          intro el3 ef3 hA3 sm3
          refine ⟨by show 2 ≤ sizeLine; decide, fun u nu => ⟨f, _, _, rfl, rfl, same_new nu _ _ ef3, ?_, ?_⟩⟩
          · rw [List.length_map, hA3.length]; exact small1000 (by omega)
          have uf : u ≠ f := (ne_of_none ef3 nu).symm
          refine ⟨t.eraseIdx (k / dfac j), k % dfac j, as ++ [u], dn ++ [(x, t.getD (k / dfac j) 0)], _, _, rfl, ?_, ?_, ?_, ?_, Nat.mod_lt _ hdp, by omega, ?_, ?_, ?_⟩
          · rw [upd_ne lf]; exact same_new nu _ _ el3
          · rw [upd_same, List.map_append]; rfl
          · refine prs_append (prs_keep (b := f) keep_upd (same_new nu _ _ ef3) (prs_same (same_new nu) hA3)) (.cons ?_ .nil)
            rw [upd_ne uf, upd_same]
          · rw [List.length_eraseIdx, if_pos hct]; omega
          · rw [List.length_append, List.length_singleton]; omega
          · rw [← hun, List.append_assoc]; rfl
          · intro z o hz
            rw [upd_ne (ne_of_none hz nf)]
            exact same_new nu _ _ (sm3 _ _ hz)
    · have hm0 : m = 0 := by
        cases fr with
        | nil => simp at hfr; omega
        | cons x t => exact absurd rfl c
      subst hm0
      have hu : dn = una r (List.range (2 * r)) k0 := by rw [← hun]; exact (List.append_nil _).symm
      subst hu
      exact ⟨_, rfl, f, _, _, _, rfl, .inl (.inl (.inl ef)), items_of hA, pat_makes hk0, by rw [(pat_pair hk0).len]; omega, fun H' t s' nt et => q H' t (sm.trans s') (sm.free nt) et⟩
end
end Pc
namespace Pc
open PySem PySem.Spec PyProof.Rows L2 RZ
section
variable {P : Program} {w : World} {K : PySem.W.Frag} {mg : Str → Option Value} {base : Heap}
/-! ### the result with a number -/
theorem cpl_lt {n : Nat} {ps : List Nat} (h : IsPair n ps) {p : Nat × Nat} (hp : p ∈ cpl ps) : p.1 < n ∧ p.2 < n := by
  obtain ⟨b1, b2, b3, _⟩ := h.back ((mem_cpl h).mp hp).1
  exact ⟨b3, b2⟩
def spResultAt (K : PySem.W.Frag) : Sp := fun vs H Q _ => ∃ (a : Addr) (f : List Nat) (n k : Nat), vs = [.ref a, .int k] ∧ Sq K H a (nv f) ∧ IsPair (2 * n) f ∧ n % 2 = 0 ∧ n ≤ 20 ∧ k < dfac ((lse f n).length / 2) ∧
  ∀ (H' : Hp) (t : Addr), Same H H' → H t = none → H' t = some (.tup (nv (rat f n k))) → Q (.ref t) H'
theorem ok_p_result_at (T : Env K mg) : FnOk P w K mg base CX0 3 T.f_p_result_at T.d_p_result_at ["sheet", "number"] (spResultAt K) := by
  have G1 : FnOk P w K mg base CX0 2 T.f_p_loose_people T.d_p_loose_people ["sheet"] (spLoose K) := ok_p_loose_people T
  have G2 : FnOk P w K mg base CX0 2 T.f_p_pairing_at T.d_p_pairing_at ["size", "number"] spPairingAt := ok_p_pairing_at T
  have G3 : FnOk P w K mg base CX0 1 T.f_p_couples T.d_p_couples ["pairing"] (spCouples K) := ok_p_couples T
  have G4 : FnOk P w K mg base CX0 2 T.f_p_lower_pairs T.d_p_lower_pairs ["sheet"] (spPairs K los) := ok_p_lower_pairs T
  have G5 : FnOk P w K mg base CX0 1 T.f_p_pairing_of T.d_p_pairing_of ["couples"] (spPairingOf K) := ok_p_pairing_of T
  refine T.F_p_result_at.ok sc_p_result_at (fun vs H Q E h => ?_) (fun cdv A outer s H vs Q E hr h => ?_)
  · obtain ⟨a, f, n, k, rfl, _⟩ := h
    rfl
  · obtain ⟨a, f, n, k, rfl, ha, hf, he, hn, hk, q⟩ := h
    have h1 := hr.mono (show 1 ≤ 2 by decide)
    refine ⟨_, pss_cons (ps_set (i := 2) sc_p_result_at.nd rfl (.inr rfl) (pe_call G1 hr (by rfl) T.g_p_loose_people T.F_p_loose_people.kp T.b_p_loose_people .nil pass0 (pa_cons (pv 0) pa_nil))) <|
      pss_cons (ps_set (i := 3) sc_p_result_at.nd rfl (.inl rfl) (pe_call G3 h1 (by rfl) T.g_p_couples T.F_p_couples.kp T.b_p_couples .nil pass0 (pa_cons (pe_call G2 hr (by rfl) T.g_p_pairing_at T.F_p_pairing_at.kp T.b_p_pairing_at .nil pass0 (pa_cons (pe_callB call_len_seq (by rfl) T.n_len PySem.boot_len (pa_cons (pv 2) pa_nil)) (pa_cons (pv 1) pa_nil))) pa_nil))) <|
      pss_one (ps_ret (pe_call G5 h1 (by rfl) T.g_p_pairing_of T.F_p_pairing_of.kp T.b_p_pairing_of .nil pass0 (pa_cons (pe_op op_cat (pe_call G4 hr (by rfl) T.g_p_lower_pairs T.F_p_lower_pairs.kp T.b_p_lower_pairs .nil pass0 (pa_cons (pv 0) pa_nil))
        (pe_lc (own := [("x", 4), ("y", 5)]) (g := gTup K 2 (gCons (gName 4) (gCons (gName 5) gNil))) (tt := tYes) (te := tTup (tCons (tOp (rIxL K) (tVar 2) (tVar 4)) (tCons (tOp (rIxL K) (tVar 2) (tVar 5)) tNil))) (by rfl) sc_p_result_at.nd (pi_list (pv 3)) (blkOk_by (N := N_p_result_at) (sc := defScope s_p_result_at) (by decide +kernel))
          (fun _ _ _ _ _ => pg_tup (by rfl) (pgs_cons (pg_name (i := 4) sc_p_result_at.nd rfl (.inl rfl)) (pgs_cons (pg_name (i := 5) sc_p_result_at.nd rfl (.inl rfl)) pgs_nil))) (fun _ _ _ _ _ => pts_nil)
          (fun _ _ _ _ _ => pe_tup (pa_cons (pe_ix ix_list (pv 2) (pv 4) (fun _ _ => rfl)) (pa_cons (pe_ix ix_list (pv 2) (pv 5) (fun _ _ => rfl)) pa_nil))))) pa_nil))), ?_⟩
    have hle := lse_even hf he
    obtain ⟨l, hl⟩ : ∃ l, l = lse f n := ⟨_, rfl⟩
    obtain ⟨r, hrr⟩ : ∃ r, r = (lse f n).length / 2 := ⟨_, rfl⟩
    have hlr : l.length = 2 * r := by rw [hl]; omega
    have hP : IsPair (2 * r) (pat r k) := pat_pair (by rw [hrr]; exact hk)
    refine ⟨_, rfl, a, f, n, rfl, ha, hf, by omega, fun H1 p s1 np ep => ?_⟩
    rw [← hl] at ep
    refine ⟨_, rfl, p, _, rfl, .inl (.inl (.inl ep)), _, rfl, r, k, ?_, by omega, by rw [hrr]; exact hk, fun H2 t s2 nt et => ?_⟩
    · show [V.int ((nv l).length : Int), V.int (k : Nat)] = _
      rw [nv_length, hlr]
    refine ⟨t, _, rfl, .inr (.inl (.inl et)), by rw [hP.len]; omega, fun H3 c as s3 nc ec hA => ?_⟩
    have s13 := s1.trans (s2.trans s3)
    refine ⟨_, rfl, a, f, n, rfl, ha.same s13, hf, by omega, fun H4 d bs s4 nd ed hB => ?_⟩
    have ep4 := s4 _ _ (s3 _ _ (s2 _ _ ep))
    have ec4 := s4 _ _ ec
    have hA4 := prs_same s4 hA
    refine ⟨_, rfl, c, rfl, ⟨_, .inl (.inl ec4)⟩, fun D nD => ?_⟩
    refine lc_list (xs := as.map V.ref) (fun i H' => Same H4 H' ∧ ∃ es : List Addr, H' D = some (.lst (es.map V.ref)) ∧ Prs H' es ((rel l (cpl (pat r k))).take i)) ⟨same_new nD, [], upd_same, .nil⟩ (fun i H' _ h => .inl (.inl (h.1 _ _ ec4))) (fun i v H' hv h => ?_) (fun H5 h => ?_)
    · obtain ⟨sm, es, eD, hE⟩ := h
      rw [List.getElem?_map] at hv
      obtain ⟨u, hu, rfl⟩ := Option.map_eq_some_iff.mp hv
      obtain ⟨x, hx, exu⟩ := prs_get hA4 hu
      have hxl := cpl_lt hP (List.mem_of_getElem? hx)
      have g1 : l[x.1]? = some (l.getD x.1 0) := by rw [List.getD_eq_getElem?_getD, List.getElem?_eq_getElem (by omega)]; rfl
      have g2 : l[x.2]? = some (l.getD x.2 0) := by rw [List.getD_eq_getElem?_getD, List.getElem?_eq_getElem (by omega)]; rfl
      have hpl : SqL K H' p (nv l) := .inl (.inl (sm _ _ ep4))
      refine ⟨u, _, rfl, .inl (.inl (sm _ _ exu)), rfl, _, _, rfl, _, _, rfl, rfl, rfl, yes_if ⟨_, rfl, _, rfl, p, _, _, _, rfl, rfl, hpl, nv_at g1, _, rfl, _, rfl, p, _, _, _, rfl, rfl, hpl, nv_at g2, by show 2 ≤ sizeLine; decide, fun z nz => ⟨_, same_new nz _ _ eD, ?_, fun y o hy => ?_, es ++ [z], ?_, ?_⟩⟩⟩
      · rw [List.length_map, hE.length, List.length_take]
        have := cpl_half hP
        exact small1000 (by unfold rel; rw [List.length_map]; omega)
      · rw [upd_ne (ne_of_none hy nD)]; exact same_new nz _ _ (sm _ _ hy)
      · rw [upd_same, List.map_append]; rfl
      · have zD : z ≠ D := fun e => by rw [e, eD] at nz; cases nz
        have ej : (rel l (cpl (pat r k)))[i]? = some (l.getD x.1 0, l.getD x.2 0) := by unfold rel; rw [List.getElem?_map, hx]; rfl
        rw [List.take_add_one, ej]
        refine prs_append (prs_keep (b := D) keep_upd (same_new nz _ _ eD) (prs_same (same_new nz) hE)) (.cons ?_ .nil)
        rw [upd_ne zD, upd_same]
    · obtain ⟨sm, es, eD, hE⟩ := h
      have hlen : (as.map V.ref).length = (rel l (cpl (pat r k))).length := by rw [List.length_map, hA.length]; unfold rel; rw [List.length_map]
      rw [hlen, List.take_length] at hE
      have ed5 := sm _ _ ed
      have hB5 := prs_same sm hB
      have hll := rpr_len hf he hk
      have lB : bs.length = (los f n).length := hB.length
      have lE : es.length = (rel l (cpl (pat r k))).length := hE.length
      have hlen2 : (los f n).length + (rel l (cpl (pat r k))).length = (rpr f n k).length := by unfold rpr; rw [List.length_append, hl, hrr]
      refine ⟨d, D, _, _, rfl, rfl, ed5, eD, ?_, fun c2 nc2 => ?_⟩
      · rw [List.length_map, List.length_map]; exact Nat.le_of_lt (small1000 (by omega))
      rw [← List.map_append]
      have s6 : Same H5 (upd H5 c2 (.lst ((bs ++ es).map V.ref))) := same_new nc2
      have hI : Items K (upd H5 c2 (.lst ((bs ++ es).map V.ref))) ((bs ++ es).map V.ref) (rpr f n k) := by
        have := items_of (K := K) (prs_same s6 (prs_append hB5 hE))
        unfold rpr
        rw [← hrr, ← hl]
        exact this
      refine ⟨c2, _, _, _, rfl, .inl (.inl (.inl upd_same)), hI, rat_makes hf he hk, by rw [(rat_pair hf he hk).len]; omega, fun H7 t7 s7 n7 e7 => ?_⟩
      exact q H7 t7 (s13.trans (s4.trans (sm.trans (s6.trans s7)))) ((s13.trans (s4.trans (sm.trans s6))).free n7) e7
end
end Pc
namespace Pc
open PySem PySem.Spec PyProof.Rows L2 RZ
theorem last_nv (l : List Nat) (z : Nat) : atI (nv (l ++ [z])) (-1) = some (.int (z : Int)) := by
  unfold nv
  rw [List.map_append]
  exact atI_last _ _
theorem last_nv' (l : List Nat) (y z : Nat) : atI (nv (l ++ [y, z])) (-1) = some (.int (z : Int)) := by
  rw [show l ++ [y, z] = (l ++ [y]) ++ [z] by rw [List.append_assoc]; rfl]
  exact last_nv _ _
theorem last_trl {l : List Nat} (h : 2 ≤ l.length) : atI (nv l) (-1) = some (.int ((l.getLastD 0 : Nat) : Int)) := by
  have hne : l ≠ [] := fun e => by rw [e] at h; exact absurd h (by decide)
  have e : l = l.dropLast ++ [l.getLastD 0] := by
    have h1 := List.dropLast_concat_getLast hne
    have h2 := last_get (l := l) (by omega)
    rw [← List.getLast?_eq_getElem?, List.getLast?_eq_some_getLast hne] at h2
    rw [← Option.some.inj h2]; exact h1.symm
  rw [e, show (l.dropLast ++ [l.getLastD 0]).getLastD 0 = l.getLastD 0 by rw [← e]]
  exact last_nv _ _
section
variable {P : Program} {w : World} {K : PySem.W.Frag} {mg : Str → Option Value} {base : Heap}
/-! ### reading -/
/-- the way of a person -/
def spFPath (K : PySem.W.Frag) : Sp := fun vs H Q _ => ∃ (a p : Addr) (fs ps : List Nat) (n x : Nat), vs = [.ref a, .ref p, .int x] ∧ Sq K H a (nv fs) ∧ Sq K H p (nv ps) ∧ IsPair (2 * n) fs ∧ IsPair n ps ∧ x < n ∧ n ≤ 500 ∧
  ∀ (H' : Hp) (t : Addr), Same H H' → H t = none → H' t = some (.lst (nv (trl fs ps n (n + x)))) → Q (.ref t) H'
theorem ok_p_followed_path (T : Env K mg) : FnOk P w K mg base CX0 2 T.f_p_followed_path T.d_p_followed_path ["sheet", "pairing", "person"] (spFPath K) := by
  have G0 : FnOk P w K mg base CX0 1 T.f_p_people_of T.d_p_people_of ["sheet"] (spPeople K) := ok_p_people_of T
  refine T.F_p_followed_path.ok sc_p_followed_path (fun vs H Q E h => ?_) (fun cdv A outer s H vs Q E hr h => ?_)
  · obtain ⟨a, p, fs, ps, n, x, rfl, _⟩ := h
    rfl
  · obtain ⟨a, p, fs, ps, n, x, rfl, ha, hp, hF, hP, hx, hn, q⟩ := h
    refine ⟨_, pss_cons (ps_set (i := 3) sc_p_followed_path.nd rfl (.inl rfl) (pe_call G0 hr (by rfl) T.g_p_people_of T.F_p_people_of.kp T.b_p_people_of .nil pass0 (pa_cons (pv 0) pa_nil))) <|
      pss_cons (ps_set (i := 4) sc_p_followed_path.nd rfl (.inl rfl) (pe_lst (pa_cons (pe_op op_add (pv 3) (pv 2)) (pa_cons (pe_ix ix_seq (pv 0) (pe_op op_add (pv 3) (pv 2)) (fun _ _ => rfl)) pa_nil)))) <|
      pss_cons (ps_while PassesOwn.never (pt_cmpR op_lt (pe_ix ix_list (pv 4) (pe_un un_neg pe_int) (fun _ _ => rfl)) (pv 3) (nomark _))
        (pss_cons (ps_set (i := 5) sc_p_followed_path.nd rfl (.inl rfl) (pe_ix ix_seq (pv 1) (pe_ix ix_list (pv 4) (pe_un un_neg pe_int) (fun _ _ => rfl)) (fun _ _ => rfl))) <|
        pss_cons (ps_expr (pe_bm PySem.F.plainAttrs_list PySem.F.slot_list_append PySem.F.type_list_append mt_append (pv 4) (pa_cons (pv 5) pa_nil))) <|
        pss_one (ps_expr (pe_bm PySem.F.plainAttrs_list PySem.F.slot_list_append PySem.F.type_list_append mt_append (pv 4) (pa_cons (pe_ix ix_seq (pv 0) (pv 5) (fun _ _ => rfl)) pa_nil))))) <|
      pss_one (ps_ret (pv 4)), ?_⟩
    have hl := hF.len
    have c1 : (n : Int) + (x : Int) = ((n + x : Nat) : Int) := by omega
    obtain ⟨d1, _, _, d4⟩ := hF.d (x := n + x) (by omega)
    have a1 : atI (nv fs) ((n : Int) + (x : Int)) = some (.int ((fs.getD (n + x) 0 : Nat) : Int)) := by rw [c1]; exact nv_at d4
    obtain ⟨ht, htl⟩ := trl_trail hF hP (z := n + x) (by omega) (by omega)
    refine ⟨.ref a, rfl, a, fs, n, rfl, ha, hl, ?_⟩
    refine ⟨_, rfl, _, rfl, _, _, rfl, rfl, .ref a, rfl, _, rfl, _, rfl, _, _, rfl, rfl, ix_sq ha a1 ⟨by show 2 ≤ sizeLine; decide, fun e ne => ?_⟩⟩
    have e0 : (upd H e (.lst [.int ((n : Int) + (x : Int)), .int ((fs.getD (n + x) 0 : Nat) : Int)])) e = some (.lst (nv ([] ++ [n + x, fs.getD (n + x) 0]))) := by
      rw [upd_same, c1]; rfl
    refine ⟨fun m σ H' => ∃ (y : Option V) (dn rest : List Nat) (z : Nat), σ = [some (.ref a), some (.ref p), some (.int x), some (.int n), some (.ref e), y] ∧ Same H H' ∧ H' e = some (.lst (nv (dn ++ [z, fs.getD z 0]))) ∧ Trail fs ps n z rest ∧ dn ++ rest = trl fs ps n (n + x) ∧ z < 2 * n ∧ rest.length = m,
      ⟨_, none, [], _, n + x, rfl, same_new ne, e0, ht, rfl, by omega, rfl⟩, fun m σ H' hW => ?_⟩
    obtain ⟨y, dn, rest, z, rfl, sm, ee, tz, et, hz, hm⟩ := hW
    have hlen : dn.length + rest.length ≤ 2 * n + 2 := by
      have := congrArg List.length et
      rw [List.length_append] at this
      omega
    have hr2 := tz.len.1
    refine ⟨.ref e, rfl, 1, rfl, e, _, -1, _, rfl, rfl, .inl (.inl ee), last_nv' _ _ _, _, rfl, _, _, rfl, rfl, _, rfl, ite2 (fun c => ?_) (fun c => ?_)⟩
    · have hc : fs.getD z 0 < n := by have := of_decide_eq_true c; omega
      cases tz with
      | stop h => omega
      | @go _ l _ tz' =>
      obtain ⟨p1, _, _, p4⟩ := hP.d hc
      obtain ⟨f1, _, _, f4⟩ := hF.d (x := ps.getD (fs.getD z 0) 0) (by omega)
      refine ⟨fun σ' H2 => ∃ (y : Option V) (dn rest : List Nat) (z : Nat), σ' = [some (.ref a), some (.ref p), some (.int x), some (.int n), some (.ref e), y] ∧ Same H H2 ∧ H2 e = some (.lst (nv (dn ++ [z, fs.getD z 0]))) ∧ Trail fs ps n z rest ∧ dn ++ rest = trl fs ps n (n + x) ∧ z < 2 * n ∧ rest.length < m,
        fun σ' H2 h2 => ?_, ?_⟩
      · obtain ⟨y', dn', rest', z', g1, g2, g3, g4, g5, g6, g7⟩ := h2
        exact ⟨_, g7, y', dn', rest', z', g1, g2, g3, g4, g5, g6, rfl⟩
      · refine ⟨.ref p, rfl, .ref e, rfl, 1, rfl, e, _, -1, _, rfl, rfl, .inl (.inl ee), last_nv' _ _ _, ix_sq (hp.same sm) (nv_at p4) ?_⟩
        have ls : ∀ {k : Nat} {l : List Nat}, l.length = dn.length + k → k ≤ 4 → (nv l).length < sizeLine := fun {k l} h1 h2 => line_big (by rw [nv_length, h1]; omega)
        refine ⟨.ref e, rfl, .inl ⟨rfl, _, .inl (.inl ee)⟩, _, rfl, e, _, _, rfl, rfl, ee, ls (k := 2) (by rw [List.length_append]; rfl) (by omega), ?_⟩
        have e1 : (upd H' e (.lst (nv (dn ++ [z, fs.getD z 0]) ++ [.int ((ps.getD (fs.getD z 0) 0 : Nat) : Int)]))) e = some (.lst (nv (dn ++ [z, fs.getD z 0] ++ [ps.getD (fs.getD z 0) 0]))) := by rw [upd_same, nv_snoc']
        have s1 : Same H (upd H' e (.lst (nv (dn ++ [z, fs.getD z 0]) ++ [.int ((ps.getD (fs.getD z 0) 0 : Nat) : Int)]))) := fun b o hb => by rw [upd_ne (ne_of_none hb ne)]; exact sm _ _ hb
        revert e1 s1
        generalize upd H' e (.lst (nv (dn ++ [z, fs.getD z 0]) ++ [.int ((ps.getD (fs.getD z 0) 0 : Nat) : Int)])) = H1
        intro e1 s1
        refine ⟨.ref e, rfl, .inl ⟨rfl, _, .inl (.inl e1)⟩, .ref a, rfl, _, rfl, ix_sq (ha.same s1) (nv_at f4) ⟨e, _, _, rfl, rfl, e1, ls (k := 3) (by rw [List.length_append, List.length_append]; rfl) (by omega), ?_⟩⟩
        refine ⟨_, dn ++ [z, fs.getD z 0], l, ps.getD (fs.getD z 0) 0, rfl, fun b o hb => ?_, ?_, tz', ?_, by omega, by rw [← hm]; simp only [List.length_cons]; omega⟩
        · rw [upd_ne (ne_of_none hb ne)]; exact s1 _ _ hb
        · rw [upd_same, nv_snoc', List.append_assoc (dn ++ [z, fs.getD z 0])]; rfl
        · rw [← et, List.append_assoc]; rfl
    · cases tz with
      | go h _ => exact absurd (decide_eq_true (show ((fs.getD z 0 : Nat) : Int) < (n : Int) by omega)) c
      | stop h =>
        rw [et] at ee
        exact ⟨.ref e, rfl, q H' e sm ne ee⟩
/-- result -/
def spResult (K : PySem.W.Frag) : Sp := fun vs H Q _ => ∃ (a p : Addr) (fs ps : List Nat) (n : Nat), vs = [.ref a, .ref p] ∧ Sq K H a (nv fs) ∧ Sq K H p (nv ps) ∧ IsPair (2 * n) fs ∧ IsPair n ps ∧ n ≤ 500 ∧
  ∀ (H' : Hp) (t : Addr), Same H H' → H t = none → H' t = some (.tup (nv (rd fs ps n))) → Q (.ref t) H'
theorem rd_step (fs ps : List Nat) {n i : Nat} (h : i < n) : (rd fs ps n).take (i + 1) = (rd fs ps n).take i ++ [far fs ps n (n + i) - n] := by
  rw [List.take_add_one, rd_get fs ps h]; rfl
theorem ok_p_result (T : Env K mg) : FnOk P w K mg base CX0 3 T.f_p_result T.d_p_result ["sheet", "pairing"] (spResult K) := by
  have G0 : FnOk P w K mg base CX0 1 T.f_p_people_of T.d_p_people_of ["sheet"] (spPeople K) := ok_p_people_of T
  have G1 : FnOk P w K mg base CX0 1 T.f_p_check_sizes T.d_p_check_sizes ["first", "second"] spCheckSizes := ok_p_check_sizes T
  have G2 : FnOk P w K mg base CX0 2 T.f_p_followed_path T.d_p_followed_path ["sheet", "pairing", "person"] (spFPath K) := ok_p_followed_path T
  refine T.F_p_result.ok sc_p_result (fun vs H Q E h => ?_) (fun cdv A outer s H vs Q E hr h => ?_)
  · obtain ⟨a, p, fs, ps, n, rfl, _⟩ := h
    rfl
  · obtain ⟨a, p, fs, ps, n, rfl, ha, hp, hF, hP, hn, q⟩ := h
    have h1 := hr.mono (show 1 ≤ 2 by decide)
    refine ⟨_, pss_cons (ps_set (i := 2) sc_p_result.nd rfl (.inr rfl) (pe_call G0 h1 (by rfl) T.g_p_people_of T.F_p_people_of.kp T.b_p_people_of .nil pass0 (pa_cons (pv 0) pa_nil))) <|
      pss_cons (ps_expr (pe_call G1 h1 (by rfl) T.g_p_check_sizes T.F_p_check_sizes.kp T.b_p_check_sizes .nil pass0 (pa_cons (pv 2) (pa_cons (pe_callB call_len_seq (by rfl) T.n_len PySem.boot_len (pa_cons (pv 1) pa_nil)) pa_nil)))) <|
      pss_one (ps_ret (pe_callTy call_tuple_of (by rfl) T.n_tuple (by decide +kernel) (pa_cons
        (pe_lc (own := [("person", 3)]) (g := gName 3) (tt := tYes) (te := tOp (rI0 fun i j => .int (i - j)) (tOp (rIxL K) (tCall (spFPath K) [] (fun _ _ _ => False) (tCons (tVar 0) (tCons (tVar 1) (tCons (tVar 3) tNil)))) (tUn (rU fun i => .int (-i)) (tC (.int 1)))) (tVar 2)) rfl sc_p_result.nd
          (pi_range1 (by rfl) T.n_range (pa_cons (pv 2) pa_nil)) (blkOk_by (N := N_p_result) (sc := defScope s_p_result) (by decide +kernel)) (fun _ _ _ _ _ => pg_name (i := 3) sc_p_result.nd rfl (.inl rfl)) (fun _ _ _ _ _ => pts_nil)
          (fun _ _ _ _ _ => pe_op op_sub (pe_ix ix_list (pe_call G2 hr (by rfl) T.g_p_followed_path T.F_p_followed_path.kp T.b_p_followed_path .nil pass0 (pa_cons (pv 0) (pa_cons (pv 1) (pa_cons (pv 3) pa_nil)))) (pe_un un_neg pe_int) (fun _ _ => rfl)) (pv 2))) pa_nil))), ?_⟩
    have hl := hF.len
    have hlp : ((nv ps).length : Int) = (n : Nat) := by rw [nv_length, hP.len]
    refine ⟨.ref a, rfl, a, fs, n, rfl, ha, hl, ?_⟩
    refine ⟨_, rfl, .ref p, rfl, p, _, rfl, hp, n, ?_, ?_⟩
    · show [V.int (n : Int), V.int ((nv ps).length : Int)] = _
      rw [hlp]
    refine ⟨_, rfl, _, rfl, by omega, by omega, fun D nD => ?_⟩
    rw [show ((n : Int)).toNat = n by omega]
    refine lc_range (n := n) (fun i H' => Same H H' ∧ H' D = some (.lst (nv ((rd fs ps n).take i)))) ⟨same_new nD, upd_same⟩ (fun i H1 hi hPv => ?_) (fun H1 hPv => ?_)
    · obtain ⟨sm, eD⟩ := hPv
      refine ⟨rfl, yes_if ⟨.ref a, rfl, .ref p, rfl, _, rfl, a, p, fs, ps, n, i, ?_, ha.same sm, hp.same sm, hF, hP, hi, hn, fun H2 t s2 nt et => ?_⟩⟩
      · show [V.ref a, V.ref p, V.int ((0 : Int) + (i : Nat))] = _
        rw [Int.zero_add]
      obtain ⟨tt, _⟩ := trl_trail hF hP (z := n + i) (by omega) (by omega)
      have hf := far_d hF hP (z := n + i) (by omega) (by omega)
      refine ⟨1, rfl, t, _, -1, _, rfl, rfl, .inl (.inl et), last_trl tt.len.1, _, rfl, _, _, rfl, rfl, _, s2 _ _ eD, line_big (by rw [nv_length, List.length_take, rd_len]; omega), fun b o hb => ?_, ?_⟩
      · rw [upd_ne (ne_of_none hb nD)]; exact s2 _ _ (sm _ _ hb)
      · rw [upd_same, rd_step fs ps hi, ← nv_snoc']
        show some (HO.lst (nv ((rd fs ps n).take i) ++ [V.int (((far fs ps n (n + i) : Nat) : Int) - (n : Int))])) = _
        rw [show ((far fs ps n (n + i) : Nat) : Int) - (n : Int) = ((far fs ps n (n + i) - n : Nat) : Int) by omega]
    · obtain ⟨s1, eD⟩ := hPv
      rw [List.take_of_length_le (Nat.le_of_eq (rd_len fs ps n))] at eD
      exact ⟨D, _, rfl, .inl ⟨.inl (.inl eD), fun t nt => q _ t (s1.trans (same_new nt)) (s1.free nt) upd_same⟩⟩
end
end Pc
namespace Pc
open PySem PySem.Spec PyProof.Rows L2 RZ
theorem eqv_nd : ∀ f g : List Nat, PyData.eqvAll (nd f) (nd g) = decide (f = g)
  | [], [] => by simp [nd, PyData.eqvAll]
  | [], _ :: _ => by simp [nd, PyData.eqvAll]
  | _ :: _, [] => by simp [nd, PyData.eqvAll]
  | x :: f, y :: g => by
    show PyData.eqvAll (.int (x : Int) :: nd f) (.int (y : Int) :: nd g) = _
    rw [PyData.eqvAll, eqv_nd f g, PyData.eqv]
    by_cases c : x = y
    · subst c; by_cases d : f = g
      · subst d; simp
      · simp [d]
    · have : ¬ ((x : Int) = (y : Int)) := fun z => c (by omega)
      simp [c, this]
theorem eqv_td (f g : List Nat) : PyData.eqv (td f) (td g) = decide (f = g) := by
  show PyData.eqv (.tuple (nd f)) (.tuple (nd g)) = _
  rw [PyData.eqv]; exact eqv_nd f g
end Pc
namespace Pc
open PySem PySem.Spec PyProof.Rows L2 RZ
theorem pat2 : pat 2 0 = P4 0 ∧ pat 2 1 = P4 1 ∧ pat 2 2 = P4 2 := by decide
theorem pat2k {k : Nat} (h : k < 3) : pat 2 k = P4 k := by
  rcases (show k = 0 ∨ k = 1 ∨ k = 2 by omega) with z | z | z <;> subst z
  · exact pat2.1
  · exact pat2.2.1
  · exact pat2.2.2
section
variable {P : Program} {w : World} {K : PySem.W.Frag} {mg : Str → Option Value} {base : Heap}
/-! ### the three crossings -/
def spCross (K : PySem.W.Frag) : Sp := fun vs H Q _ => ∃ (a : Addr) (f : List Nat) (n : Nat), vs = [.ref a] ∧ Sq K H a (nv f) ∧ IsPair (2 * n) f ∧ n ≤ 20 ∧ (upl f n).length = 4 ∧
  ∀ (H' : Hp) (t : Addr) (as : List Addr), Same H H' → H t = none → H' t = some (.lst (as.map V.ref)) → Tups H' as ((List.range 3).map (crs f n)) → Q (.ref t) H'
theorem ok_p_crossings (T : Env K mg) : FnOk P w K mg base CX0 3 T.f_p_crossings T.d_p_crossings ["sheet"] (spCross K) := by
  have GS : FnOk P w K mg base CX0 2 T.f_p_strands T.d_p_strands ["sheet"] (spPairs K sts) := ok_p_strands T
  have GM : FnOk P w K mg base CX0 1 T.f_p_pairings_many T.d_p_pairings_many ["size"] spMany := ok_p_pairings_many T
  have GA : FnOk P w K mg base CX0 2 T.f_p_pairing_at T.d_p_pairing_at ["size", "number"] spPairingAt := ok_p_pairing_at T
  refine T.F_p_crossings.ok sc_p_crossings (fun vs H Q E h => ?_) (fun cdv A outer s H vs Q E hr h => ?_)
  · obtain ⟨a, f, n, rfl, _⟩ := h
    rfl
  · obtain ⟨a, f, n, rfl, ha, hf, hn, hl4, q⟩ := h
    have h1 := hr.mono (show 1 ≤ 2 by decide)
    refine ⟨_, pss_cons (ps_setLc (i := 1) (own := [("x", 7), ("y", 8)]) (g := gTup K 2 (gCons (gName 7) (gCons (gName 8) gNil))) (tt := tYes) (te := tVar 7) rfl sc_p_crossings.nd rfl rfl (sw_true rfl rfl rfl (by decide +kernel)) (pi_list (pe_call GS hr (by rfl) T.g_p_strands T.F_p_strands.kp T.b_p_strands .nil pass0 (pa_cons (pv 0) pa_nil))) (blkOk_by (N := N_p_crossings) (sc := defScope s_p_crossings) (by decide +kernel))
        (fun _ _ _ _ _ => pg_tup (by rfl) (pgs_cons (pg_name (i := 7) sc_p_crossings.nd rfl (.inl rfl)) (pgs_cons (pg_name (i := 8) sc_p_crossings.nd rfl (.inl rfl)) pgs_nil))) (fun _ _ _ _ _ => pts_nil) (fun _ _ _ _ _ => pv 7)) <|
      pss_cons (ps_set (i := 2) sc_p_crossings.nd rfl (.inl rfl) (pe_lst pa_nil)) <|
      pss_cons (ps_for PassesOwn.never rfl (pi_range1 (by rfl) T.n_range (pa_cons (pe_call GM h1 (by rfl) T.g_p_pairings_many T.F_p_pairings_many.kp T.b_p_pairings_many .nil pass0 (pa_cons pe_int pa_nil)) pa_nil)) (pg_name (i := 3) sc_p_crossings.nd rfl (.inl rfl))
        (pss_cons (ps_set (i := 4) sc_p_crossings.nd rfl (.inl rfl) (pe_callTy call_list_of (by rfl) T.n_list (by decide +kernel) (pa_cons (pv 0) pa_nil))) <|
        pss_cons (ps_for PassesOwn.never rfl (pi_enumA (by rfl) T.n_enumerate (pa_cons (pe_call GA hr (by rfl) T.g_p_pairing_at T.F_p_pairing_at.kp T.b_p_pairing_at .nil pass0 (pa_cons pe_int (pa_cons (pv 3) pa_nil))) pa_nil)) (pg_tup (by rfl) (pgs_cons (pg_name (i := 5) sc_p_crossings.nd rfl (.inl rfl)) (pgs_cons (pg_name (i := 6) sc_p_crossings.nd rfl (.inl rfl)) pgs_nil)))
          (pss_cons (ps_asg (pe_ix ix_seq (pv 0) (pe_ix ix_list (pv 1) (pv 6) (fun _ _ => rfl)) (fun _ _ => rfl)) (pg_sub (pv 4) (pe_ix ix_list (pv 1) (pv 5) (fun _ _ => rfl)) set_list)) <|
          pss_one (ps_asg (pe_ix ix_list (pv 1) (pv 5) (fun _ _ => rfl)) (pg_sub (pv 4) (pe_ix ix_seq (pv 0) (pe_ix ix_list (pv 1) (pv 6) (fun _ _ => rfl)) (fun _ _ => rfl)) set_list)))) <|
        pss_one (ps_expr (pe_bm PySem.F.plainAttrs_list PySem.F.slot_list_append PySem.F.type_list_append mt_append (pv 2) (pa_cons (pe_callTy call_tuple_of (by rfl) T.n_tuple (by decide +kernel) (pa_cons (pv 4) pa_nil)) pa_nil))))) <|
      pss_one (ps_ret (pv 2)), ?_⟩
    -- the upper ends
    refine ⟨.ref a, rfl, a, f, n, rfl, ha, hf, by omega, fun H1 p as s1 np ep hA => ?_⟩
    refine ⟨p, rfl, ⟨_, .inl (.inl ep)⟩, fun D nD => ?_⟩
    have sD : Same H1 (upd H1 D (.lst [])) := same_new nD
    refine lc_list (xs := as.map V.ref) (fun i H' => Same H1 H' ∧ H' D = some (.lst (nv ((upl f n).take i)))) ⟨sD, upd_same⟩ (fun i H' _ h => .inl (.inl (h.1 _ _ ep))) (fun i v H' hv h => ?_) (fun H2 h => ?_)
    · obtain ⟨sm, eD⟩ := h
      rw [List.getElem?_map] at hv
      obtain ⟨u, hu, rfl⟩ := Option.map_eq_some_iff.mp hv
      obtain ⟨x, hx, exu⟩ := prs_get hA hu
      have ex : (upl f n)[i]? = some x.1 := by rw [← upl_sts, List.getElem?_map, hx]; rfl
      refine ⟨u, _, rfl, .inl (.inl (sm _ _ exu)), rfl, _, _, rfl, _, _, rfl, rfl, rfl, yes_if ⟨_, rfl, _, eD, ?_, fun y o hy => ?_, ?_⟩⟩
      · rw [nv_length]; exact small1000 (Nat.le_trans (List.length_take_le' _ _) (by omega))
      · rw [upd_ne (ne_of_none hy nD)]; exact sm _ _ hy
      · rw [upd_same, List.take_add_one, ex]
        exact congrArg (fun z => some (HO.lst z)) (nv_snoc' _ _)
    obtain ⟨sm2, eD⟩ := h
    rw [List.length_map, hA.length, ← (show (upl f n).length = (sts f n).length by rw [← upl_sts, List.length_map]), List.take_length] at eD
    have s2 : Same H H2 := s1.trans sm2
    have nDH : H D = none := s1.free nD
    refine st_set [some (.ref a), some (.ref D), none, none, none, none, none, none, none] ?_ rfl
    refine ⟨by show 0 ≤ sizeLine; decide, fun fo nfo => ?_⟩
    have s3 : Same H2 (upd H2 fo (.lst [])) := same_new nfo
    have efo : (upd H2 fo (.lst [])) fo = some (.lst []) := upd_same
    revert s3 efo
    generalize upd H2 fo (.lst []) = H3
    intro s3 efo
    have s03 := s2.trans s3
    have nfoH : H fo = none := s2.free nfo
    have eD3 := s3 _ _ eD
    have Dfo : D ≠ fo := fun z => by rw [← z, eD] at nfo; cases nfo
    refine st_set [some (.ref a), some (.ref D), some (.ref fo), none, none, none, none, none, none] ?_ rfl
    refine ⟨2, rfl, by decide, 3, rfl, by decide, by decide, ?_⟩
    refine for_range (n := 3) (fun i σ H' => Same H H' ∧ H' D = some (.lst (nv (upl f n))) ∧ ∃ (y3 y4 y5 y6 : Option V) (bs : List Addr), σ = [some (.ref a), some (.ref D), some (.ref fo), y3, y4, y5, y6, none, none] ∧ H' fo = some (.lst (bs.map V.ref)) ∧ Tups H' bs ((List.range i).map (crs f n))) ⟨s03, eD3, none, none, none, none, [], rfl, efo, .nil⟩ (fun k σ H4 hk h => ?_) (fun σ H4 h => ?_)
    · obtain ⟨s4, eD4, y3, y4, y5, y6, bs, rfl, ef4, hB⟩ := h
      rw [Int.zero_add]
      refine st_set [some (.ref a), some (.ref D), some (.ref fo), some (.int (k : Nat)), y4, y5, y6, none, none] ?_ rfl
      refine ⟨.ref a, rfl, a, nv f, rfl, ?_, fun e ne => ?_⟩
      · exact (ha.same s4).elim .inl .inr
      have s5 : Same H4 (upd H4 e (.lst (nv f))) := same_new ne
      have ee : (upd H4 e (.lst (nv f))) e = some (.lst (nv f)) := upd_same
      revert s5 ee
      generalize upd H4 e (.lst (nv f)) = H5
      intro s5 ee
      have neH : H e = none := s4.free ne
      have s05 := s4.trans s5
      have eD5 := s5 _ _ eD4
      have ef5 := s5 _ _ ef4
      have hB5 := tups_same s5 hB
      have efo : e ≠ fo := fun z => by rw [z, ef4] at ne; cases ne
      have eDn : e ≠ D := fun z => by rw [z, eD4] at ne; cases ne
      refine st_set [some (.ref a), some (.ref D), some (.ref fo), some (.int (k : Nat)), some (.ref e), y5, y6, none, none] ?_ rfl
      refine ⟨_, rfl, 2, k, rfl, by decide, Nat.lt_of_lt_of_le hk (by decide), fun H6 pt s6 npt ept => ?_⟩
      rw [pat2k hk] at ept
      have npe : pt ≠ e := fun z => by rw [z, ee] at npt; cases npt
      have lP : (P4 k).length = 4 := by rcases (show k = 0 ∨ k = 1 ∨ k = 2 by omega) with z | z | z <;> subst z <;> rfl
      refine ⟨pt, nv (P4 k), rfl, .inr ⟨.inl (.inl ept), ?_⟩⟩
      refine for_it walk_enumT (fun i σ H' => Keep e H6 H' ∧ Same H H' ∧ ∃ (y5 y6 : Option V), σ = [some (.ref a), some (.ref D), some (.ref fo), some (.int (k : Nat)), some (.ref e), y5, y6, none, none] ∧ H' e = some (.lst (nv (crsI f (upl f n) (P4 k) i)))) ⟨Keep.refl _ _, s05.trans s6, y5, y6, rfl, s6 _ _ ee⟩ (fun i σ H' _ h => .inl (.inl (h.1 _ _ npe ept))) (fun i x σ H7 H8 hi h y => ?_) (fun σ H7 h => ?_)
      · obtain ⟨k7, s7, y5, y6, rfl, e7⟩ := h
        obtain ⟨u, v1, v2, rfl, nu, rfl, g1, g2⟩ := y
        have ev1 : v1 = .int (i : Nat) := (Option.some.inj g1).symm
        obtain ⟨o, eo, ev2⟩ := nv_get' g2
        subst ev1 ev2
        rw [nv_length, lP] at hi
        have pk := P4_ok k hk i hi
        have eo' : (P4 k).getD i 0 = o := getD_of eo
        rw [eo'] at pk
        have s8 : Same H7 (upd H7 u (.tup [.int (i : Nat), .int o])) := same_new nu
        have u8 : (upd H7 u (.tup [.int (i : Nat), .int o])) u = some (.tup [.int (i : Nat), .int o]) := upd_same
        revert s8 u8
        generalize upd H7 u (.tup [.int (i : Nat), .int o]) = H8
        intro s8 u8
        have k8 : Keep e H6 H8 := k7.trans (.of_same s8)
        have mem : ∀ i, i < 4 → (upl f n)[i]? = some ((upl f n).getD i 0) ∧ (upl f n).getD i 0 < n ∧ n ≤ f.getD ((upl f n).getD i 0) 0 := fun i hi => by
          have g : (upl f n)[i]? = some ((upl f n).getD i 0) := by rw [List.getD_eq_getElem?_getD, List.getElem?_eq_getElem (by omega)]; rfl
          exact ⟨g, upl_mem.mp (List.mem_of_getElem? g)⟩
        obtain ⟨mi, mi1, mi2⟩ := mem i hi
        obtain ⟨mo, mo1, mo2⟩ := mem o pk.1
        have fo' := hf.d (show (upl f n).getD o 0 < 2 * n by omega)
        have lI := crsI_len f (upl f n) (P4 k) i
        rw [hf.len] at lI
        refine ⟨u, _, rfl, .inl (.inl u8), rfl, _, _, rfl, _, _, rfl, rfl, ?_⟩
        refine st_set [some (.ref a), some (.ref D), some (.ref fo), some (.int (k : Nat)), some (.ref e), some (.int (i : Nat)), some (.int o), none, none] ?_ rfl
        have D8 : SqL K H8 D (nv (upl f n)) := .inl (.inl (k8 _ _ (Ne.symm eDn) (s6 _ _ eD5)))
        have a8 : Sq K H8 a (nv f) := ha.same (s7.trans s8)
        have e8 := s8 _ _ e7
        refine ⟨_, rfl, _, rfl, _, rfl, D, _, _, _, rfl, rfl, D8, nv_at mo, ix_sq a8 (nv_at fo'.2.2.2) ?_⟩
        refine ⟨_, rfl, _, rfl, _, rfl, D, _, _, _, rfl, rfl, D8, nv_at mi, e, _, _, (upl f n).getD i 0, rfl, rfl, e8, ixN_nat (by rw [nv_length, lI]; omega), ?_⟩
        rw [nv_set]
        have k9 : Keep e H8 (upd H8 e (.lst (nv ((crsI f (upl f n) (P4 k) i).set ((upl f n).getD i 0) (f.getD ((upl f n).getD o 0) 0))))) := keep_upd
        have s9 : Same H (upd H8 e (.lst (nv ((crsI f (upl f n) (P4 k) i).set ((upl f n).getD i 0) (f.getD ((upl f n).getD o 0) 0))))) := fun b z hb => by rw [upd_ne (ne_of_none hb neH)]; exact s8 _ _ (s7 _ _ hb)
        have e9 : (upd H8 e (.lst (nv ((crsI f (upl f n) (P4 k) i).set ((upl f n).getD i 0) (f.getD ((upl f n).getD o 0) 0))))) e = some (.lst (nv ((crsI f (upl f n) (P4 k) i).set ((upl f n).getD i 0) (f.getD ((upl f n).getD o 0) 0)))) := upd_same
        revert k9 s9 e9
        generalize upd H8 e (.lst (nv ((crsI f (upl f n) (P4 k) i).set ((upl f n).getD i 0) (f.getD ((upl f n).getD o 0) 0)))) = H9
        intro k9 s9 e9
        have D9 : SqL K H9 D (nv (upl f n)) := .inl (.inl (k9 _ _ (Ne.symm eDn) (k8 _ _ (Ne.symm eDn) (s6 _ _ eD5))))
        refine ⟨_, rfl, _, rfl, D, _, _, _, rfl, rfl, D9, nv_at mi, _, rfl, _, rfl, _, rfl, _, rfl, D, _, _, _, rfl, rfl, D9, nv_at mo, ix_sq (ha.same s9) (nv_at fo'.2.2.2) ⟨e, _, _, f.getD ((upl f n).getD o 0) 0, rfl, rfl, e9, ixN_nat (by rw [nv_length, List.length_set, lI]; exact fo'.1), ?_⟩⟩
        rw [nv_set]
        refine ⟨k8.trans (k9.trans keep_upd), fun b z hb => by rw [upd_ne (ne_of_none hb neH)]; exact s9 _ _ hb, _, _, rfl, ?_⟩
        rw [upd_same, crsI_succ]
        unfold crs1
        rw [eo']
      · obtain ⟨k7, s7, y5, y6, rfl, e7⟩ := h
        rw [nv_length, lP] at e7
        have e7 : H7 e = some (.lst (nv (crs f n k))) := e7
        refine ⟨_, rfl, .inl ⟨rfl, _, .inl (.inl (k7 _ _ (Ne.symm efo) (s6 _ _ ef5)))⟩, _, rfl, e, _, rfl, .inl ⟨.inl (.inl e7), fun t nt => ?_⟩⟩
        have s8 : Same H7 (upd H7 t (.tup (nv (crs f n k)))) := same_new nt
        have t8 : (upd H7 t (.tup (nv (crs f n k)))) t = some (.tup (nv (crs f n k))) := upd_same
        refine ⟨fo, _, _, rfl, rfl, s8 _ _ (k7 _ _ (Ne.symm efo) (s6 _ _ ef5)), line_big (by rw [List.length_map, hB.length, List.length_map, List.length_range]; omega), ?_⟩
        have tfo : t ≠ fo := fun z => by rw [z, k7 _ _ (Ne.symm efo) (s6 _ _ ef5)] at nt; cases nt
        have hB7 := tups_keep k7 (s6 _ _ ee) (tups_same s6 hB5)
        have fin := (tups_append (tups_same s8 hB7) (.cons t8 .nil))
        revert s8 t8 fin
        generalize upd H7 t (.tup (nv (crs f n k))) = H8
        intro s8 t8 fin
        have eD8 := s8 _ _ (k7 _ _ (Ne.symm eDn) (s6 _ _ eD5))
        have ef8 := s8 _ _ (k7 _ _ (Ne.symm efo) (s6 _ _ ef5))
        refine ⟨fun b z hb => by rw [upd_ne (ne_of_none hb nfoH)]; exact s8 _ _ (s7 _ _ hb), by rw [upd_ne Dfo]; exact eD8, _, _, _, _, bs ++ [t], rfl, by rw [upd_same, List.map_append]; rfl, ?_⟩
        rw [List.range_succ, List.map_append]
        exact tups_keep keep_upd ef8 fin
    · obtain ⟨s4, eD4, y3, y4, y5, y6, bs, rfl, ef4, hB⟩ := h
      exact ⟨_, rfl, q H4 fo bs s4 nfoH ef4 hB⟩
end
end Pc
namespace Pc
open PySem PySem.Spec PyProof.Rows L2 RZ
theorem fi_tups {ls : List (List Nat)} (h : ls.length ≤ 100 ∧ ∀ l ∈ ls, l.length ≤ 100 ∧ ∀ i ∈ l, i < 2 ^ 60) : Fi 2 (.list (ls.map td)) := (fine_tds (n := 100) (m := 100) h.2 h.1 (by decide) (by decide)).mono (Nat.le_refl _) (by decide)
end Pc
namespace Pc
open PySem PySem.Spec PyProof.Rows L2 RZ
section
variable {P : Program} {w : World} {K : PySem.W.Frag} {mg : Str → Option Value} {base : Heap}
theorem tuple_any {H : Hp} {a : Addr} {xs : List V} {Q : VK} (h : Sq K H a xs) (q : ∀ (t : Addr) (H1 : Hp), Same H H1 → SqT K H1 t xs → Q (.ref t) H1) :
    ∃ p ys, [V.ref a] = [.ref p] ∧ ((SqL K H p ys ∧ ∀ l, H l = none → Q (.ref l) (upd H l (.tup ys))) ∨ (SqT K H p ys ∧ Q (.ref p) H)) := by
  rcases h with h | h
  · exact ⟨a, xs, rfl, .inl ⟨h, fun l nl => q l _ (same_new nl) (.inl (.inl upd_same))⟩⟩
  · exact ⟨a, xs, rfl, .inr ⟨h, q a H (fun _ _ e => e) h⟩⟩
theorem call_tuple_any {X : Cx} : CallR X (.type "tuple") (fun xs H Q => ∃ p ys, xs = [.ref p] ∧ Sq X.K H p ys ∧ ∀ (t : Addr) (H1 : Hp), Same H H1 → SqT X.K H1 t ys → Q (.ref t) H1) := by
  intro pins s σ H xs us Q I r h
  obtain ⟨p, ys, rfl, h, q⟩ := h
  exact call_tuple_of pins s σ H _ us Q I r (tuple_any h q)
theorem pair_td {l : List Nat} {m : Nat} (h : IsPair m l) (hm : m ≤ 40) : SeqAt.shaped (td l) = true := (fi_tup h (by omega)).sh
/-! ### whether sheets do the same -/
def spSameD (K : PySem.W.Frag) : Sp := fun vs H Q _ => ∃ (a b : Addr) (f g : List Nat) (n : Nat), vs = [.ref a, .ref b] ∧ Sq K H a (nv f) ∧ Sq K H b (nv g) ∧ IsPair (2 * n) f ∧ IsPair (2 * n) g ∧ n % 2 = 0 ∧ n ≤ 20 ∧
  ∀ H', Same H H' → Q (.bl (doS f g n)) H'
theorem ok_p_do_same (T : Env K mg) : FnOk P w K mg base CX0 4 T.f_p_do_same T.d_p_do_same ["one", "other"] (spSameD K) := by
  have G0 : FnOk P w K mg base CX0 1 T.f_p_people_of T.d_p_people_of ["sheet"] (spPeople K) := ok_p_people_of T
  have G1 : FnOk P w K mg base CX0 1 T.f_p_check_sizes T.d_p_check_sizes ["first", "second"] spCheckSizes := ok_p_check_sizes T
  have GS : FnOk P w K mg base CX0 2 T.f_p_strands T.d_p_strands ["sheet"] (spPairs K sts) := ok_p_strands T
  have GA : FnOk P w K mg base CX0 3 T.f_p_result_at T.d_p_result_at ["sheet", "number"] (spResultAt K) := ok_p_result_at T
  have GC : FnOk P w K mg base CX0 3 T.f_p_crossings T.d_p_crossings ["sheet"] (spCross K) := ok_p_crossings T
  refine T.F_p_do_same.ok sc_p_do_same (fun vs H Q E h => ?_) (fun cdv A outer s H vs Q E hr h => ?_)
  · obtain ⟨a, b, f, g, n, rfl, _⟩ := h
    rfl
  · obtain ⟨a, b, f, g, n, rfl, ha, hb, hf, hg, he, hn, q⟩ := h
    have h1 := hr.mono (show 1 ≤ 3 by decide)
    have h2 := hr.mono (show 2 ≤ 3 by decide)
    refine ⟨_, pss_cons (ps_expr (pe_call G1 h1 (by rfl) T.g_p_check_sizes T.F_p_check_sizes.kp T.b_p_check_sizes .nil pass0 (pa_cons (pe_call G0 h1 (by rfl) T.g_p_people_of T.F_p_people_of.kp T.b_p_people_of .nil pass0 (pa_cons (pv 0) pa_nil)) (pa_cons (pe_call G0 h1 (by rfl) T.g_p_people_of T.F_p_people_of.kp T.b_p_people_of .nil pass0 (pa_cons (pv 1) pa_nil)) pa_nil)))) <|
      pss_cons (ps_if (pt_cmpR (op_eqD hr.units) (pe_callTy call_tuple_any (by rfl) T.n_tuple (by decide +kernel) (pa_cons (pv 0) pa_nil)) (pe_callTy call_tuple_any (by rfl) T.n_tuple (by decide +kernel) (pa_cons (pv 1) pa_nil)) (nomark _)) (pss_one (ps_ret pe_bl)) pss_nil) <|
      pss_cons (ps_set (i := 2) sc_p_do_same.nd rfl (.inl rfl) (pe_callB call_len_seq (by rfl) T.n_len PySem.boot_len (pa_cons (pe_call GS h2 (by rfl) T.g_p_strands T.F_p_strands.kp T.b_p_strands .nil pass0 (pa_cons (pv 0) pa_nil)) pa_nil))) <|
      pss_cons (ps_set (i := 3) sc_p_do_same.nd rfl (.inl rfl) (pe_callB call_len_seq (by rfl) T.n_len PySem.boot_len (pa_cons (pe_call GS h2 (by rfl) T.g_p_strands T.F_p_strands.kp T.b_p_strands .nil pass0 (pa_cons (pv 1) pa_nil)) pa_nil))) <|
      pss_cons (ps_if (PW.pt (pw_and (pt_cmpR op_le (pv 2) pe_int (nomark _)) (pw_and1 (pt_cmpR op_le (pv 3) pe_int (nomark _)))))
        (pss_one (ps_ret (pe_cmpR (op_eqD hr.units) (pe_call GA hr (by rfl) T.g_p_result_at T.F_p_result_at.kp T.b_p_result_at .nil pass0 (pa_cons (pv 0) (pa_cons pe_int pa_nil))) (pe_call GA hr (by rfl) T.g_p_result_at T.F_p_result_at.kp T.b_p_result_at .nil pass0 (pa_cons (pv 1) (pa_cons pe_int pa_nil))) (nomark _)))) pss_nil) <|
      pss_cons (ps_if (PW.pt (pw_or (pt_cmpR op_ne (pv 2) pe_int (nomark _)) (pw_or1 (pt_cmpR op_ne (pv 3) pe_int (nomark _))))) (pss_one (ps_ret pe_bl)) pss_nil) <|
      pss_one (ps_ret (pe_cmpR (op_inD (room65 hr)) (pe_callTy call_tuple_any (by rfl) T.n_tuple (by decide +kernel) (pa_cons (pv 1) pa_nil)) (pe_call GC hr (by rfl) T.g_p_crossings T.F_p_crossings.kp T.b_p_crossings .nil pass0 (pa_cons (pv 0) pa_nil)) (by rfl))), ?_⟩
    refine ⟨.ref a, rfl, a, f, n, rfl, ha, hf.len, .ref b, rfl, b, g, n, rfl, hb, hg.len, n, rfl, ?_⟩
    refine ⟨.ref a, rfl, a, nv f, rfl, ha, fun t1 H1 s1 e1 => ?_⟩
    refine ⟨.ref b, rfl, b, nv g, rfl, hb.same s1, fun t2 H2 s2 e2 => ?_⟩
    have s02 := s1.trans s2
    refine ⟨_, _, .tup (same_tup s2 e1) (dp_nats _), .tup e2 (dp_nats _), pair_td hf (by omega), pair_td hg (by omega), _, rfl, ?_⟩
    rw [show PyData.eqv (.tuple (nd f)) (.tuple (nd g)) = decide (f = g) from eqv_td f g]
    refine ite2 (fun c => ?_) (fun c => ?_)
    · have c0 : doS f g n = true := by unfold doS; rw [c]; rfl
      rw [c0] at q
      exact q H2 s02
    have c0 : decide (f = g) = false := by
      cases z : decide (f = g) with
      | true => exact absurd z c
      | false => rfl
    refine ⟨.ref a, rfl, a, f, n, rfl, ha.same s02, hf, by omega, fun H3 p as s3 np ep hA => ⟨p, _, rfl, .inl (.inl (.inl ep)), ?_⟩⟩
    rw [show ((as.map V.ref).length : Int) = ((sts f n).length : Nat) by rw [List.length_map, hA.length]]
    refine st_set [some (.ref a), some (.ref b), some (.int ((sts f n).length : Nat)), none] ?_ rfl
    refine ⟨.ref b, rfl, b, g, n, rfl, (hb.same s02).same s3, hg, by omega, fun H4 p2 bs s4 np2 ep2 hB => ⟨p2, _, rfl, .inl (.inl (.inl ep2)), ?_⟩⟩
    rw [show ((bs.map V.ref).length : Int) = ((sts g n).length : Nat) by rw [List.length_map, hB.length]]
    have s04 := s02.trans (s3.trans s4)
    have a4 : Sq K H4 a (nv f) := ha.same s04
    have b4 : Sq K H4 b (nv g) := hb.same s04
    refine st_set [some (.ref a), some (.ref b), some (.int ((sts f n).length : Nat)), some (.int ((sts g n).length : Nat))] ?_ rfl
    have lf := lse_len hf
    have lg := lse_len hg
    refine ⟨_, rfl, _, _, rfl, rfl, _, rfl, ?_⟩
    have eI : ∀ m : Nat, decide ((V.int (m : Int)) = V.int 4) = decide (m = 4) := fun m => decide_eq_decide.mpr ⟨fun z => by injection z with z; omega, fun z => by rw [z]; rfl⟩
    by_cases d1 : (sts f n).length ≤ 2 ∧ (sts g n).length ≤ 2
    · rw [decide_eq_true (show (((sts f n).length : Nat) : Int) ≤ 2 by omega)]
      refine iteT ⟨_, rfl, _, _, rfl, rfl, _, rfl, ?_⟩
      rw [decide_eq_true (show (((sts g n).length : Nat) : Int) ≤ 2 by omega)]
      refine iteT ?_
      have r1 : IsPair n (rat f n 0) := rat_pair hf he (dfac_pos _)
      have r2 : IsPair n (rat g n 0) := rat_pair hg he (dfac_pos _)
      refine ⟨.ref a, rfl, a, f, n, 0, rfl, a4, hf, he, hn, dfac_pos _, fun H5 t s5 nt et => ?_⟩
      refine ⟨.ref b, rfl, b, g, n, 0, rfl, b4.same s5, hg, he, hn, dfac_pos _, fun H6 u s6 nu eu => ?_⟩
      refine ⟨_, _, .tup (.inl (.inl (s6 _ _ et))) (dp_nats _), .tup (.inl (.inl eu)) (dp_nats _), pair_td r1 (by omega), pair_td r2 (by omega), ?_⟩
      rw [show PyData.eqv (.tuple (nd (rat f n 0))) (.tuple (nd (rat g n 0))) = decide (rat f n 0 = rat g n 0) from eqv_td _ _]
      have c1 : doS f g n = decide (rat f n 0 = rat g n 0) := by
        unfold doS
        rw [c0, decide_eq_true d1.1, decide_eq_true d1.2, decide_eq_false (show ¬ (sts f n).length = 4 by omega)]
        simp
      rw [c1] at q
      exact q H6 (s04.trans (s5.trans s6))
    · have c1 : doS f g n = (decide ((sts f n).length = 4) && decide ((sts g n).length = 4) && (decide (g = crs f n 0) || decide (g = crs f n 1) || decide (g = crs f n 2))) := by
        unfold doS
        rw [c0]
        have : (decide ((sts f n).length ≤ 2) && decide ((sts g n).length ≤ 2)) = false := by
          rw [Bool.and_eq_false_iff, decide_eq_false_iff_not, decide_eq_false_iff_not]; omega
        rw [this]; simp
      have c2 : doS f g n = false → Q (.bl false) H4 := fun z => by rw [z] at q; exact q H4 s04
      refine ite2 (fun c3 => ?w1) (fun c3 => ?w2)
      case' w1 => refine ⟨_, rfl, _, _, rfl, rfl, _, rfl, iteX (decide_eq_false (by have := of_decide_eq_true c3; omega)) ?_⟩
      all_goals
        clear c3
        refine ⟨_, rfl, rfl, _, rfl, ?_⟩
        rw [eI]
        by_cases e4 : (sts f n).length = 4
        · rw [decide_eq_true e4]
          refine iteX rfl ⟨_, rfl, rfl, _, rfl, ?_⟩
          rw [eI]
          by_cases g4 : (sts g n).length = 4
          · rw [decide_eq_true g4]
            refine iteX rfl ?_
            refine ⟨.ref b, rfl, b, nv g, rfl, b4, fun t5 H5 s5 e5 => ?_⟩
            have l4 : (upl f n).length = 4 := by rw [upl_len hf]; omega
            refine ⟨.ref a, rfl, a, f, n, rfl, a4.same s5, hf, hn, l4, fun H6 t6 cs s6 n6 e6 hC => ?_⟩
            have hcp : ∀ k, k < 3 → IsPair (2 * n) (crs f n k) := fun k hk => (crs_crd hf hk l4).pair hf hk l4
            refine ⟨_, _, .tup (same_tup s6 e5) (dp_nats _), .lst (.inl (.inl e6)) (tups_dp hC), pair_td hg (by omega), (fi_tups ⟨by rw [List.length_map, List.length_range]; decide, fun l hl => ?_⟩).sh, ?_⟩
            · obtain ⟨k, hk, rfl⟩ := List.mem_map.mp hl
              have hk := List.mem_range.mp hk
              refine ⟨by rw [(hcp k hk).len]; omega, fun i hi => ?_⟩
              have := (hcp k hk).lt i hi
              omega
            have c5 : (((List.range 3).map (crs f n)).map td).any (fun z => PyData.eqv z (td g)) = doS f g n := by
              rw [c1, e4, g4]
              show (PyData.eqv (td (crs f n 0)) (td g) || (PyData.eqv (td (crs f n 1)) (td g) || (PyData.eqv (td (crs f n 2)) (td g) || false))) = _
              rw [eqv_td, eqv_td, eqv_td]
              have sw : ∀ x : List Nat, decide (x = g) = decide (g = x) := fun x => decide_eq_decide.mpr ⟨Eq.symm, Eq.symm⟩
              rw [sw, sw, sw]
              simp [Bool.or_assoc]
            rw [show (((List.range 3).map (crs f n)).map td).any (fun z => PyData.eqv z (PyData.tuple (nd g))) = doS f g n from c5]
            exact q H6 (s04.trans (s5.trans s6))
          · rw [decide_eq_false g4]
            refine iteY rfl (c2 ?_)
            rw [c1, decide_eq_false g4]; simp
        · rw [decide_eq_false e4]
          refine iteY rfl (iteY rfl (c2 ?_))
          rw [c1, decide_eq_false e4]; simp
end
end Pc
namespace Pc
/-! ### what parts two sheets -/
theorem Calls.up {n : Nat} {cs : List (Nat × Nat)} (h : Calls n cs) : Calls (2 * n) cs := fun q hq => by have := h q hq; omega
theorem Calls.rev {n : Nat} {cs : List (Nat × Nat)} (h : Calls n cs) : Calls n cs.reverse := fun q hq => h q (List.mem_reverse.mp hq)
theorem runs_app (a b : List (Nat × Nat)) (f : List Nat) : runs (a ++ b) f = runs b (runs a f) := by unfold runs; rw [List.foldl_append]
theorem rd_ups {n : Nat} {q : List Nat} (hq : IsPair n q) : ∀ {cs : List (Nat × Nat)} {S : List Nat}, IsPair (2 * n) S → Calls n cs → rd (runs cs S) q n = rd S (runs cs.reverse q) n
  | [], _, _, _ => rfl
  | c :: r, S, hS, hc => by
    have h1 := hc c List.mem_cons_self
    have hr : Calls n r := fun x hx => hc x (List.mem_cons_of_mem _ hx)
    show rd (runs r (jn S c.1 c.2)) q n = _
    rw [rd_ups hq (jn_pair hS (by omega) (by omega) (by omega)) hr, rd_up hS (runs_pair _ hq hr.rev) (by omega) (by omega) h1.2, List.reverse_cons, runs_app]
    rfl
theorem jn_stay {n : Nat} {f : List Nat} (hf : IsPair n f) {a b x y : Nat} (hab : a ≠ b) (ha : a < n) (hb : b < n) (hx : x < n) (e : f.getD x 0 = y) (h1 : x ≠ a) (h2 : x ≠ b) (h3 : y ≠ a) (h4 : y ≠ b) : (jn f a b).getD x 0 = y := by
  by_cases hc : f.getD a 0 = b
  · rw [jn_idle hf ha hc]; exact e
  · rw [jn_gd hf hab ha hb hc, if_neg h1, if_neg h2, if_neg (fun z => h3 (by rw [← e, z]; exact (hf.d ha).2.2.1)), if_neg (fun z => h4 (by rw [← e, z]; exact (hf.d hb).2.2.1))]
    exact e
theorem runs_stay {n : Nat} {x y : Nat} (hx : x < n) : ∀ {cs : List (Nat × Nat)} {q : List Nat}, IsPair n q → Calls n cs → q.getD x 0 = y → (∀ c ∈ cs, x ≠ c.1 ∧ x ≠ c.2 ∧ y ≠ c.1 ∧ y ≠ c.2) → (runs cs q).getD x 0 = y
  | [], _, _, _, e, _ => e
  | c :: r, q, hq, hc, e, h => by
    have h1 := hc c List.mem_cons_self
    have h2 := h c List.mem_cons_self
    show (runs r (jn q c.1 c.2)).getD x 0 = y
    exact runs_stay hx (jn_pair hq (by omega) (by omega) h1.2) (fun z hz => hc z (List.mem_cons_of_mem _ hz)) (jn_stay hq (by omega) (by omega) h1.2 hx e h2.1 h2.2.1 h2.2.2.1 h2.2.2.2) (fun z hz => h z (List.mem_cons_of_mem _ hz))
theorem flat_apart {c : Nat × Nat} {r : List (Nat × Nat)} (h : (flat (c :: r)).Nodup) : (flat r).Nodup ∧ ∀ d ∈ r, c.1 ≠ d.1 ∧ c.1 ≠ d.2 ∧ c.2 ≠ d.1 ∧ c.2 ≠ d.2 := by
  have h' : (c.1 :: c.2 :: flat r).Nodup := h
  obtain ⟨h1, h2⟩ := List.nodup_cons.mp h'
  obtain ⟨h3, h4⟩ := List.nodup_cons.mp h2
  refine ⟨h4, fun d hd => ?_⟩
  have m1 : d.1 ∈ flat r := flat_mem.mpr ⟨d, hd, .inl rfl⟩
  have m2 : d.2 ∈ flat r := flat_mem.mpr ⟨d, hd, .inr rfl⟩
  exact ⟨fun e => h1 (List.mem_cons_of_mem _ (e ▸ m1)), fun e => h1 (List.mem_cons_of_mem _ (e ▸ m2)), fun e => h3 (e ▸ m1), fun e => h3 (e ▸ m2)⟩
theorem runs_has {n : Nat} : ∀ {cs : List (Nat × Nat)} {q : List Nat}, IsPair n q → Calls n cs → (flat cs).Nodup → ∀ c ∈ cs, (runs cs q).getD c.1 0 = c.2
  | c :: r, q, hq, hc, hd, d, hdm => by
    have h1 := hc c List.mem_cons_self
    have hr : Calls n r := fun z hz => hc z (List.mem_cons_of_mem _ hz)
    have hap := flat_apart hd
    have hj := jn_pair hq (show c.1 ≠ c.2 by omega) (by omega) h1.2
    show (runs r (jn q c.1 c.2)).getD d.1 0 = d.2
    rcases List.mem_cons.mp hdm with z | z
    · subst z
      exact runs_stay (by omega) hj hr (jn_has hq (by omega) (by omega) h1.2).1 hap.2
    · exact runs_has hj hr hap.1 d z
theorem flat_revperm : ∀ cs : List (Nat × Nat), (flat cs.reverse).Perm (flat cs)
  | [] => .refl _
  | c :: r => by
    rw [List.reverse_cons, flat_app]
    exact List.perm_append_comm.trans (((flat_revperm r).cons c.2).cons c.1)
theorem runs_idle {n : Nat} {q : List Nat} (hq : IsPair n q) : ∀ {cs : List (Nat × Nat)}, Calls n cs → (∀ c ∈ cs, q.getD c.1 0 = c.2) → runs cs q = q
  | [], _, _ => rfl
  | c :: r, hc, h => by
    have h1 := hc c List.mem_cons_self
    show runs r (jn q c.1 c.2) = q
    rw [jn_idle hq (by omega) (h c List.mem_cons_self)]
    exact runs_idle hq (fun z hz => hc z (List.mem_cons_of_mem _ hz)) (fun z hz => h z (List.mem_cons_of_mem _ hz))
theorem sep_to {n : Nat} {S T : List Nat} {cs : List (Nat × Nat)} (hS : IsPair (2 * n) S) (hT : IsPair (2 * n) T) (hc : Calls n cs) (hd : (flat cs).Nodup) (h : ¬ Sames (runs cs S) (runs cs T) n) : ∃ q, IsPair n q ∧ (∀ c ∈ cs, q.getD c.1 0 = c.2) ∧ rd S q n ≠ rd T q n := by
  apply Classical.byContradiction
  intro no
  refine h fun q hq => ?_
  rw [rd_ups hq hS hc, rd_ups hq hT hc]
  apply Classical.byContradiction
  intro ne
  exact no ⟨_, runs_pair _ hq hc.rev, fun c hm => runs_has hq hc.rev ((flat_revperm cs).nodup_iff.mpr hd) c (List.mem_reverse.mpr hm), ne⟩
theorem sep_of {n : Nat} {S T q : List Nat} {cs : List (Nat × Nat)} (hS : IsPair (2 * n) S) (hT : IsPair (2 * n) T) (hc : Calls n cs) (hq : IsPair n q) (hk : ∀ c ∈ cs, q.getD c.1 0 = c.2) (h : rd S q n ≠ rd T q n) : ¬ Sames (runs cs S) (runs cs T) n := fun s => by
  have := s q hq
  rw [rd_ups hq hS hc, rd_ups hq hT hc, runs_idle hq hc.rev (fun c hm => hk c (List.mem_reverse.mp hm))] at this
  exact h this
/-! ### as the program finds it -/
def fre (n : Nat) (cs : List (Nat × Nat)) : List Nat := (List.range n).filter fun x => !decide (x ∈ flat cs)
theorem fre_mem {n x : Nat} {cs : List (Nat × Nat)} : x ∈ fre n cs ↔ x < n ∧ x ∉ flat cs := by
  unfold fre; rw [List.mem_filter, List.mem_range]; simp
theorem fre_asc (n : Nat) (cs : List (Nat × Nat)) : (fre n cs).Pairwise (· < ·) := List.pairwise_lt_range.filter _
theorem fre_snoc (n : Nat) (cs : List (Nat × Nat)) (c : Nat × Nat) : fre n (cs ++ [c]) = (fre n cs).filter fun x => !(decide (x = c.1) || decide (x = c.2)) := by
  unfold fre
  rw [List.filter_filter]
  refine List.filter_congr fun x _ => ?_
  rw [flat_app]
  show (!decide (x ∈ flat cs ++ [c.1, c.2])) = _
  by_cases h1 : x ∈ flat cs <;> by_cases h2 : x = c.1 <;> by_cases h3 : x = c.2 <;> simp [h1, h2, h3]
def pcs (F G : List Nat) (n : Nat) (l : List Nat) : List (Nat × Nat) := (l.tail.map fun m => (l.headD 0, m)).filter fun c => !doS (jn F c.1 c.2) (jn G c.1 c.2) n
def ptc (F G : List Nat) (n : Nat) (l : List Nat) : Nat × Nat := (pcs F G n l).headD (0, 0)
def pst (S T : List Nat) (n : Nat) : Nat → List (Nat × Nat)
  | 0 => []
  | i + 1 => pst S T n i ++ [ptc (runs (pst S T n i) S) (runs (pst S T n i) T) n (fre n (pst S T n i))]
def ptg (S T : List Nat) (n : Nat) : List Nat := mkp (pst S T n (n / 2))
structure PI (S T : List Nat) (n i : Nat) (cs : List (Nat × Nat)) : Prop where
  eq : cs = pst S T n i
  cl : Calls n cs
  nd : (flat cs).Nodup
  ln : cs.length = i
  ns : ¬ Sames (runs cs S) (runs cs T) n
theorem PI.start {S T : List Nat} {n : Nat} (h : ¬ Sames S T n) : PI S T n 0 [] := ⟨rfl, fun _ h => absurd h List.not_mem_nil, List.nodup_nil, rfl, h⟩
theorem nodup_few {n : Nat} {l : List Nat} (hd : l.Nodup) (h : ∀ x ∈ l, x < n) (hl : l.length < n) : ∃ x, x < n ∧ x ∉ l := by
  obtain ⟨z, hz, h1⟩ := other_in (List.nodup_range (n := n)) l (by rw [List.length_range]; exact hl)
  exact ⟨z, List.mem_range.mp hz, h1⟩
theorem PI.lt {S T : List Nat} {n i : Nat} {cs : List (Nat × Nat)} (h : PI S T n i cs) : ∀ x ∈ flat cs, x < n := fun x hx => by
  obtain ⟨c, hc, e⟩ := flat_mem.mp hx
  have := h.cl c hc
  omega
theorem PI.free {S T : List Nat} {n i : Nat} {cs : List (Nat × Nat)} (h : PI S T n i cs) (hi : i < n / 2) : ∃ p r, fre n cs = p :: r := by
  have hl := flat_len cs
  obtain ⟨x, h1, h2⟩ := nodup_few h.nd h.lt (by rw [hl, h.ln]; omega)
  have := fre_mem.mpr ⟨h1, h2⟩
  cases e : fre n cs with
  | nil => rw [e] at this; cases this
  | cons p r => exact ⟨p, r, rfl⟩
theorem PI.some {S T : List Nat} {n i : Nat} {cs : List (Nat × Nat)} (hS : IsPair (2 * n) S) (hT : IsPair (2 * n) T) (he : n % 2 = 0) (h : PI S T n i cs) {p : Nat} {r : List Nat} (hf : fre n cs = p :: r) : ∃ c rest, pcs (runs cs S) (runs cs T) n (fre n cs) = c :: rest ∧ c.1 = p ∧ c.2 ∈ r ∧ ¬ Sames (jn (runs cs S) c.1 c.2) (jn (runs cs T) c.1 c.2) n := by
  have hFS := runs_pair cs hS h.cl.up
  have hFT := runs_pair cs hT h.cl.up
  have hp := fre_mem.mp (show p ∈ fre n cs by rw [hf]; exact List.mem_cons_self)
  have asc := fre_asc n cs
  rw [hf] at asc
  have lt := (List.pairwise_cons.mp asc).1
  obtain ⟨q, hq, hk, hne⟩ := sep_to hS hT h.cl h.nd h.ns
  have qp := hq.d hp.1
  have hm : q.getD p 0 ∈ r := by
    have : q.getD p 0 ∈ fre n cs := by
      refine fre_mem.mpr ⟨qp.1, fun z => ?_⟩
      obtain ⟨c, hc, e⟩ := flat_mem.mp z
      have kc := hk c hc
      have hcc := h.cl c hc
      have qc := hq.d (show c.1 < n by omega)
      rcases e with e | e
      · have : p = c.2 := by rw [← kc, ← e]; exact qp.2.2.1.symm
        exact hp.2 (flat_mem.mpr ⟨c, hc, .inr this⟩)
      · have : p = c.1 := by
          have := qp.2.2.1
          rw [e, ← kc, qc.2.2.1] at this
          exact this.symm
        exact hp.2 (flat_mem.mpr ⟨c, hc, .inl this⟩)
    rw [hf] at this
    rcases List.mem_cons.mp this with z | z
    · exact absurd z qp.2.1
    · exact z
  have jp : ∀ {F : List Nat} {m : Nat}, IsPair (2 * n) F → m ∈ r → IsPair (2 * n) (jn F p m) := fun {F m} hF hm => by
    have := lt m hm
    have := (fre_mem.mp (show m ∈ fre n cs by rw [hf]; exact List.mem_cons_of_mem _ hm)).1
    exact jn_pair hF (by omega) (by omega) (by omega)
  have key : (p, q.getD p 0) ∈ pcs (runs cs S) (runs cs T) n (fre n cs) := by
    unfold pcs
    rw [hf, List.mem_filter]
    refine ⟨List.mem_map.mpr ⟨_, hm, rfl⟩, ?_⟩
    cases z : doS (jn (runs cs S) p (q.getD p 0)) (jn (runs cs T) p (q.getD p 0)) n with
    | false => rfl
    | true =>
      exfalso
      have hc' : Calls n (cs ++ [(p, q.getD p 0)]) := fun c hc => by
        rcases List.mem_append.mp hc with z | z
        · exact h.cl c z
        · rw [List.mem_singleton] at z; subst z; exact ⟨lt _ hm, qp.1⟩
      refine sep_of hS hT hc' hq (fun c hc => ?_) hne ?_
      · rcases List.mem_append.mp hc with z | z
        · exact hk c z
        · rw [List.mem_singleton] at z; subst z; rfl
      · rw [runs_app, runs_app]
        exact (doS_iff (jp hFS hm) (jp hFT hm) he).mp z
  cases e : pcs (runs cs S) (runs cs T) n (fre n cs) with
  | nil => rw [e] at key; cases key
  | cons c rest =>
    have hcm : c ∈ pcs (runs cs S) (runs cs T) n (fre n cs) := by rw [e]; exact List.mem_cons_self
    unfold pcs at hcm
    rw [hf, List.mem_filter] at hcm
    obtain ⟨h1, h2⟩ := hcm
    obtain ⟨m, hm', rfl⟩ := List.mem_map.mp h1
    refine ⟨_, rest, rfl, rfl, hm', fun z => ?_⟩
    have := (doS_iff (jp hFS hm') (jp hFT hm') he).mpr z
    rw [show doS (jn (runs cs S) ((p :: r).headD 0, m).1 ((p :: r).headD 0, m).2) (jn (runs cs T) ((p :: r).headD 0, m).1 ((p :: r).headD 0, m).2) n = true from this] at h2
    exact absurd h2 (by decide)
theorem PI.step {S T : List Nat} {n i : Nat} {cs : List (Nat × Nat)} (hS : IsPair (2 * n) S) (hT : IsPair (2 * n) T) (he : n % 2 = 0) (h : PI S T n i cs) (hi : i < n / 2) : PI S T n (i + 1) (cs ++ [ptc (runs cs S) (runs cs T) n (fre n cs)]) := by
  obtain ⟨p, r, hf⟩ := h.free hi
  obtain ⟨c, rest, e1, e2, e3, e4⟩ := h.some hS hT he hf
  have ec : ptc (runs cs S) (runs cs T) n (fre n cs) = c := by unfold ptc; rw [e1]; rfl
  have asc := fre_asc n cs
  rw [hf] at asc
  have lt := (List.pairwise_cons.mp asc).1 _ e3
  have hp := fre_mem.mp (show p ∈ fre n cs by rw [hf]; exact List.mem_cons_self)
  have hm := fre_mem.mp (show c.2 ∈ fre n cs by rw [hf]; exact List.mem_cons_of_mem _ e3)
  rw [ec]
  refine ⟨?_, fun d hd => ?_, ?_, by rw [List.length_append, h.ln]; rfl, by rw [runs_app, runs_app]; exact e4⟩
  · show _ = pst S T n i ++ [_]
    rw [← h.eq, ec]
  · rcases List.mem_append.mp hd with z | z
    · exact h.cl d z
    · rw [List.mem_singleton] at z; subst z; omega
  · rw [flat_app]
    show (flat cs ++ [c.1, c.2]).Nodup
    refine List.nodup_append.mpr ⟨h.nd, ?_, fun a ha b hb => ?_⟩
    · simp; omega
    · intro z
      simp only [List.mem_cons, List.not_mem_nil, or_false] at hb
      rcases hb with w | w
      · exact hp.2 (by rw [← e2, ← w, ← z]; exact ha)
      · exact hm.2 (by rw [← w, ← z]; exact ha)
theorem PI.done {S T : List Nat} {n : Nat} {cs : List (Nat × Nat)} (hS : IsPair (2 * n) S) (hT : IsPair (2 * n) T) (he : n % 2 = 0) (h : PI S T n (n / 2) cs) : 2 * cs.length = n ∧ Makes cs (ptg S T n) ∧ IsPair n (ptg S T n) ∧ rd S (ptg S T n) n ≠ rd T (ptg S T n) n ∧ fre n cs = [] := by
  have hln := h.ln
  have hl : 2 * cs.length = n := by omega
  have hfl := flat_len cs
  have hsub : ∀ x, x < n → x ∈ flat cs := fun x hx => by
    apply Classical.byContradiction
    intro c
    have := few_below n (x :: flat cs) (List.nodup_cons.mpr ⟨c, h.nd⟩) (fun y hy => by
      rcases List.mem_cons.mp hy with z | z
      · omega
      · exact h.lt y z)
    rw [List.length_cons, hfl] at this
    omega
  have hpm : (flat cs).Perm (List.range (2 * cs.length)) := by
    rw [hl]
    refine (List.perm_ext_iff_of_nodup h.nd List.nodup_range).mpr fun x => ⟨fun hx => List.mem_range.mpr (h.lt x hx), fun hx => hsub x (List.mem_range.mp hx)⟩
  have hm := makes_mkp hpm
  have hpp := mkp_pair hpm
  rw [hl] at hpp
  have ee : ptg S T n = mkp cs := by unfold ptg; rw [← h.eq]
  obtain ⟨q, hq, hk, hne⟩ := sep_to hS hT h.cl h.nd h.ns
  have eq : q = mkp cs := by
    refine list_d (by rw [hq.len, mkp_len, hl]) fun x hx => ?_
    rw [hq.len] at hx
    obtain ⟨c, hc, e⟩ := flat_mem.mp (hsub x hx)
    have kc := hk c hc
    have hcc := h.cl c hc
    have mc := hm.ok c hc
    rcases e with e | e
    · rw [e, kc, getD_of mc.1]
    · rw [e, getD_of mc.2, ← kc]
      exact (hq.d (by omega)).2.2.1
  rw [ee]
  refine ⟨hl, hm, hpp, by rw [← eq]; exact hne, ?_⟩
  cases e : fre n cs with
  | nil => rfl
  | cons x r =>
    have := fre_mem.mp (show x ∈ fre n cs by rw [e]; exact List.mem_cons_self)
    exact absurd (hsub x this.1) this.2
theorem ptg_ok {S T : List Nat} {n : Nat} (hS : IsPair (2 * n) S) (hT : IsPair (2 * n) T) (he : n % 2 = 0) (h : ¬ Sames S T n) : IsPair n (ptg S T n) ∧ rd S (ptg S T n) n ≠ rd T (ptg S T n) n := by
  have : ∀ i, i ≤ n / 2 → ∃ cs, PI S T n i cs := fun i => by
    induction i with
    | zero => exact fun _ => ⟨[], .start h⟩
    | succ i ih =>
      intro hi
      obtain ⟨cs, hc⟩ := ih (by omega)
      exact ⟨_, hc.step hS hT he (by omega)⟩
  obtain ⟨cs, hc⟩ := this _ (Nat.le_refl _)
  have := hc.done hS hT he
  exact ⟨this.2.2.1, this.2.2.2.1⟩
end Pc
namespace Pc
open PySem PySem.Spec PyProof.Rows L2 RZ
section
variable {P : Program} {w : World} {K : PySem.W.Frag} {mg : Str → Option Value} {base : Heap}
/-! ### a call before a sheet -/
def spBehind (K : PySem.W.Frag) : Sp := fun vs H Q _ => ∃ (a c : Addr) (f : List Nat) (m x y : Nat), vs = [.ref a, .ref c] ∧ Sq K H a (nv f) ∧ Sq K H c [.int x, .int y] ∧ IsPair m f ∧ x < m ∧ y < m ∧
  ∀ (H' : Hp) (t : Addr), Same H H' → H t = none → H' t = some (.tup (nv (jn f x y))) → Q (.ref t) H'
theorem ok_p_behind_call (T : Env K mg) : FnOk P w K mg base CX0 2 T.f_p_behind_call T.d_p_behind_call ["sheet", "call"] (spBehind K) := by
  have GJ : FnOk P w K mg base CX0 1 T.f_p_join_two T.d_p_join_two ["joined", "a", "b"] spJoin := ok_p_join_two T
  refine T.F_p_behind_call.ok sc_p_behind_call (fun vs H Q E h => ?_) (fun cdv A outer s H vs Q E hr h => ?_)
  · obtain ⟨a, c, f, m, x, y, rfl, _⟩ := h
    rfl
  · obtain ⟨a, c, f, m, x, y, rfl, ha, hc, hf, hx, hy, q⟩ := h
    refine ⟨_, pss_cons (ps_asg (pv 1) (pg_seq (by rfl) (pgs_cons (pg_name (i := 2) sc_p_behind_call.nd rfl (.inl rfl)) (pgs_cons (pg_name (i := 3) sc_p_behind_call.nd rfl (.inl rfl)) pgs_nil)))) <|
      pss_cons (ps_set (i := 4) sc_p_behind_call.nd rfl (.inl rfl) (pe_callTy call_list_of (by rfl) T.n_list (by decide +kernel) (pa_cons (pv 0) pa_nil))) <|
      pss_cons (ps_expr (pe_call GJ hr (by rfl) T.g_p_join_two T.F_p_join_two.kp T.b_p_join_two .nil pass0 (pa_cons (pv 4) (pa_cons (pv 2) (pa_cons (pv 3) pa_nil))))) <|
      pss_one (ps_ret (pe_callTy call_tuple_of (by rfl) T.n_tuple (by decide +kernel) (pa_cons (pv 4) pa_nil))), ?_⟩
    refine ⟨_, rfl, c, _, rfl, hc, rfl, _, _, rfl, _, _, rfl, rfl, ?_⟩
    refine st_set [some (.ref a), some (.ref c), some (.int (x : Nat)), some (.int (y : Nat)), none] ?_ rfl
    refine ⟨_, rfl, a, nv f, rfl, ha.elim .inl .inr, fun e ne => ?_⟩
    have s1 : Same H (upd H e (.lst (nv f))) := same_new ne
    have ee : (upd H e (.lst (nv f))) e = some (.lst (nv f)) := upd_same
    revert s1 ee
    generalize upd H e (.lst (nv f)) = H1
    intro s1 ee
    refine st_set [some (.ref a), some (.ref c), some (.int (x : Nat)), some (.int (y : Nat)), some (.ref e)] ?_ rfl
    refine ⟨_, rfl, _, rfl, _, rfl, e, f, m, x, y, rfl, ee, hf, hx, hy, fun H2 e2 k2 => ?_⟩
    have s2 : Same H H2 := fun b o hb => k2 b o (ne_of_none hb ne) (s1 _ _ hb)
    exact ⟨_, rfl, e, _, rfl, .inl ⟨.inl (.inl e2), fun t nt => q _ t (s2.trans (same_new nt)) (s2.free nt) upd_same⟩⟩
/-! ### a couple that parts two sheets -/
theorem flt1 {α : Type} (f : α → Bool) (x : α) : [x].filter f = if f x = true then [x] else [] := by
  by_cases z : f x = true
  · rw [if_pos z, List.filter_cons_of_pos z, List.filter_nil]
  · rw [if_neg z, List.filter_cons_of_neg z, List.filter_nil]
theorem cut1D (vs : List V) : cutV vs (some 1) none = vs.drop 1 := by
  unfold cutV
  rw [show (1 : Int) = ((1 : Nat) : Int) from rfl, HT.sIx_none, HT.sIx_nat]
  by_cases h : 1 ≤ vs.length
  · rw [Nat.min_eq_left h, List.take_of_length_le (by rw [List.length_drop]; omega)]
  · rw [Nat.min_eq_right (by omega), List.drop_of_length_le (Nat.le_refl _), List.drop_of_length_le (by omega), List.take_nil]
def spPCouple (K : PySem.W.Frag) : Sp := fun vs H Q _ => ∃ (a b l : Addr) (F G : List Nat) (n p : Nat) (r : List Nat) (c : Nat × Nat) (rest : List (Nat × Nat)), vs = [.ref a, .ref b, .ref l] ∧ Sq K H a (nv F) ∧ Sq K H b (nv G) ∧ H l = some (.lst (nv (p :: r))) ∧
  IsPair (2 * n) F ∧ IsPair (2 * n) G ∧ n % 2 = 0 ∧ n ≤ 20 ∧ p < n ∧ r.length ≤ n ∧ (∀ m ∈ r, p ≠ m ∧ m < n) ∧ pcs F G n (p :: r) = c :: rest ∧
  ∀ (H' : Hp) (t : Addr), Same H H' → H' t = some (.tup [.int c.1, .int c.2]) → Q (.ref t) H'
theorem ok_p_parting_couple (T : Env K mg) : FnOk P w K mg base CX0 5 T.f_p_parting_couple T.d_p_parting_couple ["one", "other", "free"] (spPCouple K) := by
  have GB : FnOk P w K mg base CX0 2 T.f_p_behind_call T.d_p_behind_call ["sheet", "call"] (spBehind K) := ok_p_behind_call T
  have GD : FnOk P w K mg base CX0 4 T.f_p_do_same T.d_p_do_same ["one", "other"] (spSameD K) := ok_p_do_same T
  refine T.F_p_parting_couple.ok sc_p_parting_couple (fun vs H Q E h => ?_) (fun cdv A outer s H vs Q E hr h => ?_)
  · obtain ⟨a, b, l, F, G, n, p, r, c, rest, rfl, _⟩ := h
    rfl
  · obtain ⟨a, b, l, F, G, n, p, r, c, rest, rfl, ha, hb, hl, hF, hG, he, hn, hp, hrl, hr', hpc, q⟩ := h
    have h2 := hr.mono (show 2 ≤ 4 by decide)
    refine ⟨_, pss_cons (ps_setLc (i := 3) (own := [("partner", 4)]) (g := gName 4) (tt := tYes) (te := tTup (tCons (tOp (rIxL K) (tVar 2) (tC (.int 0))) (tCons (tVar 4) tNil))) rfl sc_p_parting_couple.nd rfl rfl (sw_true rfl rfl rfl (by decide +kernel)) (pi_list (pe_slice sl_list (pv 2) (po_some pe_int) po_none)) (blkOk_by (N := N_p_parting_couple) (sc := defScope s_p_parting_couple) (by decide +kernel))
        (fun _ _ _ _ _ => pg_name (i := 4) sc_p_parting_couple.nd rfl (.inl rfl)) (fun _ _ _ _ _ => pts_nil) (fun _ _ _ _ _ => pe_tup (pa_cons (pe_ix ix_list (pv 2) pe_int (fun _ _ => rfl)) (pa_cons (pv 4) pa_nil)))) <|
      pss_one (ps_ret (pe_ix ix_list (pe_lc (own := [("call", 5)]) (g := gName 5)
        (tt := tNot (tB (tCall (spSameD K) [] (fun _ _ _ => False) (tCons (tCall (spBehind K) [] (fun _ _ _ => False) (tCons (tVar 0) (tCons (tVar 5) tNil))) (tCons (tCall (spBehind K) [] (fun _ _ _ => False) (tCons (tVar 1) (tCons (tVar 5) tNil))) tNil))))) (te := tVar 5) rfl sc_p_parting_couple.nd (pi_list (pv 3)) (blkOk_by (N := N_p_parting_couple) (sc := defScope s_p_parting_couple) (by decide +kernel))
        (fun _ _ _ _ _ => pg_name (i := 5) sc_p_parting_couple.nd rfl (.inl rfl))
        (fun _ _ _ _ _ => pts_one (pt_not (pt_val (pe_call GD hr (by rfl) T.g_p_do_same T.F_p_do_same.kp T.b_p_do_same .nil pass0 (pa_cons (pe_call GB h2 (by rfl) T.g_p_behind_call T.F_p_behind_call.kp T.b_p_behind_call .nil pass0 (pa_cons (pv 0) (pa_cons (pv 5) pa_nil))) (pa_cons (pe_call GB h2 (by rfl) T.g_p_behind_call T.F_p_behind_call.kp T.b_p_behind_call .nil pass0 (pa_cons (pv 1) (pa_cons (pv 5) pa_nil))) pa_nil))))))
        (fun _ _ _ _ _ => pv 5)) pe_int (fun _ _ => rfl))), ?_⟩
    refine ⟨_, rfl, 1, rfl, l, _, rfl, .inl (.inl hl), fun d nd => ?_⟩
    rw [cut1D, show (nv (p :: r)).drop 1 = nv r from rfl]
    have s1 : Same H (upd H d (.lst (nv r))) := same_new nd
    have ed : (upd H d (.lst (nv r))) d = some (.lst (nv r)) := upd_same
    revert s1 ed
    generalize upd H d (.lst (nv r)) = H1
    intro s1 ed
    have hl1 := s1 _ _ hl
    refine ⟨d, rfl, ⟨_, .inl (.inl ed)⟩, fun D nD => ?_⟩
    have sD : Same H1 (upd H1 D (.lst [])) := same_new nD
    refine lc_list (xs := nv r) (fun i H' => Same H1 H' ∧ ∃ es : List Addr, H' D = some (.lst (es.map V.ref)) ∧ Prs H' es ((r.map fun m => (p, m)).take i)) ⟨sD, [], upd_same, .nil⟩ (fun i H' _ h => .inl (.inl (h.1 _ _ ed))) (fun i v H' hv h => ?_) (fun H2 h => ?_)
    · obtain ⟨sm, es, eD, hE⟩ := h
      obtain ⟨m, em, rfl⟩ := nv_get' hv
      refine ⟨rfl, yes_if ⟨_, rfl, l, _, 0, .int (p : Nat), rfl, rfl, .inl (.inl (sm _ _ hl1)), atI_nat (j := 0) rfl, _, rfl, by show 2 ≤ sizeLine; decide, fun z nz => ⟨_, same_new nz _ _ eD, ?_, fun y o hy => ?_, es ++ [z], ?_, ?_⟩⟩⟩
      · rw [List.length_map, hE.length, List.length_take]
        exact small1000 (by rw [List.length_map]; omega)
      · rw [upd_ne (ne_of_none hy nD)]; exact same_new nz _ _ (sm _ _ hy)
      · rw [upd_same, List.map_append]; rfl
      · have zD : z ≠ D := fun e => by rw [e, eD] at nz; cases nz
        have ej : (r.map fun m => (p, m))[i]? = some (p, m) := by rw [List.getElem?_map, em]; rfl
        rw [List.take_add_one, ej]
        refine prs_append (prs_keep (b := D) keep_upd (same_new nz _ _ eD) (prs_same (same_new nz) hE)) (.cons ?_ .nil)
        rw [upd_ne zD, upd_same]
    obtain ⟨sm, es, eD, hE⟩ := h
    rw [nv_length, show r.length = (r.map fun m => (p, m)).length from (List.length_map _).symm, List.take_length] at hE
    have s2 : Same H H2 := s1.trans sm
    refine st_set [some (.ref a), some (.ref b), some (.ref l), some (.ref D), none, none] ?_ rfl
    refine ⟨_, rfl, D, rfl, ⟨_, .inl (.inl eD)⟩, fun U nU => ?_⟩
    have lE : es.length ≤ n := by rw [hE.length, List.length_map]; exact hrl
    refine lc_list (xs := es.map V.ref) (fun i H' => Same H2 H' ∧ ∃ us : List Addr, H' U = some (.lst (us.map V.ref)) ∧ Prs H' us (((r.map fun m => (p, m)).take i).filter fun c => !doS (jn F c.1 c.2) (jn G c.1 c.2) n)) ⟨same_new nU, [], upd_same, .nil⟩ (fun i H' _ h => .inl (.inl (h.1 _ _ eD))) (fun i v H' hv h => ?_) (fun H3 h => ?_)
    · obtain ⟨s3, us, eU, hU⟩ := h
      rw [List.getElem?_map] at hv
      obtain ⟨u, hu, rfl⟩ := Option.map_eq_some_iff.mp hv
      obtain ⟨x, hx, exu⟩ := prs_get hE hu
      have hxm := List.mem_of_getElem? hx
      obtain ⟨m, hm, hxe⟩ := List.mem_map.mp hxm
      have pm := hr' m hm
      have ex1 : x.1 = p := by rw [← hxe]
      have ex2 : x.2 = m := by rw [← hxe]
      have hjF : IsPair (2 * n) (jn F x.1 x.2) := jn_pair hF (by omega) (by omega) (by omega)
      have hjG : IsPair (2 * n) (jn G x.1 x.2) := jn_pair hG (by omega) (by omega) (by omega)
      have sH := s2.trans s3
      have lU : us.length ≤ n := by
        rw [hU.length]
        refine Nat.le_trans (List.length_filter_le _ _) (Nat.le_trans (List.length_take_le' _ _) (by rw [List.length_map]; exact hrl))
      refine ⟨rfl, _, rfl, _, rfl, a, u, F, 2 * n, x.1, x.2, rfl, ha.same sH, .inr (.inl (.inl (s3 _ _ exu))), hF, by omega, by omega, fun H4 t4 s4 n4 e4 => ?_⟩
      refine ⟨_, rfl, _, rfl, b, u, G, 2 * n, x.1, x.2, rfl, hb.same (sH.trans s4), .inr (.inl (.inl (s4 _ _ (s3 _ _ exu)))), hG, by omega, by omega, fun H5 t5 s5 n5 e5 => ?_⟩
      refine ⟨t4, t5, _, _, n, rfl, .inr (.inl (.inl (s5 _ _ e4))), .inr (.inl (.inl e5)), hjF, hjG, he, hn, fun H6 s6 => ?_⟩
      have s36 : Same H' H6 := s4.trans (s5.trans s6)
      have eU6 := s36 _ _ eU
      have hU6 := prs_same s36 hU
      have tk : ((r.map fun m => (p, m)).take (i + 1)).filter (fun c => !doS (jn F c.1 c.2) (jn G c.1 c.2) n) = ((r.map fun m => (p, m)).take i).filter (fun c => !doS (jn F c.1 c.2) (jn G c.1 c.2) n) ++ (if (!doS (jn F x.1 x.2) (jn G x.1 x.2) n) = true then [x] else []) := by
        rw [List.take_add_one, hx, List.filter_append]
        exact congrArg _ (flt1 _ x)
      refine ⟨_, rfl, ite2 (fun z => ?_) (fun z => ?_)⟩
      · refine ⟨_, rfl, _, eU6, ?_, fun y o hy => ?_, us ++ [u], ?_, ?_⟩
        · rw [List.length_map]; exact line_big (by omega)
        · rw [upd_ne (ne_of_none hy nU)]; exact s36 _ _ (s3 _ _ hy)
        · rw [upd_same, List.map_append]; rfl
        · rw [tk, if_pos z]
          have uU : u ≠ U := fun w => by rw [← w, exu] at nU; cases nU
          refine prs_append (prs_keep (b := U) keep_upd eU6 hU6) (.cons ?_ .nil)
          rw [upd_ne uU]; exact s36 _ _ (s3 _ _ exu)
      · exact ⟨s3.trans s36, us, eU6, by rw [tk, if_neg z, List.append_nil]; exact hU6⟩
    obtain ⟨s3, us, eU, hU⟩ := h
    rw [List.length_map, hE.length, List.take_length] at hU
    have hU' : Prs H3 us (c :: rest) := by rw [← hpc]; exact hU
    cases hU' with
    | @cons u _ us' _ eu hU' =>
      exact ⟨U, _, 0, .ref u, rfl, rfl, .inl (.inl eU), atI_nat (j := 0) rfl, q H3 u (s2.trans s3) eu⟩
end
end Pc
namespace Pc
open PySem PySem.Spec PyProof.Rows L2 RZ
section
variable {P : Program} {w : World} {K : PySem.W.Frag} {mg : Str → Option Value} {base : Heap}
/-! ### parting -/
theorem fre_nil (n : Nat) : fre n [] = List.range n := by
  unfold fre
  exact List.filter_eq_self.mpr fun x _ => by show (!decide (x ∈ ([] : List Nat))) = true; rw [decide_eq_false List.not_mem_nil]; rfl
theorem fre_len (n : Nat) (cs : List (Nat × Nat)) : (fre n cs).length ≤ n := Nat.le_trans (List.length_filter_le _ _) (by rw [List.length_range]; exact Nat.le_refl _)
theorem in_two (x a b : Nat) : inV (.int (x : Int)) [.int (a : Int), .int (b : Int)] = (decide (x = a) || decide (x = b)) := by
  have := in_nat x [a, b]
  rw [show nv [a, b] = [V.int (a : Int), V.int (b : Int)] from rfl] at this
  rw [this]
  by_cases h1 : x = a <;> by_cases h2 : x = b <;> simp [h1, h2]
def spParting (K : PySem.W.Frag) : Sp := fun vs H Q _ => ∃ (a b : Addr) (f g : List Nat) (n : Nat), vs = [.ref a, .ref b] ∧ Sq K H a (nv f) ∧ Sq K H b (nv g) ∧ IsPair (2 * n) f ∧ IsPair (2 * n) g ∧ n % 2 = 0 ∧ n ≤ 20 ∧
  (doS f g n = true → ∀ H', Same H H' → Q .non H') ∧ (doS f g n = false → ∀ (H' : Hp) (t : Addr), Same H H' → H t = none → H' t = some (.tup (nv (ptg f g n))) → Q (.ref t) H')
theorem ok_p_parting (T : Env K mg) : FnOk P w K mg base CX0 6 T.f_p_parting T.d_p_parting ["one", "other"] (spParting K) := by
  have GD : FnOk P w K mg base CX0 4 T.f_p_do_same T.d_p_do_same ["one", "other"] (spSameD K) := ok_p_do_same T
  have GP : FnOk P w K mg base CX0 1 T.f_p_people_of T.d_p_people_of ["sheet"] (spPeople K) := ok_p_people_of T
  have GC : FnOk P w K mg base CX0 5 T.f_p_parting_couple T.d_p_parting_couple ["one", "other", "free"] (spPCouple K) := ok_p_parting_couple T
  have GB : FnOk P w K mg base CX0 2 T.f_p_behind_call T.d_p_behind_call ["sheet", "call"] (spBehind K) := ok_p_behind_call T
  have GO : FnOk P w K mg base CX0 1 T.f_p_pairing_of T.d_p_pairing_of ["couples"] (spPairingOf K) := ok_p_pairing_of T
  refine T.F_p_parting.ok sc_p_parting (fun vs H Q E h => ?_) (fun cdv A outer s H vs Q E hr h => ?_)
  · obtain ⟨a, b, f, g, n, rfl, _⟩ := h
    rfl
  · obtain ⟨a, b, f, g, n, rfl, ha, hb, hf, hg, he, hn, q1, q2⟩ := h
    have h1 := hr.mono (show 1 ≤ 5 by decide)
    have h2 := hr.mono (show 2 ≤ 5 by decide)
    have h4 := hr.mono (show 4 ≤ 5 by decide)
    refine ⟨_, pss_cons (ps_if (pt_val (pe_call GD h4 (by rfl) T.g_p_do_same T.F_p_do_same.kp T.b_p_do_same .nil pass0 (pa_cons (pv 0) (pa_cons (pv 1) pa_nil)))) (pss_one (ps_ret pe_non)) pss_nil) <|
      pss_cons (ps_set (i := 2) sc_p_parting.nd rfl (.inl rfl) (pv 0)) <|
      pss_cons (ps_set (i := 3) sc_p_parting.nd rfl (.inl rfl) (pv 1)) <|
      pss_cons (ps_set (i := 4) sc_p_parting.nd rfl (.inl rfl) (pe_lst pa_nil)) <|
      pss_cons (ps_set (i := 5) sc_p_parting.nd rfl (.inl rfl) (pe_listRg rfl (by rfl) T.n_list (prg_1 (by rfl) T.n_range (pe_call GP h1 (by rfl) T.g_p_people_of T.F_p_people_of.kp T.b_p_people_of .nil pass0 (pa_cons (pv 0) pa_nil))))) <|
      pss_cons (ps_while PassesOwn.never (pt_truth (pv 5) (by intro _; rfl))
        (pss_cons (ps_set (i := 6) sc_p_parting.nd rfl (.inr rfl) (pe_call GC hr (by rfl) T.g_p_parting_couple T.F_p_parting_couple.kp T.b_p_parting_couple .nil pass0 (pa_cons (pv 2) (pa_cons (pv 3) (pa_cons (pv 5) pa_nil))))) <|
        pss_cons (ps_expr (pe_bm PySem.F.plainAttrs_list PySem.F.slot_list_append PySem.F.type_list_append mt_append (pv 4) (pa_cons (pv 6) pa_nil))) <|
        pss_cons (ps_set (i := 2) sc_p_parting.nd rfl (.inl rfl) (pe_call GB h2 (by rfl) T.g_p_behind_call T.F_p_behind_call.kp T.b_p_behind_call .nil pass0 (pa_cons (pv 2) (pa_cons (pv 6) pa_nil)))) <|
        pss_cons (ps_set (i := 3) sc_p_parting.nd rfl (.inl rfl) (pe_call GB h2 (by rfl) T.g_p_behind_call T.F_p_behind_call.kp T.b_p_behind_call .nil pass0 (pa_cons (pv 3) (pa_cons (pv 6) pa_nil)))) <|
        pss_one (ps_setLc (i := 5) (own := [("person", 7)]) (g := gName 7) (tt := tTest (tOp (rIn K true) (tVar 7) (tVar 6))) (te := tVar 7) rfl sc_p_parting.nd rfl rfl (sw_true rfl rfl rfl (by decide +kernel)) (pi_list (pv 5)) (blkOk_by (N := N_p_parting) (sc := defScope s_p_parting) (by decide +kernel))
          (fun _ _ _ _ _ => pg_name (i := 7) sc_p_parting.nd rfl (.inl rfl)) (fun _ _ _ _ _ => pts_one (pt_cmpR op_notIn_seq (pv 7) (pv 6) (by rfl))) (fun _ _ _ _ _ => pv 7)))) <|
      pss_one (ps_ret (pe_call GO h1 (by rfl) T.g_p_pairing_of T.F_p_pairing_of.kp T.b_p_pairing_of .nil pass0 (pa_cons (pv 4) pa_nil))), ?_⟩
    refine ⟨_, rfl, _, rfl, a, b, f, g, n, rfl, ha, hb, hf, hg, he, hn, fun H1 s1 => ⟨_, rfl, ?_⟩⟩
    refine ite2 (fun c => q1 c H1 s1) (fun c => ?_)
    have c0 : doS f g n = false := by
      cases z : doS f g n with
      | true => exact absurd z c
      | false => rfl
    have q := q2 c0
    have hns : ¬ Sames f g n := fun z => c ((doS_iff hf hg he).mpr z)
    clear q1 q2
    refine ⟨_, rfl, ?_⟩
    refine st_set [some (.ref a), some (.ref b), some (.ref a), none, none, none, none, none] ?_ rfl
    refine ⟨_, rfl, ?_⟩
    refine st_set [some (.ref a), some (.ref b), some (.ref a), some (.ref b), none, none, none, none] ?_ rfl
    refine ⟨by show 0 ≤ sizeLine; decide, fun fo nfo => ?_⟩
    have s2 : Same H1 (upd H1 fo (.lst [])) := same_new nfo
    have efo : (upd H1 fo (.lst [])) fo = some (.lst []) := upd_same
    revert s2 efo
    generalize upd H1 fo (.lst []) = H2
    intro s2 efo
    have nfoH : H fo = none := s1.free nfo
    have s02 := s1.trans s2
    refine st_set [some (.ref a), some (.ref b), some (.ref a), some (.ref b), some (.ref fo), none, none, none] ?_ rfl
    refine ⟨_, rfl, a, f, n, rfl, ha.same s02, hf.len, _, rfl, RgOk.of_le (by decide) (by omega) (by decide) (by omega), fun l nl => ?_⟩
    rw [rg_nv]
    have s3 : Same H2 (upd H2 l (.lst (nv (List.range n)))) := same_new nl
    have el : (upd H2 l (.lst (nv (List.range n)))) l = some (.lst (nv (List.range n))) := upd_same
    revert s3 el
    generalize upd H2 l (.lst (nv (List.range n))) = H3
    intro s3 el
    have efo3 := s3 _ _ efo
    have s03 := s02.trans s3
    have lfo : l ≠ fo := fun z => by rw [z, efo] at nl; cases nl
    refine st_set [some (.ref a), some (.ref b), some (.ref a), some (.ref b), some (.ref fo), some (.ref l), none, none] ?_ rfl
    refine ⟨fun m σ Hx => ∃ (i : Nat) (cs : List (Nat × Nat)) (as : List Addr) (u v fr : Addr) (y6 : Option V), m = n / 2 - i ∧ i ≤ n / 2 ∧ σ = [some (.ref a), some (.ref b), some (.ref u), some (.ref v), some (.ref fo), some (.ref fr), y6, none] ∧ PI f g n i cs ∧ fr ≠ fo ∧
        ((u = a ∧ cs = []) ∨ Hx u = some (.tup (nv (runs cs f)))) ∧ ((v = b ∧ cs = []) ∨ Hx v = some (.tup (nv (runs cs g)))) ∧ Hx fo = some (.lst (as.map V.ref)) ∧ Prs Hx as cs ∧ Hx fr = some (.lst (nv (fre n cs))) ∧ Same H Hx,
      ⟨n / 2, 0, [], [], a, b, l, none, rfl, Nat.zero_le _, rfl, .start hns, lfo, .inl ⟨rfl, rfl⟩, .inl ⟨rfl, rfl⟩, efo3, .nil, by rw [fre_nil]; exact el, s03⟩, fun m σ Hx hW => ?_⟩
    obtain ⟨i, cs, as, u, v, fr, y6, rfl, hin, rfl, hI, frfo, hu, hv, ef, hA, er, sm⟩ := hW
    have squ : ∀ {H' : Hp}, Same Hx H' → Sq K H' u (nv (runs cs f)) := fun s' => by
      rcases hu with ⟨rfl, rfl⟩ | e
      · exact ha.same (sm.trans s')
      · exact .inr (.inl (.inl (s' _ _ e)))
    have sqv : ∀ {H' : Hp}, Same Hx H' → Sq K H' v (nv (runs cs g)) := fun s' => by
      rcases hv with ⟨rfl, rfl⟩ | e
      · exact hb.same (sm.trans s')
      · exact .inr (.inl (.inl (s' _ _ e)))
    have hcl := hI.cl.up
    have hFf := runs_pair cs hf hcl
    have hFg := runs_pair cs hg hcl
    refine ⟨_, rfl, _, .inl ⟨_, .inl (.inl er), rfl⟩, ite2 (fun c => ?_) (fun c => ?_)⟩
    · have hlt : i < n / 2 := by
        apply Classical.byContradiction
        intro d
        have e : i = n / 2 := by omega
        subst e
        rw [(hI.done hf hg he).2.2.2.2] at c
        exact absurd c (by decide)
      obtain ⟨p, r, hfr⟩ := hI.free hlt
      obtain ⟨cc, rest, e1, e2, e3, _⟩ := hI.some hf hg he hfr
      have hI' := hI.step hf hg he hlt
      have ec : ptc (runs cs f) (runs cs g) n (fre n cs) = cc := by unfold ptc; rw [e1]; rfl
      rw [ec] at hI'
      have asc := fre_asc n cs
      rw [hfr] at asc
      have ltr := (List.pairwise_cons.mp asc).1
      have hp := (fre_mem.mp (show p ∈ fre n cs by rw [hfr]; exact List.mem_cons_self)).1
      have hmr : ∀ m ∈ r, p ≠ m ∧ m < n := fun m hm => ⟨by have := ltr m hm; omega, (fre_mem.mp (show m ∈ fre n cs by rw [hfr]; exact List.mem_cons_of_mem _ hm)).1⟩
      have hrl : r.length ≤ n := by
        have := fre_len n cs
        rw [hfr, List.length_cons] at this
        omega
      have hc2 := hmr _ e3
      have hlA : as.length ≤ n := by rw [hA.length, hI.ln]; omega
      refine ⟨fun σ' H2 => ∃ m', m' < n / 2 - i ∧ ∃ (i : Nat) (cs : List (Nat × Nat)) (as : List Addr) (u v fr : Addr) (y6 : Option V), m' = n / 2 - i ∧ i ≤ n / 2 ∧ σ' = [some (.ref a), some (.ref b), some (.ref u), some (.ref v), some (.ref fo), some (.ref fr), y6, none] ∧ PI f g n i cs ∧ fr ≠ fo ∧
        ((u = a ∧ cs = []) ∨ H2 u = some (.tup (nv (runs cs f)))) ∧ ((v = b ∧ cs = []) ∨ H2 v = some (.tup (nv (runs cs g)))) ∧ H2 fo = some (.lst (as.map V.ref)) ∧ Prs H2 as cs ∧ H2 fr = some (.lst (nv (fre n cs))) ∧ Same H H2, fun σ' H2 h2 => h2, ?_⟩
      refine ⟨_, rfl, _, rfl, _, rfl, u, v, fr, runs cs f, runs cs g, n, p, r, cc, rest, rfl, squ (fun _ _ e => e), sqv (fun _ _ e => e), by rw [← hfr]; exact er, hFf, hFg, he, hn, hp, hrl, hmr, by rw [← hfr]; exact e1, fun H4 t4 s4 e4 => ?_⟩
      refine st_set [some (.ref a), some (.ref b), some (.ref u), some (.ref v), some (.ref fo), some (.ref fr), some (.ref t4), none] ?_ rfl
      have ef4 := s4 _ _ ef
      refine ⟨_, rfl, .inl ⟨rfl, _, .inl (.inl ef4)⟩, _, rfl, fo, _, _, rfl, rfl, ef4, line_big (by rw [List.length_map]; omega), ?_⟩
      have t4fo : t4 ≠ fo := fun z => by rw [z, ef4] at e4; cases e4
      have k5 : Keep fo H4 (upd H4 fo (.lst (as.map V.ref ++ [.ref t4]))) := keep_upd
      have e5 : (upd H4 fo (.lst (as.map V.ref ++ [.ref t4]))) fo = some (.lst ((as ++ [t4]).map V.ref)) := by rw [upd_same, List.map_append]; rfl
      have s05 : Same H (upd H4 fo (.lst (as.map V.ref ++ [.ref t4]))) := fun y o hy => by rw [upd_ne (ne_of_none hy nfoH)]; exact s4 _ _ (sm _ _ hy)
      have hA5 : Prs (upd H4 fo (.lst (as.map V.ref ++ [.ref t4]))) (as ++ [t4]) (cs ++ [cc]) := by
        refine prs_append (prs_keep keep_upd ef4 (prs_same s4 hA)) (.cons ?_ .nil)
        rw [upd_ne t4fo]; exact e4
      revert k5 e5 s05 hA5
      generalize upd H4 fo (.lst (as.map V.ref ++ [.ref t4])) = H5
      intro k5 e5 s05 hA5
      have et5 : H5 t4 = some (.tup [.int cc.1, .int cc.2]) := k5 _ _ t4fo e4
      have efr5 : H5 fr = some (.lst (nv (fre n cs))) := k5 _ _ frfo (s4 _ _ er)
      have squ5 : Sq K H5 u (nv (runs cs f)) := by
        rcases hu with ⟨rfl, rfl⟩ | e
        · exact ha.same s05
        · have w := s4 _ _ e
          exact .inr (.inl (.inl (k5.tup ef4 w)))
      have sqv5 : Sq K H5 v (nv (runs cs g)) := by
        rcases hv with ⟨rfl, rfl⟩ | e
        · exact hb.same s05
        · have w := s4 _ _ e
          exact .inr (.inl (.inl (k5.tup ef4 w)))
      refine ⟨_, rfl, _, rfl, u, t4, runs cs f, 2 * n, cc.1, cc.2, rfl, squ5, .inr (.inl (.inl et5)), hFf, by omega, by omega, fun H6 u6 s6 n6 eu6 => ?_⟩
      refine st_set [some (.ref a), some (.ref b), some (.ref u6), some (.ref v), some (.ref fo), some (.ref fr), some (.ref t4), none] ?_ rfl
      refine ⟨_, rfl, _, rfl, v, t4, runs cs g, 2 * n, cc.1, cc.2, rfl, sqv5.same s6, .inr (.inl (.inl (s6 _ _ et5))), hFg, by omega, by omega, fun H7 v7 s7 n7 ev7 => ?_⟩
      refine st_set [some (.ref a), some (.ref b), some (.ref u6), some (.ref v7), some (.ref fo), some (.ref fr), some (.ref t4), none] ?_ rfl
      have s57 := s6.trans s7
      have efr7 := s57 _ _ efr5
      have et7 := s57 _ _ et5
      refine ⟨_, rfl, fr, rfl, ⟨_, .inl (.inl efr7)⟩, fun D nD => ?_⟩
      have nD5 : H5 D = none := s57.free nD
      refine lc_list (xs := nv (fre n cs)) (fun j H' => Same H7 H' ∧ H' D = some (.lst (nv (((fre n cs).take j).filter fun x => !(decide (x = cc.1) || decide (x = cc.2)))))) ⟨same_new nD, upd_same⟩ (fun j H' _ h => .inl (.inl (h.1 _ _ efr7))) (fun j w H' hv h => ?_) (fun H8 h => ?_)
      · obtain ⟨s8, eD⟩ := h
        obtain ⟨x, ex, rfl⟩ := nv_get' hv
        have tk : ((fre n cs).take (j + 1)).filter (fun x => !(decide (x = cc.1) || decide (x = cc.2))) = ((fre n cs).take j).filter (fun x => !(decide (x = cc.1) || decide (x = cc.2))) ++ (if (!(decide (x = cc.1) || decide (x = cc.2))) = true then [x] else []) := by
          rw [List.take_add_one, ex, List.filter_append]
          exact congrArg _ (flt1 _ x)
        refine ⟨rfl, _, rfl, _, rfl, t4, _, rfl, .inr (.inl (.inl (s8 _ _ et7))), rfl, rfl, ?_⟩
        rw [in_two]
        refine ⟨_, rfl, ite2 (fun z => ?_) (fun z => ?_)⟩
        · have z : (!(decide (x = cc.1) || decide (x = cc.2))) = true := z
          refine ⟨_, rfl, _, eD, ?_, fun y o hy => ?_, ?_⟩
          · rw [nv_length]
            exact line_big (Nat.le_trans (List.length_filter_le _ _) (Nat.le_trans (List.length_take_le' _ _) (Nat.le_trans (fre_len n cs) (by omega))))
          · rw [upd_ne (ne_of_none hy nD)]; exact s8 _ _ hy
          · rw [upd_same, tk, if_pos z, ← nv_snoc']
        · have z : ¬ (!(decide (x = cc.1) || decide (x = cc.2))) = true := z
          exact ⟨s8, by rw [tk, if_neg z, List.append_nil]; exact eD⟩
      obtain ⟨s8, eD⟩ := h
      rw [nv_length, List.take_length, ← fre_snoc] at eD
      have s58 := s57.trans s8
      refine st_set [some (.ref a), some (.ref b), some (.ref u6), some (.ref v7), some (.ref fo), some (.ref D), some (.ref t4), none] ?_ rfl
      refine ⟨n / 2 - (i + 1), by omega, i + 1, cs ++ [cc], as ++ [t4], u6, v7, D, _, rfl, by omega, rfl, hI', (fun z => by rw [z, e5] at nD5; cases nD5), .inr ?_, .inr ?_, s58 _ _ e5, prs_same s58 hA5, eD, s05.trans s58⟩
      · rw [runs_app]; exact s8 _ _ (s7 _ _ eu6)
      · rw [runs_app]; exact s8 _ _ ev7
    · have e : i = n / 2 := by
        apply Classical.byContradiction
        intro d
        obtain ⟨p, r, hfr⟩ := hI.free (by omega)
        rw [hfr] at c
        exact absurd rfl c
      subst e
      obtain ⟨d1, d2, d3, d4, d5⟩ := hI.done hf hg he
      exact ⟨_, rfl, fo, _, cs, _, rfl, .inl (.inl (.inl ef)), items_of hA, d2, by rw [d3.len]; omega, fun H9 t9 s9 n9 e9 => q H9 t9 (sm.trans s9) (sm.free n9) e9⟩
end
end Pc
namespace Pc
open PySem PySem.Spec PyProof.Rows L2 RZ
/-! ### the heap without some objects -/
open Classical in
noncomputable def off (S : Addr → Prop) (H : Hp) : Hp := fun a => if S a then none else H a
theorem off_le {S : Addr → Prop} {H : Hp} : Same (off S H) H := fun a o h => by
  unfold off at h
  by_cases e : S a
  · rw [if_pos e] at h; cases h
  · rw [if_neg e] at h; exact h
theorem off_keep {S : Addr → Prop} {b : Addr} {H H' : Hp} (hb : S b) (k : Keep b H H') : Same (off S H) (off S H') := fun a o h => by
  unfold off at h ⊢
  by_cases e : S a
  · rw [if_pos e] at h; cases h
  · rw [if_neg e] at h ⊢; exact k a o (fun z => e (z ▸ hb)) h
theorem off_same {S : Addr → Prop} {H H' : Hp} (s : Same H H') : Same (off S H) (off S H') := fun a o h => by
  unfold off at h ⊢
  by_cases e : S a
  · rw [if_pos e] at h; cases h
  · rw [if_neg e] at h ⊢; exact s a o h
theorem off_get {S : Addr → Prop} {a : Addr} {H : Hp} {o : HO} (h : ¬ S a) (e : H a = some o) : off S H a = some o := by
  unfold off; rw [if_neg h]; exact e
theorem off_more {S S' : Addr → Prop} {H : Hp} (h : ∀ a, S a → S' a) : Same (off S' H) (off S H) := fun a o e => by
  unfold off at e ⊢
  by_cases z : S' a
  · rw [if_pos z] at e; cases e
  · rw [if_neg z] at e; rw [if_neg (fun y => z (h a y))]; exact e
/-- all of S is there -/
def Has (S : Addr → Prop) (H : Hp) : Prop := ∀ a, S a → ∃ o, H a = some o
theorem Has.same {S : Addr → Prop} {H H' : Hp} (h : Has S H) (s : Same H H') : Has S H' := fun a ha => let ⟨o, e⟩ := h a ha; ⟨o, s _ _ e⟩
theorem Has.new {S : Addr → Prop} {H : Hp} {p : Addr} (h : Has S H) (np : H p = none) : ¬ S p := fun z => by
  obtain ⟨o, e⟩ := h p z
  rw [np] at e; cases e
/-! ### data that is written out -/
def tD (K : PySem.W.Frag) (S : Addr → Prop) (d : PyData) : TE := fun _ H Q => Has S H ∧ ∀ v H', Same H H' → Dp K (off S H') v d → Q v H'
def tDs (K : PySem.W.Frag) (S : Addr → Prop) (ds : List PyData) : TA := fun _ H Q => Has S H ∧ ∀ vs H', Same H H' → DpAll K (off S H') vs ds → Q vs H'
section
variable {X : Cx} {S : Addr → Prop}
theorem pd_of {e : Expr} {t : TE} {v : V} {d : PyData} (h : PE X e t) (ht : ∀ σ H (Q : VK), Q v H → t σ H Q) (hd : ∀ H, Dp X.K H v d) : PE X e (tD X.K S d) := ⟨fun pins s σ H Q I q => h.run pins s σ H Q I (ht σ H Q (q.2 _ _ (fun _ _ z => z) (hd _)))⟩
theorem pd_int {i : Int} {j pos} : PE X (.Constant (.int i) j pos) (tD X.K S (.int i)) := pd_of pe_int (fun _ _ _ q => q) fun _ => .int i
theorem pd_bl {i : Bool} {j pos} : PE X (.Constant (.bool i) j pos) (tD X.K S (.bool i)) := pd_of pe_bl (fun _ _ _ q => q) fun _ => .bl i
theorem pd_non {j pos} : PE X (.Constant .none j pos) (tD X.K S .none) := pd_of pe_non (fun _ _ _ q => q) fun _ => .non
theorem pd_str {x : Str} {j pos} : PE X (.Constant (.str x) j pos) (tD X.K S (.str x)) := pd_of pe_str (fun _ _ _ q => q) fun _ => .str x
theorem pd_nil : PA X [] (tDs X.K S []) := ⟨fun pos pins s σ H Q I h => pa_nil.run pos pins s σ H Q I (h.2 _ _ (fun _ _ z => z) .nil)⟩
theorem pd_cons {e : Expr} {es : List Expr} {d : PyData} {ds : List PyData} (ha : PE X e (tD X.K S d)) (hr : PA X es (tDs X.K S ds)) (hs : starEach (e :: es) X.env = (false, eval e X.env) :: starEach es X.env := by rfl) : PA X (e :: es) (tDs X.K S (d :: ds)) :=
  ⟨fun pos pins s σ H Q I h => (pa_cons ha hr hs).run pos pins s σ H Q I ⟨h.1, fun v H1 s1 d1 => ⟨h.1.same s1, fun vs H2 s2 d2 => h.2 (v :: vs) H2 (s1.trans s2) (.cons (dp_same (off_same s2) d1) d2)⟩⟩⟩
theorem pd_tup {es : List Expr} {ds : List PyData} {x1} {pos : Pos} (h : PA X es (tDs X.K S ds)) (hl : ds.length ≤ 100000 := by decide) : PE X (.Tuple es x1 pos) (tD X.K S (.tuple ds)) :=
  ⟨fun pins s σ H Q I hq => (pe_tup h).run pins s σ H Q I ⟨hq.1, fun vs H1 s1 d1 => ⟨by rw [dpa_len d1]; exact Nat.le_of_lt (line_big hl), fun p np => hq.2 _ _ (s1.trans (same_new np)) (.tup (.inl (.inl (off_get ((hq.1.same s1).new np) upd_same))) (dpa_same (off_same (same_new np)) d1))⟩⟩⟩
theorem pd_lst {es : List Expr} {ds : List PyData} {pos : Pos} (h : PA X es (tDs X.K S ds)) (hl : ds.length ≤ 100000 := by decide) : PE X (.List es pos) (tD X.K S (.list ds)) :=
  ⟨fun pins s σ H Q I hq => (pe_lst h).run pins s σ H Q I ⟨hq.1, fun vs H1 s1 d1 => ⟨by rw [dpa_len d1]; exact Nat.le_of_lt (line_big hl), fun p np => hq.2 _ _ (s1.trans (same_new np)) (.lst (.inl (.inl (off_get ((hq.1.same s1).new np) upd_same))) (dpa_same (off_same (same_new np)) d1))⟩⟩⟩
end
/-! ### the kinds -/
def tyN : PyData → String
  | .none => "NoneType"
  | .bool _ => "bool"
  | .int _ => "int"
  | .str _ => "str"
  | .list _ => "list"
  | .tuple _ => "tuple"
  | .dict _ => "dict"
theorem dp_ty {K : PySem.W.Frag} {H : Hp} : ∀ {v : V} {d : PyData}, Dp K H v d → TyX K H v (.type (tyN d))
  | _, _, .non => .base .non
  | _, _, .bl b => .base (.bl b)
  | _, _, .int i => .base (.int i)
  | _, _, .str x => .base (.str x)
  | _, _, .lst h _ => ty_lst h
  | _, _, .tup h _ => ty_tup h
def isI : PyData → Bool
  | .int _ | .bool _ => true
  | _ => false
def isB : PyData → Bool
  | .bool _ => true
  | _ => false
def isT : PyData → Bool
  | .tuple _ => true
  | _ => false
def isL : PyData → Bool
  | .list _ => true
  | _ => false
theorem k_int {K : PySem.W.Frag} {H : Hp} {v : V} {d : PyData} (h : Dp K H v d) : PySem.W.kitOne K (.type (tyN d)) (.type "int") = some (isI d) := by
  cases h
  · exact one_none_int
  · exact one_bool_int
  · exact one_int_int
  · exact one_str_int
  · exact one_list_int
  · exact one_tuple_int
theorem k_bool {K : PySem.W.Frag} {H : Hp} {v : V} {d : PyData} (h : Dp K H v d) : PySem.W.kitOne K (.type (tyN d)) (.type "bool") = some (isB d) := by
  cases h
  · exact one_none_bool
  · exact one_bool_bool
  · exact one_int_bool
  · exact one_str_bool
  · exact one_list_bool
  · exact one_tuple_bool
theorem k_tuple {K : PySem.W.Frag} {H : Hp} {v : V} {d : PyData} (h : Dp K H v d) : PySem.W.kitOne K (.type (tyN d)) (.type "tuple") = some (isT d) := by
  cases h
  · exact one_none_tuple
  · exact one_bool_tuple
  · exact one_int_tuple
  · exact one_str_tuple
  · exact one_list_tuple
  · exact one_tuple_tuple
theorem k_list {K : PySem.W.Frag} {H : Hp} {v : V} {d : PyData} (h : Dp K H v d) : PySem.W.kitOne K (.type (tyN d)) (.type "list") = some (isL d) := by
  cases h
  · exact one_none_list
  · exact one_bool_list
  · exact one_int_list
  · exact one_str_list
  · exact one_list_list
  · exact one_tuple_list
theorem k_lt {K : PySem.W.Frag} {H : Hp} {v : V} {d : PyData} (h : Dp K H v d) : PySem.W.kitAny K (.type (tyN d)) [.type "list", .type "tuple"] = some (isL d || isT d) := by
  cases h
  · exact any_lt_none
  · exact any_lt_bool
  · exact any_lt_int
  · exact any_lt_str
  · exact any_lt_list
  · exact any_lt_tuple
/-! ### joined in pairs -/
def belowB (n : Nat) : PyData → Bool
  | .int i => decide (0 ≤ i) && decide (i < (n : Int))
  | _ => false
def natOf : PyData → Nat
  | .int i => i.toNat
  | _ => 0
def pairB (fs : List Nat) (i : Nat) : Bool := !decide (fs.getD i 0 = i) && decide (fs.getD (fs.getD i 0) 0 = i)
def joinB (ds : List PyData) : Bool := ds.all (belowB ds.length) && (List.range ds.length).all (pairB (ds.map natOf))
theorem below_nats {K : PySem.W.Frag} {H : Hp} {n : Nat} : ∀ {vs : List V} {ds : List PyData}, DpAll K H vs ds → ds.all (belowB n) = true → vs = nv (ds.map natOf) ∧ ∀ x ∈ ds.map natOf, x < n
  | _, _, .nil, _ => ⟨rfl, fun x hx => by simp at hx⟩
  | _, _, .cons (d := d) (ds := ds) h r, e => by
    rw [List.all_cons, Bool.and_eq_true] at e
    obtain ⟨e1, e2⟩ := e
    obtain ⟨g1, g2⟩ := below_nats r e2
    cases h with
    | int i =>
      unfold belowB at e1
      rw [Bool.and_eq_true, decide_eq_true_iff, decide_eq_true_iff] at e1
      refine ⟨?_, fun x hx => ?_⟩
      · rw [g1]
        show V.int i :: nv (ds.map natOf) = V.int ((i.toNat : Nat) : Int) :: nv (ds.map natOf)
        rw [show ((i.toNat : Nat) : Int) = i by omega]
      · rcases List.mem_cons.mp (show x ∈ i.toNat :: ds.map natOf from hx) with z | z
        · omega
        · exact g2 x z
    | non => cases e1
    | bl => cases e1
    | str => cases e1
    | lst => cases e1
    | tup => cases e1
def joinD : PyData → Bool
  | .tuple ds => joinB ds
  | _ => false
def isPairB : PyData → Bool
  | .tuple ds => joinB ds && decide (0 < ds.length)
  | _ => false
theorem all_take_bl {α : Type} (f : α → Bool) {l : List α} {i : Nat} {x : α} (h : l[i]? = some x) : ((l.take (i + 1)).map f).map V.bl = ((l.take i).map f).map V.bl ++ [V.bl (f x)] := by
  rw [List.take_add_one, h, List.map_append, List.map_append]
  rfl
end Pc
namespace Pc
open PySem PySem.Spec PyProof.Rows L2 RZ
/-! ### data of any kind: leaves, weight -/
mutual
def okD (B : Nat) : PyData → Prop
  | .none | .bool _ => True
  | .int i => i.natAbs ≤ B
  | .str x => PyData.strOk x = true
  | .list xs | .tuple xs => okAll B xs
  | .dict _ => False
def okAll (B : Nat) : List PyData → Prop
  | [] => True
  | x :: xs => okD B x ∧ okAll B xs
end
mutual
def wt : PyData → Nat
  | .none | .bool _ => 5
  | .int _ => 130
  | .str x => 10 * x.length + 2
  | .list xs | .tuple xs => 3 + wtAll xs
  | .dict _ => 0
def wtAll : List PyData → Nat
  | [] => 0
  | x :: xs => wt x + 2 + wtAll xs
end
theorem okAll_iff {B : Nat} : ∀ {ds : List PyData}, okAll B ds ↔ ∀ x ∈ ds, okD B x
  | [] => ⟨fun _ x hx => by simp at hx, fun _ => trivial⟩
  | d :: r => by
    show okD B d ∧ okAll B r ↔ _
    rw [okAll_iff (ds := r)]
    constructor
    · rintro ⟨h1, h2⟩ x hx
      rcases List.mem_cons.mp hx with z | z
      · rw [z]; exact h1
      · exact h2 x z
    · exact fun h => ⟨h d List.mem_cons_self, fun x hx => h x (List.mem_cons_of_mem _ hx)⟩
mutual
theorem okD_mono {B C : Nat} (h : B ≤ C) : ∀ {d : PyData}, okD B d → okD C d
  | .none, _ => trivial
  | .bool _, _ => trivial
  | .int i, e => Nat.le_trans (show i.natAbs ≤ B from e) h
  | .str _, e => e
  | .list _, e => okAll_mono h (show okAll B _ from e)
  | .tuple _, e => okAll_mono h (show okAll B _ from e)
  | .dict _, e => e
theorem okAll_mono {B C : Nat} (h : B ≤ C) : ∀ {ds : List PyData}, okAll B ds → okAll C ds
  | [], _ => trivial
  | _ :: _, ⟨a, b⟩ => ⟨okD_mono h a, okAll_mono h b⟩
end
theorem wtAll_app : ∀ a b : List PyData, wtAll (a ++ b) = wtAll a + wtAll b
  | [], b => (Nat.zero_add _).symm
  | x :: r, b => by show wt x + 2 + wtAll (r ++ b) = wt x + 2 + wtAll r + wtAll b; rw [wtAll_app r b]; omega
theorem wtAll_get : ∀ {ds : List PyData} {i : Nat} {x : PyData}, ds[i]? = some x → wt x + 2 ≤ wtAll ds
  | [], _, _, h => by simp at h
  | d :: r, 0, _, h => by cases Option.some.inj h; show _ ≤ wt d + 2 + wtAll r; omega
  | d :: r, i + 1, x, h => Nat.le_trans (wtAll_get (ds := r) (i := i) h) (by show _ ≤ wt d + 2 + wtAll r; omega)
theorem wtAll_set : ∀ {ds : List PyData} {i : Nat} {x : PyData} (y : PyData), ds[i]? = some x → wtAll (ds.set i y) + wt x = wtAll ds + wt y
  | [], _, _, _, h => by simp at h
  | d :: r, 0, _, y, h => by cases Option.some.inj h; show wt y + 2 + wtAll r + wt d = wt d + 2 + wtAll r + wt y; omega
  | d :: r, i + 1, x, y, h => by
    have := wtAll_set (ds := r) (i := i) y h
    show wt d + 2 + wtAll (r.set i y) + wt x = wt d + 2 + wtAll r + wt y
    omega
theorem wtAll_len : ∀ ds : List PyData, 2 * ds.length ≤ wtAll ds
  | [] => Nat.le_refl _
  | d :: r => by have := wtAll_len r; show 2 * (r.length + 1) ≤ wt d + 2 + wtAll r; omega
theorem wtAll_nd : ∀ l : List Nat, wtAll (nd l) = 132 * l.length
  | [] => rfl
  | x :: r => by show 130 + 2 + wtAll (nd r) = 132 * (r.length + 1); rw [wtAll_nd r]; omega
theorem strOk_signs {x : Str} (h : PyData.strOk x = true) : ∀ c ∈ x.cps.toList, c < 16 ^ 8 := fun c hc => by
  unfold PyData.strOk at h
  rw [← Array.all_toList] at h
  have h2 := of_decide_eq_true (List.all_eq_true.mp h c hc)
  exact Nat.lt_of_lt_of_le h2 (by decide)
theorem strOk_of (t : String) : PyData.strOk (Str.ofString t) = true := by
  unfold PyData.strOk
  rw [← Array.all_toList]
  refine List.all_eq_true.mpr fun c hc => decide_eq_true ?_
  rw [Str.ofString_eq_toList] at hc
  have hc' : c ∈ t.toList.map Char.toNat := by simpa using hc
  obtain ⟨z, _, rfl⟩ := List.mem_map.mp hc'
  have := z.valid
  rcases this with h | h
  · exact Nat.lt_of_lt_of_le h (by decide)
  · exact h.2
mutual
theorem shown_wt {B : Nat} (hB : B < 2 ^ 126) : ∀ {d : PyData}, okD B d → d.shown.length ≤ wt d
  | .none, _ => by decide
  | .bool b, _ => by cases b <;> decide
  | .int i, e => by
    have e' : i.natAbs ≤ B := e
    show (Str.ofString (toString i)).length ≤ 130
    rw [str_len]
    exact Nat.le_trans (int_text_length_le (k := 126) (by decide) (log_lt (by omega) (by decide))) (by decide)
  | .str x, e => by
    show (reprText x).length ≤ 10 * x.length + 2
    exact StrLaws.reprText_len x (strOk_signs e)
  | .list xs, e => by
    have h := shownAll_wt hB (show okAll B xs from e)
    have h3 := listText_len_le (PyData.shownAll xs)
    show (listText (PyData.shownAll xs)).length ≤ 3 + wtAll xs
    omega
  | .tuple xs, e => by
    have h := shownAll_wt hB (show okAll B xs from e)
    have h3 := tupleText_len_le (PyData.shownAll xs)
    show (tupleText (PyData.shownAll xs)).length ≤ 3 + wtAll xs
    omega
  | .dict _, e => e.elim
theorem shownAll_wt {B : Nat} (hB : B < 2 ^ 126) : ∀ {ds : List PyData}, okAll B ds → ((PyData.shownAll ds).map (·.length)).sum + 2 * (PyData.shownAll ds).length ≤ wtAll ds
  | [], _ => Nat.le_refl _
  | d :: r, ⟨e1, e2⟩ => by
    have h1 := shown_wt hB e1
    have h2 := shownAll_wt hB e2
    show ((d.shown :: PyData.shownAll r).map (·.length)).sum + 2 * ((PyData.shownAll r).length + 1) ≤ wt d + 2 + wtAll r
    rw [List.map_cons, List.sum_cons]
    omega
end
mutual
theorem okD_lay {B : Nat} : ∀ {d : PyData}, okD B d → d.canLay0 = true
  | .none, _ => rfl
  | .bool _, _ => rfl
  | .int _, _ => rfl
  | .str _, e => e
  | .list _, e => okAll_lay (show okAll B _ from e)
  | .tuple _, e => okAll_lay (show okAll B _ from e)
  | .dict _, e => e.elim
theorem okAll_lay {B : Nat} : ∀ {ds : List PyData}, okAll B ds → PyData.canLayAll0 ds = true
  | [], _ => rfl
  | d :: r, ⟨a, b⟩ => by show (d.canLay0 && PyData.canLayAll0 r) = true; rw [okD_lay a, okAll_lay b]; rfl
end
mutual
theorem okD_show {B : Nat} (hB : B < 2 ^ 126) : ∀ {d : PyData}, okD B d → d.showable = true
  | .none, _ => rfl
  | .bool _, _ => rfl
  | .int i, e => decide_eq_true (Nat.lt_of_lt_of_le (log_lt (k := 126) (Nat.lt_of_le_of_lt (show i.natAbs ≤ B from e) hB) (by decide)) (by decide))
  | .str _, _ => rfl
  | .list _, e => okAll_show hB (show okAll B _ from e)
  | .tuple _, e => okAll_show hB (show okAll B _ from e)
  | .dict _, e => e.elim
theorem okAll_show {B : Nat} (hB : B < 2 ^ 126) : ∀ {ds : List PyData}, okAll B ds → PyData.showableAll ds = true
  | [], _ => rfl
  | d :: r, ⟨a, b⟩ => by show (d.showable && PyData.showableAll r) = true; rw [okD_show hB a, okAll_show hB b]; rfl
end
mutual
theorem nar_wt : ∀ {d : PyData}, wt d ≤ 100000 → narrow d
  | .none, _ => trivial
  | .bool _, _ => trivial
  | .int _, _ => trivial
  | .str _, _ => trivial
  | .list xs, h => by
    have h' : 3 + wtAll xs ≤ 100000 := h
    have := wtAll_len xs
    exact ⟨by omega, narAll_wt (by omega)⟩
  | .tuple xs, h => by
    have h' : 3 + wtAll xs ≤ 100000 := h
    have := wtAll_len xs
    exact ⟨by omega, narAll_wt (by omega)⟩
  | .dict _, _ => trivial
theorem narAll_wt : ∀ {ds : List PyData}, wtAll ds ≤ 100000 → narrowAll ds
  | [], _ => trivial
  | d :: r, h => by
    have h' : wt d + 2 + wtAll r ≤ 100000 := h
    exact ⟨nar_wt (by omega), narAll_wt (by omega)⟩
end
theorem okD_fine {B m k : Nat} {d : PyData} (hB : B < 2 ^ 126) (h : okD B d) (hw : wt d ≤ m) (hm : m ≤ 100000) (hd : d.depth ≤ k) : Fine k m d :=
  ⟨okD_lay h, okD_show hB h, hd, nar_wt (by omega), Nat.le_trans (shown_wt hB h) hw⟩
/-! ### parts of lists of data -/
section
variable {K : PySem.W.Frag} {H : Hp}
theorem dpa_take : ∀ {vs : List V} {ds : List PyData} (i : Nat), DpAll K H vs ds → DpAll K H (vs.take i) (ds.take i)
  | _, _, 0, _ => .nil
  | _, _, _ + 1, .nil => .nil
  | _, _, i + 1, .cons h r => .cons h (dpa_take i r)
theorem dpa_drop : ∀ {vs : List V} {ds : List PyData} (i : Nat), DpAll K H vs ds → DpAll K H (vs.drop i) (ds.drop i)
  | _, _, 0, h => h
  | _, _, _ + 1, .nil => .nil
  | _, _, i + 1, .cons _ r => dpa_drop i r
theorem dpa_app : ∀ {vs us : List V} {ds es : List PyData}, DpAll K H vs ds → DpAll K H us es → DpAll K H (vs ++ us) (ds ++ es)
  | _, _, _, _, .nil, s => s
  | _, _, _, _, .cons h r, s => .cons h (dpa_app r s)
theorem dpa_set : ∀ {vs : List V} {ds : List PyData} (i : Nat) {v : V} {d : PyData}, DpAll K H vs ds → Dp K H v d → DpAll K H (vs.set i v) (ds.set i d)
  | _, _, _, _, _, .nil, _ => .nil
  | _, _, 0, _, _, .cons _ r, h => .cons h r
  | _, _, i + 1, _, _, .cons g r, h => .cons g (dpa_set i r h)
end
theorem cut_to (vs : List V) (i : Nat) : cutV vs none (some (i : Int)) = vs.take i := by
  unfold cutV
  rw [HT.sIx_none, HT.sIx_nat, List.drop_zero, Nat.sub_zero]
  by_cases h : i ≤ vs.length
  · rw [Nat.min_eq_left h]
  · rw [Nat.min_eq_right (by omega), List.take_of_length_le (Nat.le_refl _), List.take_of_length_le (by omega)]
theorem cut_from (vs : List V) (i : Nat) : cutV vs (some (i : Int)) none = vs.drop i := by
  unfold cutV
  rw [HT.sIx_none, HT.sIx_nat]
  by_cases h : i ≤ vs.length
  · rw [Nat.min_eq_left h, List.take_of_length_le (by rw [List.length_drop]; omega)]
  · rw [Nat.min_eq_right (by omega), List.drop_of_length_le (Nat.le_refl _), List.drop_of_length_le (by omega), List.take_nil]
end Pc
namespace Pc
open PySem PySem.Spec PyProof.Rows L2 RZ
/-! ### tuple(range(i, j, c)) -/
def rgC (i c : Int) (n : Nat) : List V := (List.range n).map fun k => V.int (i + (k : Nat) * c)
def rgCD (i c : Int) (n : Nat) : List PyData := (List.range n).map fun k => PyData.int (i + (k : Nat) * c)
theorem dpa_map {K : PySem.W.Frag} {H : Hp} (g : Nat → Int) : ∀ l : List Nat, DpAll K H (l.map fun k => V.int (g k)) (l.map fun k => PyData.int (g k))
  | [] => .nil
  | _ :: r => .cons (.int _) (dpa_map g r)
theorem dpa_rgC {K : PySem.W.Frag} {H : Hp} (i c : Int) (n : Nat) : DpAll K H (rgC i c n) (rgCD i c n) := dpa_map (fun k => i + (k : Nat) * c) _
theorem wt_ints (g : Nat → Int) : ∀ l : List Nat, wtAll (l.map fun k => PyData.int (g k)) = 132 * l.length
  | [] => rfl
  | x :: r => by show 130 + 2 + wtAll (r.map fun k => PyData.int (g k)) = 132 * (r.length + 1); rw [wt_ints g r]; omega
theorem wt_rgCD (i c : Int) (n : Nat) : wtAll (rgCD i c n) = 132 * n := by unfold rgCD; rw [wt_ints, List.length_range]
theorem depth_rgCD (i c : Int) (n : Nat) : PyData.depthAll (rgCD i c n) ≤ 0 := all_depth fun d hd => by
  obtain ⟨k, _, rfl⟩ := List.mem_map.mp hd
  exact Nat.le_refl _
def tTupRgC (ta : TA) : TE := fun σ H Q => ta σ H fun vs H1 => ∃ (i j c : Int) (n : Nat), vs = [.int i, .int j, .int c] ∧ RgC i j c n ∧ n ≤ 2 ^ 20 ∧ ∀ q, H1 q = none → Q (.ref q) (upd H1 q (.tup (rgC i c n)))
theorem vals_rgC {i c : Int} {n : Nat} {acc : Array Value} (h : ItemsOf (fun k v => ∃ t, v = .int (i + k * c) t) acc n) : Vals (rgC i c n) acc.toList := by
  have e : acc.toList.length = n := by rw [Array.length_toList]; exact h.1
  unfold rgC
  rw [← e]
  refine vals_of_get acc.toList _ fun j u hj => ?_
  obtain ⟨t, rfl⟩ := h.2 j u (by rw [← hj, Array.getElem?_toList])
  exact ⟨t, rfl⟩
theorem pe_tupRgC {X : Cx} {a b c : Expr} {ta : TA} {p pos p2 pos2 : Pos} (hc : X.calm = true) (hg : Gl X "tuple") (hm : X.mg "tuple" = none) (hg2 : Gl X "range") (hm2 : X.mg "range" = none) (ha : PA X [a, b, c] ta)
    (na : starEach [.Call (.Name "range" p2) [a, b, c] [] pos2] X.env = (false, eval (.Call (.Name "range" p2) [a, b, c] [] pos2) X.env) :: starEach [] X.env := by rfl)
    (hs : starEach [a, b, c] X.env = (false, eval a X.env) :: starEach [b, c] X.env := by rfl) (hpl : (backTo pos2 (starEach [b, c] X.env)).any (·.1) = false := by rfl) :
    PE X (.Call (.Name "tuple" p) [.Call (.Name "range" p2) [a, b, c] [] pos2] [] pos) (tTupRgC ta) := by
  refine ⟨fun pins s σ H Q I h => ?_⟩
  refine Call_ (ld_blt I hg hm boot_tuple (PyProof.Rows.callWith_type1 (args_cons ?_ na) na))
  refine Call_ (ld_blt I hg2 hm2 boot_range (PyProof.Rows.callWith_type1 (thn (ha.run pos2 pins s σ H _ I h) fun us s1 ⟨vs, H1, I1, r1, q1⟩ => ?_) hs hpl))
  obtain ⟨i, j, k, n, e, ⟨c0, c1, c2, c3⟩, hn, q⟩ := q1
  subst e
  cases r1 with
  | cons r rr =>
    cases rr with
    | cons r' rr =>
      cases rr with
      | cons r'' rr =>
        cases rr
        obtain ⟨t, rfl⟩ := r
        obtain ⟨t', rfl⟩ := r'
        obtain ⟨t'', rfl⟩ := r''
        refine call_range_3 c0 ?_ (.inl (PyProof.noPylong_small c1))
        refine args_nil ?_
        have I2 : Inv X pins σ H1 { s1 with heap := s1.heap.push { cls := .type "range", data := .fields #[.int i t, .int j t', .int k t''] } } := I1.kept (t' := s1.toks) fun b o e => Heap.get?_push_of_some _ e
        refine call_tuple_range (n := n) (I2.ok.hd hc) (IsRange.new ..) c2 c3 (Nat.le_trans hn (by decide)) fun h' tk acc hk hi => ?_
        have I3 := I2.kept (t' := tk) hk
        refine ⟨.ref h'.objs.size, upd H1 h'.objs.size (.tup (rgC i k n)), I3.laid (t' := tk) (fun c o e => Heap.get?_push_of_some _ e) (Nat.le_refl _) (show ObjOk X.prog X.w _ _ _ (.tup (rgC i k n)) from ⟨?_, acc.toList, vals_rgC hi, ?_⟩), rfl, q _ (I3.hok.fresh (Nat.le_refl _))⟩
        · unfold rgC; rw [List.length_map, List.length_range, sizeLine_eq]; omega
        · rw [Array.toArray_toList]; exact IsTup.new _ _
/-! ### repr of any data -/
theorem call_reprV {X : Cx} (hgd : X.A.guards = some []) (hu : X.A.units + 64 < cLine) : CallR X (.builtin "repr") (fun xs H Q => ∃ (v : V) (d : PyData), xs = [v] ∧ Dp X.K H v d ∧ d.canLay0 = true ∧ d.showable = true ∧ d.depth ≤ 60 ∧ d.shown.length ≤ sizeLine ∧ Q (.str d.shown) H) := by
  intro pins s σ H xs us Q I r h
  obtain ⟨v, d, rfl, hd, hl, hs, hdp, hz, q⟩ := h
  obtain ⟨u, rfl, ru⟩ := vals1 r
  cases hd with
  | non => cases ru; exact PySem.P.repr_of_none ⟨.str _, H, I.tok _, ⟨_, rfl⟩, q⟩
  | bl b => cases ru; exact PySem.P.repr_of_bool ⟨.str _, H, I.tok _, ⟨_, rfl⟩, q⟩
  | int i =>
    obtain ⟨t, rfl⟩ := ru
    exact PySem.P.repr_of_int (of_decide_eq_true hs) ⟨.str _, H, I.tok _, ⟨_, rfl⟩, q⟩
  | str x =>
    obtain ⟨t, rfl⟩ := ru
    exact PySem.P.repr_of_str ⟨.str _, H, I.tok _, ⟨_, rfl⟩, q⟩ hz
  | lst hS hA =>
    exact call_reprD hgd hu pins s σ H _ _ Q I r ⟨_, _, rfl, .lst hS hA, hl, hs, hdp, hz, q⟩
  | tup hS hA =>
    exact call_reprD hgd hu pins s σ H _ _ Q I r ⟨_, _, rfl, .tup hS hA, hl, hs, hdp, hz, q⟩
end Pc
namespace Pc
open PySem PySem.Spec PyProof.Rows L2 RZ
section
variable {P : Program} {w : World} {K : PySem.W.Frag} {mg : Str → Option Value} {base : Heap}
/-! ### is it joined in pairs? whatever it is -/
def spBelowD (K : PySem.W.Frag) : Sp := fun vs H Q _ => ∃ (v : V) (d : PyData) (n : Nat), vs = [v, .int n] ∧ Dp K H v d ∧ Q (.bl (belowB n d)) H
theorem ok_p_belowD (T : Env K mg) : FnOk P w K mg base CX0 1 T.f_p_is_integer_below T.d_p_is_integer_below ["value", "limit"] (spBelowD K) := by
  refine T.F_p_is_integer_below.ok sc_p_is_integer_below (fun vs H Q E h => ?_) (fun cdv A outer s H vs Q E hr h => ?_)
  · obtain ⟨v, d, n, rfl, _⟩ := h
    rfl
  · obtain ⟨v, d, n, rfl, hd, q⟩ := h
    refine ⟨_, pss_cons (ps_if (PW.pt (pw_or (pt_not (pt_val (pe_callB call_isi (by rfl) T.n_isinstance (by decide +kernel) (pa_cons (pv 0) (pa_cons (pe_bltn (v := .ty "int") (by rfl) T.n_int (by decide +kernel) rfl) pa_nil)))))
        (pw_or1 (pt_val (pe_callB call_isi (by rfl) T.n_isinstance (by decide +kernel) (pa_cons (pv 0) (pa_cons (pe_bltn (v := .ty "bool") (by rfl) T.n_bool (by decide +kernel) rfl) pa_nil)))))))
        (pss_one (ps_ret pe_bl)) pss_nil) <|
      pss_one (ps_ret (pe_chain op_le op_lt pe_int (pv 0) (pv 1))), ?_⟩
    refine ⟨_, rfl, _, _, _, _, _, rfl, .ty _, dp_ty hd, k_int hd, _, rfl, ite2 (fun c => ?_) (fun c => ?_)⟩
    · have e : belowB n d = false := by cases hd <;> first | rfl | exact absurd (show false = true from c) Bool.false_ne_true
      rw [e] at q
      exact q
    · refine ⟨_, rfl, _, _, _, _, _, rfl, .ty _, dp_ty hd, k_bool hd, _, rfl, ite2 (fun c' => ?_) (fun c' => ?_)⟩
      · have e : belowB n d = false := by cases hd <;> first | rfl | exact absurd (show false = true from c') Bool.false_ne_true
        rw [e] at q
        exact q
      · cases hd with
        | int i =>
          refine ⟨_, rfl, _, _, rfl, rfl, _, rfl, ite2 (fun g => ⟨_, rfl, _, _, rfl, rfl, ?_⟩) (fun g => ?_)⟩
          · have e : belowB n (.int i) = decide (i < (n : Int)) := by show (decide (0 ≤ i) && decide (i < (n : Int))) = _; rw [show decide (0 ≤ i) = true from g]; rfl
            rw [e] at q; exact q
          · have e : belowB n (.int i) = false := by show (decide (0 ≤ i) && decide (i < (n : Int))) = _; rw [show decide (0 ≤ i) = false from Bool.eq_false_iff.mpr g]; rfl
            rw [e] at q; exact q
        | non => exact absurd rfl c
        | bl => exact absurd rfl c'
        | str => exact absurd rfl c
        | lst => exact absurd rfl c
        | tup => exact absurd rfl c
def spJoinsD (K : PySem.W.Frag) : Sp := fun vs H Q _ => ∃ (v : V) (d : PyData), vs = [v] ∧ Dp K H v d ∧ narrow d ∧ ∀ H', Same H H' → Q (.bl (joinD d)) H'
theorem nd_sel {xs : List V} {fs : List Nat} (h : xs = nv fs) {i : Nat} {z : Nat} (e : fs[i]? = some z) : atI xs (i : Int) = some (.int z) := by rw [h]; exact nv_at e
theorem ok_p_joinsD (T : Env K mg) : FnOk P w K mg base CX0 2 T.f_p_joins_in_pairs T.d_p_joins_in_pairs ["value"] (spJoinsD K) := by
  have G0 : FnOk P w K mg base CX0 1 T.f_p_is_integer_below T.d_p_is_integer_below ["value", "limit"] (spBelowD K) := ok_p_belowD T
  refine T.F_p_joins_in_pairs.ok sc_p_joins_in_pairs (fun vs H Q E h => ?_) (fun cdv A outer s H vs Q E hr h => ?_)
  · obtain ⟨v, d, rfl, _⟩ := h
    rfl
  · obtain ⟨v, d, rfl, hd, hw, q⟩ := h
    refine ⟨_, pss_cons (ps_if (pt_not (pt_val (pe_callB call_isi (by rfl) T.n_isinstance (by decide +kernel) (pa_cons (pv 0) (pa_cons (pe_bltn (v := .ty "tuple") (by rfl) T.n_tuple (by decide +kernel) rfl) pa_nil))))) (pss_one (ps_ret pe_bl)) pss_nil) <|
      pss_cons (ps_if (pt_not (pt_val (pe_callB (cr_all rfl) (by rfl) T.n_all (by decide +kernel) (pa_cons
        (pe_lc (own := [("item", 3)]) (g := gName 3) (tt := tYes) (te := tCall (spBelowD K) [] E0 (tCons (tVar 3) (tCons (tCB (fun xs H Q => ∃ p ys, xs = [V.ref p] ∧ (SqL K H p ys ∨ SqT K H p ys) ∧ Q (.int ys.length) H) (tCons (tVar 0) tNil)) tNil))) rfl sc_p_joins_in_pairs.nd (pi_seq (pv 0)) (blkOk_by (N := N_p_joins_in_pairs) (sc := defScope s_p_joins_in_pairs) (by decide +kernel))
          (fun _ _ _ _ _ => pg_name (i := 3) sc_p_joins_in_pairs.nd rfl (.inl rfl)) (fun _ _ _ _ _ => pts_nil)
          (fun _ _ _ _ _ => pe_call G0 hr (by rfl) T.g_p_is_integer_below T.F_p_is_integer_below.kp T.b_p_is_integer_below .nil pass0 (pa_cons (pv 3) (pa_cons (pe_callB call_len_seq (by rfl) T.n_len PySem.boot_len (pa_cons (pv 0) pa_nil)) pa_nil)))) pa_nil)))) (pss_one (ps_ret pe_bl)) pss_nil) <|
      pss_one (ps_ret (pe_callB (cr_all rfl) (by rfl) T.n_all (by decide +kernel) (pa_cons
        (pe_lc (own := [("at", 1), ("other", 2)]) (g := gTup K 2 (gCons (gName 1) (gCons (gName 2) gNil))) (tt := tYes) (te := tAndV (tOp rNe (tVar 2) (tVar 1)) (tOp rEq (tOp (rIxT K) (tVar 0) (tVar 2)) (tVar 1))) (by rfl) sc_p_joins_in_pairs.nd (pi_enumA (by rfl) T.n_enumerate (pa_cons (pv 0) pa_nil))
          (blkOk_by (N := N_p_joins_in_pairs) (sc := defScope s_p_joins_in_pairs) (by decide +kernel))
          (fun _ _ _ _ _ => pg_tup (by rfl) (pgs_cons (pg_name (i := 1) sc_p_joins_in_pairs.nd rfl (.inl rfl)) (pgs_cons (pg_name (i := 2) sc_p_joins_in_pairs.nd rfl (.inl rfl)) pgs_nil))) (fun _ _ _ _ _ => pts_nil)
          (fun _ _ _ _ _ => pe_and (pe_cmpR op_ne (pv 2) (pv 1) (nomark _)) (pe_one (pe_cmpR op_eq (pe_ix ix_tup (pv 0) (pv 2) (fun _ _ => rfl)) (pv 1) (nomark _))))) pa_nil))), ?_⟩
    refine ⟨_, rfl, _, _, _, _, _, rfl, .ty _, dp_ty hd, k_tuple hd, _, rfl, ite2 (fun c => ?_) (fun c => ?_)⟩
    · have e : joinD d = false := by cases hd <;> first | rfl | exact absurd (show false = true from c) Bool.false_ne_true
      rw [e] at q
      exact q H fun _ _ h => h
    · cases hd with
      | non => exact absurd rfl c
      | bl => exact absurd rfl c
      | int => exact absurd rfl c
      | str => exact absurd rfl c
      | lst => exact absurd rfl c
      | tup hS hA =>
      rename_i a xs ds
      have hlx := dpa_len hA
      have hw1 : ds.length ≤ 100000 := hw.1
      refine ⟨.ref a, rfl, a, rfl, lc_seq' (.inr hS) (fun _ _ h => h) fun D nD => ⟨fun i H' => Same H H' ∧ H' D = some (.lst (((ds.take i).map (belowB ds.length)).map V.bl)), ⟨same_new nD, upd_same⟩, fun i H' h => h.1, fun i x H' hx h => ?_, fun H' h => ?_⟩⟩
      · obtain ⟨sm, eD⟩ := h
        obtain ⟨d1, ed, hd1⟩ := dpa_get hA hx
        have hi := get_lt ed
        refine ⟨rfl, yes_if ⟨_, rfl, .ref a, rfl, a, _, rfl, .inr (same_tup sm hS), x, d1, xs.length, rfl, dp_same sm hd1, _, eD, ?_, fun c o hc => ?_, ?_⟩⟩
        · rw [List.length_map, List.length_map, List.length_take]; exact line_big (by omega)
        · rw [upd_ne (ne_of_none hc nD)]; exact sm _ _ hc
        · rw [upd_same, all_take_bl (belowB ds.length) ed, hlx]
      · obtain ⟨sm, eD⟩ := h
        rw [hlx, List.take_length] at eD
        refine ⟨D, ds.map (belowB ds.length), rfl, .inl (.inl eD), _, rfl, ?_⟩
        rw [List.all_map]
        refine ite2 (fun g => ?_) (fun g => ?_)
        · have e : joinB ds = false := by
            unfold joinB
            have g' : (!(ds.all (belowB ds.length))) = true := g
            have g2 : ds.all (belowB ds.length) = false := by
              cases hh : ds.all (belowB ds.length) with
              | true => rw [hh] at g'; exact absurd g' (by decide)
              | false => rfl
            rw [g2, Bool.false_and]
          have q' : Q (.bl (joinB ds)) H' := q H' sm
          rw [e] at q'
          exact q'
        · have g' : ds.all (belowB ds.length) = true := by
            have : ¬ (!(ds.all (belowB ds.length))) = true := g
            cases hh : ds.all (belowB ds.length) with
            | true => rfl
            | false => rw [hh] at this; exact absurd rfl this
          obtain ⟨exs, hfs⟩ := below_nats hA g'
          have hfl : (ds.map natOf).length = ds.length := List.length_map _
          have ej : joinB ds = (List.range ds.length).all (pairB (ds.map natOf)) := by unfold joinB; rw [g', Bool.true_and]
          generalize hfs' : ds.map natOf = fs at exs hfs hfl ej
          refine ⟨.ref a, rfl, a, _, rfl, .inr ⟨same_tup sm hS, fun D2 nD2 => ?_⟩⟩
          refine lc_it walk_enumT (fun i H2 => Same H' H2 ∧ H2 D2 = some (.lst ((((List.range ds.length).take i).map (pairB fs)).map V.bl))) ⟨same_new nD2, upd_same⟩ (fun i H2 _ h => same_tup (sm.trans h.1) hS) (fun i x H2 H3 hi h y => ?_) (fun H2 h => ?_)
          · obtain ⟨s2, eD2⟩ := h
            obtain ⟨tp, v1, v2, rfl, nt, rfl, g1, g2⟩ := y
            have ev1 : v1 = .int (i : Nat) := (Option.some.inj g1).symm
            rw [exs] at g2
            obtain ⟨z, ez, ev2⟩ := nv_get' g2
            subst ev1 ev2
            have hi' : i < ds.length := by rw [← hlx]; exact hi
            have hz : z < ds.length := hfs z (List.mem_of_getElem? ez)
            obtain ⟨y, ey⟩ := get_some (l := fs) (i := z) (by omega)
            have er : (List.range ds.length)[i]? = some i := List.getElem?_range hi'
            have s3 : Same H2 _ := same_new (o := .tup [.int (i : Nat), .int z]) nt
            have sm3 := (sm.trans s2).trans s3
            have lenb : ((((List.range ds.length).take i).map (pairB fs)).map V.bl).length < sizeLine := by
              rw [List.length_map, List.length_map, List.length_take, List.length_range]; exact line_big (by omega)
            refine ⟨tp, _, rfl, .inl (.inl upd_same), rfl, _, _, rfl, _, _, rfl, rfl, rfl, yes_if ⟨_, rfl, _, rfl, rfl, _, rfl, ite2 (fun g3 => ?_) (fun g3 => ?_)⟩⟩
            · have n3 : z ≠ i := fun e => by
                have g4 : (!decide (V.int (z : Int) = V.int (i : Nat))) = true := g3
                rw [e, decide_eq_true rfl] at g4; exact absurd g4 (by decide)
              refine ⟨.ref a, rfl, _, rfl, a, _, _, _, rfl, rfl, same_tup sm3 hS, nd_sel exs ey, _, rfl, rfl, _, s3 _ _ eD2, lenb, fun c o hc => ?_, ?_⟩
              · rw [upd_ne (ne_of_none hc nD2)]; exact s3 _ _ (s2 _ _ hc)
              · rw [upd_same, all_take_bl (pairB fs) er]
                have e5 : pairB fs i = decide (V.int (y : Int) = V.int (i : Nat)) := by
                  unfold pairB
                  rw [getD_of ez, getD_of ey, decide_eq_false n3, Bool.not_false, Bool.true_and]
                  by_cases w : y = i
                  · rw [w, decide_eq_true rfl, decide_eq_true rfl]
                  · rw [decide_eq_false w, decide_eq_false (fun e => w (by have := V.int.inj e; omega))]
                rw [e5]
            · have n3 : z = i := by
                by_cases e : z = i
                · exact e
                · exact absurd (by rw [decide_eq_false (fun e' => e (by have := V.int.inj e'; omega))]; rfl) g3
              refine ⟨_, s3 _ _ eD2, lenb, fun c o hc => ?_, ?_⟩
              · rw [upd_ne (ne_of_none hc nD2)]; exact s3 _ _ (s2 _ _ hc)
              · rw [upd_same, all_take_bl (pairB fs) er]
                have e5 : pairB fs i = false := by unfold pairB; rw [getD_of ez, decide_eq_true n3]; rfl
                rw [e5]
          · obtain ⟨s2, eD2⟩ := h
            rw [show xs.length = (List.range ds.length).length by rw [List.length_range, hlx], List.take_length] at eD2
            refine ⟨D2, (List.range ds.length).map (pairB fs), rfl, .inl (.inl eD2), ?_⟩
            rw [List.all_map]
            have q' : Q (.bl (joinB ds)) H2 := q H2 (sm.trans s2)
            rw [ej] at q'
            exact q'
end
end Pc
namespace Pc
open PySem PySem.Spec PyProof.Rows L2 RZ
section
variable {P : Program} {w : World} {K : PySem.W.Frag} {mg : Str → Option Value} {base : Heap}
def spIsPairing (K : PySem.W.Frag) : Sp := fun vs H Q _ => ∃ (v : V) (d : PyData), vs = [v] ∧ Dp K H v d ∧ narrow d ∧ ∀ H', Same H H' → Q (.bl (isPairB d)) H'
theorem ok_p_is_pairing (T : Env K mg) : FnOk P w K mg base CX0 3 T.f_p_is_pairing T.d_p_is_pairing ["value"] (spIsPairing K) := by
  have G0 : FnOk P w K mg base CX0 2 T.f_p_joins_in_pairs T.d_p_joins_in_pairs ["value"] (spJoinsD K) := ok_p_joinsD T
  refine T.F_p_is_pairing.ok sc_p_is_pairing (fun vs H Q E h => ?_) (fun cdv A outer s H vs Q E hr h => ?_)
  · obtain ⟨v, d, rfl, _⟩ := h
    rfl
  · obtain ⟨v, d, rfl, hd, hw, q⟩ := h
    refine ⟨_, pss_one (ps_ret (pe_and (pe_call G0 hr (by rfl) T.g_p_joins_in_pairs T.F_p_joins_in_pairs.kp T.b_p_joins_in_pairs .nil pass0 (pa_cons (pv 0) pa_nil))
      (pe_one (pe_cmpR op_gt (pe_callB call_len_seq (by rfl) T.n_len PySem.boot_len (pa_cons (pv 0) pa_nil)) pe_int (nomark _))))), ?_⟩
    refine ⟨v, rfl, v, d, rfl, hd, hw, fun H' s1 => ⟨_, rfl, ite2 (fun c => ?_) (fun c => ?_)⟩⟩
    · cases hd with
      | tup hS hA =>
        rename_i a xs ds
        refine ⟨_, rfl, a, _, rfl, .inr (same_tup s1 hS), _, _, rfl, rfl, ?_⟩
        have e : isPairB (.tuple ds) = decide (0 < ds.length) := by
          show (joinB ds && decide (0 < ds.length)) = _
          rw [show joinB ds = true from c, Bool.true_and]
        have e2 : decide ((0 : Int) < (xs.length : Int)) = decide (0 < ds.length) := by
          rw [dpa_len hA]
          by_cases z : 0 < ds.length
          · rw [decide_eq_true z, decide_eq_true (by omega)]
          · rw [decide_eq_false z, decide_eq_false (by omega)]
        have q' := q H' s1
        rw [e, ← e2] at q'
        exact q'
      | non => exact absurd (show false = true from c) Bool.false_ne_true
      | bl => exact absurd (show false = true from c) Bool.false_ne_true
      | int => exact absurd (show false = true from c) Bool.false_ne_true
      | str => exact absurd (show false = true from c) Bool.false_ne_true
      | lst => exact absurd (show false = true from c) Bool.false_ne_true
    · have e : isPairB d = false := by
        cases d with
        | tuple ds => show (joinB ds && decide (0 < ds.length)) = _; rw [show joinB ds = false from Bool.eq_false_iff.mpr c, Bool.false_and]
        | none => rfl
        | bool => rfl
        | int => rfl
        | str => rfl
        | list => rfl
        | dict => rfl
      rw [e] at q
      exact q H' s1
end
end Pc
namespace Pc
open PySem PySem.Spec PyProof.Rows L2 RZ
/-! ### pairings among values -/
theorem below_tdn {n : Nat} : ∀ {ds : List PyData}, ds.all (belowB n) = true → ds = nd (ds.map natOf) ∧ ∀ x ∈ ds.map natOf, x < n
  | [], _ => ⟨rfl, fun x hx => by simp at hx⟩
  | d :: ds, e => by
    rw [List.all_cons, Bool.and_eq_true] at e
    obtain ⟨e1, e2⟩ := e
    obtain ⟨g1, g2⟩ := below_tdn e2
    cases d with
    | int i =>
      unfold belowB at e1
      rw [Bool.and_eq_true, decide_eq_true_iff, decide_eq_true_iff] at e1
      refine ⟨?_, fun x hx => ?_⟩
      · show PyData.int i :: ds = PyData.int ((i.toNat : Nat) : Int) :: nd (ds.map natOf)
        rw [← g1, show ((i.toNat : Nat) : Int) = i by omega]
      · rcases List.mem_cons.mp (show x ∈ i.toNat :: ds.map natOf from hx) with z | z
        · omega
        · exact g2 x z
    | none => cases e1
    | bool => cases e1
    | str => cases e1
    | list => cases e1
    | tuple => cases e1
    | dict => cases e1
theorem is_pair_yes {d : PyData} (h : isPairB d = true) : ∃ q, d = td q ∧ IsPair q.length q ∧ 0 < q.length := by
  cases d with
  | tuple ds =>
    have h : (joinB ds && decide (0 < ds.length)) = true := h
    rw [Bool.and_eq_true, decide_eq_true_iff] at h
    obtain ⟨h1, h2⟩ := h
    unfold joinB at h1
    rw [Bool.and_eq_true] at h1
    obtain ⟨g1, g2⟩ := below_tdn h1.1
    have hl : (ds.map natOf).length = ds.length := List.length_map _
    refine ⟨ds.map natOf, by show _ = PyData.tuple (nd _); rw [← g1], ⟨rfl, fun x hx => ?_⟩, by omega⟩
    rw [hl] at hx ⊢
    have hp := (List.all_eq_true.mp h1.2) x (List.mem_range.mpr hx)
    unfold pairB at hp
    rw [Bool.and_eq_true, decide_eq_true_iff] at hp
    have e1 : (ds.map natOf)[x]? = some ((ds.map natOf).getD x 0) := by rw [List.getD_eq_getElem?_getD, List.getElem?_eq_getElem (by omega)]; rfl
    have l1 := g2 _ (List.mem_of_getElem? e1)
    refine ⟨_, e1, l1, fun z => ?_, ?_⟩
    · have := hp.1
      rw [z, decide_eq_true rfl] at this
      exact absurd this (by decide)
    · have := hp.2
      rw [List.getD_eq_getElem?_getD (i := (ds.map natOf).getD x 0), List.getElem?_eq_getElem (by omega)] at this
      rw [List.getElem?_eq_getElem (by omega)]
      exact congrArg some this
  | none => cases h
  | bool => cases h
  | int => cases h
  | str => cases h
  | list => cases h
  | dict => cases h
theorem is_pair_td {n : Nat} {q : List Nat} (h : IsPair n q) (h0 : 0 < n) : isPairB (td q) = true := by
  have hm : (nd q).map natOf = q := by
    unfold nd
    rw [List.map_map]
    conv => rhs; rw [← List.map_id q]
    exact List.map_congr_left fun x _ => by show ((x : Int)).toNat = x; omega
  have hl : (nd q).length = n := by unfold nd; rw [List.length_map, h.len]
  show (joinB (nd q) && decide (0 < (nd q).length)) = true
  rw [decide_eq_true (by omega), Bool.and_true]
  unfold joinB
  rw [hm, hl, Bool.and_eq_true]
  refine ⟨List.all_eq_true.mpr fun d hd => ?_, List.all_eq_true.mpr fun x hx => ?_⟩
  · unfold nd at hd
    obtain ⟨x, hx, rfl⟩ := List.mem_map.mp hd
    have := h.lt x hx
    show (decide ((0 : Int) ≤ (x : Int)) && decide ((x : Int) < (n : Int))) = true
    rw [decide_eq_true (by omega), decide_eq_true (by omega)]; rfl
  · have hx := List.mem_range.mp hx
    have := h.d hx
    unfold pairB
    rw [decide_eq_false this.2.1, decide_eq_true this.2.2.1]; rfl
theorem td_inj {p q : List Nat} (h : td p = td q) : p = q := by
  have := eqv_td p q
  rw [h, eqv_td q q, decide_eq_true rfl] at this
  exact of_decide_eq_true this.symm
open Classical in
/-- whether a value parts two sheets -/
noncomputable def shP (f g : List Nat) (n : Nat) (d : PyData) : Bool := decide (∃ q, d = td q ∧ IsPair n q ∧ rd f q n ≠ rd g q n)
open Classical in
theorem shP_yes {f g q : List Nat} {n : Nat} (hq : IsPair n q) (h : rd f q n ≠ rd g q n) : shP f g n (td q) = true := by
  unfold shP; exact decide_eq_true ⟨q, rfl, hq, h⟩
open Classical in
theorem shP_no {f g : List Nat} {n : Nat} {d : PyData} (h : ∀ q, d = td q → ¬ IsPair n q) : shP f g n d = false := by
  unfold shP
  exact decide_eq_false fun ⟨q, e, hq, _⟩ => h q e hq
theorem shP_td {f g q : List Nat} {n : Nat} (hq : IsPair n q) : shP f g n (td q) = !decide (rd f q n = rd g q n) := by
  by_cases h : rd f q n = rd g q n
  · rw [decide_eq_true h]
    unfold shP
    refine @decide_eq_false _ (_) ?_
    rintro ⟨p, e, _, ne⟩
    rw [← td_inj e] at ne
    exact ne h
  · rw [decide_eq_false h, shP_yes hq h]; rfl
end Pc
namespace Pc
open PySem PySem.Spec PyProof.Rows L2 RZ
section
variable {P : Program} {w : World} {K : PySem.W.Frag} {mg : Str → Option Value} {base : Heap}
/-! ### whether a value parts two sheets -/
def spShowsP (K : PySem.W.Frag) : Sp := fun vs H Q _ => ∃ (a b : Addr) (v : V) (f g : List Nat) (n : Nat) (d : PyData), vs = [.ref a, .ref b, v] ∧ Sq K H a (nv f) ∧ Sq K H b (nv g) ∧ IsPair (2 * n) f ∧ IsPair (2 * n) g ∧ 0 < n ∧ n ≤ 20 ∧ Dp K H v d ∧ narrow d ∧
  ∀ H', Same H H' → Q (.bl (shP f g n d)) H'
theorem ok_p_shows_parting (T : Env K mg) : FnOk P w K mg base CX0 4 T.f_p_shows_parting T.d_p_shows_parting ["one", "other", "value"] (spShowsP K) := by
  have G0 : FnOk P w K mg base CX0 1 T.f_p_people_of T.d_p_people_of ["sheet"] (spPeople K) := ok_p_people_of T
  have G1 : FnOk P w K mg base CX0 1 T.f_p_check_sizes T.d_p_check_sizes ["first", "second"] spCheckSizes := ok_p_check_sizes T
  have GI : FnOk P w K mg base CX0 3 T.f_p_is_pairing T.d_p_is_pairing ["value"] (spIsPairing K) := ok_p_is_pairing T
  have GR : FnOk P w K mg base CX0 3 T.f_p_result T.d_p_result ["sheet", "pairing"] (spResult K) := ok_p_result T
  refine T.F_p_shows_parting.ok sc_p_shows_parting (fun vs H Q E h => ?_) (fun cdv A outer s H vs Q E hr h => ?_)
  · obtain ⟨a, b, v, f, g, n, d, rfl, _⟩ := h
    rfl
  · obtain ⟨a, b, v, f, g, n, d, rfl, ha, hb, hf, hg, h0, hn, hd, hw, q⟩ := h
    have h1 := hr.mono (show 1 ≤ 3 by decide)
    refine ⟨_, pss_cons (ps_expr (pe_call G1 h1 (by rfl) T.g_p_check_sizes T.F_p_check_sizes.kp T.b_p_check_sizes .nil pass0 (pa_cons (pe_call G0 h1 (by rfl) T.g_p_people_of T.F_p_people_of.kp T.b_p_people_of .nil pass0 (pa_cons (pv 0) pa_nil)) (pa_cons (pe_call G0 h1 (by rfl) T.g_p_people_of T.F_p_people_of.kp T.b_p_people_of .nil pass0 (pa_cons (pv 1) pa_nil)) pa_nil)))) <|
      pss_cons (ps_if (PW.pt (pw_or (pt_not (pt_val (pe_call GI hr (by rfl) T.g_p_is_pairing T.F_p_is_pairing.kp T.b_p_is_pairing .nil pass0 (pa_cons (pv 2) pa_nil)))) (pw_or1 (pt_cmpR op_ne (pe_callB call_len_seq (by rfl) T.n_len PySem.boot_len (pa_cons (pv 2) pa_nil)) (pe_call G0 h1 (by rfl) T.g_p_people_of T.F_p_people_of.kp T.b_p_people_of .nil pass0 (pa_cons (pv 0) pa_nil)) (nomark _))))) (pss_one (ps_ret pe_bl)) pss_nil) <|
      pss_one (ps_ret (pe_cmpR (op_neD hr.units) (pe_call GR hr (by rfl) T.g_p_result T.F_p_result.kp T.b_p_result .nil pass0 (pa_cons (pv 0) (pa_cons (pv 2) pa_nil))) (pe_call GR hr (by rfl) T.g_p_result T.F_p_result.kp T.b_p_result .nil pass0 (pa_cons (pv 1) (pa_cons (pv 2) pa_nil))) (nomark _))), ?_⟩
    refine ⟨.ref a, rfl, a, f, n, rfl, ha, hf.len, .ref b, rfl, b, g, n, rfl, hb, hg.len, n, rfl, ?_⟩
    refine ⟨v, rfl, v, d, rfl, hd, hw, fun H1 s1 => ⟨_, rfl, ite2 (fun c => ?_) (fun c => ?_)⟩⟩
    · -- no pairing
      have c : isPairB d = false := by
        cases z : isPairB d with
        | true => rw [z] at c; exact absurd c (by decide)
        | false => rfl
      refine ite2 (fun _ => ?_) (fun z => absurd rfl z)
      rw [shP_no (fun q e hq => by rw [e, is_pair_td hq h0] at c; cases c)] at q
      exact q H1 s1
    · have c : isPairB d = true := by
        cases z : isPairB d with
        | true => rfl
        | false => rw [z] at c; exact absurd rfl c
      obtain ⟨p, rfl, hp, _⟩ := is_pair_yes c
      cases hd with
      | @tup t xs _ hS hA =>
        have ht := is_pair_td hp (by omega)
        have hS1 := same_tup s1 hS
        have hj : joinB (nd p) = true := by
          have h : (joinB (nd p) && decide (0 < (nd p).length)) = true := c
          rw [Bool.and_eq_true] at h; exact h.1
        have hx : xs = nv p := by
          unfold joinB at hj
          rw [Bool.and_eq_true] at hj
          have := (below_nats hA hj.1).1
          rw [this]
          congr 1
          unfold nd
          rw [List.map_map]
          conv => rhs; rw [← List.map_id p]
          exact List.map_congr_left fun x _ => by show ((x : Int)).toNat = x; omega
        subst hx
        refine ⟨_, rfl, t, _, rfl, .inr hS1, _, rfl, a, f, n, rfl, ha.same s1, hf.len, rfl, _, rfl, ?_⟩
        rw [nv_length, show decide (V.int ((p.length : Nat) : Int) = V.int ((n : Nat) : Int)) = decide (p.length = n) from decide_eq_decide.mpr ⟨fun z => by injection z with z; omega, fun z => by rw [z]⟩]
        by_cases e : p.length = n
        · rw [decide_eq_true e]
          refine iteX rfl ?_
          rw [e] at hp
          refine ⟨_, rfl, _, rfl, a, t, f, p, n, rfl, ha.same s1, .inr hS1, hf, hp, by omega, fun H2 u s2 nu eu => ?_⟩
          refine ⟨_, rfl, _, rfl, b, t, g, p, n, rfl, hb.same (s1.trans s2), .inr (same_tup s2 hS1), hg, hp, by omega, fun H3 w s3 nw ew => ?_⟩
          refine ⟨_, _, .tup (.inl (.inl (s3 _ _ eu))) (dp_nats _), .tup (.inl (.inl ew)) (dp_nats _), pair_td (rd_pair hf hp) (by omega), pair_td (rd_pair hg hp) (by omega), ?_⟩
          rw [show PyData.eqv (.tuple (nd (rd f p n))) (.tuple (nd (rd g p n))) = decide (rd f p n = rd g p n) from eqv_td _ _, ← shP_td hp]
          exact q H3 (s1.trans (s2.trans s3))
        · rw [decide_eq_false e]
          refine iteY rfl ?_
          rw [shP_no (fun r er hr => e (by rw [td_inj er, hr.len]))] at q
          exact q H1 s1
      | _ => cases c
end
end Pc
namespace Pc
open PySem PySem.Spec PyProof.Rows L2 RZ
theorem doS_self (f : List Nat) (n : Nat) : doS f f n = true := by unfold doS; rw [decide_eq_true rfl]; rfl
theorem doS_comm {f g : List Nat} {n : Nat} (hf : IsPair (2 * n) f) (hg : IsPair (2 * n) g) (he : n % 2 = 0) : doS f g n = doS g f n := by
  have h : doS f g n = true ↔ doS g f n = true := (doS_iff hf hg he).trans (Iff.trans ⟨Sames.symm, Sames.symm⟩ (doS_iff hg hf he).symm)
  cases a : doS f g n with
  | true => exact (h.mp a).symm
  | false =>
    cases b : doS g f n with
    | true => have := h.mpr b; rw [a] at this; exact this
    | false => rfl
theorem apart_ok {f g : List Nat} {n : Nat} (hf : IsPair (2 * n) f) (hg : IsPair (2 * n) g) (he : n % 2 = 0) (hd : doS f g n = false) : IsPair n (ptg f g n) ∧ rd f (ptg f g n) n ≠ rd g (ptg f g n) n :=
  ptg_ok hf hg he fun s => by rw [(doS_iff hf hg he).mpr s] at hd; cases hd
end Pc
namespace Pc
/-! ### numbers of pairings -/
/-- the place of a number in a list -/
def plc (y : Nat) : List Nat → Nat
  | [] => 0
  | a :: r => if a = y then 0 else plc y r + 1
theorem plc_get {y : Nat} : ∀ {l : List Nat}, y ∈ l → l[plc y l]? = some y ∧ plc y l < l.length
  | a :: r, h => by
    unfold plc
    by_cases c : a = y
    · rw [if_pos c, c]; exact ⟨rfl, Nat.succ_pos _⟩
    · rw [if_neg c]
      have h' : y ∈ r := by
        rcases List.mem_cons.mp h with z | z
        · exact absurd z.symm c
        · exact z
      obtain ⟨g1, g2⟩ := plc_get h'
      exact ⟨g1, Nat.succ_lt_succ g2⟩
theorem plc_of {y : Nat} : ∀ {l : List Nat} {i : Nat}, l.Nodup → l[i]? = some y → plc y l = i
  | [], i, _, h => by simp at h
  | a :: r, 0, _, h => by
    have : a = y := Option.some.inj h
    unfold plc; rw [if_pos this]
  | a :: r, i + 1, hd, h => by
    have h' : r[i]? = some y := h
    obtain ⟨h1, h2⟩ := List.nodup_cons.mp hd
    have : a ≠ y := fun e => h1 (e ▸ List.mem_of_getElem? h')
    unfold plc; rw [if_neg this, plc_of h2 h']
def rk : Nat → List Nat → (Nat → Nat) → Nat
  | 0, _, _ => 0
  | j + 1, l, p => plc (p (l.getD 0 0)) l.tail * dfac j + rk j (l.tail.eraseIdx (plc (p (l.getD 0 0)) l.tail)) p
/-- closed under partners -/
def Clo (l : List Nat) (p : Nat → Nat) : Prop := ∀ x ∈ l, p x ∈ l ∧ p x ≠ x ∧ p (p x) = x
theorem erase_mem {l : List Nat} (hd : l.Nodup) {i x y : Nat} (h : l[i]? = some y) : x ∈ l.eraseIdx i ↔ x ∈ l ∧ x ≠ y := by
  obtain ⟨hi, e⟩ := List.getElem?_eq_some_iff.mp h
  constructor
  · intro hx
    obtain ⟨k, hk, ek⟩ := List.getElem_of_mem hx
    refine ⟨List.mem_of_mem_eraseIdx hx, fun z => ?_⟩
    rw [List.getElem_eraseIdx] at ek
    rw [List.length_eraseIdx, if_pos hi] at hk
    split at ek
    · rename_i hki
      have := (List.getElem_inj (xs := l) (i := k) (j := i) (h₀ := by omega) (h₁ := hi) hd).mp (by rw [ek, z, e])
      omega
    · rename_i hki
      have := (List.getElem_inj (xs := l) (i := k + 1) (j := i) (h₀ := by omega) (h₁ := hi) hd).mp (by rw [ek, z, e])
      omega
  · rintro ⟨hx, ne⟩
    obtain ⟨k, hk, ek⟩ := List.getElem_of_mem hx
    have hki : k ≠ i := fun z => ne (by subst z; rw [← ek, ← e])
    by_cases c : k < i
    · have hlen : k < (l.eraseIdx i).length := by rw [List.length_eraseIdx, if_pos hi]; omega
      have : (l.eraseIdx i)[k] = x := by rw [List.getElem_eraseIdx, dif_pos c]; exact ek
      rw [← this]; exact List.getElem_mem _
    · have hlen : k - 1 < (l.eraseIdx i).length := by rw [List.length_eraseIdx, if_pos hi]; omega
      have : (l.eraseIdx i)[k - 1] = x := by
        rw [List.getElem_eraseIdx, dif_neg (by omega)]
        have e2 : k - 1 + 1 = k := by omega
        simp only [e2]; exact ek
      rw [← this]; exact List.getElem_mem _
theorem Clo.step {x : Nat} {t : List Nat} {p : Nat → Nat} (hd : (x :: t).Nodup) (h : Clo (x :: t) p) : p x ∈ t ∧ Clo (t.eraseIdx (plc (p x) t)) p := by
  have hx := h x List.mem_cons_self
  have hm : p x ∈ t := by
    rcases List.mem_cons.mp hx.1 with z | z
    · exact absurd z hx.2.1
    · exact z
  obtain ⟨n1, n2⟩ := List.nodup_cons.mp hd
  have hg := (plc_get hm).1
  refine ⟨hm, fun y hy => ?_⟩
  obtain ⟨y1, y2⟩ := (erase_mem n2 hg).mp hy
  have hyc := h y (List.mem_cons_of_mem _ y1)
  refine ⟨(erase_mem n2 hg).mpr ⟨?_, fun e => ?_⟩, hyc.2⟩
  · rcases List.mem_cons.mp hyc.1 with z | z
    · have : p (p y) = p x := by rw [z]
      rw [hyc.2.2] at this
      exact absurd this y2
    · exact z
  · have : p (p y) = p (p x) := by rw [e]
    rw [hyc.2.2, hx.2.2] at this
    exact n1 (this ▸ y1)
theorem rk_lt : ∀ (j : Nat) {l : List Nat} {p : Nat → Nat}, l.length = 2 * j → l.Nodup → Clo l p → rk j l p < dfac j
  | 0, _, _, _, _, _ => Nat.one_pos
  | j + 1, [], _, hl, _, _ => by simp at hl
  | j + 1, x :: t, p, hl, hd, hc => by
    obtain ⟨hm, hc'⟩ := hc.step hd
    have hg := plc_get hm
    have ht : t.length = 2 * j + 1 := by rw [List.length_cons] at hl; omega
    have ih := rk_lt j (l := t.eraseIdx (plc (p x) t)) (by rw [List.length_eraseIdx, if_pos hg.2]; omega) ((List.nodup_cons.mp hd).2.eraseIdx _) hc'
    show plc (p x) t * dfac j + rk j (t.eraseIdx (plc (p x) t)) p < dfac j * (2 * j + 1)
    have h2 : plc (p x) t + 1 ≤ 2 * j + 1 := by omega
    have := Nat.mul_le_mul_right (dfac j) h2
    rw [Nat.add_mul, Nat.one_mul, Nat.mul_comm (2 * j + 1)] at this
    omega
theorem rk_div {j : Nat} {x : Nat} {t : List Nat} {p : Nat → Nat} (hl : (x :: t).length = 2 * (j + 1)) (hd : (x :: t).Nodup) (hc : Clo (x :: t) p) : rk (j + 1) (x :: t) p / dfac j = plc (p x) t ∧ rk (j + 1) (x :: t) p % dfac j = rk j (t.eraseIdx (plc (p x) t)) p := by
  obtain ⟨hm, hc'⟩ := hc.step hd
  have hg := plc_get hm
  have ih := rk_lt j (l := t.eraseIdx (plc (p x) t)) (by rw [List.length_eraseIdx, if_pos hg.2]; rw [List.length_cons] at hl; omega) ((List.nodup_cons.mp hd).2.eraseIdx _) hc'
  have e : rk (j + 1) (x :: t) p = rk j (t.eraseIdx (plc (p x) t)) p + dfac j * plc (p x) t := by
    show plc (p x) t * dfac j + _ = _
    rw [Nat.mul_comm, Nat.add_comm]; rfl
  rw [e, Nat.add_mul_div_left _ _ (dfac_pos j), Nat.add_mul_mod_self_left, Nat.div_eq_of_lt ih, Nat.mod_eq_of_lt ih, Nat.zero_add]
  exact ⟨rfl, rfl⟩
/-- the couples by the number of a pairing are its couples -/
theorem una_rk : ∀ (j : Nat) {l : List Nat} {p : Nat → Nat}, l.length = 2 * j → l.Nodup → Clo l p → ∀ c ∈ una j l (rk j l p), c.2 = p c.1
  | 0, _, _, _, _, _ => fun c hc => absurd hc List.not_mem_nil
  | j + 1, [], _, hl, _, _ => by simp at hl
  | j + 1, x :: t, p, hl, hd, hc => fun c hcm => by
    obtain ⟨hm, hc'⟩ := hc.step hd
    have hg := plc_get hm
    obtain ⟨d1, d2⟩ := rk_div hl hd hc
    have hcm' : c ∈ (x, t.getD (rk (j + 1) (x :: t) p / dfac j) 0) :: una j (t.eraseIdx (rk (j + 1) (x :: t) p / dfac j)) (rk (j + 1) (x :: t) p % dfac j) := hcm
    rw [d1, d2] at hcm'
    rcases List.mem_cons.mp hcm' with z | z
    · rw [z]; exact getD_of hg.1
    · exact una_rk j (by rw [List.length_eraseIdx, if_pos hg.2]; rw [List.length_cons] at hl; omega) ((List.nodup_cons.mp hd).2.eraseIdx _) hc' c z
theorem pair_clo {n : Nat} {q : List Nat} (h : IsPair n q) : Clo (List.range n) (fun x => q.getD x 0) := fun x hx => by
  have := h.d (List.mem_range.mp hx)
  exact ⟨List.mem_range.mpr this.1, this.2.1, this.2.2.1⟩
def prk (r : Nat) (q : List Nat) : Nat := rk r (List.range (2 * r)) (fun x => q.getD x 0)
theorem prk_lt {r : Nat} {q : List Nat} (h : IsPair (2 * r) q) : prk r q < dfac r := rk_lt r List.length_range List.nodup_range (pair_clo h)
theorem makes_of {n : Nat} {q : List Nat} (hq : IsPair n q) {qs : List (Nat × Nat)} (hp : (flat qs).Perm (List.range n)) (h : ∀ c ∈ qs, q.getD c.1 0 = c.2) : Makes qs q where
  half := by
    have := hp.length_eq
    rw [flat_len, List.length_range] at this
    rw [hq.len]; omega
  ok p hm := by
    have h1 : p.1 < n := List.mem_range.mp (hp.mem_iff.mp (flat_mem.mpr ⟨p, hm, .inl rfl⟩))
    have e := hq.d h1
    rw [h p hm] at e
    have b := (hq.d e.1).2.2.2
    rw [e.2.2.1] at b
    exact ⟨e.2.2.2, b⟩
  all z hz := by
    rw [hq.len] at hz
    obtain ⟨p, hm, e⟩ := flat_mem.mp (hp.mem_iff.mpr (List.mem_range.mpr hz))
    exact ⟨p, hm, e.elim (fun w => .inl w.symm) (fun w => .inr w.symm)⟩
theorem pat_prk {r : Nat} {q : List Nat} (h : IsPair (2 * r) q) : pat r (prk r q) = q := by
  have hk := prk_lt h
  refine (pat_makes hk).one (makes_of h (flat_una r List.length_range hk) fun c hc => ?_)
  exact (una_rk r List.length_range List.nodup_range (pair_clo h) c hc).symm
theorem rk_una : ∀ (j : Nat) {l : List Nat} {k : Nat} {p : Nat → Nat}, l.length = 2 * j → l.Nodup → k < dfac j → (∀ c ∈ una j l k, p c.1 = c.2) → rk j l p = k
  | 0, _, k, _, _, _, hk, _ => by
    have : k < 1 := hk
    show 0 = k
    omega
  | j + 1, [], _, _, hl, _, _, _ => by simp at hl
  | j + 1, x :: t, k, p, hl, hd, hk, h => by
    have ht : t.length = 2 * j + 1 := by rw [List.length_cons] at hl; omega
    have hc := choice_lt hk
    have n2 := (List.nodup_cons.mp hd).2
    have e : t[k / dfac j]? = some (t.getD (k / dfac j) 0) := by rw [List.getD_eq_getElem?_getD, List.getElem?_eq_getElem (by omega)]; rfl
    have h1 : p x = t.getD (k / dfac j) 0 := h (x, t.getD (k / dfac j) 0) List.mem_cons_self
    have ep : plc (p x) t = k / dfac j := plc_of n2 (by rw [h1]; exact e)
    show plc (p x) t * dfac j + rk j (t.eraseIdx (plc (p x) t)) p = k
    rw [ep, rk_una j (l := t.eraseIdx (k / dfac j)) (k := k % dfac j) (by rw [List.length_eraseIdx, if_pos (by omega)]; omega) (n2.eraseIdx _) (Nat.mod_lt _ (dfac_pos j)) (fun c hc => h c (List.mem_cons_of_mem _ hc)), Nat.mul_comm]
    exact Nat.div_add_mod k (dfac j)
theorem prk_pat {r k : Nat} (hk : k < dfac r) : prk r (pat r k) = k := by
  refine rk_una r List.length_range List.nodup_range hk fun c hc => ?_
  exact getD_of ((pat_makes hk).ok c hc).1
/-- greater numbers, greater pairings -/
def Blw (l : List Nat) (p q : Nat → Nat) : Prop := ∃ x ∈ l, (∀ y ∈ l, y < x → p y = q y) ∧ p x < q x
theorem rk_order : ∀ (j : Nat) {l : List Nat} {p q : Nat → Nat}, l.length = 2 * j → l.Pairwise (· < ·) → Clo l p → Clo l q → rk j l p < rk j l q → Blw l p q
  | 0, _, _, _, _, _, _, _, h => absurd h (Nat.lt_irrefl _)
  | j + 1, [], _, _, hl, _, _, _, _ => by simp at hl
  | j + 1, x :: t, p, q, hl, hs, hp, hq, h => by
    have hd : (x :: t).Nodup := hs.imp fun {a b} h => Nat.ne_of_lt h
    obtain ⟨hpm, hpc⟩ := hp.step hd
    obtain ⟨hqm, hqc⟩ := hq.step hd
    obtain ⟨d1, d2⟩ := rk_div hl hd hp
    obtain ⟨e1, e2⟩ := rk_div hl hd hq
    obtain ⟨sx, st⟩ := List.pairwise_cons.mp hs
    have hgp := plc_get hpm
    have hgq := plc_get hqm
    have hle : plc (p x) t ≤ plc (q x) t := by
      rw [← d1, ← e1]
      exact Nat.div_le_div_right (Nat.le_of_lt h)
    by_cases c : plc (p x) t = plc (q x) t
    · have epq : p x = q x := by
        have a := hgp.1
        rw [c, hgq.1] at a
        exact (Option.some.inj a).symm
      have hlt : rk j (t.eraseIdx (plc (p x) t)) p < rk j (t.eraseIdx (plc (p x) t)) q := by
        rw [← c] at e1 e2
        rw [← d2, ← e2]
        have a := Nat.div_add_mod (rk (j + 1) (x :: t) p) (dfac j)
        have b := Nat.div_add_mod (rk (j + 1) (x :: t) q) (dfac j)
        rw [d1] at a
        rw [e1] at b
        omega
      rw [← c] at hqc
      obtain ⟨z, hz, z1, z2⟩ := rk_order j (l := t.eraseIdx (plc (p x) t)) (by rw [List.length_eraseIdx, if_pos hgp.2]; rw [List.length_cons] at hl; omega) (List.Pairwise.sublist (List.eraseIdx_sublist _ _) st) hpc hqc hlt
      obtain ⟨zt, zp⟩ := (erase_mem (List.nodup_cons.mp hd).2 hgp.1).mp hz
      refine ⟨z, List.mem_cons_of_mem _ zt, fun y hy hyz => ?_, z2⟩
      rcases List.mem_cons.mp hy with w | w
      · rw [w]; exact epq
      · by_cases v : y = p x
        · rw [v, (hp x List.mem_cons_self).2.2, epq, (hq x List.mem_cons_self).2.2]
        · exact z1 y ((erase_mem (List.nodup_cons.mp hd).2 hgp.1).mpr ⟨w, v⟩) hyz
    · refine ⟨x, List.mem_cons_self, fun y hy hyx => ?_, ?_⟩
      · rcases List.mem_cons.mp hy with w | w
        · omega
        · have := sx y w; omega
      · obtain ⟨l1, e3⟩ := List.getElem?_eq_some_iff.mp hgp.1
        obtain ⟨l2, e4⟩ := List.getElem?_eq_some_iff.mp hgq.1
        rw [← e3, ← e4]
        exact (List.pairwise_iff_getElem.mp st) _ _ l1 l2 (by omega)
/-! ### all of them -/
def evs : Nat → List Nat → List (List (Nat × Nat))
  | 0, _ => [[]]
  | j + 1, l => l.tail.flatMap fun m => (evs j (l.tail.filter fun w => !decide (w = m))).map fun more => (l.getD 0 0, m) :: more
theorem filt_erase : ∀ {t : List Nat} {i m : Nat}, t.Nodup → t[i]? = some m → t.filter (fun w => !decide (w = m)) = t.eraseIdx i
  | [], i, m, _, h => by simp at h
  | a :: t, 0, m, hd, h => by
    have e : a = m := Option.some.inj h
    obtain ⟨n1, n2⟩ := List.nodup_cons.mp hd
    rw [List.filter_cons_of_neg (by rw [e, decide_eq_true rfl]; decide)]
    show _ = t
    refine List.filter_eq_self.mpr fun y hy => ?_
    rw [decide_eq_false (fun z => n1 (by rw [e, ← z]; exact hy))]; rfl
  | a :: t, i + 1, m, hd, h => by
    obtain ⟨n1, n2⟩ := List.nodup_cons.mp hd
    have h' : t[i]? = some m := h
    rw [List.filter_cons_of_pos (by rw [decide_eq_false (fun z => n1 (by rw [z]; exact List.mem_of_getElem? h'))]; rfl), filt_erase n2 h']
    rfl
theorem range_mul (c d : Nat) : (List.range (c * d)) = (List.range c).flatMap fun i => (List.range d).map fun k => i * d + k := by
  induction c with
  | zero => rw [Nat.zero_mul]; rfl
  | succ c ih =>
    rw [Nat.add_mul, Nat.one_mul, List.range_add, ih, List.range_succ, List.flatMap_append]
    congr 1
    simp [List.flatMap_cons]
theorem flatMap_range {β : Type} (t : List Nat) (f : Nat → List β) : t.flatMap f = (List.range t.length).flatMap fun i => f (t.getD i 0) := by
  have e : t = (List.range t.length).map fun i => t.getD i 0 := (range_getD t).symm
  conv => lhs; rw [e]
  rw [List.flatMap_map]
theorem fmap_congr {α β : Type} {f g : α → List β} : ∀ {l : List α}, (∀ a ∈ l, f a = g a) → l.flatMap f = l.flatMap g
  | [], _ => rfl
  | a :: r, h => by
    rw [List.flatMap_cons, List.flatMap_cons, h a List.mem_cons_self, fmap_congr fun b hb => h b (List.mem_cons_of_mem _ hb)]
theorem evs_una : ∀ (j : Nat) {l : List Nat}, l.length = 2 * j → l.Nodup → evs j l = (List.range (dfac j)).map (una j l)
  | 0, _, _, _ => rfl
  | j + 1, [], hl, _ => by simp at hl
  | j + 1, x :: t, hl, hd => by
    have ht : t.length = 2 * j + 1 := by rw [List.length_cons] at hl; omega
    have n2 := (List.nodup_cons.mp hd).2
    show t.flatMap (fun m => (evs j (t.filter fun w => !decide (w = m))).map fun more => (x, m) :: more) = (List.range (dfac j * (2 * j + 1))).map (una (j + 1) (x :: t))
    rw [Nat.mul_comm, range_mul, List.map_flatMap, flatMap_range, ht]
    refine fmap_congr fun i hi => ?_
    have hi := List.mem_range.mp hi
    have e : t[i]? = some (t.getD i 0) := by rw [List.getD_eq_getElem?_getD, List.getElem?_eq_getElem (by omega)]; rfl
    rw [filt_erase n2 e, evs_una j (by rw [List.length_eraseIdx, if_pos (by omega)]; omega) (n2.eraseIdx _), List.map_map, List.map_map]
    refine List.map_congr_left fun k hk => ?_
    have hk := List.mem_range.mp hk
    show (x, t.getD i 0) :: una j (t.eraseIdx i) k = (x, t.getD ((i * dfac j + k) / dfac j) 0) :: una j (t.eraseIdx ((i * dfac j + k) / dfac j)) ((i * dfac j + k) % dfac j)
    have d1 : (i * dfac j + k) / dfac j = i := by rw [Nat.add_comm, Nat.mul_comm, Nat.add_mul_div_left _ _ (dfac_pos j), Nat.div_eq_of_lt hk, Nat.zero_add]
    have d2 : (i * dfac j + k) % dfac j = k := by rw [Nat.add_comm, Nat.mul_comm, Nat.add_mul_mod_self_left, Nat.mod_eq_of_lt hk]
    rw [d1, d2]
/-- all pairings, in ascending order -/
def apl (r : Nat) : List (List Nat) := (List.range (dfac r)).map (pat r)
theorem apl_mem {r : Nat} {q : List Nat} : q ∈ apl r ↔ IsPair (2 * r) q := by
  constructor
  · intro h
    obtain ⟨k, hk, rfl⟩ := List.mem_map.mp h
    exact pat_pair (List.mem_range.mp hk)
  · intro h
    exact List.mem_map.mpr ⟨prk r q, List.mem_range.mpr (prk_lt h), pat_prk h⟩
theorem evs_mkp (r : Nat) : (evs r (List.range (2 * r))).map mkp = apl r := by
  rw [evs_una r List.length_range List.nodup_range, List.map_map]
  rfl
end Pc
namespace Pc
open PySem PySem.Spec PyProof.Rows L2 RZ
theorem emp_two (n : Nat) : emp n = ((List.range n).map fun i => n + i) ++ List.range n := by
  refine List.ext_getElem? fun z => ?_
  by_cases h : z < n
  · rw [emp_lo h, List.getElem?_append_left (by rw [List.length_map, List.length_range]; exact h), List.getElem?_map, List.getElem?_range h]
    rfl
  · rw [List.getElem?_append_right (by rw [List.length_map, List.length_range]; omega), List.length_map, List.length_range]
    by_cases h2 : z < 2 * n
    · have := emp_hi (n := n) (e := z - n) (by omega)
      rw [show n + (z - n) = z by omega] at this
      rw [this, List.getElem?_range (by omega)]
    · rw [List.getElem?_eq_none (by rw [emp_len]; omega), List.getElem?_eq_none (by rw [List.length_range]; omega)]
end Pc
namespace Pc
open PySem PySem.Spec PyProof.Rows L2 RZ
section
variable {P : Program} {w : World} {K : PySem.W.Frag} {mg : Str → Option Value} {base : Heap}
/-! ### the law's own sheet of a word, end by end -/
def spJEnds (K : PySem.W.Frag) : Sp := fun vs H Q _ => ∃ (n : Nat) (wd : Addr) (us : List V) (as : List Addr) (qs : List (Nat × Nat)), vs = [.int n, .ref wd] ∧ SqL K H wd us ∧ us = as.map V.ref ∧ Prs H as qs ∧ Calls n qs ∧ 2 ≤ n ∧ n ≤ 1000 ∧
  ∀ (H' : Hp) (t : Addr), Same H H' → H t = none → H' t = some (.tup (nv (shw n qs (emp n)))) → Q (.ref t) H'
theorem ok_joined_ends (T : Env K mg) : FnOk P w K mg base CX0 1 T.f_joined_ends T.d_joined_ends ["_law_crowd", "_law_tape"] (spJEnds K) := by
  refine T.F_joined_ends.ok sc_joined_ends (fun vs H Q E h => ?_) (fun cdv A outer s H vs Q E hr h => ?_)
  · obtain ⟨n, wd, us, as, qs, rfl, _⟩ := h
    rfl
  · obtain ⟨n, wd, us, as, qs, rfl, hS, rfl, hA, hc, h2, hn, q⟩ := h
    refine ⟨_, pss_cons (ps_set (i := 2) sc_joined_ends.nd rfl (.inl rfl) (pe_op op_cat (pe_listRg rfl (by rfl) T.n_list (prg_2 (by rfl) T.n_range (pv 0) (pe_op op_mul pe_int (pv 0)))) (pe_listRg rfl (by rfl) T.n_list (prg_1 (by rfl) T.n_range (pv 0))))) <|
      pss_cons (ps_for PassesOwn.never rfl (pi_list (pv 1)) (pg_tup (by rfl) (pgs_cons (pg_name (i := 3) sc_joined_ends.nd rfl (.inl rfl)) (pgs_cons (pg_name (i := 4) sc_joined_ends.nd rfl (.inl rfl)) pgs_nil)))
        (pss_cons (ps_par (by rfl) sc_joined_ends.nd (i := 5) (j := 6) rfl rfl (by decide) rfl rfl (pa_cons (pe_op op_add (pv 0) (pv 3)) (pa_cons (pe_op op_add (pv 0) (pv 4)) pa_nil)) (by rfl)) <|
        pss_one (ps_if (pt_cmpR op_ne (pe_ix ix_list (pv 2) (pv 5) (fun _ _ => rfl)) (pv 6) (nomark _))
          (pss_one (ps_for PassesOwn.never rfl (pi_tup (pe_tup (pa_cons (pe_tup (pa_cons (pe_ix ix_list (pv 2) (pv 5) (fun _ _ => rfl)) (pa_cons (pe_ix ix_list (pv 2) (pv 6) (fun _ _ => rfl)) pa_nil))) (pa_cons (pe_tup (pa_cons (pv 5) (pa_cons (pv 6) pa_nil))) pa_nil)))) (pg_tup (by rfl) (pgs_cons (pg_name (i := 7) sc_joined_ends.nd rfl (.inl rfl)) (pgs_cons (pg_name (i := 8) sc_joined_ends.nd rfl (.inl rfl)) pgs_nil)))
            (pss_one (ps_asg (pe_tup (pa_cons (pv 8) (pa_cons (pv 7) pa_nil))) (pg_tup rfl (pgs_cons (pg_sub (pv 2) (pv 7) set_list) (pgs_cons (pg_sub (pv 2) (pv 8) set_list) pgs_nil))))))) pss_nil))) <|
      pss_one (ps_ret (pe_callTy call_tuple_of (by rfl) T.n_tuple (by decide +kernel) (pa_cons (pv 2) pa_nil))), ?_⟩
    have hE := emp_pair (n := n) (by omega)
    refine ⟨_, rfl, _, rfl, 2, n, rfl, rfl, .inl ⟨by decide, by decide⟩, _, _, rfl, rfl, RgOk.of_le (by omega) (by omega) (by omega) (by omega), fun a0 na0 => ?_⟩
    have s1 : Same H _ := same_new (o := .lst (rgV (n : Int) (2 * (n : Int)))) na0
    refine ⟨_, rfl, _, rfl, RgOk.of_le (by decide) (by omega) (by decide) (by omega), fun c0 nc0 => ?_⟩
    have s2 : Same (upd H a0 (.lst (rgV (n : Int) (2 * (n : Int))))) _ := same_new (o := .lst (rgV 0 (n : Int))) nc0
    refine ⟨a0, c0, _, _, rfl, rfl, s2 _ _ upd_same, upd_same, ?_, fun D nD0 => ?_⟩
    · rw [rgV_length, rgV_length]
      exact Nat.le_of_lt (line_big (by omega))
    have er : rgV (n : Int) (2 * (n : Int)) ++ rgV 0 (n : Int) = nv (emp n) := by
      rw [range_shift, rg_nv, emp_two]; unfold nv; rw [List.map_append]
    rw [er]
    have nD := (s1.trans s2).free nD0
    have s3 := (s1.trans s2).trans (same_new (o := .lst (nv (emp n))) nD0)
    have eD : (upd (upd (upd H a0 (.lst (rgV (n : Int) (2 * (n : Int))))) c0 (.lst (rgV 0 (n : Int)))) D (.lst (nv (emp n)))) D = some (.lst (nv (emp n))) := upd_same
    revert s3 eD
    generalize upd (upd (upd H a0 (.lst (rgV (n : Int) (2 * (n : Int))))) c0 (.lst (rgV 0 (n : Int)))) D (.lst (nv (emp n))) = H1
    intro s3 eD
    refine st_set [some (.int n), some (.ref wd), some (.ref D), none, none, none, none, none, none] ?_ rfl
    refine ⟨.ref wd, rfl, wd, rfl, ⟨_, s3.seq hS⟩, ?_⟩
    refine for_list (xs := as.map V.ref) (fun i σ H' => Same H H' ∧ ∃ (y3 y4 y5 y6 y7 y8 : Option V), σ = [some (.int n), some (.ref wd), some (.ref D), y3, y4, y5, y6, y7, y8] ∧ H' D = some (.lst (nv (shw n (qs.take i) (emp n))))) ⟨s3, none, none, none, none, none, none, rfl, eD⟩ (fun i σ H' _ h => h.1.seq hS) (fun i x σ H' hx h => ?_) (fun σ H' h => ?_)
    · obtain ⟨sm, y3, y4, y5, y6, y7, y8, rfl, e1⟩ := h
      rw [List.getElem?_map] at hx
      cases et : as[i]? with
      | none => rw [et] at hx; cases hx
      | some t =>
      rw [et] at hx
      cases Option.some.inj hx
      obtain ⟨r, er, ht⟩ := prs_get hA et
      have hcr := hc r (List.mem_of_getElem? er)
      have hPi := shw_pair hE (hc.take i)
      obtain ⟨u, ea, hu, _⟩ := hPi.par (n + r.1) (by omega)
      obtain ⟨v, eb, hv, _⟩ := hPi.par (n + r.2) (by omega)
      have hl := hPi.len
      have c1 : (n : Int) + (r.1 : Int) = ((n + r.1 : Nat) : Int) := by omega
      have c2 : (n : Int) + (r.2 : Int) = ((n + r.2 : Nat) : Int) := by omega
      have ln : ∀ {l : List V}, l.length = 2 * n → ∀ {i : Nat}, i < 2 * n → ixN l.length (i : Int) = some i := fun {l} hl2 {i} hi => ixN_nat (by rw [hl2]; exact hi)
      refine ⟨t, _, rfl, .inl (.inl (sm _ _ ht)), rfl, _, _, rfl, _, _, rfl, rfl, ?_⟩
      refine ⟨_, rfl, _, rfl, _, _, rfl, rfl, _, rfl, _, rfl, _, _, rfl, rfl, _, _, rfl, ?_⟩
      refine st_eq [some (.int n), some (.ref wd), some (.ref D), some (.int r.1), some (.int r.2), some (.int ((n + r.1 : Nat) : Int)), some (.int ((n + r.2 : Nat) : Int)), y7, y8] ?_ (by rw [← c1, ← c2]; rfl)
      have hsh := shw_take (n := n) (fs := emp n) er
      revert e1 hPi ea eb hl hsh
      generalize shw n (qs.take i) (emp n) = fs
      intro e1 hPi ea eb hl hsh
      refine ⟨.ref D, rfl, _, rfl, D, _, _, _, rfl, rfl, .inl (.inl e1), nv_at ea, _, rfl, rfl, _, rfl, ite2 (fun c => ?_) (fun c => ?_)⟩
      · have hne : u ≠ n + r.2 := fun z => by
          have c' : (!decide (V.int (u : Int) = V.int ((n + r.2 : Nat) : Int))) = true := c
          rw [z, decide_eq_true rfl] at c'
          exact absurd c' (by decide)
        have hj := jn_alt hPi (by omega) ea eb hne
        refine ⟨.ref D, rfl, _, rfl, D, _, _, _, rfl, rfl, .inl (.inl e1), nv_at ea, .ref D, rfl, _, rfl, D, _, _, _, rfl, rfl, .inl (.inl e1), nv_at eb, by show 2 ≤ sizeLine; decide, fun t1 nt1 => ?_⟩
        refine ⟨_, rfl, _, rfl, by show 2 ≤ sizeLine; decide, fun t2 nt2 => ⟨by show 2 ≤ sizeLine; decide, fun t3 nt3 => ?_⟩⟩
        have sA := same_new (o := .tup [.int (u : Nat), .int (v : Nat)]) nt1
        have sB := same_new (o := .tup [.int ((n + r.1 : Nat) : Int), .int ((n + r.2 : Nat) : Int)]) nt2
        have sC := same_new (o := .tup [.ref t1, .ref t2]) nt3
        have g1 := sC _ _ (sB t1 _ upd_same)
        have g2 := sC t2 _ upd_same
        have g3 : upd (upd (upd H' t1 (.tup [.int (u : Nat), .int (v : Nat)])) t2 (.tup [.int ((n + r.1 : Nat) : Int), .int ((n + r.2 : Nat) : Int)])) t3 (.tup [.ref t1, .ref t2]) t3 = some (.tup [.ref t1, .ref t2]) := upd_same
        have sD := (sA.trans sB).trans sC
        revert g1 g2 g3 sD
        clear sA sB sC
        generalize upd (upd (upd H' t1 (.tup [.int (u : Nat), .int (v : Nat)])) t2 (.tup [.int ((n + r.1 : Nat) : Int), .int ((n + r.2 : Nat) : Int)])) t3 (.tup [.ref t1, .ref t2]) = H2
        intro g1 g2 g3 sD
        obtain ⟨stg, z0, z1, z2⟩ : ∃ stg : Nat → List Nat, stg 0 = fs ∧ stg 1 = (fs.set u v).set v u ∧ stg 2 = jn fs (n + r.1) (n + r.2) :=
          ⟨fun j => if j = 0 then fs else if j = 1 then (fs.set u v).set v u else jn fs (n + r.1) (n + r.2), rfl, rfl, rfl⟩
        refine ⟨t3, rfl, ⟨_, .inl (.inl g3)⟩, ?_⟩
        refine for_tup (xs := [V.ref t1, V.ref t2]) (fun j σ G => Same H G ∧ G t1 = some (.tup [.int (u : Nat), .int (v : Nat)]) ∧ G t2 = some (.tup [.int ((n + r.1 : Nat) : Int), .int ((n + r.2 : Nat) : Int)]) ∧ G t3 = some (.tup [.ref t1, .ref t2]) ∧ ∃ (y7 y8 : Option V), σ = [some (.int n), some (.ref wd), some (.ref D), some (.int r.1), some (.int r.2), some (.int ((n + r.1 : Nat) : Int)), some (.int ((n + r.2 : Nat) : Int)), y7, y8] ∧ G D = some (.lst (nv (stg j))))
          ⟨sm.trans sD, g1, g2, g3, _, _, rfl, by rw [z0]; exact sD _ _ e1⟩ (fun j σ G _ h => .inl (.inl h.2.2.2.1)) (fun j x σ G hx h => ?_) (fun σ G h => ?_)
        · obtain ⟨sG, k1, k2, k3, w7, w8, rfl, eG⟩ := h
          have hj2 : j < 2 := get_lt hx
          obtain ⟨tt, p, q', rfl, ett, hp, hq, hst, hlen⟩ : ∃ (tt : Addr) (p q' : Nat), x = .ref tt ∧ G tt = some (.tup [.int (p : Nat), .int (q' : Nat)]) ∧ p < 2 * n ∧ q' < 2 * n ∧ stg (j + 1) = ((stg j).set p q').set q' p ∧ (stg j).length = 2 * n := by
            rcases (show j = 0 ∨ j = 1 by omega) with z | z
            · subst z; exact ⟨t1, u, v, (Option.some.inj hx).symm, k1, hu, hv, by rw [z1, z0], by rw [z0]; exact hl⟩
            · subst z; exact ⟨t2, n + r.1, n + r.2, (Option.some.inj hx).symm, k2, by omega, by omega, by rw [z2, z1, hj], by rw [z1, List.length_set, List.length_set]; exact hl⟩
          refine ⟨tt, _, rfl, .inl (.inl ett), rfl, _, _, rfl, _, _, rfl, rfl, ?_⟩
          refine st_eq [some (.int n), some (.ref wd), some (.ref D), some (.int r.1), some (.int r.2), some (.int ((n + r.1 : Nat) : Int)), some (.int ((n + r.2 : Nat) : Int)), some (.int (p : Nat)), some (.int (q' : Nat))] ?_ rfl
          refine ⟨_, rfl, _, rfl, by show 2 ≤ sizeLine; decide, fun tp ntp => ?_⟩
          have sP : Same G _ := same_new (o := .tup [.int (q' : Nat), .int (p : Nat)]) ntp
          refine ⟨tp, _, rfl, .inl (.inl upd_same), rfl, _, _, rfl, .ref D, rfl, _, rfl, D, _, _, p, rfl, rfl, sP _ _ eG, ln (by rw [nv_length, hlen]) hp, ?_⟩
          refine ⟨_, _, rfl, .ref D, rfl, _, rfl, D, _, _, q', rfl, rfl, upd_same, ln (by rw [List.length_set, nv_length, hlen]) hq, rfl, ?_⟩
          have nt : ∀ {z : Addr} {l : List V}, G z = some (.tup l) → z ≠ D := fun h z => by rw [z, eG] at h; cases h
          refine ⟨fun b o hb => ?_, ?_, ?_, ?_, _, _, rfl, ?_⟩
          · have nb : b ≠ D := ne_of_none hb nD
            rw [upd_ne nb, upd_ne nb]; exact sP _ _ (sG _ _ hb)
          · rw [upd_ne (nt k1), upd_ne (nt k1)]; exact sP _ _ k1
          · rw [upd_ne (nt k2), upd_ne (nt k2)]; exact sP _ _ k2
          · rw [upd_ne (nt k3), upd_ne (nt k3)]; exact sP _ _ k3
          · rw [upd_same, hst, nv_set, nv_set]
        · obtain ⟨sG, _, _, _, w7, w8, rfl, eG⟩ := h
          refine ⟨sG, _, _, _, _, _, _, rfl, ?_⟩
          rw [hsh, ← z2]; exact eG
      · have heq : u = n + r.2 := by
          by_cases z : u = n + r.2
          · exact z
          · exact absurd (by rw [decide_eq_false (fun y => z (by have := V.int.inj y; omega))]; rfl) c
        subst heq
        refine ⟨sm, _, _, _, _, _, _, rfl, ?_⟩
        rw [hsh, jn_same ea]
        exact e1
    · obtain ⟨sm, y3, y4, y5, y6, y7, y8, rfl, e1⟩ := h
      rw [List.length_map, hA.length, List.take_length] at e1
      exact ⟨.ref D, rfl, D, _, rfl, .inl ⟨.inl (.inl e1), fun t nt => q _ t (sm.trans (same_new nt)) (sm.free nt) upd_same⟩⟩
end
end Pc
namespace Pc
open PySem PySem.Spec PyProof.Rows L2 RZ
/-- two statements in a row that come to one state, whatever way they go -/
theorem tjoin2 {t u v : TS} {D : L2.Ends} {σ : L2.St} {H : Hp} (J : L2.St → Hp → Prop) (k : ∀ σ' H', J σ' H' → v D σ' H') (h : ∀ N : L2.St → Hp → Prop, (∀ σ' H', J σ' H' → N σ' H') → tSeq t u { D with nx := N } σ H) : tSeq t (tSeq u v) D σ H := h (v D) k
theorem tjoin1 {t v : TS} {D : L2.Ends} {σ : L2.St} {H : Hp} (J : L2.St → Hp → Prop) (k : ∀ σ' H', J σ' H' → v D σ' H') (h : ∀ N : L2.St → Hp → Prop, (∀ σ' H', J σ' H' → N σ' H') → t { D with nx := N } σ H) : tSeq t v D σ H := h (v D) k
theorem st_at {u : L2.St → Hp → Prop} {r : VK} {bk ct : L2.St → Hp → Prop} {σ : L2.St} {H : Hp} (σ' : L2.St) (e : σ = σ') (h : u σ' H) : (L2.Ends.mk u r bk ct).nx σ H := by rw [e]; exact h
theorem st_nx {u : TS} {D : L2.Ends} {σ : L2.St} {H : Hp} (h : u D σ H) : tNext { D with nx := u D } σ H := h
theorem keep_freeR {b p : Addr} {k : Nat} {H H' : Hp} (hk : Keep b H H') (hB : Box k H' b) (h : H' p = none) : H p = none := by
  cases e : H p with
  | none => rfl
  | some o =>
    by_cases hb : p = b
    · subst hb
      obtain ⟨y, hy⟩ := hB.lst
      rw [hy] at h; cases h
    · rw [hk p o hb e] at h; cases h
end Pc
namespace Pc
open PySem PySem.Spec PyProof.Rows L2 RZ
/-! ### sum(lists, start): one list after another -/
abbrev IsLx (h : Heap) (l : Addr) (items : Array Value) (n : Nat) : Prop := h.get? l = some { cls := .type "list", dict := none, data := .seq items n, slots := #[] }
def pre (ls : Nat → List Value) (st : List Value) : Nat → List Value
  | 0 => st
  | i + 1 => pre ls st i ++ ls i
theorem args_sum2 (a b : Value) : argsOk "sum" ⟨[a, b], []⟩ := by unfold argsOk; kernel_rfl
theorem sub_list_str : isSubtype (.type "list") (.type "str") = pure false := by rw [isSubtype_type]; kernel_rfl
theorem sub_list_bytes : isSubtype (.type "list") (.type "bytes") = pure false := by rw [isSubtype_type]; kernel_rfl
theorem sub_list_bytearray : isSubtype (.type "list") (.type "bytearray") = pure false := by rw [isSubtype_type]; kernel_rfl
section
variable {prog : Program} {w : World} {A : Around} {R : Result → Shared → Prop} {I : Addr} {fp wr : List Addr} {n : Nat} {P : Nat → Value → Prop} {St : Nat → Heap → Prop}
theorem sumL_loop (W : Walks prog w A.in1 I fp wr n P St) (S : Addr) (hfp : ∀ b ∈ fp, b < S) (h0 : Heap) (ls : Nat → List Value) (st : List Value) (T0 : Addr)
    (hval : ∀ i v, i < n → P i v → ∃ a c, v = .ref a ∧ a ≠ S ∧ a ∉ wr ∧ IsLx h0 a (ls i).toArray c) (hsz : ∀ i, i ≤ n → (pre ls st i).length ≤ sizeLine) :
    ∀ (k i : Nat) (s : Shared) (T cT c : Nat), n - i = k → i ≤ n → St i s.heap → IsLx s.heap S #[.ref T] c → T ≠ S → T ∉ wr → IsLx s.heap T (pre ls st i).toArray cT →
    (∀ b o, b ∉ wr → b ≠ S → h0.get? b = some o → s.heap.get? b = some o) → (i = 0 → T = T0) → (0 < i → S < T) →
    (∀ h' tk T' cT', (∀ b o, b ∉ wr → b ≠ S → h0.get? b = some o → h'.get? b = some o) → IsLx h' T' (pre ls st n).toArray cT' → (n = 0 → T' = T0) → (0 < n → S < T') → R (.ok (.ret (.ref T'))) { s with heap := h', toks := tk }) →
    codeAny (model prog w) A (.builtin "sum.loop" ⟨[.ref I, .ref S, rawInt 2, rawInt 0], []⟩) R s := by
  have hSf : S ∉ fp := fun h => Nat.lt_irrefl _ (hfp _ h)
  have hSw : S ∉ wr := fun h => hSf (W.sub _ h)
  intro k
  induction k with
  | zero =>
    intro i s T cT c hk hi hst hS hTS hTw hT h0k hz hp hR
    have hin : i = n := by omega
    subst hin
    refine codeAny_builtin F.entry_sum_loop ?_
    rw [Around.under_plainId F.plain_sum_loop _]
    show wpAny _ A.in1 (seqItems? (.ref S) >>= _) _ _ s
    refine wpAny_bind (wpAny_seqItems hS rfl ?_)
    show wpAny _ A.in1 (tryCatch (pyNext (.ref I)) _ >>= _) _ _ s
    refine wpAny_bind (wpAny_tryCatch (W.done s _ _ hst fun h' tk hk' => ?_))
    exact wpAny_pure (hR h' tk T cT (fun b o hbw hbS e => hk' b o hbw (h0k b o hbw hbS e)) (hk' T _ hTw hT) hz hp)
  | succ k ih =>
    intro i s T cT c hk hi hst hS hTS hTw hT h0k hz hp hR
    have hlt : i < n := by omega
    refine codeAny_builtin F.entry_sum_loop ?_
    rw [Around.under_plainId F.plain_sum_loop _]
    show wpAny _ A.in1 (seqItems? (.ref S) >>= _) _ _ s
    refine wpAny_bind (wpAny_seqItems hS rfl ?_)
    show wpAny _ A.in1 (tryCatch (pyNext (.ref I)) _ >>= _) _ _ s
    refine wpAny_bind (wpAny_tryCatch (W.item i s _ _ hlt hst fun v h' tk hP hst' hk' => ?_))
    obtain ⟨a, ca, rfl, haS, haw, ha⟩ := hval i v hlt hP
    have hS' := hk' S _ hSw hS
    have hT' := hk' T _ hTw hT
    have ha' := hk' a _ haw (h0k a _ haw haS ha)
    have hSs : S < h'.objs.size := Heap.lt_size hS'
    have hadd := hsz (i + 1) (by omega)
    have hadd' : (pre ls st i).toArray.size + (ls i).toArray.size ≤ sizeLine := by
      have e : (pre ls st (i + 1)).length = (pre ls st i).length + (ls i).length := by show (pre ls st i ++ ls i).length = _; rw [List.length_append]
      rw [List.size_toArray, List.size_toArray, ← e]; exact hadd
    show wpAny _ A.in1 ((holding [Value.ref a] (binaryOp .Add (.ref T) (.ref a))).attempt >>= _) _ _ _
    refine wpAny_bind (wpAny_attempt (wpAny_holding (PySem.P.add_list (s := { s with heap := h', toks := tk }) hT' ha' ?_ hadd')))
    have hS2 := Heap.get?_push_of_some { cls := .type "list", data := .seq ((pre ls st i).toArray ++ (ls i).toArray) } hS'
    show wpAny _ A.in1 (updateSeq S (fun _ => #[.ref h'.objs.size]) >>= _) _ _ _
    refine wpAny_bind ?_
    refine wpAny_updateSeq hS2 rfl ?_
    have hS3 := Heap.get?_update_self (Obj.mapSeq fun _ => #[Value.ref h'.objs.size]) hS2 rfl
    refine wpAny_bind (wpAny_letGo ?_)
    refine wpAny_bind ?_
    have hoth : ∀ b o, b ≠ S → (h'.push { cls := .type "list", data := .seq ((pre ls st i).toArray ++ (ls i).toArray) }).get? b = some o →
        (((h'.push { cls := .type "list", data := .seq ((pre ls st i).toArray ++ (ls i).toArray) }).update S (Obj.mapSeq fun _ => #[Value.ref h'.objs.size])).update S (Obj.mapSeq fun _ => #[Value.ref h'.objs.size])).get? b = some o := fun b o hb e =>
      (Heap.get?_update_other _ _ (Ne.symm hb)).trans ((Heap.get?_update_other _ _ (Ne.symm hb)).trans e)
    refine wpAny_updateSeq hS3 rfl (wpAny_pure ⟨plainId_quiet F.plain_sum_loop _, ih (i + 1) _ h'.objs.size 0 _ (by omega) hlt (W.frame _ _ _ hst' fun b hb o e => ?_) (Heap.get?_update_self _ hS3 rfl) (Nat.ne_of_gt hSs) ?_ ?_ ?_ (fun e => absurd e (by omega)) (fun _ => hSs) fun h'' tk'' T'' cT'' g1 g2 g3 g4 => hR h'' tk'' T'' cT'' g1 g2 g3 g4⟩)
    · exact hoth b o (fun h : b = S => hSf (by rw [← h]; exact hb)) (Heap.get?_push_of_some _ e)
    · intro hw
      exact Nat.lt_irrefl _ (Nat.lt_trans (hfp _ (W.sub _ hw)) hSs)
    · refine hoth _ _ (Nat.ne_of_gt hSs) ?_
      have ea : (pre ls st i).toArray ++ (ls i).toArray = (pre ls st (i + 1)).toArray := by show _ = (pre ls st i ++ ls i).toArray; simp
      rw [ea]; exact Heap.get?_push_size _ rfl
    · intro b o hbw hbS e
      exact hoth b o hbS (Heap.get?_push_of_some _ (hk' b o hbw (h0k b o hbw hbS e)))
end
section
variable {prog : Program} {w : World} {A : Around} {E : Value → Shared → Prop} {s : Shared}
theorem call_sumL {l p0 : Addr} {its : List Value} {Q : Value → Shared → Prop} (hh : A.handled = none) (hl : s.heap.IsList l its.toArray) (ls : Nat → List Value) (st : List Value) (c0 : Nat) (hp0 : IsLx s.heap p0 st.toArray c0)
    (hval : ∀ i v, its[i]? = some v → ∃ a c, v = .ref a ∧ IsLx s.heap a (ls i).toArray c) (hsz : ∀ i, i ≤ its.length → (pre ls st i).length ≤ sizeLine)
    (h : ∀ h' tk T' cT', (∀ b o, s.heap.get? b = some o → h'.get? b = some o) → IsLx h' T' (pre ls st its.length).toArray cT' → (its.length = 0 → T' = p0) → (0 < its.length → s.heap.objs.size ≤ T') → Q (.ref T') { s with heap := h', toks := tk }) :
    wpAny (model prog w) A (call (.builtin "sum") [.ref l, .ref p0]) Q E s := by
  refine call_function_tree F.kind_sum F.plain_sum F.entry_sum (args_sum2 _ _) ?_
  unfold Builtin.«sum»
  simp only [List.length_cons, List.length_nil]
  rw [if_neg (by decide)]
  refine wpAny_bind (wpAny_of_eq (show Builtin.Builtins.bindParams "sum" ["start"] 0 ⟨[.ref p0], []⟩ = pure [some (.ref p0)] from rfl) ?_)
  have hlt : l < s.heap.objs.size := by obtain ⟨_, e, _⟩ := hl; exact Heap.lt_size e
  refine wpAny_bind (wpAny_pyIter_list hl ?_)
  refine wpAny_bind (wpAny_pure ?_)
  have hp1 := Heap.get?_push_of_some { cls := .type "list_iterator", data := .fields #[.ref l, .int 0 0] } hp0
  have tI : Shared.TypeIs { s with heap := s.heap.push { cls := .type "list_iterator", data := .fields #[.ref l, .int 0 0] } } (.ref p0) "list" := ⟨_, hp1, rfl⟩
  simp only [List.forIn_cons, List.forIn_nil]
  refine wpAny_bind (wpAny_bind (wpAny_bind (wpAny_isInstance (T := "list") (b := false) tI sub_list_str ?_)))
  simp only [Bool.false_eq_true, if_false]
  refine wpAny_pure (wpAny_bind (wpAny_bind (wpAny_isInstance (T := "list") (b := false) tI sub_list_bytes ?_)))
  simp only [Bool.false_eq_true, if_false]
  refine wpAny_pure (wpAny_bind (wpAny_bind (wpAny_isInstance (T := "list") (b := false) tI sub_list_bytearray ?_)))
  simp only [Bool.false_eq_true, if_false]
  refine wpAny_pure (wpAny_pure ?_)
  refine wpAny_bind (wpAny_newObj_type ?_)
  have hlI : l ≠ s.heap.objs.size := Nat.ne_of_lt hlt
  have W := Walks.list (prog := prog) (w := w) (A := A.in1) hh s.heap.objs.size l hlI its.toArray
  have hsz1 : (s.heap.push { cls := .type "list_iterator", data := .fields #[.ref l, .int 0 0] }).objs.size = s.heap.objs.size + 1 := Heap.size_push _ _
  refine wpAny_pure ⟨plainId_quiet F.plain_sum_loop _, sumL_loop W _ (fun b hb => ?_) s.heap ls st p0 (fun i v hi hv => ?_) (fun i hi => hsz i (by rw [List.size_toArray] at hi; exact hi)) its.toArray.size 0 _ p0 c0 0 rfl (Nat.zero_le _) ?_ (Heap.get?_push_size _ rfl) ?_ ?_ ?_ ?_ (fun _ => rfl) (fun e => absurd e (Nat.lt_irrefl _)) fun h' tk T' cT' g1 g2 g3 g4 => ?_⟩
  · rw [hsz1]
    rcases List.mem_cons.mp hb with e | hb
    · rw [e]; exact Nat.lt_succ_self _
    · rw [List.mem_singleton.mp hb]; exact Nat.lt_succ_of_lt hlt
  · have hv' : its[i]? = some v := by simpa using hv
    obtain ⟨a, c, e, ha⟩ := hval i v hv'
    have hal := Heap.lt_size ha
    refine ⟨a, c, e, ?_, ?_, ha⟩
    · rw [hsz1]; exact Nat.ne_of_lt (Nat.lt_succ_of_lt hal)
    · intro hm; exact Nat.ne_of_lt hal (List.mem_singleton.mp hm)
  · refine W.frame 0 _ _ (show _ ∧ _ from ⟨⟨_, Heap.get?_push_size _ rfl, rfl, rfl⟩, hl.push _⟩) fun b _ o e => Heap.get?_push_of_some _ e
  · rw [hsz1]; exact Nat.ne_of_lt (Nat.lt_succ_of_lt (Heap.lt_size hp0))
  · intro hm; exact Nat.ne_of_lt (Heap.lt_size hp0) (List.mem_singleton.mp hm)
  · exact Heap.get?_push_of_some _ hp1
  · intro b o _ _ e; exact Heap.get?_push_of_some _ (Heap.get?_push_of_some _ e)
  · rw [List.size_toArray] at g2 g3 g4
    rw [hsz1] at g4
    refine h h' tk T' cT' (fun b o e => g1 b o (fun hm => ?_) ?_ e) g2 g3 (fun e => Nat.le_of_lt (Nat.lt_of_succ_lt (g4 e)))
    · exact Nat.ne_of_lt (Heap.lt_size e) (List.mem_singleton.mp hm)
    · rw [hsz1]; exact Nat.ne_of_lt (Nat.lt_succ_of_lt (Heap.lt_size e))
end
end Pc
namespace Pc
open PySem PySem.Spec PyProof.Rows L2 RZ
/-! ### sum(lists, start), as a rule -/
def Lsts (H : Hp) (as : List Addr) (xss : List (List V)) : Prop := Paired (fun a xs => H a = some (.lst xs)) as xss
theorem pre_take (vss : List (List Value)) (st : List Value) : ∀ i, i ≤ vss.length → pre (fun i => vss.getD i []) st i = st ++ (vss.take i).flatten
  | 0, _ => by simp [pre]
  | i + 1, h => by
    show pre (fun i => vss.getD i []) st i ++ vss.getD i [] = _
    rw [pre_take vss st i (by omega), List.take_add_one, List.getD_eq_getElem?_getD, List.getElem?_eq_getElem (show i < vss.length by omega), List.flatten_append, List.append_assoc]
    show _ ++ (_ ++ vss[i]) = _ ++ (_ ++ [vss[i]].flatten)
    rw [List.flatten_cons, List.flatten_nil, List.append_nil]
theorem flat_take_le (vss : List (List Value)) (i : Nat) : (vss.take i).flatten.length ≤ vss.flatten.length := by
  have e : vss.flatten = (vss.take i).flatten ++ (vss.drop i).flatten := by rw [← List.flatten_append, List.take_append_drop]
  rw [e, List.length_append]; omega
theorem lsts_vals {X : Cx} {pins : List (Addr × Obj)} {σ : L2.St} {H : Hp} {s : Shared} (I : Inv X pins σ H s) : ∀ {as : List Addr} {xss : List (List V)}, Lsts H as xss →
    ∃ vss : List (List Value), vss.length = as.length ∧ (∀ i b, as[i]? = some b → ∃ c, IsLx s.heap b (vss.getD i []).toArray c) ∧ Vals xss.flatten vss.flatten
  | [], _, .nil => ⟨[], rfl, fun i b h => by simp at h, .nil⟩
  | _ :: _, _, .cons h r => by
    obtain ⟨vss, e1, e2, e3⟩ := lsts_vals I r
    obtain ⟨_, its, n, rv, _, e⟩ := I.lstM h
    refine ⟨its :: vss, by rw [List.length_cons, List.length_cons, e1], fun i b hb => ?_, ?_⟩
    · cases i with
      | zero => cases Option.some.inj hb; exact ⟨n, e⟩
      | succ i => obtain ⟨c, hc⟩ := e2 i b hb; exact ⟨c, hc⟩
    · rw [List.flatten_cons, List.flatten_cons]; exact rv.append e3
def rSumL (K : PySem.W.Frag) : List V → Hp → VK → Prop := fun vs H Q => ∃ (a p0 : Addr) (as : List Addr) (xss : List (List V)) (st : List V), vs = [.ref a, .ref p0] ∧ SqL K H a (as.map V.ref) ∧ H p0 = some (.lst st) ∧ Lsts H as xss ∧ st.length + xss.flatten.length ≤ sizeLine ∧
  ∀ (H' : Hp) (r : Addr), Same H H' → (r = p0 ∨ H r = none) → H' r = some (.lst (st ++ xss.flatten)) → Q (.ref r) H'
theorem cr_sumL {X : Cx} (hc : X.calm = true) : CallR X (.builtin "sum") (rSumL X.K) := by
  intro pins s σ H vs us Q I r h
  obtain ⟨a, p0, as, xss, st, rfl, hs, hp0, hL, hz, q⟩ := h
  obtain ⟨its, rv, hl, _⟩ := I.list hs
  obtain ⟨vss, e1, e2, e3⟩ := lsts_vals I hL
  obtain ⟨_, sv, c0, rs, _, ep⟩ := I.lstM hp0
  obtain ⟨u, u', rfl, r1, r2⟩ := vals2 r
  cases r1
  cases r2
  have hlen : its.length = vss.length := by rw [← rv.length, List.length_map, e1]
  have hall : Vals (st ++ xss.flatten) (sv ++ vss.flatten) := rs.append e3
  have hfl : vss.flatten.length = xss.flatten.length := e3.length.symm
  have hst : sv.length = st.length := rs.length.symm
  have hend : pre (fun i => vss.getD i []) sv its.length = sv ++ vss.flatten := by rw [pre_take vss sv _ (by omega), hlen, List.take_length]
  refine call_sumL (I.ok.hd hc) hl.isList (fun i => vss.getD i []) sv c0 ep (fun i v hv => ?_) (fun i hi => ?_) fun h' tk T' cT' k1 k2 k3 k4 => ?_
  · rw [refs_at rv, List.getElem?_map] at hv
    obtain ⟨b, hb, rfl⟩ := Option.map_eq_some_iff.mp hv
    obtain ⟨c, hc'⟩ := e2 i b hb
    exact ⟨b, c, rfl, hc'⟩
  · rw [pre_take vss sv i (by omega), List.length_append]
    have := flat_take_le vss i
    omega
  · rw [hend] at k2
    by_cases h0 : its.length = 0
    · have hv0 : vss = [] := List.length_eq_zero_iff.mp (by omega)
      have hx0 : xss.flatten = [] := List.length_eq_zero_iff.mp (by rw [← hfl, hv0]; rfl)
      rw [k3 h0]
      exact ⟨.ref p0, H, I.kept k1, rfl, q H p0 (fun _ _ z => z) (.inl rfl) (by rw [hx0, List.append_nil]; exact hp0)⟩
    · have h1 := k4 (Nat.pos_of_ne_zero h0)
      have hn : H T' = none := I.hok.fresh h1
      refine ⟨.ref T', upd H T' (.lst (st ++ xss.flatten)), I.laid (t' := tk) k1 h1 ⟨by rw [List.length_append]; exact hz, sv ++ vss.flatten, cT', hall, k2⟩, rfl, q _ T' (same_new hn) (.inr hn) upd_same⟩
end Pc
/-! ### sorted(xs) of tuples of ints of one length, any number of them -/
namespace SrtO
open PySem PySem.Spec PyProof.Rows
theorem swo_code (k : Value → Int) : Swo fun v u => decide (k v < k u) :=
  ⟨fun x y h => decide_eq_false (by have := of_decide_eq_true h; omega), fun x y z h1 h2 => decide_eq_false (by have a := of_decide_eq_false h1; have b := of_decide_eq_false h2; omega)⟩
section
variable {prog : Program} {w : World} {A : Around} {E : Value → Shared → Prop} {s : Shared}
theorem tup_cmp {vs : List Value} {d : Nat} {B : Int} {c : Value → List Int} (hp : ∀ v ∈ vs, TS.TupInts s.heap v (c v) ∧ (c v).length = d ∧ TS.Bd B (c v)) :
    Cmp prog w A s (tuples' true) (fun p => p.1 ∈ vs) (lt2 fun v u => decide (TS.code B (c v) < TS.code B (c u))) := by
  intro p q hm hm'
  obtain ⟨h1, l1, b1⟩ := hp _ hm
  obtain ⟨h2, l2, b2⟩ := hp _ hm'
  show wpAny (model prog w) A (keyLt' (tuples' true) p.1 q.1) (fun r s' => s' = s ∧ r = decide (TS.code B (c p.1) < TS.code B (c q.1))) (fun _ _ => False) s
  generalize c p.1 = ns at h1 l1 b1 ⊢
  generalize c q.1 = ms at h2 l2 b2 ⊢
  obtain ⟨a, xs, e, ⟨o, ho, hc, n, hd⟩, i⟩ := h1
  obtain ⟨a', xs', e', ⟨o', ho', hc', n', hd'⟩, i'⟩ := h2
  rw [e, e']
  refine PySem.W.kat_lt ho hd ho' hd' ?_
  have hsz : decide (xs.size < xs'.size) = false := decide_eq_false (by
    have x1 := i.length
    have x2 := i'.length
    rw [Array.length_toList] at x1 x2
    omega)
  rw [hsz]
  exact TS.lex_ints 0 i i' (by omega) b1 b2 ⟨rfl, rfl⟩
theorem tups_sortableO {a : Addr} {vs : List Value} {d : Nat} {B : Int} {c : Value → List Int} (hd : 1 ≤ d) (h0 : 0 < vs.length) (hp : ∀ v ∈ vs, TS.TupInts s.heap v (c v) ∧ (c v).length = d ∧ TS.Bd B (c v)) (ha : ∀ o, s.heap.get? a = some o → o.cls ≠ .type "tuple") :
    SortableO prog w A s a vs fun v u => decide (TS.code B (c v) < TS.code B (c u)) := by
  intro h' keep
  have hp' : ∀ v ∈ vs, TS.TupInts h' v (c v) ∧ (c v).length = d ∧ TS.Bd B (c v) := fun v hm => ⟨(hp v hm).1.keeps fun b o e c => keep b o (fun z => by subst z; exact ha o e c) e, (hp v hm).2⟩
  obtain ⟨fs, h1, h2, h3⟩ := TS.firsts_of hd vs (fun v hm => ⟨_, (hp' v hm).1, (hp' v hm).2⟩ : TS.TupsOk h' d B vs)
  refine ⟨tuples' true, fun Q E hq => ?_, tup_cmp hp'⟩
  refine PySem.W.kat_kind (T := .type "int") h1 (by omega) (fun f hm => ?_) (by rfl) ?_
  · obtain ⟨x, t, rfl⟩ := h3 f hm
    exact PySem.W.Looks.now
  · have e : (Value.type "int" != Value.type "tuple") = true := by first | decide +kernel | rfl | decide
    rw [e]
    exact hq
theorem sorted_tupsO {l : Addr} {vs : List Value} {d : Nat} {B : Int} {c : Value → List Int} {Q : Value → Shared → Prop} (hd : 1 ≤ d) (hl : s.heap.IsList l vs.toArray) (hz : vs.length ≤ sizeLine) (hp : ∀ v ∈ vs, TS.TupInts s.heap v (c v) ∧ (c v).length = d ∧ TS.Bd B (c v))
    (h : ∀ (h' : Heap) (e : Addr) (out : List Value), Srtd (fun v u => decide (TS.code B (c v) < TS.code B (c u))) out → out.Perm vs → (∀ b o, s.heap.get? b = some o → h'.get? b = some o) → s.heap.objs.size ≤ e → (∃ n, h'.get? e = some (seqObj "list" out.toArray n)) → Q (.ref e) { s with heap := h' }) :
    wpAny (model prog w) A (call (.builtin "sorted") [.ref l]) Q E s := by
  refine sorted_ord (swo_code fun v => TS.code B (c v)) hl hz (fun h2 h₁ a ha kk => ?_) fun out hs hb => ?_
  · refine tups_sortableO (s := { s with heap := h₁ }) hd (by omega) (fun v hm => ⟨(hp v hm).1.keeps fun b o e _ => (kk b o e).2, (hp v hm).2⟩) fun o e => ?_
    have e' : some o = some (seqObj "list" vs.toArray 0) := e.symm.trans ha
    cases e'
    intro c
    exact absurd (Value.type.inj c) (by decide)
  · exact h _ _ out hs hb.perm (fun b o e => sortedAll_old e) (Nat.le_succ _) (sortedAll_at s.heap vs out.toArray)
end
end SrtO
namespace L2
open PySem PySem.Spec PyProof.Rows
def rSortTL (K : PySem.W.Frag) (d : Nat) (B : Int) : List V → Hp → VK → Prop := fun vs H Q => ∃ (a : Addr) (xs : List V), vs = [V.ref a] ∧ SqL K H a xs ∧ (∀ x ∈ xs, ∃ ns, TupI K H x ns ∧ ns.length = d ∧ TS.Bd B ns) ∧
  ∀ (ys : List V) (p : Addr), ys.Perm xs → ys.Pairwise (fun x y => ∀ n m, TupI K H x n → TupI K H y m → TS.code B n ≤ TS.code B m) → H p = none → Q (.ref p) (upd H p (.lst ys))
/-- sorted(xs), xs a list of tuples of d ints in [0, B), any number of them: a new list of the same, ascending by code B -/
theorem cr_sortTL {X : Cx} {d : Nat} {B : Int} (hd : 1 ≤ d) : CallR X (.builtin "sorted") (rSortTL X.K d B) := by
  intro pins s σ H vs us Q I r h
  obtain ⟨a, xs, rfl, hs, hx, q⟩ := h
  obtain ⟨its, rv, hl, hz⟩ := I.list hs
  rw [Vals.ref1 r]
  obtain ⟨e1, e2⟩ := bkV_refs rv fun x m => by
    obtain ⟨ns, ⟨t, e, _⟩, _⟩ := hx x m
    exact ⟨t, e⟩
  refine SrtO.sorted_tupsO (d := d) (B := B) (c := TS.intsOf s.heap) hd hl.isList (by rw [← rv.length]; exact hz) (fun v hv => ?_) fun h' e out h1 h2 kp hge hn => ?_
  · obtain ⟨t, rfl⟩ := e2 v hv
    have hm : V.ref t ∈ xs := by
      rw [e1]
      exact List.mem_map.mpr ⟨_, hv, rfl⟩
    obtain ⟨ns, ⟨t', e, ht⟩, hn, hb⟩ := hx _ hm
    cases e
    have k := tupI_raw I ht
    rw [k.ints]
    exact ⟨k, hn, hb⟩
  · have h3 : ∀ u ∈ out, ∃ a, u = Value.ref a := fun u hu => e2 u (h2.mem_iff.mp hu)
    have hp : (out.map bkV).Perm xs := by
      rw [e1]
      exact h2.map bkV
    obtain ⟨n, hn⟩ := hn
    refine ⟨.ref e, upd H e (.lst (out.map bkV)), I.laid (t' := s.toks) kp hge ⟨by rw [hp.length_eq]; exact hz, out, n, bkV_vals h3, hn⟩, rfl, q _ e hp ?_ (I.hok.fresh hge)⟩
    rw [List.pairwise_map]
    refine List.Pairwise.imp (fun {u v} huv n m hn hm => ?_) h1
    obtain ⟨t, et, ht⟩ := hn
    obtain ⟨t', et', ht'⟩ := hm
    have eu := bkV_ref et
    have ev := bkV_ref et'
    have i1 : TS.intsOf s.heap u = n := by
      rw [eu]
      exact (tupI_raw I ht).ints
    have i2 : TS.intsOf s.heap v = m := by
      rw [ev]
      exact (tupI_raw I ht').ints
    rw [← i1, ← i2]
    have := of_decide_eq_false huv
    omega
end L2
namespace Pc
open PySem PySem.Spec PyProof.Rows L2 RZ
/-! ### the order of tuples of numbers, by code -/
abbrev zs (l : List Nat) : List Int := l.map fun i : Nat => (i : Int)
theorem zs_bd {l : List Nat} {B : Nat} (h : ∀ i ∈ l, i < B) : TS.Bd (B : Int) (zs l) := fun m hm => by
  obtain ⟨i, hi, rfl⟩ := List.mem_map.mp hm
  have := h i hi
  omega
theorem code_first {B : Nat} : ∀ {p q : List Nat} {i : Nat}, p.length = q.length → (∀ x ∈ p, x < B) → (∀ x ∈ q, x < B) → i < p.length → (∀ j, j < i → p.getD j 0 = q.getD j 0) → p.getD i 0 < q.getD i 0 → TS.code (B : Int) (zs p) < TS.code (B : Int) (zs q)
  | [], _, _, _, _, _, hi, _, _ => absurd hi (Nat.not_lt_zero _)
  | _ :: _, [], _, hl, _, _, _, _, _ => by simp at hl
  | x :: p, y :: q, 0, hl, h1, h2, _, _, h => by
    have h : x < y := h
    exact TS.code_lt (by simpa using hl) (zs_bd fun z hz => h1 z (List.mem_cons_of_mem _ hz)) (zs_bd fun z hz => h2 z (List.mem_cons_of_mem _ hz)) (show (x : Int) < (y : Int) by omega)
  | x :: p, y :: q, i + 1, hl, h1, h2, hi, he, h => by
    have e : x = y := he 0 (by omega)
    subst e
    refine (TS.code_same (by simpa using hl)).mpr (code_first (i := i) (by simpa using hl) (fun z hz => h1 z (List.mem_cons_of_mem _ hz)) (fun z hz => h2 z (List.mem_cons_of_mem _ hz)) (by simpa using hi) (fun j hj => he (j + 1) (by omega)) h)
theorem code_blw {n : Nat} {p q : List Nat} (hp : IsPair n p) (hq : IsPair n q) (h : Blw (List.range n) (fun x => p.getD x 0) (fun x => q.getD x 0)) : TS.code (n : Int) (zs p) < TS.code (n : Int) (zs q) := by
  obtain ⟨x, hx, h1, h2⟩ := h
  have xn := List.mem_range.mp hx
  exact code_first (by rw [hp.len, hq.len]) hp.lt hq.lt (by rw [hp.len]; exact xn) (fun j hj => h1 j (List.mem_range.mpr (by omega)) hj) h2
theorem zs_nv (l : List Nat) : (zs l).map V.int = nv l := by unfold nv; rw [List.map_map]; rfl
/-- what is sorted stays as it is -/
theorem sorted_same {K : PySem.W.Frag} {H : Hp} {B : Int} : ∀ {as : List Addr} {ls : List (List Nat)} {ys : List V}, Tups H as ls → ls.Pairwise (fun a b => TS.code B (zs a) < TS.code B (zs b)) → ys.Perm (as.map V.ref) →
    ys.Pairwise (fun x y => ∀ n m, TupI K H x n → TupI K H y m → TS.code B n ≤ TS.code B m) → ys = as.map V.ref
  | _, _, ys, .nil, _, hp, _ => List.perm_nil.mp hp
  | a :: as, l :: ls, ys, .cons ha ht, hasc, hp, hs => by
    have ti : ∀ {b : Addr} {k : List Nat}, H b = some (.tup (nv k)) → TupI K H (.ref b) (zs k) := fun e => ⟨_, rfl, by rw [zs_nv]; exact .inl (.inl e)⟩
    obtain ⟨h1, h2⟩ := List.pairwise_cons.mp hasc
    cases ys with
    | nil => have := hp.length_eq; simp at this
    | cons y ys =>
      have hy : y ∈ (a :: as).map V.ref := hp.mem_iff.mp (List.mem_cons_self ..)
      have e : y = .ref a := by
        rcases List.mem_cons.mp (show y ∈ V.ref a :: as.map V.ref from hy) with e | hy2
        · exact e
        · obtain ⟨b, hb, rfl⟩ := List.mem_map.mp hy2
          obtain ⟨i, hi, eb⟩ := List.getElem_of_mem hb
          obtain ⟨k, hk, ek⟩ := tups_get ht (show as[i]? = some b by rw [List.getElem?_eq_getElem hi, eb])
          have lt := h1 k (List.mem_of_getElem? hk)
          rcases List.mem_cons.mp (hp.mem_iff.mpr (show V.ref a ∈ (a :: as).map V.ref from List.mem_cons_self ..)) with e | hx
          · exact e.symm
          · have := (List.pairwise_cons.mp hs).1 _ hx _ _ (ti ek) (ti ha)
            omega
      subst e
      rw [sorted_same ht h2 (List.Perm.cons_inv (show (V.ref a :: ys).Perm (V.ref a :: as.map V.ref) from hp)) (List.pairwise_cons.mp hs).2]
      rfl
end Pc
namespace Pc
open PySem PySem.Spec PyProof.Rows L2 RZ
theorem pat_lt {r k1 k2 : Nat} (h : k1 < k2) (hk : k2 < dfac r) : Blw (List.range (2 * r)) (fun x => (pat r k1).getD x 0) (fun x => (pat r k2).getD x 0) := by
  have h1 := pat_pair (show k1 < dfac r by omega)
  have h2 := pat_pair hk
  refine rk_order r List.length_range List.pairwise_lt_range (pair_clo h1) (pair_clo h2) ?_
  have e1 := prk_pat (show k1 < dfac r by omega)
  have e2 := prk_pat hk
  show prk r (pat r k1) < prk r (pat r k2)
  omega
end Pc
namespace L2
open PySem PySem.Spec PyProof.Rows
/-- sorted(xs) as cr_sortTL, the size and the bound told when it is read -/
def rSortTA (K : PySem.W.Frag) : List V → Hp → VK → Prop := fun vs H Q => ∃ (d : Nat) (B : Int), 1 ≤ d ∧ rSortTL K d B vs H Q
theorem cr_sortTA {X : Cx} : CallR X (.builtin "sorted") (rSortTA X.K) := by
  intro pins s σ H vs us Q I r h
  obtain ⟨d, B, hd, h⟩ := h
  exact cr_sortTL (d := d) (B := B) hd pins s σ H vs us Q I r h
end L2
namespace Pc
open PySem PySem.Spec PyProof.Rows L2 RZ
/-! ### one step of a comprehension -/
theorem nv_some {L : List Nat} {i : Nat} {v : V} (h : (nv L)[i]? = some v) : ∃ w, L[i]? = some w ∧ v = .int (w : Nat) := by
  unfold nv at h
  rw [List.getElem?_map] at h
  obtain ⟨w, hw, e⟩ := Option.map_eq_some_iff.mp h
  exact ⟨w, hw, e.symm⟩
theorem tups_next {H1 H' H2 : Hp} {D t : Addr} {us : List Addr} {QS : List (List Nat)} {i : Nat} {l : List Nat} (nD : H1 D = none) (sm : Same H1 H') (eD : H' D = some (.lst (us.map V.ref))) (hU : Tups H' us (QS.take i)) (hk : QS[i]? = some l) (hb : QS.length ≤ 100000)
    (s2 : Same H' H2) (nt : H' t = none) (et : H2 t = some (.tup (nv l))) : ∃ acc, H2 D = some (.lst acc) ∧ acc.length < sizeLine ∧
      (Same H1 (upd H2 D (.lst (acc ++ [.ref t]))) ∧ ∃ us' : List Addr, (upd H2 D (.lst (acc ++ [.ref t]))) D = some (.lst (us'.map V.ref)) ∧ Tups (upd H2 D (.lst (acc ++ [.ref t]))) us' (QS.take (i + 1))) := by
  have eD2 := s2 _ _ eD
  have tD : t ≠ D := fun z => by rw [z, eD] at nt; cases nt
  refine ⟨_, eD2, ?_, fun b' o hb' => ?_, us ++ [t], ?_, ?_⟩
  · rw [List.length_map, hU.length]; exact line_big (Nat.le_trans (List.length_take_le' _ _) hb)
  · rw [upd_ne (ne_of_none hb' nD)]; exact s2 _ _ (sm _ _ hb')
  · rw [upd_same, List.map_append]; rfl
  · rw [List.take_add_one, hk]
    exact tups_append (tups_keep (b := D) keep_upd eD2 (tups_same s2 hU)) (.cons (by rw [upd_ne tD]; exact et) .nil)
theorem nv_take1 {L : List Nat} {i x : Nat} (h : L[i]? = some x) : nv (L.take i) ++ [V.int (x : Nat)] = nv (L.take (i + 1)) := by
  rw [List.take_add_one, h]
  unfold nv
  rw [List.map_append]
  rfl
theorem nv_next {H1 H' H2 : Hp} {D : Addr} {L : List Nat} {i x : Nat} (nD : H1 D = none) (sm : Same H1 H') (eD : H' D = some (.lst (nv (L.take i)))) (hk : L[i]? = some x) (hb : L.length ≤ 100000)
    (s2 : Same H' H2) : ∃ acc, H2 D = some (.lst acc) ∧ acc.length < sizeLine ∧ (Same H1 (upd H2 D (.lst (acc ++ [.int (x : Nat)]))) ∧ (upd H2 D (.lst (acc ++ [.int (x : Nat)]))) D = some (.lst (nv (L.take (i + 1))))) := by
  have eD2 := s2 _ _ eD
  refine ⟨_, eD2, ?_, fun b' o hb' => ?_, ?_⟩
  · rw [nv_length]; exact line_big (Nat.le_trans (List.length_take_le' _ _) hb)
  · rw [upd_ne (ne_of_none hb' nD)]; exact s2 _ _ (sm _ _ hb')
  · rw [upd_same, nv_take1 hk]
theorem yes_next {H1 H' H2 : Hp} {D : Addr} {i : Nat} (nD : H1 D = none) (sm : Same H1 H') (eD : H' D = some (.lst (List.replicate i (.bl true)))) (hb : i ≤ 100000)
    (s2 : Same H' H2) : ∃ acc, H2 D = some (.lst acc) ∧ acc.length < sizeLine ∧ (Same H1 (upd H2 D (.lst (acc ++ [.bl true]))) ∧ (upd H2 D (.lst (acc ++ [.bl true]))) D = some (.lst (List.replicate (i + 1) (.bl true)))) := by
  have eD2 := s2 _ _ eD
  refine ⟨_, eD2, ?_, fun b' o hb' => ?_, ?_⟩
  · rw [List.length_replicate]; exact line_big hb
  · rw [upd_ne (ne_of_none hb' nD)]; exact s2 _ _ (sm _ _ hb')
  · rw [upd_same, List.replicate_succ']
/-- what a set of numbers gives, in order -/
theorem asc_nats {ns ms : List Int} {B : Nat} (hp : ns.Pairwise (· < ·)) (hm : ∀ k, k ∈ ns ↔ k ∈ ms) (hb : ∀ k ∈ ms, 0 ≤ k ∧ k < (B : Int)) (h0 : ms ≠ []) :
    ∃ L : List Nat, ns.map V.int = nv L ∧ L.length = ns.length ∧ L.Pairwise (· < ·) ∧ (∀ x ∈ L, x < B) ∧ L ≠ [] ∧ ∀ x : Nat, x ∈ L ↔ (x : Int) ∈ ms := by
  have h1 : ∀ k ∈ ns, ((k.toNat : Nat) : Int) = k ∧ k < (B : Int) := fun k hk => by
    have := hb k ((hm k).mp hk)
    exact ⟨by omega, this.2⟩
  refine ⟨ns.map Int.toNat, ?_, List.length_map _, ?_, fun x hx => ?_, fun e => ?_, fun x => ?_⟩
  · unfold nv
    rw [List.map_map]
    refine List.map_congr_left fun k hk => ?_
    show V.int k = V.int ((k.toNat : Nat) : Int)
    rw [(h1 k hk).1]
  · rw [List.pairwise_map]
    exact List.Pairwise.imp_of_mem (fun {a b} ha hb' hab => by
      have := (h1 a ha).1
      have := (h1 b hb').1
      omega) hp
  · obtain ⟨k, hk, rfl⟩ := List.mem_map.mp hx
    have := h1 k hk
    omega
  · obtain ⟨k, hk⟩ := List.exists_mem_of_ne_nil ms h0
    have : k.toNat ∈ ns.map Int.toNat := List.mem_map_of_mem ((hm k).mpr hk)
    rw [e] at this
    cases this
  · constructor
    · intro hx
      obtain ⟨k, hk, e⟩ := List.mem_map.mp hx
      rw [← e, (h1 k hk).1]
      exact (hm k).mp hk
    · intro hx
      have := List.mem_map_of_mem (f := Int.toNat) ((hm _).mpr hx)
      simpa using this
theorem pw_map_lt {L : List Nat} {R : List Nat → List Nat → Prop} {G : Nat → List Nat} (h : L.Pairwise (· < ·)) (hG : ∀ x ∈ L, ∀ y ∈ L, x < y → R (G x) (G y)) : (L.map G).Pairwise R := by
  rw [List.pairwise_map]
  exact List.Pairwise.imp_of_mem (fun {a b} ha hb hab => hG a ha b hb hab) h
/-- tuples of numbers below B are what sorted wants -/
theorem tups_srt {K : PySem.W.Frag} {H : Hp} {d B : Nat} : ∀ {as : List Addr} {ls : List (List Nat)}, Tups H as ls → (∀ l ∈ ls, l.length = d ∧ ∀ i ∈ l, i < B) → ∀ x ∈ as.map V.ref, ∃ ns, TupI K H x ns ∧ ns.length = d ∧ TS.Bd (B : Int) ns
  | _, _, .nil, _ => fun x hx => absurd hx List.not_mem_nil
  | a :: as, l :: ls, .cons h r, hb => fun x hx => by
    rcases List.mem_cons.mp (show x ∈ V.ref a :: as.map V.ref from hx) with e | hx
    · subst e
      obtain ⟨h1, h2⟩ := hb l List.mem_cons_self
      exact ⟨zs l, ⟨a, rfl, by rw [zs_nv]; exact .inl (.inl h)⟩, by rw [List.length_map]; exact h1, zs_bd h2⟩
    · exact tups_srt r (fun m hm => hb m (List.mem_cons_of_mem _ hm)) x hx
end Pc
namespace Pc
open PySem PySem.Spec PyProof.Rows L2 RZ
theorem fi_tupsW {ls : List (List Nat)} (h : ls.length ≤ 200 ∧ ∀ l ∈ ls, l.length ≤ 100 ∧ ∀ i ∈ l, i < 2 ^ 60) : Fi 3 (.list (ls.map td)) := (fine_tds (n := 200) (m := 100) h.2 h.1 (by decide) (by decide)).mono (by decide) (by decide)
end Pc
namespace Pc
open PySem PySem.Spec PyProof.Rows L2 RZ
/-! ### all pairings, level by level -/
def exs (n : Nat) (s : List (Nat × Nat)) : List (List (Nat × Nat)) := (fre n s).tail.map fun m => s ++ [((fre n s).getD 0 0, m)]
def lvl (n : Nat) : Nat → List (List (Nat × Nat))
  | 0 => [[]]
  | t + 1 => (lvl n t).flatMap (exs n)
theorem fre_next {n m : Nat} {s : List (Nat × Nat)} (hm : m ∈ (fre n s).tail) : fre n (s ++ [((fre n s).getD 0 0, m)]) = (fre n s).tail.filter fun w => !decide (w = m) := by
  rw [fre_snoc]
  have ha := fre_asc n s
  cases e : fre n s with
  | nil => rw [e] at hm; cases hm
  | cons h t =>
    rw [e] at ha
    have hlt := (List.pairwise_cons.mp ha).1
    show (h :: t).filter (fun x => !(decide (x = h) || decide (x = m))) = t.filter fun w => !decide (w = m)
    rw [List.filter_cons_of_neg (by rw [decide_eq_true rfl, Bool.true_or]; decide)]
    refine List.filter_congr fun x hx => ?_
    have := hlt x hx
    rw [decide_eq_false (show x ≠ h by omega), Bool.false_or]
theorem fre_tl {n : Nat} {s : List (Nat × Nat)} : (fre n s).tail.Nodup := by
  have := (fre_asc n s).imp (fun {a b} h => Nat.ne_of_lt h)
  cases e : fre n s with
  | nil => exact List.nodup_nil
  | cons h t => rw [e] at this; exact (List.pairwise_cons.mp this).2
theorem exs_len {n j : Nat} {s s' : List (Nat × Nat)} (h : (fre n s).length = 2 * (j + 1)) (hs : s' ∈ exs n s) : (fre n s').length = 2 * j ∧ s'.length = s.length + 1 := by
  obtain ⟨m, hm, rfl⟩ := List.mem_map.mp hs
  rw [fre_next hm]
  obtain ⟨i, hi, ei⟩ := List.getElem_of_mem hm
  rw [filt_erase fre_tl (show _[i]? = some m by rw [List.getElem?_eq_getElem hi, ei]), List.length_eraseIdx_of_lt hi, List.length_tail, h, List.length_append]
  exact ⟨by omega, rfl⟩
theorem lvl_len {r : Nat} : ∀ t, t ≤ r → ∀ s ∈ lvl (2 * r) t, (fre (2 * r) s).length = 2 * (r - t) ∧ s.length = t
  | 0, _, s, hs => by
    rw [List.mem_singleton.mp (show s ∈ [[]] from hs), fre_nil, List.length_range]
    exact ⟨by omega, rfl⟩
  | t + 1, ht, s, hs => by
    obtain ⟨s0, h0, h1⟩ := List.mem_flatMap.mp (show s ∈ (lvl (2 * r) t).flatMap (exs (2 * r)) from hs)
    obtain ⟨a, b⟩ := lvl_len t (by omega) s0 h0
    obtain ⟨c, d⟩ := exs_len (j := r - (t + 1)) (by rw [a]; omega) h1
    exact ⟨c, by omega⟩
theorem lvl_evs {n : Nat} : ∀ (j t : Nat), (∀ s ∈ lvl n t, (fre n s).length = 2 * j) → lvl n (t + j) = (lvl n t).flatMap fun s => (evs j (fre n s)).map fun more => s ++ more
  | 0, t, _ => by
    show lvl n t = (lvl n t).flatMap fun s => [s ++ []]
    rw [List.flatMap_def]
    generalize lvl n t = L
    induction L with
    | nil => rfl
    | cons a L ih => rw [List.map_cons, List.flatten_cons, ← ih, List.append_nil]; rfl
  | j + 1, t, h => by
    rw [show t + (j + 1) = (t + 1) + j by omega, lvl_evs j (t + 1) (fun s hs => by
      obtain ⟨s0, h0, h1⟩ := List.mem_flatMap.mp (show s ∈ (lvl n t).flatMap (exs n) from hs)
      exact (exs_len (h s0 h0) h1).1)]
    show ((lvl n t).flatMap (exs n)).flatMap _ = _
    rw [List.flatMap_assoc]
    refine fmap_congr fun s hs => ?_
    unfold exs
    rw [List.flatMap_map]
    show _ = ((fre n s).tail.flatMap fun m => (evs j ((fre n s).tail.filter fun w => !decide (w = m))).map fun more => ((fre n s).getD 0 0, m) :: more).map fun more => s ++ more
    rw [List.map_flatMap]
    refine fmap_congr fun m hm => ?_
    rw [fre_next hm, List.map_map]
    exact List.map_congr_left fun more _ => by show (s ++ [_]) ++ more = s ++ (_ :: more); rw [List.append_assoc]; rfl
theorem lvl_all (r : Nat) : lvl (2 * r) r = evs r (List.range (2 * r)) := by
  have h := lvl_evs (n := 2 * r) r 0 (fun s hs => by have := (lvl_len 0 (Nat.zero_le r) s hs).1; rw [this]; rfl)
  rw [Nat.zero_add] at h
  rw [h]
  show [[]].flatMap _ = _
  rw [List.flatMap_cons, List.flatMap_nil, List.append_nil, fre_nil]
  exact List.map_id' _
theorem flat_ge {α β : Type} {f : α → List β} : ∀ {l : List α}, (∀ x ∈ l, 1 ≤ (f x).length) → l.length ≤ (l.flatMap f).length
  | [], _ => Nat.le_refl _
  | x :: l, h => by
    rw [List.flatMap_cons, List.length_append, List.length_cons]
    have := h x List.mem_cons_self
    have := flat_ge (l := l) fun y hy => h y (List.mem_cons_of_mem _ hy)
    omega
theorem evs_ln {j : Nat} {l : List Nat} (h : l.length = 2 * j) (hd : l.Nodup) : (evs j l).length = dfac j := by rw [evs_una j h hd, List.length_map, List.length_range]
theorem lvl_few {r t : Nat} (h : t ≤ r) : (lvl (2 * r) t).length ≤ dfac r := by
  have e := lvl_evs (n := 2 * r) (r - t) t (fun s hs => (lvl_len t h s hs).1)
  rw [show t + (r - t) = r by omega, lvl_all] at e
  have e2 := evs_ln (j := r) (l := List.range (2 * r)) List.length_range List.nodup_range
  rw [e] at e2
  rw [← e2]
  refine flat_ge fun s hs => ?_
  rw [List.length_map, evs_ln (lvl_len t h s hs).1 ((fre_asc _ s).imp fun {a b} h => Nat.ne_of_lt h)]
  exact dfac_pos _
theorem fmt_take {α β : Type} (f : α → List β) (l : List α) (i : Nat) : ((l.take i).flatMap f).length ≤ (l.flatMap f).length := by
  have e : l.flatMap f = (l.take i).flatMap f ++ (l.drop i).flatMap f := by rw [← List.flatMap_append, List.take_append_drop]
  rw [e, List.length_append]
  exact Nat.le_add_right _ _
theorem dfac_few {j : Nat} (h : j ≤ 4) : dfac j ≤ 105 := by
  rcases (show j = 0 ∨ j = 1 ∨ j = 2 ∨ j = 3 ∨ j = 4 by omega) with z | z | z | z | z <;> subst z <;> decide
theorem lvl_makes {r : Nat} {s : List (Nat × Nat)} (h : s ∈ lvl (2 * r) r) : Makes s (mkp s) ∧ (mkp s).length = 2 * r := by
  rw [lvl_all, evs_una r List.length_range List.nodup_range] at h
  obtain ⟨k, h1, rfl⟩ := List.mem_map.mp h
  exact ⟨pat_makes (List.mem_range.mp h1), by rw [mkp_len, una_len]⟩
theorem lvl_apl (r : Nat) : (lvl (2 * r) r).map mkp = apl r := by rw [lvl_all, evs_mkp]
theorem apl_len (r : Nat) : (apl r).length = dfac r := by unfold apl; rw [List.length_map, List.length_range]
theorem apl_asc (r : Nat) : (apl r).Pairwise fun a b => TS.code ((2 * r : Nat) : Int) (zs a) < TS.code ((2 * r : Nat) : Int) (zs b) :=
  pw_map_lt List.pairwise_lt_range fun x hx y hy hxy => code_blw (pat_pair (List.mem_range.mp hx)) (pat_pair (List.mem_range.mp hy)) (pat_lt hxy (List.mem_range.mp hy))
end Pc
namespace Pc
open PySem PySem.Spec PyProof.Rows L2 RZ
section
variable {P : Program} {w : World} {K : PySem.W.Frag} {mg : Str → Option Value} {base : Heap}
/-! ### the pairing of couples, by the law (family C) -/
def spJoinedUp : Sp := fun vs H Q _ => ∃ (a : Addr) (bs : List Addr) (qs : List (Nat × Nat)) (ps : List Nat), vs = [.ref a] ∧ H a = some (.lst (bs.map V.ref)) ∧ Prs H bs qs ∧ Makes qs ps ∧ ps.length ≤ 1000 ∧
  ∀ (H' : Hp) (t : Addr), Same H H' → H t = none → H' t = some (.tup (nv ps)) → Q (.ref t) H'
theorem ok_joined_up (T : Env K mg) : FnOk P w K mg base CX0 1 T.f_joined_up T.d_joined_up ["_law_some"] spJoinedUp := by
  refine T.F_joined_up.ok sc_joined_up (fun vs H Q E h => ?_) (fun cdv A outer s H vs Q E hr h => ?_)
  · obtain ⟨a, bs, qs, ps, rfl, _⟩ := h
    rfl
  · obtain ⟨a, bs, qs, ps, rfl, ea, hP, hM, hn, q⟩ := h
    have hhalf := hM.half
    refine ⟨_, pss_cons (ps_set (i := 1) sc_joined_up.nd rfl (.inl rfl) (pe_op op_rep (pe_lst (pa_cons pe_int pa_nil)) (pe_op op_mul pe_int (pe_callB call_len_seq (by rfl) T.n_len PySem.boot_len (pa_cons (pv 0) pa_nil))))) <|
      pss_cons (ps_for PassesOwn.never rfl (pi_list (pv 0)) (pg_tup (by rfl) (pgs_cons (pg_name (i := 2) sc_joined_up.nd rfl (.inl rfl)) (pgs_cons (pg_name (i := 3) sc_joined_up.nd rfl (.inl rfl)) pgs_nil)))
        (pss_one (ps_asg (pe_tup (pa_cons (pv 3) (pa_cons (pv 2) pa_nil))) (pg_tup rfl (pgs_cons (pg_sub (pv 1) (pv 2) set_list) (pgs_cons (pg_sub (pv 1) (pv 3) set_list) pgs_nil)))))) <|
      pss_one (ps_ret (pe_callTy call_tuple_of (by rfl) T.n_tuple (by decide +kernel) (pa_cons (pv 1) pa_nil))), ?_⟩
    refine ⟨by show 1 ≤ sizeLine; decide, fun e ne => ?_⟩
    have s0 : Same H (upd H e (.lst [.int 0])) := same_new ne
    have hbl : (bs.map V.ref).length = qs.length := by rw [List.length_map, hP.length]
    refine ⟨_, rfl, a, _, rfl, .inl (.inl (.inl (s0 _ _ ea))), 2, _, rfl, rfl, .inl ⟨by decide, by decide⟩, e, _, [.int 0], rfl, rfl, upd_same, by omega, by omega, ?_, fun f nf => ?_⟩
    · show 1 * Int.toNat (2 * ((bs.map V.ref).length : Int)) ≤ sizeLine
      exact Nat.le_of_lt (small1000 (by omega))
    rw [rep_flat, show (2 * ((bs.map V.ref).length : Int)).toNat = ps.length by omega, show List.replicate ps.length (V.int 0) = nv (List.replicate ps.length 0) by unfold nv; rw [List.map_replicate]; rfl]
    have s1 : Same H (upd (upd H e (.lst [.int 0])) f (.lst (nv (List.replicate ps.length 0)))) := s0.trans (same_new nf)
    have ef : (upd (upd H e (.lst [.int 0])) f (.lst (nv (List.replicate ps.length 0)))) f = some (.lst (nv (List.replicate ps.length 0))) := upd_same
    have nfH := s0.free nf
    revert s1 ef
    generalize upd (upd H e (.lst [.int 0])) f (.lst (nv (List.replicate ps.length 0))) = H1
    intro s1 ef
    refine st_set [some (.ref a), some (.ref f), none, none] ?_ rfl
    refine ⟨_, rfl, a, rfl, ⟨_, .inl (.inl (s1 _ _ ea))⟩, ?_⟩
    refine for_list (xs := bs.map V.ref) (fun i σ H' => Same H H' ∧ ∃ (y3 y4 : Option V) (fs : List Nat), σ = [some (.ref a), some (.ref f), y3, y4] ∧ H' f = some (.lst (nv fs)) ∧ CInv ps qs fs i) ⟨s1, none, none, _, rfl, ef, by rw [List.length_replicate], fun j hj => absurd hj (Nat.not_lt_zero _)⟩ (fun i σ H' _ h => .inl (.inl (h.1 _ _ ea))) (fun i x σ H2 hx h => ?_) (fun σ H2 h => ?_)
    · obtain ⟨sm, y3, y4, fs, rfl, ef2, ci⟩ := h
      rw [List.getElem?_map] at hx
      obtain ⟨u, hu, rfl⟩ := Option.map_eq_some_iff.mp hx
      obtain ⟨p, hp, eu⟩ := prs_get hP hu
      obtain ⟨o1, o2⟩ := hM.ok p (List.mem_of_getElem? hp)
      have l1 : p.1 < fs.length := by rw [ci.1]; exact get_lt o1
      have l2 : p.2 < fs.length := by rw [ci.1]; exact get_lt o2
      refine ⟨u, _, rfl, .inl (.inl (sm _ _ eu)), rfl, _, _, rfl, _, _, rfl, rfl, ?_⟩
      refine ⟨_, rfl, _, rfl, by show 2 ≤ sizeLine; decide, fun v nv7 => ?_⟩
      have ev := same_new (o := .tup [.int (p.2 : Nat), .int (p.1 : Nat)]) nv7
      refine ⟨v, _, rfl, .inl (.inl upd_same), rfl, _, _, rfl, _, rfl, _, rfl, f, _, _, p.1, rfl, rfl, ev _ _ ef2, ixN_nat (by rw [nv_length]; exact l1), ?_⟩
      refine ⟨_, _, rfl, _, rfl, _, rfl, f, _, _, p.2, rfl, rfl, upd_same, ixN_nat (by rw [List.length_set, nv_length]; exact l2), rfl, ?_⟩
      refine ⟨fun b o hb => ?_, _, _, (fs.set p.1 p.2).set p.2 p.1, rfl, ?_, ci.step hM hp⟩
      · rw [upd_ne (ne_of_none hb nfH), upd_ne (ne_of_none hb nfH)]; exact ev _ _ (sm _ _ hb)
      · rw [upd_same, nv_set, nv_set]
    · obtain ⟨sm, y3, y4, fs, rfl, ef2, ci⟩ := h
      rw [List.length_map, hP.length] at ci
      have e := ci.done hM
      rw [e] at ef2
      exact ⟨_, rfl, f, _, rfl, .inl ⟨.inl (.inl ef2), fun t nt => q _ t (sm.trans (same_new nt)) (sm.free nt) upd_same⟩⟩
end
end Pc
namespace Pc
open PySem PySem.Spec PyProof.Rows L2 RZ
/-! ### lists of lists of pairs -/
def CL (H : Hp) (as : List Addr) (xss : List (List (Nat × Nat))) : Prop := Paired (fun a qs => ∃ bs : List Addr, H a = some (.lst (bs.map V.ref)) ∧ Prs H bs qs) as xss
theorem CL.length {H : Hp} {as : List Addr} {xss : List (List (Nat × Nat))} (h : CL H as xss) : as.length = xss.length := Paired.length h
theorem cl_same {H H' : Hp} (e : Same H H') : ∀ {as : List Addr} {xss : List (List (Nat × Nat))}, CL H as xss → CL H' as xss
  | _, _, .nil => .nil
  | _, _, .cons ⟨bs, h1, h2⟩ r => .cons ⟨bs, e _ _ h1, prs_same e h2⟩ (cl_same e r)
theorem cl_keep {b : Addr} {H H' : Hp} {ys : List V} (k : Keep b H H') (hb : H b = some (.lst ys)) : ∀ {as : List Addr} {xss : List (List (Nat × Nat))}, (∀ a ∈ as, a ≠ b) → CL H as xss → CL H' as xss
  | _, _, _, .nil => .nil
  | _, _, hn, .cons ⟨bs, h1, h2⟩ r => .cons ⟨bs, k _ _ (hn _ List.mem_cons_self) h1, prs_keep k hb h2⟩ (cl_keep k hb (fun a ha => hn a (List.mem_cons_of_mem _ ha)) r)
theorem cl_append {H : Hp} : ∀ {as bs : List Addr} {ls ms : List (List (Nat × Nat))}, CL H as ls → CL H bs ms → CL H (as ++ bs) (ls ++ ms)
  | _, _, _, _, .nil, s => s
  | _, _, _, _, .cons h r, s => .cons h (cl_append r s)
theorem cl_get {H : Hp} : ∀ {as : List Addr} {ls : List (List (Nat × Nat))} {i : Nat} {a : Addr}, CL H as ls → as[i]? = some a → ∃ l bs, ls[i]? = some l ∧ H a = some (.lst (bs.map V.ref)) ∧ Prs H bs l
  | _, _, _, _, .nil, h => by simp at h
  | _, _, 0, _, .cons (b := p) ⟨bs, h1, h2⟩ _, e => by
    cases Option.some.inj e
    exact ⟨p, bs, rfl, h1, h2⟩
  | _, _, i + 1, a, .cons _ r, e => cl_get (i := i) r e
theorem flatB_nat (l : List Nat) : (nv l).all flatV = true := by
  unfold nv
  rw [List.all_map]
  exact List.all_eq_true.mpr fun x _ => rfl
theorem flat_flatten : ∀ qs : List (Nat × Nat), (qs.map fun p => nv [p.1, p.2]).flatten = nv (flat qs)
  | [] => rfl
  | p :: qs => by rw [List.map_cons, List.flatten_cons, flat_flatten qs]; rfl
theorem lsts_sameC {H H' : Hp} (e : Same H H') : ∀ {as : List Addr} {xss : List (List V)}, Lsts H as xss → Lsts H' as xss
  | _, _, .nil => .nil
  | _, _, .cons h r => .cons (e _ _ h) (lsts_sameC e r)
theorem lsts_snocC {H : Hp} : ∀ {as : List Addr} {xss : List (List V)} {b : Addr} {xs : List V}, Lsts H as xss → H b = some (.lst xs) → Lsts H (as ++ [b]) (xss ++ [xs])
  | _, _, _, _, .nil, h => .cons h .nil
  | _, _, _, _, .cons h r, g => .cons h (lsts_snocC r g)
theorem lsts_updC {H : Hp} {D : Addr} {o : HO} : ∀ {as : List Addr} {xss : List (List V)}, (∀ a ∈ as, a ≠ D) → Lsts H as xss → Lsts (upd H D o) as xss
  | _, _, _, .nil => .nil
  | _, _, h, .cons g r => .cons (by rw [upd_ne (h _ List.mem_cons_self)]; exact g) (lsts_updC (fun a ha => h a (List.mem_cons_of_mem _ ha)) r)
section
variable {P : Program} {w : World} {K : PySem.W.Frag} {mg : Str → Option Value} {base : Heap}
/-! ### all pairings, by the law -/
def spAllP : Sp := fun vs H Q _ => ∃ r : Nat, vs = [.int ((2 * r : Nat) : Int)] ∧ 1 ≤ r ∧ r ≤ 4 ∧
  ∀ (H' : Hp) (t : Addr) (as : List Addr), Same H H' → H t = none → H' t = some (.lst (as.map V.ref)) → Tups H' as (apl r) → Q (.ref t) H'
theorem ok_all_pairings (T : Env K mg) : FnOk P w K mg base CX0 2 T.f_all_pairings T.d_all_pairings ["_law_crowd"] spAllP := by
  have GJ : FnOk P w K mg base CX0 1 T.f_joined_up T.d_joined_up ["_law_some"] spJoinedUp := ok_joined_up T
  refine T.F_all_pairings.ok sc_all_pairings (fun vs H Q E h => ?_) (fun cdv A outer s H vs Q E hr h => ?_)
  · obtain ⟨r, rfl, _⟩ := h
    rfl
  · obtain ⟨r, rfl, hr1, hr4, q⟩ := h
    have h105 := dfac_few hr4
    refine ⟨_, pss_cons (ps_set (i := 1) sc_all_pairings.nd rfl (.inl rfl) (pe_lst (pa_cons (pe_lst pa_nil) pa_nil))) <|
      pss_cons (ps_for PassesOwn.never rfl (pi_range1 (by rfl) T.n_range (pa_cons (pe_op op_fdiv (pv 0) pe_int) pa_nil)) (pg_name (i := 2) sc_all_pairings.nd rfl (.inl rfl))
        (pss_cons (ps_set (i := 3) sc_all_pairings.nd rfl (.inl rfl) (pe_lst pa_nil)) <|
         pss_cons (ps_for PassesOwn.never rfl (pi_list (pv 1)) (pg_name (i := 4) sc_all_pairings.nd rfl (.inr rfl))
          (pss_cons (ps_set (i := 5) sc_all_pairings.nd rfl (.inr rfl) (pe_callB (cr_sumL rfl) (by rfl) T.n_sum (by decide +kernel) (pa_cons
              (pe_lc (own := [("_law_duo", 8)]) (g := gName 8) (tt := tYes) (te := tCB (fun xs H Q => ∃ p ys, xs = [.ref p] ∧ (SqL K H p ys ∨ SqT K H p ys) ∧ ∀ l, H l = none → Q (.ref l) (upd H l (.lst ys))) (tCons (tVar 8) tNil)) rfl sc_all_pairings.nd (pi_list (pv 4)) (blkOk_by (N := N_all_pairings) (sc := defScope s_all_pairings) (by decide +kernel))
                (fun _ _ _ _ _ => pg_name (i := 8) sc_all_pairings.nd rfl (.inl rfl)) (fun _ _ _ _ _ => pts_nil) (fun _ _ _ _ _ => pe_callTy call_list_of (by rfl) T.n_list (by decide +kernel) (pa_cons (pv 8) pa_nil))) (pa_cons (pe_lst pa_nil) pa_nil)))) <|
           pss_cons (ps_set (i := 6) sc_all_pairings.nd rfl (.inr rfl) (pe_lc (own := [("_law_spot", 7)]) (g := gName 7) (tt := tTest (tOp (rIn K true) (tVar 7) (tVar 5))) (te := tVar 7) rfl sc_all_pairings.nd (pi_range1 (by rfl) T.n_range (pa_cons (pv 0) pa_nil)) (blkOk_by (N := N_all_pairings) (sc := defScope s_all_pairings) (by decide +kernel))
                (fun _ _ _ _ _ => pg_name (i := 7) sc_all_pairings.nd rfl (.inl rfl)) (fun _ _ _ _ _ => pts_one (pt_cmpR op_notIn_seq (pv 7) (pv 5) (by rfl))) (fun _ _ _ _ _ => pv 7))) <|
           pss_one (ps_set (i := 3) sc_all_pairings.nd rfl (.inl rfl) (pe_op op_cat (pv 3) (pe_lc (own := [("_law_mate_here", 9)]) (g := gName 9) (tt := tYes) (te := tOp rCat (tVar 4) (tLst (tCons (tTup (tCons (tOp (rIxL K) (tVar 6) (tC (.int 0))) (tCons (tVar 9) tNil))) tNil))) rfl sc_all_pairings.nd (pi_list (pe_slice sl_list (pv 6) (po_some pe_int) po_none)) (blkOk_by (N := N_all_pairings) (sc := defScope s_all_pairings) (by decide +kernel))
                (fun _ _ _ _ _ => pg_name (i := 9) sc_all_pairings.nd rfl (.inl rfl)) (fun _ _ _ _ _ => pts_nil) (fun _ _ _ _ _ => pe_op op_cat (pv 4) (pe_lst (pa_cons (pe_tup (pa_cons (pe_ix ix_list (pv 6) pe_int (fun _ _ => rfl)) (pa_cons (pv 9) pa_nil))) pa_nil)))))))) <|
         pss_one (ps_set (i := 1) sc_all_pairings.nd rfl (.inl rfl) (pv 3)))) <|
      pss_one (ps_ret (pe_callB cr_sortTA (by rfl) T.n_sorted (by decide +kernel) (pa_cons (pe_lc (own := [("_law_some", 4)]) (g := gName 4) (tt := tYes) (te := tCall spJoinedUp [] E0 (tCons (tVar 4) tNil)) rfl sc_all_pairings.nd (pi_list (pv 1)) (blkOk_by (N := N_all_pairings) (sc := defScope s_all_pairings) (by decide +kernel))
                (fun _ _ _ _ _ => pg_name (i := 4) sc_all_pairings.nd rfl (.inl rfl)) (fun _ _ _ _ _ => pts_nil) (fun _ _ _ _ _ => pe_call GJ hr (by rfl) T.g_joined_up T.F_joined_up.kp T.b_joined_up .nil pass0 (pa_cons (pv 4) pa_nil))) pa_nil))), ?_⟩
    -- [[]]
    refine ⟨by show 0 ≤ sizeLine; decide, fun l0 n0 => ⟨by show 1 ≤ sizeLine; decide, fun l1 n1 => ?_⟩⟩
    have s1 : Same H (upd (upd H l0 (.lst [])) l1 (.lst [.ref l0])) := (same_new n0).trans (same_new n1)
    have e1 : (upd (upd H l0 (.lst [])) l1 (.lst [.ref l0])) l1 = some (.lst ([l0].map V.ref)) := upd_same
    have c1 : CL (upd (upd H l0 (.lst [])) l1 (.lst [.ref l0])) [l0] (lvl (2 * r) 0) := .cons ⟨[], same_new n1 _ _ upd_same, .nil⟩ .nil
    revert s1 e1 c1
    generalize upd (upd H l0 (.lst [])) l1 (.lst [.ref l0]) = H1
    intro s1 e1 c1
    refine st_set [some (.int ((2 * r : Nat) : Int)), some (.ref l1), none, none, none, none, none, none, none, none] ?_ rfl
    refine ⟨_, rfl, _, 2, rfl, rfl, ⟨by decide, by decide⟩, (r : Int), (by show [V.int (((2 * r : Nat) : Int) / 2)] = _; exact congrArg (fun z => [V.int z]) (by omega)), by omega, by omega, ?_⟩
    rw [Int.toNat_natCast]
    refine for_range (n := r) (fun t σ H' => Same H1 H' ∧ ∃ (f : Addr) (as : List Addr) (y2 y3 y4 y5 y6 : Option V), σ = [some (.int ((2 * r : Nat) : Int)), some (.ref f), y2, y3, y4, y5, y6, none, none, none] ∧ H' f = some (.lst (as.map V.ref)) ∧ CL H' as (lvl (2 * r) t)) ⟨Same.refl _, l1, [l0], none, none, none, none, none, rfl, e1, c1⟩ (fun t σ Ht htr hPv => ?_) (fun σ Hz hPv => ?_)
    · obtain ⟨st, f, as, y2, y3, y4, y5, y6, rfl, ef, hC⟩ := hPv
      refine st_set [some (.int ((2 * r : Nat) : Int)), some (.ref f), some (.int ((0 : Int) + (t : Nat))), y3, y4, y5, y6, none, none, none] ?_ rfl
      have hfew := lvl_few (r := r) (t := t) (by omega)
      have hfew2 := lvl_few (r := r) (t := t + 1) (by omega)
      refine ⟨by show 0 ≤ sizeLine; decide, fun g0 ng0 => ?_⟩
      have s2 : Same Ht (upd Ht g0 (.lst [])) := same_new ng0
      have e2 : (upd Ht g0 (.lst [])) g0 = some (.lst (([] : List Addr).map V.ref)) := upd_same
      have ef2 := s2 _ _ ef
      have hC2 := cl_same s2 hC
      revert s2 e2 ef2 hC2
      generalize upd Ht g0 (.lst []) = H2
      intro s2 e2 ef2 hC2
      refine st_set [some (.int ((2 * r : Nat) : Int)), some (.ref f), some (.int ((0 : Int) + (t : Nat))), some (.ref g0), y4, y5, y6, none, none, none] ?_ rfl
      refine ⟨_, rfl, f, rfl, ⟨_, .inl (.inl ef2)⟩, ?_⟩
      refine for_list (xs := as.map V.ref) (fun i σ H' => Same H2 H' ∧ ∃ (g : Addr) (us : List Addr) (y4 y5 y6 : Option V), σ = [some (.int ((2 * r : Nat) : Int)), some (.ref f), some (.int ((0 : Int) + (t : Nat))), some (.ref g), y4, y5, y6, none, none, none] ∧ H' g = some (.lst (us.map V.ref)) ∧ CL H' us (((lvl (2 * r) t).take i).flatMap (exs (2 * r)))) ⟨Same.refl _, g0, [], y4, y5, y6, rfl, e2, .nil⟩ (fun i σ H' _ h => .inl (.inl (h.1 _ _ ef2))) (fun i x σ H3 hx h => ?_) (fun σ H3 h => ?_)
      · obtain ⟨s3, g, us, y4, y5, y6, rfl, eg, hU⟩ := h
        rw [List.getElem?_map] at hx
        obtain ⟨u, hu, rfl⟩ := Option.map_eq_some_iff.mp hx
        obtain ⟨S, bs, hS, eu, hb⟩ := cl_get (cl_same s3 hC2) hu
        have hSm := List.mem_of_getElem? hS
        obtain ⟨hfl, hsl⟩ := lvl_len (r := r) t (by omega) S hSm
        refine st_set [some (.int ((2 * r : Nat) : Int)), some (.ref f), some (.int ((0 : Int) + (t : Nat))), some (.ref g), some (.ref u), y5, y6, none, none, none] ?_ rfl
        -- met
        refine ⟨_, rfl, u, rfl, ⟨_, .inl (.inl eu)⟩, fun D nD => ?_⟩
        refine lc_list (xs := bs.map V.ref) (fun k H' => Same H3 H' ∧ ∃ gs : List Addr, H' D = some (.lst (gs.map V.ref)) ∧ Lsts H' gs ((S.take k).map fun p => nv [p.1, p.2]) ∧ ∀ g ∈ gs, g ≠ D) ⟨same_new nD, [], upd_same, .nil, fun _ h => absurd h List.not_mem_nil⟩ (fun k H' _ h => .inl (.inl (h.1 _ _ eu))) (fun k v H' hv h => ?_) (fun H4 h => ?_)
        · obtain ⟨sm, gs, eD, hg, hgD⟩ := h
          rw [List.getElem?_map] at hv
          obtain ⟨d, hd, rfl⟩ := Option.map_eq_some_iff.mp hv
          obtain ⟨p, hp, ed⟩ := prs_get (prs_same sm hb) hd
          refine ⟨rfl, yes_if ⟨_, rfl, d, nv [p.1, p.2], rfl, .inr (.inl (.inl ed)), fun z nz => ⟨_, same_new nz _ _ eD, ?_, fun y o hy => ?_, gs ++ [z], ?_, ?_, ?_⟩⟩⟩
          · rw [List.length_map, Paired.length hg, List.length_map, List.length_take]; exact small1000 (by omega)
          · rw [upd_ne (ne_of_none hy nD)]; exact same_new nz _ _ (sm _ _ hy)
          · rw [upd_same, List.map_append]; rfl
          · have zD : z ≠ D := fun e => by rw [e, eD] at nz; cases nz
            rw [List.take_add_one, hp, List.map_append]
            exact lsts_snocC (lsts_updC hgD (lsts_sameC (same_new nz) hg)) (by rw [upd_ne zD, upd_same])
          · intro y hy
            rcases List.mem_append.mp hy with hy | hy
            · exact hgD y hy
            · rw [List.mem_singleton.mp hy]; exact fun e => by rw [e, eD] at nz; cases nz
        obtain ⟨s4, gs, eD, hLs, _⟩ := h
        rw [List.length_map, hb.length, List.take_length] at hLs
        refine ⟨by show 0 ≤ sizeLine; decide, fun z0 nz0 => ?_⟩
        have s5 := s4.trans (same_new (o := .lst []) nz0)
        have hLs5 := lsts_sameC (same_new (o := .lst []) nz0) hLs
        have eD5 := same_new (o := .lst []) nz0 _ _ eD
        have ez0 : (upd H4 z0 (.lst [])) z0 = some (.lst []) := upd_same
        revert s5 hLs5 eD5 ez0
        generalize upd H4 z0 (.lst []) = H5
        intro s5 hLs5 eD5 ez0
        refine ⟨D, z0, gs, _, [], rfl, .inl (.inl eD5), ez0, hLs5, ?_, fun H6 mt s6 _ emt => ?_⟩
        · rw [flat_flatten, nv_length, flat_len]; exact Nat.le_of_lt (small1000 (by show 0 + _ ≤ 1000; omega))
        rw [flat_flatten] at emt
        replace emt : H6 mt = some (.lst (nv (flat S))) := emt
        have s36 := s5.trans s6
        refine st_set [some (.int ((2 * r : Nat) : Int)), some (.ref f), some (.int ((0 : Int) + (t : Nat))), some (.ref g), some (.ref u), some (.ref mt), y6, none, none, none] ?_ rfl
        -- free
        refine ⟨_, rfl, _, rfl, by omega, by omega, fun F nF => ?_⟩
        rw [Int.toNat_natCast]
        refine lc_range (n := 2 * r) (fun k H' => Same H6 H' ∧ H' F = some (.lst (nv ((List.range k).filter fun x => !decide (x ∈ flat S))))) ⟨same_new nF, upd_same⟩ (fun k H' hk h => ?_) (fun H7 h => ?_)
        · obtain ⟨sm, eF⟩ := h
          refine ⟨rfl, _, rfl, _, rfl, mt, _, rfl, .inl (.inl (.inl (sm _ _ emt))), rfl, flatB_nat _, _, rfl, ?_⟩
          rw [Int.zero_add (k : Int), in_nat]
          refine ite2 (c := (!decide (k ∈ flat S)) = true) (fun c => ?_) (fun c => ?_)
          · have c' : (!decide (k ∈ flat S)) = true := c
            refine ⟨_, rfl, _, eF, ?_, fun y o hy => ?_, ?_⟩
            · rw [nv_length]; exact small1000 (Nat.le_trans (List.length_filter_le _ _) (by rw [List.length_range]; omega))
            · rw [upd_ne (ne_of_none hy nF)]; exact sm _ _ hy
            · rw [upd_same, List.range_succ, List.filter_append, show ([k].filter fun x => !decide (x ∈ flat S)) = [k] from List.filter_eq_self.mpr fun y hy => by rw [List.mem_singleton.mp hy]; exact c', ← nv_snoc']
          · have c' : ¬ (!decide (k ∈ flat S)) = true := c
            refine ⟨sm, ?_⟩
            rw [List.range_succ, List.filter_append, show ([k].filter fun x => !decide (x ∈ flat S)) = [] from List.filter_eq_nil_iff.mpr fun y hy => by rw [List.mem_singleton.mp hy]; exact c', List.append_nil]; exact eF
        obtain ⟨s7, eF⟩ := h
        replace eF : H7 F = some (.lst (nv (fre (2 * r) S))) := eF
        have s37 := s36.trans s7
        refine st_set [some (.int ((2 * r : Nat) : Int)), some (.ref f), some (.int ((0 : Int) + (t : Nat))), some (.ref g), some (.ref u), some (.ref mt), some (.ref F), none, none, none] ?_ rfl
        -- longer
        refine ⟨_, rfl, _, rfl, 1, rfl, F, _, rfl, .inl (.inl eF), fun tl ntl => ?_⟩
        rw [cut1D, show (nv (fre (2 * r) S)).drop 1 = nv (fre (2 * r) S).tail by rw [List.drop_one]; unfold nv; rw [List.map_tail]]
        have s8 := s37.trans (same_new (o := .lst (nv (fre (2 * r) S).tail)) ntl)
        have etl : (upd H7 tl (.lst (nv (fre (2 * r) S).tail))) tl = some (.lst (nv (fre (2 * r) S).tail)) := upd_same
        have eF8 := same_new (o := .lst (nv (fre (2 * r) S).tail)) ntl _ _ eF
        revert s8 etl eF8
        generalize upd H7 tl (.lst (nv (fre (2 * r) S).tail)) = H8
        intro s8 etl eF8
        refine ⟨tl, rfl, ⟨_, .inl (.inl etl)⟩, fun L nL => ?_⟩
        have eu8 := s8 _ _ eu
        have hb8 := prs_same s8 hb
        have hel : (exs (2 * r) S).length ≤ 8 := by unfold exs; rw [List.length_map, List.length_tail]; omega
        refine lc_list (xs := nv (fre (2 * r) S).tail) (fun k H' => Same H8 H' ∧ ∃ ws : List Addr, (∀ w ∈ ws, w ≠ L) ∧ H' L = some (.lst (ws.map V.ref)) ∧ CL H' ws ((exs (2 * r) S).take k)) ⟨same_new nL, [], (fun _ h => absurd h List.not_mem_nil), upd_same, .nil⟩ (fun k H' _ h => .inl (.inl (h.1 _ _ etl))) (fun k v H' hv h => ?_) (fun H9 h => ?_)
        · obtain ⟨sm, ws, hne, eL, hW⟩ := h
          obtain ⟨m, em, rfl⟩ := nv_some hv
          have hk : (exs (2 * r) S)[k]? = some (S ++ [((fre (2 * r) S).getD 0 0, m)]) := by unfold exs; rw [List.getElem?_map, em]; rfl
          have hpos : 0 < (fre (2 * r) S).length := by
            cases e : fre (2 * r) S with
            | nil => rw [e] at em; cases em
            | cons _ _ => exact Nat.succ_pos _
          have g0 : atI (nv (fre (2 * r) S)) 0 = some (.int ((fre (2 * r) S).getD 0 0 : Nat)) := nv_at (i := 0) (by rw [List.getD_eq_getElem?_getD, List.getElem?_eq_getElem hpos]; rfl)
          refine ⟨rfl, yes_if ⟨_, rfl, _, rfl, F, _, _, _, rfl, rfl, .inl (.inl (sm _ _ eF8)), g0, _, rfl, by show 2 ≤ sizeLine; decide, fun c nc => ⟨by show 1 ≤ sizeLine; decide, fun w nw => ?_⟩⟩⟩
          have sc := same_new (o := .tup [.int ((fre (2 * r) S).getD 0 0 : Nat), .int (m : Nat)]) nc
          have sw := same_new (o := .lst [.ref c]) nw
          have ec : (upd (upd H' c (.tup [.int ((fre (2 * r) S).getD 0 0 : Nat), .int (m : Nat)])) w (.lst [.ref c])) c = some (.tup [.int ((fre (2 * r) S).getD 0 0 : Nat), .int (m : Nat)]) := sw _ _ upd_same
          refine ⟨u, w, _, _, rfl, rfl, sw _ _ (sc _ _ (sm _ _ eu8)), upd_same, ?_, fun d nd => ⟨_, same_new nd _ _ (sw _ _ (sc _ _ eL)), ?_, fun y o hy => ?_, ws ++ [d], fun y hy => ?_, ?_, ?_⟩⟩
          · rw [List.length_map, hb8.length]; exact Nat.le_of_lt (small1000 (by show _ + 1 ≤ 1000; omega))
          · rw [List.length_map, hW.length, List.length_take]; exact small1000 (by omega)
          · rw [upd_ne (ne_of_none hy nL)]; exact same_new nd _ _ (sw _ _ (sc _ _ (sm _ _ hy)))
          · rcases List.mem_append.mp hy with z | z
            · exact hne y z
            · rw [List.mem_singleton.mp z]; exact fun e => by rw [e, sw _ _ (sc _ _ eL)] at nd; cases nd
          · rw [upd_same, List.map_append]; rfl
          · have dL : d ≠ L := fun e => by rw [e, sw _ _ (sc _ _ eL)] at nd; cases nd
            have sd := same_new (o := .lst (bs.map V.ref ++ [V.ref c])) nd
            rw [List.take_add_one, hk]
            refine cl_append (cl_keep (b := L) keep_upd (sd _ _ (sw _ _ (sc _ _ eL))) hne (cl_same sd (cl_same sw (cl_same sc hW)))) (.cons ⟨bs ++ [c], ?_, ?_⟩ .nil)
            · rw [upd_ne dL, upd_same, List.map_append]; rfl
            · refine prs_append (prs_keep (b := L) keep_upd (sd _ _ (sw _ _ (sc _ _ eL))) (prs_same sd (prs_same sw (prs_same sc (prs_same sm hb8))))) (.cons ?_ .nil)
              have cL : c ≠ L := fun e => by rw [e, eL] at nc; cases nc
              rw [upd_ne cL]; exact sd _ _ ec
        obtain ⟨s9, ws, hne, eL, hW⟩ := h
        have hel2 : (nv (fre (2 * r) S).tail).length = (exs (2 * r) S).length := by unfold exs; rw [nv_length, List.length_map]
        rw [hel2, List.take_length] at hW
        have s39 := s8.trans s9
        have hUl : us.length ≤ 105 := by
          rw [hU.length]
          exact Nat.le_trans (fmt_take _ _ _) (Nat.le_trans hfew2 h105)
        refine ⟨g, L, _, _, rfl, rfl, s39 _ _ eg, eL, ?_, fun z nz => ?_⟩
        · rw [List.length_map, List.length_map, hW.length]; exact Nat.le_of_lt (small1000 (by omega))
        refine st_set [some (.int ((2 * r : Nat) : Int)), some (.ref f), some (.int ((0 : Int) + (t : Nat))), some (.ref z), some (.ref u), some (.ref mt), some (.ref F), none, none, none] ?_ rfl
        refine ⟨s3.trans (s39.trans (same_new nz)), z, us ++ ws, _, _, _, rfl, by rw [upd_same, List.map_append], ?_⟩
        rw [List.take_add_one, hS, List.flatMap_append]
        refine cl_append (cl_same (same_new nz) (cl_same s39 hU)) ?_
        show CL _ ws (List.flatMap (exs (2 * r)) [S])
        rw [List.flatMap_cons, List.flatMap_nil, List.append_nil]
        exact cl_same (same_new nz) hW
      · obtain ⟨s3, g, us, y4, y5, y6, rfl, eg, hU⟩ := h
        rw [List.length_map, hC2.length, List.take_length] at hU
        refine ⟨_, rfl, ?_⟩
        refine st_set [some (.int ((2 * r : Nat) : Int)), some (.ref g), some (.int ((0 : Int) + (t : Nat))), some (.ref g), y4, y5, y6, none, none, none] ?_ rfl
        exact ⟨st.trans (s2.trans s3), g, us, _, _, _, _, _, rfl, eg, hU⟩
    -- in order
    obtain ⟨sz, f, as, y2, y3, y4, y5, y6, rfl, ef, hC⟩ := hPv
    have hal : as.length ≤ 105 := by rw [hC.length]; exact Nat.le_trans (lvl_few (Nat.le_refl r)) h105
    refine ⟨_, rfl, f, rfl, ⟨_, .inl (.inl ef)⟩, fun D nD => ?_⟩
    refine lc_list (xs := as.map V.ref) (fun k H' => Same Hz H' ∧ ∃ us : List Addr, H' D = some (.lst (us.map V.ref)) ∧ Tups H' us ((apl r).take k)) ⟨same_new nD, [], upd_same, .nil⟩ (fun k H' _ h => .inl (.inl (h.1 _ _ ef))) (fun k v H' hv h => ?_) (fun H3 h => ?_)
    · obtain ⟨s3, us, eD, hU⟩ := h
      rw [List.getElem?_map] at hv
      obtain ⟨u, hu, rfl⟩ := Option.map_eq_some_iff.mp hv
      obtain ⟨S, bs, hS, eu, hb⟩ := cl_get (cl_same s3 hC) hu
      obtain ⟨hM, hml⟩ := lvl_makes (List.mem_of_getElem? hS)
      have hk : (apl r)[k]? = some (mkp S) := by rw [← lvl_apl, List.getElem?_map, hS]; rfl
      refine ⟨rfl, yes_if ⟨_, rfl, u, bs, S, mkp S, rfl, eu, hb, hM, by omega, fun H4 t s4 nt et => ?_⟩⟩
      exact tups_next nD s3 eD hU hk (by rw [apl_len]; omega) s4 nt et
    obtain ⟨s3, us, eD, hU⟩ := h
    rw [List.length_map, hC.length, show (lvl (2 * r) r).length = (apl r).length by rw [← lvl_apl, List.length_map], List.take_length] at hU
    refine ⟨2 * r, ((2 * r : Nat) : Int), by omega, D, _, rfl, .inl (.inl eD), tups_srt hU (fun l hl => ⟨(apl_mem.mp hl).len, (apl_mem.mp hl).lt⟩), fun ys p hp hs np => ?_⟩
    rw [sorted_same hU (apl_asc r) hp hs]
    have sF := (s1.trans sz).trans s3
    exact q _ p us (sF.trans (same_new np)) (sF.free np) upd_same (tups_same (same_new np) hU)
end
end Pc
namespace Pc
open PySem PySem.Spec PyProof.Rows L2 RZ
/-! ### xs[::-1] of a list -/
def backV {α : Type} (xs : List α) : List α := (sliceRange ((xs.length : Int) - 1) (-1) (-1)).filterMap (xs[·]?)
theorem pick_vals {xs : List V} {its : List Value} (r : Vals xs its) : ∀ l : List Nat, Vals (l.filterMap (xs[·]?)) (l.filterMap (its[·]?))
  | [] => .nil
  | i :: l => by
    cases e : xs[i]? with
    | none =>
      have h := List.getElem?_eq_none_iff.mp e
      have e2 : its[i]? = none := List.getElem?_eq_none_iff.mpr (by rw [← r.length]; exact h)
      rw [List.filterMap_cons_none e, List.filterMap_cons_none e2]
      exact pick_vals r l
    | some v =>
      obtain ⟨u, hu, ru⟩ := r.get e
      rw [List.filterMap_cons_some e, List.filterMap_cons_some hu]
      exact .cons ru (pick_vals r l)
theorem back_len {α : Type} (xs : List α) : (backV xs).length ≤ xs.length := by
  unfold backV
  exact Nat.le_trans (List.length_filterMap_le _ _) (sliceRange_length_le _ _ _ _ (fun h => absurd h (by decide)) (fun _ => ⟨Int.le_refl _, Int.le_refl _⟩))
theorem back_mem {α : Type} {xs : List α} {x : α} (h : x ∈ backV xs) : x ∈ xs := by
  obtain ⟨i, _, e⟩ := List.mem_filterMap.mp h
  exact List.mem_of_getElem? e
theorem back_nv (l : List Nat) : backV (nv l) = nv (backV l) := by
  unfold backV nv
  rw [List.length_map, List.map_filterMap]
  refine congrArg (fun f => List.filterMap f _) (funext fun i => ?_)
  rw [List.getElem?_map]
theorem slice_back (its : List Value) : slicePick its.toArray none none (some (-1)) = (backV its).toArray := by
  unfold slicePick backV
  simp [sliceBounds]
def tRevL (K : PySem.W.Frag) (te : TE) : TE := fun σ H Q => te σ H fun x H1 => ∃ a xs, x = .ref a ∧ SqL K H1 a xs ∧ ∀ p, H1 p = none → Q (.ref p) (upd H1 p (.lst (backV xs)))
theorem pe_revL {X : Cx} {e : Expr} {te : TE} {k : Nat} {p1 p2 p3 pos : Pos} (he : PE X e te) : PE X (.Subscript e (.Slice none none (some (.UnaryOp .USub (.Constant (.int 1) k p1) p2)) p3) pos) (tRevL X.K te) := by
  constructor
  intro pins s σ H Q I h
  refine Subscript_ (thn (he.run pins s σ H _ I h) fun v s1 r => ?_)
  obtain ⟨x, H1, I1, r1, a, xs, ex, hx, q⟩ := r
  subst ex
  cases r1
  have hst : PO X (some (.UnaryOp .USub (.Constant (.int 1) k p1) p2)) (tPart (tUn (rU fun i => .int (-i)) (tC (.int 1)))) := po_some (pe_un un_neg pe_int)
  refine wpAny_Slice (thn (po_none.run pins s1 σ H1 (fun o H2 => o = none ∧ H2 = H1) I1 ⟨rfl, rfl⟩) fun vl s2 ⟨l, H2, I2, pl, el, e2⟩ => ?_)
  subst el e2
  refine thn (po_none.run pins s2 σ H2 (fun o H3 => o = none ∧ H3 = H2) I2 ⟨rfl, rfl⟩) fun vu s3 ⟨u, H3, I3, pu, eu, e3⟩ => ?_
  subst eu e3
  refine thn (hst.run pins s3 σ H3 (fun o H4 => o = some (-1) ∧ H4 = H3) I3 ⟨1, rfl, -1, rfl, rfl, rfl⟩) fun vs s4 ⟨o, H4, I4, ps, eo, e4⟩ => ?_
  subst eo e4
  cases pl
  cases pu
  have I5 : Inv X pins σ H4 { s4 with heap := s4.heap.push { cls := .type "slice", data := .fields #[.none, .none, vs] } } := I4.kept (t' := s4.toks) fun b ob q => Heap.get?_push_of_some _ q
  obtain ⟨its, r, ht, hz⟩ := I5.list hx
  have hlen := r.length
  show wpAny (model X.prog X.w) X.A (subscriptTail e (.Slice none none (some (.UnaryOp .USub (.Constant (.int 1) k p1) p2)) p3) (.ref a) (.ref s4.heap.objs.size)) (EP X pins σ Q) X.xe _
  refine tail_any (ops := [.ref a, .ref s4.heap.objs.size]) ht.isList.typeIs PySem.F.slot_list_getitem.lookup ?_ (by with_unfolding_all rfl)
  refine wpAny_getItem_list_slice ht.isList (Heap.IsSliceOf.new _ .none .none vs) .none .none ps (by simp) ?_ (by rw [List.size_toArray] <;> omega)
  rw [slice_back]
  refine ⟨.ref _, _, I5.laid (t' := s4.toks) (o := .lst (backV xs)) (fun b ob q => Heap.get?_push_of_some _ q) (Nat.le_refl _) ?_, rfl, q _ (I5.hok.fresh (Nat.le_refl _))⟩
  refine ⟨Nat.le_trans (back_len xs) hz, _, 0, ?_, Heap.get?_push_size _ rfl⟩
  unfold backV
  rw [hlen]
  exact pick_vals r _
end Pc
namespace Pc
open PySem PySem.Spec PyProof.Rows L2 RZ
/-! ### xs[::-1] is the list in reverse -/
theorem fm_cong {α β : Type} {f g : α → Option β} : ∀ {l : List α}, (∀ x ∈ l, f x = g x) → l.filterMap f = l.filterMap g
  | [], _ => rfl
  | x :: l, h => by
    rw [List.filterMap_cons, List.filterMap_cons, h x List.mem_cons_self, fm_cong fun y hy => h y (List.mem_cons_of_mem _ hy)]
theorem fm_all {α : Type} : ∀ l : List α, (List.range l.length).filterMap (fun i => l[i]?) = l
  | [] => rfl
  | x :: l => by
    rw [List.length_cons, List.range_succ_eq_map, List.filterMap_cons]
    show x :: (List.map Nat.succ (List.range l.length)).filterMap (fun i => (x :: l)[i]?) = _
    rw [List.filterMap_map]
    exact congrArg (x :: ·) (fm_all l)
theorem fm_rev {α : Type} (xs : List α) : ((List.range xs.length).map fun k => xs.length - 1 - k).filterMap (fun i => xs[i]?) = xs.reverse := by
  have h := fm_all xs.reverse
  rw [List.length_reverse] at h
  rw [← h, List.filterMap_map]
  refine fm_cong fun k hk => ?_
  have hk := List.mem_range.mp hk
  show xs[xs.length - 1 - k]? = _
  rw [List.getElem?_reverse hk]
theorem down_range (n : Nat) : sliceRange ((n : Int) - 1) (-1) (-1) = (List.range n).map fun k => n - 1 - k := by
  unfold sliceRange
  rw [if_neg (by decide)]
  have e : (if ((n : Int) - 1) > -1 then ((n : Int) - 1 - -1 - -1 - 1) / (- -1) else 0).toNat = n := by
    by_cases c : ((n : Int) - 1) > -1
    · rw [if_pos c, show ((n : Int) - 1 - -1 - -1 - 1) = n by omega, show (- -1 : Int) = 1 by decide, Int.ediv_one, Int.toNat_natCast]
    · rw [if_neg c]; show 0 = n; omega
  show (List.range (if ((n : Int) - 1) > -1 then ((n : Int) - 1 - -1 - -1 - 1) / (- -1) else 0).toNat).map _ = _
  rw [e]
  refine List.map_congr_left fun k hk => ?_
  have hk := List.mem_range.mp hk
  omega
theorem backV_rev {α : Type} (xs : List α) : backV xs = xs.reverse := by
  unfold backV
  rw [down_range, fm_rev]
/-! ### strands put anew -/
structure ExI (n : Nat) (S : List Nat) (U Y : Nat → Nat) (g : List Nat) (i : Nat) : Prop where
  len : g.length = 2 * n
  up : ∀ k, k < i → g.getD (U k) 0 = Y k
  lo : ∀ k, k < i → g.getD (Y k) 0 = U k
  ot : ∀ e, e < 2 * n → (∀ k, k < i → e ≠ U k ∧ e ≠ Y k) → g.getD e 0 = S.getD e 0
section
variable {n m : Nat} {S g : List Nat} {U Y : Nat → Nat}
theorem ExI.step {i : Nat} (h : ExI n S U Y g i) (hi : i < m) (hU : ∀ k, k < m → U k < n ∧ n ≤ Y k ∧ Y k < 2 * n) (iU : ∀ j k, j < m → k < m → U j = U k → j = k) (iY : ∀ j k, j < m → k < m → Y j = Y k → j = k) :
    ExI n S U Y ((g.set (U i) (Y i)).set (Y i) (U i)) (i + 1) := by
  obtain ⟨a1, a2, a3⟩ := hU i hi
  have G : ∀ e, ((g.set (U i) (Y i)).set (Y i) (U i)).getD e 0 = if e = Y i then U i else if e = U i then Y i else g.getD e 0 := fun e => by
    rw [getD_set' _ (by rw [List.length_set, h.len]; exact a3), getD_set' _ (by rw [h.len]; omega)]
  refine ⟨by rw [List.length_set, List.length_set, h.len], fun k hk => ?_, fun k hk => ?_, fun e he ho => ?_⟩
  · rw [G]
    by_cases c : k = i
    · subst c; rw [if_neg (by omega), if_pos rfl]
    · have hk' : k < i := by omega
      have b := hU k (by omega)
      rw [if_neg (by omega), if_neg (fun z => c (iU k i (by omega) hi z)), h.up k hk']
  · rw [G]
    by_cases c : k = i
    · subst c; rw [if_pos rfl]
    · have hk' : k < i := by omega
      have b := hU k (by omega)
      rw [if_neg (fun z => c (iY k i (by omega) hi z)), if_neg (by omega), h.lo k hk']
  · obtain ⟨c1, c2⟩ := ho i (Nat.lt_succ_self i)
    rw [G, if_neg c2, if_neg c1]
    exact h.ot e he fun k hk => ho k (by omega)
theorem ExI.pair (h : ExI n S U Y g m) (hS : IsPair (2 * n) S) (hU : ∀ k, k < m → U k < n ∧ n ≤ Y k ∧ Y k < 2 * n) (h1 : ∀ k, k < m → ∃ j, j < m ∧ Y k = S.getD (U j) 0) (h2 : ∀ j, j < m → ∃ k, k < m ∧ Y k = S.getD (U j) 0) : IsPair (2 * n) g where
  len := h.len
  par := fun e he => by
    have gs : ∀ {z : Nat}, z < 2 * n → g[z]? = some (g.getD z 0) := fun {z} hz => by rw [List.getD_eq_getElem?_getD, List.getElem?_eq_getElem (by rw [h.len]; exact hz)]; rfl
    by_cases c : ∃ k, k < m ∧ (e = U k ∨ e = Y k)
    · obtain ⟨k, hk, c⟩ := c
      obtain ⟨a1, a2, a3⟩ := hU k hk
      rcases c with c | c
      · exact ⟨Y k, by rw [gs he, c, h.up k hk], a3, by omega, by rw [gs a3, h.lo k hk, c]⟩
      · exact ⟨U k, by rw [gs he, c, h.lo k hk], by omega, by omega, by rw [gs (by omega), h.up k hk, c]⟩
    · obtain ⟨d1, d2, d3, d4⟩ := hS.d he
      have e1 : g.getD e 0 = S.getD e 0 := h.ot e he fun k hk => ⟨fun z => c ⟨k, hk, .inl z⟩, fun z => c ⟨k, hk, .inr z⟩⟩
      have e2 : g.getD (S.getD e 0) 0 = S.getD (S.getD e 0) 0 := h.ot _ d1 fun k hk => by
        refine ⟨fun z => ?_, fun z => ?_⟩
        · obtain ⟨j, hj, ej⟩ := h2 k hk
          rw [← z, d3] at ej
          exact c ⟨j, hj, .inr ej.symm⟩
        · obtain ⟨j, hj, ej⟩ := h1 k hk
          have hu := hU j hj
          have : S.getD (S.getD e 0) 0 = U j := by rw [z, ej]; exact (hS.d (show U j < 2 * n by omega)).2.2.1
          rw [d3] at this
          exact c ⟨j, hj, .inl this⟩
      exact ⟨S.getD e 0, by rw [gs he, e1], d1, d2, by rw [gs d1, e2, d3]⟩
end
end Pc
namespace Pc
open PySem PySem.Spec PyProof.Rows L2 RZ
section
variable {P : Program} {w : World} {K : PySem.W.Frag} {mg : Str → Option Value} {base : Heap}
/-! ### the law's own reading -/
def spRead (K : PySem.W.Frag) : Sp := fun vs H Q _ => ∃ (a p : Addr) (fs ps : List Nat) (n : Nat), vs = [.ref a, .ref p] ∧ SqT K H a (nv fs) ∧ SqT K H p (nv ps) ∧ IsPair (2 * n) fs ∧ IsPair n ps ∧ n ≤ 500 ∧
  ∀ (H' : Hp) (t : Addr), Same H H' → H t = none → H' t = some (.tup (nv (rd fs ps n))) → Q (.ref t) H'
theorem rd_next (fs ps : List Nat) {n i : Nat} (h : i < n) : (rd fs ps n).take (i + 1) = (rd fs ps n).take i ++ [far fs ps n (n + i) - n] := by
  rw [List.take_add_one, rd_get fs ps h]; rfl
theorem ok_read (T : Env K mg) : FnOk P w K mg base CX0 1 T.f_read T.d_read ["_law_page", "_law_start"] (spRead K) := by
  refine T.F_read.ok sc_read (fun vs H Q E h => ?_) (fun cdv A outer s H vs Q E hr h => ?_)
  · obtain ⟨a, p, fs, ps, n, rfl, _⟩ := h
    rfl
  · obtain ⟨a, p, fs, ps, n, rfl, ha, hp, hF, hP, hn, q⟩ := h
    refine ⟨_, pss_cons (ps_par (by rfl) sc_read.nd (i := 2) (j := 3) rfl rfl (by decide) rfl rfl (pa_cons (pe_callB call_len_seq (by rfl) T.n_len PySem.boot_len (pa_cons (pv 1) pa_nil)) (pa_cons (pe_lst pa_nil) pa_nil)) (by rfl)) <|
      pss_cons (ps_for PassesOwn.never rfl (pi_range1 (by rfl) T.n_range (pa_cons (pv 2) pa_nil)) (pg_name (i := 4) sc_read.nd rfl (.inl rfl))
        (pss_cons (ps_set (i := 5) sc_read.nd rfl (.inl rfl) (pe_ix ix_tup (pv 0) (pe_op op_add (pv 2) (pv 4)) (fun _ _ => rfl))) <|
        pss_cons (ps_while PassesOwn.never (pt_cmpR op_lt (pv 5) (pv 2) (nomark _)) (pss_one (ps_set (i := 5) sc_read.nd rfl (.inl rfl) (pe_ix ix_tup (pv 0) (pe_ix ix_tup (pv 1) (pv 5) (fun _ _ => rfl)) (fun _ _ => rfl))))) <|
        pss_one (ps_expr (pe_bm PySem.F.plainAttrs_list PySem.F.slot_list_append PySem.F.type_list_append mt_append (pv 3) (pa_cons (pe_op op_sub (pv 5) (pv 2)) pa_nil))))) <|
      pss_one (ps_ret (pe_callTy call_tuple_of (by rfl) T.n_tuple (by decide +kernel) (pa_cons (pv 3) pa_nil))), ?_⟩
    have hlp : ((nv ps).length : Int) = (n : Nat) := by rw [nv_length, hP.len]
    refine ⟨.ref p, rfl, p, _, rfl, .inr hp, by show 0 ≤ sizeLine; decide, fun D nD => ⟨_, _, rfl, ?_⟩⟩
    refine ⟨_, rfl, _, rfl, by rw [hlp]; omega, by rw [hlp]; omega, ?_⟩
    rw [show (((nv ps).length : Int)).toNat = n by rw [hlp]; omega, hlp]
    refine for_range (n := n) (fun i σ H' => Same H H' ∧ ∃ (y4 y5 : Option V), σ = [some (.ref a), some (.ref p), some (.int n), some (.ref D), y4, y5] ∧ H' D = some (.lst (nv ((rd fs ps n).take i)))) ⟨same_new nD, none, none, rfl, upd_same⟩ (fun i σ H1 hi h => ?_) (fun σ H1 h => ?_)
    · obtain ⟨sm, y4, y5, rfl, eD⟩ := h
      have ha1 := same_tup sm ha
      have hp1 := same_tup sm hp
      obtain ⟨tt, _⟩ := trl_trail hF hP (z := n + i) (by omega) (by omega)
      have hf := far_d hF hP (z := n + i) (by omega) (by omega)
      have fi := hF.d (show n + i < 2 * n by omega)
      have a1 : atI (nv fs) ((n : Int) + ((0 : Int) + (i : Nat))) = some (.int ((fs.getD (n + i) 0 : Nat) : Int)) := by
        rw [Int.zero_add, show (n : Int) + (i : Int) = ((n + i : Nat) : Int) by omega]; exact nv_at fi.2.2.2
      refine ⟨_, rfl, _, rfl, _, rfl, _, _, rfl, rfl, a, _, _, _, rfl, rfl, ha1, a1, ?_⟩
      refine ⟨fun m σ Hx => Hx = H1 ∧ ∃ (z : Nat) (l : List Nat), σ = [some (.ref a), some (.ref p), some (.int n), some (.ref D), some (.int ((0 : Int) + (i : Nat))), some (.int ((fs.getD z 0 : Nat) : Int))] ∧ z < 2 * n ∧ Trail fs ps n z l ∧ l.getLastD 0 = far fs ps n (n + i) ∧ l.length = m,
        ⟨_, rfl, n + i, _, rfl, by omega, tt, rfl, rfl⟩, fun m σ Hx hW => ?_⟩
      obtain ⟨rfl, z, l, rfl, hz, tz, el, hm⟩ := hW
      refine ⟨_, rfl, _, rfl, _, _, rfl, rfl, _, rfl, ite2 (fun c => ?_) (fun c => ?_)⟩
      · have hc : fs.getD z 0 < n := by have := of_decide_eq_true c; omega
        cases tz with
        | stop h => omega
        | @go _ l' _ tz' =>
        obtain ⟨p1, _, _, p4⟩ := hP.d hc
        obtain ⟨f1, _, _, f4⟩ := hF.d (x := ps.getD (fs.getD z 0) 0) (by omega)
        refine ⟨fun σ' H2 => H2 = Hx ∧ ∃ (z : Nat) (l : List Nat), σ' = [some (.ref a), some (.ref p), some (.int n), some (.ref D), some (.int ((0 : Int) + (i : Nat))), some (.int ((fs.getD z 0 : Nat) : Int))] ∧ z < 2 * n ∧ Trail fs ps n z l ∧ l.getLastD 0 = far fs ps n (n + i) ∧ l.length < m,
          fun σ' H2 h2 => ?_, ?_⟩
        · obtain ⟨g1, z', l2, g2, g3, g4, g5, g6⟩ := h2
          exact ⟨_, g6, g1, z', l2, g2, g3, g4, g5, rfl⟩
        · refine ⟨_, rfl, _, rfl, _, rfl, p, _, _, _, rfl, rfl, hp1, nv_at p4, a, _, _, _, rfl, rfl, ha1, nv_at f4, rfl, _, l', rfl, by omega, tz', ?_, by rw [← hm]; simp only [List.length_cons]; omega⟩
          rw [← el, lastc tz'.len.1]
      · cases tz with
        | go h _ => exact absurd (decide_eq_true (show ((fs.getD z 0 : Nat) : Int) < (n : Int) by omega)) c
        | stop h =>
          have el' : fs.getD z 0 = far fs ps n (n + i) := el
          refine ⟨.ref D, rfl, .inl ⟨rfl, _, .inl (.inl eD)⟩, _, rfl, _, rfl, _, _, rfl, rfl, D, _, _, rfl, rfl, eD, line_big (by rw [nv_length, List.length_take, rd_len]; omega), fun x o hx => ?_, _, _, rfl, ?_⟩
          · rw [upd_ne (ne_of_none hx nD)]; exact sm _ _ hx
          · rw [upd_same, rd_next fs ps hi, ← nv_snoc']
            show some (HO.lst (nv ((rd fs ps n).take i) ++ [V.int (((fs.getD z 0 : Nat) : Int) - (n : Int))])) = _
            rw [el', show ((far fs ps n (n + i) : Nat) : Int) - (n : Int) = ((far fs ps n (n + i) - n : Nat) : Int) by omega]
    · obtain ⟨s1, y4, y5, rfl, eD⟩ := h
      rw [List.take_of_length_le (Nat.le_of_eq (rd_len fs ps n))] at eD
      exact ⟨.ref D, rfl, D, _, rfl, .inl ⟨.inl (.inl eD), fun t nt => q _ t (s1.trans (same_new nt)) (s1.free nt) upd_same⟩⟩
end
end Pc
namespace Pc
open PySem PySem.Spec PyProof.Rows L2 RZ
theorem keep_sqTx {K : PySem.W.Frag} {H H' : Hp} {a b : Addr} {xs : List V} (k : Keep b H H') (hab : a ≠ b) (h : SqT K H a xs) : SqT K H' a xs := by
  rcases h with (h | ⟨o, h⟩) | h
  · exact .inl (.inl (k _ _ hab h))
  · exact .inl (.inr ⟨o, k _ _ hab h⟩)
  · exact .inr h
theorem upf_stepx {c : List Nat} {k : Nat} (i : Nat) : ((List.range (i + 1)).filter fun x => decide (k ≤ c.getD x 0)) = ((List.range i).filter fun x => decide (k ≤ c.getD x 0)) ++ if k ≤ c.getD i 0 then [i] else [] := by
  rw [List.range_succ, List.filter_append]
  congr 1
  by_cases h : k ≤ c.getD i 0
  · rw [if_pos h]; rw [List.getD_eq_getElem?_getD] at h; simp [h]
  · rw [if_neg h]; rw [List.getD_eq_getElem?_getD] at h; simp; omega
theorem cutV_dr2 {x y : Nat} (l : List Nat) : cutV (nv (x :: y :: l)) (some 2) none = nv l := by rw [show (2 : Int) = ((2 : Nat) : Int) from rfl, cut_from]; rfl
theorem getD_sx {l : List Nat} {i : Nat} (h : i < l.length) : l[i]? = some (l.getD i 0) := by rw [List.getD_eq_getElem?_getD, List.getElem?_eq_getElem h]; rfl
theorem ex_done {n : Nat} {S us os g : List Nat} (hS : IsPair (2 * n) S) (hu : ∀ u ∈ us, u < n ∧ n ≤ S.getD u 0) (hd : us.Nodup) (hp : os.Perm us) :
    (∀ k, k < us.length → us.getD k 0 < n ∧ n ≤ S.getD (os.getD k 0) 0 ∧ S.getD (os.getD k 0) 0 < 2 * n) ∧ (∀ j k, j < us.length → k < us.length → us.getD j 0 = us.getD k 0 → j = k) ∧ (∀ j k, j < us.length → k < us.length → S.getD (os.getD j 0) 0 = S.getD (os.getD k 0) 0 → j = k) ∧
    (ExI n S (fun k => us.getD k 0) (fun k => S.getD (os.getD k 0) 0) g us.length → IsPair (2 * n) g) := by
  have hl := hp.length_eq
  have mu : ∀ k, k < us.length → us.getD k 0 ∈ us := fun k hk => List.mem_of_getElem? (getD_sx hk)
  have mo : ∀ k, k < us.length → os.getD k 0 ∈ us := fun k hk => hp.mem_iff.mp (List.mem_of_getElem? (getD_sx (by rw [hl]; exact hk)))
  have inj : ∀ {l : List Nat}, l.Nodup → ∀ j k, j < l.length → k < l.length → l.getD j 0 = l.getD k 0 → j = k := fun {l} hn j k hj hk e => by
    rw [List.getD_eq_getElem?_getD, List.getD_eq_getElem?_getD, List.getElem?_eq_getElem hj, List.getElem?_eq_getElem hk] at e
    exact (List.getElem_inj hn).mp e
  have h1 : ∀ k, k < us.length → us.getD k 0 < n ∧ n ≤ S.getD (os.getD k 0) 0 ∧ S.getD (os.getD k 0) 0 < 2 * n := fun k hk => by
    obtain ⟨a, b⟩ := hu _ (mo k hk)
    exact ⟨(hu _ (mu k hk)).1, b, (hS.d (show os.getD k 0 < 2 * n by omega)).1⟩
  refine ⟨h1, inj hd, fun j k hj hk e => ?_, fun h => h.pair hS h1 (fun k hk => ?_) (fun j hj => ?_)⟩
  · have a := hS.d (show os.getD j 0 < 2 * n by have := (hu _ (mo j hj)).1; omega)
    have b := hS.d (show os.getD k 0 < 2 * n by have := (hu _ (mo k hk)).1; omega)
    have : os.getD j 0 = os.getD k 0 := by rw [← a.2.2.1, e, b.2.2.1]
    exact inj (hp.nodup_iff.mpr hd) j k (by omega) (by omega) this
  · obtain ⟨j, hj, ej⟩ := List.getElem_of_mem (mo k hk)
    exact ⟨j, hj, by show S.getD (os.getD k 0) 0 = S.getD (us.getD j 0) 0; rw [List.getD_eq_getElem?_getD (l := us), List.getElem?_eq_getElem hj, ej]; rfl⟩
  · obtain ⟨k, hk, ek⟩ := List.getElem_of_mem (hp.mem_iff.mpr (mu j hj))
    exact ⟨k, by omega, by show S.getD (os.getD k 0) 0 = S.getD (us.getD j 0) 0; rw [List.getD_eq_getElem?_getD (l := os), List.getElem?_eq_getElem hk, ek]; rfl⟩
section
variable {P : Program} {w : World} {K : PySem.W.Frag} {mg : Str → Option Value} {base : Heap}
/-! ### the strands of a sheet in another order -/
def spExchanged (K : PySem.W.Frag) : Sp := fun vs H Q _ => ∃ (b a : Addr) (f : List Nat) (m n : Nat), vs = [.ref b, .ref a] ∧ Box (m + (n + (n + 1))) H b ∧ SqT K H a (nv f) ∧ IsPair (2 * n) f ∧ n ≤ 100 ∧ a ≠ b ∧
  ∀ (H' : Hp) (t : Addr) (g : List Nat), IsPair (2 * n) g → Keep b H H' → Box m H' b → H t = none → H' t = some (.tup (nv g)) → Q (.ref t) H'
theorem ok_exchanged (T : Env K mg) : FnOk P w K mg base CX0 3 T.f_exchanged T.d_exchanged ["_law_source", "_law_page"] (spExchanged K) := by
  have GS : FnOk P w K mg base CX0 2 T.f_shuffled T.d_shuffled ["_law_source", "_law_some"] (spStrewn K) := ok_strewn T
  have GT : FnOk P w K mg base CX0 1 T.f_draw T.d_draw ["_law_source", "_law_bound"] spTake := ok_take T
  refine T.F_exchanged.ok sc_exchanged (fun vs H Q E h => ?_) (fun cdv A outer s H vs Q E hr h => ?_)
  · obtain ⟨b, a, f, m, n, rfl, _⟩ := h
    rfl
  · obtain ⟨b, a, f, m, n, rfl, hB, ha, hf, hn, hab, q⟩ := h
    have h1 := hr.mono (show 1 ≤ 2 by decide)
    refine ⟨_, pss_cons (ps_asg (pe_tup (pa_cons (pe_op op_fdiv (pe_callB call_len_seq (by rfl) T.n_len PySem.boot_len (pa_cons (pv 1) pa_nil)) pe_int) (pa_cons (pe_callTy call_list_of (by rfl) T.n_list (by decide +kernel) (pa_cons (pv 1) pa_nil)) pa_nil))) (pg_tup rfl (pgs_cons (pg_name (i := 2) sc_exchanged.nd rfl (.inr rfl)) (pgs_cons (pg_name (i := 3) sc_exchanged.nd rfl (.inl rfl)) pgs_nil)))) <|
      pss_cons (ps_set (i := 5) sc_exchanged.nd rfl (.inl rfl) (pe_call GS hr (by rfl) T.g_shuffled T.F_shuffled.kp T.b_shuffled .nil pass0 (pa_cons (pv 0) (pa_cons
        (pe_lc (own := [("_law_end", 4)]) (g := gName 4) (tt := tTest (tOp (rI0 fun i j => .bl (decide (j ≤ i))) (tOp (rIxT K) (tVar 1) (tVar 4)) (tVar 2))) (te := tVar 4) (by rfl) sc_exchanged.nd (pi_range1 (by rfl) T.n_range (pa_cons (pv 2) pa_nil)) (blkOk_by (N := N_exchanged) (sc := defScope s_exchanged) (by decide +kernel))
          (fun _ _ _ _ _ => pg_name (i := 4) sc_exchanged.nd rfl (.inl rfl)) (fun _ _ _ _ _ => pts_one (pt_cmpR op_ge (pe_ix ix_tup (pv 1) (pv 4) (fun _ _ => rfl)) (pv 2) (nomark _))) (fun _ _ _ _ _ => pv 4)) pa_nil)))) <|
      pss_cons (ps_par (by rfl) sc_exchanged.nd (i := 6) (j := 7) rfl rfl (by decide) rfl rfl (pa_cons (pe_callTy call_list_of (by rfl) T.n_list (by decide +kernel) (pa_cons (pv 5) pa_nil)) (pa_cons (pe_call GT h1 (by rfl) T.g_draw T.F_draw.kp T.b_draw .nil pass0 (pa_cons (pv 0) (pa_cons pe_int pa_nil))) pa_nil)) (by rfl)) <|
      pss_cons (ps_if (PW.pt (pw_or (pt_cmpR op_eq (pv 7) pe_int (nomark _)) (pw_or1 (pt_cmpR op_lt (pe_callB call_len_seq (by rfl) T.n_len PySem.boot_len (pa_cons (pv 6) pa_nil)) pe_int (nomark _)))))
        (pss_one (ps_set (i := 6) sc_exchanged.nd rfl (.inl rfl) (pe_call GS hr (by rfl) T.g_shuffled T.F_shuffled.kp T.b_shuffled .nil pass0 (pa_cons (pv 0) (pa_cons (pv 6) pa_nil)))))
        (pss_one (ps_set (i := 6) sc_exchanged.nd rfl (.inl rfl) (pe_op op_cat (pe_lst (pa_cons (pe_ix ix_list (pv 6) pe_int (fun _ _ => rfl)) (pa_cons (pe_ix ix_list (pv 6) pe_int (fun _ _ => rfl)) pa_nil)))
          (pe_ix ix_list (pe_lst (pa_cons (pe_revL (pe_slice sl_list (pv 6) (po_some pe_int) po_none)) (pa_cons (pe_slice sl_list (pv 6) (po_some pe_int) po_none) pa_nil))) (pv 7) (fun _ _ => rfl)))))) <|
      pss_cons (ps_for PassesOwn.never rfl (pi_zipA (by rfl) T.n_zip (pa_cons (pv 5) (pa_cons
        (pe_lc (own := [("_law_end", 4)]) (g := gName 4) (tt := tYes) (te := tOp (rIxT K) (tVar 1) (tVar 4)) rfl sc_exchanged.nd (pi_list (pv 6)) (blkOk_by (N := N_exchanged) (sc := defScope s_exchanged) (by decide +kernel))
          (fun _ _ _ _ _ => pg_name (i := 4) sc_exchanged.nd rfl (.inl rfl)) (fun _ _ _ _ _ => pts_nil) (fun _ _ _ _ _ => pe_ix ix_tup (pv 1) (pv 4) (fun _ _ => rfl))) pa_nil))) (pg_tup (by rfl) (pgs_cons (pg_name (i := 4) sc_exchanged.nd rfl (.inl rfl)) (pgs_cons (pg_name (i := 8) sc_exchanged.nd rfl (.inl rfl)) pgs_nil)))
          (pss_one (ps_asg (pe_tup (pa_cons (pv 8) (pa_cons (pv 4) pa_nil))) (pg_tup rfl (pgs_cons (pg_sub (pv 3) (pv 4) set_list) (pgs_cons (pg_sub (pv 3) (pv 8) set_list) pgs_nil)))))) <|
      pss_one (ps_ret (pe_callTy call_tuple_of (by rfl) T.n_tuple (by decide +kernel) (pa_cons (pv 3) pa_nil))), ?_⟩
    have hl := hf.len
    have ln : ∀ {l : List V}, l.length = 2 * n → ∀ {i : Nat}, i < 2 * n → ixN l.length (i : Int) = some i := fun {l} hl2 {i} hi => ixN_nat (by rw [hl2]; exact hi)
    have el2 : ((nv f).length : Int) / 2 = (n : Int) := by rw [nv_length, hl]; omega
    refine ⟨.ref a, rfl, a, _, rfl, .inr ha, _, 2, rfl, rfl, ⟨by decide, by decide⟩, .ref a, rfl, a, _, rfl, .inr ha, fun F nF => ⟨by show 2 ≤ sizeLine; decide, fun tq ntq => ?_⟩⟩
    refine ⟨tq, _, rfl, .inl (.inl upd_same), rfl, _, _, rfl, _, _, rfl, rfl, ?_⟩
    refine st_eq (t := tSeq _ _) [some (.ref b), some (.ref a), some (.int (n : Nat)), some (.ref F), none, none, none, none, none] ?_ (by show [some (V.ref b), some (V.ref a), some (V.int (((nv f).length : Int) / 2)), some (V.ref F), none, none, none, none, none] = _; rw [el2])
    have s0 : Same H (upd (upd H F (.lst (nv f))) tq (.tup [.int (((nv f).length : Int) / 2), .ref F])) := (same_new nF).trans (same_new ntq)
    have eF : (upd (upd H F (.lst (nv f))) tq (.tup [.int (((nv f).length : Int) / 2), .ref F])) F = some (.lst (nv f)) := same_new ntq _ _ upd_same
    revert s0 eF; generalize upd (upd H F (.lst (nv f))) tq (.tup [.int (((nv f).length : Int) / 2), .ref F]) = H0; intro s0 eF
    clear ntq
    have nFb : F ≠ b := (hB.ne_new nF).symm
    refine ⟨_, rfl, _, rfl, _, rfl, by omega, by omega, fun D nD => ?_⟩
    rw [show ((n : Nat) : Int).toNat = n from rfl]
    refine lc_range (n := n) (fun i H' => Same H0 H' ∧ H' D = some (.lst (nv ((List.range i).filter fun x => decide (n ≤ f.getD x 0))))) ⟨same_new nD, upd_same⟩ (fun i H' hi h => ?_) (fun H1 h => ?_)
    · obtain ⟨sm, eD⟩ := h
      have g2 : atI (nv f) ((0 : Int) + (i : Nat)) = some (.int (f.getD i 0 : Nat)) := by rw [Int.zero_add]; exact nv_at (hf.d (show i < 2 * n by omega)).2.2.2
      refine ⟨rfl, _, rfl, _, rfl, a, _, _, _, rfl, rfl, same_tup (s0.trans sm) ha, g2, _, rfl, _, _, rfl, rfl, _, rfl, ?_⟩
      by_cases q1 : n ≤ f.getD i 0
      · rw [decide_eq_true (show (n : Int) ≤ ((f.getD i 0 : Nat) : Int) by omega)]
        refine iteT ⟨_, rfl, _, eD, ?_, fun y o hy => ?_, ?_⟩
        · rw [nv_length]; exact small1000 (Nat.le_trans (List.length_filter_le _ _) (by rw [List.length_range]; omega))
        · rw [upd_ne (ne_of_none hy nD)]; exact sm _ _ hy
        · rw [upd_same, upf_stepx, if_pos q1, Int.zero_add, nv_snoc']
      · rw [decide_eq_false (show ¬ (n : Int) ≤ ((f.getD i 0 : Nat) : Int) by omega)]
        refine iteF ⟨sm, ?_⟩
        rw [upf_stepx, if_neg q1, List.append_nil]; exact eD
    obtain ⟨s1, eD⟩ := h
    obtain ⟨l, hl0⟩ : ∃ l, l = ((List.range n).filter fun x => decide (n ≤ f.getD x 0)) := ⟨_, rfl⟩
    have hnd : l.Nodup := by rw [hl0]; exact List.Pairwise.filter _ List.nodup_range
    have hlm : ∀ x ∈ l, x < n ∧ n ≤ f.getD x 0 := fun x hx => by rw [hl0] at hx; have := List.mem_filter.mp hx; exact ⟨List.mem_range.mp this.1, of_decide_eq_true this.2⟩
    have hll : l.length ≤ n := by rw [hl0]; exact Nat.le_trans (List.length_filter_le _ _) (by rw [List.length_range]; exact Nat.le_refl _)
    rw [← hl0] at eD
    refine ⟨b, D, m + (n + 1), nv l, rfl, (hB.same (s0.trans s1)).mono (by rw [nv_length]; omega), .inl (.inl eD), by rw [nv_length]; omega, fun H2 p2 ys hpy k1 hB1 np2 ep2 => ?_⟩
    obtain ⟨us, e1, hp⟩ := perm_map_inv (fun (i : Nat) => V.int (i : Int)) hpy.symm l rfl
    have ep : H2 p2 = some (.lst (nv us)) := by rw [ep2, e1]; rfl
    have hun : us.Nodup := hp.nodup_iff.mpr hnd
    have hul : us.length ≤ n := by rw [hp.length_eq]; exact hll
    have hum : ∀ u ∈ us, u < n ∧ n ≤ f.getD u 0 := fun u hu => hlm u (hp.mem_iff.mp hu)
    have k2 : Keep b H H2 := (Keep.of_same (s0.trans s1)).trans k1
    have eF2 : H2 F = some (.lst (nv f)) := k1 _ _ nFb (s1 _ _ eF)
    have n2b : p2 ≠ b := ((hB.same (s0.trans s1)).ne_new np2).symm
    have nF2 : p2 ≠ F := fun z => by rw [z, s1 _ _ eF] at np2; cases np2
    clear e1 hpy ep2
    refine st_set [some (.ref b), some (.ref a), some (.int (n : Nat)), some (.ref F), none, some (.ref p2), none, none, none] ?_ rfl
    -- order, kind
    refine ⟨_, rfl, p2, _, rfl, .inl (.inl (.inl ep)), fun o0 no0 => ?_⟩
    have s3 : Same H2 (upd H2 o0 (.lst (nv us))) := same_new no0
    have eo : (upd H2 o0 (.lst (nv us))) o0 = some (.lst (nv us)) := upd_same
    have nob : o0 ≠ b := (hB1.ne_new no0).symm
    revert s3 eo; generalize upd H2 o0 (.lst (nv us)) = H3; intro s3 eo
    refine ⟨_, rfl, b, m + n, 3, rfl, (hB1.same s3).mono (by omega), by decide, by decide, fun r H4 r0 r3 hB4 k4 => ⟨_, _, rfl, ?_⟩⟩
    refine st_at [some (.ref b), some (.ref a), some (.int (n : Nat)), some (.ref F), none, some (.ref p2), some (.ref o0), some (.int r), none] rfl ?_
    have k5 : Keep b H H4 := (k2.trans (Keep.of_same s3)).trans k4
    have ep4 := k4 _ _ n2b (s3 _ _ ep)
    have eF4 := k4 _ _ nFb (s3 _ _ eF2)
    have eo4 := k4 _ _ nob eo
    have nF0 : H F = none := nF
    -- the order
    refine tjoin1 (t := tIfS _ _ _) (fun σ' H' => Keep b H H' ∧ Box m H' b ∧ H' p2 = some (.lst (nv us)) ∧ H' F = some (.lst (nv f)) ∧ ∃ (o : Addr) (os : List Nat), σ' = [some (.ref b), some (.ref a), some (.int (n : Nat)), some (.ref F), none, some (.ref p2), some (.ref o), some (.int r), none] ∧ H' o = some (.lst (nv os)) ∧ os.Perm us) ?_ (fun Nx hNx => ?_)
    rotate_left
    · have br : ∀ {X : L2.St → Hp → Prop}, (∀ σ' H', (Keep b H H' ∧ Box m H' b ∧ H' p2 = some (.lst (nv us)) ∧ H' F = some (.lst (nv f)) ∧ ∃ (o : Addr) (os : List Nat), σ' = [some (.ref b), some (.ref a), some (.int (n : Nat)), some (.ref F), none, some (.ref p2), some (.ref o), some (.int r), none] ∧ H' o = some (.lst (nv os)) ∧ os.Perm us) → X σ' H') →
          spStrewn K [V.ref b, V.ref o0] H4 (fun v H' => X [some (.ref b), some (.ref a), some (.int (n : Nat)), some (.ref F), none, some (.ref p2), some v, some (.int r), none] H') E0 := by
        intro X hX
        refine ⟨b, o0, m, nv us, rfl, hB4.mono (by rw [nv_length]; omega), .inl (.inl eo4), by rw [nv_length]; omega, fun H5 p5 ys hpy k6 hB5 np5 ep5 => ?_⟩
        obtain ⟨os, e1, hpo⟩ := perm_map_inv (fun (i : Nat) => V.int (i : Int)) hpy.symm us rfl
        exact hX _ _ ⟨k5.trans k6, hB5, k6 _ _ n2b ep4, k6 _ _ nFb eF4, p5, os, rfl, by rw [ep5, e1]; rfl, hpo⟩
      by_cases c : r = 2
      · refine ⟨_, rfl, rfl, _, rfl, iteY (decide_eq_true (congrArg V.int c)) (iteY rfl ?_)⟩
        exact ⟨_, rfl, _, rfl, br fun σ' H' h => hNx σ' H' h⟩
      · refine ⟨_, rfl, rfl, _, rfl, iteX (decide_eq_false (fun z => c (V.int.inj z))) ⟨_, rfl, o0, _, rfl, .inl (.inl (.inl eo4)), _, _, rfl, rfl, _, rfl, ite2 (fun c2 => ?_) (fun c2 => ?_)⟩⟩
        · exact ⟨_, rfl, _, rfl, br fun σ' H' h => hNx σ' H' h⟩
        · have h4 : 4 ≤ us.length := by
            have c3 : ¬ ((nv us).length : Int) < 4 := fun z => c2 (decide_eq_true z)
            rw [nv_length] at c3; omega
          match us, hp, hun, hul, hum, ep4, eo4, h4, hNx with
          | x0 :: x1 :: rest, hp, hun, hul, hum, ep4, eo4, h4, hNx =>
          have a1 : atI (nv (x0 :: x1 :: rest)) 1 = some (.int (x1 : Nat)) := atI_nat (j := 1) rfl
          have a0 : atI (nv (x0 :: x1 :: rest)) 0 = some (.int (x0 : Nat)) := atI_nat (j := 0) rfl
          refine ⟨_, rfl, o0, _, 1, _, rfl, rfl, .inl (.inl eo4), a1, _, rfl, o0, _, 0, _, rfl, rfl, .inl (.inl eo4), a0, by show 2 ≤ sizeLine; decide, fun q1 nq1 => ?_⟩
          have u1 := same_new (o := .lst [V.int (x1 : Nat), V.int (x0 : Nat)]) nq1
          refine ⟨_, rfl, 2, rfl, o0, _, rfl, .inl (.inl (u1 _ _ eo4)), fun z1 nz1 => ?_⟩
          rw [show cutV (nv (x0 :: x1 :: rest)) (some 2) none = nv rest from cutV_dr2 rest]
          have u2 := u1.trans (same_new (o := .lst (nv rest)) nz1)
          refine ⟨z1, _, rfl, .inl (.inl upd_same), fun z2 nz2 => ?_⟩
          rw [back_nv, backV_rev]
          have u3 := u2.trans (same_new (o := .lst (nv rest.reverse)) nz2)
          refine ⟨_, rfl, 2, rfl, o0, _, rfl, .inl (.inl (u3 _ _ eo4)), fun z3 nz3 => ?_⟩
          rw [show cutV (nv (x0 :: x1 :: rest)) (some 2) none = nv rest from cutV_dr2 rest]
          have u4 := u3.trans (same_new (o := .lst (nv rest)) nz3)
          refine ⟨by show 2 ≤ sizeLine; decide, fun z4 nz4 => ?_⟩
          have u5 := u4.trans (same_new (o := .lst [V.ref z2, V.ref z3]) nz4)
          have eq1 := same_new (o := .lst [V.ref z2, V.ref z3]) nz4 _ _ (same_new (o := .lst (nv rest)) nz3 _ _ (same_new (o := .lst (nv rest.reverse)) nz2 _ _ (same_new (o := .lst (nv rest)) nz1 _ _ (show upd H4 q1 (.lst [V.int (x1 : Nat), V.int (x0 : Nat)]) q1 = some (.lst (nv [x1, x0])) from upd_same))))
          have ez2 := same_new (o := .lst [V.ref z2, V.ref z3]) nz4 _ _ (same_new (o := .lst (nv rest)) nz3 _ _ (show upd (upd (upd H4 q1 (.lst [V.int (x1 : Nat), V.int (x0 : Nat)])) z1 (.lst (nv rest))) z2 (.lst (nv rest.reverse)) z2 = some (.lst (nv rest.reverse)) from upd_same))
          have ez3 := same_new (o := .lst [V.ref z2, V.ref z3]) nz4 _ _ (show upd (upd (upd (upd H4 q1 (.lst [V.int (x1 : Nat), V.int (x0 : Nat)])) z1 (.lst (nv rest))) z2 (.lst (nv rest.reverse))) z3 (.lst (nv rest)) z3 = some (.lst (nv rest)) from upd_same)
          have ez4 : upd (upd (upd (upd (upd H4 q1 (.lst [V.int (x1 : Nat), V.int (x0 : Nat)])) z1 (.lst (nv rest))) z2 (.lst (nv rest.reverse))) z3 (.lst (nv rest))) z4 (.lst [V.ref z2, V.ref z3]) z4 = some (.lst [V.ref z2, V.ref z3]) := upd_same
          revert u5 eq1 ez2 ez3 ez4
          generalize upd (upd (upd (upd (upd H4 q1 (.lst [V.int (x1 : Nat), V.int (x0 : Nat)])) z1 (.lst (nv rest))) z2 (.lst (nv rest.reverse))) z3 (.lst (nv rest))) z4 (.lst [V.ref z2, V.ref z3]) = H5
          intro u5 eq1 ez2 ez3 ez4
          have hrl : rest.length ≤ 100 := by simp only [List.length_cons] at hul; omega
          have fin : ∀ (z : Addr) (rs : List Nat), H5 z = some (.lst (nv rs)) → rs.Perm rest → (nv [x1, x0]).length + (nv rs).length ≤ sizeLine ∧ ∀ d, H5 d = none → Nx [some (.ref b), some (.ref a), some (.int (n : Nat)), some (.ref F), none, some (.ref p2), some (.ref d), some (.int r), none] (upd H5 d (.lst (nv [x1, x0] ++ nv rs))) := fun z rs ez hpr => by
            refine ⟨by rw [nv_length, nv_length, hpr.length_eq]; exact Nat.le_of_lt (small1000 (by show 2 + _ ≤ 1000; omega)), fun d nd => hNx _ _ ?_⟩
            have u6 := u5.trans (same_new (o := .lst (nv [x1, x0] ++ nv rs)) nd)
            refine ⟨k5.trans (Keep.of_same u6), (hB4.same u6).mono (by omega), u6 _ _ ep4, u6 _ _ eF4, d, [x1, x0] ++ rs, rfl, by rw [upd_same]; unfold nv; rw [List.map_append], ?_⟩
            exact (List.Perm.swap x0 x1 rs).trans ((hpr.cons x1).cons x0)
          rcases (show r = 0 ∨ r = 1 by omega) with z | z
          · subst z
            obtain ⟨f1, f2⟩ := fin z2 rest.reverse ez2 (List.reverse_perm rest)
            exact ⟨_, rfl, z4, _, 0, _, rfl, rfl, .inl (.inl ez4), atI_nat (j := 0) rfl, q1, z2, _, _, rfl, rfl, eq1, ez2, f1, fun d nd => f2 d nd⟩
          · subst z
            obtain ⟨f1, f2⟩ := fin z3 rest ez3 (List.Perm.refl _)
            exact ⟨_, rfl, z4, _, 1, _, rfl, rfl, .inl (.inl ez4), atI_nat (j := 1) rfl, q1, z3, _, _, rfl, rfl, eq1, ez3, f1, fun d nd => f2 d nd⟩
    intro σ5 H5 hJ
    obtain ⟨k6, hB5, ep5, eF5, o, os, rfl, eo5, hpo⟩ := hJ
    obtain ⟨x1, x2, x3, x4⟩ := ex_done (g := f) hf hum hun hpo
    -- where they go
    have haT := keep_sqTx k6 hab ha
    have hol : os.length = us.length := hpo.length_eq
    refine ⟨_, rfl, _, rfl, o, rfl, ⟨_, .inl (.inl eo5)⟩, fun L nL => ?_⟩
    refine lc_list (xs := nv os) (fun j H' => Same H5 H' ∧ H' L = some (.lst (nv ((os.map fun z => f.getD z 0).take j)))) ⟨same_new nL, upd_same⟩ (fun j H' _ h => .inl (.inl (h.1 _ _ eo5))) (fun j v H' hv h => ?_) (fun H6 h => ?_)
    · obtain ⟨sm, eL⟩ := h
      obtain ⟨z, hz, rfl⟩ := nv_some hv
      have hzm := hum z (hpo.mem_iff.mp (List.mem_of_getElem? hz))
      have gz : atI (nv f) (z : Int) = some (.int (f.getD z 0 : Nat)) := nv_at (hf.d (show z < 2 * n by omega)).2.2.2
      have hk : (os.map fun z => f.getD z 0)[j]? = some (f.getD z 0) := by rw [List.getElem?_map, hz]; rfl
      exact ⟨rfl, yes_if ⟨_, rfl, _, rfl, a, _, _, _, rfl, rfl, same_tup sm haT, gz, nv_next nL sm eL hk (by rw [List.length_map]; omega) (Same.refl _)⟩⟩
    obtain ⟨s6, eL⟩ := h
    rw [nv_length, show os.length = (os.map fun z => f.getD z 0).length from (List.length_map _).symm, List.take_length] at eL
    have nFL : F ≠ L := ne_of_none eF5 nL
    have n2L : p2 ≠ L := ne_of_none ep5 nL
    refine ⟨p2, L, _, _, rfl, .inl ⟨.inl (.inl (s6 _ _ ep5)), .inl (.inl eL), ?_⟩⟩
    refine for_zipL (xs := nv us) (ys := nv (os.map fun z => f.getD z 0)) (by rw [nv_length, nv_length, List.length_map, hol]) (fun i σ G => Keep b H G ∧ Box m G b ∧ G p2 = some (.lst (nv us)) ∧ G L = some (.lst (nv (os.map fun z => f.getD z 0))) ∧ ∃ (y4 y8 : Option V) (fs : List Nat), σ = [some (.ref b), some (.ref a), some (.int (n : Nat)), some (.ref F), y4, some (.ref p2), some (.ref o), some (.int r), y8] ∧ G F = some (.lst (nv fs)) ∧ ExI n f (fun k => us.getD k 0) (fun k => f.getD (os.getD k 0) 0) fs i)
      ⟨k6.trans (Keep.of_same s6), hB5.same s6, s6 _ _ ep5, eL, none, none, f, rfl, s6 _ _ eF5, hl, fun k h => absurd h (Nat.not_lt_zero _), fun k h => absurd h (Nat.not_lt_zero _), fun e _ _ => rfl⟩ (fun i σ G h => ⟨.inl (.inl h.2.2.1), .inl (.inl h.2.2.2.1)⟩) (fun i vx vy TT σ G hx hy h nT => ?_) (fun σ G h => ?_)
    · obtain ⟨kG, bG, g2, gL, y4, y8, fs, rfl, eG, hE⟩ := h
      obtain ⟨ux, hux, rfl⟩ := nv_some hx
      obtain ⟨yy, hyy, rfl⟩ := nv_some hy
      have hi := get_lt hux
      rw [List.getElem?_map] at hyy
      obtain ⟨oz, hoz, rfl⟩ := Option.map_eq_some_iff.mp hyy
      have eux : ux = us.getD i 0 := by rw [List.getD_eq_getElem?_getD, hux]; rfl
      have eoz : oz = os.getD i 0 := by rw [List.getD_eq_getElem?_getD, hoz]; rfl
      obtain ⟨c1, c2, c3⟩ := x1 i hi
      have sT := same_new (o := .tup [V.int (ux : Nat), V.int (f.getD oz 0 : Nat)]) nT
      refine ⟨TT, _, rfl, .inl (.inl upd_same), rfl, _, _, rfl, _, _, rfl, rfl, ?_⟩
      refine st_eq [some (.ref b), some (.ref a), some (.int (n : Nat)), some (.ref F), some (.int (ux : Nat)), some (.ref p2), some (.ref o), some (.int r), some (.int (f.getD oz 0 : Nat))] ?_ rfl
      refine ⟨_, rfl, _, rfl, by show 2 ≤ sizeLine; decide, fun tp ntp => ?_⟩
      have sP := sT.trans (same_new (o := .tup [V.int (f.getD oz 0 : Nat), V.int (ux : Nat)]) ntp)
      refine ⟨tp, _, rfl, .inl (.inl upd_same), rfl, _, _, rfl, .ref F, rfl, _, rfl, F, _, _, ux, rfl, rfl, sP _ _ eG, ln (by rw [nv_length, hE.len]) (by rw [eux]; omega), ?_⟩
      refine ⟨_, _, rfl, .ref F, rfl, _, rfl, F, _, _, f.getD oz 0, rfl, rfl, upd_same, ln (by rw [List.length_set, nv_length, hE.len]) (by rw [eoz]; exact c3), rfl, ?_⟩
      have bP := bG.same sP
      have nLF := nFL.symm
      have n2F : p2 ≠ F := nF2
      refine ⟨fun z o' zb hz => ?_, ?_, ?_, ?_, _, _, (fs.set ux (f.getD oz 0)).set (f.getD oz 0) ux, rfl, ?_, ?_⟩
      · have nb : z ≠ F := ne_of_none hz nF0
        rw [upd_ne nb, upd_ne nb]; exact sP _ _ (kG _ _ zb hz)
      · exact (bP.keep keep_upd nFb.symm).keep keep_upd nFb.symm
      · rw [upd_ne n2F, upd_ne n2F]; exact sP _ _ g2
      · rw [upd_ne nLF, upd_ne nLF]; exact sP _ _ gL
      · rw [upd_same, nv_set, nv_set]
      · have := hE.step hi x1 x2 x3
        rw [eux, eoz]; exact this
    · obtain ⟨kG, bG, _, _, y4, y8, fs, rfl, eG, hE⟩ := h
      rw [nv_length] at hE
      have hg := (ex_done (g := fs) hf hum hun hpo).2.2.2 hE
      exact ⟨.ref F, rfl, F, _, rfl, .inl ⟨.inl (.inl eG), fun t nt => q _ t _ hg (kG.trans (Keep.of_same (same_new nt))) (bG.same (same_new nt)) (keep_none kG bG nt) upd_same⟩⟩
end
end Pc
namespace Pc
open PySem PySem.Spec PyProof.Rows L2 RZ
section
variable {P : Program} {w : World} {K : PySem.W.Frag} {mg : Str → Option Value} {base : Heap}
/-! ### a second sheet -/
def spMate (K : PySem.W.Frag) : Sp := fun vs H Q _ => ∃ (b a : Addr) (f : List Nat) (m n : Nat), vs = [.ref b, .ref a] ∧ Box (m + 111) H b ∧ SqT K H a (nv f) ∧ IsPair (2 * n) f ∧ 2 ≤ n ∧ n ≤ 10 ∧ a ≠ b ∧
  ∀ (H' : Hp) (t : Addr) (g : List Nat), IsPair (2 * n) g → Keep b H H' → Box m H' b → H t = none → H' t = some (.tup (nv g)) → Q (.ref t) H'
theorem ok_mate (T : Env K mg) : FnOk P w K mg base CX0 5 T.f_mate T.d_mate ["_law_source", "_law_page"] (spMate K) := by
  have GS : FnOk P w K mg base CX0 2 T.f_shuffled T.d_shuffled ["_law_source", "_law_some"] (spStrewn K) := ok_strewn T
  have GT : FnOk P w K mg base CX0 1 T.f_draw T.d_draw ["_law_source", "_law_bound"] spTake := ok_take T
  have GX : FnOk P w K mg base CX0 3 T.f_exchanged T.d_exchanged ["_law_source", "_law_page"] (spExchanged K) := ok_exchanged T
  have GJ : FnOk P w K mg base CX0 1 T.f_joined_ends T.d_joined_ends ["_law_crowd", "_law_tape"] (spJEnds K) := ok_joined_ends T
  have GW : FnOk P w K mg base CX0 4 T.f_random_word T.d_random_word ["_law_source", "_law_crowd", "_law_most"] spSomeCalls := ok_some_calls T
  have GR : FnOk P w K mg base CX0 3 T.f_random_pairing T.d_random_pairing ["_law_source", "_law_crowd"] spRandom := ok_random T
  refine T.F_mate.ok sc_mate (fun vs H Q E h => ?_) (fun cdv A outer s H vs Q E hr h => ?_)
  · obtain ⟨b, a, f, m, n, rfl, _⟩ := h
    rfl
  · obtain ⟨b, a, f, m, n, rfl, hB, ha, hf, h2, hn, hab, q⟩ := h
    have h1 := hr.mono (show 1 ≤ 4 by decide)
    have h2' := hr.mono (show 2 ≤ 4 by decide)
    have h3 := hr.mono (show 3 ≤ 4 by decide)
    refine ⟨_, pss_cons (ps_par (by rfl) sc_mate.nd (i := 2) (j := 3) rfl rfl (by decide) rfl rfl (pa_cons (pe_op op_fdiv (pe_callB call_len_seq (by rfl) T.n_len PySem.boot_len (pa_cons (pv 1) pa_nil)) pe_int) (pa_cons (pe_call GT h1 (by rfl) T.g_draw T.F_draw.kp T.b_draw .nil pass0 (pa_cons (pv 0) (pa_cons pe_int pa_nil))) pa_nil)) (by rfl)) <|
      pss_cons (ps_if (pt_cmpR op_lt (pv 3) pe_int (nomark _)) (pss_one (ps_ret (pe_call GX h3 (by rfl) T.g_exchanged T.F_exchanged.kp T.b_exchanged .nil pass0 (pa_cons (pv 0) (pa_cons (pv 1) pa_nil))))) pss_nil) <|
      pss_cons (ps_if (pt_cmpR op_eq (pv 3) pe_int (nomark _)) (pss_one (ps_ret (pe_call GJ h1 (by rfl) T.g_joined_ends T.F_joined_ends.kp T.b_joined_ends .nil pass0 (pa_cons (pv 2) (pa_cons (pe_call GW hr (by rfl) T.g_random_word T.F_random_word.kp T.b_random_word .nil pass0 (pa_cons (pv 0) (pa_cons (pv 2) (pa_cons pe_int pa_nil)))) pa_nil))))) pss_nil) <|
      pss_cons (ps_if (pt_cmpR op_eq (pv 3) pe_int (nomark _)) (pss_one (ps_ret (pe_call GR h3 (by rfl) T.g_random_pairing T.F_random_pairing.kp T.b_random_pairing .nil pass0 (pa_cons (pv 0) (pa_cons (pe_op op_mul pe_int (pv 2)) pa_nil))))) pss_nil) <|
      pss_cons (ps_par (by rfl) sc_mate.nd (i := 4) (j := 5) rfl rfl (by decide) rfl rfl (pa_cons (pe_callTy call_list_of (by rfl) T.n_list (by decide +kernel) (pa_cons (pv 1) pa_nil)) (pa_cons (pe_slice sl_list (pe_call GS h2' (by rfl) T.g_shuffled T.F_shuffled.kp T.b_shuffled .nil pass0 (pa_cons (pv 0) (pa_cons (pe_listRg rfl (by rfl) T.n_list (prg_1 (by rfl) T.n_range (pe_op op_mul pe_int (pv 2)))) pa_nil))) po_none (po_some pe_int)) pa_nil)) (by rfl)) <|
      pss_cons (ps_par (by rfl) sc_mate.nd (i := 6) (j := 7) rfl rfl (by decide) rfl rfl (pa_cons (pe_ix ix_list (pv 5) pe_int (fun _ _ => rfl)) (pa_cons (pe_ix ix_list (pv 5) pe_int (fun _ _ => rfl)) pa_nil)) (by rfl)) <|
      pss_cons (ps_if (pt_cmpR op_ne (pe_ix ix_list (pv 4) (pv 6) (fun _ _ => rfl)) (pv 7) (nomark _))
          (pss_one (ps_for PassesOwn.never rfl (pi_tup (pe_tup (pa_cons (pe_tup (pa_cons (pe_ix ix_list (pv 4) (pv 6) (fun _ _ => rfl)) (pa_cons (pe_ix ix_list (pv 4) (pv 7) (fun _ _ => rfl)) pa_nil))) (pa_cons (pe_tup (pa_cons (pv 6) (pa_cons (pv 7) pa_nil))) pa_nil)))) (pg_tup (by rfl) (pgs_cons (pg_name (i := 8) sc_mate.nd rfl (.inl rfl)) (pgs_cons (pg_name (i := 9) sc_mate.nd rfl (.inl rfl)) pgs_nil)))
            (pss_one (ps_asg (pe_tup (pa_cons (pv 9) (pa_cons (pv 8) pa_nil))) (pg_tup rfl (pgs_cons (pg_sub (pv 4) (pv 8) set_list) (pgs_cons (pg_sub (pv 4) (pv 9) set_list) pgs_nil))))))) pss_nil) <|
      pss_one (ps_ret (pe_callTy call_tuple_of (by rfl) T.n_tuple (by decide +kernel) (pa_cons (pv 4) pa_nil))), ?_⟩
    have hl := hf.len
    have ln : ∀ {l : List V}, l.length = 2 * n → ∀ {i : Nat}, i < 2 * n → ixN l.length (i : Int) = some i := fun {l} hl2 {i} hi => ixN_nat (by rw [hl2]; exact hi)
    refine ⟨.ref a, rfl, a, _, rfl, .inr ha, _, 2, rfl, rfl, ⟨by decide, by decide⟩, _, rfl, b, m + 110, 5, rfl, hB, by decide, by decide, fun r H1 r0 r5 hB1 k1 => ⟨_, _, rfl, ?_⟩⟩
    have haT := keep_sqTx k1 hab ha
    refine st_at [some (.ref b), some (.ref a), some (.int (n : Nat)), some (.int r), none, none, none, none, none, none] (by show [some (V.ref b), some (V.ref a), some (V.int (((nv f).length : Int) / 2)), some (V.int r), none, none, none, none, none, none] = _; rw [nv_length, hl, show ((2 * n : Nat) : Int) / 2 = (n : Int) by omega]) ?_
    refine ⟨_, rfl, _, _, rfl, rfl, _, rfl, ite2 (fun _ => ?_) (fun c1 => ?_)⟩
    · refine ⟨_, rfl, _, rfl, b, a, f, m, n, rfl, hB1.mono (by omega), haT, hf, by omega, hab, fun H2 t g hg k2 hB2 nt et => ?_⟩
      exact q H2 t g hg (k1.trans k2) hB2 (keep_none k1 hB1 nt) et
    refine ⟨_, rfl, rfl, _, rfl, ite2 (fun _ => ?_) (fun c2 => ?_)⟩
    · refine ⟨_, rfl, _, rfl, _, rfl, b, m, n, 8, rfl, hB1.mono (by omega), h2, by omega, by omega, fun H2 p as qs hc hq np ep hA k2 hB2 => ?_⟩
      refine ⟨n, p, _, as, qs, rfl, .inl (.inl ep), rfl, hA, hc, h2, by omega, fun H3 t s3 nt et => ?_⟩
      exact q H3 t _ (shw_pair (emp_pair (by omega)) hc) ((k1.trans k2).trans (Keep.of_same s3)) (hB2.same s3) (keep_none (k1.trans k2) hB2 nt) et
    refine ⟨_, rfl, rfl, _, rfl, ite2 (fun _ => ?_) (fun c3 => ?_)⟩
    · refine ⟨_, rfl, _, rfl, 2, _, rfl, rfl, .inl ⟨by decide, by decide⟩, ?_⟩
      refine ⟨b, m, 2 * n, congrArg (fun z => [V.ref b, V.int z]) (show (2 : Int) * (n : Int) = ((2 * n : Nat) : Int) by omega), hB1.mono (by omega), by omega, by omega, fun H2 p ps hp k2 hB2 np ep => ?_⟩
      exact q H2 p ps hp (k1.trans k2) hB2 (keep_none k1 hB1 np) ep
    -- two ends
    refine ⟨_, rfl, a, _, rfl, .inr haT, fun F nF => ?_⟩
    have s2 : Same H1 (upd H1 F (.lst (nv f))) := same_new nF
    have eF : (upd H1 F (.lst (nv f))) F = some (.lst (nv f)) := upd_same
    have nFb : F ≠ b := (hB1.ne_new nF).symm
    have nF0 := keep_none k1 hB1 nF
    revert s2 eF; generalize upd H1 F (.lst (nv f)) = H2; intro s2 eF
    refine ⟨_, rfl, _, rfl, 2, _, rfl, rfl, .inl ⟨by decide, by decide⟩, _, rfl, RgOk.of_le (by decide) (by omega) (by decide) (by omega), fun R nR => ?_⟩
    rw [show (2 * (n : Int)) = ((2 * n : Nat) : Int) by omega, rg_nv]
    have s3 := s2.trans (same_new (o := .lst (nv (List.range (2 * n)))) nR)
    have eF3 := same_new (o := .lst (nv (List.range (2 * n)))) nR _ _ eF
    refine ⟨b, R, m + 20, nv (List.range (2 * n)), rfl, (hB1.same s3).mono (by rw [nv_length, List.length_range]; omega), .inl (.inl upd_same), by rw [nv_length, List.length_range]; omega, fun H4 p4 ys hpy k4 hB4 np4 ep4 => ?_⟩
    obtain ⟨ps, e1, hp⟩ := perm_map_inv (fun (i : Nat) => V.int (i : Int)) hpy.symm (List.range (2 * n)) rfl
    have ep : H4 p4 = some (.lst (nv ps)) := by rw [ep4, e1]; rfl
    have kk4 : Keep b H H4 := (k1.trans (Keep.of_same s3)).trans k4
    have eF4 := k4 _ _ nFb eF3
    refine ⟨2, rfl, p4, nv ps, rfl, .inl (.inl ep), fun p5 np5 => ⟨_, _, rfl, ?_⟩⟩
    rw [show cutV (nv ps) none (some 2) = nv (ps.take 2) from cut_head ps 2]
    have s5 : Same H4 (upd H4 p5 (.lst (nv (ps.take 2)))) := same_new np5
    have ep5 : (upd H4 p5 (.lst (nv (ps.take 2)))) p5 = some (.lst (nv (ps.take 2))) := upd_same
    revert s5 ep5; generalize upd H4 p5 (.lst (nv (ps.take 2))) = H5; intro s5 ep5
    have k5 := kk4.trans (Keep.of_same s5)
    have hB5 := hB4.same s5
    have eF5 := s5 _ _ eF4
    have hpl := hp.length_eq
    rw [List.length_range] at hpl
    have hpd : ps.Nodup := hp.nodup_iff.mpr List.nodup_range
    have hpm : ∀ x ∈ ps, x < 2 * n := fun x hx => List.mem_range.mp (hp.mem_iff.mp hx)
    clear e1 hpy ep4 hp
    match ps, hpl, hpd, hpm, ep5 with
    | [], hpl, _, _, _ => simp at hpl; omega
    | [_], hpl, _, _, _ => simp at hpl; omega
    | x :: y :: rs, hpl, hpd, hpm, ep5 =>
    have hx := hpm x List.mem_cons_self
    have hy := hpm y (List.mem_cons_of_mem _ List.mem_cons_self)
    have hxy : x ≠ y := fun e => (List.nodup_cons.mp hpd).1 (by rw [e]; exact List.mem_cons_self)
    have e5' : H5 p5 = some (.lst (nv [x, y])) := ep5
    refine st_at [some (.ref b), some (.ref a), some (.int (n : Nat)), some (.int r), some (.ref F), some (.ref p5), none, none, none, none] rfl ?_
    refine ⟨_, rfl, p5, _, 0, _, rfl, rfl, .inl (.inl e5'), atI_nat (j := 0) rfl, _, rfl, p5, _, 1, _, rfl, rfl, .inl (.inl e5'), atI_nat (j := 1) rfl, _, _, rfl, ?_⟩
    refine st_at [some (.ref b), some (.ref a), some (.int (n : Nat)), some (.int r), some (.ref F), some (.ref p5), some (.int (x : Nat)), some (.int (y : Nat)), none, none] rfl ?_
    obtain ⟨u, ea, hu, _⟩ := hf.par x hx
    obtain ⟨v, eb, hv, _⟩ := hf.par y hy
    refine ⟨_, rfl, _, rfl, F, _, _, _, rfl, rfl, .inl (.inl eF5), nv_at ea, _, rfl, rfl, _, rfl, ite2 (fun c => ?_) (fun c => ?_)⟩
    · have hne : u ≠ y := fun z => by
        have c' : (!decide (V.int (u : Int) = V.int (y : Int))) = true := c
        rw [z, decide_eq_true rfl] at c'
        exact absurd c' (by decide)
      have hj := jn_alt hf hxy ea eb hne
      refine ⟨_, rfl, _, rfl, F, _, _, _, rfl, rfl, .inl (.inl eF5), nv_at ea, _, rfl, _, rfl, F, _, _, _, rfl, rfl, .inl (.inl eF5), nv_at eb, by show 2 ≤ sizeLine; decide, fun t1 nt1 => ?_⟩
      refine ⟨_, rfl, _, rfl, by show 2 ≤ sizeLine; decide, fun t2 nt2 => ⟨by show 2 ≤ sizeLine; decide, fun t3 nt3 => ?_⟩⟩
      have sA := same_new (o := .tup [.int (u : Nat), .int (v : Nat)]) nt1
      have sB := same_new (o := .tup [.int (x : Nat), .int (y : Nat)]) nt2
      have sC := same_new (o := .tup [.ref t1, .ref t2]) nt3
      have g1 := sC _ _ (sB t1 _ upd_same)
      have g2 := sC t2 _ upd_same
      have g3 : upd (upd (upd H5 t1 (.tup [.int (u : Nat), .int (v : Nat)])) t2 (.tup [.int (x : Nat), .int (y : Nat)])) t3 (.tup [.ref t1, .ref t2]) t3 = some (.tup [.ref t1, .ref t2]) := upd_same
      have sD := (sA.trans sB).trans sC
      revert g1 g2 g3 sD
      clear sA sB sC
      generalize upd (upd (upd H5 t1 (.tup [.int (u : Nat), .int (v : Nat)])) t2 (.tup [.int (x : Nat), .int (y : Nat)])) t3 (.tup [.ref t1, .ref t2]) = H6
      intro g1 g2 g3 sD
      obtain ⟨stg, z0, z1, z2⟩ : ∃ stg : Nat → List Nat, stg 0 = f ∧ stg 1 = (f.set u v).set v u ∧ stg 2 = jn f x y :=
        ⟨fun j => if j = 0 then f else if j = 1 then (f.set u v).set v u else jn f x y, rfl, rfl, rfl⟩
      refine ⟨t3, rfl, ⟨_, .inl (.inl g3)⟩, ?_⟩
      refine for_tup (xs := [V.ref t1, V.ref t2]) (fun j σ G => Keep b H G ∧ Box m G b ∧ G t1 = some (.tup [.int (u : Nat), .int (v : Nat)]) ∧ G t2 = some (.tup [.int (x : Nat), .int (y : Nat)]) ∧ G t3 = some (.tup [.ref t1, .ref t2]) ∧ ∃ (y8 y9 : Option V), σ = [some (.ref b), some (.ref a), some (.int (n : Nat)), some (.int r), some (.ref F), some (.ref p5), some (.int (x : Nat)), some (.int (y : Nat)), y8, y9] ∧ G F = some (.lst (nv (stg j))))
        ⟨k5.trans (Keep.of_same sD), (hB5.same sD).mono (by omega), g1, g2, g3, _, _, rfl, by rw [z0]; exact sD _ _ eF5⟩ (fun j σ G _ h => .inl (.inl h.2.2.2.2.1)) (fun j vx σ G hvx h => ?_) (fun σ G h => ?_)
      · obtain ⟨kG, bG, c1, c2, c3, w7, w8, rfl, eG⟩ := h
        have hj2 : j < 2 := get_lt hvx
        obtain ⟨tt, p, q', rfl, ett, hp', hq', hst, hlen⟩ : ∃ (tt : Addr) (p q' : Nat), vx = .ref tt ∧ G tt = some (.tup [.int (p : Nat), .int (q' : Nat)]) ∧ p < 2 * n ∧ q' < 2 * n ∧ stg (j + 1) = ((stg j).set p q').set q' p ∧ (stg j).length = 2 * n := by
          rcases (show j = 0 ∨ j = 1 by omega) with z | z
          · subst z; exact ⟨t1, u, v, (Option.some.inj hvx).symm, c1, hu, hv, by rw [z1, z0], by rw [z0]; exact hl⟩
          · subst z; exact ⟨t2, x, y, (Option.some.inj hvx).symm, c2, hx, hy, by rw [z2, z1, hj], by rw [z1, List.length_set, List.length_set]; exact hl⟩
        refine ⟨tt, _, rfl, .inl (.inl ett), rfl, _, _, rfl, _, _, rfl, rfl, ?_⟩
        refine st_eq [some (.ref b), some (.ref a), some (.int (n : Nat)), some (.int r), some (.ref F), some (.ref p5), some (.int (x : Nat)), some (.int (y : Nat)), some (.int (p : Nat)), some (.int (q' : Nat))] ?_ rfl
        refine ⟨_, rfl, _, rfl, by show 2 ≤ sizeLine; decide, fun tp ntp => ?_⟩
        have sP : Same G _ := same_new (o := .tup [.int (q' : Nat), .int (p : Nat)]) ntp
        refine ⟨tp, _, rfl, .inl (.inl upd_same), rfl, _, _, rfl, .ref F, rfl, _, rfl, F, _, _, p, rfl, rfl, sP _ _ eG, ln (by rw [nv_length, hlen]) hp', ?_⟩
        refine ⟨_, _, rfl, .ref F, rfl, _, rfl, F, _, _, q', rfl, rfl, upd_same, ln (by rw [List.length_set, nv_length, hlen]) hq', rfl, ?_⟩
        have nt : ∀ {z : Addr} {l : List V}, G z = some (.tup l) → z ≠ F := fun h z => by rw [z, eG] at h; cases h
        have bP := bG.same sP
        refine ⟨fun z o zb hz => ?_, ?_, ?_, ?_, ?_, _, _, rfl, ?_⟩
        · have nb : z ≠ F := ne_of_none hz nF0
          rw [upd_ne nb, upd_ne nb]; exact sP _ _ (kG _ _ zb hz)
        · exact (bP.keep keep_upd nFb.symm).keep keep_upd nFb.symm
        · rw [upd_ne (nt c1), upd_ne (nt c1)]; exact sP _ _ c1
        · rw [upd_ne (nt c2), upd_ne (nt c2)]; exact sP _ _ c2
        · rw [upd_ne (nt c3), upd_ne (nt c3)]; exact sP _ _ c3
        · rw [upd_same, hst, nv_set, nv_set]
      · obtain ⟨kG, bG, _, _, _, w7, w8, rfl, eG⟩ := h
        have eG : G F = some (.lst (nv (stg 2))) := eG
        rw [z2] at eG
        exact ⟨_, rfl, F, _, rfl, .inl ⟨.inl (.inl eG), fun t nt => q _ t _ (jn_pair hf hxy hx hy) (kG.trans (Keep.of_same (same_new nt))) (bG.same (same_new nt)) (keep_none kG bG nt) upd_same⟩⟩
    · exact ⟨_, rfl, F, _, rfl, .inl ⟨.inl (.inl eF5), fun t nt => q _ t _ hf (k5.trans (Keep.of_same (same_new nt))) ((hB5.same (same_new nt)).mono (by omega)) (keep_none k5 hB5 nt) upd_same⟩⟩
end
end Pc
namespace Pc
open PySem PySem.Spec PyProof.Rows L2 RZ
section
variable {P : Program} {w : World} {K : PySem.W.Frag} {mg : Str → Option Value} {base : Heap}
theorem dfac15 {j : Nat} (h : j ≤ 3) : dfac j ≤ 15 := by
  rcases (show j = 0 ∨ j = 1 ∨ j = 2 ∨ j = 3 by omega) with z | z | z | z <;> subst z <;> decide
theorem filt1 {α : Type} {p : α → Bool} {x : α} : [x].filter p = if p x = true then [x] else [] := by
  by_cases h : p x = true
  · rw [if_pos h, List.filter_cons_of_pos h]; rfl
  · rw [if_neg h, List.filter_cons_of_neg h]; rfl
theorem eqv_ne {A : List (List Nat)} (h : A ≠ []) : PyData.eqv (.list (A.map td)) (.list []) = false := by
  cases A with
  | nil => exact absurd rfl h
  | cons a l => rw [List.map_cons]; simp [PyData.eqv, PyData.eqvAll]
theorem any_in {A : List (List Nat)} {q : List Nat} (h : q ∈ A) : ((A.map td).any fun z => PyData.eqv z (td q)) = true :=
  List.any_eq_true.mpr ⟨td q, List.mem_map.mpr ⟨q, h, rfl⟩, (eqv_td q q).trans (decide_eq_true rfl)⟩
theorem any_td {A : List (List Nat)} {q : List Nat} {p : Prop} [Decidable p] (h1 : q ∈ A → ¬ p) (h2 : ¬ p → q ∈ A) : ((A.map td).any fun z => PyData.eqv z (td q)) = !decide p := by
  by_cases c : p
  · rw [decide_eq_true c]
    refine Bool.eq_false_iff.mpr fun h => ?_
    obtain ⟨z, hz, e⟩ := List.any_eq_true.mp h
    obtain ⟨a, ha, rfl⟩ := List.mem_map.mp hz
    rw [eqv_td] at e
    have := of_decide_eq_true e
    subst this
    exact h1 ha c
  · rw [decide_eq_false c, any_in (h2 c)]; rfl
theorem fi_tupsQ {ls : List (List Nat)} (h : ls.length ≤ 100 ∧ ∀ l ∈ ls, l.length ≤ 100 ∧ ∀ i ∈ l, i < 2 ^ 60) : Fi 2 (.list (ls.map td)) := (fine_tds (n := 100) (m := 100) h.2 h.1 (by decide) (by decide)).mono (Nat.le_refl _) (by decide)
theorem pick_six {i : Nat} {v : V} (h : [V.int 2, V.int 4, V.int 4, V.int 6, V.int 6, V.int 6][i]? = some v) : ∃ r : Nat, v = .int ((2 * r : Nat) : Int) ∧ 1 ≤ r ∧ r ≤ 3 := by
  have hi := get_lt h
  rcases (show i = 0 ∨ i = 1 ∨ i = 2 ∨ i = 3 ∨ i = 4 ∨ i = 5 by simp at hi; omega) with z | z | z | z | z | z <;> subst z <;> obtain rfl := Option.some.inj h
  · exact ⟨1, rfl, by decide, by decide⟩
  · exact ⟨2, rfl, by decide, by decide⟩
  · exact ⟨2, rfl, by decide, by decide⟩
  · exact ⟨3, rfl, by decide, by decide⟩
  · exact ⟨3, rfl, by decide, by decide⟩
  · exact ⟨3, rfl, by decide, by decide⟩
def spRight : Sp := fun vs H Q _ => ∃ (b : Addr) (n : Nat), vs = [.ref b] ∧ Box (n + 1000) H b ∧ ∀ H', Keep b H H' → Box n H' b → Q (.bl true) H'
theorem ok_right (T : Env K mg) : FnOk P w K mg base CX0 8 T.f_right T.d_right ["_law_source"] spRight := by
  have GT : FnOk P w K mg base CX0 1 T.f_draw T.d_draw ["_law_source", "_law_bound"] spTake := ok_take T
  have GO : FnOk P w K mg base CX0 2 T.f_pick T.d_pick ["_law_source", "_law_some"] (spOf K) := ok_of T
  have Gal : FnOk P w K mg base CX0 2 T.f_all_pairings T.d_all_pairings ["_law_crowd"] spAllP := ok_all_pairings T
  have GJ : FnOk P w K mg base CX0 1 T.f_joined_ends T.d_joined_ends ["_law_crowd", "_law_tape"] (spJEnds K) := ok_joined_ends T
  have GW : FnOk P w K mg base CX0 4 T.f_random_word T.d_random_word ["_law_source", "_law_crowd", "_law_most"] spSomeCalls := ok_some_calls T
  have GR : FnOk P w K mg base CX0 3 T.f_random_pairing T.d_random_pairing ["_law_source", "_law_crowd"] spRandom := ok_random T
  have GM : FnOk P w K mg base CX0 5 T.f_mate T.d_mate ["_law_source", "_law_page"] (spMate K) := ok_mate T
  have GD : FnOk P w K mg base CX0 1 T.f_read T.d_read ["_law_page", "_law_start"] (spRead K) := ok_read T
  have GS : FnOk P w K mg base CX0 4 T.f_p_do_same T.d_p_do_same ["one", "other"] (spSameD K) := ok_p_do_same T
  have GP : FnOk P w K mg base CX0 6 T.f_p_parting T.d_p_parting ["one", "other"] (spParting K) := ok_p_parting T
  have GH : FnOk P w K mg base CX0 4 T.f_p_shows_parting T.d_p_shows_parting ["one", "other", "value"] (spShowsP K) := ok_p_shows_parting T
  have GE : FnOk P w K mg base CX0 5 T.f_same T.d_same ["_law_found", "_law_due"] (spSame K 4) := (ok_same T 4).mono (by decide)
  refine T.F_right.ok sc_right (fun vs H Q E h => ?_) (fun cdv A outer s H vs Q E hr h => ?_)
  · obtain ⟨b, n, rfl, _⟩ := h
    rfl
  · obtain ⟨b, n, rfl, hB, q⟩ := h
    have h1 := hr.mono (show 1 ≤ 7 by decide)
    have h2 := hr.mono (show 2 ≤ 7 by decide)
    have h3 := hr.mono (show 3 ≤ 7 by decide)
    have h4 := hr.mono (show 4 ≤ 7 by decide)
    have h5 := hr.mono (show 5 ≤ 7 by decide)
    have h6 := hr.mono (show 6 ≤ 7 by decide)
    have kH : Keep b H H := Keep.refl _ _
    refine ⟨_, pss_cons (ps_set (i := 1) sc_right.nd rfl (.inl rfl) (pe_call GO h2 (by rfl) T.g_pick T.F_pick.kp T.b_pick .nil pass0 (pa_cons (pv 0) (pa_cons (pe_lst (pa_cons pe_int (pa_cons pe_int (pa_cons pe_int (pa_cons pe_int (pa_cons pe_int (pa_cons pe_int pa_nil))))))) pa_nil)))) <|
      pss_cons (ps_set (i := 2) sc_right.nd rfl (.inl rfl) (pe_call Gal h2 (by rfl) T.g_all_pairings T.F_all_pairings.kp T.b_all_pairings .nil pass0 (pa_cons (pv 1) pa_nil))) <|
      pss_cons (ps_for PassesOwn.never rfl (pi_range1 (by rfl) T.n_range (pa_cons pe_int pa_nil)) (pg_name (i := 3) sc_right.nd rfl (.inl rfl)) (pss_cons (ps_set (i := 4) sc_right.nd rfl (.inr rfl) (pe_call GJ h1 (by rfl) T.g_joined_ends T.F_joined_ends.kp T.b_joined_ends .nil pass0 (pa_cons (pv 1) (pa_cons (pe_call GW h4 (by rfl) T.g_random_word T.F_random_word.kp T.b_random_word .nil pass0 (pa_cons (pv 0) (pa_cons (pv 1) (pa_cons pe_int pa_nil)))) pa_nil)))) <|
      pss_cons (ps_set (i := 4) sc_right.nd rfl (.inr rfl) (pe_ifExp (pt_cmpR op_eq (pe_call GT h1 (by rfl) T.g_draw T.F_draw.kp T.b_draw .nil pass0 (pa_cons (pv 0) (pa_cons pe_int pa_nil))) pe_int (nomark _)) (pe_call GR h3 (by rfl) T.g_random_pairing T.F_random_pairing.kp T.b_random_pairing .nil pass0 (pa_cons (pv 0) (pa_cons (pe_op op_mul pe_int (pv 1)) pa_nil))) (pv 4))) <|
      pss_cons (ps_set (i := 5) sc_right.nd rfl (.inr rfl) (pe_call GM h5 (by rfl) T.g_mate T.F_mate.kp T.b_mate .nil pass0 (pa_cons (pv 0) (pa_cons (pv 4) pa_nil)))) <|
      pss_cons (ps_set (i := 6) sc_right.nd rfl (.inr rfl) (pe_lc (own := [("_law_start", 8)]) (g := gName 8) (tt := (tTest (tOp (rNeD K) (tCall (spRead K) [] E0 (tCons (tVar 4) (tCons (tVar 8) tNil))) (tCall (spRead K) [] E0 (tCons (tVar 5) (tCons (tVar 8) tNil)))))) (te := tVar 8) rfl sc_right.nd (pi_list (pv 2)) (blkOk_by (N := N_right) (sc := defScope s_right) (by decide +kernel)) (fun _ _ _ _ _ => pg_name (i := 8) sc_right.nd rfl (.inl rfl)) (fun _ _ _ _ _ => pts_one (pt_cmpR (op_neD hr.units) (pe_call GD h1 (by rfl) T.g_read T.F_read.kp T.b_read .nil pass0 (pa_cons (pv 4) (pa_cons (pv 8) pa_nil))) (pe_call GD h1 (by rfl) T.g_read T.F_read.kp T.b_read .nil pass0 (pa_cons (pv 5) (pa_cons (pv 8) pa_nil))) (nomark _))) (fun _ _ _ _ _ => pv 8))) <|
      pss_cons (ps_set (i := 7) sc_right.nd rfl (.inl rfl) (pe_lst (pa_cons (pe_call GS h4 (by rfl) T.g_p_do_same T.F_p_do_same.kp T.b_p_do_same .nil pass0 (pa_cons (pv 4) (pa_cons (pv 5) pa_nil))) (pa_cons (pe_call GS h4 (by rfl) T.g_p_do_same T.F_p_do_same.kp T.b_p_do_same .nil pass0 (pa_cons (pv 5) (pa_cons (pv 4) pa_nil))) (pa_cons (pe_call GS h4 (by rfl) T.g_p_do_same T.F_p_do_same.kp T.b_p_do_same .nil pass0 (pa_cons (pv 4) (pa_cons (pv 4) pa_nil))) pa_nil))))) <|
      pss_cons (ps_if (pt_not (pt_val (pe_call GE h5 (by rfl) T.g_same T.F_same.kp T.b_same .nil pass0 (pa_cons (pv 7) (pa_cons (pe_lst (pa_cons (pe_cmpR (op_eqD hr.units) (pv 6) (pe_lst pa_nil) (nomark _)) (pa_cons (pe_cmpR (op_eqD hr.units) (pv 6) (pe_lst pa_nil) (nomark _)) (pa_cons pe_bl pa_nil)))) pa_nil))))) (pss_one (ps_ret pe_bl)) pss_nil) <|
      pss_cons (ps_if (pt_not (pt_val (pe_callB (cr_all rfl) (by rfl) T.n_all (by decide +kernel) (pa_cons (pe_lc (own := [("_law_start", 8)]) (g := gName 8) (tt := tYes) (te := tOp rEq (tCall (spShowsP K) [] E0 (tCons (tVar 4) (tCons (tVar 5) (tCons (tVar 8) tNil)))) (tOp (rInD K) (tVar 8) (tVar 6))) rfl sc_right.nd (pi_list (pv 2)) (blkOk_by (N := N_right) (sc := defScope s_right) (by decide +kernel)) (fun _ _ _ _ _ => pg_name (i := 8) sc_right.nd rfl (.inl rfl)) (fun _ _ _ _ _ => pts_nil) (fun _ _ _ _ _ => pe_cmpR op_eq (pe_call GH h4 (by rfl) T.g_p_shows_parting T.F_p_shows_parting.kp T.b_p_shows_parting .nil pass0 (pa_cons (pv 4) (pa_cons (pv 5) (pa_cons (pv 8) pa_nil)))) (pe_cmpR (op_inD (room65 hr)) (pv 8) (pv 6) (by rfl)) (nomark _))) pa_nil)))) (pss_one (ps_ret pe_bl)) pss_nil) <|
      pss_cons (ps_if (PW.pt (pw_or (pt_cmpR op_notBl (pe_call GS h4 (by rfl) T.g_p_do_same T.F_p_do_same.kp T.b_p_do_same .nil pass0 (pa_cons (pv 4) (pa_cons (pe_callTy call_list_of (by rfl) T.n_list (by decide +kernel) (pa_cons (pv 4) pa_nil)) pa_nil))) pe_bl (nomark _)) (pw_or1 (pt_cmpR op_notN (pe_call GP h6 (by rfl) T.g_p_parting T.F_p_parting.kp T.b_p_parting .nil pass0 (pa_cons (pe_callTy call_list_of (by rfl) T.n_list (by decide +kernel) (pa_cons (pv 4) pa_nil)) (pa_cons (pv 4) pa_nil))) pe_non (nomark _))))) (pss_one (ps_ret pe_bl)) pss_nil) <|
      pss_cons (ps_set (i := 7) sc_right.nd rfl (.inl rfl) (pe_lst (pa_cons (pe_call GP h6 (by rfl) T.g_p_parting T.F_p_parting.kp T.b_p_parting .nil pass0 (pa_cons (pv 4) (pa_cons (pv 5) pa_nil))) (pa_cons (pe_call GP h6 (by rfl) T.g_p_parting T.F_p_parting.kp T.b_p_parting .nil pass0 (pa_cons (pv 5) (pa_cons (pv 4) pa_nil))) pa_nil)))) <|
      pss_cons (ps_if (PW.pt (pw_and (pt_cmpR (op_eqD hr.units) (pv 6) (pe_lst pa_nil) (nomark _)) (pw_and1 (pt_cmpR (op_neD hr.units) (pv 7) (pe_lst (pa_cons pe_non (pa_cons pe_non pa_nil))) (nomark _))))) (pss_one (ps_ret pe_bl)) pss_nil) <|
      pss_one (ps_if (PW.pt (pw_and (pt_cmpR (op_neD hr.units) (pv 6) (pe_lst pa_nil) (nomark _)) (pw_and1 (pt_not (pt_val (pe_callB (cr_all rfl) (by rfl) T.n_all (by decide +kernel) (pa_cons (pe_lc (own := [("_law_start", 8)]) (g := gName 8) (tt := tYes) (te := tOp (rInD K) (tVar 8) (tVar 6)) rfl sc_right.nd (pi_list (pv 7)) (blkOk_by (N := N_right) (sc := defScope s_right) (by decide +kernel)) (fun _ _ _ _ _ => pg_name (i := 8) sc_right.nd rfl (.inl rfl)) (fun _ _ _ _ _ => pts_nil) (fun _ _ _ _ _ => pe_cmpR (op_inD (room65 hr)) (pv 8) (pv 6) (by rfl))) pa_nil))))))) (pss_one (ps_ret pe_bl)) pss_nil))) <|
      pss_one (ps_ret pe_bl), ?_⟩
    refine ⟨_, rfl, (by show 6 ≤ sizeLine; decide), fun l1 nl1 => ?_⟩
    have ne_l1 : l1 ≠ b := (hB.ne_new nl1).symm
    have s2 : Same H (upd H l1 (.lst [.int (2), .int (4), .int (4), .int (6), .int (6), .int (6)])) := same_new nl1
    have e_l1 : upd H l1 (.lst [.int (2), .int (4), .int (4), .int (6), .int (6), .int (6)]) l1 = some (.lst [.int (2), .int (4), .int (4), .int (6), .int (6), .int (6)]) := upd_same
    revert s2 e_l1; generalize upd H l1 (.lst [.int (2), .int (4), .int (4), .int (6), .int (6), .int (6)]) = H3; intro s2 e_l1
    replace hB := hB.same s2
    replace kH := kH.trans (Keep.of_same s2)
    refine ⟨b, l1, n + 999, _, rfl, hB.mono (by omega), ne_l1, e_l1, (by show 0 < 6; decide), (by show 6 ≤ 1000; decide), fun H4 i5 v6 hv7 k8 hB9 => ?_⟩
    obtain ⟨y_hy10, hy10⟩ := hB.lst
    clear hB
    have hB := hB9
    replace kH := kH.trans k8
    obtain ⟨r, rfl, hr1, hr3⟩ : ∃ r : Nat, v6 = .int ((2 * r : Nat) : Int) ∧ 1 ≤ r ∧ r ≤ 3 := pick_six hv7
    have hev : (2 * r) % 2 = 0 := by omega
    first | refine st_set [some (.ref b), some (.int ((2 * r) : Nat)), none, none, none, none, none, none, none] ?_ rfl | refine st_eq [some (.ref b), some (.int ((2 * r) : Nat)), none, none, none, none, none, none, none] ?_ rfl | refine st_eq (t := tSeq _ _) [some (.ref b), some (.int ((2 * r) : Nat)), none, none, none, none, none, none, none] ?_ rfl
    refine ⟨_, rfl, r, rfl, hr1, by omega, fun H11 t12 as13 s14 n15 e_t12 hA_t12 => ?_⟩
    have ne_t12 : t12 ≠ b := (hB.ne_new n15).symm
    replace hB := hB.same s14
    replace kH := kH.trans (Keep.of_same s14)
    first | refine st_set [some (.ref b), some (.int ((2 * r) : Nat)), some (.ref t12), none, none, none, none, none, none] ?_ rfl | refine st_eq [some (.ref b), some (.int ((2 * r) : Nat)), some (.ref t12), none, none, none, none, none, none] ?_ rfl | refine st_eq (t := tSeq _ _) [some (.ref b), some (.int ((2 * r) : Nat)), some (.ref t12), none, none, none, none, none, none] ?_ rfl
    refine ⟨4, rfl, by decide, by decide, ?_⟩
    refine for_range (n := 4) (fun i0 σ H' => Keep b H H' ∧ Box (n + (39 + 240 * (4 - i0))) H' b ∧ H' t12 = some (.lst (as13.map V.ref)) ∧ Tups H' as13 (apl r) ∧ ∃ (y_turn y_page y_mate_here y_apart y_found : Option V), σ = [some (.ref b), some (.int ((2 * r) : Nat)), some (.ref t12), y_turn, y_page, y_mate_here, y_apart, y_found, none]) ⟨kH, hB.mono (by omega), e_t12, hA_t12, _, _, _, _, _, rfl⟩ (fun i0 σ Hi hi0 hPv => ?_) (fun σ Hi hPv => ?_)
    · clear kH hB
      obtain ⟨kH, hB, e_t12, hA_t12, y_turn, y_page, y_mate_here, y_apart, y_found, rfl⟩ := hPv
      obtain ⟨m16, hm16⟩ : ∃ z, z = n + (39 + 240 * (4 - (i0 + 1))) := ⟨_, rfl⟩
      replace hB : Box (m16 + 240) Hi b := hB.mono (by omega)
      refine st_set [some (.ref b), some (.int ((2 * r) : Nat)), some (.ref t12), some (.int (((0 : Int) + (i0 : Nat)))), y_page, y_mate_here, y_apart, y_found, none] ?_ rfl
      refine ⟨_, rfl, _, rfl, _, rfl, b, m16 + 180, (2 * r), 6, rfl, hB.mono (by omega), by omega, by omega, by omega, fun H17 t18 as19 qs20 hc21 hl22 n23 e_t18 hA_t18 k24 hB25 => ?_⟩
      obtain ⟨y_hy26, hy26⟩ := hB.lst
      replace e_t12 := k24 _ _ ne_t12 e_t12
      replace hA_t12 := tups_keep k24 hy26 hA_t12
      clear hB
      have hB := hB25
      replace kH := kH.trans k24
      refine ⟨(2 * r), t18, _, as19, qs20, rfl, .inl (.inl e_t18), rfl, hA_t18, hc21, by omega, by omega, fun H27 t28 s29 n30 e_t28 => ?_⟩
      replace e_t12 := s29 _ _ e_t12
      replace hA_t12 := tups_same s29 hA_t12
      replace hB := hB.same s29
      replace kH := kH.trans (Keep.of_same s29)
      have hp0 : IsPair (2 * (2 * r)) (shw (2 * r) qs20 (emp (2 * r))) := shw_pair (emp_pair (by omega)) hc21
      first | refine st_set [some (.ref b), some (.int ((2 * r) : Nat)), some (.ref t12), some (.int (((0 : Int) + (i0 : Nat)))), some (.ref t28), y_mate_here, y_apart, y_found, none] ?_ rfl | refine st_eq [some (.ref b), some (.int ((2 * r) : Nat)), some (.ref t12), some (.int (((0 : Int) + (i0 : Nat)))), some (.ref t28), y_mate_here, y_apart, y_found, none] ?_ rfl | refine st_eq (t := tSeq _ _) [some (.ref b), some (.int ((2 * r) : Nat)), some (.ref t12), some (.int (((0 : Int) + (i0 : Nat)))), some (.ref t28), y_mate_here, y_apart, y_found, none] ?_ rfl
      refine st_at [some (.ref b), some (.int ((2 * r) : Nat)), some (.ref t12), some (.int (((0 : Int) + (i0 : Nat)))), some (.ref t28), y_mate_here, y_apart, y_found, none] rfl ?_
      refine tjoin1 (t := tAsg (tIf _ _ _) _) (fun σ' H' => Keep b H H' ∧ Box (m16 + 160) H' b ∧ H' t12 = some (.lst (as13.map V.ref)) ∧ Tups H' as13 (apl r) ∧ ∃ (P0 : Addr) (F : List Nat), σ' = [some (.ref b), some (.int ((2 * r) : Nat)), some (.ref t12), some (.int (((0 : Int) + (i0 : Nat)))), some (.ref P0), y_mate_here, y_apart, y_found, none] ∧ IsPair (2 * (2 * r)) F ∧ H' P0 = some (.tup (nv F))) ?_ (fun Nx hNx => ?_)
      rotate_left
      · skip
        refine ⟨_, rfl, b, m16 + 179, 3, rfl, hB.mono (by omega), by decide, by decide, fun r31 H32 ra33 rb34 hB35 k36 => ?_⟩
        obtain ⟨y_hy37, hy37⟩ := hB.lst
        replace e_t12 := k36 _ _ ne_t12 e_t12
        replace hA_t12 := tups_keep k36 hy37 hA_t12
        replace e_t28 := k36.tup hy37 e_t28
        clear hB
        have hB := hB35
        replace kH := kH.trans k36
        refine ⟨rfl, _, rfl, ite2 (fun _ => ?_) (fun _ => ?_)⟩
        · skip
          refine ⟨_, rfl, _, rfl, 2, _, rfl, rfl, .inl ⟨by decide, by decide⟩, b, m16 + 160, 2 * (2 * r), congrArg (fun z => [V.ref b, V.int z]) (show (2 : Int) * (((2 * r) : Nat) : Int) = ((2 * (2 * r) : Nat) : Int) by omega), hB.mono (by omega), by omega, by omega, fun H38 t39 ps40 hp41 k42 hB43 n44 e_t39 => ?_⟩
          obtain ⟨y_hy45, hy45⟩ := hB.lst
          replace e_t12 := k42 _ _ ne_t12 e_t12
          replace hA_t12 := tups_keep k42 hy45 hA_t12
          replace e_t28 := k42.tup hy45 e_t28
          clear hB
          have hB := hB43
          replace kH := kH.trans k42
          exact hNx _ _ ⟨kH, hB.mono (by omega), e_t12, hA_t12, t39, ps40, rfl, hp41, e_t39⟩
        exact ⟨_, rfl, hNx _ _ ⟨kH, hB.mono (by omega), e_t12, hA_t12, t28, _, rfl, hp0, e_t28⟩⟩
      clear kH hB e_t12 hA_t12
      intro σ1 H1 hJ
      obtain ⟨kH, hB, e_t12, hA_t12, P0, F, rfl, hF, e_P0⟩ := hJ
      obtain ⟨yb, hyb⟩ := hB.lst
      refine ⟨_, rfl, _, rfl, b, P0, F, m16 + 49, (2 * r), rfl, hB.mono (by omega), .inl (.inl e_P0), hF, by omega, by omega, (fun z => by rw [z, hyb] at e_P0; cases e_P0), fun H46 t47 G48 hG49 k50 hB51 n52 e_t47 => ?_⟩
      obtain ⟨y_hy53, hy53⟩ := hB.lst
      replace e_t12 := k50 _ _ ne_t12 e_t12
      replace hA_t12 := tups_keep k50 hy53 hA_t12
      replace e_P0 := k50.tup hy53 e_P0
      clear hB
      have hB := hB51
      replace kH := kH.trans k50
      first | refine st_set [some (.ref b), some (.int ((2 * r) : Nat)), some (.ref t12), some (.int (((0 : Int) + (i0 : Nat)))), some (.ref P0), some (.ref t47), y_apart, y_found, none] ?_ rfl | refine st_eq [some (.ref b), some (.int ((2 * r) : Nat)), some (.ref t12), some (.int (((0 : Int) + (i0 : Nat)))), some (.ref P0), some (.ref t47), y_apart, y_found, none] ?_ rfl | refine st_eq (t := tSeq _ _) [some (.ref b), some (.int ((2 * r) : Nat)), some (.ref t12), some (.int (((0 : Int) + (i0 : Nat)))), some (.ref P0), some (.ref t47), y_apart, y_found, none] ?_ rfl
      have hal : (apl r).length ≤ 15 := by rw [apl_len]; exact dfac15 (by omega)
      refine ⟨_, rfl, t12, rfl, ⟨_, .inl (.inl e_t12)⟩, fun D54 nD54 => ?_⟩
      refine lc_list (xs := as13.map V.ref) (fun i H' => Same H46 H' ∧ ∃ us : List Addr, H' D54 = some (.lst (us.map V.ref)) ∧ Tups H' us (((apl r).take i).filter (fun q => !decide (rd F q (2 * r) = rd G48 q (2 * r))))) ⟨same_new nD54, [], upd_same, .nil⟩ (fun i H' _ h => .inl (.inl (h.1 _ _ e_t12))) (fun i v H' hv h => ?_) (fun H' h => ?_)
      · obtain ⟨sm, us, eD, hU⟩ := h
        rw [List.getElem?_map] at hv
        obtain ⟨u0, hu0, rfl⟩ := Option.map_eq_some_iff.mp hv
        obtain ⟨q0, hq, eu0⟩ := tups_get (tups_same sm hA_t12) hu0
        have hqp := apl_mem.mp (List.mem_of_getElem? hq)
        have e1 := sm _ _ e_P0
        have e2 := sm _ _ e_t47
        refine ⟨rfl, _, rfl, _, rfl, P0, u0, F, q0, (2 * r), rfl, .inl (.inl e1), .inl (.inl eu0), hF, hqp, by omega, fun H4 t4 s4 n4 et4 => ⟨_, rfl, _, rfl, t47, u0, G48, q0, (2 * r), rfl, .inl (.inl (s4 _ _ e2)), .inl (.inl (s4 _ _ eu0)), hG49, hqp, by omega, fun H5 t5 s5 n5 et5 => ?_⟩⟩
        have fkr : Fi 1 (td (rd F q0 (2 * r))) := fi_tup (rd_pair hF hqp) (by omega)
        have fkg : Fi 1 (td (rd G48 q0 (2 * r))) := fi_tup (rd_pair hG49 hqp) (by omega)
        refine ⟨td (rd F q0 (2 * r)), td (rd G48 q0 (2 * r)), .tup (.inl (.inl (s5 _ _ et4))) (dp_nats _), .tup (.inl (.inl et5)) (dp_nats _), fkr.sh, fkg.sh, _, rfl, ?_⟩
        rw [show PyData.eqv (td (rd F q0 (2 * r))) (td (rd G48 q0 (2 * r))) = decide (rd F q0 (2 * r) = rd G48 q0 (2 * r)) from eqv_td _ _]
        have tk : ((apl r).take (i + 1)).filter (fun q => !decide (rd F q (2 * r) = rd G48 q (2 * r))) = ((apl r).take i).filter (fun q => !decide (rd F q (2 * r) = rd G48 q (2 * r))) ++ (if (!decide (rd F q0 (2 * r) = rd G48 q0 (2 * r))) = true then [q0] else []) := by
          rw [List.take_add_one, hq, List.filter_append]
          exact congrArg _ (filt1 (p := (fun q => !decide (rd F q (2 * r) = rd G48 q (2 * r)))))
        have s45 := s4.trans s5
        refine ite2 (fun c => ?_) (fun c => ?_)
        · refine ⟨_, rfl, _, s45 _ _ eD, ?_, fun y o hy => ?_, us ++ [u0], ?_, ?_⟩
          · rw [List.length_map, hU.length]; exact small1000 (Nat.le_trans (List.length_filter_le _ _) (by rw [List.length_take]; omega))
          · rw [upd_ne (ne_of_none hy nD54)]; exact s45 _ _ (sm _ _ hy)
          · rw [upd_same, List.map_append]; rfl
          · have uD : u0 ≠ D54 := fun z => by rw [z, eD] at eu0; cases eu0
            rw [tk, if_pos c]
            refine tups_append (tups_keep (b := D54) keep_upd (s45 _ _ eD) (tups_same s45 hU)) (.cons ?_ .nil)
            rw [upd_ne uD]; exact s45 _ _ eu0
        · refine ⟨sm.trans s45, us, s45 _ _ eD, ?_⟩
          rw [tk, if_neg c, List.append_nil]; exact tups_same s45 hU
      obtain ⟨s55, us56, e_D54, hA_D54⟩ := h
      rw [List.length_map, hA_t12.length, List.take_length] at hA_D54
      have ne_D54 : D54 ≠ b := (hB.ne_new nD54).symm
      revert s55 e_D54 hA_D54; generalize H' = H57; intro s55 e_D54 hA_D54
      replace e_t12 := s55 _ _ e_t12
      replace hA_t12 := tups_same s55 hA_t12
      replace e_P0 := s55 _ _ e_P0
      replace e_t47 := s55 _ _ e_t47
      replace hB := hB.same s55
      replace kH := kH.trans (Keep.of_same s55)
      first | refine st_set [some (.ref b), some (.int ((2 * r) : Nat)), some (.ref t12), some (.int (((0 : Int) + (i0 : Nat)))), some (.ref P0), some (.ref t47), some (.ref D54), y_found, none] ?_ rfl | refine st_eq [some (.ref b), some (.int ((2 * r) : Nat)), some (.ref t12), some (.int (((0 : Int) + (i0 : Nat)))), some (.ref P0), some (.ref t47), some (.ref D54), y_found, none] ?_ rfl | refine st_eq (t := tSeq _ _) [some (.ref b), some (.int ((2 * r) : Nat)), some (.ref t12), some (.int (((0 : Int) + (i0 : Nat)))), some (.ref P0), some (.ref t47), some (.ref D54), y_found, none] ?_ rfl
      obtain ⟨A, hAP⟩ : ∃ A, A = ((apl r).filter (fun q => !decide (rd F q (2 * r) = rd G48 q (2 * r)))) := ⟨_, rfl⟩
      rw [← hAP] at hA_D54
      have hAm : ∀ q, q ∈ A ↔ IsPair (2 * r) q ∧ rd F q (2 * r) ≠ rd G48 q (2 * r) := fun q => by rw [hAP, List.mem_filter, apl_mem]; constructor; exact fun h => ⟨h.1, fun z => by have := h.2; rw [decide_eq_true z] at this; cases this⟩; exact fun h => ⟨h.1, by rw [decide_eq_false h.2]; rfl⟩
      have hAl : A.length ≤ 15 := by rw [hAP]; exact Nat.le_trans (List.length_filter_le _ _) hal
      have hAb : A.length ≤ 100 ∧ ∀ l ∈ A, l.length ≤ 100 ∧ ∀ i ∈ l, i < 2 ^ 60 := ⟨by omega, fun l hl => ⟨by rw [((hAm l).mp hl).1.len]; omega, fun i hi => by have := ((hAm l).mp hl).1.lt i hi; omega⟩⟩
      have fkA : Fi 2 (.list (A.map td)) := fi_tupsQ hAb
      have dself := doS_self F (2 * r)
      by_cases hd : doS F G48 (2 * r) = true
      · have hd := hd
        have hd2 : doS G48 F (2 * r) = true := by rw [doS_comm hG49 hF hev]; exact hd
        have hsm := (doS_iff hF hG49 hev).mp hd
        have hA0 : A = [] := List.eq_nil_iff_forall_not_mem.mpr fun q hq => ((hAm q).mp hq).2 (hsm q ((hAm q).mp hq).1)
        refine ⟨_, rfl, _, rfl, P0, t47, F, G48, (2 * r), rfl, .inr (.inl (.inl e_P0)), .inr (.inl (.inl e_t47)), hF, hG49, hev, by omega, fun H58 s59 => ?_⟩
        replace e_t12 := s59 _ _ e_t12
        replace hA_t12 := tups_same s59 hA_t12
        replace e_P0 := s59 _ _ e_P0
        replace e_t47 := s59 _ _ e_t47
        replace e_D54 := s59 _ _ e_D54
        replace hA_D54 := tups_same s59 hA_D54
        replace hB := hB.same s59
        replace kH := kH.trans (Keep.of_same s59)
        rw [show doS F G48 (2 * r) = true from hd]
        refine ⟨_, rfl, _, rfl, t47, P0, G48, F, (2 * r), rfl, .inr (.inl (.inl e_t47)), .inr (.inl (.inl e_P0)), hG49, hF, hev, by omega, fun H60 s61 => ?_⟩
        replace e_t12 := s61 _ _ e_t12
        replace hA_t12 := tups_same s61 hA_t12
        replace e_P0 := s61 _ _ e_P0
        replace e_t47 := s61 _ _ e_t47
        replace e_D54 := s61 _ _ e_D54
        replace hA_D54 := tups_same s61 hA_D54
        replace hB := hB.same s61
        replace kH := kH.trans (Keep.of_same s61)
        rw [show doS G48 F (2 * r) = true from hd2]
        refine ⟨_, rfl, _, rfl, P0, P0, F, F, (2 * r), rfl, .inr (.inl (.inl e_P0)), .inr (.inl (.inl e_P0)), hF, hF, hev, by omega, fun H62 s63 => ?_⟩
        replace e_t12 := s63 _ _ e_t12
        replace hA_t12 := tups_same s63 hA_t12
        replace e_P0 := s63 _ _ e_P0
        replace e_t47 := s63 _ _ e_t47
        replace e_D54 := s63 _ _ e_D54
        replace hA_D54 := tups_same s63 hA_D54
        replace hB := hB.same s63
        replace kH := kH.trans (Keep.of_same s63)
        rw [show doS F F (2 * r) = true from dself]
        refine ⟨(by show 3 ≤ sizeLine; decide), fun l64 nl64 => ?_⟩
        have ap_t12_l64 : t12 ≠ l64 := ne_of_none e_t12 nl64
        have ap_D54_l64 : D54 ≠ l64 := ne_of_none e_D54 nl64
        have n0_l64 : H l64 = none := keep_freeR kH hB nl64
        have ne_l64 : l64 ≠ b := (hB.ne_new nl64).symm
        have s65 : Same H62 (upd H62 l64 (.lst [.bl (true), .bl (true), .bl (true)])) := same_new nl64
        have e_l64 : upd H62 l64 (.lst [.bl (true), .bl (true), .bl (true)]) l64 = some (.lst [.bl (true), .bl (true), .bl (true)]) := upd_same
        revert s65 e_l64; generalize upd H62 l64 (.lst [.bl (true), .bl (true), .bl (true)]) = H66; intro s65 e_l64
        replace e_t12 := s65 _ _ e_t12
        replace hA_t12 := tups_same s65 hA_t12
        replace e_P0 := s65 _ _ e_P0
        replace e_t47 := s65 _ _ e_t47
        replace e_D54 := s65 _ _ e_D54
        replace hA_D54 := tups_same s65 hA_D54
        replace hB := hB.same s65
        replace kH := kH.trans (Keep.of_same s65)
        first | refine st_set [some (.ref b), some (.int ((2 * r) : Nat)), some (.ref t12), some (.int (((0 : Int) + (i0 : Nat)))), some (.ref P0), some (.ref t47), some (.ref D54), some (.ref l64), none] ?_ rfl | refine st_eq [some (.ref b), some (.int ((2 * r) : Nat)), some (.ref t12), some (.int (((0 : Int) + (i0 : Nat)))), some (.ref P0), some (.ref t47), some (.ref D54), some (.ref l64), none] ?_ rfl | refine st_eq (t := tSeq _ _) [some (.ref b), some (.int ((2 * r) : Nat)), some (.ref t12), some (.int (((0 : Int) + (i0 : Nat)))), some (.ref P0), some (.ref t47), some (.ref D54), some (.ref l64), none] ?_ rfl
        refine ⟨_, rfl, _, rfl, (by show 0 ≤ sizeLine; decide), fun l67 nl67 => ?_⟩
        have ap_t12_l67 : t12 ≠ l67 := ne_of_none e_t12 nl67
        have ap_D54_l67 : D54 ≠ l67 := ne_of_none e_D54 nl67
        have ap_l64_l67 : l64 ≠ l67 := ne_of_none e_l64 nl67
        have n0_l67 : H l67 = none := keep_freeR kH hB nl67
        have ne_l67 : l67 ≠ b := (hB.ne_new nl67).symm
        have s68 : Same H66 (upd H66 l67 (.lst [])) := same_new nl67
        have e_l67 : upd H66 l67 (.lst []) l67 = some (.lst []) := upd_same
        revert s68 e_l67; generalize upd H66 l67 (.lst []) = H69; intro s68 e_l67
        replace e_t12 := s68 _ _ e_t12
        replace hA_t12 := tups_same s68 hA_t12
        replace e_P0 := s68 _ _ e_P0
        replace e_t47 := s68 _ _ e_t47
        replace e_D54 := s68 _ _ e_D54
        replace hA_D54 := tups_same s68 hA_D54
        replace e_l64 := s68 _ _ e_l64
        replace hB := hB.same s68
        replace kH := kH.trans (Keep.of_same s68)
        refine ⟨_, _, .lst (.inl (.inl e_D54)) (tups_dp hA_D54), .lst (.inl (.inl e_l67)) .nil, fkA.sh, rfl, ?_⟩
        clear e_l67
        rw [show PyData.eqv (.list (A.map td)) (.list []) = true from by rw [hA0]; rfl]
        refine ⟨_, rfl, (by show 0 ≤ sizeLine; decide), fun l70 nl70 => ?_⟩
        have ap_t12_l70 : t12 ≠ l70 := ne_of_none e_t12 nl70
        have ap_D54_l70 : D54 ≠ l70 := ne_of_none e_D54 nl70
        have ap_l64_l70 : l64 ≠ l70 := ne_of_none e_l64 nl70
        have n0_l70 : H l70 = none := keep_freeR kH hB nl70
        have ne_l70 : l70 ≠ b := (hB.ne_new nl70).symm
        have s71 : Same H69 (upd H69 l70 (.lst [])) := same_new nl70
        have e_l70 : upd H69 l70 (.lst []) l70 = some (.lst []) := upd_same
        revert s71 e_l70; generalize upd H69 l70 (.lst []) = H72; intro s71 e_l70
        replace e_t12 := s71 _ _ e_t12
        replace hA_t12 := tups_same s71 hA_t12
        replace e_P0 := s71 _ _ e_P0
        replace e_t47 := s71 _ _ e_t47
        replace e_D54 := s71 _ _ e_D54
        replace hA_D54 := tups_same s71 hA_D54
        replace e_l64 := s71 _ _ e_l64
        replace hB := hB.same s71
        replace kH := kH.trans (Keep.of_same s71)
        refine ⟨_, _, .lst (.inl (.inl e_D54)) (tups_dp hA_D54), .lst (.inl (.inl e_l70)) .nil, fkA.sh, rfl, ?_⟩
        clear e_l70
        rw [show PyData.eqv (.list (A.map td)) (.list []) = true from by rw [hA0]; rfl]
        refine ⟨(by show 3 ≤ sizeLine; decide), fun l73 nl73 => ?_⟩
        have ap_t12_l73 : t12 ≠ l73 := ne_of_none e_t12 nl73
        have ap_D54_l73 : D54 ≠ l73 := ne_of_none e_D54 nl73
        have ap_l64_l73 : l64 ≠ l73 := ne_of_none e_l64 nl73
        have n0_l73 : H l73 = none := keep_freeR kH hB nl73
        have ne_l73 : l73 ≠ b := (hB.ne_new nl73).symm
        have s74 : Same H72 (upd H72 l73 (.lst [.bl (true), .bl (true), .bl (true)])) := same_new nl73
        have e_l73 : upd H72 l73 (.lst [.bl (true), .bl (true), .bl (true)]) l73 = some (.lst [.bl (true), .bl (true), .bl (true)]) := upd_same
        revert s74 e_l73; generalize upd H72 l73 (.lst [.bl (true), .bl (true), .bl (true)]) = H75; intro s74 e_l73
        replace e_t12 := s74 _ _ e_t12
        replace hA_t12 := tups_same s74 hA_t12
        replace e_P0 := s74 _ _ e_P0
        replace e_t47 := s74 _ _ e_t47
        replace e_D54 := s74 _ _ e_D54
        replace hA_D54 := tups_same s74 hA_D54
        replace e_l64 := s74 _ _ e_l64
        replace hB := hB.same s74
        replace kH := kH.trans (Keep.of_same s74)
        have fk76 : Fi 1 (.list [.bool (true), .bool (true), .bool (true)]) := fi_list (j := 0) (n := 3) (fa_cons (fi_bl) (fa_cons (fi_bl) (fa_cons (fi_bl) fa_nil))) rfl (by decide)
        refine ⟨_, _, _, rfl, .lst (.inl (.inl e_l64)) (.cons (.bl _) (.cons (.bl _) (.cons (.bl _) .nil))), .lst (.inl (.inl e_l73)) (.cons (.bl _) (.cons (.bl _) (.cons (.bl _) .nil))), Nat.lt_succ_of_le (Nat.le_trans fk76.depth (by decide)), fk76.nar, fun H77 s78 => ?_⟩
        replace e_t12 := s78 _ _ e_t12
        replace hA_t12 := tups_same s78 hA_t12
        replace e_P0 := s78 _ _ e_P0
        replace e_t47 := s78 _ _ e_t47
        replace e_D54 := s78 _ _ e_D54
        replace hA_D54 := tups_same s78 hA_D54
        replace e_l64 := s78 _ _ e_l64
        replace e_l73 := s78 _ _ e_l73
        replace hB := hB.same s78
        replace kH := kH.trans (Keep.of_same s78)
        refine ⟨true, rfl, iteN ?_⟩
        refine ⟨_, rfl, t12, rfl, ⟨_, .inl (.inl e_t12)⟩, fun D79 nD79 => ?_⟩
        refine lc_list (xs := as13.map V.ref) (fun i H' => Same H77 H' ∧ H' D79 = some (.lst (List.replicate i (.bl true)))) ⟨same_new nD79, upd_same⟩ (fun i H' _ h => .inl (.inl (h.1 _ _ e_t12))) (fun i v H' hv h => ?_) (fun H' h => ?_)
        · obtain ⟨sm, eD⟩ := h
          rw [List.getElem?_map] at hv
          obtain ⟨u0, hu0, rfl⟩ := Option.map_eq_some_iff.mp hv
          obtain ⟨q0, hq, eu0⟩ := tups_get (tups_same sm hA_t12) hu0
          have hqp := apl_mem.mp (List.mem_of_getElem? hq)
          have fkq : Fi 1 (td q0) := fi_tup hqp (by omega)
          refine ⟨rfl, yes_if ⟨_, rfl, _, rfl, _, rfl, P0, t47, .ref u0, F, G48, (2 * r), td q0, rfl, .inr (.inl (.inl (sm _ _ e_P0))), .inr (.inl (.inl (sm _ _ e_t47))), hF, hG49, by omega, by omega, .tup (.inl (.inl eu0)) (dp_nats _), fkq.nar, fun H4 s4 => ⟨_, rfl, _, rfl, td q0, A.map td, .tup (.inl (.inl (s4 _ _ eu0))) (dp_nats _), .lst (.inl (.inl (s4 _ _ (sm _ _ e_D54)))) (tups_dp (tups_same s4 (tups_same sm hA_D54))), fkq.sh, fkA.sh, rfl, ?_⟩⟩⟩
          rw [shP_td hqp, show ((A.map td).any fun z => PyData.eqv z (td q0)) = !decide (rd F q0 (2 * r) = rd G48 q0 (2 * r)) from any_td (fun h => ((hAm q0).mp h).2) (fun h => (hAm q0).mpr ⟨hqp, h⟩), decide_eq_true rfl]
          exact yes_next nD79 sm eD (by have := get_lt hq; omega) s4
        obtain ⟨s80, e_D79⟩ := h
        rw [List.length_map, hA_t12.length] at e_D79
        revert s80 e_D79; generalize H' = H81; intro s80 e_D79
        replace e_t12 := s80 _ _ e_t12
        replace hA_t12 := tups_same s80 hA_t12
        replace e_P0 := s80 _ _ e_P0
        replace e_t47 := s80 _ _ e_t47
        replace e_D54 := s80 _ _ e_D54
        replace hA_D54 := tups_same s80 hA_D54
        replace hB := hB.same s80
        replace kH := kH.trans (Keep.of_same s80)
        refine ⟨D79, List.replicate (apl r).length true, rfl, by rw [List.map_replicate]; exact .inl (.inl e_D79), _, rfl, ?_⟩
        rw [all_rep]
        refine iteN ?_
        clear e_D79
        refine ⟨_, rfl, _, rfl, P0, _, rfl, .inr (.inl (.inl e_P0)), fun l82 nl82 => ?_⟩
        have ne_l82 : l82 ≠ b := (hB.ne_new nl82).symm
        have s83 : Same H81 (upd H81 l82 (.lst (nv (F)))) := same_new nl82
        have e_l82 : upd H81 l82 (.lst (nv (F))) l82 = some (.lst (nv (F))) := upd_same
        revert s83 e_l82; generalize upd H81 l82 (.lst (nv (F))) = H84; intro s83 e_l82
        replace e_t12 := s83 _ _ e_t12
        replace hA_t12 := tups_same s83 hA_t12
        replace e_P0 := s83 _ _ e_P0
        replace e_t47 := s83 _ _ e_t47
        replace e_D54 := s83 _ _ e_D54
        replace hA_D54 := tups_same s83 hA_D54
        replace hB := hB.same s83
        replace kH := kH.trans (Keep.of_same s83)
        refine ⟨P0, l82, F, F, (2 * r), rfl, .inr (.inl (.inl e_P0)), .inl (.inl (.inl e_l82)), hF, hF, hev, by omega, fun H85 s86 => ?_⟩
        replace e_t12 := s86 _ _ e_t12
        replace hA_t12 := tups_same s86 hA_t12
        replace e_P0 := s86 _ _ e_P0
        replace e_t47 := s86 _ _ e_t47
        replace e_D54 := s86 _ _ e_D54
        replace hA_D54 := tups_same s86 hA_D54
        replace e_l82 := s86 _ _ e_l82
        replace hB := hB.same s86
        replace kH := kH.trans (Keep.of_same s86)
        rw [show doS F F (2 * r) = true from dself]
        refine ⟨_, _, rfl, rfl, _, rfl, iteX rfl ?_⟩
        refine ⟨_, rfl, P0, _, rfl, .inr (.inl (.inl e_P0)), fun l87 nl87 => ?_⟩
        have ne_l87 : l87 ≠ b := (hB.ne_new nl87).symm
        have s88 : Same H85 (upd H85 l87 (.lst (nv (F)))) := same_new nl87
        have e_l87 : upd H85 l87 (.lst (nv (F))) l87 = some (.lst (nv (F))) := upd_same
        revert s88 e_l87; generalize upd H85 l87 (.lst (nv (F))) = H89; intro s88 e_l87
        replace e_t12 := s88 _ _ e_t12
        replace hA_t12 := tups_same s88 hA_t12
        replace e_P0 := s88 _ _ e_P0
        replace e_t47 := s88 _ _ e_t47
        replace e_D54 := s88 _ _ e_D54
        replace hA_D54 := tups_same s88 hA_D54
        replace e_l82 := s88 _ _ e_l82
        replace hB := hB.same s88
        replace kH := kH.trans (Keep.of_same s88)
        refine ⟨_, rfl, l87, P0, F, F, (2 * r), rfl, .inl (.inl (.inl e_l87)), .inr (.inl (.inl e_P0)), hF, hF, hev, by omega, fun _ H90 s91 => ?_, fun z => absurd (dself) (by rw [z]; decide)⟩
        replace e_t12 := s91 _ _ e_t12
        replace hA_t12 := tups_same s91 hA_t12
        replace e_P0 := s91 _ _ e_P0
        replace e_t47 := s91 _ _ e_t47
        replace e_D54 := s91 _ _ e_D54
        replace hA_D54 := tups_same s91 hA_D54
        replace e_l82 := s91 _ _ e_l82
        replace e_l87 := s91 _ _ e_l87
        replace hB := hB.same s91
        replace kH := kH.trans (Keep.of_same s91)
        refine ⟨rfl, _, rfl, iteX rfl ?_⟩
        refine ⟨_, rfl, _, rfl, P0, t47, F, G48, (2 * r), rfl, .inr (.inl (.inl e_P0)), .inr (.inl (.inl e_t47)), hF, hG49, hev, by omega, fun _ H92 s93 => ?_, fun z => absurd (hd) (by rw [z]; decide)⟩
        replace e_t12 := s93 _ _ e_t12
        replace hA_t12 := tups_same s93 hA_t12
        replace e_P0 := s93 _ _ e_P0
        replace e_t47 := s93 _ _ e_t47
        replace e_D54 := s93 _ _ e_D54
        replace hA_D54 := tups_same s93 hA_D54
        replace hB := hB.same s93
        replace kH := kH.trans (Keep.of_same s93)
        refine ⟨_, rfl, _, rfl, t47, P0, G48, F, (2 * r), rfl, .inr (.inl (.inl e_t47)), .inr (.inl (.inl e_P0)), hG49, hF, hev, by omega, fun _ H94 s95 => ?_, fun z => absurd (hd2) (by rw [z]; decide)⟩
        replace e_t12 := s95 _ _ e_t12
        replace hA_t12 := tups_same s95 hA_t12
        replace e_P0 := s95 _ _ e_P0
        replace e_t47 := s95 _ _ e_t47
        replace e_D54 := s95 _ _ e_D54
        replace hA_D54 := tups_same s95 hA_D54
        replace hB := hB.same s95
        replace kH := kH.trans (Keep.of_same s95)
        refine ⟨(by show 2 ≤ sizeLine; decide), fun l96 nl96 => ?_⟩
        have ap_t12_l96 : t12 ≠ l96 := ne_of_none e_t12 nl96
        have ap_D54_l96 : D54 ≠ l96 := ne_of_none e_D54 nl96
        have n0_l96 : H l96 = none := keep_freeR kH hB nl96
        have ne_l96 : l96 ≠ b := (hB.ne_new nl96).symm
        have s97 : Same H94 (upd H94 l96 (.lst [.non, .non])) := same_new nl96
        have e_l96 : upd H94 l96 (.lst [.non, .non]) l96 = some (.lst [.non, .non]) := upd_same
        revert s97 e_l96; generalize upd H94 l96 (.lst [.non, .non]) = H98; intro s97 e_l96
        replace e_t12 := s97 _ _ e_t12
        replace hA_t12 := tups_same s97 hA_t12
        replace e_P0 := s97 _ _ e_P0
        replace e_t47 := s97 _ _ e_t47
        replace e_D54 := s97 _ _ e_D54
        replace hA_D54 := tups_same s97 hA_D54
        replace hB := hB.same s97
        replace kH := kH.trans (Keep.of_same s97)
        first | refine st_set [some (.ref b), some (.int ((2 * r) : Nat)), some (.ref t12), some (.int (((0 : Int) + (i0 : Nat)))), some (.ref P0), some (.ref t47), some (.ref D54), some (.ref l96), none] ?_ rfl | refine st_eq [some (.ref b), some (.int ((2 * r) : Nat)), some (.ref t12), some (.int (((0 : Int) + (i0 : Nat)))), some (.ref P0), some (.ref t47), some (.ref D54), some (.ref l96), none] ?_ rfl | refine st_eq (t := tSeq _ _) [some (.ref b), some (.int ((2 * r) : Nat)), some (.ref t12), some (.int (((0 : Int) + (i0 : Nat)))), some (.ref P0), some (.ref t47), some (.ref D54), some (.ref l96), none] ?_ rfl
        refine ⟨_, rfl, (by show 0 ≤ sizeLine; decide), fun l99 nl99 => ?_⟩
        have ap_t12_l99 : t12 ≠ l99 := ne_of_none e_t12 nl99
        have ap_D54_l99 : D54 ≠ l99 := ne_of_none e_D54 nl99
        have ap_l96_l99 : l96 ≠ l99 := ne_of_none e_l96 nl99
        have n0_l99 : H l99 = none := keep_freeR kH hB nl99
        have ne_l99 : l99 ≠ b := (hB.ne_new nl99).symm
        have s100 : Same H98 (upd H98 l99 (.lst [])) := same_new nl99
        have e_l99 : upd H98 l99 (.lst []) l99 = some (.lst []) := upd_same
        revert s100 e_l99; generalize upd H98 l99 (.lst []) = H101; intro s100 e_l99
        replace e_t12 := s100 _ _ e_t12
        replace hA_t12 := tups_same s100 hA_t12
        replace e_P0 := s100 _ _ e_P0
        replace e_t47 := s100 _ _ e_t47
        replace e_D54 := s100 _ _ e_D54
        replace hA_D54 := tups_same s100 hA_D54
        replace e_l96 := s100 _ _ e_l96
        replace hB := hB.same s100
        replace kH := kH.trans (Keep.of_same s100)
        refine ⟨_, _, .lst (.inl (.inl e_D54)) (tups_dp hA_D54), .lst (.inl (.inl e_l99)) .nil, fkA.sh, rfl, ?_⟩
        clear e_l99
        rw [show PyData.eqv (.list (A.map td)) (.list []) = true from by rw [hA0]; rfl]
        refine ⟨_, rfl, iteY rfl ?_⟩
        refine ⟨_, rfl, (by show 2 ≤ sizeLine; decide), fun l102 nl102 => ?_⟩
        have ap_t12_l102 : t12 ≠ l102 := ne_of_none e_t12 nl102
        have ap_D54_l102 : D54 ≠ l102 := ne_of_none e_D54 nl102
        have ap_l96_l102 : l96 ≠ l102 := ne_of_none e_l96 nl102
        have n0_l102 : H l102 = none := keep_freeR kH hB nl102
        have ne_l102 : l102 ≠ b := (hB.ne_new nl102).symm
        have s103 : Same H101 (upd H101 l102 (.lst [.non, .non])) := same_new nl102
        have e_l102 : upd H101 l102 (.lst [.non, .non]) l102 = some (.lst [.non, .non]) := upd_same
        revert s103 e_l102; generalize upd H101 l102 (.lst [.non, .non]) = H104; intro s103 e_l102
        replace e_t12 := s103 _ _ e_t12
        replace hA_t12 := tups_same s103 hA_t12
        replace e_P0 := s103 _ _ e_P0
        replace e_t47 := s103 _ _ e_t47
        replace e_D54 := s103 _ _ e_D54
        replace hA_D54 := tups_same s103 hA_D54
        replace e_l96 := s103 _ _ e_l96
        replace hB := hB.same s103
        replace kH := kH.trans (Keep.of_same s103)
        have fk105 : Fi 1 (.list [.none, .none]) := fi_list (j := 0) (n := 2) (fa_cons (fi_non) (fa_cons (fi_non) fa_nil)) rfl (by decide)
        refine ⟨_, _, .lst (.inl (.inl e_l96)) (.cons (.non) (.cons (.non) .nil)), .lst (.inl (.inl e_l102)) (.cons (.non) (.cons (.non) .nil)), fk105.sh, fk105.sh, _, rfl, iteX (fi_ne fk105) ?_⟩
        refine ⟨_, rfl, (by show 0 ≤ sizeLine; decide), fun l106 nl106 => ?_⟩
        have ap_t12_l106 : t12 ≠ l106 := ne_of_none e_t12 nl106
        have ap_D54_l106 : D54 ≠ l106 := ne_of_none e_D54 nl106
        have ap_l96_l106 : l96 ≠ l106 := ne_of_none e_l96 nl106
        have n0_l106 : H l106 = none := keep_freeR kH hB nl106
        have ne_l106 : l106 ≠ b := (hB.ne_new nl106).symm
        have s107 : Same H104 (upd H104 l106 (.lst [])) := same_new nl106
        have e_l106 : upd H104 l106 (.lst []) l106 = some (.lst []) := upd_same
        revert s107 e_l106; generalize upd H104 l106 (.lst []) = H108; intro s107 e_l106
        replace e_t12 := s107 _ _ e_t12
        replace hA_t12 := tups_same s107 hA_t12
        replace e_P0 := s107 _ _ e_P0
        replace e_t47 := s107 _ _ e_t47
        replace e_D54 := s107 _ _ e_D54
        replace hA_D54 := tups_same s107 hA_D54
        replace e_l96 := s107 _ _ e_l96
        replace hB := hB.same s107
        replace kH := kH.trans (Keep.of_same s107)
        refine ⟨_, _, .lst (.inl (.inl e_D54)) (tups_dp hA_D54), .lst (.inl (.inl e_l106)) .nil, fkA.sh, rfl, ?_⟩
        rw [show PyData.eqv (.list (A.map td)) (.list []) = true from by rw [hA0]; rfl]
        refine ⟨_, rfl, iteX rfl (iteX rfl ?_)⟩
        clear e_l106
        exact ⟨kH, hB.mono (by omega), e_t12, hA_t12, _, _, _, _, _, rfl⟩
      · have hd := hd
        replace hd : doS F G48 (2 * r) = false := by revert hd; cases doS F G48 (2 * r) <;> simp
        have hd2 : doS G48 F (2 * r) = false := by rw [doS_comm hG49 hF hev]; exact hd
        obtain ⟨hq1, hn1⟩ := apart_ok hF hG49 hev hd
        obtain ⟨hq2, hn2⟩ := apart_ok hG49 hF hev hd2
        have hm1 : ptg F G48 (2 * r) ∈ A := (hAm _).mpr ⟨hq1, hn1⟩
        have hm2 : ptg G48 F (2 * r) ∈ A := (hAm _).mpr ⟨hq2, fun z => hn2 z.symm⟩
        have hA0 : A ≠ [] := fun z => by rw [z] at hm1; cases hm1
        refine ⟨_, rfl, _, rfl, P0, t47, F, G48, (2 * r), rfl, .inr (.inl (.inl e_P0)), .inr (.inl (.inl e_t47)), hF, hG49, hev, by omega, fun H109 s110 => ?_⟩
        replace e_t12 := s110 _ _ e_t12
        replace hA_t12 := tups_same s110 hA_t12
        replace e_P0 := s110 _ _ e_P0
        replace e_t47 := s110 _ _ e_t47
        replace e_D54 := s110 _ _ e_D54
        replace hA_D54 := tups_same s110 hA_D54
        replace hB := hB.same s110
        replace kH := kH.trans (Keep.of_same s110)
        rw [show doS F G48 (2 * r) = false from hd]
        refine ⟨_, rfl, _, rfl, t47, P0, G48, F, (2 * r), rfl, .inr (.inl (.inl e_t47)), .inr (.inl (.inl e_P0)), hG49, hF, hev, by omega, fun H111 s112 => ?_⟩
        replace e_t12 := s112 _ _ e_t12
        replace hA_t12 := tups_same s112 hA_t12
        replace e_P0 := s112 _ _ e_P0
        replace e_t47 := s112 _ _ e_t47
        replace e_D54 := s112 _ _ e_D54
        replace hA_D54 := tups_same s112 hA_D54
        replace hB := hB.same s112
        replace kH := kH.trans (Keep.of_same s112)
        rw [show doS G48 F (2 * r) = false from hd2]
        refine ⟨_, rfl, _, rfl, P0, P0, F, F, (2 * r), rfl, .inr (.inl (.inl e_P0)), .inr (.inl (.inl e_P0)), hF, hF, hev, by omega, fun H113 s114 => ?_⟩
        replace e_t12 := s114 _ _ e_t12
        replace hA_t12 := tups_same s114 hA_t12
        replace e_P0 := s114 _ _ e_P0
        replace e_t47 := s114 _ _ e_t47
        replace e_D54 := s114 _ _ e_D54
        replace hA_D54 := tups_same s114 hA_D54
        replace hB := hB.same s114
        replace kH := kH.trans (Keep.of_same s114)
        rw [show doS F F (2 * r) = true from dself]
        refine ⟨(by show 3 ≤ sizeLine; decide), fun l115 nl115 => ?_⟩
        have ap_t12_l115 : t12 ≠ l115 := ne_of_none e_t12 nl115
        have ap_D54_l115 : D54 ≠ l115 := ne_of_none e_D54 nl115
        have n0_l115 : H l115 = none := keep_freeR kH hB nl115
        have ne_l115 : l115 ≠ b := (hB.ne_new nl115).symm
        have s116 : Same H113 (upd H113 l115 (.lst [.bl (false), .bl (false), .bl (true)])) := same_new nl115
        have e_l115 : upd H113 l115 (.lst [.bl (false), .bl (false), .bl (true)]) l115 = some (.lst [.bl (false), .bl (false), .bl (true)]) := upd_same
        revert s116 e_l115; generalize upd H113 l115 (.lst [.bl (false), .bl (false), .bl (true)]) = H117; intro s116 e_l115
        replace e_t12 := s116 _ _ e_t12
        replace hA_t12 := tups_same s116 hA_t12
        replace e_P0 := s116 _ _ e_P0
        replace e_t47 := s116 _ _ e_t47
        replace e_D54 := s116 _ _ e_D54
        replace hA_D54 := tups_same s116 hA_D54
        replace hB := hB.same s116
        replace kH := kH.trans (Keep.of_same s116)
        first | refine st_set [some (.ref b), some (.int ((2 * r) : Nat)), some (.ref t12), some (.int (((0 : Int) + (i0 : Nat)))), some (.ref P0), some (.ref t47), some (.ref D54), some (.ref l115), none] ?_ rfl | refine st_eq [some (.ref b), some (.int ((2 * r) : Nat)), some (.ref t12), some (.int (((0 : Int) + (i0 : Nat)))), some (.ref P0), some (.ref t47), some (.ref D54), some (.ref l115), none] ?_ rfl | refine st_eq (t := tSeq _ _) [some (.ref b), some (.int ((2 * r) : Nat)), some (.ref t12), some (.int (((0 : Int) + (i0 : Nat)))), some (.ref P0), some (.ref t47), some (.ref D54), some (.ref l115), none] ?_ rfl
        refine ⟨_, rfl, _, rfl, (by show 0 ≤ sizeLine; decide), fun l118 nl118 => ?_⟩
        have ap_t12_l118 : t12 ≠ l118 := ne_of_none e_t12 nl118
        have ap_D54_l118 : D54 ≠ l118 := ne_of_none e_D54 nl118
        have ap_l115_l118 : l115 ≠ l118 := ne_of_none e_l115 nl118
        have n0_l118 : H l118 = none := keep_freeR kH hB nl118
        have ne_l118 : l118 ≠ b := (hB.ne_new nl118).symm
        have s119 : Same H117 (upd H117 l118 (.lst [])) := same_new nl118
        have e_l118 : upd H117 l118 (.lst []) l118 = some (.lst []) := upd_same
        revert s119 e_l118; generalize upd H117 l118 (.lst []) = H120; intro s119 e_l118
        replace e_t12 := s119 _ _ e_t12
        replace hA_t12 := tups_same s119 hA_t12
        replace e_P0 := s119 _ _ e_P0
        replace e_t47 := s119 _ _ e_t47
        replace e_D54 := s119 _ _ e_D54
        replace hA_D54 := tups_same s119 hA_D54
        replace e_l115 := s119 _ _ e_l115
        replace hB := hB.same s119
        replace kH := kH.trans (Keep.of_same s119)
        refine ⟨_, _, .lst (.inl (.inl e_D54)) (tups_dp hA_D54), .lst (.inl (.inl e_l118)) .nil, fkA.sh, rfl, ?_⟩
        clear e_l118
        rw [show PyData.eqv (.list (A.map td)) (.list []) = false from eqv_ne hA0]
        refine ⟨_, rfl, (by show 0 ≤ sizeLine; decide), fun l121 nl121 => ?_⟩
        have ap_t12_l121 : t12 ≠ l121 := ne_of_none e_t12 nl121
        have ap_D54_l121 : D54 ≠ l121 := ne_of_none e_D54 nl121
        have ap_l115_l121 : l115 ≠ l121 := ne_of_none e_l115 nl121
        have n0_l121 : H l121 = none := keep_freeR kH hB nl121
        have ne_l121 : l121 ≠ b := (hB.ne_new nl121).symm
        have s122 : Same H120 (upd H120 l121 (.lst [])) := same_new nl121
        have e_l121 : upd H120 l121 (.lst []) l121 = some (.lst []) := upd_same
        revert s122 e_l121; generalize upd H120 l121 (.lst []) = H123; intro s122 e_l121
        replace e_t12 := s122 _ _ e_t12
        replace hA_t12 := tups_same s122 hA_t12
        replace e_P0 := s122 _ _ e_P0
        replace e_t47 := s122 _ _ e_t47
        replace e_D54 := s122 _ _ e_D54
        replace hA_D54 := tups_same s122 hA_D54
        replace e_l115 := s122 _ _ e_l115
        replace hB := hB.same s122
        replace kH := kH.trans (Keep.of_same s122)
        refine ⟨_, _, .lst (.inl (.inl e_D54)) (tups_dp hA_D54), .lst (.inl (.inl e_l121)) .nil, fkA.sh, rfl, ?_⟩
        clear e_l121
        rw [show PyData.eqv (.list (A.map td)) (.list []) = false from eqv_ne hA0]
        refine ⟨(by show 3 ≤ sizeLine; decide), fun l124 nl124 => ?_⟩
        have ap_t12_l124 : t12 ≠ l124 := ne_of_none e_t12 nl124
        have ap_D54_l124 : D54 ≠ l124 := ne_of_none e_D54 nl124
        have ap_l115_l124 : l115 ≠ l124 := ne_of_none e_l115 nl124
        have n0_l124 : H l124 = none := keep_freeR kH hB nl124
        have ne_l124 : l124 ≠ b := (hB.ne_new nl124).symm
        have s125 : Same H123 (upd H123 l124 (.lst [.bl (false), .bl (false), .bl (true)])) := same_new nl124
        have e_l124 : upd H123 l124 (.lst [.bl (false), .bl (false), .bl (true)]) l124 = some (.lst [.bl (false), .bl (false), .bl (true)]) := upd_same
        revert s125 e_l124; generalize upd H123 l124 (.lst [.bl (false), .bl (false), .bl (true)]) = H126; intro s125 e_l124
        replace e_t12 := s125 _ _ e_t12
        replace hA_t12 := tups_same s125 hA_t12
        replace e_P0 := s125 _ _ e_P0
        replace e_t47 := s125 _ _ e_t47
        replace e_D54 := s125 _ _ e_D54
        replace hA_D54 := tups_same s125 hA_D54
        replace e_l115 := s125 _ _ e_l115
        replace hB := hB.same s125
        replace kH := kH.trans (Keep.of_same s125)
        have fk127 : Fi 1 (.list [.bool (false), .bool (false), .bool (true)]) := fi_list (j := 0) (n := 3) (fa_cons (fi_bl) (fa_cons (fi_bl) (fa_cons (fi_bl) fa_nil))) rfl (by decide)
        refine ⟨_, _, _, rfl, .lst (.inl (.inl e_l115)) (.cons (.bl _) (.cons (.bl _) (.cons (.bl _) .nil))), .lst (.inl (.inl e_l124)) (.cons (.bl _) (.cons (.bl _) (.cons (.bl _) .nil))), Nat.lt_succ_of_le (Nat.le_trans fk127.depth (by decide)), fk127.nar, fun H128 s129 => ?_⟩
        replace e_t12 := s129 _ _ e_t12
        replace hA_t12 := tups_same s129 hA_t12
        replace e_P0 := s129 _ _ e_P0
        replace e_t47 := s129 _ _ e_t47
        replace e_D54 := s129 _ _ e_D54
        replace hA_D54 := tups_same s129 hA_D54
        replace e_l115 := s129 _ _ e_l115
        replace e_l124 := s129 _ _ e_l124
        replace hB := hB.same s129
        replace kH := kH.trans (Keep.of_same s129)
        refine ⟨true, rfl, iteN ?_⟩
        refine ⟨_, rfl, t12, rfl, ⟨_, .inl (.inl e_t12)⟩, fun D130 nD130 => ?_⟩
        refine lc_list (xs := as13.map V.ref) (fun i H' => Same H128 H' ∧ H' D130 = some (.lst (List.replicate i (.bl true)))) ⟨same_new nD130, upd_same⟩ (fun i H' _ h => .inl (.inl (h.1 _ _ e_t12))) (fun i v H' hv h => ?_) (fun H' h => ?_)
        · obtain ⟨sm, eD⟩ := h
          rw [List.getElem?_map] at hv
          obtain ⟨u0, hu0, rfl⟩ := Option.map_eq_some_iff.mp hv
          obtain ⟨q0, hq, eu0⟩ := tups_get (tups_same sm hA_t12) hu0
          have hqp := apl_mem.mp (List.mem_of_getElem? hq)
          have fkq : Fi 1 (td q0) := fi_tup hqp (by omega)
          refine ⟨rfl, yes_if ⟨_, rfl, _, rfl, _, rfl, P0, t47, .ref u0, F, G48, (2 * r), td q0, rfl, .inr (.inl (.inl (sm _ _ e_P0))), .inr (.inl (.inl (sm _ _ e_t47))), hF, hG49, by omega, by omega, .tup (.inl (.inl eu0)) (dp_nats _), fkq.nar, fun H4 s4 => ⟨_, rfl, _, rfl, td q0, A.map td, .tup (.inl (.inl (s4 _ _ eu0))) (dp_nats _), .lst (.inl (.inl (s4 _ _ (sm _ _ e_D54)))) (tups_dp (tups_same s4 (tups_same sm hA_D54))), fkq.sh, fkA.sh, rfl, ?_⟩⟩⟩
          rw [shP_td hqp, show ((A.map td).any fun z => PyData.eqv z (td q0)) = !decide (rd F q0 (2 * r) = rd G48 q0 (2 * r)) from any_td (fun h => ((hAm q0).mp h).2) (fun h => (hAm q0).mpr ⟨hqp, h⟩), decide_eq_true rfl]
          exact yes_next nD130 sm eD (by have := get_lt hq; omega) s4
        obtain ⟨s131, e_D130⟩ := h
        rw [List.length_map, hA_t12.length] at e_D130
        revert s131 e_D130; generalize H' = H132; intro s131 e_D130
        replace e_t12 := s131 _ _ e_t12
        replace hA_t12 := tups_same s131 hA_t12
        replace e_P0 := s131 _ _ e_P0
        replace e_t47 := s131 _ _ e_t47
        replace e_D54 := s131 _ _ e_D54
        replace hA_D54 := tups_same s131 hA_D54
        replace hB := hB.same s131
        replace kH := kH.trans (Keep.of_same s131)
        refine ⟨D130, List.replicate (apl r).length true, rfl, by rw [List.map_replicate]; exact .inl (.inl e_D130), _, rfl, ?_⟩
        rw [all_rep]
        refine iteN ?_
        clear e_D130
        refine ⟨_, rfl, _, rfl, P0, _, rfl, .inr (.inl (.inl e_P0)), fun l133 nl133 => ?_⟩
        have ne_l133 : l133 ≠ b := (hB.ne_new nl133).symm
        have s134 : Same H132 (upd H132 l133 (.lst (nv (F)))) := same_new nl133
        have e_l133 : upd H132 l133 (.lst (nv (F))) l133 = some (.lst (nv (F))) := upd_same
        revert s134 e_l133; generalize upd H132 l133 (.lst (nv (F))) = H135; intro s134 e_l133
        replace e_t12 := s134 _ _ e_t12
        replace hA_t12 := tups_same s134 hA_t12
        replace e_P0 := s134 _ _ e_P0
        replace e_t47 := s134 _ _ e_t47
        replace e_D54 := s134 _ _ e_D54
        replace hA_D54 := tups_same s134 hA_D54
        replace hB := hB.same s134
        replace kH := kH.trans (Keep.of_same s134)
        refine ⟨P0, l133, F, F, (2 * r), rfl, .inr (.inl (.inl e_P0)), .inl (.inl (.inl e_l133)), hF, hF, hev, by omega, fun H136 s137 => ?_⟩
        replace e_t12 := s137 _ _ e_t12
        replace hA_t12 := tups_same s137 hA_t12
        replace e_P0 := s137 _ _ e_P0
        replace e_t47 := s137 _ _ e_t47
        replace e_D54 := s137 _ _ e_D54
        replace hA_D54 := tups_same s137 hA_D54
        replace e_l133 := s137 _ _ e_l133
        replace hB := hB.same s137
        replace kH := kH.trans (Keep.of_same s137)
        rw [show doS F F (2 * r) = true from dself]
        refine ⟨_, _, rfl, rfl, _, rfl, iteX rfl ?_⟩
        refine ⟨_, rfl, P0, _, rfl, .inr (.inl (.inl e_P0)), fun l138 nl138 => ?_⟩
        have ne_l138 : l138 ≠ b := (hB.ne_new nl138).symm
        have s139 : Same H136 (upd H136 l138 (.lst (nv (F)))) := same_new nl138
        have e_l138 : upd H136 l138 (.lst (nv (F))) l138 = some (.lst (nv (F))) := upd_same
        revert s139 e_l138; generalize upd H136 l138 (.lst (nv (F))) = H140; intro s139 e_l138
        replace e_t12 := s139 _ _ e_t12
        replace hA_t12 := tups_same s139 hA_t12
        replace e_P0 := s139 _ _ e_P0
        replace e_t47 := s139 _ _ e_t47
        replace e_D54 := s139 _ _ e_D54
        replace hA_D54 := tups_same s139 hA_D54
        replace e_l133 := s139 _ _ e_l133
        replace hB := hB.same s139
        replace kH := kH.trans (Keep.of_same s139)
        refine ⟨_, rfl, l138, P0, F, F, (2 * r), rfl, .inl (.inl (.inl e_l138)), .inr (.inl (.inl e_P0)), hF, hF, hev, by omega, fun _ H141 s142 => ?_, fun z => absurd (dself) (by rw [z]; decide)⟩
        replace e_t12 := s142 _ _ e_t12
        replace hA_t12 := tups_same s142 hA_t12
        replace e_P0 := s142 _ _ e_P0
        replace e_t47 := s142 _ _ e_t47
        replace e_D54 := s142 _ _ e_D54
        replace hA_D54 := tups_same s142 hA_D54
        replace e_l133 := s142 _ _ e_l133
        replace e_l138 := s142 _ _ e_l138
        replace hB := hB.same s142
        replace kH := kH.trans (Keep.of_same s142)
        refine ⟨rfl, _, rfl, iteX rfl ?_⟩
        refine ⟨_, rfl, _, rfl, P0, t47, F, G48, (2 * r), rfl, .inr (.inl (.inl e_P0)), .inr (.inl (.inl e_t47)), hF, hG49, hev, by omega, fun z => absurd (hd) (by rw [z]; decide), fun _ H143 t145 s144 n146 e_t145 => ?_⟩
        replace e_t12 := s144 _ _ e_t12
        replace hA_t12 := tups_same s144 hA_t12
        replace e_P0 := s144 _ _ e_P0
        replace e_t47 := s144 _ _ e_t47
        replace e_D54 := s144 _ _ e_D54
        replace hA_D54 := tups_same s144 hA_D54
        replace hB := hB.same s144
        replace kH := kH.trans (Keep.of_same s144)
        refine ⟨_, rfl, _, rfl, t47, P0, G48, F, (2 * r), rfl, .inr (.inl (.inl e_t47)), .inr (.inl (.inl e_P0)), hG49, hF, hev, by omega, fun z => absurd (hd2) (by rw [z]; decide), fun _ H147 t149 s148 n150 e_t149 => ?_⟩
        replace e_t12 := s148 _ _ e_t12
        replace hA_t12 := tups_same s148 hA_t12
        replace e_P0 := s148 _ _ e_P0
        replace e_t47 := s148 _ _ e_t47
        replace e_D54 := s148 _ _ e_D54
        replace hA_D54 := tups_same s148 hA_D54
        replace e_t145 := s148 _ _ e_t145
        replace hB := hB.same s148
        replace kH := kH.trans (Keep.of_same s148)
        refine ⟨(by show 2 ≤ sizeLine; decide), fun l151 nl151 => ?_⟩
        have ap_t12_l151 : t12 ≠ l151 := ne_of_none e_t12 nl151
        have ap_D54_l151 : D54 ≠ l151 := ne_of_none e_D54 nl151
        have n0_l151 : H l151 = none := keep_freeR kH hB nl151
        have ne_l151 : l151 ≠ b := (hB.ne_new nl151).symm
        have s152 : Same H147 (upd H147 l151 (.lst [.ref t145, .ref t149])) := same_new nl151
        have e_l151 : upd H147 l151 (.lst [.ref t145, .ref t149]) l151 = some (.lst [.ref t145, .ref t149]) := upd_same
        revert s152 e_l151; generalize upd H147 l151 (.lst [.ref t145, .ref t149]) = H153; intro s152 e_l151
        replace e_t12 := s152 _ _ e_t12
        replace hA_t12 := tups_same s152 hA_t12
        replace e_P0 := s152 _ _ e_P0
        replace e_t47 := s152 _ _ e_t47
        replace e_D54 := s152 _ _ e_D54
        replace hA_D54 := tups_same s152 hA_D54
        replace e_t145 := s152 _ _ e_t145
        replace e_t149 := s152 _ _ e_t149
        replace hB := hB.same s152
        replace kH := kH.trans (Keep.of_same s152)
        first | refine st_set [some (.ref b), some (.int ((2 * r) : Nat)), some (.ref t12), some (.int (((0 : Int) + (i0 : Nat)))), some (.ref P0), some (.ref t47), some (.ref D54), some (.ref l151), none] ?_ rfl | refine st_eq [some (.ref b), some (.int ((2 * r) : Nat)), some (.ref t12), some (.int (((0 : Int) + (i0 : Nat)))), some (.ref P0), some (.ref t47), some (.ref D54), some (.ref l151), none] ?_ rfl | refine st_eq (t := tSeq _ _) [some (.ref b), some (.int ((2 * r) : Nat)), some (.ref t12), some (.int (((0 : Int) + (i0 : Nat)))), some (.ref P0), some (.ref t47), some (.ref D54), some (.ref l151), none] ?_ rfl
        refine ⟨_, rfl, (by show 0 ≤ sizeLine; decide), fun l154 nl154 => ?_⟩
        have ap_t12_l154 : t12 ≠ l154 := ne_of_none e_t12 nl154
        have ap_D54_l154 : D54 ≠ l154 := ne_of_none e_D54 nl154
        have ap_l151_l154 : l151 ≠ l154 := ne_of_none e_l151 nl154
        have n0_l154 : H l154 = none := keep_freeR kH hB nl154
        have ne_l154 : l154 ≠ b := (hB.ne_new nl154).symm
        have s155 : Same H153 (upd H153 l154 (.lst [])) := same_new nl154
        have e_l154 : upd H153 l154 (.lst []) l154 = some (.lst []) := upd_same
        revert s155 e_l154; generalize upd H153 l154 (.lst []) = H156; intro s155 e_l154
        replace e_t12 := s155 _ _ e_t12
        replace hA_t12 := tups_same s155 hA_t12
        replace e_P0 := s155 _ _ e_P0
        replace e_t47 := s155 _ _ e_t47
        replace e_D54 := s155 _ _ e_D54
        replace hA_D54 := tups_same s155 hA_D54
        replace e_l151 := s155 _ _ e_l151
        replace e_t145 := s155 _ _ e_t145
        replace e_t149 := s155 _ _ e_t149
        replace hB := hB.same s155
        replace kH := kH.trans (Keep.of_same s155)
        refine ⟨_, _, .lst (.inl (.inl e_D54)) (tups_dp hA_D54), .lst (.inl (.inl e_l154)) .nil, fkA.sh, rfl, ?_⟩
        clear e_l154
        rw [show PyData.eqv (.list (A.map td)) (.list []) = false from eqv_ne hA0]
        refine ⟨_, rfl, iteX rfl (iteX rfl ?_)⟩
        refine ⟨_, rfl, (by show 0 ≤ sizeLine; decide), fun l157 nl157 => ?_⟩
        have ap_t12_l157 : t12 ≠ l157 := ne_of_none e_t12 nl157
        have ap_D54_l157 : D54 ≠ l157 := ne_of_none e_D54 nl157
        have ap_l151_l157 : l151 ≠ l157 := ne_of_none e_l151 nl157
        have n0_l157 : H l157 = none := keep_freeR kH hB nl157
        have ne_l157 : l157 ≠ b := (hB.ne_new nl157).symm
        have s158 : Same H156 (upd H156 l157 (.lst [])) := same_new nl157
        have e_l157 : upd H156 l157 (.lst []) l157 = some (.lst []) := upd_same
        revert s158 e_l157; generalize upd H156 l157 (.lst []) = H159; intro s158 e_l157
        replace e_t12 := s158 _ _ e_t12
        replace hA_t12 := tups_same s158 hA_t12
        replace e_P0 := s158 _ _ e_P0
        replace e_t47 := s158 _ _ e_t47
        replace e_D54 := s158 _ _ e_D54
        replace hA_D54 := tups_same s158 hA_D54
        replace e_l151 := s158 _ _ e_l151
        replace e_t145 := s158 _ _ e_t145
        replace e_t149 := s158 _ _ e_t149
        replace hB := hB.same s158
        replace kH := kH.trans (Keep.of_same s158)
        refine ⟨_, _, .lst (.inl (.inl e_D54)) (tups_dp hA_D54), .lst (.inl (.inl e_l157)) .nil, fkA.sh, rfl, ?_⟩
        rw [show PyData.eqv (.list (A.map td)) (.list []) = false from eqv_ne hA0]
        refine ⟨_, rfl, iteY rfl ?_⟩
        clear e_l157
        refine ⟨_, rfl, l151, rfl, ⟨_, .inl (.inl e_l151)⟩, fun D160 nD160 => ?_⟩
        refine lc_list (xs := [V.ref t145, V.ref t149]) (fun i H' => Same H159 H' ∧ H' D160 = some (.lst (List.replicate i (.bl true)))) ⟨same_new nD160, upd_same⟩ (fun i H' _ h => .inl (.inl (h.1 _ _ e_l151))) (fun i v H' hv h => ?_) (fun H' h => ?_)
        · obtain ⟨sm, eD⟩ := h
          have hi := get_lt hv
          obtain ⟨u0, q0, rfl, eu0, hqm⟩ : ∃ u0 q0, v = V.ref u0 ∧ H' u0 = some (.tup (nv q0)) ∧ q0 ∈ A := by
            rcases (show i = 0 ∨ i = 1 by simp at hi; omega) with z | z <;> subst z
            · exact ⟨_, _, (Option.some.inj hv).symm, sm _ _ e_t145, hm1⟩
            · exact ⟨_, _, (Option.some.inj hv).symm, sm _ _ e_t149, hm2⟩
          have fkq : Fi 1 (td q0) := fi_tup ((hAm q0).mp hqm).1 (by omega)
          refine ⟨rfl, yes_if ⟨_, rfl, _, rfl, td q0, A.map td, .tup (.inl (.inl eu0)) (dp_nats _), .lst (.inl (.inl (sm _ _ e_D54))) (tups_dp (tups_same sm hA_D54)), fkq.sh, fkA.sh, ?_⟩⟩
          rw [show ((A.map td).any fun z => PyData.eqv z (td q0)) = true from any_in hqm]
          exact yes_next nD160 sm eD (by simp at hi; omega) (Same.refl _)
        obtain ⟨s161, e_D160⟩ := h
        revert s161 e_D160; generalize H' = H162; intro s161 e_D160
        replace e_t12 := s161 _ _ e_t12
        replace hA_t12 := tups_same s161 hA_t12
        replace e_P0 := s161 _ _ e_P0
        replace e_t47 := s161 _ _ e_t47
        replace e_D54 := s161 _ _ e_D54
        replace hA_D54 := tups_same s161 hA_D54
        replace e_l151 := s161 _ _ e_l151
        replace e_t145 := s161 _ _ e_t145
        replace e_t149 := s161 _ _ e_t149
        replace hB := hB.same s161
        replace kH := kH.trans (Keep.of_same s161)
        refine ⟨D160, List.replicate 2 true, rfl, by rw [List.map_replicate]; exact .inl (.inl e_D160), _, rfl, ?_⟩
        rw [all_rep]
        refine iteN ?_
        exact ⟨kH, hB.mono (by omega), e_t12, hA_t12, _, _, _, _, _, rfl⟩
    clear kH hB
    obtain ⟨kH, hB, e_t12, hA_t12, y_turn, y_page, y_mate_here, y_apart, y_found, rfl⟩ := hPv
    replace hB : Box (n + 39) Hi b := hB.mono (by omega)
    exact q _ kH (hB.mono (by omega))
end
end Pc
namespace Pc
open PySem PySem.Spec PyProof.Rows L2 RZ
section
variable {P : Program} {w : World} {K : PySem.W.Frag} {mg : Str → Option Value} {base : Heap}
/-! ### the law -/
def spLaw (K : PySem.W.Frag) : Sp := fun vs H Q _ => ∃ (a : Addr) (ns : List Int), vs = [.ref a] ∧ SqL K H a (ns.map V.int) ∧ ns.length ≤ 63 ∧ ∀ H', Q (.bl true) H'
theorem ok_law (T : Env K mg) {f : Addr} {fd : FuncData} (F : Fun K "law" "law" s_law f fd) : FnOk P w K mg base CX0 9 f fd ["_law_script"] (spLaw K) := by
  have GC : FnOk P w K mg base CX0 1 T.f_folded T.d_folded ["_law_script", "_law_most"] (spCells K) := ok_cells T
  have GB : FnOk P w K mg base CX0 1 T.f_stream T.d_stream ["_law_script", "_law_k"] (spBox K) := ok_box T
  have GR : FnOk P w K mg base CX0 8 T.f_right T.d_right ["_law_source"] spRight := ok_right T
  refine F.ok sc_law (fun vs H Q E h => ?_) (fun cdv A outer s H vs Q E hr h => ?_)
  · obtain ⟨a, ns, rfl, _⟩ := h
    rfl
  · obtain ⟨a, ns, rfl, hS, hn, q⟩ := h
    have h1 := hr.mono (show 1 ≤ 8 by decide)
    refine ⟨_, pss_cons (ps_set (i := 1) sc_law.nd rfl (.inl rfl) (pe_call GC h1 (by rfl) T.g_folded T.F_folded.kp T.b_folded .nil pass0 (pa_cons (pv 0) (pa_cons pe_int pa_nil)))) <|
      pss_cons (ps_for PassesOwn.never rfl (pi_range1 (by rfl) T.n_range (pa_cons (pe_callB call_len_seq (by rfl) T.n_len PySem.boot_len (pa_cons (pv 1) pa_nil)) pa_nil)) (pg_name (i := 2) sc_law.nd rfl (.inl rfl))
        (pss_cons (ps_set (i := 3) sc_law.nd rfl (.inr rfl) (pe_call GB h1 (by rfl) T.g_stream T.F_stream.kp T.b_stream .nil pass0 (pa_cons (pv 1) (pa_cons (pv 2) pa_nil))))
        (pss_one (ps_if (pt_not (pt_val (pe_callB (cr_all rfl) (by rfl) T.n_all (by decide +kernel) (pa_cons
          (pe_lc (own := [("_law_turn", 4)]) (g := gName 4) (tt := tYes) rfl sc_law.nd (pi_range1 (by rfl) T.n_range (pa_cons pe_int pa_nil)) (blkOk_by (N := N_law) (sc := defScope s_law) (by decide +kernel))
            (fun _ _ _ _ _ => pg_name (i := 4) sc_law.nd rfl (.inl rfl)) (fun _ _ _ _ _ => pts_nil)
            (fun _ _ _ _ _ => pe_call GR hr (by rfl) T.g_right T.F_right.kp T.b_right .nil pass0 (pa_cons (pv 3) pa_nil))) pa_nil)))) (pss_one (ps_ret pe_bl)) pss_nil)))) <|
      pss_one (ps_ret pe_bl), ?_⟩
    refine ⟨.ref a, rfl, a, ns, 3, rfl, hS, hn, by decide, by decide, fun Hc p cs sc np ep hc1 hc2 => ?_⟩
    have hlen : (cs.map V.int).length = cs.length := List.length_map _
    refine ⟨.ref p, rfl, p, _, rfl, .inl (.inl (.inl ep)), _, rfl, by omega, by omega, ?_⟩
    have hj : ((cs.map V.int).length : Int).toNat = cs.length := by rw [hlen]; rfl
    rw [hj]
    refine for_range (fun i σ H' => H' p = some (.lst (cs.map V.int)) ∧ ∃ (y2 y3 y4 : Option V), σ = [some (.ref a), some (.ref p), y2, y3, y4]) ⟨ep, none, none, none, rfl⟩ (fun i σ H1 hi hPv => ?_) (fun σ H' hPv => q _)
    obtain ⟨ep1, y2, y3, y4, rfl⟩ := hPv
    refine ⟨.ref p, rfl, _, rfl, p, cs, i, ?_, .inl (.inl ep1), by omega, fun Hb b sb nb hBb => ?_⟩
    · show [V.ref p, V.int ((0 : Int) + (i : Nat))] = _
      rw [Int.zero_add]
    have epb := sb _ _ ep1
    have pb : p ≠ b := ne_of_none ep1 nb
    refine ⟨2, rfl, by decide, by decide, fun D nD => ?_⟩
    have bD : b ≠ D := hBb.ne_new nD
    have pD : p ≠ D := ne_of_none epb nD
    refine lc_range (n := 2) (fun j H' => H' p = some (.lst (cs.map V.int)) ∧ Box (1000 * (2 - j)) H' b ∧ H' D = some (.lst (List.replicate j (.bl true))))
      ⟨same_new nD _ _ epb, (hBb.same (same_new nD)).mono (by decide), upd_same⟩ (fun j H' hj hPv => ?_) (fun H' hPv => ?_)
    · obtain ⟨ep', hB', eD⟩ := hPv
      refine ⟨rfl, yes_if ⟨_, rfl, b, 1000 * (2 - (j + 1)), rfl, hB'.mono (by omega), fun H2 k2 hB2 => ⟨_, k2 _ _ bD.symm eD, ?_, ?_, ?_, ?_⟩⟩⟩
      · rw [List.length_replicate]; exact small1000 (by omega)
      · rw [upd_ne pD]; exact k2 _ _ pb ep'
      · exact hB2.keep (c := D) keep_upd bD
      · rw [upd_same, List.replicate_succ']
    · obtain ⟨ep', hB', eD⟩ := hPv
      refine ⟨D, List.replicate 2 true, rfl, by rw [List.map_replicate]; exact .inl (.inl eD), _, rfl, ?_⟩
      rw [all_rep]
      exact iteN ⟨ep', _, _, _, rfl⟩
end
end Pc
namespace Pc
open PySem PySem.Spec PyProof.Rows L2 RZ
theorem all_mk {l : PySem.W.OpenLaw} {w : World} {K : PySem.W.Frag} {h : Heap} {mg : Str → Option Value} {fa f_p_is_integer_below f_p_joins_in_pairs f_p_is_pairing f_p_couples f_p_pairing_of f_p_pairings_many f_p_pairing_at f_p_join_two f_p_people_of f_p_check_sizes f_p_lower_pairs f_p_strands f_p_followed_path f_p_result f_p_loose_people f_p_result_at f_p_crossings f_p_do_same f_p_behind_call f_p_parting_couple f_p_parting f_p_shows_parting f_stream f_draw f_folded f_pick f_same f_shuffled f_random_pairing f_random_call f_random_word f_joined_ends f_read f_all_pairings f_joined_up f_exchanged f_mate f_right f_law : Addr} (X : K.In h) (G : h.Ns mainGlobals mg) (hfa : mg "law" = some (.ref fa))
    {od_p_is_integer_below an_p_is_integer_below : Option Addr} {sl_p_is_integer_below : Array (Option Value)} {oc_p_is_integer_below kV_p_is_integer_below dc_p_is_integer_below pm_p_is_integer_below cd_p_is_integer_below ct_p_is_integer_below : Value}
    {od_p_joins_in_pairs an_p_joins_in_pairs : Option Addr} {sl_p_joins_in_pairs : Array (Option Value)} {oc_p_joins_in_pairs kV_p_joins_in_pairs dc_p_joins_in_pairs pm_p_joins_in_pairs cd_p_joins_in_pairs ct_p_joins_in_pairs : Value}
    {od_p_is_pairing an_p_is_pairing : Option Addr} {sl_p_is_pairing : Array (Option Value)} {oc_p_is_pairing kV_p_is_pairing dc_p_is_pairing pm_p_is_pairing cd_p_is_pairing ct_p_is_pairing : Value}
    {od_p_couples an_p_couples : Option Addr} {sl_p_couples : Array (Option Value)} {oc_p_couples kV_p_couples dc_p_couples pm_p_couples cd_p_couples ct_p_couples : Value}
    {od_p_pairing_of an_p_pairing_of : Option Addr} {sl_p_pairing_of : Array (Option Value)} {oc_p_pairing_of kV_p_pairing_of dc_p_pairing_of pm_p_pairing_of cd_p_pairing_of ct_p_pairing_of : Value}
    {od_p_pairings_many an_p_pairings_many : Option Addr} {sl_p_pairings_many : Array (Option Value)} {oc_p_pairings_many kV_p_pairings_many dc_p_pairings_many pm_p_pairings_many cd_p_pairings_many ct_p_pairings_many : Value}
    {od_p_pairing_at an_p_pairing_at : Option Addr} {sl_p_pairing_at : Array (Option Value)} {oc_p_pairing_at kV_p_pairing_at dc_p_pairing_at pm_p_pairing_at cd_p_pairing_at ct_p_pairing_at : Value}
    {od_p_join_two an_p_join_two : Option Addr} {sl_p_join_two : Array (Option Value)} {oc_p_join_two kV_p_join_two dc_p_join_two pm_p_join_two cd_p_join_two ct_p_join_two : Value}
    {od_p_people_of an_p_people_of : Option Addr} {sl_p_people_of : Array (Option Value)} {oc_p_people_of kV_p_people_of dc_p_people_of pm_p_people_of cd_p_people_of ct_p_people_of : Value}
    {od_p_check_sizes an_p_check_sizes : Option Addr} {sl_p_check_sizes : Array (Option Value)} {oc_p_check_sizes kV_p_check_sizes dc_p_check_sizes pm_p_check_sizes cd_p_check_sizes ct_p_check_sizes : Value}
    {od_p_lower_pairs an_p_lower_pairs : Option Addr} {sl_p_lower_pairs : Array (Option Value)} {oc_p_lower_pairs kV_p_lower_pairs dc_p_lower_pairs pm_p_lower_pairs cd_p_lower_pairs ct_p_lower_pairs : Value}
    {od_p_strands an_p_strands : Option Addr} {sl_p_strands : Array (Option Value)} {oc_p_strands kV_p_strands dc_p_strands pm_p_strands cd_p_strands ct_p_strands : Value}
    {od_p_followed_path an_p_followed_path : Option Addr} {sl_p_followed_path : Array (Option Value)} {oc_p_followed_path kV_p_followed_path dc_p_followed_path pm_p_followed_path cd_p_followed_path ct_p_followed_path : Value}
    {od_p_result an_p_result : Option Addr} {sl_p_result : Array (Option Value)} {oc_p_result kV_p_result dc_p_result pm_p_result cd_p_result ct_p_result : Value}
    {od_p_loose_people an_p_loose_people : Option Addr} {sl_p_loose_people : Array (Option Value)} {oc_p_loose_people kV_p_loose_people dc_p_loose_people pm_p_loose_people cd_p_loose_people ct_p_loose_people : Value}
    {od_p_result_at an_p_result_at : Option Addr} {sl_p_result_at : Array (Option Value)} {oc_p_result_at kV_p_result_at dc_p_result_at pm_p_result_at cd_p_result_at ct_p_result_at : Value}
    {od_p_crossings an_p_crossings : Option Addr} {sl_p_crossings : Array (Option Value)} {oc_p_crossings kV_p_crossings dc_p_crossings pm_p_crossings cd_p_crossings ct_p_crossings : Value}
    {od_p_do_same an_p_do_same : Option Addr} {sl_p_do_same : Array (Option Value)} {oc_p_do_same kV_p_do_same dc_p_do_same pm_p_do_same cd_p_do_same ct_p_do_same : Value}
    {od_p_behind_call an_p_behind_call : Option Addr} {sl_p_behind_call : Array (Option Value)} {oc_p_behind_call kV_p_behind_call dc_p_behind_call pm_p_behind_call cd_p_behind_call ct_p_behind_call : Value}
    {od_p_parting_couple an_p_parting_couple : Option Addr} {sl_p_parting_couple : Array (Option Value)} {oc_p_parting_couple kV_p_parting_couple dc_p_parting_couple pm_p_parting_couple cd_p_parting_couple ct_p_parting_couple : Value}
    {od_p_parting an_p_parting : Option Addr} {sl_p_parting : Array (Option Value)} {oc_p_parting kV_p_parting dc_p_parting pm_p_parting cd_p_parting ct_p_parting : Value}
    {od_p_shows_parting an_p_shows_parting : Option Addr} {sl_p_shows_parting : Array (Option Value)} {oc_p_shows_parting kV_p_shows_parting dc_p_shows_parting pm_p_shows_parting cd_p_shows_parting ct_p_shows_parting : Value}
    {od_stream an_stream : Option Addr} {sl_stream : Array (Option Value)} {oc_stream kV_stream dc_stream pm_stream cd_stream ct_stream : Value}
    {od_draw an_draw : Option Addr} {sl_draw : Array (Option Value)} {oc_draw kV_draw dc_draw pm_draw cd_draw ct_draw : Value}
    {od_folded an_folded : Option Addr} {sl_folded : Array (Option Value)} {oc_folded kV_folded dc_folded pm_folded cd_folded ct_folded : Value}
    {od_pick an_pick : Option Addr} {sl_pick : Array (Option Value)} {oc_pick kV_pick dc_pick pm_pick cd_pick ct_pick : Value}
    {od_same an_same : Option Addr} {sl_same : Array (Option Value)} {oc_same kV_same dc_same pm_same cd_same ct_same : Value}
    {od_shuffled an_shuffled : Option Addr} {sl_shuffled : Array (Option Value)} {oc_shuffled kV_shuffled dc_shuffled pm_shuffled cd_shuffled ct_shuffled : Value}
    {od_random_pairing an_random_pairing : Option Addr} {sl_random_pairing : Array (Option Value)} {oc_random_pairing kV_random_pairing dc_random_pairing pm_random_pairing cd_random_pairing ct_random_pairing : Value}
    {od_random_call an_random_call : Option Addr} {sl_random_call : Array (Option Value)} {oc_random_call kV_random_call dc_random_call pm_random_call cd_random_call ct_random_call : Value}
    {od_random_word an_random_word : Option Addr} {sl_random_word : Array (Option Value)} {oc_random_word kV_random_word dc_random_word pm_random_word cd_random_word ct_random_word : Value}
    {od_joined_ends an_joined_ends : Option Addr} {sl_joined_ends : Array (Option Value)} {oc_joined_ends kV_joined_ends dc_joined_ends pm_joined_ends cd_joined_ends ct_joined_ends : Value}
    {od_read an_read : Option Addr} {sl_read : Array (Option Value)} {oc_read kV_read dc_read pm_read cd_read ct_read : Value}
    {od_all_pairings an_all_pairings : Option Addr} {sl_all_pairings : Array (Option Value)} {oc_all_pairings kV_all_pairings dc_all_pairings pm_all_pairings cd_all_pairings ct_all_pairings : Value}
    {od_joined_up an_joined_up : Option Addr} {sl_joined_up : Array (Option Value)} {oc_joined_up kV_joined_up dc_joined_up pm_joined_up cd_joined_up ct_joined_up : Value}
    {od_exchanged an_exchanged : Option Addr} {sl_exchanged : Array (Option Value)} {oc_exchanged kV_exchanged dc_exchanged pm_exchanged cd_exchanged ct_exchanged : Value}
    {od_mate an_mate : Option Addr} {sl_mate : Array (Option Value)} {oc_mate kV_mate dc_mate pm_mate cd_mate ct_mate : Value}
    {od_right an_right : Option Addr} {sl_right : Array (Option Value)} {oc_right kV_right dc_right pm_right cd_right ct_right : Value}
    {od_law an_law : Option Addr} {sl_law : Array (Option Value)} {oc_law kV_law dc_law pm_law cd_law ct_law : Value}
    (a_p_is_integer_below : PySem.W.nsIn K mainGlobals "is_integer_below" = some (some (.ref f_p_is_integer_below))) (l_p_is_integer_below : K.lookup f_p_is_integer_below = some ⟨oc_p_is_integer_below, od_p_is_integer_below, .func (PySem.W.fnOf "is_integer_below" "is_integer_below" (defArgs s_p_is_integer_below) (defBody s_p_is_integer_below) (defScope s_p_is_integer_below) .none kV_p_is_integer_below dc_p_is_integer_below pm_p_is_integer_below an_p_is_integer_below cd_p_is_integer_below ct_p_is_integer_below), sl_p_is_integer_below⟩) (c_p_is_integer_below : PySem.W.codeIn K cd_p_is_integer_below "is_integer_below" = true) (k_p_is_integer_below : PySem.W.keepIn K (.ref f_p_is_integer_below) = true)
    (a_p_joins_in_pairs : PySem.W.nsIn K mainGlobals "joins_in_pairs" = some (some (.ref f_p_joins_in_pairs))) (l_p_joins_in_pairs : K.lookup f_p_joins_in_pairs = some ⟨oc_p_joins_in_pairs, od_p_joins_in_pairs, .func (PySem.W.fnOf "joins_in_pairs" "joins_in_pairs" (defArgs s_p_joins_in_pairs) (defBody s_p_joins_in_pairs) (defScope s_p_joins_in_pairs) .none kV_p_joins_in_pairs dc_p_joins_in_pairs pm_p_joins_in_pairs an_p_joins_in_pairs cd_p_joins_in_pairs ct_p_joins_in_pairs), sl_p_joins_in_pairs⟩) (c_p_joins_in_pairs : PySem.W.codeIn K cd_p_joins_in_pairs "joins_in_pairs" = true) (k_p_joins_in_pairs : PySem.W.keepIn K (.ref f_p_joins_in_pairs) = true)
    (a_p_is_pairing : PySem.W.nsIn K mainGlobals "is_pairing" = some (some (.ref f_p_is_pairing))) (l_p_is_pairing : K.lookup f_p_is_pairing = some ⟨oc_p_is_pairing, od_p_is_pairing, .func (PySem.W.fnOf "is_pairing" "is_pairing" (defArgs s_p_is_pairing) (defBody s_p_is_pairing) (defScope s_p_is_pairing) .none kV_p_is_pairing dc_p_is_pairing pm_p_is_pairing an_p_is_pairing cd_p_is_pairing ct_p_is_pairing), sl_p_is_pairing⟩) (c_p_is_pairing : PySem.W.codeIn K cd_p_is_pairing "is_pairing" = true) (k_p_is_pairing : PySem.W.keepIn K (.ref f_p_is_pairing) = true)
    (a_p_couples : PySem.W.nsIn K mainGlobals "couples" = some (some (.ref f_p_couples))) (l_p_couples : K.lookup f_p_couples = some ⟨oc_p_couples, od_p_couples, .func (PySem.W.fnOf "couples" "couples" (defArgs s_p_couples) (defBody s_p_couples) (defScope s_p_couples) .none kV_p_couples dc_p_couples pm_p_couples an_p_couples cd_p_couples ct_p_couples), sl_p_couples⟩) (c_p_couples : PySem.W.codeIn K cd_p_couples "couples" = true) (k_p_couples : PySem.W.keepIn K (.ref f_p_couples) = true)
    (a_p_pairing_of : PySem.W.nsIn K mainGlobals "pairing_of" = some (some (.ref f_p_pairing_of))) (l_p_pairing_of : K.lookup f_p_pairing_of = some ⟨oc_p_pairing_of, od_p_pairing_of, .func (PySem.W.fnOf "pairing_of" "pairing_of" (defArgs s_p_pairing_of) (defBody s_p_pairing_of) (defScope s_p_pairing_of) .none kV_p_pairing_of dc_p_pairing_of pm_p_pairing_of an_p_pairing_of cd_p_pairing_of ct_p_pairing_of), sl_p_pairing_of⟩) (c_p_pairing_of : PySem.W.codeIn K cd_p_pairing_of "pairing_of" = true) (k_p_pairing_of : PySem.W.keepIn K (.ref f_p_pairing_of) = true)
    (a_p_pairings_many : PySem.W.nsIn K mainGlobals "pairings_many" = some (some (.ref f_p_pairings_many))) (l_p_pairings_many : K.lookup f_p_pairings_many = some ⟨oc_p_pairings_many, od_p_pairings_many, .func (PySem.W.fnOf "pairings_many" "pairings_many" (defArgs s_p_pairings_many) (defBody s_p_pairings_many) (defScope s_p_pairings_many) .none kV_p_pairings_many dc_p_pairings_many pm_p_pairings_many an_p_pairings_many cd_p_pairings_many ct_p_pairings_many), sl_p_pairings_many⟩) (c_p_pairings_many : PySem.W.codeIn K cd_p_pairings_many "pairings_many" = true) (k_p_pairings_many : PySem.W.keepIn K (.ref f_p_pairings_many) = true)
    (a_p_pairing_at : PySem.W.nsIn K mainGlobals "pairing_at" = some (some (.ref f_p_pairing_at))) (l_p_pairing_at : K.lookup f_p_pairing_at = some ⟨oc_p_pairing_at, od_p_pairing_at, .func (PySem.W.fnOf "pairing_at" "pairing_at" (defArgs s_p_pairing_at) (defBody s_p_pairing_at) (defScope s_p_pairing_at) .none kV_p_pairing_at dc_p_pairing_at pm_p_pairing_at an_p_pairing_at cd_p_pairing_at ct_p_pairing_at), sl_p_pairing_at⟩) (c_p_pairing_at : PySem.W.codeIn K cd_p_pairing_at "pairing_at" = true) (k_p_pairing_at : PySem.W.keepIn K (.ref f_p_pairing_at) = true)
    (a_p_join_two : PySem.W.nsIn K mainGlobals "join_two" = some (some (.ref f_p_join_two))) (l_p_join_two : K.lookup f_p_join_two = some ⟨oc_p_join_two, od_p_join_two, .func (PySem.W.fnOf "join_two" "join_two" (defArgs s_p_join_two) (defBody s_p_join_two) (defScope s_p_join_two) .none kV_p_join_two dc_p_join_two pm_p_join_two an_p_join_two cd_p_join_two ct_p_join_two), sl_p_join_two⟩) (c_p_join_two : PySem.W.codeIn K cd_p_join_two "join_two" = true) (k_p_join_two : PySem.W.keepIn K (.ref f_p_join_two) = true)
    (a_p_people_of : PySem.W.nsIn K mainGlobals "people_of" = some (some (.ref f_p_people_of))) (l_p_people_of : K.lookup f_p_people_of = some ⟨oc_p_people_of, od_p_people_of, .func (PySem.W.fnOf "people_of" "people_of" (defArgs s_p_people_of) (defBody s_p_people_of) (defScope s_p_people_of) .none kV_p_people_of dc_p_people_of pm_p_people_of an_p_people_of cd_p_people_of ct_p_people_of), sl_p_people_of⟩) (c_p_people_of : PySem.W.codeIn K cd_p_people_of "people_of" = true) (k_p_people_of : PySem.W.keepIn K (.ref f_p_people_of) = true)
    (a_p_check_sizes : PySem.W.nsIn K mainGlobals "check_sizes" = some (some (.ref f_p_check_sizes))) (l_p_check_sizes : K.lookup f_p_check_sizes = some ⟨oc_p_check_sizes, od_p_check_sizes, .func (PySem.W.fnOf "check_sizes" "check_sizes" (defArgs s_p_check_sizes) (defBody s_p_check_sizes) (defScope s_p_check_sizes) .none kV_p_check_sizes dc_p_check_sizes pm_p_check_sizes an_p_check_sizes cd_p_check_sizes ct_p_check_sizes), sl_p_check_sizes⟩) (c_p_check_sizes : PySem.W.codeIn K cd_p_check_sizes "check_sizes" = true) (k_p_check_sizes : PySem.W.keepIn K (.ref f_p_check_sizes) = true)
    (a_p_lower_pairs : PySem.W.nsIn K mainGlobals "lower_pairs" = some (some (.ref f_p_lower_pairs))) (l_p_lower_pairs : K.lookup f_p_lower_pairs = some ⟨oc_p_lower_pairs, od_p_lower_pairs, .func (PySem.W.fnOf "lower_pairs" "lower_pairs" (defArgs s_p_lower_pairs) (defBody s_p_lower_pairs) (defScope s_p_lower_pairs) .none kV_p_lower_pairs dc_p_lower_pairs pm_p_lower_pairs an_p_lower_pairs cd_p_lower_pairs ct_p_lower_pairs), sl_p_lower_pairs⟩) (c_p_lower_pairs : PySem.W.codeIn K cd_p_lower_pairs "lower_pairs" = true) (k_p_lower_pairs : PySem.W.keepIn K (.ref f_p_lower_pairs) = true)
    (a_p_strands : PySem.W.nsIn K mainGlobals "strands" = some (some (.ref f_p_strands))) (l_p_strands : K.lookup f_p_strands = some ⟨oc_p_strands, od_p_strands, .func (PySem.W.fnOf "strands" "strands" (defArgs s_p_strands) (defBody s_p_strands) (defScope s_p_strands) .none kV_p_strands dc_p_strands pm_p_strands an_p_strands cd_p_strands ct_p_strands), sl_p_strands⟩) (c_p_strands : PySem.W.codeIn K cd_p_strands "strands" = true) (k_p_strands : PySem.W.keepIn K (.ref f_p_strands) = true)
    (a_p_followed_path : PySem.W.nsIn K mainGlobals "followed_path" = some (some (.ref f_p_followed_path))) (l_p_followed_path : K.lookup f_p_followed_path = some ⟨oc_p_followed_path, od_p_followed_path, .func (PySem.W.fnOf "followed_path" "followed_path" (defArgs s_p_followed_path) (defBody s_p_followed_path) (defScope s_p_followed_path) .none kV_p_followed_path dc_p_followed_path pm_p_followed_path an_p_followed_path cd_p_followed_path ct_p_followed_path), sl_p_followed_path⟩) (c_p_followed_path : PySem.W.codeIn K cd_p_followed_path "followed_path" = true) (k_p_followed_path : PySem.W.keepIn K (.ref f_p_followed_path) = true)
    (a_p_result : PySem.W.nsIn K mainGlobals "result" = some (some (.ref f_p_result))) (l_p_result : K.lookup f_p_result = some ⟨oc_p_result, od_p_result, .func (PySem.W.fnOf "result" "result" (defArgs s_p_result) (defBody s_p_result) (defScope s_p_result) .none kV_p_result dc_p_result pm_p_result an_p_result cd_p_result ct_p_result), sl_p_result⟩) (c_p_result : PySem.W.codeIn K cd_p_result "result" = true) (k_p_result : PySem.W.keepIn K (.ref f_p_result) = true)
    (a_p_loose_people : PySem.W.nsIn K mainGlobals "loose_people" = some (some (.ref f_p_loose_people))) (l_p_loose_people : K.lookup f_p_loose_people = some ⟨oc_p_loose_people, od_p_loose_people, .func (PySem.W.fnOf "loose_people" "loose_people" (defArgs s_p_loose_people) (defBody s_p_loose_people) (defScope s_p_loose_people) .none kV_p_loose_people dc_p_loose_people pm_p_loose_people an_p_loose_people cd_p_loose_people ct_p_loose_people), sl_p_loose_people⟩) (c_p_loose_people : PySem.W.codeIn K cd_p_loose_people "loose_people" = true) (k_p_loose_people : PySem.W.keepIn K (.ref f_p_loose_people) = true)
    (a_p_result_at : PySem.W.nsIn K mainGlobals "result_at" = some (some (.ref f_p_result_at))) (l_p_result_at : K.lookup f_p_result_at = some ⟨oc_p_result_at, od_p_result_at, .func (PySem.W.fnOf "result_at" "result_at" (defArgs s_p_result_at) (defBody s_p_result_at) (defScope s_p_result_at) .none kV_p_result_at dc_p_result_at pm_p_result_at an_p_result_at cd_p_result_at ct_p_result_at), sl_p_result_at⟩) (c_p_result_at : PySem.W.codeIn K cd_p_result_at "result_at" = true) (k_p_result_at : PySem.W.keepIn K (.ref f_p_result_at) = true)
    (a_p_crossings : PySem.W.nsIn K mainGlobals "crossings" = some (some (.ref f_p_crossings))) (l_p_crossings : K.lookup f_p_crossings = some ⟨oc_p_crossings, od_p_crossings, .func (PySem.W.fnOf "crossings" "crossings" (defArgs s_p_crossings) (defBody s_p_crossings) (defScope s_p_crossings) .none kV_p_crossings dc_p_crossings pm_p_crossings an_p_crossings cd_p_crossings ct_p_crossings), sl_p_crossings⟩) (c_p_crossings : PySem.W.codeIn K cd_p_crossings "crossings" = true) (k_p_crossings : PySem.W.keepIn K (.ref f_p_crossings) = true)
    (a_p_do_same : PySem.W.nsIn K mainGlobals "do_same" = some (some (.ref f_p_do_same))) (l_p_do_same : K.lookup f_p_do_same = some ⟨oc_p_do_same, od_p_do_same, .func (PySem.W.fnOf "do_same" "do_same" (defArgs s_p_do_same) (defBody s_p_do_same) (defScope s_p_do_same) .none kV_p_do_same dc_p_do_same pm_p_do_same an_p_do_same cd_p_do_same ct_p_do_same), sl_p_do_same⟩) (c_p_do_same : PySem.W.codeIn K cd_p_do_same "do_same" = true) (k_p_do_same : PySem.W.keepIn K (.ref f_p_do_same) = true)
    (a_p_behind_call : PySem.W.nsIn K mainGlobals "behind_call" = some (some (.ref f_p_behind_call))) (l_p_behind_call : K.lookup f_p_behind_call = some ⟨oc_p_behind_call, od_p_behind_call, .func (PySem.W.fnOf "behind_call" "behind_call" (defArgs s_p_behind_call) (defBody s_p_behind_call) (defScope s_p_behind_call) .none kV_p_behind_call dc_p_behind_call pm_p_behind_call an_p_behind_call cd_p_behind_call ct_p_behind_call), sl_p_behind_call⟩) (c_p_behind_call : PySem.W.codeIn K cd_p_behind_call "behind_call" = true) (k_p_behind_call : PySem.W.keepIn K (.ref f_p_behind_call) = true)
    (a_p_parting_couple : PySem.W.nsIn K mainGlobals "parting_couple" = some (some (.ref f_p_parting_couple))) (l_p_parting_couple : K.lookup f_p_parting_couple = some ⟨oc_p_parting_couple, od_p_parting_couple, .func (PySem.W.fnOf "parting_couple" "parting_couple" (defArgs s_p_parting_couple) (defBody s_p_parting_couple) (defScope s_p_parting_couple) .none kV_p_parting_couple dc_p_parting_couple pm_p_parting_couple an_p_parting_couple cd_p_parting_couple ct_p_parting_couple), sl_p_parting_couple⟩) (c_p_parting_couple : PySem.W.codeIn K cd_p_parting_couple "parting_couple" = true) (k_p_parting_couple : PySem.W.keepIn K (.ref f_p_parting_couple) = true)
    (a_p_parting : PySem.W.nsIn K mainGlobals "parting" = some (some (.ref f_p_parting))) (l_p_parting : K.lookup f_p_parting = some ⟨oc_p_parting, od_p_parting, .func (PySem.W.fnOf "parting" "parting" (defArgs s_p_parting) (defBody s_p_parting) (defScope s_p_parting) .none kV_p_parting dc_p_parting pm_p_parting an_p_parting cd_p_parting ct_p_parting), sl_p_parting⟩) (c_p_parting : PySem.W.codeIn K cd_p_parting "parting" = true) (k_p_parting : PySem.W.keepIn K (.ref f_p_parting) = true)
    (a_p_shows_parting : PySem.W.nsIn K mainGlobals "shows_parting" = some (some (.ref f_p_shows_parting))) (l_p_shows_parting : K.lookup f_p_shows_parting = some ⟨oc_p_shows_parting, od_p_shows_parting, .func (PySem.W.fnOf "shows_parting" "shows_parting" (defArgs s_p_shows_parting) (defBody s_p_shows_parting) (defScope s_p_shows_parting) .none kV_p_shows_parting dc_p_shows_parting pm_p_shows_parting an_p_shows_parting cd_p_shows_parting ct_p_shows_parting), sl_p_shows_parting⟩) (c_p_shows_parting : PySem.W.codeIn K cd_p_shows_parting "shows_parting" = true) (k_p_shows_parting : PySem.W.keepIn K (.ref f_p_shows_parting) = true)
    (a_stream : PySem.W.nsIn K mainGlobals "_law_stream" = some (some (.ref f_stream))) (l_stream : K.lookup f_stream = some ⟨oc_stream, od_stream, .func (PySem.W.fnOf "_law_stream" "_law_stream" (defArgs s_stream) (defBody s_stream) (defScope s_stream) .none kV_stream dc_stream pm_stream an_stream cd_stream ct_stream), sl_stream⟩) (c_stream : PySem.W.codeIn K cd_stream "_law_stream" = true) (k_stream : PySem.W.keepIn K (.ref f_stream) = true)
    (a_draw : PySem.W.nsIn K mainGlobals "_law_draw" = some (some (.ref f_draw))) (l_draw : K.lookup f_draw = some ⟨oc_draw, od_draw, .func (PySem.W.fnOf "_law_draw" "_law_draw" (defArgs s_draw) (defBody s_draw) (defScope s_draw) .none kV_draw dc_draw pm_draw an_draw cd_draw ct_draw), sl_draw⟩) (c_draw : PySem.W.codeIn K cd_draw "_law_draw" = true) (k_draw : PySem.W.keepIn K (.ref f_draw) = true)
    (a_folded : PySem.W.nsIn K mainGlobals "_law_folded" = some (some (.ref f_folded))) (l_folded : K.lookup f_folded = some ⟨oc_folded, od_folded, .func (PySem.W.fnOf "_law_folded" "_law_folded" (defArgs s_folded) (defBody s_folded) (defScope s_folded) .none kV_folded dc_folded pm_folded an_folded cd_folded ct_folded), sl_folded⟩) (c_folded : PySem.W.codeIn K cd_folded "_law_folded" = true) (k_folded : PySem.W.keepIn K (.ref f_folded) = true)
    (a_pick : PySem.W.nsIn K mainGlobals "_law_pick" = some (some (.ref f_pick))) (l_pick : K.lookup f_pick = some ⟨oc_pick, od_pick, .func (PySem.W.fnOf "_law_pick" "_law_pick" (defArgs s_pick) (defBody s_pick) (defScope s_pick) .none kV_pick dc_pick pm_pick an_pick cd_pick ct_pick), sl_pick⟩) (c_pick : PySem.W.codeIn K cd_pick "_law_pick" = true) (k_pick : PySem.W.keepIn K (.ref f_pick) = true)
    (a_same : PySem.W.nsIn K mainGlobals "_law_same" = some (some (.ref f_same))) (l_same : K.lookup f_same = some ⟨oc_same, od_same, .func (PySem.W.fnOf "_law_same" "_law_same" (defArgs s_same) (defBody s_same) (defScope s_same) .none kV_same dc_same pm_same an_same cd_same ct_same), sl_same⟩) (c_same : PySem.W.codeIn K cd_same "_law_same" = true) (k_same : PySem.W.keepIn K (.ref f_same) = true)
    (a_shuffled : PySem.W.nsIn K mainGlobals "_law_shuffled" = some (some (.ref f_shuffled))) (l_shuffled : K.lookup f_shuffled = some ⟨oc_shuffled, od_shuffled, .func (PySem.W.fnOf "_law_shuffled" "_law_shuffled" (defArgs s_shuffled) (defBody s_shuffled) (defScope s_shuffled) .none kV_shuffled dc_shuffled pm_shuffled an_shuffled cd_shuffled ct_shuffled), sl_shuffled⟩) (c_shuffled : PySem.W.codeIn K cd_shuffled "_law_shuffled" = true) (k_shuffled : PySem.W.keepIn K (.ref f_shuffled) = true)
    (a_random_pairing : PySem.W.nsIn K mainGlobals "_law_random_pairing" = some (some (.ref f_random_pairing))) (l_random_pairing : K.lookup f_random_pairing = some ⟨oc_random_pairing, od_random_pairing, .func (PySem.W.fnOf "_law_random_pairing" "_law_random_pairing" (defArgs s_random_pairing) (defBody s_random_pairing) (defScope s_random_pairing) .none kV_random_pairing dc_random_pairing pm_random_pairing an_random_pairing cd_random_pairing ct_random_pairing), sl_random_pairing⟩) (c_random_pairing : PySem.W.codeIn K cd_random_pairing "_law_random_pairing" = true) (k_random_pairing : PySem.W.keepIn K (.ref f_random_pairing) = true)
    (a_random_call : PySem.W.nsIn K mainGlobals "_law_random_call" = some (some (.ref f_random_call))) (l_random_call : K.lookup f_random_call = some ⟨oc_random_call, od_random_call, .func (PySem.W.fnOf "_law_random_call" "_law_random_call" (defArgs s_random_call) (defBody s_random_call) (defScope s_random_call) .none kV_random_call dc_random_call pm_random_call an_random_call cd_random_call ct_random_call), sl_random_call⟩) (c_random_call : PySem.W.codeIn K cd_random_call "_law_random_call" = true) (k_random_call : PySem.W.keepIn K (.ref f_random_call) = true)
    (a_random_word : PySem.W.nsIn K mainGlobals "_law_random_word" = some (some (.ref f_random_word))) (l_random_word : K.lookup f_random_word = some ⟨oc_random_word, od_random_word, .func (PySem.W.fnOf "_law_random_word" "_law_random_word" (defArgs s_random_word) (defBody s_random_word) (defScope s_random_word) .none kV_random_word dc_random_word pm_random_word an_random_word cd_random_word ct_random_word), sl_random_word⟩) (c_random_word : PySem.W.codeIn K cd_random_word "_law_random_word" = true) (k_random_word : PySem.W.keepIn K (.ref f_random_word) = true)
    (a_joined_ends : PySem.W.nsIn K mainGlobals "_law_joined_ends" = some (some (.ref f_joined_ends))) (l_joined_ends : K.lookup f_joined_ends = some ⟨oc_joined_ends, od_joined_ends, .func (PySem.W.fnOf "_law_joined_ends" "_law_joined_ends" (defArgs s_joined_ends) (defBody s_joined_ends) (defScope s_joined_ends) .none kV_joined_ends dc_joined_ends pm_joined_ends an_joined_ends cd_joined_ends ct_joined_ends), sl_joined_ends⟩) (c_joined_ends : PySem.W.codeIn K cd_joined_ends "_law_joined_ends" = true) (k_joined_ends : PySem.W.keepIn K (.ref f_joined_ends) = true)
    (a_read : PySem.W.nsIn K mainGlobals "_law_read" = some (some (.ref f_read))) (l_read : K.lookup f_read = some ⟨oc_read, od_read, .func (PySem.W.fnOf "_law_read" "_law_read" (defArgs s_read) (defBody s_read) (defScope s_read) .none kV_read dc_read pm_read an_read cd_read ct_read), sl_read⟩) (c_read : PySem.W.codeIn K cd_read "_law_read" = true) (k_read : PySem.W.keepIn K (.ref f_read) = true)
    (a_all_pairings : PySem.W.nsIn K mainGlobals "_law_all_pairings" = some (some (.ref f_all_pairings))) (l_all_pairings : K.lookup f_all_pairings = some ⟨oc_all_pairings, od_all_pairings, .func (PySem.W.fnOf "_law_all_pairings" "_law_all_pairings" (defArgs s_all_pairings) (defBody s_all_pairings) (defScope s_all_pairings) .none kV_all_pairings dc_all_pairings pm_all_pairings an_all_pairings cd_all_pairings ct_all_pairings), sl_all_pairings⟩) (c_all_pairings : PySem.W.codeIn K cd_all_pairings "_law_all_pairings" = true) (k_all_pairings : PySem.W.keepIn K (.ref f_all_pairings) = true)
    (a_joined_up : PySem.W.nsIn K mainGlobals "_law_joined_up" = some (some (.ref f_joined_up))) (l_joined_up : K.lookup f_joined_up = some ⟨oc_joined_up, od_joined_up, .func (PySem.W.fnOf "_law_joined_up" "_law_joined_up" (defArgs s_joined_up) (defBody s_joined_up) (defScope s_joined_up) .none kV_joined_up dc_joined_up pm_joined_up an_joined_up cd_joined_up ct_joined_up), sl_joined_up⟩) (c_joined_up : PySem.W.codeIn K cd_joined_up "_law_joined_up" = true) (k_joined_up : PySem.W.keepIn K (.ref f_joined_up) = true)
    (a_exchanged : PySem.W.nsIn K mainGlobals "_law_exchanged" = some (some (.ref f_exchanged))) (l_exchanged : K.lookup f_exchanged = some ⟨oc_exchanged, od_exchanged, .func (PySem.W.fnOf "_law_exchanged" "_law_exchanged" (defArgs s_exchanged) (defBody s_exchanged) (defScope s_exchanged) .none kV_exchanged dc_exchanged pm_exchanged an_exchanged cd_exchanged ct_exchanged), sl_exchanged⟩) (c_exchanged : PySem.W.codeIn K cd_exchanged "_law_exchanged" = true) (k_exchanged : PySem.W.keepIn K (.ref f_exchanged) = true)
    (a_mate : PySem.W.nsIn K mainGlobals "_law_mate" = some (some (.ref f_mate))) (l_mate : K.lookup f_mate = some ⟨oc_mate, od_mate, .func (PySem.W.fnOf "_law_mate" "_law_mate" (defArgs s_mate) (defBody s_mate) (defScope s_mate) .none kV_mate dc_mate pm_mate an_mate cd_mate ct_mate), sl_mate⟩) (c_mate : PySem.W.codeIn K cd_mate "_law_mate" = true) (k_mate : PySem.W.keepIn K (.ref f_mate) = true)
    (a_right : PySem.W.nsIn K mainGlobals "_law_right" = some (some (.ref f_right))) (l_right : K.lookup f_right = some ⟨oc_right, od_right, .func (PySem.W.fnOf "_law_right" "_law_right" (defArgs s_right) (defBody s_right) (defScope s_right) .none kV_right dc_right pm_right an_right cd_right ct_right), sl_right⟩) (c_right : PySem.W.codeIn K cd_right "_law_right" = true) (k_right : PySem.W.keepIn K (.ref f_right) = true)
    (a_law : PySem.W.nsIn K mainGlobals "law" = some (some (.ref f_law))) (l_law : K.lookup f_law = some ⟨oc_law, od_law, .func (PySem.W.fnOf "law" "law" (defArgs s_law) (defBody s_law) (defScope s_law) .none kV_law dc_law pm_law an_law cd_law ct_law), sl_law⟩) (c_law : PySem.W.codeIn K cd_law "law" = true) (k_law : PySem.W.keepIn K (.ref f_law) = true)
    (z_isinstance : PySem.W.nsIn K mainGlobals "isinstance" = some none) (z_int : PySem.W.nsIn K mainGlobals "int" = some none) (z_bool : PySem.W.nsIn K mainGlobals "bool" = some none) (z_len : PySem.W.nsIn K mainGlobals "len" = some none) (z_tuple : PySem.W.nsIn K mainGlobals "tuple" = some none) (z_all : PySem.W.nsIn K mainGlobals "all" = some none) (z_enumerate : PySem.W.nsIn K mainGlobals "enumerate" = some none) (z_range : PySem.W.nsIn K mainGlobals "range" = some none) (z_list : PySem.W.nsIn K mainGlobals "list" = some none) (z_divmod : PySem.W.nsIn K mainGlobals "divmod" = some none) (z_abs : PySem.W.nsIn K mainGlobals "abs" = some none) (z_zip : PySem.W.nsIn K mainGlobals "zip" = some none) (z_str : PySem.W.nsIn K mainGlobals "str" = some none) (z_min : PySem.W.nsIn K mainGlobals "min" = some none) (z_max : PySem.W.nsIn K mainGlobals "max" = some none) (z_sum : PySem.W.nsIn K mainGlobals "sum" = some none) (z_sorted : PySem.W.nsIn K mainGlobals "sorted" = some none) :
    ∃ fd : FuncData, (∀ (s : Shared) (v : Value), BindsTo s fd ⟨[v], []⟩ [("_law_script", v)]) ∧ ∀ base : Heap, K.In base → base.Ns mainGlobals mg → FnOk l.prog w K mg base CX0 9 fa fd ["_law_script"] (spLaw K) := by
  have e := hfa.symm.trans (PySem.W.mg_of X G a_law)
  cases e
  let T : Env K mg := {
    n_isinstance := PySem.W.mg_none_of X G z_isinstance,
    n_int := PySem.W.mg_none_of X G z_int,
    n_bool := PySem.W.mg_none_of X G z_bool,
    n_len := PySem.W.mg_none_of X G z_len,
    n_tuple := PySem.W.mg_none_of X G z_tuple,
    n_all := PySem.W.mg_none_of X G z_all,
    n_enumerate := PySem.W.mg_none_of X G z_enumerate,
    n_range := PySem.W.mg_none_of X G z_range,
    n_list := PySem.W.mg_none_of X G z_list,
    n_divmod := PySem.W.mg_none_of X G z_divmod,
    n_abs := PySem.W.mg_none_of X G z_abs,
    n_zip := PySem.W.mg_none_of X G z_zip,
    n_str := PySem.W.mg_none_of X G z_str,
    n_min := PySem.W.mg_none_of X G z_min,
    n_max := PySem.W.mg_none_of X G z_max,
    n_sum := PySem.W.mg_none_of X G z_sum,
    n_sorted := PySem.W.mg_none_of X G z_sorted,
    f_p_is_integer_below := f_p_is_integer_below, d_p_is_integer_below := _, F_p_is_integer_below := fun_mk (st := s_p_is_integer_below) l_p_is_integer_below c_p_is_integer_below k_p_is_integer_below, g_p_is_integer_below := PySem.W.mg_of X G a_p_is_integer_below,
    f_p_joins_in_pairs := f_p_joins_in_pairs, d_p_joins_in_pairs := _, F_p_joins_in_pairs := fun_mk (st := s_p_joins_in_pairs) l_p_joins_in_pairs c_p_joins_in_pairs k_p_joins_in_pairs, g_p_joins_in_pairs := PySem.W.mg_of X G a_p_joins_in_pairs,
    f_p_is_pairing := f_p_is_pairing, d_p_is_pairing := _, F_p_is_pairing := fun_mk (st := s_p_is_pairing) l_p_is_pairing c_p_is_pairing k_p_is_pairing, g_p_is_pairing := PySem.W.mg_of X G a_p_is_pairing,
    f_p_couples := f_p_couples, d_p_couples := _, F_p_couples := fun_mk (st := s_p_couples) l_p_couples c_p_couples k_p_couples, g_p_couples := PySem.W.mg_of X G a_p_couples,
    f_p_pairing_of := f_p_pairing_of, d_p_pairing_of := _, F_p_pairing_of := fun_mk (st := s_p_pairing_of) l_p_pairing_of c_p_pairing_of k_p_pairing_of, g_p_pairing_of := PySem.W.mg_of X G a_p_pairing_of,
    f_p_pairings_many := f_p_pairings_many, d_p_pairings_many := _, F_p_pairings_many := fun_mk (st := s_p_pairings_many) l_p_pairings_many c_p_pairings_many k_p_pairings_many, g_p_pairings_many := PySem.W.mg_of X G a_p_pairings_many,
    f_p_pairing_at := f_p_pairing_at, d_p_pairing_at := _, F_p_pairing_at := fun_mk (st := s_p_pairing_at) l_p_pairing_at c_p_pairing_at k_p_pairing_at, g_p_pairing_at := PySem.W.mg_of X G a_p_pairing_at,
    f_p_join_two := f_p_join_two, d_p_join_two := _, F_p_join_two := fun_mk (st := s_p_join_two) l_p_join_two c_p_join_two k_p_join_two, g_p_join_two := PySem.W.mg_of X G a_p_join_two,
    f_p_people_of := f_p_people_of, d_p_people_of := _, F_p_people_of := fun_mk (st := s_p_people_of) l_p_people_of c_p_people_of k_p_people_of, g_p_people_of := PySem.W.mg_of X G a_p_people_of,
    f_p_check_sizes := f_p_check_sizes, d_p_check_sizes := _, F_p_check_sizes := fun_mk (st := s_p_check_sizes) l_p_check_sizes c_p_check_sizes k_p_check_sizes, g_p_check_sizes := PySem.W.mg_of X G a_p_check_sizes,
    f_p_lower_pairs := f_p_lower_pairs, d_p_lower_pairs := _, F_p_lower_pairs := fun_mk (st := s_p_lower_pairs) l_p_lower_pairs c_p_lower_pairs k_p_lower_pairs, g_p_lower_pairs := PySem.W.mg_of X G a_p_lower_pairs,
    f_p_strands := f_p_strands, d_p_strands := _, F_p_strands := fun_mk (st := s_p_strands) l_p_strands c_p_strands k_p_strands, g_p_strands := PySem.W.mg_of X G a_p_strands,
    f_p_followed_path := f_p_followed_path, d_p_followed_path := _, F_p_followed_path := fun_mk (st := s_p_followed_path) l_p_followed_path c_p_followed_path k_p_followed_path, g_p_followed_path := PySem.W.mg_of X G a_p_followed_path,
    f_p_result := f_p_result, d_p_result := _, F_p_result := fun_mk (st := s_p_result) l_p_result c_p_result k_p_result, g_p_result := PySem.W.mg_of X G a_p_result,
    f_p_loose_people := f_p_loose_people, d_p_loose_people := _, F_p_loose_people := fun_mk (st := s_p_loose_people) l_p_loose_people c_p_loose_people k_p_loose_people, g_p_loose_people := PySem.W.mg_of X G a_p_loose_people,
    f_p_result_at := f_p_result_at, d_p_result_at := _, F_p_result_at := fun_mk (st := s_p_result_at) l_p_result_at c_p_result_at k_p_result_at, g_p_result_at := PySem.W.mg_of X G a_p_result_at,
    f_p_crossings := f_p_crossings, d_p_crossings := _, F_p_crossings := fun_mk (st := s_p_crossings) l_p_crossings c_p_crossings k_p_crossings, g_p_crossings := PySem.W.mg_of X G a_p_crossings,
    f_p_do_same := f_p_do_same, d_p_do_same := _, F_p_do_same := fun_mk (st := s_p_do_same) l_p_do_same c_p_do_same k_p_do_same, g_p_do_same := PySem.W.mg_of X G a_p_do_same,
    f_p_behind_call := f_p_behind_call, d_p_behind_call := _, F_p_behind_call := fun_mk (st := s_p_behind_call) l_p_behind_call c_p_behind_call k_p_behind_call, g_p_behind_call := PySem.W.mg_of X G a_p_behind_call,
    f_p_parting_couple := f_p_parting_couple, d_p_parting_couple := _, F_p_parting_couple := fun_mk (st := s_p_parting_couple) l_p_parting_couple c_p_parting_couple k_p_parting_couple, g_p_parting_couple := PySem.W.mg_of X G a_p_parting_couple,
    f_p_parting := f_p_parting, d_p_parting := _, F_p_parting := fun_mk (st := s_p_parting) l_p_parting c_p_parting k_p_parting, g_p_parting := PySem.W.mg_of X G a_p_parting,
    f_p_shows_parting := f_p_shows_parting, d_p_shows_parting := _, F_p_shows_parting := fun_mk (st := s_p_shows_parting) l_p_shows_parting c_p_shows_parting k_p_shows_parting, g_p_shows_parting := PySem.W.mg_of X G a_p_shows_parting,
    f_stream := f_stream, d_stream := _, F_stream := fun_mk (st := s_stream) l_stream c_stream k_stream, g_stream := PySem.W.mg_of X G a_stream,
    f_draw := f_draw, d_draw := _, F_draw := fun_mk (st := s_draw) l_draw c_draw k_draw, g_draw := PySem.W.mg_of X G a_draw,
    f_folded := f_folded, d_folded := _, F_folded := fun_mk (st := s_folded) l_folded c_folded k_folded, g_folded := PySem.W.mg_of X G a_folded,
    f_pick := f_pick, d_pick := _, F_pick := fun_mk (st := s_pick) l_pick c_pick k_pick, g_pick := PySem.W.mg_of X G a_pick,
    f_same := f_same, d_same := _, F_same := fun_mk (st := s_same) l_same c_same k_same, g_same := PySem.W.mg_of X G a_same,
    f_shuffled := f_shuffled, d_shuffled := _, F_shuffled := fun_mk (st := s_shuffled) l_shuffled c_shuffled k_shuffled, g_shuffled := PySem.W.mg_of X G a_shuffled,
    f_random_pairing := f_random_pairing, d_random_pairing := _, F_random_pairing := fun_mk (st := s_random_pairing) l_random_pairing c_random_pairing k_random_pairing, g_random_pairing := PySem.W.mg_of X G a_random_pairing,
    f_random_call := f_random_call, d_random_call := _, F_random_call := fun_mk (st := s_random_call) l_random_call c_random_call k_random_call, g_random_call := PySem.W.mg_of X G a_random_call,
    f_random_word := f_random_word, d_random_word := _, F_random_word := fun_mk (st := s_random_word) l_random_word c_random_word k_random_word, g_random_word := PySem.W.mg_of X G a_random_word,
    f_joined_ends := f_joined_ends, d_joined_ends := _, F_joined_ends := fun_mk (st := s_joined_ends) l_joined_ends c_joined_ends k_joined_ends, g_joined_ends := PySem.W.mg_of X G a_joined_ends,
    f_read := f_read, d_read := _, F_read := fun_mk (st := s_read) l_read c_read k_read, g_read := PySem.W.mg_of X G a_read,
    f_all_pairings := f_all_pairings, d_all_pairings := _, F_all_pairings := fun_mk (st := s_all_pairings) l_all_pairings c_all_pairings k_all_pairings, g_all_pairings := PySem.W.mg_of X G a_all_pairings,
    f_joined_up := f_joined_up, d_joined_up := _, F_joined_up := fun_mk (st := s_joined_up) l_joined_up c_joined_up k_joined_up, g_joined_up := PySem.W.mg_of X G a_joined_up,
    f_exchanged := f_exchanged, d_exchanged := _, F_exchanged := fun_mk (st := s_exchanged) l_exchanged c_exchanged k_exchanged, g_exchanged := PySem.W.mg_of X G a_exchanged,
    f_mate := f_mate, d_mate := _, F_mate := fun_mk (st := s_mate) l_mate c_mate k_mate, g_mate := PySem.W.mg_of X G a_mate,
    f_right := f_right, d_right := _, F_right := fun_mk (st := s_right) l_right c_right k_right, g_right := PySem.W.mg_of X G a_right }
  exact ⟨PySem.W.fnOf "law" "law" (defArgs s_law) (defBody s_law) (defScope s_law) .none kV_law dc_law pm_law an_law cd_law ct_law, fun s v => .of_eq rfl, fun base _ _ => ok_law T (fun_mk (st := s_law) l_law c_law k_law)⟩
end Pc
open PySem PySem.W PyProof.Rows
set_option maxHeartbeats 0 in
theorem PySem.Challenge.cw_partnercall_k78_whole_words_that_do_the_holds : PySem.Challenge.rw_partnercall_k78_whole_words_that_do_the.Holds := by
  w_on; o_law; k_head; (case hw => w_witness2)
  k_fill
  refine L2.walk_of (l := PySem.Challenge.rw_partnercall_k78_whole_words_that_do_the) (n := 63) (k := 9) (x := "_law_script") (CX := fun _ => L2.CX0) (sp := fun w => Pc.spLaw _) rfl (by decide) rfl ⟨rfl, by decide, by decide⟩ (fun w h Y => PySem.W.kIn_of Y) ?F (fun _ _ a ns hl _ hS => ⟨a, ns, rfl, hS, hl, fun _ => rfl⟩) (fun _ _ _ _ _ h => h)
  case F =>
    intro w mg fa h KX G hmg
    refine' Pc.all_mk KX G hmg ?a_p_is_integer_below ?l_p_is_integer_below ?c_p_is_integer_below ?k_p_is_integer_below ?a_p_joins_in_pairs ?l_p_joins_in_pairs ?c_p_joins_in_pairs ?k_p_joins_in_pairs ?a_p_is_pairing ?l_p_is_pairing ?c_p_is_pairing ?k_p_is_pairing ?a_p_couples ?l_p_couples ?c_p_couples ?k_p_couples ?a_p_pairing_of ?l_p_pairing_of ?c_p_pairing_of ?k_p_pairing_of ?a_p_pairings_many ?l_p_pairings_many ?c_p_pairings_many ?k_p_pairings_many ?a_p_pairing_at ?l_p_pairing_at ?c_p_pairing_at ?k_p_pairing_at ?a_p_join_two ?l_p_join_two ?c_p_join_two ?k_p_join_two ?a_p_people_of ?l_p_people_of ?c_p_people_of ?k_p_people_of ?a_p_check_sizes ?l_p_check_sizes ?c_p_check_sizes ?k_p_check_sizes ?a_p_lower_pairs ?l_p_lower_pairs ?c_p_lower_pairs ?k_p_lower_pairs ?a_p_strands ?l_p_strands ?c_p_strands ?k_p_strands ?a_p_followed_path ?l_p_followed_path ?c_p_followed_path ?k_p_followed_path ?a_p_result ?l_p_result ?c_p_result ?k_p_result ?a_p_loose_people ?l_p_loose_people ?c_p_loose_people ?k_p_loose_people ?a_p_result_at ?l_p_result_at ?c_p_result_at ?k_p_result_at ?a_p_crossings ?l_p_crossings ?c_p_crossings ?k_p_crossings ?a_p_do_same ?l_p_do_same ?c_p_do_same ?k_p_do_same ?a_p_behind_call ?l_p_behind_call ?c_p_behind_call ?k_p_behind_call ?a_p_parting_couple ?l_p_parting_couple ?c_p_parting_couple ?k_p_parting_couple ?a_p_parting ?l_p_parting ?c_p_parting ?k_p_parting ?a_p_shows_parting ?l_p_shows_parting ?c_p_shows_parting ?k_p_shows_parting ?a_stream ?l_stream ?c_stream ?k_stream ?a_draw ?l_draw ?c_draw ?k_draw ?a_folded ?l_folded ?c_folded ?k_folded ?a_pick ?l_pick ?c_pick ?k_pick ?a_same ?l_same ?c_same ?k_same ?a_shuffled ?l_shuffled ?c_shuffled ?k_shuffled ?a_random_pairing ?l_random_pairing ?c_random_pairing ?k_random_pairing ?a_random_call ?l_random_call ?c_random_call ?k_random_call ?a_random_word ?l_random_word ?c_random_word ?k_random_word ?a_joined_ends ?l_joined_ends ?c_joined_ends ?k_joined_ends ?a_read ?l_read ?c_read ?k_read ?a_all_pairings ?l_all_pairings ?c_all_pairings ?k_all_pairings ?a_joined_up ?l_joined_up ?c_joined_up ?k_joined_up ?a_exchanged ?l_exchanged ?c_exchanged ?k_exchanged ?a_mate ?l_mate ?c_mate ?k_mate ?a_right ?l_right ?c_right ?k_right ?a_law ?l_law ?c_law ?k_law ?z_isinstance ?z_int ?z_bool ?z_len ?z_tuple ?z_all ?z_enumerate ?z_range ?z_list ?z_divmod ?z_abs ?z_zip ?z_str ?z_min ?z_max ?z_sum ?z_sorted
    (case a_p_is_integer_below => k_is); (case l_p_is_integer_below => k_is); (case c_p_is_integer_below => k_is); (case k_p_is_integer_below => k_is); (case a_p_joins_in_pairs => k_is); (case l_p_joins_in_pairs => k_is); (case c_p_joins_in_pairs => k_is); (case k_p_joins_in_pairs => k_is); (case a_p_is_pairing => k_is); (case l_p_is_pairing => k_is); (case c_p_is_pairing => k_is); (case k_p_is_pairing => k_is); (case a_p_couples => k_is); (case l_p_couples => k_is); (case c_p_couples => k_is); (case k_p_couples => k_is); (case a_p_pairing_of => k_is); (case l_p_pairing_of => k_is); (case c_p_pairing_of => k_is); (case k_p_pairing_of => k_is); (case a_p_pairings_many => k_is); (case l_p_pairings_many => k_is); (case c_p_pairings_many => k_is); (case k_p_pairings_many => k_is); (case a_p_pairing_at => k_is); (case l_p_pairing_at => k_is); (case c_p_pairing_at => k_is); (case k_p_pairing_at => k_is); (case a_p_join_two => k_is); (case l_p_join_two => k_is); (case c_p_join_two => k_is); (case k_p_join_two => k_is); (case a_p_people_of => k_is); (case l_p_people_of => k_is); (case c_p_people_of => k_is); (case k_p_people_of => k_is); (case a_p_check_sizes => k_is); (case l_p_check_sizes => k_is); (case c_p_check_sizes => k_is); (case k_p_check_sizes => k_is); (case a_p_lower_pairs => k_is); (case l_p_lower_pairs => k_is); (case c_p_lower_pairs => k_is); (case k_p_lower_pairs => k_is); (case a_p_strands => k_is); (case l_p_strands => k_is); (case c_p_strands => k_is); (case k_p_strands => k_is); (case a_p_followed_path => k_is); (case l_p_followed_path => k_is); (case c_p_followed_path => k_is); (case k_p_followed_path => k_is); (case a_p_result => k_is); (case l_p_result => k_is); (case c_p_result => k_is); (case k_p_result => k_is); (case a_p_loose_people => k_is); (case l_p_loose_people => k_is); (case c_p_loose_people => k_is); (case k_p_loose_people => k_is); (case a_p_result_at => k_is); (case l_p_result_at => k_is); (case c_p_result_at => k_is); (case k_p_result_at => k_is); (case a_p_crossings => k_is); (case l_p_crossings => k_is); (case c_p_crossings => k_is); (case k_p_crossings => k_is); (case a_p_do_same => k_is); (case l_p_do_same => k_is); (case c_p_do_same => k_is); (case k_p_do_same => k_is); (case a_p_behind_call => k_is); (case l_p_behind_call => k_is); (case c_p_behind_call => k_is); (case k_p_behind_call => k_is); (case a_p_parting_couple => k_is); (case l_p_parting_couple => k_is); (case c_p_parting_couple => k_is); (case k_p_parting_couple => k_is); (case a_p_parting => k_is); (case l_p_parting => k_is); (case c_p_parting => k_is); (case k_p_parting => k_is); (case a_p_shows_parting => k_is); (case l_p_shows_parting => k_is); (case c_p_shows_parting => k_is); (case k_p_shows_parting => k_is); (case a_stream => k_is); (case l_stream => k_is); (case c_stream => k_is); (case k_stream => k_is); (case a_draw => k_is); (case l_draw => k_is); (case c_draw => k_is); (case k_draw => k_is); (case a_folded => k_is); (case l_folded => k_is); (case c_folded => k_is); (case k_folded => k_is); (case a_pick => k_is); (case l_pick => k_is); (case c_pick => k_is); (case k_pick => k_is); (case a_same => k_is); (case l_same => k_is); (case c_same => k_is); (case k_same => k_is); (case a_shuffled => k_is); (case l_shuffled => k_is); (case c_shuffled => k_is); (case k_shuffled => k_is); (case a_random_pairing => k_is); (case l_random_pairing => k_is); (case c_random_pairing => k_is); (case k_random_pairing => k_is); (case a_random_call => k_is); (case l_random_call => k_is); (case c_random_call => k_is); (case k_random_call => k_is); (case a_random_word => k_is); (case l_random_word => k_is); (case c_random_word => k_is); (case k_random_word => k_is); (case a_joined_ends => k_is); (case l_joined_ends => k_is); (case c_joined_ends => k_is); (case k_joined_ends => k_is); (case a_read => k_is); (case l_read => k_is); (case c_read => k_is); (case k_read => k_is); (case a_all_pairings => k_is); (case l_all_pairings => k_is); (case c_all_pairings => k_is); (case k_all_pairings => k_is); (case a_joined_up => k_is); (case l_joined_up => k_is); (case c_joined_up => k_is); (case k_joined_up => k_is); (case a_exchanged => k_is); (case l_exchanged => k_is); (case c_exchanged => k_is); (case k_exchanged => k_is); (case a_mate => k_is); (case l_mate => k_is); (case c_mate => k_is); (case k_mate => k_is); (case a_right => k_is); (case l_right => k_is); (case c_right => k_is); (case k_right => k_is); (case a_law => k_is); (case l_law => k_is); (case c_law => k_is); (case k_law => k_is); (case z_isinstance => k_is); (case z_int => k_is); (case z_bool => k_is); (case z_len => k_is); (case z_tuple => k_is); (case z_all => k_is); (case z_enumerate => k_is); (case z_range => k_is); (case z_list => k_is); (case z_divmod => k_is); (case z_abs => k_is); (case z_zip => k_is); (case z_str => k_is); (case z_min => k_is); (case z_max => k_is); (case z_sum => k_is); (case z_sorted => k_is)
