import PyProof.Rows.All
import Wide.All
import OpenK.AllK
import Wide.FinOn
import HandS.ForMost
import HandS.IsInst
import HandS.Zip
import HandS.Style
import HandS.Walk
import HandS.Flow
import HandS.Conv
import HandS.RaiseMore
import HandS.NoneIn
import HandS.WordsList
import HandS.Deep
import HandS.Exc
import HandS.ExcOwn
import HandS.WordsExc
import HandS.ExcInit
import HandS.ExcIs
import KE.KExcIs
import KE.KExcInit
import KE.KTryMore
import HandS.SortRule
import HandS.SortInts
import HandS.Strs
import HandS.Wide
import HandS.DictComp
import HandS.SetFor
import HandS.TupSets
import HandS.SortOrd
import KE.SortData
import KE.DataCmp
import KE.KDictSum
import HandS.TupLen
import HandS.DictTup
import HandS.Small
import HandS.TryOnly
import KE.KMinBuiltin
import HandS.SortKw
import KE.KDictZip
import KE.GoesEnum
import KE.KDictDisplayH
import KE.DataFind
import PySem.Challenge.RW_partnercall_k34_whole_words_turned_about
set_option Elab.async false
set_option linter.all false
set_option maxRecDepth 100000
set_option maxHeartbeats 4000000
namespace RZ
end RZ
namespace Pc
open PySem PySem.Spec PyProof.Rows L2 RZ
/-! ### heaps -/
/-- all that was tracked, but for b, is as it was -/
def Keep (b : Addr) (H H' : Hp) : Prop := ∀ a o, a ≠ b → H a = some o → H' a = some o
theorem Keep.refl (b : Addr) (H : Hp) : Keep b H H := fun _ _ _ h => h
theorem Keep.trans {b : Addr} {H H1 H2 : Hp} (p : Keep b H H1) (q : Keep b H1 H2) : Keep b H H2 := fun a o n h => q a o n (p a o n h)
theorem Keep.of_same {b : Addr} {H H' : Hp} (s : Same H H') : Keep b H H' := fun a o _ h => s a o h
theorem same_new {H : Hp} {p : Addr} {o : HO} (h : H p = none) : Same H (upd H p o) := fun b x e => by
  rw [upd_ne (ne_of_none e h)]; exact e
theorem keep_upd {H : Hp} {b : Addr} {o : HO} : Keep b H (upd H b o) := fun a x n e => by
  rw [upd_ne n]; exact e
/-- a list, a tuple under Keep -/
theorem Keep.tup {b : Addr} {H H' : Hp} (k : Keep b H H') {a : Addr} {xs ys : List V} (hb : H b = some (.lst ys)) (h : H a = some (.tup xs)) : H' a = some (.tup xs) :=
  k a _ (fun e => by rw [e, hb] at h; cases h) h
/-! ### small numbers -/
theorem one0 (c : Prop) [Decidable c] : (0 : Int) ≤ (if c then 1 else 0) ∧ (if c then (1 : Int) else 0) ≤ 1 := by
  split <;> decide
theorem in64 {i : Int} (h : 0 ≤ i ∧ i ≤ 1) : -(2 ^ 64) < i ∧ i < 2 ^ 64 := ⟨by omega, by omega⟩
/-! ### the source of draws -/
/-- at b a source that serves n more draws -/
def Box (n : Nat) (H : Hp) (b : Addr) : Prop := ∃ x y z : Int, H b = some (.lst [.int x, .int y, .int z]) ∧ 0 ≤ x ∧ 0 ≤ y ∧ y < 2 ^ 62 ∧ 0 ≤ z ∧ z + n ≤ 1000000000
theorem Box.lst {n : Nat} {H : Hp} {b : Addr} (h : Box n H b) : ∃ ys, H b = some (.lst ys) := let ⟨_, _, _, e, _⟩ := h; ⟨_, e⟩
theorem Box.mono {n m : Nat} {H : Hp} {b : Addr} (h : Box n H b) (l : m ≤ n) : Box m H b := by
  obtain ⟨x, y, z, e, h1, h2, h3, h4, h5⟩ := h
  exact ⟨x, y, z, e, h1, h2, h3, h4, by omega⟩
theorem Box.same {n : Nat} {H H' : Hp} {b : Addr} (h : Box n H b) (s : Same H H') : Box n H' b := by
  obtain ⟨x, y, z, e, r⟩ := h
  exact ⟨x, y, z, s _ _ e, r⟩
theorem Box.keep {n : Nat} {H H' : Hp} {b c : Addr} (h : Box n H b) (k : Keep c H H') (d : b ≠ c) : Box n H' b := by
  obtain ⟨x, y, z, e, r⟩ := h
  exact ⟨x, y, z, k _ _ d e, r⟩
theorem Box.ne_new {n : Nat} {H : Hp} {b p : Addr} (h : Box n H b) (np : H p = none) : b ≠ p := by
  obtain ⟨x, y, z, e, r⟩ := h
  exact ne_of_none e np
theorem Box.ne_tup {n : Nat} {H : Hp} {b p : Addr} {xs : List V} (h : Box n H b) (e2 : H p = some (.tup xs)) : p ≠ b := by
  obtain ⟨x, y, z, e, r⟩ := h
  intro q; rw [q, e] at e2; cases e2
end Pc
namespace Pc
open PySem PySem.Spec PyProof.Rows L2 RZ
/-! ### errors of the program: made -/
section
open PySem.W Builtin Builtin.ObjectAttr
variable {prog : Program} {w : World} {A : Around} {R : Result → Shared → Prop} {hp : Heap} {g : Array GenState} {d : Drawn} {t : Nat} {os : OsState} {B : String} {bmB : List Value}
/-- the first field of an error that has no dict yet -/
theorem osa_first {K : Frag} {f : Str} {tk : Tok} {v : Value} {x C : Addr} {fv : Array Value} {cd : ClassData} (SF : StoreFacts B bmB "object.__setattr__" "object") (X : K.In hp)
    (hx : hp.get? x = some { cls := .ref C, data := .fields fv }) (hcd : clsIn K C = some cd) (ho : excOver K C bmB = true) (hh : cd.hasDict = true) (hf : takerIn K C f = some none)
    (hq : ∀ h' tk' dx, (∀ b o, b ≠ x → hp.get? b = some o → h'.get? b = some o) → hp.objs.size ≤ dx → dx ≠ x →
      h'.get? x = some { cls := .ref C, dict := some dx, data := .fields fv } → h'.Ns1 dx (fun y => if y = f then some v else none) → R (.ok (.ret .none)) ⟨h', g, d, tk', os⟩) :
    codeAny (model prog w) A (.call (.builtin "object.__setattr__") ⟨[.ref x, .str f tk, v], []⟩) R ⟨hp, g, d, t, os⟩ := by
  have hne : x ≠ hp.objs.size := fun e => absurd (Heap.lt_size hx) (by rw [← e]; exact Nat.lt_irrefl x)
  have LC : Looks (model prog w) hp (classData C) cd := looks_clsIn X hcd
  refine osa_openX (s := ⟨hp, g, d, t, os⟩) (od := none) SF X ⟨hx, rfl, rfl, trivial⟩ ho hf fun b => ?_
  obtain ⟨c1, c2, c3, c4, c5, c6, c7, c8, c9, c10, c11⟩ := cd
  dsimp only at hh; subst hh
  dsimp only
  unfold storeInOwnDict ownDictForStores
  repeat (first | with_reducible refine HandSPX.store_in_new ?_ ?_ | with_reducible refine wpAny_loadPart_at hx ?_ | with_reducible refine LC.at ?_ | wp_step)
  · exact ⟨_, #[], _, (Heap.get?_update_ne _ _ _ _ hne.symm).trans (Heap.get?_push_at rfl rfl), rfl, fun e he => absurd he (by simp), fun _ => rfl⟩
  · intro h' tk' n1 n2
    refine hq h' tk' hp.objs.size (fun b o q r => ?_) (Nat.le_refl _) hne.symm ?_ n1
    · exact (n2.2 b (Nat.ne_of_lt (Heap.lt_size r))).trans ((Heap.get?_update_ne _ _ _ _ q).trans (Heap.get?_push_of_some _ r))
    · exact (n2.2 x hne).trans (Heap.get?_update_self _ (Heap.get?_push_of_some _ hx) rfl)
end
/-- what is known of a built-in error class -/
structure Bs (B newId initId : String) (bmB : List Value) : Prop where
  fb : ExcBaseFacts B newId initId bmB
  sf : StoreFacts B bmB "object.__setattr__" "object"
theorem bsV : Bs "ValueError" "ValueError.__new__" "ValueError.__init__" [.type "ValueError", .type "Exception", .type "BaseException", .type "object"] := ⟨F.excBase_ValueError, F.store_ValueError⟩
theorem bsL : Bs "LookupError" "LookupError.__new__" "LookupError.__init__" [.type "LookupError", .type "Exception", .type "BaseException", .type "object"] := ⟨F.excBase_LookupError, F.store_LookupError⟩
theorem bsR : Bs "RuntimeError" "RuntimeError.__new__" "RuntimeError.__init__" [.type "RuntimeError", .type "Exception", .type "BaseException", .type "object"] := ⟨F.excBase_RuntimeError, F.store_RuntimeError⟩
theorem bsO : Bs "OverflowError" "OverflowError.__new__" "OverflowError.__init__" [.type "OverflowError", .type "ArithmeticError", .type "Exception", .type "BaseException", .type "object"] := ⟨F.excBase_OverflowError, F.store_OverflowError⟩
/-- an error class of the program, straight over a built-in one -/
structure Own (K : PySem.W.Frag) (newId : String) (bmB : List Value) (C : Addr) : Prop where
  cls : ∃ nm q N bs sn sub ab col dd k0 k1 k2 k3 k5, K.lookup C = some (excClassObj nm q C N bs bmB true sn sub ab col dd k0 k1 k2 k3 k5 newId)
  over : PySem.W.excOver K C bmB = true
  sa : PySem.W.findIn K (.ref C) "__setattr__" = some (some (.builtin "object.__setattr__"))
  ga : PySem.W.findIn K (.ref C) "__getattribute__" = some (some (.builtin "BaseException.__getattribute__"))
  gg : PySem.W.findIn K (.ref C) "__getattr__" = some none
  exC : PySem.W.subIn K (.ref C) (.type "BaseException") = some true
  tyC : PySem.W.typeIn K (.ref C) = some (.type "type")
  kC : PySem.W.keepIn K (.ref C) = true
  hdC : PySem.W.hasDictIn K C = true
  clC : PySem.W.findIn K (.ref C) "__class__" = some (some (.builtin "object.__class__"))
  mrO : PySem.W.mroIn K C (.type "object") = some true
theorem Own.data {K : PySem.W.Frag} {newId : String} {bmB : List Value} {C : Addr} (T : Own K newId bmB C) : ∃ cd, PySem.W.clsIn K C = some cd ∧ cd.hasDict = true := by
  obtain ⟨nm, q, N, bs, sn, sub, ab, col, dd, k0, k1, k2, k3, k5, e⟩ := T.cls
  refine ⟨{ name := nm, bases := bs, mro := .ref C :: bmB, ns := N, qualname := q, hasDict := true, slotNames := sn, subclasses := sub, abstract := ab, collection := col, hasDel := false }, ?_, rfl⟩
  unfold PySem.W.clsIn
  rw [e] <;> rfl
theorem taker_of {K : PySem.W.Frag} {C : Addr} {f : Str} (h : PySem.W.findIn K (.ref C) f = some none) : PySem.W.takerIn K C f = some none := by
  unfold PySem.W.takerIn
  rw [h]; rfl
section
variable {X : Cx} {pins : List (Addr × Obj)} {σ : L2.St} {H H1 H2 : Hp} {s : Shared} {a C dx : Addr} {f : Str} {newId initId B : String} {bmB : List Value}
/-- an object that stands in the heap, untracked and not of the entry, is tracked from now on -/
theorem adopt {o : HO} (I : Inv X pins σ H s) (hn : H a = none) (n0 : X.s_0.heap.get? a = none) (nL : a ≠ X.env.locals) (nC : ∀ x c, X.env.cells.lookup x = some c → c ≠ a) (nP : ∀ p ∈ X.pn ++ pins, p.1 ≠ a)
    (new : ObjOk X.prog X.w (upd H a o) s.heap a o) : Inv X pins σ (upd H a o) s := by
  have up : ∀ {b : Addr} {u : HO}, H b = some u → upd H a o b = some u := fun {b u} e => by rw [upd_ne (ne_of_none e hn)]; exact e
  refine ⟨I.ok, I.os, I.bare, ⟨I.base.keep, I.base.slot, fun b q e n x => ?_, I.base.there, fun b xs e => up (I.base.tups b xs e), fun b q u e => up (I.base.frzs b q u e), fun b ps e => ?_⟩, I.loc, I.cell, ?_, fun x c e => ?_, fun p hp => ?_, fun b u e => ?_, I.len⟩
  · rw [upd_ne (fun z => by rw [z, n0] at e; cases e)]
    exact I.base.free b q e n x
  · obtain ⟨m, z⟩ := I.base.tbls b ps e
    exact ⟨m, up z⟩
  · rw [upd_ne (Ne.symm nL)]; exact I.free
  · rw [upd_ne (nC x c e)]; exact I.freeC x c e
  · obtain ⟨e, n, r⟩ := I.pin p hp
    exact ⟨e, by rw [upd_ne (nP p hp)]; exact n, r⟩
  · by_cases hb : b = a
    · subst hb
      rw [upd_same] at e; cases e
      exact new
    · rw [upd_ne hb] at e
      exact (I.hok b u e).stay (fun _ _ _ z => z) (fun c z => up z) (fun c xs z => up z)
theorem low_ne {n : Nat} {b a : Addr} (h : b < n) (h' : n ≤ a) : b ≠ a := Nat.ne_of_lt (Nat.lt_of_lt_of_le h h')
theorem get_lt_size {h : Heap} {b : Addr} {o : Obj} (e : h.get? b = some o) : b < h.objs.size := Heap.lt_size e
/-- self.f = y -/
theorem ost_one {y : V} {u : Value} {Q : Unit → Shared → Prop} {E : Value → Shared → Prop} {A : Around} (T : Own X.K newId bmB C) (SF : StoreFacts B bmB "object.__setattr__" "object") (I : Inv X pins σ H s) (e : H a = some (exo a C none)) (hno : PySem.W.findIn X.K (.ref C) f = some none) (ry : RelV y u)
    (h : ∀ dx s', H dx = none → dx ≠ a → Inv X pins σ (upd (upd H a (exo a C (some dx))) dx (exd dx [(f, y)])) s' → Q () s') : wpAny (model X.prog X.w) A (setAttr (.ref a) f u) Q E s := by
  obtain ⟨cd, hcd, hh⟩ := T.data
  obtain ⟨t1, ho⟩ := exo_at I.hok e
  obtain ⟨hp, g, d, t, os⟩ := s
  refine PySem.W.set_plain I.kIn (ox := { cls := .ref C, dict := none, data := .fields #[.ref t1, .none, .none, .none, .bool false, .none] }) (od := none) ⟨ho, rfl, rfl, trivial⟩ T.sa ?_
  refine osa_first SF I.kIn ho hcd T.over hh (taker_of hno) fun h' tk' dx k dn dne hx hns => ?_
  have hnd : H dx = none := I.hok.fresh dn
  have J := I.write (t' := tk') (x := a) (e := a) (o := exo a C (some dx)) (by rw [e]; exact True.intro) (.inl rfl) k ⟨_, hx⟩ (exo_ok hx)
  refine h dx _ hnd dne (adopt J (by rw [upd_ne dne]; exact hnd) ?_ ?_ ?_ ?_ (exd_ok hns (relO_put (fs := []) ry fun _ => True.intro)))
  · cases z : X.s_0.heap.get? dx with
    | none => rfl
    | some o => exact absurd rfl (low_ne (Nat.lt_of_lt_of_le (Heap.lt_size z) I.sz) dn)
  · exact Ne.symm (low_ne I.lt dn)
  · intro x c ec
    obtain ⟨v, ob, eo, _⟩ := I.cell x c ec
    exact low_ne (Heap.lt_size eo) dn
  · intro p hp'
    exact low_ne (Heap.lt_size (I.pin p hp').1) dn
/-- B.__init__(self, ..) -/
theorem oinit_any {us : List Value} {Q : Value → Shared → Prop} {E : Value → Shared → Prop} {A : Around} (T : Own X.K newId bmB C) (F : ExcBaseFacts B newId initId bmB) (I : Inv X pins σ H s) (e : H a = some (exo a C none)) (hl : us.length ≤ sizeLine) (h : ∀ s', Inv X pins σ H s' → Q .none s') :
    wpAny (model X.prog X.w) A (call (.builtin initId) (.ref a :: us)) Q E s := by
  obtain ⟨nm, q, N, bs, sn, sub, ab, col, dd, k0, k1, k2, k3, k5, hC⟩ := T.cls
  obtain ⟨t1, ho⟩ := exo_at I.hok e
  obtain ⟨hp, g, d, t, os⟩ := s
  refine wpAny_call (HandSPX.init_base F (fun _ => rfl) (I.kIn _ _ hC) ho hl fun h' t2 k hx => ?_)
  have J := I.write (t' := t) (x := a) (e := a) (o := exo a C none) (by rw [e]; exact True.intro) (.inl rfl) k ⟨_, hx⟩ (exo_ok hx)
  have eu : upd H a (exo a C none) = H := by
    funext b
    unfold upd
    split
    · rename_i z; rw [z, e]
    · rfl
  rw [eu] at J
  exact h _ J
def tBi (K : PySem.W.Frag) (newId : String) (bmB : List Value) (ta : TA) : TE := fun σ H Q => ta σ H fun vs H1 => ∃ (a C : Addr) (ws : List V), vs = .ref a :: ws ∧ ws.length ≤ 1000 ∧ Own K newId bmB C ∧ H1 a = some (exo a C none) ∧ Q .non H1
def tOs (K : PySem.W.Frag) (newId : String) (bmB : List Value) (f : Str) (to te : TE) : TS := fun D σ H => te σ H fun y H1 => to σ H1 fun x H2 => ∃ a C : Addr, x = .ref a ∧ Own K newId bmB C ∧ PySem.W.findIn K (.ref C) f = some none ∧ H2 a = some (exo a C none) ∧
  ∀ dx, H2 dx = none → dx ≠ a → D.nx σ (upd (upd H2 a (exo a C (some dx))) dx (exd dx [(f, y)]))
theorem pe_binit {n : Str} {o e : Expr} {es : List Expr} {ta : TA} {p1 p2 pos : Pos} {pl : Sem Bool} (F : ExcBaseFacts B newId initId bmB) (hg : Gl X n) (hm : X.mg n = none) (hv : bootBuiltins n = some (.type B)) (hn : n ≠ "__name__") (hdb : (n == ("__debug__" : Str)) = false)
    (hty : typeOf (.type B) = pure (.type "type")) (hst : Manifest.isStub B = false) (hha : PySem.W.handedIn (.builtin initId) = true) (vV : PySem.W.findCls X.K (.type B) (.type "type") "__init__" = some (.val (.builtin initId))) (ha : PA X (e :: es) ta)
    (hc : eval (.Call (.Attribute (.Name n p1) "__init__" p2) (e :: es) [] pos) X.env = (do
      let ov ← eval (.Name n p1) X.env
      standAt p2.atName
      let (f, first) ← holding [ov] (getMethod ov "__init__" pl)
      callWith pos f first (backTo pos (starEach (e :: es) X.env)) (backToKw pos (keywordEach [] X.env))) := by rfl)
    (he : starEach (e :: es) X.env = (false, eval e X.env) :: starEach es X.env := by rfl) (hpl : (backTo pos (starEach es X.env)).any (·.1) = false := by rfl) :
    PE X (.Call (.Attribute (.Name n p1) "__init__" p2) (e :: es) [] pos) (tBi X.K newId bmB ta) := by
  refine ⟨fun pins s σ H Q I h => PySem.W.methodCall_KW (ld_blt I hg hm hv ?_ hn hdb) hc⟩
  obtain ⟨m, fr⟩ := I.fr
  refine PySem.W.method_type fr I.ok.mod.kin hty hst vV hha ?_
  show wpAny _ _ (callWith pos (Value.builtin initId) [] (backTo pos (starEach (e :: es) X.env)) []) _ _ _
  refine PyProof.Rows.callWith_method1 (thn (ha.run pos pins _ σ H _ (I.tok _) h) fun us s1 ⟨vs, H1, I1, r1, a, C, ws, ev, hl, T, ea, q⟩ => ?_) he hpl
  subst ev
  cases r1 with
  | @cons _ u0 _ ur ra rr =>
    obtain rfl : u0 = Value.ref a := ra
    exact oinit_any T F I1 ea (by rw [← Paired.length rr, sizeLine_eq]; omega) fun s' J => ⟨.non, H1, J, rfl, q⟩
theorem ps_os {o e : Expr} {to te : TE} {p' pos : Pos} (SF : StoreFacts B bmB "object.__setattr__" "object") (ho : PE X o to) (he : PE X e te) (hs : swapsWith e (some (.Attribute o f p')) pos.line X.env = pure false := by rfl) : PS X (.Assign [.Attribute o f p'] e pos) (tOs X.K newId bmB f to te) := by
  refine ⟨fun pins s σ H D I h => plainObj_wpAny_Assign_Attribute (thn (he.run pins s σ H _ I h) fun v s1 ⟨y, H1, I1, r1, q1⟩ => thn (ho.run pins s1 σ H1 _ I1 q1) fun u s2 ⟨x, H2, I2, r2, a, C, ex, T, hno, ea, q⟩ => ?_) hs⟩
  subst ex
  obtain rfl : u = Value.ref a := r2
  exact ost_one T SF I2 ea hno r1 fun dx s' n ne J => ⟨σ, _, J, q dx n ne⟩
/-- the new error is let go: the heap without it -/
theorem mk_gone {hp hp2 h2 : Heap} {g1 g2 : Array GenState} {d1 d2 : Drawn} {t1 t2 : Nat} {os1 os2 : OsState} {dv : Option Addr} (I1 : Inv X pins σ H1 ⟨hp, g1, d1, t1, os1⟩)
    (ha : hp.objs.size ≤ a) (k : ∀ b o, hp.get? b = some o → hp2.get? b = some o) (un : Un (frs X.stack) [] (upd H1 a (exo a C none)) H2 hp2 h2) (hok : HOk X.prog X.w H2 h2) (ho : os2 = os1) (hb : AllBare g2) (ea : H2 a = some (exo a C dv)) :
    ∃ (t0 : Addr) (G : Heap), Inv X pins σ (del H2 a) ⟨G, g2, d2, t2, os2⟩ ∧ (∀ b o, G.get? b = some o → h2.get? b = some o) ∧ G.get? a = none ∧
      h2.get? a = some ({ cls := .ref C, dict := dv, data := .fields #[.ref t0, .none, .none, .none, .bool false, .none] } : Obj) := by
  obtain ⟨t0, hoe⟩ := exo_at hok ea
  have hn : H1 a = none := I1.hok.fresh ha
  obtain ⟨G, g1', g2'⟩ := restrict h2 fun b => decide (b ≠ a)
  have gk : ∀ b, b ≠ a → G.get? b = h2.get? b := fun b q => g1' b (decide_eq_true q)
  have ga : G.get? a = none := g2' a (decide_eq_false (fun z => z rfl))
  have na : ∀ {b : Addr} {o : Obj}, hp.get? b = some o → b ≠ a := fun q => low_ne (Heap.lt_size q) ha
  have up : ∀ {b : Addr}, b ≠ a → H1 b = none → upd H1 a (exo a C none) b = none := fun q n => by rw [upd_ne q]; exact n
  have tr : ∀ {b : Addr} {u : HO}, H1 b = some u → upd H1 a (exo a C none) b = some u ∧ b ≠ a := fun q => ⟨by rw [upd_ne (ne_of_none q hn)]; exact q, ne_of_none q hn⟩
  have U : Un (frs X.stack) [] H1 (del H2 a) hp G := {
    keep := fun b o z n hf hx => by rw [gk b (na z)]; exact un.keep b o (k b o z) (up (na z) n) hf hx
    slot := fun b o z n hf hx => by rw [gk b (na z)]; exact un.slot b o (k b o z) (up (na z) n) hf hx
    free := fun b o z n hx => by rw [del_ne (na z)]; exact un.free b o (k b o z) (up (na z) n) hx
    there := fun b o z hx => by rw [gk b (na z)]; exact un.there b o (k b o z) hx
    tups := fun b xs z => by rw [del_ne (tr z).2]; exact un.tups b xs (tr z).1
    frzs := fun b o v z => by rw [del_ne (tr z).2]; exact un.frzs b o v (tr z).1
    tbls := fun b ps z => by rw [del_ne (tr z).2]; exact un.tbls b ps (tr z).1 }
  have hok3 : HOk X.prog X.w (del H2 a) G := fun b o z => by
    have hba : b ≠ a := fun e => by rw [e, del_same] at z; cases z
    rw [del_ne hba] at z
    have noa : ∀ {c : Addr}, H2 c = some (.own b) → c ≠ a := fun hc => at_ne ea hc exo_own
    refine (hok b o z).stay (fun c v hc y => ?_) (fun c hc => by rw [del_ne (noa hc)]; exact hc) (fun c xs hc => by rw [del_ne (at_ne ea hc exo_tup)]; exact hc)
    have hca : c ≠ a := hc.elim (fun q => by rw [q]; exact hba) noa
    rw [gk c hca]; exact y
  have J : Inv X pins σ (del H2 a) ⟨G, g2, d2, t2, os2⟩ := I1.call' (ch := []) ho U hok3 hb (fun b z => absurd z (by simp))
  refine ⟨t0, G, J, fun b o z => ?_, ga, hoe⟩
  by_cases hba : b = a
  · rw [hba, ga] at z; cases z
  · exact (gk b hba).symm.trans z
/-- C(e, ..), C's own __init__ keeping sp -/
def tMkE (C : Addr) (sp : Sp) (ta : TA) : L2.St → Hp → XK → Prop := fun σ H Q => ta σ H fun vs H1 => vs.length ≤ 1000 ∧ ∀ a, H1 a = none → sp (.ref a :: vs) (upd H1 a (exo a C none))
  (fun v H2 => v = .non ∧ ((H2 a = some (exo a C none) ∧ Q (.ref C) none (del H2 a)) ∨ ∃ (d : Addr) (fs : List (Str × V)), H2 a = some (exo a C (some d)) ∧ H2 d = some (exd d fs) ∧ Q (.ref C) (some d) (upd (del H2 a) d (.xd fs)))) (fun _ _ _ => False)
/-- what such a call leaves -/
theorem made_run {vs : List V} {us : List Value} {fI : Addr} {k : Nat} {fd : FuncData} {ps : List Str} {sp : Sp} {Q : XK} {CX : CXT} (T : Own X.K newId bmB C) (F : ExcBaseFacts B newId initId bmB) (iC : PySem.W.findIn X.K (.ref C) "__init__" = some (some (.ref fI))) (tI : PySem.W.typeIn X.K (.ref fI) = some (.type "function"))
    (F1 : FnOk X.prog X.w X.K X.mg X.base CX k fI fd ps sp) (hr : Room (k + 1) X.A) (hb : Binds X.K fd ps []) (hx : Passes CX X (fun _ _ _ => False)) (I1 : Inv X pins σ H1 s) (r1 : Vals vs us) (hz : vs.length ≤ 1000)
    (q1 : ∀ a, H1 a = none → sp (.ref a :: vs) (upd H1 a (exo a C none)) (fun v H2 => v = .non ∧ ((H2 a = some (exo a C none) ∧ Q (.ref C) none (del H2 a)) ∨ ∃ (d : Addr) (fs : List (Str × V)), H2 a = some (exo a C (some d)) ∧ H2 d = some (exd d fs) ∧ Q (.ref C) (some d) (upd (del H2 a) d (.xd fs)))) (fun _ _ _ => False)) :
    wpAny (model X.prog X.w) X.A (call (.ref C) us) (MkP X pins σ Q) X.xe s := by
  obtain ⟨nm, q, N, bs, sn, sub, ab, col, dd, k0, k1, k2, k3, k5, hC⟩ := T.cls
  obtain ⟨hp, g, dr, tk, os⟩ := s
  have hsz : hp.objs.size ≤ hp.objs.size + 1 := Nat.le_succ _
  have hq := q1 (hp.objs.size + 1) (I1.hok.fresh hsz)
  obtain ⟨hp2, ehp⟩ : ∃ hp2, hp2 = (hp.push (PySem.W.kdv_tup us)).push (HandSPX.excO C hp.objs.size) := ⟨_, rfl⟩
  have kk : ∀ b o, hp.get? b = some o → hp2.get? b = some o := fun b o e => by rw [ehp]; exact Heap.get?_push_of_some _ (Heap.get?_push_of_some _ e)
  have hget : hp2.get? (hp.objs.size + 1) = some (HandSPX.excO C hp.objs.size) := by rw [ehp]; heap_get
  have I2 : Inv X pins σ (upd H1 (hp.objs.size + 1) (exo (hp.objs.size + 1) C none)) ⟨hp2, g, dr, tk, os⟩ := I1.laid (t' := tk) kk hsz (exo_ok hget)
  have r2 : Vals (V.ref (hp.objs.size + 1) :: vs) (Value.ref (hp.objs.size + 1) :: us) := .cons rfl r1
  have hl : (Value.ref (hp.objs.size + 1) :: us ++ []).length = ps.length := by
    rw [List.append_nil, ← r2.length]; exact F1.len _ _ _ _ hq
  have hus : us.length ≤ sizeLine := by rw [← Paired.length r1, sizeLine_eq]; omega
  refine wpAny_call (HandSPX.call_own F (fun _ => rfl) (I1.kIn _ _ hC) (PySem.W.looks_findIn I1.kIn iC) (fun self => PySem.W.bind_fn I1.kIn self tI) hus ?_)
  rw [← ehp]
  refine codeAny_mono (F1.run _ X.stack _ _ ⟨Value.ref (hp.objs.size + 1) :: us, []⟩ (Value.ref (hp.objs.size + 1) :: us) _ _ (fun _ _ _ => False) (hr.make C us []) (I2.env0.make C us []) ?_ r2 hq) fun r s' hq' => ?_
  · have z := hb ⟨hp2, g, dr, tk, os⟩ (Value.ref (hp.objs.size + 1) :: us) I2.kIn hl
    rw [List.append_nil] at z; exact z
  cases r with
  | error er => exact hx pins σ _ _ er s' I2 hq'
  | ok fl =>
    cases fl with
    | ret u =>
      obtain ⟨v, H2, os2, bare2, un2, hok2, rv, ev, alt⟩ := hq'
      subst ev
      obtain ⟨h2, g2, d2, t2, os'⟩ := s'
      refine ⟨rv, ?_⟩
      rcases alt with ⟨ea, q2⟩ | ⟨d, fs, ea, ed, q2⟩
      · obtain ⟨t0, G, J, kG, ge, hoe⟩ := mk_gone (d2 := d2) (t2 := t2) I1 hsz kk un2 hok2 os2 bare2 ea
        exact ⟨_, _, _, ⟨G, g2, d2, t2, os'⟩, _, .ref C, none, rfl, J, kG, ge, hoe, ⟨rfl, rfl⟩, rfl, rfl, del_same, rfl, bare2, raises_own T.exC T.tyC, q2⟩
      · obtain ⟨t0, G, J, kG, ge, hoe⟩ := mk_gone (d2 := d2) (t2 := t2) I1 hsz kk un2 hok2 os2 bare2 ea
        have hda : d ≠ hp.objs.size + 1 := fun z => by
          rw [z] at ed
          obtain ⟨mA, ⟨ob, es, ep, e1, e2, _⟩, _⟩ := exd_at hok2 ed
          rw [hoe] at e1
          have z2 := Option.some.inj e1
          subst z2
          cases e2
        have ed' : del H2 (hp.objs.size + 1) d = some (exd d fs) := by rw [del_ne hda]; exact ed
        obtain ⟨mA, ns, rel⟩ := exd_at J.hok ed'
        have J2 := J.write (t' := t2) (h' := G) (x := d) (e := d) (o := .xd fs) (by rw [ed']; exact True.intro) (.inl rfl) (fun _ _ _ z => z) (by obtain ⟨ob, _, _, e1, _⟩ := ns; exact ⟨ob, e1⟩) ⟨mA, ns, rel⟩
        exact ⟨_, _, _, ⟨G, g2, d2, t2, os'⟩, _, .ref C, some d, rfl, J2, kG, ge, hoe, ⟨rfl, rfl⟩, rfl, rfl, by rw [upd_ne (Ne.symm hda)]; exact del_same, rfl, bare2, raises_own T.exC T.tyC, q2⟩
    | next => exact False.elim hq'
    | brk => exact False.elim hq'
    | cont => exact False.elim hq'
theorem pmk_e {x : Str} {fI : Addr} {k : Nat} {fd : FuncData} {ps : List Str} {sp : Sp} {CX : CXT} {e : Expr} {es : List Expr} {ta : TA} {p pos : Pos} (T : Own X.K newId bmB C) (F : ExcBaseFacts B newId initId bmB) (iC : PySem.W.findIn X.K (.ref C) "__init__" = some (some (.ref fI))) (tI : PySem.W.typeIn X.K (.ref fI) = some (.type "function"))
    (F1 : FnOk X.prog X.w X.K X.mg X.base CX k fI fd ps sp) (hr : Room (k + 1) X.A) (hb : Binds X.K fd ps []) (hx : Passes CX X (fun _ _ _ => False)) (hg : Gl X x) (hm : X.mg x = some (.ref C)) (ha : PA X (e :: es) ta)
    (hdb : (x == ("__debug__" : Str)) = false := by decide) (he : starEach (e :: es) X.env = (false, eval e X.env) :: starEach es X.env := by rfl) (hpl : (backTo pos (starEach es X.env)).any (·.1) = false := by rfl) :
    PMk X (.Call (.Name x p) (e :: es) [] pos) (tMkE C sp ta) := by
  intro pins s σ H Q I h
  refine wpAny_Call_Name_kw (ld_glob I hg hm ?_ hdb)
  exact PySem.W.callWith_K (h₀ := X.base) I.ok.mod.kin T.kC (thn (ha.run pos pins s σ H _ I h) fun us s1 ⟨vs, H1, I1, r1, hz, q1⟩ => ⟨I1.kIn, made_run T F iC tI F1 hr hb hx I1 r1 hz q1⟩) he hpl
end
end Pc
namespace Pc
open PySem PySem.Spec PyProof.Rows L2 RZ
/-! ### errors of the program: caught, kept, looked at -/
section
open PySem.W
variable {M : Model} {K : Frag} {h : Heap}
theorem Looks.bind' {α β : Type} {x : Sem α} {f : α → Sem β} {a : α} {b : β} (hx : Looks M h x a) (hf : Looks M h (f a) b) : Looks M h (x >>= f) b := fun A Q E s k q =>
  wpAny_bind (hx A _ E s k (hf A Q E s k q))
theorem loop_all {α β : Type} {f : α → β → Sem (ForInStep β)} {b : β} : ∀ cs : List α, (∀ c ∈ cs, Looks M h (f c b) (.yield b)) → Looks M h (forIn cs b f) b
  | [], _ => by rw [List.forIn_nil]; exact .now
  | c :: cs, hc => by
    rw [List.forIn_cons]
    exact Looks.bind' (hc c List.mem_cons_self) (loop_all cs fun c' h' => hc c' (List.mem_cons_of_mem _ h'))
theorem loop_any {α β : Type} {f : α → β → Sem (ForInStep β)} {b b1 : β} : ∀ (bs : List Bool) (cs : List α), bs.length = cs.length → bs.any id = true → (∀ (i : Nat) (c : α) (y : Bool), cs[i]? = some c → bs[i]? = some y → Looks M h (f c b) (if y = true then .done b1 else .yield b)) → Looks M h (forIn cs b f) b1
  | [], [], _, e, _ => absurd e (by decide)
  | y :: bs, c :: cs, hl, e, hc => by
    rw [List.forIn_cons]
    have h0 := hc 0 c y rfl rfl
    cases y with
    | true => exact Looks.bind' h0 .now
    | false => exact Looks.bind' h0 (loop_any bs cs (Nat.succ.inj hl) e fun i c' y' h1 h2 => hc (i + 1) c' y' h1 h2)
/-- an except clause with several classes, of which one is the error's -/
theorem exm_some {cls : Value} {cs : List Value} {tp e : Addr} {o : Obj} {n : Nat} (X : K.In h) (LT : Looks M h (typeOf (.ref e)) cls) (hp : h.get? tp = some o) (hc : o.cls = .type "tuple") (hd : o.data = .seq cs.toArray n) (bs : List Bool) (hl : bs.length = cs.length) (hb : bs.any id = true)
    (hx : ∀ (i : Nat) (c : Value) (y : Bool), cs[i]? = some c → bs[i]? = some y → exmOne K cls c = some y) : Looks M h (excMatches (.ref e) (.ref tp)) true := by
  have at_ : ∀ c ∈ cs, ∃ y, exmOne K cls c = some y := fun c hm => by
    obtain ⟨i, hi, rfl⟩ := List.getElem_of_mem hm
    exact ⟨bs[i]'(by omega), hx i _ _ (List.getElem?_eq_getElem hi) (List.getElem?_eq_getElem _)⟩
  have L0 : Looks M h (isInstance (.ref tp) (.type "tuple")) true := fun A Q E s k q => by
    refine wpAny_bind (wpAny_typeOf_ref (k _ _ hp) ?_)
    rw [hc]
    exact (Looks.of_pure isSubtype_tuple_tuple) A Q E s k q
  unfold excMatches
  refine Looks.bind' L0 ?_
  dsimp only
  rw [if_pos rfl]
  refine Looks.bind' (a := some cs.toArray) (fun A Q E s k q => wpAny_seqItems (k _ _ hp) hd q) ?_
  refine Looks.bind' (a := cs) .now ?_
  refine Looks.bind' (a := PUnit.unit) (loop_all cs fun c hm => ?_) ?_
  · obtain ⟨y, hy⟩ := at_ c hm
    refine Looks.bind' (exm_cls X hy).1 ?_
    exact .now
  refine Looks.bind' LT ?_
  refine Looks.bind' (loop_any (b1 := (some true, ())) bs cs hl hb fun i c y h1 h2 => Looks.bind' (exm_cls X (hx i c y h1 h2)).2 ?_) ?_
  · cases y <;> exact .now
  · exact .now
end
end Pc
namespace Pc
open PySem PySem.Spec PyProof.Rows L2 RZ
/-- an error that was caught and is kept: its class, its dict -/
def exk (a : Addr) (cls : Value) (d : Option Addr) : HO := .ext fun h => ∃ (oe : Obj) (vs : Array Value), h.get? a = some oe ∧ Zc cls d oe ∧ oe.data = .fields vs
theorem exk_ok {P : Program} {w : World} {H : Hp} {h : Heap} {a : Addr} {cls : Value} {d : Option Addr} {oe : Obj} {vs : Array Value} (e : h.get? a = some oe) (z : Zc cls d oe) (q : oe.data = .fields vs) : ObjOk P w H h a (exk a cls d) :=
  ⟨⟨oe, vs, e, z, q⟩, ⟨oe, e⟩, fun _ _ ⟨o, v, r, r'⟩ k => ⟨o, v, k o r, r'⟩⟩
theorem exk_at {P : Program} {w : World} {H : Hp} {h : Heap} {a : Addr} {cls : Value} {d : Option Addr} (hok : HOk P w H h) (e : H a = some (exk a cls d)) : ∃ (oe : Obj) (vs : Array Value), h.get? a = some oe ∧ Zc cls d oe ∧ oe.data = .fields vs := by
  have x : ObjOk P w H h a (.ext fun h => ∃ (oe : Obj) (vs : Array Value), h.get? a = some oe ∧ Zc cls d oe ∧ oe.data = .fields vs) := hok a _ e
  exact x.1
theorem fly_keeps {B h h' : Heap} {l : List PySem.Env} {e : Addr} {Z : Obj → Prop} (R : HandSPX.FlyingZ B l e Z h) (k : ∀ b o, h.get? b = some o → h'.get? b = some o) : HandSPX.FlyingZ B l e Z h' := by
  obtain ⟨f1, f2, f3, oe, ws, T, oT, ts, r1, r2, r3, r4, r5, r6, r7, r8⟩ := R
  exact ⟨fun b o q => k b o (f1 b o q), f2, f3.of_keeps fun b o q _ => ⟨o, k b o q, rfl⟩, oe, ws, T, oT, ts, k _ _ r1, r2, r3, r4, r5, r6, k _ _ r7, r8⟩
/-- names of classes, one by one -/
def NamesAll (X : Cx) (es : List Expr) (cs : List Value) : Prop := Paired (fun (e : Expr) c => ∃ (x : Str) (p : Pos), e = .Name x p ∧ Names X x c) es cs
theorem names_run {X : Cx} {pins : List (Addr × Obj)} {σ : L2.St} {H : Hp} {s : Shared} {E : Value → Shared → Prop} {pos : Pos} (I : Inv X pins σ H s) :
    ∀ {es : List Expr} {cs : List Value} {Q : List Value → Shared → Prop}, NamesAll X es cs → Q cs s → wpAny (model X.prog X.w) X.A (spliced (backTo pos (starEach es X.env))) Q E s := by
  intro es cs Q h
  revert Q
  induction h with
  | nil => intro Q q; exact wpAny_items_nil q
  | cons h1 _ ih =>
    intro Q q
    obtain ⟨x, p, rfl, hg, hdb, hm⟩ := h1
    refine wpAny_items_cons ?_
    rcases hm with hm | ⟨hm, hv, hn⟩
    · exact ld_glob I hg hm (ih q) hdb
    · exact ld_blt I hg hm hv (ih q) hn hdb
/-- of which classes the error is -/
def Hits (K : PySem.W.Frag) (cls : Value) (cs : List Value) : Prop := ∃ bs : List Bool, bs.length = cs.length ∧ bs.any id = true ∧ ∀ (i : Nat) (c : Value) (y : Bool), cs[i]? = some c → bs[i]? = some y → PySem.W.exmOne K cls c = some y
/-- what 'except (..) as n: suite' wishes of an error of the body (slot i is n's): the error is kept -/
def wKept (K : PySem.W.Frag) (cs : List Value) (i : Nat) (ts : Addr → TS) (D : Ends) : WX := fun cls d σ H => Hits K cls cs ∧ ∀ a, H a = none →
  ts a { nx := fun σ' H' => D.nx (σ'.set i none) (upd H' a (exk a cls d)), rt := fun _ _ => False } (σ.set i (some (.ref a))) H
section
variable {X : Cx} {n : Str} {i : Nat} {body suite : List Stmt} {b₀ : Stmt} {es : List Expr} {cs : List Value} {kk : Nat} {tpos pos pos' : Pos} {tb : WX → TS} {ts : Addr → TS}
theorem ps_try_kept (hex : X.ex = []) (hs : X.stack = X.env :: X.outer) (hf : X.env.frame = some X.env.locals) (hN : X.N.Nodup) (hi : X.N[i]? = some n) (hln : X.env.kindOf n = some .local) (hc : NamesAll X es cs) (hcl : cs.length ≤ 1000)
    (hb : ∀ (W : WX) (pn : List (Addr × Obj)) (xe : Value → Shared → Prop), Takes (X.tr pn xe) W → PassesOwn (model X.prog X.w) X.A X.env xe → PSs (X.tr pn xe) body (tb W))
    (hsu : ∀ (a : Addr) (oe : Obj) (pn : List (Addr × Obj)), PSs (X.suite a ((a, oe) :: pn)) (b₀ :: suite) (ts a)) :
    PS X (.Try body [.ExceptHandler (some (.Tuple es kk tpos)) (some n) (b₀ :: suite) pos'] [] [] pos) (fun D σ H => tb (wKept X.K cs i ts D) D σ H) := by
  refine ⟨fun pins s σ H D I h => ?_⟩
  have ok := I.ok
  have hfr : X.A.frames = some (X.env :: X.outer) := by rw [ok.frames, hs]
  refine wpAny_Try_except (wpAny_mono ((hb (wKept X.K cs i ts D) (X.pn ++ pins) (fun e s₁ => wpAny (model X.prog X.w) X.A (noteFrame e X.env) (fun _ s₂ => wpAny (model X.prog X.w) X.A (setFlight e none) (fun _ s₃ =>
    wpAny (model X.prog X.w) X.A (handleBy e X.env [.ExceptHandler (some (.Tuple es kk tpos)) (some n) (b₀ :: suite) pos']) (SP X pins D) X.xe s₃) X.xe s₂) X.xe s₁) (fun u s' xx => ?_) PassesOwn.looking).run [] s σ H D (I.toTry _) h) (fun f s1 hsp => ?_) (fun e s1 he => he))
  · obtain ⟨a, B, sI, pins', σ', H', cls, d, rfl, J', nb, up, sky, na, os, ag, ⟨bs, hbl, hba, hbx⟩, hyes⟩ := xx
    have J : Inv X pins σ' H' sI := J'.ofTry ok
    rw [hs] at sky
    show wpAny (model X.prog X.w) X.A (noteFrame (.ref a) X.env) _ _ _
    refine Sky.land Zc.steady hfr hf sky fun h3 fl3 up3 => ?_
    obtain ⟨oe3, vs3, he3, hz3, hd3⟩ := fl3.there
    have nfr : a ∉ frs (X.env :: X.outer) := fun hm => by
      obtain ⟨_, o', e', hnf⟩ := fl3.2.2.1.mem hm
      rw [he3] at e'; cases e'
      exact hnf _ hd3
    have nL : a ≠ X.env.locals := fun z => nfr (List.mem_filterMap.mpr ⟨X.env, List.mem_cons_self, by rw [hf, z]⟩)
    have nF : a ∉ X.fs := fun hm => by
      obtain ⟨e, he, q⟩ := List.mem_filterMap.mp hm
      exact nfr (List.mem_filterMap.mpr ⟨e, List.mem_cons_of_mem _ he, q⟩)
    have nI : sI.heap.get? a = none := by
      cases z : sI.heap.get? a with
      | none => rfl
      | some o =>
        have y := nb a o z (by rw [hs]; exact nfr)
        rw [fl3.2.1] at y; cases y
    have J3 : Inv X pins σ' H' { s' with heap := h3 } := J.landed nb fl3.1 (up.trans up3) os ag
    have S3 := J3.suite he3 hd3 na nL nF
    refine wpAny_handleBy_cons (codeAny_handlers_test (wpAny_Tuple_spliced (names_run (X := X.suite a ((a, oe3) :: (X.pn ++ pins))) (cs := cs) S3 (L2.Paired.mapP hc fun _ _ z => z) ⟨by rw [sizeLine_eq]; omega, ?_⟩))) (by intro q; cases q)
    dsimp only
    have kp : ∀ b o, h3.get? b = some o → (h3.push { cls := .type "tuple", data := .seq cs.toArray }).get? b = some o := fun _ _ z => Heap.get?_push_of_some _ z
    have LT : PySem.W.Looks (model X.prog X.w) (h3.push { cls := .type "tuple", data := .seq cs.toArray }) (typeOf (.ref a)) cls := fun A Q E s k q => wpAny_typeOf_ref (k _ _ (kp _ _ he3)) (by rw [hz3.1]; exact q)
    refine (exm_some (J3.kIn.keeps kp) LT (Heap.get?_push_size h3 rfl) rfl rfl bs hbl hba hbx).here ?_
    refine codeAny_handlers_suite_as (HandSPX.lands_againZ (fly_keeps fl3 kp) fun h4 fl4 up4 => ?_)
    have J4 : Inv X pins σ' H' { s' with heap := h4 } := J.landed nb fl4.1 (((up.trans up3).trans (Heap.UpToSlots.of_keeps kp)).trans up4) os ag
    obtain ⟨oe4, vs4, he4, hz4, hd4⟩ := fl4.there
    have S4 := J4.suite he4 hd4 na nL nF
    refine store_ok (X := X.suite a ((a, oe4) :: (X.pn ++ pins))) (v := .ref a) S4 hN hi (.inl hln) rfl (fun s5 S5 => ?_) (.inr hln)
    refine wpAny_mono ((hsu a oe4 (X.pn ++ pins)).run [] s5 _ H' _ S5 (hyes a na)) (fun f s6 hsp => ?_) (fun _ _ z => False.elim z)
    cases f with
    | next =>
      obtain ⟨σ6, H6, S6, q6⟩ := hsp
      refine gone_ok (X := X.suite a ((a, oe4) :: (X.pn ++ pins))) S6 hN hi hln fun s7 S7 => ⟨_, _, adopt (S7.unsuite ok) ?_ ?_ nL ?_ ?_ ?_, q6⟩
      · exact (S7.pin (a, oe4) (List.mem_append_left _ List.mem_cons_self)).2.1
      · cases z : X.s_0.heap.get? a with
        | none => rfl
        | some o =>
          obtain ⟨o', y⟩ := J.base.there a o z (by rw [hex]; exact fun q => nomatch q)
          rw [nI] at y; cases y
      · intro x c ec z
        obtain ⟨v, ob, eo, _⟩ := J.cell x c ec
        rw [z, nI] at eo; cases eo
      · intro p hp z
        have y := (J.pin p hp).1
        rw [z, nI] at y; cases y
      · exact exk_ok (S7.pin (a, oe4) (List.mem_append_left _ List.mem_cons_self)).1 hz4 hd4
    | brk => obtain ⟨σ6, H6, S6, q6⟩ := hsp; exact q6.elim
    | cont => obtain ⟨σ6, H6, S6, q6⟩ := hsp; exact q6.elim
    | ret u => obtain ⟨v6, σ6, H6, S6, r6, q6⟩ := hsp; exact q6.elim
  · cases f with
    | next => obtain ⟨σ', H', J', q⟩ := hsp; exact wpAny_execs_nil ⟨σ', H', J'.ofTry ok, q⟩
    | brk => obtain ⟨σ', H', J', q⟩ := hsp; exact ⟨σ', H', J'.ofTry ok, q⟩
    | cont => obtain ⟨σ', H', J', q⟩ := hsp; exact ⟨σ', H', J'.ofTry ok, q⟩
    | ret u => obtain ⟨v, σ', H', J', r, q⟩ := hsp; exact ⟨v, σ', H', J'.ofTry ok, r, q⟩
end
end Pc
namespace Pc
open PySem PySem.Spec PyProof.Rows L2 RZ
/-- what isinstance asks of the class of a kept error -/
structure KeptC (K : PySem.W.Frag) (C : Addr) : Prop where
  ga : PySem.W.findIn K (.ref C) "__getattribute__" = some (some (.builtin "BaseException.__getattribute__"))
  gg : PySem.W.findIn K (.ref C) "__getattr__" = some none
  exC : PySem.W.subIn K (.ref C) (.type "BaseException") = some true
  hdC : PySem.W.hasDictIn K C = true
  clC : PySem.W.findIn K (.ref C) "__class__" = some (some (.builtin "object.__class__"))
  mrO : PySem.W.mroIn K C (.type "object") = some true
  sp : PySem.W.specialIn K (.builtin "object.__class__") "__get__" = some (some (.builtin "getset_descriptor.__get__"))
  tk : PySem.W.takesIn K (.builtin "object.__class__") = some true
/-- a kept error with its dict -/
def Kept (H : Hp) (a C : Addr) (d : Option Addr) : Prop := H a = some (exk a (.ref C) d) ∧ (d = none ∨ ∃ dd fs, d = some dd ∧ H dd = some (.xd fs))
section
variable {X : Cx} {pins : List (Addr × Obj)} {σ : L2.St} {H : Hp} {s : Shared} {a C : Addr} {d : Option Addr}
theorem kept_inst (I : Inv X pins σ H s) (h : Kept H a C d) : ∃ (oe : Obj) (od : Option Obj), PySem.W.InstAt s.heap a oe C od := by
  obtain ⟨e, hd⟩ := h
  obtain ⟨oe, vs, ho, hz, hv⟩ := exk_at I.hok e
  have nc : PySem.W.notCls oe = true := by unfold PySem.W.notCls; rw [hv] <;> rfl
  rcases hd with rfl | ⟨dd, fs, rfl, ed⟩
  · exact ⟨oe, none, ho, hz.1, nc, by rw [hz.2]; trivial⟩
  · obtain ⟨mA, ⟨od, es, ep, q, _⟩, _⟩ := (show ObjOk X.prog X.w H s.heap dd (.xd fs) from I.hok dd _ ed)
    exact ⟨oe, some od, ho, hz.1, nc, by rw [hz.2]; exact q⟩
theorem kept_kit (T : KeptC X.K C) {oe : Obj} {od : Option Obj} : PySem.W.KitX X.K (.ref a) (.ref C) (fun h => PySem.W.InstAt h a oe C od) :=
  PySem.W.kitx_exc (by obtain ⟨cd, hc, _⟩ := PySem.W.any_some T.hdC; rw [hc]; rfl) T.ga T.gg T.exC T.clC T.sp T.tk T.mrO
/-- isinstance(e, c), e a kept error -/
def rIsk (K : PySem.W.Frag) : List V → Hp → VK → Prop := fun xs H Q => ∃ (a C : Addr) (d : Option Addr) (c : V) (u : Value) (b : Bool), xs = [.ref a, c] ∧ Kept H a C d ∧ KeptC K C ∧ ClsV c u ∧ PySem.W.kitOne K (.ref C) u = some b ∧ Q (.bl b) H
theorem call_isk : CallR X (.builtin "isinstance") (rIsk X.K) := by
  intro pins s σ H xs us Q I r h
  obtain ⟨a, C, d, c, u, b, rfl, hk, T, k, e, q⟩ := h
  obtain ⟨u1, u2, rfl, r1, r2⟩ := vals2 r
  cases (show u1 = Value.ref a from r1)
  have e2 := k.eq r2
  subst e2
  obtain ⟨oe, od, J⟩ := kept_inst I hk
  exact PySem.W.kia_one (kept_kit T) I.kIn J e (fun z => nomatch z) fun tk => ⟨.bl b, H, I.tok tk, rfl, q⟩
/-- isinstance(e, (c, ..)) -/
def rIskT (K : PySem.W.Frag) : List V → Hp → VK → Prop := fun xs H Q => ∃ (a C : Addr) (d : Option Addr) (tp : Addr) (cs : List V) (us : List Value) (b : Bool), xs = [.ref a, .ref tp] ∧ Kept H a C d ∧ KeptC K C ∧ H tp = some (.tup cs) ∧ Paired ClsV cs us ∧ PySem.W.kitAny K (.ref C) us = some b ∧ Q (.bl b) H
theorem call_iskT : CallR X (.builtin "isinstance") (rIskT X.K) := by
  intro pins s σ H xs us Q I r h
  obtain ⟨a, C, d, tp, cs, ws, b, rfl, hk, T, hT, k, e, q⟩ := h
  obtain ⟨u1, u2, rfl, r1, r2⟩ := vals2 r
  cases (show u1 = Value.ref a from r1)
  cases (show u2 = Value.ref tp from r2)
  obtain ⟨oe, od, J⟩ := kept_inst I hk
  obtain ⟨_, its, rv, o, h1, h2, n, h3⟩ := (show ObjOk X.prog X.w H s.heap tp (.tup cs) from I.hok tp _ hT)
  have e3 := ClsV.all k rv
  subst e3
  obtain ⟨oc, od', dt, sl⟩ := o
  simp only at h2 h3
  subst h2 h3
  exact PySem.W.kia_tup (kept_kit T) I.kIn J h1 e (fun z => nomatch z) fun tk => ⟨.bl b, H, I.tok tk, rfl, q⟩
/-- e.f, e a kept error -/
def tKf (K : PySem.W.Frag) (f : Str) (te : TE) : TE := fun σ H Q => te σ H fun x H1 => ∃ (a C dd : Addr) (fs : List (Str × V)) (v : V), x = .ref a ∧ H1 a = some (exk a (.ref C) (some dd)) ∧ KeptC K C ∧ PySem.W.findIn K (.ref C) f = some none ∧ H1 dd = some (.xd fs) ∧ fs.lookup f = some v ∧ Q v H1
theorem pe_kf {e : Expr} {te : TE} {f : Str} {pos : Pos} (he : PE X e te) (hb : attributeBase e f X.env (eval e X.env) = eval e X.env := by rfl) : PE X (.Attribute e f pos) (tKf X.K f te) := by
  refine ⟨fun pins s σ H Q I h => attr_of hb (thn (he.run pins s σ H _ I h) fun u s1 hh => ?_)⟩
  obtain ⟨x, H1, I1, rx, a, C, dd, fs, v, ex, ea, T, hno, ed, l, q⟩ := hh
  subst ex
  obtain rfl : u = Value.ref a := rx
  obtain ⟨oe, vs, ho, hz, hv⟩ := exk_at I1.hok ea
  obtain ⟨mA, hns, hr⟩ := (show ObjOk X.prog X.w H1 s1.heap dd (.xd fs) from I1.hok dd _ ed)
  obtain ⟨od, hod, hl⟩ := lookIn_ns hns
  obtain ⟨w', hw, rw'⟩ := RelO.some_of (v := v) (o := mA f) (by rw [← l]; exact hr f)
  have J : PySem.W.InstAt s1.heap a oe C (some od) := ⟨ho, hz.1, by unfold PySem.W.notCls; rw [hv] <;> rfl, by rw [hz.2]; exact hod⟩
  exact HandSPX.exc_get I1.kIn J T.ga T.gg T.exC (PySem.W.findObj_own T.hdC hno rfl (by rw [hl, hw])) (handed_of rw') ⟨v, H1, I1.tok _, rw', q⟩
end
end Pc
namespace Pc
open PySem PySem.Spec PyProof.Rows L2 RZ
/-! ### errors with one field: made, flying -/
/-- an error of the class at C with the field f flies, from the heap H on -/
def Flies (C : Addr) (f : Str) (v : V) (H : Hp) (E : XK) : Prop := ∀ d H', Same H H' → H d = none → H' d = some (.xd [(f, v)]) → E (.ref C) (some d) H'
theorem Flies.same {C : Addr} {f : Str} {v : V} {H H1 : Hp} {E : XK} (h : Flies C f v H E) (s : Same H H1) : Flies C f v H1 E := fun d H' s' n e => h d H' (s.trans s') (s.free n) e
def spInit1 (C : Addr) (f : Str) : Sp := fun vs H Q _ => ∃ (a : Addr) (v : V), vs = [.ref a, v] ∧ H a = some (exo a C none) ∧ ∀ dx, H dx = none → dx ≠ a → Q .non (upd (upd H a (exo a C (some dx))) dx (exd dx [(f, v)]))
theorem raised1 {C : Addr} {f : Str} {v : V} {H1 : Hp} {Q : XK} (h : Flies C f v H1 Q) : [v].length ≤ 1000 ∧ ∀ a, H1 a = none → spInit1 C f (.ref a :: [v]) (upd H1 a (exo a C none))
    (fun v' H2 => v' = .non ∧ ((H2 a = some (exo a C none) ∧ Q (.ref C) none (del H2 a)) ∨ ∃ (d : Addr) (fs : List (Str × V)), H2 a = some (exo a C (some d)) ∧ H2 d = some (exd d fs) ∧ Q (.ref C) (some d) (upd (del H2 a) d (.xd fs)))) (fun _ _ _ => False) := by
  refine ⟨(by show 1 ≤ 1000; decide), fun a na => ⟨a, v, rfl, upd_same, fun dx nd ne => ⟨rfl, .inr ⟨dx, [(f, v)], ?_, upd_same, h dx _ ?_ ?_ upd_same⟩⟩⟩⟩
  · rw [upd_ne (Ne.symm ne), upd_same]
  · intro b o hb
    have nd' : H1 dx = none := by rw [upd_ne ne] at nd; exact nd
    have hbd := ne_of_none hb nd'
    have hba := ne_of_none hb na
    rw [upd_ne hbd, del_ne hba, upd_ne hbd, upd_ne hba, upd_ne hba]
    exact hb
  · rw [upd_ne ne] at nd; exact nd
/-- the try's wish of such an error -/
theorem kept1 {K : PySem.W.Frag} {C : Addr} {f : Str} {v : V} {cs : List Value} {i : Nat} {ts : Addr → TS} {D : Ends} {σ : L2.St} {H : Hp} (hh : Hits K (.ref C) cs)
    (h : ∀ d H' a, Same H H' → H d = none → H' d = some (.xd [(f, v)]) → H' a = none → a ≠ d → ts a { nx := fun σ' H'' => D.nx (σ'.set i none) (upd H'' a (exk a (.ref C) (some d))), rt := fun _ _ => False } (σ.set i (some (.ref a))) H') :
    Flies C f v H (fun cls d H' => wKept K cs i ts D cls d σ H') := fun d H' s n e => ⟨hh, fun a na => h d H' a s n e na (fun z => by rw [z, e] at na; cases na)⟩
theorem Kept.mk1 {H' : Hp} {a d C : Addr} {fs : List (Str × V)} (e : H' d = some (.xd fs)) (n : H' a = none) : Kept (upd H' a (exk a (.ref C) (some d))) a C (some d) :=
  ⟨upd_same, .inr ⟨d, fs, rfl, by rw [upd_ne (ne_of_none e n)]; exact e⟩⟩
theorem Kept.same {H H' : Hp} {a C : Addr} {d : Option Addr} (h : Kept H a C d) (s : Same H H') : Kept H' a C d :=
  ⟨s _ _ h.1, h.2.imp id fun ⟨dd, fs, e, z⟩ => ⟨dd, fs, e, s _ _ z⟩⟩
theorem over_of {K : PySem.W.Frag} {C : Addr} {bmB : List Value} {newId : String} {nm q : Str} {N : Addr} {bs : List Value} {sn : List Str} {sub : List Value} {ab : Bool} {col : Option Bool} {dd : Option Addr} {k0 k1 k2 k3 k5 : Option Value}
    (h : K.lookup C = some (excClassObj nm q C N bs bmB true sn sub ab col dd k0 k1 k2 k3 k5 newId)) (ht : PySem.W.excTail bmB bmB = true) : PySem.W.excOver K C bmB = true := by
  have e : PySem.W.clsIn K C = some { name := nm, bases := bs, mro := .ref C :: bmB, ns := N, qualname := q, hasDict := true, slotNames := sn, subclasses := sub, abstract := ab, collection := col, hasDel := false } := by
    unfold PySem.W.clsIn
    rw [h] <;> rfl
  unfold PySem.W.excOver
  rw [e]
  show ((C == C) && PySem.W.excTail bmB bmB) = true
  rw [ht, beq_self_eq_true]; rfl
theorem kcls_of {K : PySem.W.Frag} {t : Value} {D : Addr} {b : Bool} (h2 : PySem.W.isClsIn K D = true) (h3 : PySem.W.typeIn K (.ref D) = some (.type "type")) (h4 : PySem.W.subIn K t (.ref D) = some b) : PySem.W.kitCls K t (.ref D) = some b := by
  have e2 : ((PySem.W.clsIn K D).isSome && PySem.W.typeIn K (.ref D) == some (.type "type")) = true := by
    have h2' : (PySem.W.clsIn K D).isSome = true := h2
    rw [h2', h3] <;> rfl
  show (if ((PySem.W.clsIn K D).isSome && PySem.W.typeIn K (.ref D) == some (.type "type")) = true then PySem.W.subIn K t (.ref D) else none) = some b
  rw [if_pos e2]
  exact h4
theorem exm_of' {K : PySem.W.Frag} {t : Value} {D : Addr} {b : Bool} (h1 : PySem.W.subIn K (.ref D) (.type "BaseException") = some true) (h2 : PySem.W.isClsIn K D = true) (h3 : PySem.W.typeIn K (.ref D) = some (.type "type")) (h4 : PySem.W.subIn K t (.ref D) = some b) : PySem.W.exmOne K t (.ref D) = some b := by
  have e1 : (PySem.W.subIn K (.ref D) (.type "BaseException") == some true) = true := by rw [h1] <;> rfl
  show (if (PySem.W.subIn K (.ref D) (.type "BaseException") == some true) = true then PySem.W.kitCls K t (.ref D) else none) = some b
  rw [if_pos e1]
  exact kcls_of h2 h3 h4
theorem kit_own {K : PySem.W.Frag} {C D : Addr} {b : Bool} (h0 : PySem.W.subIn K (.ref C) (.ref C) = some true) (h2 : PySem.W.isClsIn K D = true) (h3 : PySem.W.typeIn K (.ref D) = some (.type "type")) (h4 : PySem.W.subIn K (.ref C) (.ref D) = some b) : PySem.W.kitOne K (.ref C) (.ref D) = some b := by
  by_cases e : C = D
  · subst e
    rw [h0] at h4
    rw [← h4]
    show (if ((Value.ref C) == (Value.ref C)) = true then some true else _) = some true
    rw [if_pos (beq_self_eq_true _)]
  · have n : ((Value.ref C) == (Value.ref D)) = false := beq_false_of_ne (fun z => e (Value.ref.inj z))
    show (if ((Value.ref C) == (Value.ref D)) = true then some true else PySem.W.kitCls K (.ref C) (.ref D)) = some b
    rw [if_neg (by rw [n]; exact Bool.false_ne_true)]
    exact kcls_of h2 h3 h4
theorem kit_blt {K : PySem.W.Frag} {C : Addr} {T : String} {b : Bool} (hm : PySem.W.kitMeta T = true) (h4 : PySem.W.subIn K (.ref C) (.type T) = some b) : PySem.W.kitOne K (.ref C) (.type T) = some b := by
  have n : ((Value.ref C) == (Value.type T)) = false := beq_false_of_ne (fun z => nomatch z)
  show (if ((Value.ref C) == (Value.type T)) = true then some true else (if PySem.W.kitMeta T = true then PySem.W.subIn K (.ref C) (.type T) else none)) = some b
  rw [if_neg (by rw [n]; exact Bool.false_ne_true), if_pos hm]
  exact h4
theorem kit_all {K : PySem.W.Frag} {t : Value} : ∀ {us : List Value}, (∀ u ∈ us, PySem.W.kitOne K t u = some false) → PySem.W.kitAny K t us = some false
  | [], _ => rfl
  | u :: us, h => by
    show (match PySem.W.kitOne K t u with | some true => some true | some false => PySem.W.kitAny K t us | none => none) = some false
    rw [h u List.mem_cons_self]
    exact kit_all fun x hx => h x (List.mem_cons_of_mem _ hx)
end Pc
namespace Pc
open PySem PySem.Spec PyProof.Rows L2 RZ
theorem kit_nil {K : PySem.W.Frag} {t : Value} : PySem.W.kitAny K t [] = some false := rfl
theorem kit_cons {K : PySem.W.Frag} {t u : Value} {us : List Value} (h : PySem.W.kitOne K t u = some false) (r : PySem.W.kitAny K t us = some false) : PySem.W.kitAny K t (u :: us) = some false := by
  show (match PySem.W.kitOne K t u with | some true => some true | some false => PySem.W.kitAny K t us | none => none) = some false
  rw [h]
  exact r
theorem hits_of {K : PySem.W.Frag} {cls : Value} {cs : List Value} (bs : List Bool) (hb : bs.any id = true) (h : Paired (fun c b => PySem.W.exmOne K cls c = some b) cs bs) : Hits K cls cs :=
  ⟨bs, h.length.symm, hb, fun i c y hc hy => by
    obtain ⟨y', e, z⟩ := paired_get h hc
    rw [hy] at e; cases e
    exact z⟩
end Pc
namespace Pc
open PySem PySem.Spec PyProof.Rows L2 RZ
/-- two promises of one def -/
theorem FnOk.or {P : Program} {w : World} {K : PySem.W.Frag} {mg : Str → Option Value} {base : Heap} {CX : CXT} {k : Nat} {f : Addr} {fd : FuncData} {ps : List Str} {sp sp' : Sp} (F : FnOk P w K mg base CX k f fd ps sp) (G : FnOk P w K mg base CX k f fd ps sp') :
    FnOk P w K mg base CX k f fd ps (fun vs H Q E => sp vs H Q E ∨ sp' vs H Q E) where
  len vs H Q E h := h.elim (F.len vs H Q E) (G.len vs H Q E)
  run A outer s H args us vs Q E hr e0 hb r h := h.elim (F.run A outer s H args us vs Q E hr e0 hb r) (G.run A outer s H args us vs Q E hr e0 hb r)
end Pc
namespace Pc
open PySem PySem.Spec PyProof.Rows L2 RZ
def topS (i : Nat) : Stmt := PySem.Challenge.pw_partnercall_k34_whole_words_turned_about.main.body.getD i (.Pass ⟨0, 0, 0, 0⟩)
abbrev s_p_pairings_many : Stmt := topS 4
abbrev N_p_pairings_many : List Str := ["size", "many", "factor"]
theorem sc_p_pairings_many : FnScope ["size", "many", "factor"] ["size"] (defScope s_p_pairings_many) := ⟨rfl, rfl, rfl, by decide +kernel, rfl, by decide +kernel, by decide +kernel⟩
abbrev s_p_check_person : Stmt := topS 6
abbrev N_p_check_person : List Str := ["size", "person"]
theorem sc_p_check_person : FnScope ["size", "person"] ["size", "person"] (defScope s_p_check_person) := ⟨rfl, rfl, rfl, by decide +kernel, rfl, by decide +kernel, by decide +kernel⟩
abbrev s_p_check_call : Stmt := topS 7
abbrev N_p_check_call : List Str := ["size", "call", "person"]
theorem sc_p_check_call : FnScope ["size", "call", "person"] ["size", "call"] (defScope s_p_check_call) := ⟨rfl, rfl, rfl, by decide +kernel, rfl, by decide +kernel, by decide +kernel⟩
abbrev s_p_check_word : Stmt := topS 8
abbrev N_p_check_word : List Str := ["size", "word", "call"]
theorem sc_p_check_word : FnScope ["size", "word", "call"] ["size", "word"] (defScope s_p_check_word) := ⟨rfl, rfl, rfl, by decide +kernel, rfl, by decide +kernel, by decide +kernel⟩
abbrev s_p_join_two : Stmt := topS 9
abbrev N_p_join_two : List Str := ["joined", "a", "b", "left", "right"]
theorem sc_p_join_two : FnScope ["joined", "a", "b", "left", "right"] ["joined", "a", "b"] (defScope s_p_join_two) := ⟨rfl, rfl, rfl, by decide +kernel, rfl, by decide +kernel, by decide +kernel⟩
abbrev s_p_people_of : Stmt := topS 11
abbrev N_p_people_of : List Str := ["sheet"]
theorem sc_p_people_of : FnScope ["sheet"] ["sheet"] (defScope s_p_people_of) := ⟨rfl, rfl, rfl, by decide +kernel, rfl, by decide +kernel, by decide +kernel⟩
abbrev s_p_check_sizes : Stmt := topS 12
abbrev N_p_check_sizes : List Str := ["first", "second"]
theorem sc_p_check_sizes : FnScope ["first", "second"] ["first", "second"] (defScope s_p_check_sizes) := ⟨rfl, rfl, rfl, by decide +kernel, rfl, by decide +kernel, by decide +kernel⟩
abbrev s_p_empty_sheet : Stmt := topS 13
abbrev N_p_empty_sheet : List Str := ["size"]
theorem sc_p_empty_sheet : FnScope ["size"] ["size"] (defScope s_p_empty_sheet) := ⟨rfl, rfl, rfl, by decide +kernel, rfl, by decide +kernel, by decide +kernel⟩
abbrev s_p_with_word : Stmt := topS 14
abbrev N_p_with_word : List Str := ["sheet", "word", "size", "ends", "a", "b"]
theorem sc_p_with_word : FnScope ["sheet", "word", "size", "ends", "a", "b"] ["sheet", "word"] (defScope s_p_with_word) := ⟨rfl, rfl, rfl, by decide +kernel, rfl, by decide +kernel, by decide +kernel⟩
abbrev s_p_sheet_of : Stmt := topS 15
abbrev N_p_sheet_of : List Str := ["size", "word"]
theorem sc_p_sheet_of : FnScope ["size", "word"] ["size", "word"] (defScope s_p_sheet_of) := ⟨rfl, rfl, rfl, by decide +kernel, rfl, by decide +kernel, by decide +kernel⟩
abbrev s_p_upper_pairs : Stmt := topS 16
abbrev N_p_upper_pairs : List Str := ["sheet", "size", "x"]
theorem sc_p_upper_pairs : FnScope ["sheet", "size", "x"] ["sheet"] (defScope s_p_upper_pairs) := ⟨rfl, rfl, rfl, by decide +kernel, rfl, by decide +kernel, by decide +kernel⟩
abbrev s_p_lower_pairs : Stmt := topS 17
abbrev N_p_lower_pairs : List Str := ["sheet", "size", "x"]
theorem sc_p_lower_pairs : FnScope ["sheet", "size", "x"] ["sheet"] (defScope s_p_lower_pairs) := ⟨rfl, rfl, rfl, by decide +kernel, rfl, by decide +kernel, by decide +kernel⟩
abbrev s_p_other_side : Stmt := topS 18
abbrev N_p_other_side : List Str := ["size", "end"]
theorem sc_p_other_side : FnScope ["size", "end"] ["size", "end"] (defScope s_p_other_side) := ⟨rfl, rfl, rfl, by decide +kernel, rfl, by decide +kernel, by decide +kernel⟩
abbrev s_p_mirrored : Stmt := topS 19
abbrev N_p_mirrored : List Str := ["sheet", "size", "end"]
theorem sc_p_mirrored : FnScope ["sheet", "size", "end"] ["sheet"] (defScope s_p_mirrored) := ⟨rfl, rfl, rfl, by decide +kernel, rfl, by decide +kernel, by decide +kernel⟩
abbrev s_p_followed_path : Stmt := topS 21
abbrev N_p_followed_path : List Str := ["sheet", "pairing", "person", "size", "ends", "partner"]
theorem sc_p_followed_path : FnScope ["sheet", "pairing", "person", "size", "ends", "partner"] ["sheet", "pairing", "person"] (defScope s_p_followed_path) := ⟨rfl, rfl, rfl, by decide +kernel, rfl, by decide +kernel, by decide +kernel⟩
abbrev s_p_result : Stmt := topS 22
abbrev N_p_result : List Str := ["sheet", "pairing", "size", "person"]
theorem sc_p_result : FnScope ["sheet", "pairing", "size", "person"] ["sheet", "pairing"] (defScope s_p_result) := ⟨rfl, rfl, rfl, by decide +kernel, rfl, by decide +kernel, by decide +kernel⟩
abbrev s_p_path : Stmt := topS 23
abbrev N_p_path : List Str := ["sheet", "pairing", "person"]
theorem sc_p_path : FnScope ["sheet", "pairing", "person"] ["sheet", "pairing", "person"] (defScope s_p_path) := ⟨rfl, rfl, rfl, by decide +kernel, rfl, by decide +kernel, by decide +kernel⟩
abbrev s_p_couples_on : Stmt := topS 24
abbrev N_p_couples_on : List Str := ["sheet", "pairing", "person", "ends", "steps", "at", "x", "y"]
theorem sc_p_couples_on : FnScope ["sheet", "pairing", "person", "ends", "steps", "at", "x", "y"] ["sheet", "pairing", "person"] (defScope s_p_couples_on) := ⟨rfl, rfl, rfl, by decide +kernel, rfl, by decide +kernel, by decide +kernel⟩
abbrev s_p_loose_people : Stmt := topS 26
abbrev N_p_loose_people : List Str := ["sheet", "size", "person"]
theorem sc_p_loose_people : FnScope ["sheet", "size", "person"] ["sheet"] (defScope s_p_loose_people) := ⟨rfl, rfl, rfl, by decide +kernel, rfl, by decide +kernel, by decide +kernel⟩
abbrev s_p_results_many : Stmt := topS 27
abbrev N_p_results_many : List Str := ["sheet"]
theorem sc_p_results_many : FnScope ["sheet"] ["sheet"] (defScope s_p_results_many) := ⟨rfl, rfl, rfl, by decide +kernel, rfl, by decide +kernel, by decide +kernel⟩
abbrev s_box : Stmt := topS 29
abbrev N_box : List Str := ["_law_script", "_law_k", "_law_cell"]
theorem sc_box : FnScope ["_law_script", "_law_k", "_law_cell"] ["_law_script", "_law_k"] (defScope s_box) := ⟨rfl, rfl, rfl, by decide +kernel, rfl, by decide +kernel, by decide +kernel⟩
abbrev s_take : Stmt := topS 30
abbrev N_take : List Str := ["_law_box_here", "_law_span", "_law_found", "_law_once"]
theorem sc_take : FnScope ["_law_box_here", "_law_span", "_law_found", "_law_once"] ["_law_box_here", "_law_span"] (defScope s_take) := ⟨rfl, rfl, rfl, by decide +kernel, rfl, by decide +kernel, by decide +kernel⟩
abbrev s_cells : Stmt := topS 31
abbrev N_cells : List Str := ["_law_script", "_law_most", "_law_cells_here", "_law_k", "_law_cell"]
theorem sc_cells : FnScope ["_law_script", "_law_most", "_law_cells_here", "_law_k", "_law_cell"] ["_law_script", "_law_most"] (defScope s_cells) := ⟨rfl, rfl, rfl, by decide +kernel, rfl, by decide +kernel, by decide +kernel⟩
abbrev s_of : Stmt := topS 32
abbrev N_of : List Str := ["_law_box_here", "_law_some"]
theorem sc_of : FnScope ["_law_box_here", "_law_some"] ["_law_box_here", "_law_some"] (defScope s_of) := ⟨rfl, rfl, rfl, by decide +kernel, rfl, by decide +kernel, by decide +kernel⟩
abbrev s_strewn : Stmt := topS 33
abbrev N_strewn : List Str := ["_law_box_here", "_law_some", "_law_left", "_law_found"]
theorem sc_strewn : FnScope ["_law_box_here", "_law_some", "_law_left", "_law_found"] ["_law_box_here", "_law_some"] (defScope s_strewn) := ⟨rfl, rfl, rfl, by decide +kernel, rfl, by decide +kernel, by decide +kernel⟩
abbrev s_paired : Stmt := topS 34
abbrev N_paired : List Str := ["_law_order", "_law_found", "_law_k"]
theorem sc_paired : FnScope ["_law_order", "_law_found", "_law_k"] ["_law_order"] (defScope s_paired) := ⟨rfl, rfl, rfl, by decide +kernel, rfl, by decide +kernel, by decide +kernel⟩
abbrev s_random : Stmt := topS 35
abbrev N_random : List Str := ["_law_box_here", "_law_count"]
theorem sc_random : FnScope ["_law_box_here", "_law_count"] ["_law_box_here", "_law_count"] (defScope s_random) := ⟨rfl, rfl, rfl, by decide +kernel, rfl, by decide +kernel, by decide +kernel⟩
abbrev s_any_call : Stmt := topS 36
abbrev N_any_call : List Str := ["_law_box_here", "_law_count", "_law_low"]
theorem sc_any_call : FnScope ["_law_box_here", "_law_count", "_law_low"] ["_law_box_here", "_law_count"] (defScope s_any_call) := ⟨rfl, rfl, rfl, by decide +kernel, rfl, by decide +kernel, by decide +kernel⟩
abbrev s_some_calls : Stmt := topS 37
abbrev N_some_calls : List Str := ["_law_box_here", "_law_count", "_law_most", "_law_wide", "_law_turn"]
theorem sc_some_calls : FnScope ["_law_box_here", "_law_count", "_law_most", "_law_wide", "_law_turn"] ["_law_box_here", "_law_count", "_law_most"] (defScope s_some_calls) := ⟨rfl, rfl, rfl, by decide +kernel, rfl, by decide +kernel, by decide +kernel⟩
abbrev s_rounds : Stmt := topS 38
abbrev N_rounds : List Str := ["_law_crowd", "_law_its", "_law_met", "_law_found", "_law_who", "_law_here"]
theorem sc_rounds : FnScope ["_law_crowd", "_law_its", "_law_met", "_law_found", "_law_who", "_law_here"] ["_law_crowd", "_law_its"] (defScope s_rounds) := ⟨rfl, rfl, rfl, by decide +kernel, rfl, by decide +kernel, by decide +kernel⟩
abbrev s_hidden : Stmt := topS 39
abbrev N_hidden : List Str := ["_law_page", "_law_crowd", "_law_met", "_law_found", "_law_count", "_law_used", "_law_who", "_law_here"]
theorem sc_hidden : FnScope ["_law_page", "_law_crowd", "_law_met", "_law_found", "_law_count", "_law_used", "_law_who", "_law_here"] ["_law_page", "_law_crowd"] (defScope s_hidden) := ⟨rfl, rfl, rfl, by decide +kernel, rfl, by decide +kernel, by decide +kernel⟩
abbrev s_right : Stmt := topS 40
abbrev N_right : List Str := ["_law_box_here", "_law_count", "_law_cries", "_law_page", "_law_back_page", "_law_turn", "_law_crowd", "_law_its", "_law_ahead", "_law_behind"]
theorem sc_right : FnScope ["_law_box_here", "_law_count", "_law_cries", "_law_page", "_law_back_page", "_law_turn", "_law_crowd", "_law_its", "_law_ahead", "_law_behind"] ["_law_box_here"] (defScope s_right) := ⟨rfl, rfl, rfl, by decide +kernel, rfl, by decide +kernel, by decide +kernel⟩
abbrev s_law : Stmt := topS 41
abbrev N_law : List Str := ["_law_script", "_law_cells_here", "_law_k", "_law_box_here", "_law_turn"]
theorem sc_law : FnScope ["_law_script", "_law_cells_here", "_law_k", "_law_box_here", "_law_turn"] ["_law_script"] (defScope s_law) := ⟨rfl, rfl, rfl, by decide +kernel, rfl, by decide +kernel, by decide +kernel⟩
set_option genInjectivity false in
set_option genSizeOf false in
structure Env (K : PySem.W.Frag) (mg : Str → Option Value) where
  n_range : mg "range" = none
  n_len : mg "len" = none
  n_tuple : mg "tuple" = none
  n_list : mg "list" = none
  n_min : mg "min" = none
  n_max : mg "max" = none
  n_sorted : mg "sorted" = none
  n_abs : mg "abs" = none
  n_int : mg "int" = none
  n_enumerate : mg "enumerate" = none
  n_all : mg "all" = none
  f_p_pairings_many : Addr
  d_p_pairings_many : FuncData
  F_p_pairings_many : Fun K "pairings_many" "pairings_many" s_p_pairings_many f_p_pairings_many d_p_pairings_many
  g_p_pairings_many : mg "pairings_many" = some (.ref f_p_pairings_many)
  f_p_check_person : Addr
  d_p_check_person : FuncData
  F_p_check_person : Fun K "check_person" "check_person" s_p_check_person f_p_check_person d_p_check_person
  g_p_check_person : mg "check_person" = some (.ref f_p_check_person)
  f_p_check_call : Addr
  d_p_check_call : FuncData
  F_p_check_call : Fun K "check_call" "check_call" s_p_check_call f_p_check_call d_p_check_call
  g_p_check_call : mg "check_call" = some (.ref f_p_check_call)
  f_p_check_word : Addr
  d_p_check_word : FuncData
  F_p_check_word : Fun K "check_word" "check_word" s_p_check_word f_p_check_word d_p_check_word
  g_p_check_word : mg "check_word" = some (.ref f_p_check_word)
  f_p_join_two : Addr
  d_p_join_two : FuncData
  F_p_join_two : Fun K "join_two" "join_two" s_p_join_two f_p_join_two d_p_join_two
  g_p_join_two : mg "join_two" = some (.ref f_p_join_two)
  f_p_people_of : Addr
  d_p_people_of : FuncData
  F_p_people_of : Fun K "people_of" "people_of" s_p_people_of f_p_people_of d_p_people_of
  g_p_people_of : mg "people_of" = some (.ref f_p_people_of)
  f_p_check_sizes : Addr
  d_p_check_sizes : FuncData
  F_p_check_sizes : Fun K "check_sizes" "check_sizes" s_p_check_sizes f_p_check_sizes d_p_check_sizes
  g_p_check_sizes : mg "check_sizes" = some (.ref f_p_check_sizes)
  f_p_empty_sheet : Addr
  d_p_empty_sheet : FuncData
  F_p_empty_sheet : Fun K "empty_sheet" "empty_sheet" s_p_empty_sheet f_p_empty_sheet d_p_empty_sheet
  g_p_empty_sheet : mg "empty_sheet" = some (.ref f_p_empty_sheet)
  f_p_with_word : Addr
  d_p_with_word : FuncData
  F_p_with_word : Fun K "with_word" "with_word" s_p_with_word f_p_with_word d_p_with_word
  g_p_with_word : mg "with_word" = some (.ref f_p_with_word)
  f_p_sheet_of : Addr
  d_p_sheet_of : FuncData
  F_p_sheet_of : Fun K "sheet_of" "sheet_of" s_p_sheet_of f_p_sheet_of d_p_sheet_of
  g_p_sheet_of : mg "sheet_of" = some (.ref f_p_sheet_of)
  f_p_upper_pairs : Addr
  d_p_upper_pairs : FuncData
  F_p_upper_pairs : Fun K "upper_pairs" "upper_pairs" s_p_upper_pairs f_p_upper_pairs d_p_upper_pairs
  g_p_upper_pairs : mg "upper_pairs" = some (.ref f_p_upper_pairs)
  f_p_lower_pairs : Addr
  d_p_lower_pairs : FuncData
  F_p_lower_pairs : Fun K "lower_pairs" "lower_pairs" s_p_lower_pairs f_p_lower_pairs d_p_lower_pairs
  g_p_lower_pairs : mg "lower_pairs" = some (.ref f_p_lower_pairs)
  f_p_other_side : Addr
  d_p_other_side : FuncData
  F_p_other_side : Fun K "other_side" "other_side" s_p_other_side f_p_other_side d_p_other_side
  g_p_other_side : mg "other_side" = some (.ref f_p_other_side)
  f_p_mirrored : Addr
  d_p_mirrored : FuncData
  F_p_mirrored : Fun K "mirrored" "mirrored" s_p_mirrored f_p_mirrored d_p_mirrored
  g_p_mirrored : mg "mirrored" = some (.ref f_p_mirrored)
  f_p_followed_path : Addr
  d_p_followed_path : FuncData
  F_p_followed_path : Fun K "followed_path" "followed_path" s_p_followed_path f_p_followed_path d_p_followed_path
  g_p_followed_path : mg "followed_path" = some (.ref f_p_followed_path)
  f_p_result : Addr
  d_p_result : FuncData
  F_p_result : Fun K "result" "result" s_p_result f_p_result d_p_result
  g_p_result : mg "result" = some (.ref f_p_result)
  f_p_path : Addr
  d_p_path : FuncData
  F_p_path : Fun K "path" "path" s_p_path f_p_path d_p_path
  g_p_path : mg "path" = some (.ref f_p_path)
  f_p_couples_on : Addr
  d_p_couples_on : FuncData
  F_p_couples_on : Fun K "couples_on" "couples_on" s_p_couples_on f_p_couples_on d_p_couples_on
  g_p_couples_on : mg "couples_on" = some (.ref f_p_couples_on)
  f_p_loose_people : Addr
  d_p_loose_people : FuncData
  F_p_loose_people : Fun K "loose_people" "loose_people" s_p_loose_people f_p_loose_people d_p_loose_people
  g_p_loose_people : mg "loose_people" = some (.ref f_p_loose_people)
  f_p_results_many : Addr
  d_p_results_many : FuncData
  F_p_results_many : Fun K "results_many" "results_many" s_p_results_many f_p_results_many d_p_results_many
  g_p_results_many : mg "results_many" = some (.ref f_p_results_many)
  f_box : Addr
  d_box : FuncData
  F_box : Fun K "_law_box" "_law_box" s_box f_box d_box
  g_box : mg "_law_box" = some (.ref f_box)
  f_take : Addr
  d_take : FuncData
  F_take : Fun K "_law_take" "_law_take" s_take f_take d_take
  g_take : mg "_law_take" = some (.ref f_take)
  f_cells : Addr
  d_cells : FuncData
  F_cells : Fun K "_law_cells" "_law_cells" s_cells f_cells d_cells
  g_cells : mg "_law_cells" = some (.ref f_cells)
  f_of : Addr
  d_of : FuncData
  F_of : Fun K "_law_of" "_law_of" s_of f_of d_of
  g_of : mg "_law_of" = some (.ref f_of)
  f_strewn : Addr
  d_strewn : FuncData
  F_strewn : Fun K "_law_strewn" "_law_strewn" s_strewn f_strewn d_strewn
  g_strewn : mg "_law_strewn" = some (.ref f_strewn)
  f_paired : Addr
  d_paired : FuncData
  F_paired : Fun K "_law_paired" "_law_paired" s_paired f_paired d_paired
  g_paired : mg "_law_paired" = some (.ref f_paired)
  f_random : Addr
  d_random : FuncData
  F_random : Fun K "_law_random" "_law_random" s_random f_random d_random
  g_random : mg "_law_random" = some (.ref f_random)
  f_any_call : Addr
  d_any_call : FuncData
  F_any_call : Fun K "_law_any_call" "_law_any_call" s_any_call f_any_call d_any_call
  g_any_call : mg "_law_any_call" = some (.ref f_any_call)
  f_some_calls : Addr
  d_some_calls : FuncData
  F_some_calls : Fun K "_law_some_calls" "_law_some_calls" s_some_calls f_some_calls d_some_calls
  g_some_calls : mg "_law_some_calls" = some (.ref f_some_calls)
  f_rounds : Addr
  d_rounds : FuncData
  F_rounds : Fun K "_law_rounds" "_law_rounds" s_rounds f_rounds d_rounds
  g_rounds : mg "_law_rounds" = some (.ref f_rounds)
  f_hidden : Addr
  d_hidden : FuncData
  F_hidden : Fun K "_law_hidden" "_law_hidden" s_hidden f_hidden d_hidden
  g_hidden : mg "_law_hidden" = some (.ref f_hidden)
  f_right : Addr
  d_right : FuncData
  F_right : Fun K "_law_right" "_law_right" s_right f_right d_right
  g_right : mg "_law_right" = some (.ref f_right)
theorem Env.b_p_pairings_many {K : PySem.W.Frag} {mg : Str → Option Value} (T : Env K mg) : Binds K T.d_p_pairings_many ["size"] [] := T.F_p_pairings_many.binds fun _ _ _ _ _ _ us hl => match us, hl with | [_], _ => rfl
theorem Env.b_p_check_person {K : PySem.W.Frag} {mg : Str → Option Value} (T : Env K mg) : Binds K T.d_p_check_person ["size", "person"] [] := T.F_p_check_person.binds fun _ _ _ _ _ _ us hl => match us, hl with | [_, _], _ => rfl
theorem Env.b_p_check_call {K : PySem.W.Frag} {mg : Str → Option Value} (T : Env K mg) : Binds K T.d_p_check_call ["size", "call"] [] := T.F_p_check_call.binds fun _ _ _ _ _ _ us hl => match us, hl with | [_, _], _ => rfl
theorem Env.b_p_check_word {K : PySem.W.Frag} {mg : Str → Option Value} (T : Env K mg) : Binds K T.d_p_check_word ["size", "word"] [] := T.F_p_check_word.binds fun _ _ _ _ _ _ us hl => match us, hl with | [_, _], _ => rfl
theorem Env.b_p_join_two {K : PySem.W.Frag} {mg : Str → Option Value} (T : Env K mg) : Binds K T.d_p_join_two ["joined", "a", "b"] [] := T.F_p_join_two.binds fun _ _ _ _ _ _ us hl => match us, hl with | [_, _, _], _ => rfl
theorem Env.b_p_people_of {K : PySem.W.Frag} {mg : Str → Option Value} (T : Env K mg) : Binds K T.d_p_people_of ["sheet"] [] := T.F_p_people_of.binds fun _ _ _ _ _ _ us hl => match us, hl with | [_], _ => rfl
theorem Env.b_p_check_sizes {K : PySem.W.Frag} {mg : Str → Option Value} (T : Env K mg) : Binds K T.d_p_check_sizes ["first", "second"] [] := T.F_p_check_sizes.binds fun _ _ _ _ _ _ us hl => match us, hl with | [_, _], _ => rfl
theorem Env.b_p_empty_sheet {K : PySem.W.Frag} {mg : Str → Option Value} (T : Env K mg) : Binds K T.d_p_empty_sheet ["size"] [] := T.F_p_empty_sheet.binds fun _ _ _ _ _ _ us hl => match us, hl with | [_], _ => rfl
theorem Env.b_p_with_word {K : PySem.W.Frag} {mg : Str → Option Value} (T : Env K mg) : Binds K T.d_p_with_word ["sheet", "word"] [] := T.F_p_with_word.binds fun _ _ _ _ _ _ us hl => match us, hl with | [_, _], _ => rfl
theorem Env.b_p_sheet_of {K : PySem.W.Frag} {mg : Str → Option Value} (T : Env K mg) : Binds K T.d_p_sheet_of ["size", "word"] [] := T.F_p_sheet_of.binds fun _ _ _ _ _ _ us hl => match us, hl with | [_, _], _ => rfl
theorem Env.b_p_upper_pairs {K : PySem.W.Frag} {mg : Str → Option Value} (T : Env K mg) : Binds K T.d_p_upper_pairs ["sheet"] [] := T.F_p_upper_pairs.binds fun _ _ _ _ _ _ us hl => match us, hl with | [_], _ => rfl
theorem Env.b_p_lower_pairs {K : PySem.W.Frag} {mg : Str → Option Value} (T : Env K mg) : Binds K T.d_p_lower_pairs ["sheet"] [] := T.F_p_lower_pairs.binds fun _ _ _ _ _ _ us hl => match us, hl with | [_], _ => rfl
theorem Env.b_p_other_side {K : PySem.W.Frag} {mg : Str → Option Value} (T : Env K mg) : Binds K T.d_p_other_side ["size", "end"] [] := T.F_p_other_side.binds fun _ _ _ _ _ _ us hl => match us, hl with | [_, _], _ => rfl
theorem Env.b_p_mirrored {K : PySem.W.Frag} {mg : Str → Option Value} (T : Env K mg) : Binds K T.d_p_mirrored ["sheet"] [] := T.F_p_mirrored.binds fun _ _ _ _ _ _ us hl => match us, hl with | [_], _ => rfl
theorem Env.b_p_followed_path {K : PySem.W.Frag} {mg : Str → Option Value} (T : Env K mg) : Binds K T.d_p_followed_path ["sheet", "pairing", "person"] [] := T.F_p_followed_path.binds fun _ _ _ _ _ _ us hl => match us, hl with | [_, _, _], _ => rfl
theorem Env.b_p_result {K : PySem.W.Frag} {mg : Str → Option Value} (T : Env K mg) : Binds K T.d_p_result ["sheet", "pairing"] [] := T.F_p_result.binds fun _ _ _ _ _ _ us hl => match us, hl with | [_, _], _ => rfl
theorem Env.b_p_path {K : PySem.W.Frag} {mg : Str → Option Value} (T : Env K mg) : Binds K T.d_p_path ["sheet", "pairing", "person"] [] := T.F_p_path.binds fun _ _ _ _ _ _ us hl => match us, hl with | [_, _, _], _ => rfl
theorem Env.b_p_couples_on {K : PySem.W.Frag} {mg : Str → Option Value} (T : Env K mg) : Binds K T.d_p_couples_on ["sheet", "pairing", "person"] [] := T.F_p_couples_on.binds fun _ _ _ _ _ _ us hl => match us, hl with | [_, _, _], _ => rfl
theorem Env.b_p_loose_people {K : PySem.W.Frag} {mg : Str → Option Value} (T : Env K mg) : Binds K T.d_p_loose_people ["sheet"] [] := T.F_p_loose_people.binds fun _ _ _ _ _ _ us hl => match us, hl with | [_], _ => rfl
theorem Env.b_p_results_many {K : PySem.W.Frag} {mg : Str → Option Value} (T : Env K mg) : Binds K T.d_p_results_many ["sheet"] [] := T.F_p_results_many.binds fun _ _ _ _ _ _ us hl => match us, hl with | [_], _ => rfl
theorem Env.b_box {K : PySem.W.Frag} {mg : Str → Option Value} (T : Env K mg) : Binds K T.d_box ["_law_script", "_law_k"] [] := T.F_box.binds fun _ _ _ _ _ _ us hl => match us, hl with | [_, _], _ => rfl
theorem Env.b_take {K : PySem.W.Frag} {mg : Str → Option Value} (T : Env K mg) : Binds K T.d_take ["_law_box_here", "_law_span"] [] := T.F_take.binds fun _ _ _ _ _ _ us hl => match us, hl with | [_, _], _ => rfl
theorem Env.b_cells {K : PySem.W.Frag} {mg : Str → Option Value} (T : Env K mg) : Binds K T.d_cells ["_law_script", "_law_most"] [] := T.F_cells.binds fun _ _ _ _ _ _ us hl => match us, hl with | [_, _], _ => rfl
theorem Env.b_of {K : PySem.W.Frag} {mg : Str → Option Value} (T : Env K mg) : Binds K T.d_of ["_law_box_here", "_law_some"] [] := T.F_of.binds fun _ _ _ _ _ _ us hl => match us, hl with | [_, _], _ => rfl
theorem Env.b_strewn {K : PySem.W.Frag} {mg : Str → Option Value} (T : Env K mg) : Binds K T.d_strewn ["_law_box_here", "_law_some"] [] := T.F_strewn.binds fun _ _ _ _ _ _ us hl => match us, hl with | [_, _], _ => rfl
theorem Env.b_paired {K : PySem.W.Frag} {mg : Str → Option Value} (T : Env K mg) : Binds K T.d_paired ["_law_order"] [] := T.F_paired.binds fun _ _ _ _ _ _ us hl => match us, hl with | [_], _ => rfl
theorem Env.b_random {K : PySem.W.Frag} {mg : Str → Option Value} (T : Env K mg) : Binds K T.d_random ["_law_box_here", "_law_count"] [] := T.F_random.binds fun _ _ _ _ _ _ us hl => match us, hl with | [_, _], _ => rfl
theorem Env.b_any_call {K : PySem.W.Frag} {mg : Str → Option Value} (T : Env K mg) : Binds K T.d_any_call ["_law_box_here", "_law_count"] [] := T.F_any_call.binds fun _ _ _ _ _ _ us hl => match us, hl with | [_, _], _ => rfl
theorem Env.b_some_calls {K : PySem.W.Frag} {mg : Str → Option Value} (T : Env K mg) : Binds K T.d_some_calls ["_law_box_here", "_law_count", "_law_most"] [] := T.F_some_calls.binds fun _ _ _ _ _ _ us hl => match us, hl with | [_, _, _], _ => rfl
theorem Env.b_rounds {K : PySem.W.Frag} {mg : Str → Option Value} (T : Env K mg) : Binds K T.d_rounds ["_law_crowd", "_law_its"] [] := T.F_rounds.binds fun _ _ _ _ _ _ us hl => match us, hl with | [_, _], _ => rfl
theorem Env.b_hidden {K : PySem.W.Frag} {mg : Str → Option Value} (T : Env K mg) : Binds K T.d_hidden ["_law_page", "_law_crowd"] [] := T.F_hidden.binds fun _ _ _ _ _ _ us hl => match us, hl with | [_, _], _ => rfl
theorem Env.b_right {K : PySem.W.Frag} {mg : Str → Option Value} (T : Env K mg) : Binds K T.d_right ["_law_box_here"] [] := T.F_right.binds fun _ _ _ _ _ _ us hl => match us, hl with | [_], _ => rfl
end Pc

namespace Pc
open PySem PySem.Spec PyProof.Rows L2 RZ
section
variable {P : Program} {w : World} {K : PySem.W.Frag} {mg : Str → Option Value} {base : Heap}
/-! ### a source -/
def spBox (K : PySem.W.Frag) : Sp := fun vs H Q _ => ∃ (a : Addr) (ns : List Int) (k : Nat), vs = [.ref a, .int k] ∧ SqL K H a (ns.map V.int) ∧ k ≤ 100 ∧
  ∀ H' b, Same H H' → H b = none → Box 1000000000 H' b → Q (.ref b) H'
theorem ok_box (T : Env K mg) : FnOk P w K mg base CX0 1 T.f_box T.d_box ["_law_script", "_law_k"] (spBox K) := by
  refine T.F_box.ok sc_box (fun vs H Q E h => ?_) (fun cdv A outer s H vs Q E hr h => ?_)
  · obtain ⟨a, ns, k, rfl, _⟩ := h
    rfl
  · obtain ⟨a, ns, k, rfl, hS, hk, q⟩ := h
    refine ⟨_, pss_cons (ps_set (i := 2) sc_box.nd rfl (.inl rfl)
        (pe_ifExp (pt_cmpR op_lt (pv 1) (pe_callB call_len_seq (by rfl) T.n_len PySem.boot_len (pa_cons (pv 0) pa_nil)) (nomark _)) (pe_ix ix_list (pv 0) (pv 1) (fun _ _ => rfl)) pe_int))
      (pss_one (ps_ret (pe_lst (pa_cons
          (pe_op op_mul (pe_callB call_abs (by rfl) T.n_abs (by decide +kernel) (pa_cons (pv 2) pa_nil))
            (pe_callTy call_int1 (by rfl) T.n_int (by decide +kernel) (pa_cons (pe_cmpR op_ge (pe_callB call_abs (by rfl) T.n_abs (by decide +kernel) (pa_cons (pv 2) pa_nil)) (pe_op op_pow pe_int pe_int) (nomark _)) pa_nil)))
        (pa_cons (pe_op op_add (pe_op op_add (pe_op op_mod (pv 2) pe_int) (pe_op op_mul pe_int (pv 1))) pe_int)
        (pa_cons pe_int pa_nil)))))), ?_⟩
    refine ⟨.int k, rfl, .ref a, rfl, a, ns.map V.int, rfl, .inl hS, _, _, rfl, rfl, _, rfl, ite2 (fun e => ?_) (fun e => ?_)⟩
    · have e1 : k < ns.length := by
        have := of_decide_eq_true e
        rw [List.length_map] at this
        omega
      refine ⟨.ref a, rfl, .int k, rfl, a, _, _, _, rfl, rfl, hS, atI_nat (v := .int ns[k]) (by rw [List.getElem?_map, List.getElem?_eq_getElem e1]; rfl), ?_⟩
      revert e; generalize ns[k] = c; intro _
      refine ⟨_, rfl, _, rfl, _, rfl, _, rfl, 10, 18, rfl, rfl, ⟨by decide, by decide, by decide⟩, _, _, rfl, rfl, .inr ⟨_, rfl, _, _, rfl, rfl, .inr (in64 (one0 _)), _, rfl, _, _, rfl, rfl, (show (0 : Int) < 2305843009213693951 by decide), _, rfl, _, _, rfl, rfl, .inl ⟨by decide, by decide⟩, _, _, rfl, rfl, _, _, rfl, rfl, ?_⟩⟩
      refine ⟨by show 3 ≤ sizeLine; decide, fun b nb => q _ b (same_new nb) nb ⟨_, _, 0, upd_same, Int.mul_nonneg ?_ (one0 _).1, ?_, ?_, by decide, by decide⟩⟩
      · split <;> omega
      · omega
      · omega
    · refine ⟨_, rfl, _, rfl, _, rfl, _, rfl, 10, 18, rfl, rfl, ⟨by decide, by decide, by decide⟩, _, _, rfl, rfl, .inr ⟨_, rfl, _, _, rfl, rfl, .inr (in64 (one0 _)), _, rfl, _, _, rfl, rfl, (show (0 : Int) < 2305843009213693951 by decide), _, rfl, _, _, rfl, rfl, .inl ⟨by decide, by decide⟩, _, _, rfl, rfl, _, _, rfl, rfl, ?_⟩⟩
      refine ⟨by show 3 ≤ sizeLine; decide, fun b nb => q _ b (same_new nb) nb ⟨_, _, 0, upd_same, Int.mul_nonneg ?_ (one0 _).1, ?_, ?_, by decide, by decide⟩⟩
      · split <;> omega
      · omega
      · omega
end
end Pc
namespace Pc
open PySem PySem.Spec PyProof.Rows L2 RZ
section
variable {P : Program} {w : World} {K : PySem.W.Frag} {mg : Str → Option Value} {base : Heap}
/-! ### a draw below a span of at most ten million -/
def spTake : Sp := fun vs H Q _ => ∃ (b : Addr) (n : Nat) (s : Int), vs = [.ref b, .int s] ∧ Box (n + 1) H b ∧ 0 < s ∧ s ≤ 10000000 ∧
  ∀ (r : Int) (H' : Hp), 0 ≤ r → r < s → Box n H' b → Keep b H H' → Q (.int r) H'
theorem ok_take (T : Env K mg) : FnOk P w K mg base CX0 1 T.f_take T.d_take ["_law_box_here", "_law_span"] spTake := by
  refine T.F_take.ok sc_take (fun vs H Q E h => ?_) (fun cdv A outer s H vs Q E hr h => ?_)
  · obtain ⟨b, n, s, rfl, _⟩ := h
    rfl
  · obtain ⟨b, n, s, rfl, ⟨x, y, z, hb, hx, hy, hy2, hz, hz2⟩, hs, hs2, q⟩ := h
    refine ⟨_, pss_cons (ps_if (pt_cmpR op_gt (pe_ix ix_list (pv 0) pe_int (fun _ _ => rfl)) pe_int (nomark _))
        (pss_cons (ps_set (i := 2) sc_take.nd rfl (.inl rfl) (pe_op op_mod (pe_ix ix_list (pv 0) pe_int (fun _ _ => rfl)) (pv 1)))
        (pss_cons (ps_asg (pe_op op_fdiv (pe_ix ix_list (pv 0) pe_int (fun _ _ => rfl)) (pv 1)) (pg_sub (pv 0) pe_int set_list))
        (pss_one (ps_ret (pv 2))))) pss_nil)
      (pss_cons (ps_if (pt_cmpR op_gt (pv 1) (pe_op op_pow pe_int pe_int) (nomark _)) pss_never pss_nil)
      (pss_cons (ps_asg (pe_op op_add (pe_ix ix_list (pv 0) pe_int (fun _ _ => rfl)) pe_int) (pg_sub (pv 0) pe_int set_list))
      (pss_cons (ps_set (i := 3) sc_take.nd rfl (.inl rfl) (pe_op op_mod (pe_op op_pow (pe_op op_add (pe_ix ix_list (pv 0) pe_int (fun _ _ => rfl)) (pe_op op_mul pe_int (pe_ix ix_list (pv 0) pe_int (fun _ _ => rfl)))) pe_int) pe_int))
      (pss_one (ps_ret (pe_op op_mod (pe_op op_fdiv (pe_op op_mod (pe_op op_add (pe_op op_mul (pv 3) (pe_op op_add (pe_op op_mod (pv 3) pe_int) pe_int)) (pe_op op_mul (pe_ix ix_list (pv 0) pe_int (fun _ _ => rfl)) pe_int)) pe_int) pe_int) (pv 1))))))), ?_⟩
    have hS : SqL K H b [.int x, .int y, .int z] := .inl (.inl hb)
    refine ⟨.ref b, rfl, b, _, 0, .int x, rfl, rfl, hS, atI_nat (j := 0) rfl, x, 0, rfl, rfl, _, rfl, ite2 (fun e => ?_) (fun e => ?_)⟩
    · -- the number itself serves
      refine ⟨.ref b, rfl, b, _, 0, .int x, rfl, rfl, hS, atI_nat (j := 0) rfl, .int s, rfl, x, s, rfl, rfl, hs, ?_⟩
      refine ⟨.ref b, rfl, b, _, 0, .int x, rfl, rfl, hS, atI_nat (j := 0) rfl, .int s, rfl, x, s, rfl, rfl, ⟨hs, by omega⟩, .ref b, rfl, b, _, 0, 0, rfl, rfl, hb, rfl, ?_⟩
      refine ⟨_, rfl, q _ _ (Int.emod_nonneg _ (by omega)) (Int.emod_lt_of_pos _ hs) ⟨_, y, z, upd_same, ?_, hy, hy2, hz, by omega⟩ keep_upd⟩
      exact Int.ediv_nonneg hx (by omega)
    · refine ⟨.int s, rfl, 10, 7, rfl, rfl, ⟨by decide, by decide, by decide⟩, s, _, rfl, rfl, _, rfl, ite2 (fun e2 => ?_) (fun _ => ?_)⟩
      · have e3 := of_decide_eq_true e2
        have e4 : (10 : Int) ^ Int.toNat 7 = 10000000 := by decide
        rw [e4] at e3
        omega
      refine ⟨.ref b, rfl, b, _, 2, .int z, rfl, rfl, hS, atI_nat (j := 2) rfl, z, 1, rfl, rfl, .ref b, rfl, b, _, 2, 2, rfl, rfl, hb, rfl, ?_⟩
      have h2 : upd H b (.lst ([V.int x, V.int y, V.int z].set 2 (.int (z + 1)))) b = some (.lst [.int x, .int y, .int (z + 1)]) := upd_same
      have hS2 : SqL K (upd H b (.lst ([V.int x, V.int y, V.int z].set 2 (.int (z + 1))))) b [.int x, .int y, .int (z + 1)] := .inl (.inl h2)
      refine ⟨.ref b, rfl, b, _, 1, .int y, rfl, rfl, hS2, atI_nat (j := 1) rfl, .ref b, rfl, b, _, 2, .int (z + 1), rfl, rfl, hS2, atI_nat (j := 2) rfl, 39373, z + 1, rfl, rfl, .inl ⟨by decide, by decide⟩, y, _, rfl, rfl, _, 5, rfl, rfl, ⟨by decide, by decide, by omega⟩, _, 2147483647, rfl, rfl, (show (0 : Int) < 2147483647 by decide), ?_⟩
      have o1 : 0 ≤ (y + 39373 * (z + 1)) ^ Int.toNat 5 % 2147483647 := Int.emod_nonneg _ (by decide)
      have o2 : (y + 39373 * (z + 1)) ^ Int.toNat 5 % 2147483647 < 2147483647 := Int.emod_lt_of_pos _ (by decide)
      refine ⟨_, rfl, _, rfl, _, 40009, rfl, rfl, (show (0 : Int) < 40009 by decide), _, 7, rfl, rfl, _, _, rfl, rfl, .inl ⟨Int.lt_of_lt_of_le (by decide) o1, Int.lt_trans o2 (by decide)⟩, .ref b, rfl, b, _, 2, .int (z + 1), rfl, rfl, hS2, atI_nat (j := 2) rfl, z + 1, 7919, rfl, rfl, .inr ⟨by decide, by decide⟩, _, _, rfl, rfl, _, 2147483629, rfl, rfl, (show (0 : Int) < 2147483629 by decide), _, 64, rfl, rfl, ⟨by decide, by decide⟩, .int s, rfl, _, s, rfl, rfl, hs, ?_⟩
      exact q _ _ (Int.emod_nonneg _ (by omega)) (Int.emod_lt_of_pos _ hs) ⟨x, y, z + 1, h2, hx, hy, hy2, by omega, by omega⟩ keep_upd
end
end Pc
namespace Pc
open PySem PySem.Spec PyProof.Rows L2 RZ
/-! ### data -/
theorem dp_ints {K : PySem.W.Frag} {H : Hp} : ∀ ns : List Int, DpAll K H (ns.map V.int) (ns.map PyData.int)
  | [] => .nil
  | n :: r => .cons (.int n) (dp_ints r)
theorem lay_ints : ∀ ns : List Int, PyData.canLayAll0 (ns.map PyData.int) = true
  | [] => rfl
  | n :: r => by
    show (PyData.canLay0 (.int n) && PyData.canLayAll0 (r.map PyData.int)) = true
    rw [lay_ints r]; rfl
theorem depth_ints : ∀ ns : List Int, PyData.depthAll (ns.map PyData.int) = 0
  | [] => rfl
  | n :: r => by
    show max (PyData.depth (.int n)) (PyData.depthAll (r.map PyData.int)) = 0
    rw [depth_ints r]; rfl
theorem shaped_list {ds : List PyData} (h : PyData.canLayAll0 ds = true) (d : PyData.depthAll ds ≤ 63) : SeqAt.shaped (.list ds) = true := by
  unfold SeqAt.shaped
  rw [Bool.and_eq_true]
  exact ⟨h, decide_eq_true (show PyData.depthAll ds + 1 ≤ 64 by omega)⟩
theorem shaped_tuple {ds : List PyData} (h : PyData.canLayAll0 ds = true) (d : PyData.depthAll ds ≤ 63) : SeqAt.shaped (.tuple ds) = true := by
  unfold SeqAt.shaped
  rw [Bool.and_eq_true]
  exact ⟨h, decide_eq_true (show PyData.depthAll ds + 1 ≤ 64 by omega)⟩
theorem shaped_ints (ns : List Int) : SeqAt.shaped (.list (ns.map PyData.int)) = true := shaped_list (lay_ints ns) (by rw [depth_ints]; decide)
theorem shaped_intsT (ns : List Int) : SeqAt.shaped (.tuple (ns.map PyData.int)) = true := shaped_tuple (lay_ints ns) (by rw [depth_ints]; decide)
/-- what a slice of a list of ints is -/
theorem cut_ints (ns : List Int) (lo hi : Option Int) : ∃ ms : List Int, cutV (ns.map V.int) lo hi = ms.map V.int ∧ ms = (ns.drop (HT.sIx ns.length 0 lo)).take (HT.sIx ns.length ns.length hi - HT.sIx ns.length 0 lo) := by
  refine ⟨_, ?_, rfl⟩
  unfold cutV
  rw [List.length_map, List.map_take, List.map_drop]
theorem map_set_int (cs : List Int) (j : Nat) (v : Int) : (cs.map V.int).set j (.int v) = (cs.set j v).map V.int := by
  rw [List.map_set]
theorem small63 {n : Nat} (h : n ≤ 63) : n ≤ sizeLine := Nat.le_trans h (by decide)
end Pc
namespace Pc
open PySem PySem.Spec PyProof.Rows L2 RZ
section
variable {P : Program} {w : World} {K : PySem.W.Frag} {mg : Str → Option Value} {base : Heap}
/-! ### the numbers of the script, the later ones added to the first -/
def spCells (K : PySem.W.Frag) : Sp := fun vs H Q _ => ∃ (a : Addr) (ns : List Int) (m : Nat), vs = [.ref a, .int m] ∧ SqL K H a (ns.map V.int) ∧ ns.length ≤ 63 ∧ 0 < m ∧ m ≤ 60 ∧
  ∀ H' p (cs : List Int), Same H H' → H p = none → H' p = some (.lst (cs.map V.int)) → 1 ≤ cs.length → cs.length ≤ m → Q (.ref p) H'
theorem ok_cells (T : Env K mg) : FnOk P w K mg base CX0 1 T.f_cells T.d_cells ["_law_script", "_law_most"] (spCells K) := by
  refine T.F_cells.ok sc_cells (fun vs H Q E h => ?_) (fun cdv A outer s H vs Q E hr h => ?_)
  · obtain ⟨a, ns, m, rfl, _⟩ := h
    rfl
  · obtain ⟨a, ns, m, rfl, hS, hn, hm, hm2, q⟩ := h
    refine ⟨_, pss_cons (ps_set (i := 2) sc_cells.nd rfl (.inl rfl) (pe_callTy call_list_of (by rfl) T.n_list (by decide +kernel) (pa_cons (pe_slice sl_list (pv 0) po_none (po_some (pv 1))) pa_nil)))
      (pss_cons (ps_for PassesOwn.never rfl (pi_enum (by rfl) T.n_enumerate (pa_cons (pe_slice sl_list (pv 0) (po_some (pv 1)) (po_some pe_int)) pa_nil))
          (pg_tup rfl (pgs_cons (pg_name (i := 3) sc_cells.nd rfl (.inl rfl)) (pgs_cons (pg_name (i := 4) sc_cells.nd rfl (.inl rfl)) pgs_nil)))
        (pss_one (ps_asg (pe_op op_add (pe_ix ix_list (pv 2) (pe_op op_mod (pv 3) (pv 1)) (fun _ _ => rfl)) (pe_op op_mul (pv 4) (pe_op op_add (pv 3) pe_int)))
          (pg_sub (pv 2) (pe_op op_mod (pv 3) (pv 1)) set_list))))
      (pss_one (ps_ret (pe_ifExp (pt_cmpR (op_neD hr.units) (pv 2) (pe_lst pa_nil) (nomark _)) (pv 2) (pe_lst (pa_cons pe_int pa_nil)))))), ?_⟩
    obtain ⟨ms, e1, e2⟩ := cut_ints ns none (some (m : Int))
    obtain ⟨ls, e3, e4⟩ := cut_ints ns (some (m : Int)) (some 63)
    have f2 : ms.length = min m ns.length := by
      rw [e2, HT.sIx_none, HT.sIx_nat, List.length_take, List.drop_zero]
      omega
    have f4 : ls.length = ns.length - m := by
      rw [e4, HT.sIx_nat, show (63 : Int) = ((63 : Nat) : Int) from rfl, HT.sIx_nat, List.length_take, List.length_drop]
      omega
    -- the copy of the first ones
    refine ⟨.ref a, rfl, .int m, rfl, m, rfl, a, ns.map V.int, rfl, hS, fun c nc => ⟨c, _, rfl, .inl (.inl (.inl upd_same)), fun l nl => ?_⟩⟩
    rw [e1] at nl ⊢
    have s1 : Same H (upd (upd H c (.lst (ms.map V.int))) l (.lst (ms.map V.int))) := (same_new nc).trans (same_new nl)
    have nl0 : H l = none := (same_new nc).free nl
    -- the later ones
    refine ⟨.ref a, rfl, .int m, rfl, m, rfl, _, rfl, a, ns.map V.int, rfl, s1.seq hS, fun d nd => ?_⟩
    rw [e3]
    refine ⟨d, ls.map V.int, rfl, .inl (.inl upd_same), ?_⟩
    have s2 : Same H _ := s1.trans (same_new (o := .lst (ls.map V.int)) nd)
    have ldd : l ≠ d := ne_of_none upd_same nd
    refine for_it walk_enum (fun i σ H' => Same H H' ∧ H' d = some (.lst (ls.map V.int)) ∧ ∃ (y3 y4 : Option V) (cs : List Int), σ = [some (.ref a), some (.int m), some (.ref l), y3, y4] ∧ H' l = some (.lst (cs.map V.int)) ∧ cs.length = ms.length)
      ⟨s2, upd_same, none, none, ms, rfl, by rw [upd_ne ldd, upd_same], rfl⟩ (fun i σ H' _ h => .inl (.inl h.2.1)) (fun i x σ H1 H2 hi h y => ?_) (fun σ H' h => ?_)
    · obtain ⟨sm, ed, y3, y4, cs, rfl, el, ecl⟩ := h
      obtain ⟨t, v1, v2, rfl, nt, rfl, g1, g2⟩ := y
      rw [List.length_map] at hi
      have ev1 : v1 = .int (i : Nat) := (Option.some.inj g1).symm
      have ev2 : v2 = .int ls[i] := by
        have g3 : (ls.map V.int)[i]? = some v2 := g2
        rw [List.getElem?_map, List.getElem?_eq_getElem hi] at g3
        exact (Option.some.inj g3).symm
      subst ev1 ev2
      have hml : cs.length = m := by omega
      have hlt : l ≠ t := ne_of_none el nt
      have hdt : d ≠ t := ne_of_none ed nt
      have elt : (upd H1 t (.tup [.int (i : Nat), .int ls[i]])) l = some (.lst (cs.map V.int)) := by rw [upd_ne hlt]; exact el
      have him : ((i : Int) % (m : Int)) = ((i % m : Nat) : Int) := by omega
      have hjm : i % m < cs.length := by rw [hml]; exact Nat.mod_lt _ hm
      have hix : ixN (cs.map V.int).length ((i : Int) % (m : Int)) = some (i % m) := by
        rw [him]
        unfold ixN
        rw [List.length_map, if_pos (by omega), if_pos (by omega)]; rfl
      refine ⟨t, _, rfl, .inl (.inl upd_same), rfl, _, _, rfl, _, _, rfl, rfl, ?_⟩
      refine ⟨.ref l, rfl, .int (i : Nat), rfl, .int m, rfl, (i : Nat), m, rfl, rfl, (show (0 : Int) < m by omega), l, _, _, .int cs[i % m], rfl, rfl, .inl (.inl elt), ?_, ?_⟩
      · unfold atI
        show (ixN (cs.map V.int).length ((i : Int) % (m : Int))).bind _ = _
        rw [hix]
        show (cs.map V.int)[i % m]? = _
        rw [List.getElem?_map, List.getElem?_eq_getElem hjm]; rfl
      refine ⟨.int ls[i], rfl, .int (i : Nat), rfl, (i : Nat), 2, rfl, rfl, ls[i], _, rfl, rfl, .inr ⟨by omega, by omega⟩, cs[i % m], _, rfl, rfl, .ref l, rfl, .int (i : Nat), rfl, .int m, rfl, (i : Nat), m, rfl, rfl, (show (0 : Int) < m by omega), l, _, _, i % m, rfl, rfl, elt, hix, ?_⟩
      refine ⟨?_, ?_, _, _, cs.set (i % m) (cs[i % m] + ls[i] * ((i : Nat) + 2)), rfl, ?_, ?_⟩
      · intro b o hb
        have nb : b ≠ l := ne_of_none hb nl0
        rw [upd_ne nb]
        exact same_new nt _ _ (sm b o hb)
      · rw [upd_ne ldd.symm, upd_ne hdt]; exact ed
      · rw [upd_same, ← map_set_int]
      · rw [List.length_set]; exact ecl
    · obtain ⟨sm, ed, y3, y4, cs, rfl, el, ecl⟩ := h
      refine ⟨.ref l, rfl, Nat.zero_le _, fun e ne => ?_⟩
      have hle : l ≠ e := ne_of_none el ne
      have elx : (upd H' e (.lst [])) l = some (.lst (cs.map V.int)) := by rw [upd_ne hle]; exact el
      refine ⟨.list (cs.map PyData.int), .list [], .lst (.inl (.inl elx)) (dp_ints cs), .lst (.inl (.inl upd_same)) .nil, shaped_ints cs, by decide, _, rfl, ite2 (fun b => ?_) (fun b => ?_)⟩
      · have hne : cs ≠ [] := fun z => by
          subst z
          exact absurd b (by decide)
        have : 0 < cs.length := List.length_pos_iff.mpr hne
        exact ⟨.ref l, rfl, q _ l cs (sm.trans (same_new ne)) nl0 elx (by omega) (by omega)⟩
      · refine ⟨by show 1 ≤ sizeLine; decide, fun p np => ?_⟩
        have s3 := sm.trans (same_new (o := .lst []) ne)
        exact q _ p [0] (s3.trans (same_new np)) (s3.free np) upd_same (by decide) (by show 1 ≤ m; omega)
end
end Pc
namespace Pc
open PySem PySem.Spec PyProof.Rows L2 RZ
/-! ### xs != [] for any items -/
def rNeNil (K : PySem.W.Frag) : R2 := fun x y H Q => ∃ a b xs, x = .ref a ∧ y = .ref b ∧ SqL K H a xs ∧ SqL K H b [] ∧ Q (.bl (!xs.isEmpty)) H
theorem op_neNil {X : Cx} (hu : X.A.units + 64 < cLine) : OpR X (compareOp .NotEq) (rNeNil X.K) := by
  intro pins s σ H x y v u Q I rx ry h
  obtain ⟨a, b, xs, rfl, rfl, h1, h2, q⟩ := h
  cases rx; cases ry
  obtain ⟨its, rv, p1, _⟩ := I.list h1
  obtain ⟨its2, rv2, p2, _⟩ := I.list h2
  have l1 := rv.length
  have l2 := rv2.length
  have hu0 : X.A.units < cLine := by omega
  cases xs with
  | nil =>
    have z1 : its.length = 0 := l1.symm
    have z2 : its2.length = 0 := l2.symm
    refine SeqAt.RcNeAt.lists (e := fun _ => true) p1.isList p2.isList (by simp [z1, z2]) hu0 (fun j j1 _ => ?_) X.prog X.w X.xe _ ?_
    · rw [List.size_toArray] at j1; omega
    · rw [List.size_toArray, z1]
      exact ⟨.bl false, H, I, rfl, q⟩
  | cons z r =>
    have z1 : its.length ≠ 0 := by rw [← l1]; simp
    have z2 : its2.length = 0 := l2.symm
    refine SeqAt.RcNeAt.lists_lengths p1.isList p2.isList (by simp [z2, z1]) hu0 X.prog X.w X.xe _ ?_
    exact ⟨.bl true, H, I, rfl, q⟩
theorem perm_erase {α : Type} : ∀ {l : List α} {i : Nat} (h : i < l.length), (l[i] :: l.eraseIdx i).Perm l
  | a :: r, 0, _ => List.Perm.refl _
  | a :: r, i + 1, h => (List.Perm.swap a (r[i]'(Nat.lt_of_succ_lt_succ h)) (r.eraseIdx i)).trans ((perm_erase (l := r) (i := i) (Nat.lt_of_succ_lt_succ h)).cons a)
/-- the place of an index that is not negative -/
theorem seq_ix {i : Int} {n : Nat} (h0 : 0 ≤ i) (h : i < n) : seqIndex? i n = some i.toNat := seqIndex_of h0 h
end Pc
namespace Pc
open PySem PySem.Spec PyProof.Rows L2 RZ
section
variable {P : Program} {w : World} {K : PySem.W.Frag} {mg : Str → Option Value} {base : Heap}
/-! ### some things in drawn order -/
def spStrewn (K : PySem.W.Frag) : Sp := fun vs H Q _ => ∃ (b a : Addr) (n : Nat) (xs : List V), vs = [.ref b, .ref a] ∧ Box (n + xs.length) H b ∧ SqL K H a xs ∧ xs.length ≤ 1000 ∧
  ∀ (H' : Hp) (p : Addr) (ys : List V), ys.Perm xs → Keep b H H' → Box n H' b → H p = none → H' p = some (.lst ys) → Q (.ref p) H'
theorem ok_strewn (T : Env K mg) : FnOk P w K mg base CX0 2 T.f_strewn T.d_strewn ["_law_box_here", "_law_some"] (spStrewn K) := by
  have GT : FnOk P w K mg base CX0 1 T.f_take T.d_take ["_law_box_here", "_law_span"] spTake := ok_take T
  refine T.F_strewn.ok sc_strewn (fun vs H Q E h => ?_) (fun cdv A outer s H vs Q E hr h => ?_)
  · obtain ⟨b, a, n, xs, rfl, _⟩ := h
    rfl
  · obtain ⟨b, a, n, xs, rfl, hB, hS, hlen, q⟩ := h
    refine ⟨_, pss_cons (ps_par (by rfl) sc_strewn.nd (i := 2) (j := 3) rfl rfl (by decide) rfl rfl (pa_cons (pe_callTy call_list_of (by rfl) T.n_list (by decide +kernel) (pa_cons (pv 1) pa_nil)) (pa_cons (pe_lst pa_nil) pa_nil)) (by rfl))
      (pss_cons (ps_while PassesOwn.never (pt_cmpR (op_neNil hr.units) (pv 2) (pe_lst pa_nil) (nomark _))
        (pss_one (ps_expr (pe_bm PySem.F.plainAttrs_list PySem.F.slot_list_append PySem.F.type_list_append mt_append (pv 3) (pa_cons
          (pe_bm PySem.F.plainAttrs_list PySem.F.slot_list_pop PySem.F.type_list_pop mt_popAt (pv 2) (pa_cons
            (pe_call GT hr (by rfl) T.g_take T.F_take.kp T.b_take .nil pass0 (pa_cons (pv 0) (pa_cons (pe_callB call_len_seq (by rfl) T.n_len PySem.boot_len (pa_cons (pv 2) pa_nil)) pa_nil))) pa_nil)) pa_nil)))))
      (pss_one (ps_ret (pv 3)))), ?_⟩
    refine ⟨.ref a, rfl, a, xs, rfl, .inl hS, fun l nl => ⟨Nat.zero_le _, fun f nf => ⟨_, _, rfl, ?_⟩⟩⟩
    have s1 : Same H (upd (upd H l (.lst xs)) f (.lst [])) := (same_new nl).trans (same_new nf)
    have nf0 : H f = none := (same_new nl).free nf
    have hlf : l ≠ f := ne_of_none upd_same nf
    have hbl : b ≠ l := hB.ne_new nl
    have hbf : b ≠ f := hB.ne_new nf0
    refine ⟨fun m σ H' => ∃ left found : List V, σ = [some (.ref b), some (.ref a), some (.ref l), some (.ref f)] ∧ H' l = some (.lst left) ∧ H' f = some (.lst found) ∧ (left ++ found).Perm xs ∧ Box (n + left.length) H' b ∧ Keep b H H' ∧ left.length = m,
      ⟨xs.length, xs, [], rfl, by rw [upd_ne hlf, upd_same], upd_same, by rw [List.append_nil], hB.same s1, Keep.of_same s1, rfl⟩, fun m σ H' hW => ?_⟩
    obtain ⟨left, found, rfl, el, ef, hp, hb', hk, hm⟩ := hW
    refine ⟨.ref l, rfl, Nat.zero_le _, fun e ne => ⟨l, e, left, rfl, rfl, .inl (.inl ?_), .inl (.inl upd_same), _, rfl, ite2 (fun c => ?_) (fun c => ?_)⟩⟩
    · rw [upd_ne (ne_of_none el ne)]; exact el
    · -- one more is drawn
      have hl0 : 0 < left.length := by
        cases left with
        | nil => exact absurd c (by decide)
        | cons x r => exact Nat.succ_pos _
      have hll : left.length ≤ 1000 := by
        have := hp.length_eq
        rw [List.length_append] at this
        omega
      have el2 : (upd H' e (.lst [])) l = some (.lst left) := by rw [upd_ne (ne_of_none el ne)]; exact el
      have ef2 : (upd H' e (.lst [])) f = some (.lst found) := by rw [upd_ne (ne_of_none ef ne)]; exact ef
      refine ⟨fun σ' H2 => ∃ left' found' : List V, σ' = [some (.ref b), some (.ref a), some (.ref l), some (.ref f)] ∧ H2 l = some (.lst left') ∧ H2 f = some (.lst found') ∧ (left' ++ found').Perm xs ∧ Box (n + left'.length) H2 b ∧ Keep b H H2 ∧ left'.length + 1 = m,
        fun σ' H2 h2 => ?_, ?_⟩
      · obtain ⟨left', found', g1, g2, g3, g4, g5, g6, g7⟩ := h2
        exact ⟨left'.length, by omega, left', found', g1, g2, g3, g4, g5, g6, rfl⟩
      · refine ⟨.ref f, rfl, .inl ⟨rfl, _, .inl (.inl ef2)⟩, .ref l, rfl, .inl ⟨rfl, _, .inl (.inl el2)⟩, .ref b, rfl, .ref l, rfl, l, left, rfl, .inl (.inl (.inl el2)), ?_⟩
        refine ⟨b, n + (left.length - 1), left.length, rfl, (hb'.same (same_new ne)).mono (by omega), by omega, by omega, fun r H2 r0 r1 hb2 k2 => ?_⟩
        have el3 : H2 l = some (.lst left) := k2 l _ hbl.symm el2
        have ef3 : H2 f = some (.lst found) := k2 f _ hbf.symm ef2
        have hj : r.toNat < left.length := by omega
        refine ⟨l, left, r, r.toNat, left[r.toNat], rfl, rfl, el3, by omega, by omega, seq_ix r0 r1, List.getElem?_eq_getElem hj, ?_⟩
        have ef4 : (upd H2 l (.lst (left.eraseIdx r.toNat))) f = some (.lst found) := by rw [upd_ne hlf.symm]; exact ef3
        have hfl : found.length ≤ 1000 := by
          have := hp.length_eq
          rw [List.length_append] at this
          omega
        refine ⟨f, found, _, rfl, rfl, ef4, small1000 hfl, left.eraseIdx r.toNat, found ++ [left[r.toNat]], rfl, ?_, upd_same, ?_, ?_, ?_, ?_⟩
        · rw [upd_ne hlf, upd_same]
        · refine List.Perm.trans ?_ hp
          have p1 : (left[r.toNat] :: left.eraseIdx r.toNat).Perm left := perm_erase hj
          have p2 : (left.eraseIdx r.toNat ++ (found ++ [left[r.toNat]])).Perm (left[r.toNat] :: left.eraseIdx r.toNat ++ found) := by
            rw [← List.append_assoc]
            exact List.perm_append_comm.trans (by rw [List.singleton_append, List.cons_append])
          exact p2.trans (p1.append_right found)
        · have : (left.eraseIdx r.toNat).length = left.length - 1 := List.length_eraseIdx_of_lt hj
          rw [this]
          refine (hb2.keep (c := l) keep_upd hbl).keep (c := f) keep_upd hbf
        · intro x o nx hx
          have nxl : x ≠ l := ne_of_none hx nl
          have nxf : x ≠ f := ne_of_none hx nf0
          rw [upd_ne nxf, upd_ne nxl]
          exact k2 x o nx (same_new ne _ _ (hk x o nx hx))
        · rw [List.length_eraseIdx_of_lt hj]; omega
    · have hl0 : left = [] := by
        cases left with
        | nil => rfl
        | cons x r => exact absurd rfl c
      subst hl0
      have ef2 : (upd H' e (.lst [])) f = some (.lst found) := by rw [upd_ne (ne_of_none ef ne)]; exact ef
      exact ⟨.ref f, rfl, q _ f found hp (hk.trans (Keep.of_same (same_new ne))) (hb'.same (same_new ne)) nf0 ef2⟩
end
end Pc
namespace Pc
open PySem PySem.Spec PyProof.Rows L2 RZ
/-! ### pairings as lists of natural numbers -/
/-- the numbers as values -/
def nv (l : List Nat) : List V := l.map fun (i : Nat) => V.int (i : Int)
theorem nv_length (l : List Nat) : (nv l).length = l.length := List.length_map _
theorem nv_get {l : List Nat} {i x : Nat} (h : l[i]? = some x) : (nv l)[i]? = some (.int x) := by
  unfold nv; rw [List.getElem?_map, h]; rfl
theorem nv_at {l : List Nat} {i x : Nat} (h : l[i]? = some x) : atI (nv l) (i : Int) = some (.int x) := atI_nat (nv_get h)
theorem nv_set (l : List Nat) (i x : Nat) : (nv l).set i (.int (x : Int)) = nv (l.set i x) := by
  unfold nv; rw [List.map_set]
theorem nv_get' {l : List Nat} {i : Nat} {v : V} (h : (nv l)[i]? = some v) : ∃ x, l[i]? = some x ∧ v = .int (x : Int) := by
  unfold nv at h
  rw [List.getElem?_map] at h
  cases e : l[i]? with
  | none => rw [e] at h; cases h
  | some x => rw [e] at h; exact ⟨x, rfl, (Option.some.inj h).symm⟩
theorem ixN_nat {n i : Nat} (h : i < n) : ixN n (i : Int) = some i := by
  unfold ixN
  rw [if_pos (by omega), if_pos (by omega)]; rfl
theorem get_some {α : Type} {l : List α} {i : Nat} (h : i < l.length) : ∃ x, l[i]? = some x := ⟨_, List.getElem?_eq_getElem h⟩
theorem get_lt {α : Type} {l : List α} {i : Nat} {x : α} (h : l[i]? = some x) : i < l.length := (List.getElem?_eq_some_iff.mp h).1
/-- a pairing of n people -/
structure IsPair (n : Nat) (ps : List Nat) : Prop where
  len : ps.length = n
  par : ∀ x, x < n → ∃ y, ps[x]? = some y ∧ y < n ∧ y ≠ x ∧ ps[y]? = some x
/-- after t turns: the first t pairs are joined -/
def PInv (os fs : List Nat) (t : Nat) : Prop := fs.length = os.length ∧ ∀ j, j < t → ∀ x y, os[2 * j]? = some x → os[2 * j + 1]? = some y → fs[x]? = some y ∧ fs[y]? = some x
theorem PInv.step {os fs : List Nat} {t x y : Nat} (hnd : os.Nodup) (hlt : ∀ z ∈ os, z < os.length) (h : PInv os fs t) (hx : os[2 * t]? = some x) (hy : os[2 * t + 1]? = some y) :
    PInv os ((fs.set x y).set y x) (t + 1) := by
  obtain ⟨hl, hp⟩ := h
  have xl : x < fs.length := by rw [hl]; exact hlt x (List.mem_of_getElem? hx)
  have yl : y < fs.length := by rw [hl]; exact hlt y (List.mem_of_getElem? hy)
  have xy : x ≠ y := fun e => by
    subst e
    have := nd_ix hnd hx hy
    omega
  refine ⟨by rw [List.length_set, List.length_set, hl], fun j hj u v hu hv => ?_⟩
  by_cases e : j = t
  · subst e
    have e1 : u = x := Option.some.inj (hu.symm.trans hx)
    have e2 : v = y := Option.some.inj (hv.symm.trans hy)
    subst e1 e2
    refine ⟨?_, ?_⟩
    · rw [List.getElem?_set_ne (Ne.symm xy), List.getElem?_set_self xl]
    · rw [List.getElem?_set_self (by rw [List.length_set]; exact yl)]
  · obtain ⟨h1, h2⟩ := hp j (by omega) u v hu hv
    have a1 : x ≠ u := fun z => by subst z; have := nd_ix hnd hx hu; omega
    have a2 : y ≠ u := fun z => by subst z; have := nd_ix hnd hy hu; omega
    have a3 : x ≠ v := fun z => by subst z; have := nd_ix hnd hx hv; omega
    have a4 : y ≠ v := fun z => by subst z; have := nd_ix hnd hy hv; omega
    refine ⟨?_, ?_⟩
    · rw [List.getElem?_set_ne a2, List.getElem?_set_ne a1]; exact h1
    · rw [List.getElem?_set_ne a4, List.getElem?_set_ne a3]; exact h2
theorem PInv.done {os fs : List Nat} {n : Nat} (hp : os.Perm (List.range n)) (he : n % 2 = 0) (h : PInv os fs (n / 2)) : IsPair n fs := by
  have hl : os.length = n := by rw [hp.length_eq, List.length_range]
  have hnd : os.Nodup := hp.nodup_iff.mpr List.nodup_range
  refine ⟨by rw [h.1, hl], fun x hx => ?_⟩
  have hm : x ∈ os := hp.mem_iff.mpr (List.mem_range.mpr hx)
  obtain ⟨i, hi, ei⟩ := List.mem_iff_getElem.mp hm
  have gi : os[i]? = some x := by rw [List.getElem?_eq_getElem hi, ei]
  have lt_n : ∀ {k z : Nat}, os[k]? = some z → z < n := fun {k z} hz => List.mem_range.mp (hp.mem_iff.mp (List.mem_of_getElem? hz))
  by_cases hq : i % 2 = 0
  · have i1 : i + 1 < os.length := by omega
    obtain ⟨y, gy⟩ := get_some i1
    have g1 : os[2 * (i / 2)]? = some x := by rw [show 2 * (i / 2) = i by omega]; exact gi
    have g2 : os[2 * (i / 2) + 1]? = some y := by rw [show 2 * (i / 2) + 1 = i + 1 by omega]; exact gy
    obtain ⟨r1, r2⟩ := h.2 (i / 2) (by omega) x y g1 g2
    exact ⟨y, r1, lt_n gy, fun e => by subst e; have := nd_ix hnd gi gy; omega, r2⟩
  · have i1 : i - 1 < os.length := by omega
    obtain ⟨y, gy⟩ := get_some i1
    have g1 : os[2 * (i / 2)]? = some y := by rw [show 2 * (i / 2) = i - 1 by omega]; exact gy
    have g2 : os[2 * (i / 2) + 1]? = some x := by rw [show 2 * (i / 2) + 1 = i by omega]; exact gi
    obtain ⟨r1, r2⟩ := h.2 (i / 2) (by omega) y x g1 g2
    exact ⟨y, r2, lt_n gy, fun e => by subst e; have := nd_ix hnd gi gy; omega, r1⟩
/-- range(0, n, 2) -/
theorem fits_long {i : Int} (h1 : -(2 ^ 62) ≤ i) (h2 : i < 2 ^ 62) : Builtin.Range.rangeFitsLong i = true := by
  unfold Builtin.Range.rangeFitsLong
  rw [Bool.and_eq_true]
  exact ⟨decide_eq_true (by omega), decide_eq_true (by omega)⟩
theorem rgc_two {n : Nat} (h : n ≤ 1000000) : RgC 0 (n : Int) 2 ((n + 1) / 2) := by
  have e : Builtin.Range.rangeSize 0 (n : Int) 2 = (((n + 1) / 2 : Nat) : Int) := by
    unfold Builtin.Range.rangeSize
    rw [if_pos (by decide)]
    split <;> omega
  refine ⟨by decide, by decide, ?_, e⟩
  unfold Builtin.Range.small
  rw [e, fits_long (i := 0) (by decide) (by decide), fits_long (i := (n : Int)) (by omega) (by omega), fits_long (i := 2) (by decide) (by decide), fits_long (i := (((n + 1) / 2 : Nat) : Int)) (by omega) (by omega), if_pos (by decide), fits_long (i := (n : Int) + (2 - 1)) (by omega) (by omega), Bool.or_true]
  rfl
theorem rep_flat {α : Type} (n : Nat) (x : α) : (List.replicate n [x]).flatten = List.replicate n x := by
  induction n with
  | zero => rfl
  | succ n ih => rw [List.replicate_succ, List.flatten_cons, ih, List.replicate_succ]; rfl
end Pc
namespace Pc
open PySem PySem.Spec PyProof.Rows L2 RZ
section
variable {P : Program} {w : World} {K : PySem.W.Frag} {mg : Str → Option Value} {base : Heap}
/-! ### a pairing out of an order -/
def spPaired (K : PySem.W.Frag) : Sp := fun vs H Q _ => ∃ (a : Addr) (os : List Nat) (n : Nat), vs = [.ref a] ∧ SqL K H a (nv os) ∧ os.Perm (List.range n) ∧ n % 2 = 0 ∧ n ≤ 1000 ∧
  ∀ (H' : Hp) (p : Addr) (ps : List Nat), IsPair n ps → Same H H' → H p = none → H' p = some (.tup (nv ps)) → Q (.ref p) H'
theorem ok_paired (T : Env K mg) : FnOk P w K mg base CX0 1 T.f_paired T.d_paired ["_law_order"] (spPaired K) := by
  refine T.F_paired.ok sc_paired (fun vs H Q E h => ?_) (fun cdv A outer s H vs Q E hr h => ?_)
  · obtain ⟨a, os, n, rfl, _⟩ := h
    rfl
  · obtain ⟨a, os, n, rfl, hS, hp, he, hn, q⟩ := h
    refine ⟨_, pss_cons (ps_set (i := 1) sc_paired.nd rfl (.inl rfl) (pe_op op_rep (pe_lst (pa_cons pe_int pa_nil)) (pe_callB call_len_seq (by rfl) T.n_len PySem.boot_len (pa_cons (pv 0) pa_nil))))
      (pss_cons (ps_for PassesOwn.never rfl (pi_range3 rfl T.n_range (pa_cons pe_int (pa_cons (pe_callB call_len_seq (by rfl) T.n_len PySem.boot_len (pa_cons (pv 0) pa_nil)) (pa_cons pe_int pa_nil))))
          (pg_name (i := 2) sc_paired.nd rfl (.inl rfl))
        (pss_one (ps_asg (pe_tup (pa_cons (pe_ix ix_list (pv 0) (pe_op op_add (pv 2) pe_int) (fun _ _ => rfl)) (pa_cons (pe_ix ix_list (pv 0) (pv 2) (fun _ _ => rfl)) pa_nil)))
          (pg_tup rfl (pgs_cons (pg_sub (pv 1) (pe_ix ix_list (pv 0) (pv 2) (fun _ _ => rfl)) set_list) (pgs_cons (pg_sub (pv 1) (pe_ix ix_list (pv 0) (pe_op op_add (pv 2) pe_int) (fun _ _ => rfl)) set_list) pgs_nil))))))
      (pss_one (ps_ret (pe_callTy call_tuple_of (by rfl) T.n_tuple (by decide +kernel) (pa_cons (pv 1) pa_nil))))), ?_⟩
    have hl : os.length = n := by rw [hp.length_eq, List.length_range]
    have hl2 : (nv os).length = n := by rw [nv_length, hl]
    have hnd : os.Nodup := hp.nodup_iff.mpr List.nodup_range
    have hlt : ∀ z ∈ os, z < os.length := fun z hz => by rw [hl]; exact List.mem_range.mp (hp.mem_iff.mp hz)
    refine ⟨by show 1 ≤ sizeLine; decide, fun e ne => ?_⟩
    have s0 : Same H (upd H e (.lst [.int 0])) := same_new ne
    refine ⟨.ref a, rfl, a, nv os, rfl, .inl (s0.seq hS), e, _, [.int 0], rfl, rfl, upd_same, ?_, ?_, ?_, fun f nf => ?_⟩
    · rw [hl2]; omega
    · rw [hl2]; omega
    · rw [hl2]
      show 1 * Int.toNat (n : Int) ≤ sizeLine
      exact Nat.le_of_lt (small1000 (by omega))
    have s1 : Same H _ := s0.trans (same_new (o := .lst (List.replicate ((nv os).length : Int).toNat [V.int 0]).flatten) nf)
    have nf0 : H f = none := s0.free nf
    have e0 : (List.replicate ((nv os).length : Int).toNat [V.int 0]).flatten = nv (List.replicate n 0) := by
      rw [rep_flat, hl2, Int.toNat_natCast]
      unfold nv
      rw [List.map_replicate]; rfl
    refine ⟨.ref a, rfl, a, nv os, rfl, .inl (s1.seq hS), 0, _, 2, n / 2, rfl, ?_, ?_⟩
    · rw [hl2]
      have := rgc_two (n := n) (by omega)
      rw [show (n + 1) / 2 = n / 2 by omega] at this
      exact this
    refine for_rangeC (fun t σ H' => Same H H' ∧ ∃ (y : Option V) (fs : List Nat), σ = [some (.ref a), some (.ref f), y] ∧ H' f = some (.lst (nv fs)) ∧ PInv os fs t)
      ⟨s1, none, List.replicate n 0, rfl, by rw [upd_same, e0], by rw [List.length_replicate, hl], fun j hj => absurd hj (Nat.not_lt_zero _)⟩ (fun t σ H' ht h => ?_) (fun σ H' h => ?_)
    · obtain ⟨sm, y, fs, rfl, ef, pi⟩ := h
      obtain ⟨x1, g1⟩ := get_some (l := os) (i := 2 * t) (by omega)
      obtain ⟨x2, g2⟩ := get_some (l := os) (i := 2 * t + 1) (by omega)
      have hS' : SqL K H' a (nv os) := sm.seq hS
      have ea : atI (nv os) ((0 : Int) + (t : Nat) * 2) = some (.int x1) := by
        rw [show (0 : Int) + (t : Nat) * 2 = ((2 * t : Nat) : Int) by omega]; exact nv_at g1
      have eb : atI (nv os) ((0 : Int) + (t : Nat) * 2 + 1) = some (.int x2) := by
        rw [show (0 : Int) + (t : Nat) * 2 + 1 = ((2 * t + 1 : Nat) : Int) by omega]; exact nv_at g2
      have l1 : x1 < fs.length := by rw [pi.1]; exact hlt _ (List.mem_of_getElem? g1)
      have l2 : x2 < fs.length := by rw [pi.1]; exact hlt _ (List.mem_of_getElem? g2)
      refine ⟨.ref a, rfl, _, rfl, _, 1, rfl, rfl, a, _, _, _, rfl, rfl, hS', eb, .ref a, rfl, _, rfl, a, _, _, _, rfl, rfl, hS', ea, by show 2 ≤ sizeLine; decide, fun tp nt => ?_⟩
      have st : Same H' (upd H' tp (.tup [.int x2, .int x1])) := same_new nt
      have eft : (upd H' tp (.tup [.int x2, .int x1])) f = some (.lst (nv fs)) := st _ _ ef
      have nft : f ≠ tp := ne_of_none ef nt
      refine ⟨tp, _, rfl, .inl (.inl upd_same), rfl, _, _, rfl, .ref f, rfl, .ref a, rfl, _, rfl, a, _, _, _, rfl, rfl, st.seq hS', ea, f, _, _, x1, rfl, rfl, eft, ixN_nat (by rw [nv_length]; exact l1), ?_⟩
      have sq : SqL K (upd (upd H' tp (.tup [.int x2, .int x1])) f (.lst ((nv fs).set x1 (.int x2)))) a (nv os) := by
        have : ∀ b o, H b = some o → (upd (upd H' tp (.tup [.int x2, .int x1])) f (.lst ((nv fs).set x1 (.int x2)))) b = some o := fun b o hb => by
          rw [upd_ne (ne_of_none hb nf0)]; exact st _ _ (sm _ _ hb)
        exact Same.seq this hS
      refine ⟨_, _, rfl, .ref f, rfl, .ref a, rfl, _, rfl, _, 1, rfl, rfl, a, _, _, _, rfl, rfl, sq, eb, f, _, _, x2, rfl, rfl, upd_same, ?_, ?_⟩
      · rw [List.length_set]; exact ixN_nat (by rw [nv_length]; exact l2)
      · refine ⟨rfl, fun b o hb => ?_, _, (fs.set x1 x2).set x2 x1, rfl, ?_, pi.step hnd hlt g1 g2⟩
        · rw [upd_ne (ne_of_none hb nf0), upd_ne (ne_of_none hb nf0)]; exact st _ _ (sm _ _ hb)
        · rw [upd_same, nv_set, nv_set]
    · obtain ⟨sm, y, fs, rfl, ef, pi⟩ := h
      refine ⟨.ref f, rfl, f, _, rfl, .inl ⟨.inl (.inl ef), fun p np => ?_⟩⟩
      exact q _ p fs (pi.done hp he) (sm.trans (same_new np)) (sm.free np) upd_same
end
end Pc
namespace Pc
open PySem PySem.Spec PyProof.Rows L2 RZ
theorem perm_map_inv {α β : Type} (f : α → β) {zs ys : List β} (h : zs.Perm ys) : ∀ l : List α, zs = l.map f → ∃ l' : List α, ys = l'.map f ∧ l'.Perm l := by
  induction h with
  | nil => exact fun l e => ⟨l, e, List.Perm.refl _⟩
  | cons x _ ih =>
    intro l e
    cases l with
    | nil => cases e
    | cons a r =>
      injection e with e1 e2
      obtain ⟨l', h1, h2⟩ := ih r e2
      exact ⟨a :: l', by rw [h1, e1]; rfl, h2.cons a⟩
  | swap x y t =>
    intro l e
    cases l with
    | nil => cases e
    | cons a r =>
      cases r with
      | nil => injection e with _ e2; cases e2
      | cons b r =>
        injection e with e1 e2
        injection e2 with e2 e3
        exact ⟨b :: a :: r, by rw [e1, e2, e3]; rfl, List.Perm.swap _ _ _⟩
  | trans _ _ ih1 ih2 =>
    intro l e
    obtain ⟨l1, h1, h2⟩ := ih1 l e
    obtain ⟨l2, h3, h4⟩ := ih2 l1 h1
    exact ⟨l2, h3, h4.trans h2⟩
theorem rg_nv (n : Nat) : rgV 0 (n : Int) = nv (List.range n) := by
  unfold rgV nv
  rw [Int.sub_zero, Int.toNat_natCast]
  refine List.map_congr_left fun i _ => ?_
  rw [Int.zero_add]
end Pc
namespace Pc
open PySem PySem.Spec PyProof.Rows L2 RZ
section
variable {P : Program} {w : World} {K : PySem.W.Frag} {mg : Str → Option Value} {base : Heap}
/-! ### a drawn pairing -/
def spRandom : Sp := fun vs H Q _ => ∃ (b : Addr) (n k : Nat), vs = [.ref b, .int k] ∧ Box (n + k) H b ∧ k % 2 = 0 ∧ k ≤ 1000 ∧
  ∀ (H' : Hp) (p : Addr) (ps : List Nat), IsPair k ps → Keep b H H' → Box n H' b → H p = none → H' p = some (.tup (nv ps)) → Q (.ref p) H'
theorem ok_random (T : Env K mg) : FnOk P w K mg base CX0 3 T.f_random T.d_random ["_law_box_here", "_law_count"] spRandom := by
  have GS : FnOk P w K mg base CX0 2 T.f_strewn T.d_strewn ["_law_box_here", "_law_some"] (spStrewn K) := ok_strewn T
  have GP : FnOk P w K mg base CX0 1 T.f_paired T.d_paired ["_law_order"] (spPaired K) := ok_paired T
  refine T.F_random.ok sc_random (fun vs H Q E h => ?_) (fun cdv A outer s H vs Q E hr h => ?_)
  · obtain ⟨b, n, k, rfl, _⟩ := h
    rfl
  · obtain ⟨b, n, k, rfl, hB, he, hk, q⟩ := h
    refine ⟨_, pss_one (ps_ret (pe_call GP (hr.mono (by decide)) (by rfl) T.g_paired T.F_paired.kp T.b_paired .nil pass0 (pa_cons
      (pe_call GS hr (by rfl) T.g_strewn T.F_strewn.kp T.b_strewn .nil pass0 (pa_cons (pv 0) (pa_cons (pe_listRg rfl (by rfl) T.n_list (prg_1 (by rfl) T.n_range (pv 1))) pa_nil))) pa_nil))), ?_⟩
    refine ⟨.ref b, rfl, .int k, rfl, k, rfl, RgOk.of_le (by decide) (by omega) (by decide) (by omega), fun a na => ?_⟩
    have s1 : Same H _ := same_new (o := .lst (rgV 0 (k : Int))) na
    have hl : (rgV 0 (k : Int)).length = k := by rw [rgV_length]; omega
    refine ⟨b, a, n, _, rfl, (hB.same s1).mono (by rw [hl]; exact Nat.le_refl _), .inl (.inl upd_same), by rw [hl]; exact hk, fun H2 p2 ys hp hk2 hb2 np2 ep2 => ?_⟩
    obtain ⟨os, e1, e2⟩ := perm_map_inv (fun (i : Nat) => V.int (i : Int)) hp.symm (List.range k) (rg_nv k)
    have ep3 : H2 p2 = some (.lst (nv os)) := by rw [ep2, e1]; rfl
    refine ⟨p2, os, k, rfl, .inl (.inl ep3), e2, he, hk, fun H3 p ps hps s3 np ep => ?_⟩
    have k3 : Keep b H H3 := (Keep.of_same s1).trans (hk2.trans (Keep.of_same s3))
    refine q H3 p ps hps k3 (hb2.same s3) ?_ ep
    cases hh : H p with
    | none => rfl
    | some o =>
      have hpb : p ≠ b := fun z => by
        subst z
        obtain ⟨x, y, z, ex, _⟩ := hb2
        rw [ex] at np; cases np
      have := hk2 p o hpb (s1 p o hh)
      rw [this] at np; cases np
end
end Pc
namespace Pc
open PySem PySem.Spec PyProof.Rows L2 RZ
/-! ### data where more is tracked -/
theorem same_tup {K : PySem.W.Frag} {H H' : Hp} {a : Addr} {xs : List V} (e : Same H H') (h : SqT K H a xs) : SqT K H' a xs := by
  rcases h with (h | ⟨o, h⟩) | h
  · exact .inl (.inl (e _ _ h))
  · exact .inl (.inr ⟨o, e _ _ h⟩)
  · exact .inr h
mutual
theorem dp_same {K : PySem.W.Frag} {H H' : Hp} (e : Same H H') : ∀ {v : V} {d : PyData}, Dp K H v d → Dp K H' v d
  | _, _, .non => .non
  | _, _, .bl b => .bl b
  | _, _, .int i => .int i
  | _, _, .str x => .str x
  | _, _, .lst h a => .lst (e.seq h) (dpa_same e a)
  | _, _, .tup h a => .tup (same_tup e h) (dpa_same e a)
theorem dpa_same {K : PySem.W.Frag} {H H' : Hp} (e : Same H H') : ∀ {vs : List V} {ds : List PyData}, DpAll K H vs ds → DpAll K H' vs ds
  | _, _, .nil => .nil
  | _, _, .cons h a => .cons (dp_same e h) (dpa_same e a)
end
theorem dpa_len {K : PySem.W.Frag} {H : Hp} : ∀ {vs : List V} {ds : List PyData}, DpAll K H vs ds → vs.length = ds.length
  | _, _, .nil => rfl
  | _, _, .cons _ a => by rw [List.length_cons, List.length_cons, dpa_len a]
theorem dpa_get {K : PySem.W.Frag} {H : Hp} : ∀ {vs : List V} {ds : List PyData} {i : Nat} {v : V}, DpAll K H vs ds → vs[i]? = some v → ∃ d, ds[i]? = some d ∧ Dp K H v d
  | _, _, _, _, .nil, h => by simp at h
  | _, _, 0, _, .cons (d := d) h _, e => by
    cases Option.some.inj e
    exact ⟨d, rfl, h⟩
  | _, _, i + 1, v, .cons _ a, e => dpa_get (i := i) a e
theorem depth_get : ∀ {ds : List PyData} {i : Nat} {d : PyData}, ds[i]? = some d → d.depth ≤ PyData.depthAll ds
  | [], _, _, h => by simp at h
  | d :: r, 0, _, h => by
    cases Option.some.inj h
    exact Nat.le_max_left _ _
  | d :: r, i + 1, x, h => Nat.le_trans (depth_get (i := i) (ds := r) h) (Nat.le_max_right _ _)
mutual
/-- no list in it is longer than a hundred thousand -/
def narrow : PyData → Prop
  | .list xs => xs.length ≤ 100000 ∧ narrowAll xs
  | .tuple xs => xs.length ≤ 100000 ∧ narrowAll xs
  | _ => True
def narrowAll : List PyData → Prop
  | [] => True
  | x :: xs => narrow x ∧ narrowAll xs
end
theorem narrow_get : ∀ {ds : List PyData} {i : Nat} {d : PyData}, narrowAll ds → ds[i]? = some d → narrow d
  | [], _, _, _, h => by simp at h
  | d :: r, 0, _, n, h => by
    cases Option.some.inj h
    exact n.1
  | d :: r, i + 1, x, n, h => narrow_get (i := i) (ds := r) n.2 h
theorem narrow_of : ∀ {ds : List PyData}, (∀ d ∈ ds, narrow d) → narrowAll ds
  | [], _ => trivial
  | d :: r, h => ⟨h d List.mem_cons_self, narrow_of fun x hx => h x (List.mem_cons_of_mem _ hx)⟩
theorem narrow_ints (ns : List Int) : narrowAll (ns.map PyData.int) := narrow_of fun d hd => by
  obtain ⟨i, _, rfl⟩ := List.mem_map.mp hd
  exact trivial
theorem line_big {n : Nat} (h : n ≤ 100000) : n < sizeLine := Nat.lt_of_le_of_lt h (by decide)
theorem ty_lst {K : PySem.W.Frag} {H : Hp} {a : Addr} {xs : List V} (h : SqL K H a xs) : TyX K H (.ref a) (.type "list") := by
  rcases h with (h | ⟨o, h⟩) | ⟨o, its, n, h, c, _⟩
  · exact .base (.lst h)
  · exact .base (.frz h)
  · exact .kList h c
theorem ty_tup {K : PySem.W.Frag} {H : Hp} {a : Addr} {xs : List V} (h : SqT K H a xs) : TyX K H (.ref a) (.type "tuple") := by
  rcases h with (h | ⟨o, h⟩) | ⟨o, its, n, h, c, _⟩
  · exact .base (.tup h)
  · exact .fTuple h
  · exact .kTuple h c
theorem kit2 {K : PySem.W.Frag} {t a b : String} {p q : Bool} (h1 : kitB t a = some p) (h2 : kitB t b = some q) : PySem.W.kitAny K (.type t) [.type a, .type b] = some (p || q) := by
  refine kitAny_cons (kit_ty h1) (fun e => kitAny_cons (kit_ty h2) (fun e2 => ?_) (fun e2 => ?_)) (fun e => ?_)
  · subst e e2; rfl
  · subst e e2; rfl
  · subst e; rfl
section
variable {K : PySem.W.Frag}
theorem any_lt_int : PySem.W.kitAny K (.type "int") [.type "list", .type "tuple"] = some false := kit2 (p := false) (q := false) (by decide +kernel) (by decide +kernel)
theorem any_sb_int : PySem.W.kitAny K (.type "int") [.type "str", .type "bool"] = some false := kit2 (p := false) (q := false) (by decide +kernel) (by decide +kernel)
theorem any_bs_int : PySem.W.kitAny K (.type "int") [.type "bool", .type "str"] = some false := kit2 (p := false) (q := false) (by decide +kernel) (by decide +kernel)
theorem one_int_int : PySem.W.kitOne K (.type "int") (.type "int") = some true := kit_ty (by decide +kernel)
theorem one_int_bool : PySem.W.kitOne K (.type "int") (.type "bool") = some false := kit_ty (by decide +kernel)
theorem one_int_list : PySem.W.kitOne K (.type "int") (.type "list") = some false := kit_ty (by decide +kernel)
theorem one_int_tuple : PySem.W.kitOne K (.type "int") (.type "tuple") = some false := kit_ty (by decide +kernel)
theorem any_lt_none : PySem.W.kitAny K (.type "NoneType") [.type "list", .type "tuple"] = some false := kit2 (p := false) (q := false) (by decide +kernel) (by decide +kernel)
theorem any_sb_none : PySem.W.kitAny K (.type "NoneType") [.type "str", .type "bool"] = some false := kit2 (p := false) (q := false) (by decide +kernel) (by decide +kernel)
theorem any_bs_none : PySem.W.kitAny K (.type "NoneType") [.type "bool", .type "str"] = some false := kit2 (p := false) (q := false) (by decide +kernel) (by decide +kernel)
theorem one_none_int : PySem.W.kitOne K (.type "NoneType") (.type "int") = some false := kit_ty (by decide +kernel)
theorem one_none_bool : PySem.W.kitOne K (.type "NoneType") (.type "bool") = some false := kit_ty (by decide +kernel)
theorem one_none_list : PySem.W.kitOne K (.type "NoneType") (.type "list") = some false := kit_ty (by decide +kernel)
theorem one_none_tuple : PySem.W.kitOne K (.type "NoneType") (.type "tuple") = some false := kit_ty (by decide +kernel)
theorem any_lt_bool : PySem.W.kitAny K (.type "bool") [.type "list", .type "tuple"] = some false := kit2 (p := false) (q := false) (by decide +kernel) (by decide +kernel)
theorem any_sb_bool : PySem.W.kitAny K (.type "bool") [.type "str", .type "bool"] = some true := kit2 (p := false) (q := true) (by decide +kernel) (by decide +kernel)
theorem any_bs_bool : PySem.W.kitAny K (.type "bool") [.type "bool", .type "str"] = some true := kit2 (p := true) (q := false) (by decide +kernel) (by decide +kernel)
theorem one_bool_int : PySem.W.kitOne K (.type "bool") (.type "int") = some true := kit_ty (by decide +kernel)
theorem one_bool_bool : PySem.W.kitOne K (.type "bool") (.type "bool") = some true := kit_ty (by decide +kernel)
theorem one_bool_list : PySem.W.kitOne K (.type "bool") (.type "list") = some false := kit_ty (by decide +kernel)
theorem one_bool_tuple : PySem.W.kitOne K (.type "bool") (.type "tuple") = some false := kit_ty (by decide +kernel)
theorem any_lt_str : PySem.W.kitAny K (.type "str") [.type "list", .type "tuple"] = some false := kit2 (p := false) (q := false) (by decide +kernel) (by decide +kernel)
theorem any_sb_str : PySem.W.kitAny K (.type "str") [.type "str", .type "bool"] = some true := kit2 (p := true) (q := false) (by decide +kernel) (by decide +kernel)
theorem any_bs_str : PySem.W.kitAny K (.type "str") [.type "bool", .type "str"] = some true := kit2 (p := false) (q := true) (by decide +kernel) (by decide +kernel)
theorem one_str_int : PySem.W.kitOne K (.type "str") (.type "int") = some false := kit_ty (by decide +kernel)
theorem one_str_bool : PySem.W.kitOne K (.type "str") (.type "bool") = some false := kit_ty (by decide +kernel)
theorem one_str_list : PySem.W.kitOne K (.type "str") (.type "list") = some false := kit_ty (by decide +kernel)
theorem one_str_tuple : PySem.W.kitOne K (.type "str") (.type "tuple") = some false := kit_ty (by decide +kernel)
theorem any_lt_list : PySem.W.kitAny K (.type "list") [.type "list", .type "tuple"] = some true := kit2 (p := true) (q := false) (by decide +kernel) (by decide +kernel)
theorem any_sb_list : PySem.W.kitAny K (.type "list") [.type "str", .type "bool"] = some false := kit2 (p := false) (q := false) (by decide +kernel) (by decide +kernel)
theorem any_bs_list : PySem.W.kitAny K (.type "list") [.type "bool", .type "str"] = some false := kit2 (p := false) (q := false) (by decide +kernel) (by decide +kernel)
theorem one_list_int : PySem.W.kitOne K (.type "list") (.type "int") = some false := kit_ty (by decide +kernel)
theorem one_list_bool : PySem.W.kitOne K (.type "list") (.type "bool") = some false := kit_ty (by decide +kernel)
theorem one_list_list : PySem.W.kitOne K (.type "list") (.type "list") = some true := kit_ty (by decide +kernel)
theorem one_list_tuple : PySem.W.kitOne K (.type "list") (.type "tuple") = some false := kit_ty (by decide +kernel)
theorem any_lt_tuple : PySem.W.kitAny K (.type "tuple") [.type "list", .type "tuple"] = some true := kit2 (p := false) (q := true) (by decide +kernel) (by decide +kernel)
theorem any_sb_tuple : PySem.W.kitAny K (.type "tuple") [.type "str", .type "bool"] = some false := kit2 (p := false) (q := false) (by decide +kernel) (by decide +kernel)
theorem any_bs_tuple : PySem.W.kitAny K (.type "tuple") [.type "bool", .type "str"] = some false := kit2 (p := false) (q := false) (by decide +kernel) (by decide +kernel)
theorem one_tuple_int : PySem.W.kitOne K (.type "tuple") (.type "int") = some false := kit_ty (by decide +kernel)
theorem one_tuple_bool : PySem.W.kitOne K (.type "tuple") (.type "bool") = some false := kit_ty (by decide +kernel)
theorem one_tuple_list : PySem.W.kitOne K (.type "tuple") (.type "list") = some false := kit_ty (by decide +kernel)
theorem one_tuple_tuple : PySem.W.kitOne K (.type "tuple") (.type "tuple") = some true := kit_ty (by decide +kernel)
end
theorem cls2 (a b : String) : Paired ClsV [.ty a, .ty b] [.type a, .type b] := .cons (.ty a) (.cons (.ty b) .nil)
/-- zip of two tuples -/
theorem walk_zipT {K : PySem.W.Frag} {a b : Addr} {xs ys : List V} {n : Nat} (hn : n = min xs.length ys.length) : Walk (ItzT K a b) n (fun H => SqT K H a xs ∧ SqT K H b ys) (YPair (fun i => xs[i]?) (fun i => ys[i]?)) := by
  subst hn
  refine ⟨fun i _ hi q => ?_, fun _ q => ⟨xs, ys, q.1, q.2, by omega⟩, fun i H v H' _ q y => ?_⟩
  · obtain ⟨x, hx⟩ := get_some (l := xs) (i := i) (by omega)
    obtain ⟨z, hz⟩ := get_some (l := ys) (i := i) (by omega)
    exact ⟨xs, ys, x, z, q.1, q.2, hx, hz⟩
  · obtain ⟨T, x, z, h1, h2, h3, h4, h5⟩ := y
    exact ⟨T, x, z, h1, h2, h3, h4 xs q.1, h5 ys q.2⟩
theorem fn_never {P : Program} {w : World} {K : PySem.W.Frag} {mg : Str → Option Value} {base : Heap} {CX : CXT} {k : Nat} {f : Addr} {fd : FuncData} {ps : List Str} {sp : Sp} (h : ∀ vs H Q E, ¬ sp vs H Q E) : FnOk P w K mg base CX k f fd ps sp :=
  ⟨fun vs H Q E q => absurd q (h vs H Q E), fun _ _ _ H _ _ vs Q E _ _ _ _ q => absurd q (h vs H Q E)⟩
/-- a comprehension without a test -/
theorem yes_if {σ : L2.St} {H : Hp} {A B : Hp → Prop} (h : A H) : tYes σ H (fun b H3 => if b = true then A H3 else B H3) := by
  show if true = true then A H else B H
  exact iteT h
theorem all_rep : ∀ n : Nat, (List.replicate n true).all id = true
  | 0 => rfl
  | n + 1 => by rw [List.replicate_succ, List.all_cons, all_rep n]; rfl
end Pc
namespace Pc
open PySem PySem.Spec PyProof.Rows L2 RZ
/-! ### enumerate of a tuple -/
theorem draws_tuple {prog : Program} {w : World} {A : Around} (hh : A.handled = none) (it l : Addr) (hne : l ≠ it) (items : Array Value) :
    Draws prog w A it [it, l] items.size (fun i v => items[i]? = some v) (fun i h => h.IsTupleIter it l i ∧ h.IsTuple l items) where
  live i h st := by
    obtain ⟨⟨o, ho, _⟩, _⟩ := st
    exact ⟨o, ho⟩
  frame i h h' st hk := ⟨Heap.IsTupleIter.at st.1 (hk it (by simp)), Heap.IsTuple.at st.2 (hk l (by simp))⟩
  item i s Q E hi st hQ := by
    have hx : items[i]? = some items[i] := by simp [hi]
    exact nextOf_tuple_item st.1 st.2 hx fun h' hit' hs' => hQ _ h' s.toks hx ⟨hit', st.2.extBut hs'.extBut hne⟩ hs'
  done s Q E st hE := nextOf_tuple_end hh st.1 st.2 (by simp) hE
set_option maxHeartbeats 4000000 in
theorem enum_newT (l : Addr) (items : Array Value) (n : Nat) (dct : Option Addr) (sl : Array (Option Value)) :
    Meets (Builtin.«enumerate.__new__» ⟨[.type "enumerate", .ref l], []⟩) (fun _ R s =>
      s.heap.get? l = some { cls := .type "tuple", dict := dct, data := .seq items n, slots := sl } ∧
      R (.ok (.ret (.ref (s.heap.push { cls := .type "tuple_iterator", data := .fields #[.ref l, .int 0 0] }).objs.size)))
        { s with heap := Heap.push (s.heap.push { cls := .type "tuple_iterator", data := .fields #[.ref l, .int 0 0] }) { cls := .type "enumerate", data := .fields #[.none, .bool false, .ref s.heap.objs.size, rawInt 0, .none, .none] } }) := by
  refine .of_wp fun prog w A R s h => ?_
  obtain ⟨hp, g, d, tk, os⟩ := s
  obtain ⟨hl, h⟩ := h
  have subE := sub_enumerate
  have isT : Heap.IsTuple (Shared.heap ⟨hp, g, d, tk, os⟩) l items := ⟨_, hl, rfl, n, rfl⟩
  wp_walk using AutoSeq1.wpAny_loadPart' hl
  refine wpAny_stack_any fun st => wpAny_pure ?_
  split
  · rename_i c _ _ _ _ _
    cases (c == Value.type "enumerate") <;> (wp_walk using AutoSeq1.wpAny_loadPart' hl, wpAny_pyIter_tuple isT; exact ⟨_, rfl, h⟩)
  · wp_walk using AutoSeq1.wpAny_loadPart' hl, wpAny_pyIter_tuple isT
    exact ⟨_, rfl, h⟩
theorem call_enumT {prog : Program} {w : World} {A : Around} {E : Value → Shared → Prop} {s : Shared} {l : Addr} {items : Array Value} {Q : Value → Shared → Prop} (hL : s.heap.IsTuple l items)
    (h : ∀ h', IsEnum h' (s.heap.objs.size + 1) s.heap.objs.size 0 .none → h'.IsTupleIter s.heap.objs.size l 0 →
      (∀ b o, s.heap.get? b = some o → h'.get? b = some o) → Q (.ref (s.heap.objs.size + 1)) { s with heap := h' }) :
    wpAny (model prog w) A (call (.type "enumerate") [.ref l]) Q E s := by
  obtain ⟨⟨c, dct, dt, sl⟩, hl, hc, n, hd⟩ := hL
  have hc' : c = .type "tuple" := hc
  have hd' : dt = .seq items n := hd
  subst hc' hd'
  refine callType_new F.called_enumerate (by decide) (F.typeCall_enumerate_1 _) (F.newCall_enumerate_1 _) (fun obj => F.args_object_init_2 obj _) F.entry_enumerate_new (enum_newT l items n dct sl) ⟨hl, ?_⟩
  have hz : (s.heap.push { cls := .type "tuple_iterator", data := .fields #[.ref l, .int 0 0] }).objs.size = s.heap.objs.size + 1 := Heap.size_push ..
  have he := Heap.get?_push_size (s.heap.push { cls := .type "tuple_iterator", data := .fields #[.ref l, .int 0 0] })
    (o := { cls := .type "enumerate", data := .fields #[.none, .bool false, .ref s.heap.objs.size, rawInt 0, .none, .none] }) rfl
  rw [hz] at he
  show _ ∧ _
  rw [hz]
  exact ⟨⟨_, he, rfl⟩, h _ he ⟨{ cls := .type "tuple_iterator", data := .fields #[.ref l, .int 0 0] }, Heap.get?_push_of_some _ (Heap.get?_push_size _ rfl), rfl, rfl⟩ fun b o x => Heap.get?_push_of_some _ (Heap.get?_push_of_some _ x)⟩
/-- the tuple at a, its items in new pairs with their places -/
def IteT (K : PySem.W.Frag) (a : Addr) : It where
  go i H := ∃ (xs : List V) (x : V), SqT K H a xs ∧ xs[i]? = some x
  yld i H v H' := ∃ T x, v = .ref T ∧ H T = none ∧ H' = upd H T (.tup [.int (i : Nat), x]) ∧ ∀ xs, SqT K H a xs → xs[i]? = some x
  stop i H := ∃ xs : List V, SqT K H a xs ∧ xs.length ≤ i
theorem turn_enumT {P : Program} {w : World} {K : PySem.W.Frag} {elts : List Expr} {kk : Nat} {tpos : Pos} (a e it : Addr) (hei : e ≠ it) (hae : a ≠ e) (hai : a ≠ it) :
    Turn P w K (.Tuple elts kk tpos) (IteT K a) [e, it] e (fun i h => (∃ old, IsEnum h e it ((i : Nat) : Int) old) ∧ h.IsTupleIter it a i) where
  mem := by simp
  obj i h st b hb := by
    obtain ⟨⟨old, he⟩, ⟨o, ho, hc, hd⟩⟩ := st
    rcases (show b = e ∨ b = it by simpa using hb) with z | z
    · rw [z]; exact ⟨_, he, fun v q => nomatch q⟩
    · rw [z]; exact ⟨o, ho, fun v q => by rw [hd] at q; cases q⟩
  keep i h h' st k := by
    obtain ⟨⟨old, he⟩, hi⟩ := st
    exact ⟨⟨old, k e (by simp) _ he⟩, hi.at fun o q => k it (by simp) o q⟩
  item := by
    intro X hP hw hK hc i pins s σ H E I hf st hg
    subst hP hw hK
    obtain ⟨⟨old, he⟩, hit⟩ := st
    obtain ⟨xs, x, hq, hx⟩ := hg
    obtain ⟨its, rv, p, hz⟩ := I.tuple hq
    have p2 : s.heap.IsTuple a its.toArray := p
    obtain ⟨u, hu, ru⟩ := rv.get hx
    have hlt : i < its.toArray.size := by
      rw [List.size_toArray]
      exact get_lt hu
    have D := draws_tuple (prog := X.prog) (w := X.w) (A := X.A.in1) (show X.A.in1.handled = none from I.ok.hd hc) it a hai its.toArray
    have hel : e < s.heap.objs.size := Heap.lt_size he
    have hil : it < s.heap.objs.size := by obtain ⟨_, q, _⟩ := hit; exact Heap.lt_size q
    refine wpAny_pyNext_enum_itemD D he ⟨hit, p2⟩ hlt hei (by simp [hei, hae.symm]) fun y h' tk hy ho hst hT hsz hk => ?_
    have ey : y = u := by
      have : its.toArray[i]? = some y := hy
      rw [List.getElem?_toArray, hu] at this
      exact (Option.some.inj this).symm
    subst ey
    refine ⟨_, rfl, wpAny_letOwnedTupleGo_enum (s := { s with heap := h', toks := tk + 1 }) ho fun h'' he' sb => ?_⟩
    have hT2 : h''.get? s.heap.objs.size = some { cls := .type "tuple", data := .seq #[.int i tk, y] } := (sb.2 _ (Nat.ne_of_gt hel)).trans hT
    have new : ObjOk X.prog X.w (upd H s.heap.objs.size (.tup [.int (i : Nat), x])) h'' s.heap.objs.size (.tup [.int (i : Nat), x]) :=
      ⟨by show 2 ≤ sizeLine; decide, [.int i tk, y], .cons ⟨_, rfl⟩ (.cons ru .nil), ⟨_, hT2, rfl, _, rfl⟩⟩
    have I1 := I.turnedNew (t' := tk + 1) (h' := h'') (ch := [e, it]) (fun b ob hb q => (sb.2 b (fun z => hb (by simp [z]))).trans (hk b ob (fun z => hb (by simp [z])) (fun z => hb (by simp [z])) q)) hf (Nat.le_refl _) new
    refine ⟨.ref s.heap.objs.size, _, I1, rfl, ⟨_, x, rfl, I.hok.fresh (Nat.le_refl _), rfl, fun ys hy => by rw [I.tuple_inj hy hq]; exact hx⟩, ⟨⟨y, ?_⟩, hst.1.at fun o q => (sb.2 it hei.symm).trans q⟩, fun b hb => ?_⟩
    · rw [show ((i + 1 : Nat) : Int) = (i : Int) + 1 by omega]; exact he'
    · have hb' : b < s.heap.objs.size := by
        rcases (show b = e ∨ b = it by simpa using hb) with z | z
        · rw [z]; exact hel
        · rw [z]; exact hil
      rw [upd_ne (Nat.ne_of_lt hb')]
      exact (hf b hb).1
  done := by
    intro X hP hw hK hc i pins s σ H E I hf st hg
    subst hP hw hK
    obtain ⟨⟨old, he⟩, hit⟩ := st
    obtain ⟨xs, hq, hx⟩ := hg
    obtain ⟨its, rv, p, hz⟩ := I.tuple hq
    have p2 : s.heap.IsTuple a its.toArray := p
    obtain ⟨f0, f1, f2, f3, f4, f5⟩ := hf it (by simp)
    have hl := rv.length
    have hT : s.TypeIs (.ref e) "enumerate" := ⟨_, he, rfl⟩
    unfold pyNext
    refine wpAny_bind (wpAny_attempt (wpAny_callSpecial?_slot (name := Str.ofString "__next__") hT F.slot_enumerate_next (wpAny_call_entry F.slot_enumerate_next hT F.entry_enumerate_next ?_ (F.args_enumerate_next_1 _))))
    show wpAny _ _ (field (.ref e) 2 >>= _) _ _ _
    refine wpAny_bind (wpAny_field he rfl (x := .ref it) rfl ?_)
    refine wpAny_bind (nextOf_tuple_end (show X.A.in1.handled = none from I.ok.hd hc) hit p2 (by simp; omega) fun h' x he' hx' => ?_)
    obtain ⟨o, ho, hcl⟩ := hx'
    refine wpAny_bind (wpAny_isInstance (T := "StopIteration") (b := true) ⟨o, ho, hcl⟩ isSubtype_stop ?_)
    exact wpAny_pure ⟨rfl, I.turned (t' := s.toks) (fun b o hb q => he' b o hb q) f0 f1 f3 f4 f5⟩
  self A i s Q E st h := by
    obtain ⟨⟨_, he⟩, _⟩ := st
    exact wpAny_pyIter_enum he h
/-- enumerate of a list or a tuple -/
def iEnumA (K : PySem.W.Frag) (ta : TA) : TI := fun σ H R => ta σ H fun vs H1 => ∃ a xs, vs = [.ref a] ∧ ((SqL K H1 a xs ∧ R (Ite K a) H1) ∨ (SqT K H1 a xs ∧ R (IteT K a) H1))
theorem pi_enumA {X : Cx} {e : Expr} {ta : TA} {p pos tpos : Pos} {elts : List Expr} {kk : Nat} (hg : Gl X "enumerate") (hm : X.mg "enumerate" = none) (ha : PA X [e] ta) (hs : starEach [e] X.env = [(false, eval e X.env)] := by rfl) :
    PI X (.Tuple elts kk tpos) (.Call (.Name "enumerate" p) [e] [] pos) (iEnumA X.K ta) := by
  constructor
  intro pins s σ H R I h
  refine Call_ (ld_blt I hg hm boot_enumerate (callWith_type1 (thn (ha.run pos pins s σ H _ I h) fun us s1 r => ?_) hs rfl))
  obtain ⟨vs, H1, I1, r1, a, xs, ex, q1⟩ := r
  subst ex
  cases r1 with
  | cons r rr =>
    cases rr
    cases r
    have fr : ∀ b, b ∈ [s1.heap.objs.size + 1, s1.heap.objs.size] → FpOk X pins H1 b := fun b hb => by
      have hle : s1.heap.objs.size ≤ b := by
        rcases (show b = s1.heap.objs.size + 1 ∨ b = s1.heap.objs.size by simpa using hb) with z | z <;> omega
      exact I1.fpOk hle (I1.hok.fresh hle)
    rcases q1 with ⟨hq, q⟩ | ⟨hq, q⟩
    · obtain ⟨its, rv, p', hz⟩ := I1.list hq
      refine call_enumerate_list p'.isList fun h' he hit _ hk => wpAny_pyIter_enum he ?_
      exact ⟨_, _, _, _, H1, rfl, I1.kept (t' := s1.toks) hk, turn_enum a (s1.heap.objs.size + 1) s1.heap.objs.size, ⟨⟨.none, he⟩, hit, Nat.succ_ne_self _⟩, fr, q⟩
    · obtain ⟨its, rv, p', hz⟩ := I1.tuple hq
      have p2 : s1.heap.IsTuple a its.toArray := p'
      have hlt : a < s1.heap.objs.size := by obtain ⟨o, ho, _⟩ := p2; exact Heap.lt_size ho
      refine call_enumT p2 fun h' he hit hk => wpAny_pyIter_enum he ?_
      exact ⟨_, _, _, _, H1, rfl, I1.kept (t' := s1.toks) hk, turn_enumT a (s1.heap.objs.size + 1) s1.heap.objs.size (Nat.succ_ne_self _) (Nat.ne_of_lt (Nat.lt_succ_of_lt hlt)) (Nat.ne_of_lt hlt), ⟨⟨.none, he⟩, hit⟩, fr, q⟩
theorem walk_enumT {K : PySem.W.Frag} {a : Addr} {xs : List V} : Walk (IteT K a) xs.length (fun H => SqT K H a xs) (YPair (fun i => some (.int (i : Nat))) (fun i => xs[i]?)) where
  goes i H hi q := by
    obtain ⟨x, hx⟩ := get_some hi
    exact ⟨xs, x, q, hx⟩
  stops H q := ⟨xs, q, Nat.le_refl _⟩
  yields i H v H' hi q y := by
    obtain ⟨T, x, h1, h2, h3, h4⟩ := y
    exact ⟨T, .int (i : Nat), x, h1, h2, h3, rfl, h4 xs q⟩
end Pc
namespace Pc
open PySem PySem.Spec PyProof.Rows L2 RZ
/-! ### t[::-1] of a pair -/
section
variable {prog : Program} {w : World} {A : Around} {E : Value → Shared → Prop} {s : Shared}
theorem applied_rev2 {sl : Addr} {vk : Value} {Q : Int × Int × Nat → Shared → Prop} (hs : s.heap.IsSliceOf sl .none .none vk) (pk : IsPart vk (some (-1))) (h : Q (1, -1, 2) s) :
    wpAny (model prog w) A (Builtin.Slice.sliceApplied (.ref sl) (pure (2 : Int))) Q E s := by
  obtain ⟨os, hos, hcs, hds⟩ := id hs
  unfold Builtin.Slice.sliceApplied Builtin.Slice.sliceFields
  refine wpAny_bind (wpAny_bind (wpAny_field hos hds (x := .none) rfl ?_))
  refine wpAny_bind (wpAny_field hos hds (x := .none) rfl ?_)
  refine wpAny_bind (wpAny_field hos hds (x := vk) rfl (wpAny_pure ?_))
  refine wpAny_bind (HT.slicePart_ pk ?_)
  show wpAny _ _ (if ((-1 : Int) == 0) = true then _ else _) _ _ s
  rw [if_neg (by decide)]
  refine wpAny_bind (HT.slicePart_ .none (wpAny_bind (HT.slicePart_ .none (wpAny_bind (wpAny_pure ?_)))))
  exact wpAny_pure h
theorem item_rev2 {t sl : Addr} {u v vk : Value} {Q : Value → Shared → Prop} (ht : IsTup s.heap t #[u, v]) (hs : s.heap.IsSliceOf sl .none .none vk) (pk : IsPart vk (some (-1)))
    (h : Q (.ref s.heap.objs.size) { s with heap := s.heap.push { cls := .type "tuple", data := .seq #[v, u] } }) : wpAny (model prog w) A (getItem (.ref t) (.ref sl)) Q E s := by
  obtain ⟨os, hos, hcs, hds⟩ := id hs
  have hTs : s.TypeIs (.ref sl) "slice" := ⟨os, hos, hcs⟩
  unfold getItem
  try with_reducible refine wpAny_holding ?_
  first | refine wpAny_bind (wpAny_pure ?_) | skip
  refine wpAny_bind (wpAny_sequenceKey ht.typeIs (by decide) ?_)
  refine wpAny_bind (wpAny_callSpecial?_slot (name := Str.ofString "__getitem__") ht.typeIs PyProof.Rows.slot_tuple_getitem (wpAny_call_entry PyProof.Rows.slot_tuple_getitem ht.typeIs entry_tuple_getitem ?_ (args_tuple_getitem _ _)))
  show wpAny _ _ (Builtin.Tuple.tupleItemsOf (.ref t) >>= _) _ _ s
  refine wpAny_bind (tupleItemsOf_ ht ?_)
  refine wpAny_bind (wpAny_typeOf hTs ?_)
  rw [if_pos (by decide)]
  refine wpAny_bind (applied_rev2 hs pk ?_)
  show wpAny _ _ (if ((1 : Int) == 0 && (-1 : Int) == 1 && (2 : Nat) == 2) = true then _ else _) _ _ s
  rw [if_neg (by decide)]
  have e : ((List.range 2).filterMap fun (k : Nat) => (#[u, v] : Array Value)[((1 : Int) + (k : Int) * -1).toNat]?).toArray = #[v, u] := rfl
  rw [e]
  have hz : sizeOk (.seq (#[v, u] : Array Value)) := by show 2 ≤ sizeLine; decide
  first
    | exact wpAny_bind (m := Builtin.Tuple.tupleExact _) (wpAny_newObj_type (wpAny_pure ⟨_, rfl, wpAny_pure h⟩) hz)
    | exact wpAny_bind (wpAny_bind (m := Builtin.Tuple.tupleExact _) (wpAny_newObj_type (wpAny_pure (wpAny_pure ⟨_, rfl, wpAny_pure h⟩)) hz))
    | exact wpAny_bind (wpAny_bind (m := Builtin.Tuple.tupleExact _) (wpAny_newObj_type (wpAny_pure ⟨_, rfl, wpAny_pure h⟩) hz))
    | exact wpAny_bind (m := Builtin.Tuple.tupleExact _) (wpAny_newObj_type (wpAny_bind (wpAny_pure (wpAny_pure ⟨_, rfl, wpAny_pure h⟩))) hz)
end
def tRev2 (K : PySem.W.Frag) (te : TE) : TE := fun σ H Q => te σ H fun x H1 => ∃ a y z, x = .ref a ∧ SqT K H1 a [y, z] ∧ ∀ p, H1 p = none → Q (.ref p) (upd H1 p (.tup [z, y]))
theorem pe_rev2 {X : Cx} {e : Expr} {te : TE} {k : Nat} {p1 p2 p3 pos : Pos} (he : PE X e te) : PE X (.Subscript e (.Slice none none (some (.UnaryOp .USub (.Constant (.int 1) k p1) p2)) p3) pos) (tRev2 X.K te) := by
  constructor
  intro pins s σ H Q I h
  refine Subscript_ (thn (he.run pins s σ H _ I h) fun v s1 r => ?_)
  obtain ⟨x, H1, I1, r1, a, y, z, ex, hx, q⟩ := r
  subst ex
  cases r1
  have hst : PO X (some (.UnaryOp .USub (.Constant (.int 1) k p1) p2)) (tPart (tUn (rU fun i => .int (-i)) (tC (.int 1)))) := po_some (pe_un un_neg pe_int)
  refine wpAny_Slice (thn (po_none.run pins s1 σ H1 (fun o H2 => o = none ∧ H2 = H1) I1 ⟨rfl, rfl⟩) fun vl s2 ⟨l, H2, I2, pl, el, e2⟩ => ?_)
  subst el e2
  refine thn (po_none.run pins s2 σ H2 (fun o H3 => o = none ∧ H3 = H2) I2 ⟨rfl, rfl⟩) fun vu s3 ⟨u, H3, I3, pu, eu, e3⟩ => ?_
  subst eu e3
  refine thn (hst.run pins s3 σ H3 (fun o H4 => o = some (-1) ∧ H4 = H3) I3 ⟨1, rfl, -1, rfl, rfl, rfl⟩) fun vs s4 ⟨o, H4, I4, ps, eo, e4⟩ => ?_
  subst eo e4
  cases pl
  cases pu
  have I5 : Inv X pins σ H4 { s4 with heap := s4.heap.push { cls := .type "slice", data := .fields #[.none, .none, vs] } } := I4.kept (t' := s4.toks) fun b ob q => Heap.get?_push_of_some _ q
  obtain ⟨its, r, ht, hz⟩ := I5.tuple hx
  obtain ⟨w1, w2, ei, r1, r2⟩ := vals2 r
  subst ei
  show wpAny (model X.prog X.w) X.A (subscriptTail e (.Slice none none (some (.UnaryOp .USub (.Constant (.int 1) k p1) p2)) p3) (.ref a) (.ref s4.heap.objs.size)) (EP X pins σ Q) X.xe _
  refine tail_any (ops := [.ref a, .ref s4.heap.objs.size]) ht.typeIs PyProof.Rows.slot_tuple_getitem.lookup ?_ (by with_unfolding_all rfl)
  refine item_rev2 ht (Heap.IsSliceOf.new _ .none .none vs) ps ?_
  refine ⟨.ref _, _, I5.laid (t' := s4.toks) (o := .tup [z, y]) (fun b ob q => Heap.get?_push_of_some _ q) (Nat.le_refl _) ?_, rfl, q _ (I5.hok.fresh (Nat.le_refl _))⟩
  exact ⟨by show 2 ≤ sizeLine; decide, [w2, w1], .cons r2 (.cons r1 .nil), IsTup.new _ _⟩
end Pc
namespace Pc
open PySem PySem.Spec PyProof.Rows L2 RZ
/-! ### defs that run where no repr is under way (repr asks for that) -/
structure FnG (P : Program) (w : World) (K : PySem.W.Frag) (mg : Str → Option Value) (base : Heap) (CX : CXT) (k : Nat) (f : Addr) (fd : FuncData) (ps : List Str) (sp : Sp) : Prop where
  len : ∀ vs H Q E, sp vs H Q E → vs.length = ps.length
  run : ∀ (A : Around) (outer : List PySem.Env) (s : Shared) (H : Hp) (args : Args) (us : List Value) (vs : List V) (Q : VK) (E : XK), Room k A → A.guards = some [] → Env0 P w K mg base A outer s H →
    BindsTo s fd args (ps.zip us) → Vals vs us → sp vs H Q E → codeAny (model P w) A (.call (.ref f) args) (CR CX outer P w H s Q E) s
section
variable {P : Program} {w : World} {K : PySem.W.Frag} {mg : Str → Option Value} {base : Heap}
theorem fun_g {x qual : Str} {st : Stmt} {f : Addr} {fd : FuncData} {N ps : List Str} {k : Nat} {sp : Sp} (F : Fun K x qual st f fd) (S : FnScope N ps (defScope st)) (len : ∀ vs H Q E, sp vs H Q E → vs.length = ps.length)
    (hbody : ∀ (cdv : Value) (A : Around) (outer : List PySem.Env) (s : Shared) (H : Hp) (vs : List V) (Q : VK) (E : XK), Room k (A.deeper (envOfC qual (defScope st) s.heap.objs.size f cdv)) → A.guards = some [] → sp vs H Q E →
      ∃ t, PSs (cxOf CX0 P w K mg base N qual (defScope st) f cdv A outer s H E).nox (defBody st) t ∧ t { nx := fun _ H' => Q .non H', rt := Q } (start N vs) H) : FnG P w K mg base CX0 (k + 1) f fd ps sp := by
  obtain ⟨oc, od, kV, doc, pm, an, cdv, ct, osl, rfl, lk, hcd⟩ := F.ex
  constructor
  · exact len
  intro A outer s H args us vs Q E hr hgd e0 hb r hsp
  have hl := len _ _ _ _ hsp
  have up : ∀ b o, base.get? b = some o → s.heap.get? b = some o := fun b o e => (e0.bs b o e).1
  have KX : K.In s.heap := e0.mod.kin.keeps up
  have lim : s.heap.NoLimit := e0.mod.nolimit.keeps up
  obtain ⟨t, ht, hq⟩ := hbody cdv A outer s H vs Q E (hr.deeper _) hgd hsp
  refine codeAny_call_function hr.depth (KX _ _ lk) rfl S.co S.gen rfl (PySem.W.codeRec_of KX hcd) (hb _ _ _ _ ?_)
  refine wpAny_newFunctionEnv_cells S.kind ?_ ?_
  · rintro ⟨n, v⟩ hy
    rcases S.par n (List.of_mem_zip hy).1 with z | z
    · exact Or.inl z
    · exact Or.inr ⟨z, PySem.W.cellsFrom_some _ _ _ (Or.inl z)⟩
  intro env he s1 x
  subst he
  refine ⟨lim.keeps x.toInCall.keep, codeAny_func ?_⟩
  have I := inv_start (CX := CX0) (E := E) S hr.hd e0 hl r x
  refine wpAny_mono (ht.nox.run [] s1 (start N vs) H _ I hq) ?_ (fun _ _ z => z)
  intro fl s' hs
  cases fl with
  | brk => obtain ⟨_, _, _, z⟩ := hs; exact z.elim
  | cont => obtain ⟨_, _, _, z⟩ := hs; exact z.elim
  | next =>
    obtain ⟨σ', H', J, z⟩ := hs
    exact ⟨V.non, H', J.os, J.bare, J.base, J.hok, rfl, z⟩
  | ret u =>
    obtain ⟨v, σ', H', J, rv, z⟩ := hs
    exact ⟨v, H', J.os, J.bare, J.base, J.hok, rv, z⟩
end
section
variable {X : Cx} {CX : CXT} {k : Nat} {f : Addr} {fd : FuncData} {ps : List Str} {sp : Sp} {x : Str} {e : Expr} {es : List Expr} {ds : List Value} {dvs : List V} {E : XK} {t : TA} {p pos : Pos}
theorem pe_callG (F : FnG X.prog X.w X.K X.mg X.base CX k f fd ps sp) (hr : Room k X.A) (hgd : X.A.guards = some []) (hg : Gl X x) (hm : X.mg x = some (.ref f)) (hk : PySem.W.keepIn X.K (.ref f) = true) (hb : Binds X.K fd ps ds) (hd : Vals dvs ds) (hx : Passes CX X E)
    (ha : PA X (e :: es) t) (hdb : (x == ("__debug__" : Str)) = false := by decide) (he : starEach (e :: es) X.env = (false, eval e X.env) :: starEach es X.env := by rfl) (hpl : (backTo pos (starEach es X.env)).any (·.1) = false := by rfl) :
    PE X (.Call (.Name x p) (e :: es) [] pos) (tCall sp dvs E t) := by
  constructor
  intro pins s σ H Q I h
  refine wpAny_Call_Name_kw (ld_glob I hg hm ?_ hdb)
  refine PySem.W.callWith_K (h₀ := X.base) I.ok.mod.kin hk (thn (ha.run pos pins s σ H _ I h) ?_) he hpl
  rintro us s1 ⟨vs, H1, I1, r, q⟩
  refine ⟨I1.kIn, ?_⟩
  have r2 : Vals (vs ++ dvs) (us ++ ds) := r.append hd
  have hl : (us ++ ds).length = ps.length := by
    rw [← r2.length]
    exact F.len _ _ _ _ q
  refine wpAny_call (codeAny_mono (F.run X.A X.stack s1 H1 ⟨us, []⟩ (us ++ ds) (vs ++ dvs) Q E hr hgd I1.env0 (hb s1 us I1.kIn hl) r2 q) ?_)
  intro res s' hq
  cases res with
  | error e => exact hx pins σ H1 s1 e s' I1 hq
  | ok fl =>
    cases fl with
    | ret u => exact I1.after hq
    | next => exact hq.elim
    | brk => exact hq.elim
    | cont => exact hq.elim
end
/-! ### the law's own call, where no repr is under way -/
theorem law_g {P : Program} {w : World} {K : PySem.W.Frag} {mg mb : Str → Option Value} {CX : CXT} {k : Nat} {fa a : Addr} {fd : FuncData} {x : Str} {sp : Sp} {s₁ : Shared} {vs : List Value} {ns : List Int}
    (KX : K.In s₁.heap) (hns : s₁.heap.Ns mainGlobals mg) (hb : s₁.heap.Ns builtinsNs mb) (hbb : ∀ x : Str, x ≠ "__name__" → mb x = bootBuiltins x) (hlim : s₁.heap.NoLimit) (hg : s₁.gens = #[])
    (ha : s₁.heap.get? a = some { cls := .type "list", data := .seq vs.toArray }) (hi : IntsAre vs ns) (hl : ns.length ≤ sizeLine) (hr : Room k callerA)
    (F : ∀ base : Heap, K.In base → base.Ns mainGlobals mg → FnG P w K mg base CX k fa fd [x] sp) (hbind : ∀ (s : Shared) (u : Value), BindsTo s fd ⟨[u], []⟩ [(x, u)])
    (hsp : ∀ H : Hp, SqL K H a (ns.map V.int) → sp [.ref a] H (fun v _ => v = .bl true) fun _ _ _ => False)
    (hCX : ∀ H e s', CX [] H s₁ (fun _ _ _ => False) e s' → False) :
    codeAny (model P w) callerA (.call (.ref fa) ⟨[.ref a], []⟩) (fun r s' => r = .ok (.ret (.bool true)) ∧ OldK s₁.heap s'.heap ∧ s'.os = s₁.os ∧ AllBare s'.gens) s₁ := by
  have rv := vals_ints hi
  have len0 := hi.length
  let lo : Obj := { cls := .type "list", data := .seq vs.toArray }
  have main : ∀ H : Hp, SqL K H a (ns.map V.int) → HOk P w H s₁.heap → (∀ b u, H b = some u → b = a ∧ u = .frz lo (.lst (ns.map V.int)) ∧ K.lookup a = none) →
      codeAny (model P w) callerA (.call (.ref fa) ⟨[.ref a], []⟩) (fun r s' => r = .ok (.ret (.bool true)) ∧ OldK s₁.heap s'.heap ∧ s'.os = s₁.os ∧ AllBare s'.gens) s₁ := by
    intro H hS hok hA
    have free : ∀ {b : Addr} {o : Obj}, s₁.heap.get? b = some o → (∀ n, o.data ≠ .seq vs.toArray n) → H b = none := by
      intro b o e d
      cases z : H b with
      | none => rfl
      | some u =>
        obtain ⟨rfl, _⟩ := hA b u z
        rw [ha] at e
        cases e
        exact absurd rfl (d _)
    have nsK : ∀ {b : Addr} {m : Str → Option Value}, s₁.heap.Ns b m → (hidT s₁.heap H).Ns b m := by
      rintro b m ⟨o, es, ep, e, d, r⟩
      exact ⟨o, es, ep, hidT_get e (free e fun n => by rw [d]; exact fun z => nomatch z), d, r⟩
    have hKb : K.In (hidT s₁.heap H) := by
      intro b o e
      refine hidT_get (KX b o e) ?_
      cases z : H b with
      | none => rfl
      | some u =>
        obtain ⟨rfl, _, hn⟩ := hA b u z
        rw [hn] at e
        cases e
    obtain ⟨mc, l1, l2⟩ := hlim
    have e0 : Env0 P w K mg (hidT s₁.heap H) callerA [] s₁ H :=
      { frames := rfl, mod := ⟨hKb, nsK hns, ⟨mb, nsK hb, hbb⟩, ⟨mc, nsK l1, l2⟩⟩, bs := fun b o e => of_hidT e, bsz := Nat.le_of_eq (hidT_size _ _), funs := trivial, frf := fun b hb => absurd (show b ∈ ([] : List Addr) from hb) (by simp), hok := hok, bare := .of_eq hg }
    have R := (F _ hKb (nsK hns)).run callerA [] s₁ H ⟨[.ref a], []⟩ [.ref a] [.ref a] _ _ hr rfl e0 (hbind s₁ (.ref a)) (.cons rfl .nil) (hsp H hS)
    refine codeAny_mono R ?_
    intro res s' h
    cases res with
    | error e => exact (hCX H e s' h).elim
    | ok fl =>
      cases fl with
      | next => exact h.elim
      | brk => exact h.elim
      | cont => exact h.elim
      | ret u =>
        obtain ⟨v, H', os, bare, un, hok', r', q⟩ := h
        have q' : v = .bl true := q
        subst q'
        obtain rfl : u = Value.bool true := r'
        refine ⟨rfl, OldK.of_keep ?_, os, bare⟩
        intro b o e
        cases z : H b with
        | none => exact un.keep b o e z (fun y => absurd (show b ∈ ([] : List Addr) from y) (by simp)) (by simp)
        | some u =>
          obtain ⟨rfl, rfl, _⟩ := hA b u z
          obtain ⟨g1, _⟩ := hok _ _ z
          obtain ⟨g2, _⟩ := hok' _ _ (un.frzs _ lo _ z)
          rw [e] at g1
          cases g1
          exact g2
  cases hk : K.lookup a with
  | some o =>
    have e := KX a o hk
    rw [ha] at e
    cases e
    refine main (fun _ => none) ?_ (fun b u z => nomatch z) (fun b u z => nomatch z)
    exact Or.inr ⟨_, vs.toArray, _, hk, rfl, rfl, rfl, by rw [List.size_toArray, len0]; exact hl, by simpa using rv⟩
  | none =>
    have sp1 : ∀ b u, (upd (fun _ => none) a (.frz lo (.lst (ns.map V.int)))) b = some u → b = a ∧ u = .frz lo (.lst (ns.map V.int)) ∧ K.lookup a = none := by
      intro b u z
      by_cases hba : b = a
      · subst hba
        rw [upd_same] at z
        exact ⟨rfl, (Option.some.inj z).symm, hk⟩
      · rw [upd_ne hba] at z
        cases z
    refine main (upd (fun _ => none) a (.frz lo (.lst (ns.map V.int)))) (Or.inl (Or.inr ⟨lo, upd_same⟩)) ?_ sp1
    intro b u z
    obtain ⟨rfl, rfl, _⟩ := sp1 b u z
    exact ⟨ha, by rw [List.length_map]; exact hl, vs, _, rv, ha⟩
theorem walk_g {l : PySem.W.OpenLaw} {n k : Nat} {q : Program} {loose : List Str} {XP : (Str → Option Value) → Heap → Prop} {YP : World → Heap → Prop} {d : DefRec} {K : Params → PySem.W.Frag} {sp : World → Sp} {x : Str}
    (hn : l.most = some n) (hn2 : n ≤ sizeLine) (hdf : d.params.defaults = []) (hr : Room k callerA) (hY : ∀ (w : World) (h : Heap), YP w h → (K w.params).In h)
    (F : ∀ (w : World) (mg : Str → Option Value) (fa : Addr) (h : Heap), (K w.params).In h → h.Ns mainGlobals mg → mg d.name = some (.ref fa) →
      ∃ fd : FuncData, (∀ (s : Shared) (u : Value), BindsTo s fd ⟨[u], []⟩ [(x, u)]) ∧ ∀ base : Heap, (K w.params).In base → base.Ns mainGlobals mg → FnG l.prog w (K w.params) mg base CX0 k fa fd [x] (sp w))
    (hsp : ∀ (w : World) (H : Hp) (a : Addr) (ns : List Int), ns.length ≤ n → SqL (K w.params) H a (ns.map V.int) → sp w [.ref a] H (fun v _ => v = .bl true) fun _ _ _ => False) :
    PySem.W.WalkO q loose XP YP l.row.toRowW d [] (fun f vs => PySem.call f vs) := by
  refine Att.attach_call hn hdf ?_
  intro w s₀ s₁ mg mb fa o pm cd doc a vs ns G Y ho hd hcd hmg hobj hints hlen hg
  obtain ⟨fd, hb, hF⟩ := F w mg fa _ (hY w _ Y) G.T.g hmg
  exact law_g (hY w _ Y) G.T.g G.T.b G.T.builtins G.T.nolimit hg hobj hints (Nat.le_trans hlen hn2) hr hF hb (fun H hS => hsp w H a ns hlen hS) fun _ _ _ z => z
/-! ### repr of data -/
theorem call_reprD {X : Cx} (hgd : X.A.guards = some []) (hu : X.A.units + 64 < cLine) : CallR X (.builtin "repr") (fun xs H Q => ∃ (a : Addr) (d : PyData), xs = [.ref a] ∧ Dp X.K H (.ref a) d ∧ d.canLay0 = true ∧ d.showable = true ∧ d.depth ≤ 60 ∧ d.shown.length ≤ sizeLine ∧ Q (.str d.shown) H) := by
  intro pins s σ H xs us Q I r h
  obtain ⟨a, d, rfl, hd, hl, hs, hdp, hz, q⟩ := h
  obtain ⟨u, rfl, ru⟩ := vals1 r
  cases ru
  obtain ⟨as, rd⟩ := Dp.reads I d (.ref a) (.ref a) hd rfl
  refine repr_of_reads' rd hs (PyData.noDict_hsm (PyData.hasDict_of_canLay d hl)) hgd (by omega) (fun _ _ e => e) ?_ hz
  intro h' u tk hk
  exact ⟨.str d.shown, H, I.kept (t' := tk) hk, ⟨u, rfl⟩, q⟩
end Pc
namespace Pc
open PySem PySem.Spec PyProof.Rows L2 RZ
/-! ### data of small size: its depth is at most k, its text has at most m signs -/
structure Fine (k m : Nat) (d : PyData) : Prop where
  lay : d.canLay0 = true
  show_ : d.showable = true
  depth : d.depth ≤ k
  nar : narrow d
  len : d.shown.length ≤ m
theorem Fine.mono {k m k' m' : Nat} {d : PyData} (h : Fine k m d) (hk : k ≤ k') (hm : m ≤ m') : Fine k' m' d := ⟨h.lay, h.show_, Nat.le_trans h.depth hk, h.nar, Nat.le_trans h.len hm⟩
theorem Fine.shaped {k m : Nat} {d : PyData} (h : Fine k m d) (hk : k ≤ 64) : SeqAt.shaped d = true := by
  unfold SeqAt.shaped
  rw [Bool.and_eq_true]
  exact ⟨h.lay, decide_eq_true (Nat.le_trans h.depth hk)⟩
theorem str_len (t : String) : (Str.ofString t).length = t.length := by
  rw [Str.ofString_eq_toList]
  show (t.toList.map Char.toNat).toArray.size = t.length
  rw [List.size_toArray, List.length_map, String.length_toList]
theorem log_lt {i : Int} {k : Nat} (h : i.natAbs < 2 ^ k) (hk : 0 < k) : i.natAbs.log2 < k := by
  by_cases h0 : i.natAbs = 0
  · rw [h0]; exact hk
  · exact (Nat.log2_lt h0).mpr h
theorem fine_int {i : Int} (h : i.natAbs < 2 ^ 60) : Fine 0 61 (.int i) := by
  have hl := log_lt h (by decide)
  refine ⟨rfl, decide_eq_true (Nat.lt_of_lt_of_le hl (by decide)), Nat.le_refl _, trivial, ?_⟩
  show (Str.ofString (toString i)).length ≤ 61
  rw [str_len]
  exact int_text_length_le (by decide) hl
theorem fine_nat {i : Nat} (h : i < 2 ^ 60) : Fine 0 61 (.int (i : Int)) := fine_int (by rw [Int.natAbs_natCast]; exact h)
theorem all_lay {ds : List PyData} (h : ∀ d ∈ ds, d.canLay0 = true) : PyData.canLayAll0 ds = true := by
  induction ds with
  | nil => rfl
  | cons d r ih =>
    show (d.canLay0 && PyData.canLayAll0 r) = true
    rw [h d List.mem_cons_self, ih fun x hx => h x (List.mem_cons_of_mem _ hx)]; rfl
theorem all_showable {ds : List PyData} (h : ∀ d ∈ ds, d.showable = true) : PyData.showableAll ds = true := by
  induction ds with
  | nil => rfl
  | cons d r ih =>
    show (d.showable && PyData.showableAll r) = true
    rw [h d List.mem_cons_self, ih fun x hx => h x (List.mem_cons_of_mem _ hx)]; rfl
theorem all_depth {ds : List PyData} {k : Nat} (h : ∀ d ∈ ds, d.depth ≤ k) : PyData.depthAll ds ≤ k := by
  induction ds with
  | nil => exact Nat.zero_le _
  | cons d r ih => exact Nat.max_le.mpr ⟨h d List.mem_cons_self, ih fun x hx => h x (List.mem_cons_of_mem _ hx)⟩
theorem all_shown {ds : List PyData} {m : Nat} (h : ∀ d ∈ ds, d.shown.length ≤ m) : ((PyData.shownAll ds).map (·.length)).sum ≤ ds.length * m ∧ (PyData.shownAll ds).length = ds.length := by
  induction ds with
  | nil => exact ⟨Nat.zero_le _, rfl⟩
  | cons d r ih =>
    obtain ⟨h1, h2⟩ := ih fun x hx => h x (List.mem_cons_of_mem _ hx)
    have h3 := h d List.mem_cons_self
    refine ⟨?_, congrArg (· + 1) h2⟩
    show ((d.shown :: PyData.shownAll r).map (·.length)).sum ≤ (r.length + 1) * m
    rw [List.map_cons, List.sum_cons, Nat.add_mul, Nat.one_mul]
    omega
theorem fine_list {ds : List PyData} {k m n : Nat} (h : ∀ d ∈ ds, Fine k m d) (hn : ds.length ≤ n) (hb : n ≤ 100000) : Fine (k + 1) (n * (m + 2) + 3) (.list ds) := by
  refine ⟨all_lay fun d hd => (h d hd).lay, all_showable fun d hd => (h d hd).show_, Nat.succ_le_succ (all_depth fun d hd => (h d hd).depth), ⟨Nat.le_trans hn hb, narrow_of fun d hd => (h d hd).nar⟩, ?_⟩
  obtain ⟨h1, h2⟩ := all_shown fun d hd => (h d hd).len
  have h3 := listText_len_le (PyData.shownAll ds)
  have h4 : ds.length * m ≤ n * m := Nat.mul_le_mul_right _ hn
  show (listText (PyData.shownAll ds)).length ≤ _
  rw [Nat.mul_add]
  omega
theorem fine_tuple {ds : List PyData} {k m n : Nat} (h : ∀ d ∈ ds, Fine k m d) (hn : ds.length ≤ n) (hb : n ≤ 100000) : Fine (k + 1) (n * (m + 2) + 3) (.tuple ds) := by
  refine ⟨all_lay fun d hd => (h d hd).lay, all_showable fun d hd => (h d hd).show_, Nat.succ_le_succ (all_depth fun d hd => (h d hd).depth), ⟨Nat.le_trans hn hb, narrow_of fun d hd => (h d hd).nar⟩, ?_⟩
  obtain ⟨h1, h2⟩ := all_shown fun d hd => (h d hd).len
  have h3 := tupleText_len_le (PyData.shownAll ds)
  have h4 : ds.length * m ≤ n * m := Nat.mul_le_mul_right _ hn
  show (tupleText (PyData.shownAll ds)).length ≤ _
  rw [Nat.mul_add]
  omega
/-- numbers as data -/
def nd (l : List Nat) : List PyData := l.map fun (i : Nat) => PyData.int (i : Int)
theorem nd_length (l : List Nat) : (nd l).length = l.length := List.length_map _
theorem dp_nats {K : PySem.W.Frag} {H : Hp} : ∀ l : List Nat, DpAll K H (nv l) (nd l)
  | [] => .nil
  | i :: r => .cons (.int i) (dp_nats r)
theorem fine_nd {l : List Nat} (h : ∀ i ∈ l, i < 2 ^ 60) : ∀ d ∈ nd l, Fine 0 61 d := fun d hd => by
  obtain ⟨i, hi, rfl⟩ := List.mem_map.mp hd
  exact fine_nat (h i hi)
/-- a tuple of numbers -/
theorem fine_tup {l : List Nat} {n : Nat} (h : ∀ i ∈ l, i < 2 ^ 60) (hn : l.length ≤ n) (hb : n ≤ 100000) : Fine 1 (n * 63 + 3) (.tuple (nd l)) := fine_tuple (fine_nd h) (by rw [nd_length]; exact hn) hb
/-! ### lists of pairs of numbers -/
/-- at the places as stand the pairs ps -/
def Prs (H : Hp) (as : List Addr) (ps : List (Nat × Nat)) : Prop := Paired (fun a (p : Nat × Nat) => H a = some (.tup [.int p.1, .int p.2])) as ps
theorem Prs.length {H : Hp} {as : List Addr} {ps : List (Nat × Nat)} (h : Prs H as ps) : as.length = ps.length := Paired.length h
theorem prs_same {H H' : Hp} (e : Same H H') : ∀ {as : List Addr} {ps : List (Nat × Nat)}, Prs H as ps → Prs H' as ps
  | _, _, .nil => .nil
  | _, _, .cons h r => .cons (e _ _ h) (prs_same e r)
theorem prs_keep {b : Addr} {H H' : Hp} {ys : List V} (k : Keep b H H') (hb : H b = some (.lst ys)) : ∀ {as : List Addr} {ps : List (Nat × Nat)}, Prs H as ps → Prs H' as ps
  | _, _, .nil => .nil
  | _, _, .cons h r => .cons (k.tup hb h) (prs_keep k hb r)
theorem prs_get {H : Hp} : ∀ {as : List Addr} {ps : List (Nat × Nat)} {i : Nat} {a : Addr}, Prs H as ps → as[i]? = some a → ∃ p, ps[i]? = some p ∧ H a = some (.tup [.int p.1, .int p.2])
  | _, _, _, _, .nil, h => by simp at h
  | _, _, 0, _, .cons (b := p) h _, e => by
    cases Option.some.inj e
    exact ⟨p, rfl, h⟩
  | _, _, i + 1, a, .cons _ r, e => prs_get (i := i) r e
theorem prs_append {H : Hp} : ∀ {as bs : List Addr} {ps qs : List (Nat × Nat)}, Prs H as ps → Prs H bs qs → Prs H (as ++ bs) (ps ++ qs)
  | _, _, _, _, .nil, s => s
  | _, _, _, _, .cons h r, s => .cons h (prs_append r s)
def pd (p : Nat × Nat) : PyData := .tuple [.int (p.1 : Int), .int (p.2 : Int)]
theorem prs_dp {K : PySem.W.Frag} {H : Hp} : ∀ {as : List Addr} {ps : List (Nat × Nat)}, Prs H as ps → DpAll K H (as.map V.ref) (ps.map pd)
  | _, _, .nil => .nil
  | _, _, .cons h r => .cons (.tup (.inl (.inl h)) (.cons (.int _) (.cons (.int _) .nil))) (prs_dp r)
theorem fine_pd {p : Nat × Nat} (h1 : p.1 < 2 ^ 60) (h2 : p.2 < 2 ^ 60) : Fine 1 129 (pd p) := fine_tuple (n := 2) (fun d hd => by
  rcases List.mem_cons.mp hd with z | z
  · rw [z]; exact fine_nat h1
  · rw [List.mem_singleton.mp z]; exact fine_nat h2) (Nat.le_refl _) (by decide)
/-- a list of pairs -/
theorem fine_pds {ps : List (Nat × Nat)} {n : Nat} (h : ∀ p ∈ ps, p.1 < 2 ^ 60 ∧ p.2 < 2 ^ 60) (hn : ps.length ≤ n) (hb : n ≤ 100000) : Fine 2 (n * 131 + 3) (.list (ps.map pd)) :=
  fine_list (fun d hd => by
    obtain ⟨p, hp, rfl⟩ := List.mem_map.mp hd
    exact fine_pd (h p hp).1 (h p hp).2) (by rw [List.length_map]; exact hn) hb
end Pc
namespace Pc
open PySem PySem.Spec PyProof.Rows L2 RZ
/-! ### a list or a tuple: walked, unpacked -/
/-- a list or a tuple is read -/
def Sq (K : PySem.W.Frag) (H : Hp) (a : Addr) (xs : List V) : Prop := SqL K H a xs ∨ SqT K H a xs
theorem Sq.same {K : PySem.W.Frag} {H H' : Hp} {a : Addr} {xs : List V} (h : Sq K H a xs) (e : Same H H') : Sq K H' a xs := h.imp (fun z => e.seq z) (fun z => same_tup e z)
def iSeq (K : PySem.W.Frag) (tl : TE) : TI := fun σ H R => tl σ H fun x H1 => ∃ a, x = .ref a ∧ (((∃ xs, SqL K H1 a xs) ∧ R (Itl K a) H1) ∨ ((∃ xs, SqT K H1 a xs) ∧ R (Itt K a) H1))
section
variable {X : Cx}
theorem pi_seq {tg l : Expr} {tl : TE} (hl : PE X l tl) : PI X tg l (iSeq X.K tl) := by
  constructor
  intro pins s σ H R I h
  refine thn (hl.run pins s σ H _ I h) ?_
  rintro v s1 ⟨x, H1, I1, r1, a, ex, q⟩
  subst ex
  cases r1
  rcases q with ⟨⟨xs, hx⟩, q⟩ | ⟨⟨xs, hx⟩, q⟩
  · obtain ⟨its, _, p, _⟩ := I1.list hx
    refine wpAny_pyIter_list p.isList ?_
    exact pi_one (tk := s1.toks) I1 _ (turn_list _ _) ⟨_, Heap.get?_push_size _ rfl, rfl, rfl⟩ q
  · obtain ⟨its, _, p, _⟩ := I1.tuple hx
    refine wpAny_pyIter_tuple p ?_
    exact pi_one (tk := s1.toks) I1 _ (turn_tuple _ _) ⟨_, Heap.get?_push_size _ rfl, rfl, rfl⟩ q
/-- names unpacked from a tuple or a list -/
def gSeq (K : PySem.W.Frag) (n : Nat) (t : TGs) : TG := fun v σ H Q => ∃ a xs, v = .ref a ∧ Sq K H a xs ∧ xs.length = n ∧ t xs σ H Q
theorem pg_seq {es : List Expr} {k : Nat} {t : TGs} {n : Nat} {pos : Pos} (hc : X.calm = true) (h : PGs X es t)
    (hn : (assignEach es X.env).length = n := by rfl) (hst : (assignEach es X.env).findIdx? (·.1) = none := by rfl) : PG X (.Tuple es k pos) (gSeq X.K n t) := by
  constructor
  intro pins s σ H v u Q I r hw
  obtain ⟨a, xs, e, hq, hl, hw⟩ := hw
  rcases hq with hq | hq
  · exact (pg_unl (pos := pos) (k := k) hc h hn hst).run pins s σ H v u Q I r ⟨a, xs, e, hq, hl, hw⟩
  · exact (pg_tup (pos := pos) (k := k) hc h hn hst).run pins s σ H v u Q I r ⟨a, xs, e, hq, hl, hw⟩
/-! ### a call with keywords alone -/
def tKw (n : Nat) (sp : Sp) (gV : List V → List V) (E : XK) (tk : TA) : TE := fun σ H Q => tk σ H fun zs H1 => zs.length = n ∧ sp (gV zs) H1 Q E
theorem pe_kw {CX : CXT} {k : Nat} {f : Addr} {fd : FuncData} {ps ks : List Str} {sp : Sp} {E : XK} {x : Str} {p pos : Pos} {kws : List Keyword} {tk : TA} {g : List Value → List Value} {gV : List V → List V}
    (F : FnOk X.prog X.w X.K X.mg X.base CX k f fd ps sp) (hr : Room k X.A) (hg : Gl X x) (hm : X.mg x = some (.ref f)) (hk : PySem.W.keepIn X.K (.ref f) = true)
    (hb : ∀ (s : Shared) (ws : List Value), ws.length = ks.length → BindsTo s fd ⟨[], ks.zip ws⟩ (ps.zip (g ws))) (rel : ∀ {zs : List V} {ws : List Value}, zs.length = ks.length → Vals zs ws → Vals (gV zs) (g ws)) (hx : Passes CX X E) (hkw : PK X kws tk)
    (hall : (backToKw pos (keywordEach kws X.env)).all (·.1.isSome) = true := by rfl) (hks : (backToKw pos (keywordEach kws X.env)).filterMap (·.1) = ks := by rfl) (hdb : (x == ("__debug__" : Str)) = false := by decide)
    (hpl : ((backTo pos (starEach [] X.env)).any (·.1) || (backToKw pos (keywordEach kws X.env)).any (·.1.isNone)) = false := by rfl) :
    PE X (.Call (.Name x p) [] kws pos) (tKw ks.length sp gV E tk) := by
  constructor
  intro pins s σ H Q I h
  refine wpAny_Call_Name_kw (ld_glob I hg hm ?_ hdb)
  refine PySem.W.callWith_KW0 (h₀ := X.base) I.ok.mod.kin hk hall (thn (hkw.run pos pins s σ H _ I h) ?_) hpl
  rintro ws s2 ⟨zs, H2, I2, rz, hz, q⟩
  refine ⟨I2.kIn, ?_⟩
  rw [hks]
  refine wpAny_call (codeAny_mono (F.run X.A X.stack s2 H2 ⟨[], ks.zip ws⟩ (g ws) (gV zs) Q E hr I2.env0 (hb s2 ws (by rw [← rz.length, hz])) (rel hz rz) q) ?_)
  intro res s' hq
  cases res with
  | error e => exact hx pins σ H2 s2 e s' I2 hq
  | ok fl =>
    cases fl with
    | ret u => exact I2.after hq
    | next => exact hq.elim
    | brk => exact hq.elim
    | cont => exact hq.elim
end
theorem kw_to {K : PySem.W.Frag} {x qual : Str} {st : Stmt} {f : Addr} {fd : FuncData} {ps ks : List Str} {g : List Value → List Value} (F : Fun K x qual st f fd)
    (h : ∀ (kV doc pm : Value) (an : Option Addr) (cdv ct : Value) (ws : List Value), ws.length = ks.length → bindArgs (PySem.W.fnOf x qual (defArgs st) (defBody st) (defScope st) .none kV doc pm an cdv ct) ⟨[], ks.zip ws⟩ = pure (ps.zip (g ws))) :
    ∀ (s : Shared) (ws : List Value), ws.length = ks.length → BindsTo s fd ⟨[], ks.zip ws⟩ (ps.zip (g ws)) := by
  obtain ⟨oc, od, kV, doc, pm, an, cdv, ct, osl, rfl, lk, hcd⟩ := F.ex
  intro s ws hl
  exact .of_eq (h kV doc pm an cdv ct ws hl)
end Pc
namespace Pc
open PySem PySem.Spec PyProof.Rows L2 RZ
/-! ### the couples of a pairing -/
/-- the couples whose first person is below i -/
def cplN (ps : List Nat) (i : Nat) : List (Nat × Nat) := ((List.range i).filter fun x => decide (x < ps.getD x 0)).map fun x => (x, ps.getD x 0)
def cpl (ps : List Nat) : List (Nat × Nat) := cplN ps ps.length
theorem getD_of {ps : List Nat} {x y : Nat} (h : ps[x]? = some y) : ps.getD x 0 = y := by
  rw [List.getD_eq_getElem?_getD, h]; rfl
theorem cplN_yes {ps : List Nat} {i y : Nat} (h : ps[i]? = some y) (hl : i < y) : cplN ps (i + 1) = cplN ps i ++ [(i, y)] := by
  unfold cplN
  rw [List.range_succ, List.filter_append, List.map_append]
  congr 1
  rw [List.filter_cons_of_pos (by rw [getD_of h]; exact decide_eq_true hl), List.filter_nil, List.map_cons, List.map_nil, getD_of h]
theorem cplN_no {ps : List Nat} {i y : Nat} (h : ps[i]? = some y) (hl : ¬ i < y) : cplN ps (i + 1) = cplN ps i := by
  unfold cplN
  rw [List.range_succ, List.filter_append, List.map_append, List.filter_cons_of_neg (by rw [getD_of h]; simpa using hl), List.filter_nil, List.map_nil, List.append_nil]
theorem cplN_len (ps : List Nat) (i : Nat) : (cplN ps i).length ≤ i := by
  unfold cplN
  rw [List.length_map]
  exact Nat.le_trans (List.length_filter_le _ _) (by rw [List.length_range]; exact Nat.le_refl _)
theorem mem_cpl {n : Nat} {ps : List Nat} (h : IsPair n ps) {p : Nat × Nat} : p ∈ cpl ps ↔ ps[p.1]? = some p.2 ∧ p.1 < p.2 := by
  unfold cpl cplN
  rw [h.len]
  constructor
  · intro hp
    obtain ⟨x, hx, rfl⟩ := List.mem_map.mp hp
    obtain ⟨h1, h2⟩ := List.mem_filter.mp hx
    obtain ⟨y, e, _⟩ := h.par x (List.mem_range.mp h1)
    rw [getD_of e] at h2 ⊢
    exact ⟨e, of_decide_eq_true h2⟩
  · rintro ⟨e, hl⟩
    refine List.mem_map.mpr ⟨p.1, List.mem_filter.mpr ⟨List.mem_range.mpr ?_, ?_⟩, ?_⟩
    · rw [← h.len]; exact get_lt e
    · rw [getD_of e]; exact decide_eq_true hl
    · rw [getD_of e]
theorem IsPair.back {n : Nat} {ps : List Nat} (h : IsPair n ps) {x y : Nat} (e : ps[x]? = some y) : ps[y]? = some x ∧ y < n ∧ x < n ∧ y ≠ x := by
  have hx : x < n := by rw [← h.len]; exact get_lt e
  obtain ⟨z, e1, e2, e3, e4⟩ := h.par x hx
  cases Option.some.inj (e.symm.trans e1)
  exact ⟨e4, e2, hx, e3⟩
theorem cpl_cover {n : Nat} {ps : List Nat} (h : IsPair n ps) {z : Nat} (hz : z < n) : ∃ p ∈ cpl ps, p.1 = z ∨ p.2 = z := by
  obtain ⟨y, e1, e2, e3, e4⟩ := h.par z hz
  rcases Nat.lt_or_gt_of_ne e3 with l | l
  · exact ⟨(y, z), (mem_cpl h).mpr ⟨e4, l⟩, .inr rfl⟩
  · exact ⟨(z, y), (mem_cpl h).mpr ⟨e1, l⟩, .inl rfl⟩
theorem filter_split {α : Type} (f : α → Bool) : ∀ l : List α, (l.filter f).length + (l.filter fun x => !f x).length = l.length
  | [] => rfl
  | a :: r => by
    have ih := filter_split f r
    cases e : f a with
    | true => rw [List.filter_cons_of_pos e, List.filter_cons_of_neg (by rw [e]; decide), List.length_cons, List.length_cons]; omega
    | false => rw [List.filter_cons_of_neg (by rw [e]; decide), List.filter_cons_of_pos (by rw [e]; rfl), List.length_cons, List.length_cons]; omega
theorem cpl_half {n : Nat} {ps : List Nat} (h : IsPair n ps) : 2 * (cpl ps).length = n := by
  have e1 : (cpl ps).length = ((List.range n).filter fun x => decide (x < ps.getD x 0)).length := by
    unfold cpl cplN; rw [List.length_map, h.len]
  have inj : ∀ x y, x < n → y < n → ps.getD x 0 = ps.getD y 0 → x = y := fun x y hx hy e => by
    obtain ⟨u, a1, _, _, a4⟩ := h.par x hx
    obtain ⟨v, b1, _, _, b4⟩ := h.par y hy
    rw [getD_of a1, getD_of b1] at e
    subst e
    exact Option.some.inj (a4.symm.trans b4)
  have nd0 : (List.range n).Nodup := List.nodup_range
  have p1 : (((List.range n).filter fun x => decide (x < ps.getD x 0)).map fun x => ps.getD x 0).Perm ((List.range n).filter fun x => !decide (x < ps.getD x 0)) := by
    refine (List.perm_ext_iff_of_nodup ?_ (nd0.filter _)).mpr fun z => ?_
    · refine List.Pairwise.map _ (fun a b hab => hab) ?_
      refine List.Pairwise.imp_of_mem (fun {a b} ha hb hab => ?_) (nd0.filter fun x => decide (x < ps.getD x 0))
      exact fun e => hab (inj a b (List.mem_range.mp (List.mem_filter.mp ha).1) (List.mem_range.mp (List.mem_filter.mp hb).1) e)
    · constructor
      · intro hz
        obtain ⟨x, hx, rfl⟩ := List.mem_map.mp hz
        obtain ⟨h1, h2⟩ := List.mem_filter.mp hx
        obtain ⟨y, a1, a2, a3, a4⟩ := h.par x (List.mem_range.mp h1)
        rw [getD_of a1] at h2 ⊢
        have h3 := of_decide_eq_true h2
        refine List.mem_filter.mpr ⟨List.mem_range.mpr a2, ?_⟩
        rw [getD_of a4, decide_eq_false (by omega)]; rfl
      · intro hz
        obtain ⟨h1, h2⟩ := List.mem_filter.mp hz
        obtain ⟨y, a1, a2, a3, a4⟩ := h.par z (List.mem_range.mp h1)
        rw [getD_of a1] at h2
        have h3 : ¬ z < y := by simpa using h2
        refine List.mem_map.mpr ⟨y, List.mem_filter.mpr ⟨List.mem_range.mpr a2, ?_⟩, getD_of a4⟩
        rw [getD_of a4]
        exact decide_eq_true (by omega)
  have e2 := p1.length_eq
  rw [List.length_map] at e2
  have e3 := filter_split (fun x => decide (x < ps.getD x 0)) (List.range n)
  rw [List.length_range] at e3
  omega
/-- what pairs must be so that they make the pairing ps -/
structure Makes (qs : List (Nat × Nat)) (ps : List Nat) : Prop where
  half : 2 * qs.length = ps.length
  ok : ∀ p ∈ qs, ps[p.1]? = some p.2 ∧ ps[p.2]? = some p.1
  all : ∀ z, z < ps.length → ∃ p ∈ qs, p.1 = z ∨ p.2 = z
theorem makes_cpl {n : Nat} {ps : List Nat} (h : IsPair n ps) : Makes (cpl ps) ps where
  half := by rw [cpl_half h, h.len]
  ok p hp := by
    obtain ⟨e, _⟩ := (mem_cpl h).mp hp
    exact ⟨e, (h.back e).1⟩
  all z hz := cpl_cover h (by rw [← h.len]; exact hz)
/-- the pairs of qs in any order, turned or not -/
theorem Makes.turned {qs rs : List (Nat × Nat)} {ps : List Nat} (h : Makes qs ps) (hl : rs.length = qs.length) (h1 : ∀ p ∈ rs, p ∈ qs ∨ (p.2, p.1) ∈ qs) (h2 : ∀ p ∈ qs, p ∈ rs ∨ (p.2, p.1) ∈ rs) : Makes rs ps where
  half := by rw [hl]; exact h.half
  ok p hp := by
    rcases h1 p hp with z | z
    · exact h.ok p z
    · obtain ⟨a, b⟩ := h.ok _ z
      exact ⟨b, a⟩
  all z hz := by
    obtain ⟨p, hp, e⟩ := h.all z hz
    rcases h2 p hp with q | q
    · exact ⟨p, q, e⟩
    · exact ⟨_, q, e.symm⟩
def CInv (ps : List Nat) (qs : List (Nat × Nat)) (fs : List Nat) (i : Nat) : Prop := fs.length = ps.length ∧ ∀ j, j < i → ∀ p, qs[j]? = some p → fs[p.1]? = ps[p.1]? ∧ fs[p.2]? = ps[p.2]?
theorem set_keeps {ps fs : List Nat} {x y z : Nat} (hy : ps[x]? = some y) (hx : x < fs.length) (h : fs[z]? = ps[z]?) : (fs.set x y)[z]? = ps[z]? := by
  by_cases e : x = z
  · subst e
    rw [List.getElem?_set_self hx, hy]
  · rw [List.getElem?_set_ne e]; exact h
theorem CInv.step {ps fs : List Nat} {qs : List (Nat × Nat)} {i : Nat} {p : Nat × Nat} (m : Makes qs ps) (h : CInv ps qs fs i) (hp : qs[i]? = some p) : CInv ps qs ((fs.set p.1 p.2).set p.2 p.1) (i + 1) := by
  obtain ⟨hl, hj⟩ := h
  obtain ⟨o1, o2⟩ := m.ok p (List.mem_of_getElem? hp)
  have l1 : p.1 < fs.length := by rw [hl]; exact get_lt o1
  have l2 : p.2 < (fs.set p.1 p.2).length := by rw [List.length_set, hl]; exact get_lt o2
  refine ⟨by rw [List.length_set, List.length_set, hl], fun j hj2 r hr => ?_⟩
  by_cases e : j = i
  · subst e
    cases Option.some.inj (hp.symm.trans hr)
    refine ⟨set_keeps o2 l2 ?_, ?_⟩
    · rw [List.getElem?_set_self l1, o1]
    · rw [List.getElem?_set_self l2, o2]
  · obtain ⟨a, b⟩ := hj j (by omega) r hr
    exact ⟨set_keeps o2 l2 (set_keeps o1 l1 a), set_keeps o2 l2 (set_keeps o1 l1 b)⟩
theorem CInv.done {ps fs : List Nat} {qs : List (Nat × Nat)} (m : Makes qs ps) (h : CInv ps qs fs qs.length) : fs = ps := by
  refine List.ext_getElem? fun z => ?_
  by_cases hz : z < ps.length
  · obtain ⟨p, hp, e⟩ := m.all z hz
    obtain ⟨i, hi, ei⟩ := List.mem_iff_getElem.mp hp
    obtain ⟨a, b⟩ := h.2 i hi p (by rw [List.getElem?_eq_getElem hi, ei])
    rcases e with e | e
    · rw [← e]; exact a
    · rw [← e]; exact b
  · rw [List.getElem?_eq_none (by rw [h.1]; omega), List.getElem?_eq_none (by omega)]
end Pc
namespace Pc
open PySem PySem.Spec PyProof.Rows L2 RZ
section
variable {K : PySem.W.Frag}
/-- the values us are the pairs qs, each a tuple or a list -/
def Items (K : PySem.W.Frag) (H : Hp) (us : List V) (qs : List (Nat × Nat)) : Prop := us.length = qs.length ∧ ∀ (i : Nat) (v : V), us[i]? = some v → ∃ (c : Addr) (p : Nat × Nat), v = .ref c ∧ qs[i]? = some p ∧ Sq K H c [.int p.1, .int p.2]
theorem Items.same {H H' : Hp} {us : List V} {qs : List (Nat × Nat)} (h : Items K H us qs) (e : Same H H') : Items K H' us qs := ⟨h.1, fun i v hv => by
  obtain ⟨c, p, h1, h2, h3⟩ := h.2 i v hv
  exact ⟨c, p, h1, h2, h3.same e⟩⟩
theorem items_of {H : Hp} {as : List Addr} {qs : List (Nat × Nat)} (h : Prs H as qs) : Items K H (as.map V.ref) qs := ⟨by rw [List.length_map]; exact h.length, fun i v hv => by
  rw [List.getElem?_map] at hv
  cases e : as[i]? with
  | none => rw [e] at hv; cases hv
  | some c =>
    rw [e] at hv
    obtain ⟨p, h1, h2⟩ := prs_get h e
    exact ⟨c, p, (Option.some.inj hv).symm, h1, .inr (.inl (.inl h2))⟩⟩
end
end Pc
namespace Pc
open PySem PySem.Spec PyProof.Rows L2 RZ
theorem paired_perm {α β : Type} {R : α → β → Prop} {as bs : List α} (h : as.Perm bs) : ∀ ps : List β, Paired R as ps → ∃ qs : List β, qs.Perm ps ∧ Paired R bs qs := by
  induction h with
  | nil => exact fun ps h => ⟨ps, List.Perm.refl _, h⟩
  | cons x _ ih =>
    intro ps h
    cases h with
    | cons r t =>
      obtain ⟨qs, h1, h2⟩ := ih _ t
      exact ⟨_ :: qs, h1.cons _, .cons r h2⟩
  | swap x y l =>
    intro ps h
    cases h with
    | cons r t =>
      cases t with
      | cons r2 t2 => exact ⟨_, List.Perm.swap _ _ _, .cons r2 (.cons r t2)⟩
  | trans _ _ ih1 ih2 =>
    intro ps h
    obtain ⟨qs, h1, h2⟩ := ih1 ps h
    obtain ⟨rs, h3, h4⟩ := ih2 qs h2
    exact ⟨rs, h3.trans h1, h4⟩
/-- the same pairs, some turned -/
def Turned (qs rs : List (Nat × Nat)) : Prop := rs.length = qs.length ∧ ∀ (j : Nat) (p q : Nat × Nat), qs[j]? = some p → rs[j]? = some q → q = p ∨ q = (p.2, p.1)
theorem Turned.mem1 {qs rs : List (Nat × Nat)} (h : Turned qs rs) : ∀ p ∈ rs, p ∈ qs ∨ (p.2, p.1) ∈ qs := fun p hp => by
  obtain ⟨j, hj, e⟩ := List.mem_iff_getElem.mp hp
  obtain ⟨q, hq⟩ := get_some (l := qs) (i := j) (by rw [← h.1]; exact hj)
  rcases h.2 j q p hq (by rw [List.getElem?_eq_getElem hj, e]) with z | z
  · exact .inl (z ▸ List.mem_of_getElem? hq)
  · refine .inr ?_
    rw [z]
    exact List.mem_of_getElem? hq
theorem Turned.mem2 {qs rs : List (Nat × Nat)} (h : Turned qs rs) : ∀ p ∈ qs, p ∈ rs ∨ (p.2, p.1) ∈ rs := fun p hp => by
  obtain ⟨j, hj, e⟩ := List.mem_iff_getElem.mp hp
  obtain ⟨q, hq⟩ := get_some (l := rs) (i := j) (by rw [h.1]; exact hj)
  rcases h.2 j p q (by rw [List.getElem?_eq_getElem hj, e]) hq with z | z
  · exact .inl (z ▸ List.mem_of_getElem? hq)
  · exact .inr (z ▸ List.mem_of_getElem? hq)
theorem Makes.perm {qs rs : List (Nat × Nat)} {ps : List Nat} (h : Makes qs ps) (e : rs.Perm qs) : Makes rs ps := h.turned e.length_eq (fun p hp => .inl (e.mem_iff.mp hp)) (fun p hp => .inl (e.mem_iff.mpr hp))
theorem IsPair.lt {n : Nat} {ps : List Nat} (h : IsPair n ps) : ∀ i ∈ ps, i < n := fun i hi => by
  obtain ⟨x, hx, e⟩ := List.mem_iff_getElem.mp hi
  obtain ⟨y, e1, e2, _⟩ := h.par x (by rw [← h.len]; exact hx)
  rw [List.getElem?_eq_getElem hx, e] at e1
  cases Option.some.inj e1
  exact e2
theorem Makes.lt {qs : List (Nat × Nat)} {ps : List Nat} (h : Makes qs ps) : ∀ p ∈ qs, p.1 < ps.length ∧ p.2 < ps.length := fun p hp => ⟨get_lt (h.ok p hp).1, get_lt (h.ok p hp).2⟩
theorem iteN {A B : Prop} (h : B) : if (!true) = true then A else B := by
  rw [if_neg (by decide)]
  exact h
end Pc
namespace Pc
open PySem PySem.Spec PyProof.Rows L2 RZ
section
variable {P : Program} {w : World} {K : PySem.W.Frag} {mg : Str → Option Value} {base : Heap}
/-! ### one of some -/
def spOf (K : PySem.W.Frag) : Sp := fun vs H Q _ => ∃ (b a : Addr) (n : Nat) (xs : List V), vs = [.ref b, .ref a] ∧ Box (n + 1) H b ∧ a ≠ b ∧ H a = some (.lst xs) ∧ 0 < xs.length ∧ xs.length ≤ 1000 ∧
  ∀ (H' : Hp) (i : Nat) (v : V), xs[i]? = some v → Keep b H H' → Box n H' b → Q v H'
theorem ok_of (T : Env K mg) : FnOk P w K mg base CX0 2 T.f_of T.d_of ["_law_box_here", "_law_some"] (spOf K) := by
  have GT : FnOk P w K mg base CX0 1 T.f_take T.d_take ["_law_box_here", "_law_span"] spTake := ok_take T
  refine T.F_of.ok sc_of (fun vs H Q E h => ?_) (fun cdv A outer s H vs Q E hr h => ?_)
  · obtain ⟨b, a, n, xs, rfl, _⟩ := h
    rfl
  · obtain ⟨b, a, n, xs, rfl, hB, hab, ha, h0, hl, q⟩ := h
    refine ⟨_, pss_one (ps_ret (pe_ix ix_list (pv 1) (pe_call GT hr (by rfl) T.g_take T.F_take.kp T.b_take .nil pass0 (pa_cons (pv 0) (pa_cons (pe_callB call_len_seq (by rfl) T.n_len PySem.boot_len (pa_cons (pv 1) pa_nil)) pa_nil))) (fun _ _ => rfl))), ?_⟩
    refine ⟨.ref a, rfl, .ref b, rfl, .ref a, rfl, a, xs, rfl, .inl (.inl (.inl ha)), b, n, xs.length, rfl, hB, by omega, by omega, fun r H' r0 r1 hB' k => ?_⟩
    obtain ⟨v, hv⟩ := get_some (l := xs) (i := r.toNat) (by omega)
    refine ⟨a, xs, r, v, rfl, rfl, .inl (.inl (k _ _ hab ha)), ?_, q H' r.toNat v hv k hB'⟩
    have := atI_nat hv
    rw [show ((r.toNat : Nat) : Int) = r by omega] at this
    exact this
end
end Pc
namespace Pc
open PySem PySem.Spec PyProof.Rows L2 RZ
section
variable {P : Program} {w : World} {K : PySem.W.Frag} {mg : Str → Option Value} {base : Heap}
/-! ### a drawn call -/
def spAnyCall : Sp := fun vs H Q _ => ∃ (b : Addr) (m n : Nat), vs = [.ref b, .int n] ∧ Box (m + 2) H b ∧ 2 ≤ n ∧ n ≤ 1000 ∧
  ∀ (H' : Hp) (t : Addr) (x y : Nat), x < y → y < n → H t = none → H' t = some (.tup [.int x, .int y]) → Keep b H H' → Box m H' b → Q (.ref t) H'
theorem ok_any_call (T : Env K mg) : FnOk P w K mg base CX0 2 T.f_any_call T.d_any_call ["_law_box_here", "_law_count"] spAnyCall := by
  have GT : FnOk P w K mg base CX0 1 T.f_take T.d_take ["_law_box_here", "_law_span"] spTake := ok_take T
  refine T.F_any_call.ok sc_any_call (fun vs H Q E h => ?_) (fun cdv A outer s H vs Q E hr h => ?_)
  · obtain ⟨b, m, n, rfl, _⟩ := h
    rfl
  · obtain ⟨b, m, n, rfl, hB, h2, hn, q⟩ := h
    refine ⟨_, pss_cons (ps_set (i := 2) sc_any_call.nd rfl (.inl rfl) (pe_call GT hr (by rfl) T.g_take T.F_take.kp T.b_take .nil pass0 (pa_cons (pv 0) (pa_cons (pe_op op_sub (pv 1) pe_int) pa_nil)))) <|
      pss_one (ps_ret (pe_tup (pa_cons (pv 2) (pa_cons (pe_op op_add (pe_op op_add (pv 2) pe_int) (pe_call GT hr (by rfl) T.g_take T.F_take.kp T.b_take .nil pass0 (pa_cons (pv 0) (pa_cons (pe_op op_sub (pe_op op_sub (pv 1) pe_int) (pv 2)) pa_nil)))) pa_nil)))), ?_⟩
    refine ⟨.ref b, rfl, .int n, rfl, n, 1, rfl, rfl, b, m + 1, (n : Int) - 1, rfl, hB, by omega, by omega, fun r H1 r0 r1 hB1 k1 => ?_⟩
    refine ⟨_, rfl, _, rfl, r, 1, rfl, rfl, .ref b, rfl, .int n, rfl, n, 1, rfl, rfl, .int r, rfl, _, r, rfl, rfl, b, m, (n : Int) - 1 - r, rfl, hB1, by omega, by omega, fun u H2 u0 u1 hB2 k2 => ?_⟩
    refine ⟨_, u, rfl, rfl, by show 2 ≤ sizeLine; decide, fun t nt => ?_⟩
    have kk : Keep b H H2 := k1.trans k2
    have nt0 : H t = none := by
      cases e : H t with
      | none => rfl
      | some o =>
        by_cases hb : t = b
        · subst hb
          obtain ⟨y, hy⟩ := hB2.lst
          rw [hy] at nt; cases nt
        · rw [kk t o hb e] at nt; cases nt
    refine q _ t r.toNat (r.toNat + 1 + u.toNat) (by omega) (by omega) nt0 ?_ (kk.trans (Keep.of_same (same_new nt))) (hB2.same (same_new nt))
    rw [upd_same, show ((r.toNat + 1 + u.toNat : Nat) : Int) = r + 1 + u by omega, show ((r.toNat : Nat) : Int) = r by omega]
end
end Pc
namespace Pc
open PySem PySem.Spec PyProof.Rows L2 RZ
/-! ### a loop over a list or a tuple that stays as it is -/
theorem for_seq {K : PySem.W.Frag} {a : Addr} {xs : List V} {g : TG} {tb : TS} {D : Ends} {σ : L2.St} {H0 H : Hp} (hS : Sq K H0 a xs) (Pv : Nat → L2.St → Hp → Prop) (h0 : Pv 0 σ H) (hst : ∀ i σ H', Pv i σ H' → Same H0 H')
    (hs : ∀ i x σ H', xs[i]? = some x → Pv i σ H' → g x σ H' fun σ2 H2 => tb { D with nx := Pv (i + 1), ct := Pv (i + 1), bk := D.nx } σ2 H2) (hd : ∀ σ H', Pv xs.length σ H' → D.nx σ H') :
    ((∃ ys, SqL K H a ys) ∧ ∃ W : Nat → Nat → L2.St → Hp → Prop, (∃ m, W 0 m σ H) ∧ ∀ i m σ H, W i m σ H → ((Itl K a).stop i H ∧ D.nx σ H) ∨ ((Itl K a).go i H ∧ ∃ N : L2.St → Hp → Prop, (∀ σ' H', N σ' H' → ∃ m', m' < m ∧ W (i + 1) m' σ' H') ∧ ∀ x H', (Itl K a).yld i H x H' → g x σ H' fun σ2 H2 => tb { D with nx := N, ct := N, bk := D.nx } σ2 H2)) ∨
    ((∃ ys, SqT K H a ys) ∧ ∃ W : Nat → Nat → L2.St → Hp → Prop, (∃ m, W 0 m σ H) ∧ ∀ i m σ H, W i m σ H → ((Itt K a).stop i H ∧ D.nx σ H) ∨ ((Itt K a).go i H ∧ ∃ N : L2.St → Hp → Prop, (∀ σ' H', N σ' H' → ∃ m', m' < m ∧ W (i + 1) m' σ' H') ∧ ∀ x H', (Itt K a).yld i H x H' → g x σ H' fun σ2 H2 => tb { D with nx := N, ct := N, bk := D.nx } σ2 H2)) := by
  rcases hS with h | h
  · exact .inl ⟨⟨_, (hst 0 σ H h0).seq h⟩, for_list Pv h0 (fun i σ H' _ p => (hst i σ H' p).seq h) hs hd⟩
  · exact .inr ⟨⟨_, same_tup (hst 0 σ H h0) h⟩, for_tup Pv h0 (fun i σ H' _ p => same_tup (hst i σ H' p) h) hs hd⟩
/-! ### two are joined, and the two that are left -/
def jn (fs : List Nat) (a b : Nat) : List Nat := if fs.getD a 0 = b then fs else (((fs.set a b).set b a).set (fs.getD a 0) (fs.getD b 0)).set (fs.getD b 0) (fs.getD a 0)
theorem jn_len (fs : List Nat) (a b : Nat) : (jn fs a b).length = fs.length := by
  unfold jn
  split
  · rfl
  · simp only [List.length_set]
/-- the four are different -/
theorem four {n : Nat} {fs : List Nat} (h : IsPair n fs) {a b c d : Nat} (hab : a ≠ b) (ea : fs[a]? = some c) (eb : fs[b]? = some d) (hcb : c ≠ b) : c ≠ a ∧ d ≠ b ∧ d ≠ a ∧ c ≠ d ∧ a < n ∧ b < n ∧ c < n ∧ d < n := by
  obtain ⟨a1, a2, a3, a4⟩ := h.back ea
  obtain ⟨b1, b2, b3, b4⟩ := h.back eb
  refine ⟨a4, b4, fun e => ?_, fun e => ?_, a3, b3, a2, b2⟩
  · rw [e, ea] at b1; exact hcb (Option.some.inj b1)
  · rw [e, b1] at a1; exact hab (Option.some.inj a1).symm
theorem jn_same {fs : List Nat} {a b : Nat} (e : fs[a]? = some b) : jn fs a b = fs := by
  unfold jn
  rw [getD_of e, if_pos rfl]
theorem jn_get {n : Nat} {fs : List Nat} (h : IsPair n fs) {a b c d : Nat} (hab : a ≠ b) (ea : fs[a]? = some c) (eb : fs[b]? = some d) (hcb : c ≠ b) (z : Nat) :
    (jn fs a b)[z]? = if z = a then some b else if z = b then some a else if z = c then some d else if z = d then some c else fs[z]? := by
  obtain ⟨x1, x2, x3, x4, l1, l2, l3, l4⟩ := four h hab ea eb hcb
  unfold jn
  rw [getD_of ea, getD_of eb, if_neg hcb]
  have hl := h.len
  by_cases z4 : z = d
  · subst z4
    rw [List.getElem?_set_self (by simp only [List.length_set]; omega), if_neg x3, if_neg x2, if_neg (Ne.symm x4), if_pos rfl]
  · rw [List.getElem?_set_ne (Ne.symm z4)]
    by_cases z3 : z = c
    · subst z3
      rw [List.getElem?_set_self (by simp only [List.length_set]; omega), if_neg x1, if_neg hcb, if_pos rfl]
    · rw [List.getElem?_set_ne (Ne.symm z3)]
      by_cases z2 : z = b
      · subst z2
        rw [List.getElem?_set_self (by simp only [List.length_set]; omega), if_neg (Ne.symm hab), if_pos rfl]
      · rw [List.getElem?_set_ne (Ne.symm z2)]
        by_cases z1 : z = a
        · subst z1
          rw [List.getElem?_set_self (by omega), if_pos rfl]
        · rw [List.getElem?_set_ne (Ne.symm z1), if_neg z1, if_neg z2, if_neg z3, if_neg z4]
theorem jn_pair {n : Nat} {fs : List Nat} (h : IsPair n fs) {a b : Nat} (hab : a ≠ b) (ha : a < n) (hb : b < n) : IsPair n (jn fs a b) := by
  obtain ⟨c, ea, _⟩ := h.par a ha
  obtain ⟨d, eb, _⟩ := h.par b hb
  by_cases hcb : c = b
  · subst hcb; rw [jn_same ea]; exact h
  · have G := jn_get h hab ea eb hcb
    obtain ⟨x1, x2, x3, x4, _, _, l3, l4⟩ := four h hab ea eb hcb
    refine ⟨by rw [jn_len]; exact h.len, fun x hx => ?_⟩
    by_cases z1 : x = a
    · subst z1
      exact ⟨b, by rw [G, if_pos rfl], hb, hab.symm, by rw [G, if_neg hab.symm, if_pos rfl]⟩
    · by_cases z2 : x = b
      · subst z2
        exact ⟨a, by rw [G, if_neg z1, if_pos rfl], ha, hab, by rw [G, if_pos rfl]⟩
      · by_cases z3 : x = c
        · subst z3
          exact ⟨d, by rw [G, if_neg z1, if_neg z2, if_pos rfl], l4, x4.symm, by rw [G, if_neg x3, if_neg x2, if_neg x4.symm, if_pos rfl]⟩
        · by_cases z4 : x = d
          · subst z4
            exact ⟨c, by rw [G, if_neg z1, if_neg z2, if_neg z3, if_pos rfl], l3, x4, by rw [G, if_neg x1, if_neg hcb, if_pos rfl]⟩
          · obtain ⟨y, e1, e2, e3, e4⟩ := h.par x hx
            have back : ∀ {u : Nat}, y = u → fs[u]? = some x := fun e => by rw [← e]; exact e4
            refine ⟨y, by rw [G, if_neg z1, if_neg z2, if_neg z3, if_neg z4]; exact e1, e2, e3, ?_⟩
            rw [G, if_neg, if_neg, if_neg, if_neg]
            · exact e4
            · intro e; have q := back e; rw [(h.back eb).1] at q; exact z2 (Option.some.inj q).symm
            · intro e; have q := back e; rw [(h.back ea).1] at q; exact z1 (Option.some.inj q).symm
            · intro e; have q := back e; rw [eb] at q; exact z4 (Option.some.inj q).symm
            · intro e; have q := back e; rw [ea] at q; exact z3 (Option.some.inj q).symm
/-- all pairs are calls of n people -/
def Calls (n : Nat) (qs : List (Nat × Nat)) : Prop := ∀ q ∈ qs, q.1 < q.2 ∧ q.2 < n
/-- the calls done one after another -/
def runs (qs : List (Nat × Nat)) (ps : List Nat) : List Nat := qs.foldl (fun fs q => jn fs q.1 q.2) ps
theorem runs_take {qs : List (Nat × Nat)} {ps : List Nat} {i : Nat} {q : Nat × Nat} (h : qs[i]? = some q) : runs (qs.take (i + 1)) ps = jn (runs (qs.take i) ps) q.1 q.2 := by
  unfold runs
  rw [List.take_add_one, h, List.foldl_append]
  rfl
theorem runs_pair {n : Nat} : ∀ (qs : List (Nat × Nat)) {ps : List Nat}, IsPair n ps → Calls n qs → IsPair n (runs qs ps)
  | [], _, h, _ => h
  | q :: r, ps, h, hc => by
    have h1 := hc q List.mem_cons_self
    exact runs_pair r (jn_pair h (by omega) (by omega) h1.2) (fun x hx => hc x (List.mem_cons_of_mem _ hx))
theorem Calls.take {n : Nat} {qs : List (Nat × Nat)} (h : Calls n qs) (i : Nat) : Calls n (qs.take i) := fun q hq => h q (List.mem_of_mem_take hq)
end Pc
namespace Pc
open PySem PySem.Spec PyProof.Rows L2 RZ
section
variable {P : Program} {w : World} {K : PySem.W.Frag} {mg : Str → Option Value} {base : Heap}
/-! ### drawn calls -/
def spSomeCalls : Sp := fun vs H Q _ => ∃ (b : Addr) (k n m : Nat), vs = [.ref b, .int n, .int m] ∧ Box (k + 2 * m + 10) H b ∧ 2 ≤ n ∧ n ≤ 1000 ∧ m ≤ 1000 ∧
  ∀ (H' : Hp) (p : Addr) (as : List Addr) (qs : List (Nat × Nat)), Calls n qs → qs.length ≤ m → H p = none → H' p = some (.lst (as.map V.ref)) → Prs H' as qs → Keep b H H' → Box k H' b → Q (.ref p) H'
theorem ok_some_calls (T : Env K mg) : FnOk P w K mg base CX0 3 T.f_some_calls T.d_some_calls ["_law_box_here", "_law_count", "_law_most"] spSomeCalls := by
  have GT : FnOk P w K mg base CX0 1 T.f_take T.d_take ["_law_box_here", "_law_span"] spTake := ok_take T
  have GO : FnOk P w K mg base CX0 2 T.f_of T.d_of ["_law_box_here", "_law_some"] (spOf K) := ok_of T
  have GA : FnOk P w K mg base CX0 2 T.f_any_call T.d_any_call ["_law_box_here", "_law_count"] spAnyCall := ok_any_call T
  refine T.F_some_calls.ok sc_some_calls (fun vs H Q E h => ?_) (fun cdv A outer s H vs Q E hr h => ?_)
  · obtain ⟨b, k, n, m, rfl, _⟩ := h
    rfl
  · obtain ⟨b, k, n, m, rfl, hB, h2, hn, hm, q⟩ := h
    have h1 := hr.mono (show 1 ≤ 2 by decide)
    refine ⟨_, pss_cons (ps_set (i := 3) sc_some_calls.nd rfl (.inr rfl) (pe_call GO hr (by rfl) T.g_of T.F_of.kp T.b_of .nil pass0 (pa_cons (pv 0) (pa_cons (pe_lst (pa_cons (pv 1) (pa_cons (pv 1) (pa_cons
        (pe_callB (call_max2 rfl) (by rfl) T.n_max (by decide +kernel) (pa_cons pe_int (pa_cons (pe_op op_fdiv (pv 1) pe_int) pa_nil))) pa_nil)))) pa_nil)))) <|
      pss_one (ps_ret (pe_lc (own := [("_law_turn", 4)]) (g := gName 4) (tt := tYes) rfl sc_some_calls.nd
        (pi_range1 (by rfl) T.n_range (pa_cons (pe_call GT h1 (by rfl) T.g_take T.F_take.kp T.b_take .nil pass0 (pa_cons (pv 0) (pa_cons (pe_op op_add (pv 2) pe_int) pa_nil))) pa_nil))
        (blkOk_by (N := N_some_calls) (sc := defScope s_some_calls) (by decide +kernel))
        (fun _ _ _ _ _ => pg_name (i := 4) sc_some_calls.nd rfl (.inl rfl)) (fun _ _ _ _ _ => pts_nil)
        (fun _ _ _ _ _ => pe_call GA hr (by rfl) T.g_any_call T.F_any_call.kp T.b_any_call .nil pass0 (pa_cons (pv 0) (pa_cons (pv 3) pa_nil))))), ?_⟩
    refine ⟨.ref b, rfl, .int n, rfl, .int n, rfl, .int n, rfl, n, 2, rfl, rfl, ⟨by decide, by decide⟩, 2, _, rfl, by show 3 ≤ sizeLine; decide, fun l nl => ?_⟩
    have sl : Same H _ := same_new (o := .lst [.int n, .int n, .int (if (n : Int) / 2 > 2 then (n : Int) / 2 else 2)]) nl
    refine ⟨b, l, k + 2 * m + 9, _, rfl, hB.same sl, (hB.ne_new nl).symm, upd_same, by show 0 < 3; decide, by show 3 ≤ 1000; decide, fun H1 i v hv k1 hB1 => ?_⟩
    -- whatever was chosen
    have hw : ∃ u : Nat, v = .int u ∧ 2 ≤ u ∧ u ≤ n := by
      have hi := get_lt hv
      have hi3 : i < 3 := hi
      have mx : ∃ u : Nat, (if (n : Int) / 2 > 2 then (n : Int) / 2 else 2) = (u : Int) ∧ 2 ≤ u ∧ u ≤ n := by
        by_cases c : (n : Int) / 2 > 2
        · exact ⟨n / 2, by rw [if_pos c]; omega, by omega, by omega⟩
        · exact ⟨2, by rw [if_neg c]; rfl, by omega, h2⟩
      obtain ⟨u, eu, hu⟩ := mx
      rcases (show i = 0 ∨ i = 1 ∨ i = 2 by omega) with z | z | z
      · subst z; exact ⟨n, (Option.some.inj hv).symm, h2, Nat.le_refl _⟩
      · subst z; exact ⟨n, (Option.some.inj hv).symm, h2, Nat.le_refl _⟩
      · subst z
        refine ⟨u, ?_, hu⟩
        rw [← eu]
        exact (Option.some.inj hv).symm
    obtain ⟨u, rfl, hu2, hun⟩ := hw
    refine ⟨.ref b, rfl, .int m, rfl, m, 1, rfl, rfl, b, k + 2 * m + 8, (m : Int) + 1, rfl, hB1, by omega, by omega, fun r H2 r0 r1 hB2 k2 => ?_⟩
    refine ⟨r, rfl, by omega, by omega, fun D nD => ?_⟩
    have bD : b ≠ D := hB2.ne_new nD
    have k02 : Keep b H H2 := (Keep.of_same sl).trans (k1.trans k2)
    have nD0 : H D = none := by
      cases e : H D with
      | none => rfl
      | some o => rw [k02 D o bD.symm e] at nD; cases nD
    refine lc_range (n := r.toNat) (fun j H' => Keep b H2 H' ∧ Box (k + 2 * m + 8 - 2 * j) H' b ∧ ∃ (as : List Addr) (qs : List (Nat × Nat)), H' D = some (.lst (as.map V.ref)) ∧ Prs H' as qs ∧ Calls n qs ∧ qs.length = j)
      ⟨Keep.of_same (same_new nD), (hB2.same (same_new nD)), [], [], upd_same, .nil, fun q hq => by simp at hq, rfl⟩ (fun j H' hj hPv => ?_) (fun H' hPv => ?_)
    · obtain ⟨k3, hB3, as, qs, eD, hA, hc, hql⟩ := hPv
      refine ⟨rfl, yes_if ⟨_, rfl, _, rfl, b, k + 2 * m + 8 - 2 * (j + 1), u, rfl, hB3.mono (by omega), hu2, by omega, fun H4 t x y hxy hy nt et k4 hB4 => ?_⟩⟩
      have eD4 := k4 _ _ bD.symm eD
      have ntD : t ≠ D := fun z => by rw [z, eD4] at et; cases et
      obtain ⟨yb, hyb⟩ := hB3.lst
      refine ⟨_, eD4, small1000 (by rw [List.length_map, hA.length]; omega), fun a o na ha => ?_, hB4.keep (c := D) keep_upd bD, as ++ [t], qs ++ [(x, y)], ?_, ?_, ?_, ?_⟩
      · rw [upd_ne (ne_of_none ha nD)]; exact k4 _ _ na (k3 _ _ na ha)
      · rw [upd_same, List.map_append]; rfl
      · refine prs_append (prs_keep (b := D) keep_upd eD4 (prs_keep k4 hyb hA)) (.cons ?_ .nil)
        rw [upd_ne ntD]; exact et
      · intro q hq
        rcases List.mem_append.mp hq with z | z
        · exact hc q z
        · rw [List.mem_singleton.mp z]; exact ⟨hxy, by show y < n; omega⟩
      · rw [List.length_append, hql]; rfl
    · obtain ⟨k3, hB3, as, qs, eD, hA, hc, hql⟩ := hPv
      exact q H' D as qs hc (by omega) nD0 eD hA (k02.trans k3) (hB3.mono (by omega))
end
end Pc
namespace Pc
open PySem PySem.Spec PyProof.Rows L2 RZ
/-! ### lists of tuples of numbers -/
def Tups (H : Hp) (as : List Addr) (ls : List (List Nat)) : Prop := Paired (fun a l => H a = some (.tup (nv l))) as ls
theorem Tups.length {H : Hp} {as : List Addr} {ls : List (List Nat)} (h : Tups H as ls) : as.length = ls.length := Paired.length h
theorem tups_same {H H' : Hp} (e : Same H H') : ∀ {as : List Addr} {ls : List (List Nat)}, Tups H as ls → Tups H' as ls
  | _, _, .nil => .nil
  | _, _, .cons h r => .cons (e _ _ h) (tups_same e r)
theorem tups_keep {b : Addr} {H H' : Hp} {ys : List V} (k : Keep b H H') (hb : H b = some (.lst ys)) : ∀ {as : List Addr} {ls : List (List Nat)}, Tups H as ls → Tups H' as ls
  | _, _, .nil => .nil
  | _, _, .cons h r => .cons (k.tup hb h) (tups_keep k hb r)
theorem tups_append {H : Hp} : ∀ {as bs : List Addr} {ls ms : List (List Nat)}, Tups H as ls → Tups H bs ms → Tups H (as ++ bs) (ls ++ ms)
  | _, _, _, _, .nil, s => s
  | _, _, _, _, .cons h r, s => .cons h (tups_append r s)
theorem tups_get {H : Hp} : ∀ {as : List Addr} {ls : List (List Nat)} {i : Nat} {a : Addr}, Tups H as ls → as[i]? = some a → ∃ l, ls[i]? = some l ∧ H a = some (.tup (nv l))
  | _, _, _, _, .nil, h => by simp at h
  | _, _, 0, _, .cons (b := p) h _, e => by
    cases Option.some.inj e
    exact ⟨p, rfl, h⟩
  | _, _, i + 1, a, .cons _ r, e => tups_get (i := i) r e
def td (l : List Nat) : PyData := .tuple (nd l)
theorem tups_dp {K : PySem.W.Frag} {H : Hp} : ∀ {as : List Addr} {ls : List (List Nat)}, Tups H as ls → DpAll K H (as.map V.ref) (ls.map td)
  | _, _, .nil => .nil
  | _, _, .cons (b := l) h r => .cons (.tup (.inl (.inl h)) (dp_nats l)) (tups_dp r)
theorem fine_tds {ls : List (List Nat)} {n m : Nat} (h : ∀ l ∈ ls, l.length ≤ m ∧ ∀ i ∈ l, i < 2 ^ 60) (hn : ls.length ≤ n) (hb : n ≤ 100000) (hm : m ≤ 100000) : Fine 2 (n * (m * 63 + 5) + 3) (.list (ls.map td)) :=
  fine_list (fun d hd => by
    obtain ⟨l, hl, rfl⟩ := List.mem_map.mp hd
    exact fine_tup (h l hl).2 (h l hl).1 hm) (by rw [List.length_map]; exact hn) hb
/-- the pairings before the first call and behind each -/
def alongs (qs : List (Nat × Nat)) (ps : List Nat) (i : Nat) : List (List Nat) := (List.range (i + 1)).map fun j => runs (qs.take j) ps
theorem alongs_zero (qs : List (Nat × Nat)) (ps : List Nat) : alongs qs ps 0 = [ps] := rfl
theorem alongs_succ (qs : List (Nat × Nat)) (ps : List Nat) (i : Nat) : alongs qs ps (i + 1) = alongs qs ps i ++ [runs (qs.take (i + 1)) ps] := by
  unfold alongs
  rw [List.range_succ, List.map_append]
  rfl
theorem alongs_len (qs : List (Nat × Nat)) (ps : List Nat) (i : Nat) : (alongs qs ps i).length = i + 1 := by
  unfold alongs
  rw [List.length_map, List.length_range]
theorem alongs_mem {n i : Nat} {qs : List (Nat × Nat)} {ps l : List Nat} (hP : IsPair n ps) (hc : Calls n qs) (h : l ∈ alongs qs ps i) : IsPair n l := by
  obtain ⟨j, _, rfl⟩ := List.mem_map.mp h
  exact runs_pair _ hP (hc.take j)
end Pc
namespace Pc
open PySem PySem.Spec PyProof.Rows L2 RZ
/-! ### sheets as lists of natural numbers -/
/-- the empty sheet of n people -/
def emp (n : Nat) : List Nat := (List.range (2 * n)).map fun e => (e + n) % (2 * n)
theorem emp_len (n : Nat) : (emp n).length = 2 * n := by unfold emp; rw [List.length_map, List.length_range]
theorem emp_get {n e : Nat} (h : e < 2 * n) : (emp n)[e]? = some ((e + n) % (2 * n)) := by
  unfold emp
  rw [List.getElem?_map, List.getElem?_range h]
  rfl
theorem emp_lo {n e : Nat} (h : e < n) : (emp n)[e]? = some (n + e) := by
  rw [emp_get (by omega), Nat.mod_eq_of_lt (by omega), Nat.add_comm]
theorem emp_hi {n e : Nat} (h : e < n) : (emp n)[n + e]? = some e := by
  rw [emp_get (by omega), show n + e + n = e + 1 * (2 * n) by omega, Nat.add_mul_mod_self_right, Nat.mod_eq_of_lt (by omega)]
theorem emp_pair {n : Nat} (hn : 0 < n) : IsPair (2 * n) (emp n) := by
  refine ⟨emp_len n, fun x hx => ?_⟩
  by_cases h : x < n
  · exact ⟨n + x, emp_lo h, by omega, by omega, emp_hi h⟩
  · have e : x = n + (x - n) := by omega
    refine ⟨x - n, ?_, by omega, by omega, ?_⟩
    · have := emp_hi (n := n) (e := x - n) (by omega)
      rw [← e] at this; exact this
    · have := emp_lo (n := n) (e := x - n) (by omega)
      rw [← e] at this; exact this
/-- the calls at the lower ends -/
def low (n : Nat) (qs : List (Nat × Nat)) : List (Nat × Nat) := qs.map fun q => (n + q.1, n + q.2)
theorem low_calls {n : Nat} {qs : List (Nat × Nat)} (h : Calls n qs) : Calls (2 * n) (low n qs) := fun q hq => by
  obtain ⟨r, hr, rfl⟩ := List.mem_map.mp hq
  have := h r hr
  exact ⟨by show n + r.1 < n + r.2; omega, by show n + r.2 < 2 * n; omega⟩
theorem low_take (n : Nat) (qs : List (Nat × Nat)) (i : Nat) : (low n qs).take i = low n (qs.take i) := by unfold low; rw [List.map_take]
theorem low_get {n i : Nat} {qs : List (Nat × Nat)} {q : Nat × Nat} (h : qs[i]? = some q) : (low n qs)[i]? = some (n + q.1, n + q.2) := by
  unfold low; rw [List.getElem?_map, h]; rfl
/-- the sheet with calls added -/
def shw (n : Nat) (qs : List (Nat × Nat)) (fs : List Nat) : List Nat := runs (low n qs) fs
theorem shw_take {n i : Nat} {qs : List (Nat × Nat)} {fs : List Nat} {q : Nat × Nat} (h : qs[i]? = some q) : shw n (qs.take (i + 1)) fs = jn (shw n (qs.take i) fs) (n + q.1) (n + q.2) := by
  unfold shw
  rw [← low_take, ← low_take, runs_take (low_get h)]
theorem shw_pair {n : Nat} {qs : List (Nat × Nat)} {fs : List Nat} (hP : IsPair (2 * n) fs) (h : Calls n qs) : IsPair (2 * n) (shw n qs fs) := runs_pair _ hP (low_calls h)
/-- the other order of the stores -/
theorem jn_alt {n : Nat} {fs : List Nat} (h : IsPair n fs) {a b c d : Nat} (hab : a ≠ b) (ea : fs[a]? = some c) (eb : fs[b]? = some d) (hcb : c ≠ b) : (((fs.set c d).set d c).set a b).set b a = jn fs a b := by
  obtain ⟨x1, x2, x3, x4, l1, l2, l3, l4⟩ := four h hab ea eb hcb
  have hl := h.len
  refine List.ext_getElem? fun z => ?_
  rw [jn_get h hab ea eb hcb]
  by_cases z2 : z = b
  · subst z2
    rw [List.getElem?_set_self (by simp only [List.length_set]; omega), if_neg hab.symm, if_pos rfl]
  · rw [List.getElem?_set_ne (Ne.symm z2)]
    by_cases z1 : z = a
    · subst z1
      rw [List.getElem?_set_self (by simp only [List.length_set]; omega), if_pos rfl]
    · rw [List.getElem?_set_ne (Ne.symm z1), if_neg z1, if_neg z2]
      by_cases z4 : z = d
      · subst z4
        rw [List.getElem?_set_self (by simp only [List.length_set]; omega), if_neg (Ne.symm x4), if_pos rfl]
      · rw [List.getElem?_set_ne (Ne.symm z4)]
        by_cases z3 : z = c
        · subst z3
          rw [List.getElem?_set_self (by omega), if_pos rfl]
        · rw [List.getElem?_set_ne (Ne.symm z3), if_neg z3, if_neg z4]
theorem range_shift (n : Nat) : rgV (n : Int) (2 * (n : Int)) = nv ((List.range n).map fun i => n + i) := by
  unfold rgV nv
  rw [show (2 * (n : Int) - (n : Int)).toNat = n by omega, List.map_map]
  refine List.map_congr_left fun i _ => ?_
  show V.int ((n : Int) + (i : Nat)) = V.int (((n + i : Nat) : Int))
  rw [show (((n + i : Nat) : Int)) = (n : Int) + (i : Nat) by omega]
/-- strands in any order: the upper ends in turn, the lower ends as drawn -/
def SInv (n : Nat) (ls fs : List Nat) (t : Nat) : Prop := fs.length = 2 * n ∧ ∀ j, j < t → ∀ l, ls[j]? = some l → fs[j]? = some l ∧ fs[l]? = some j
theorem SInv.step {n : Nat} {ls fs : List Nat} {t l : Nat} (hp : ls.Perm ((List.range n).map fun i => n + i)) (h : SInv n ls fs t) (hl : ls[t]? = some l) : SInv n ls ((fs.set t l).set l t) (t + 1) := by
  have hln : ls.length = n := by rw [hp.length_eq, List.length_map, List.length_range]
  have hnd : ls.Nodup := hp.nodup_iff.mpr (List.Pairwise.map _ (fun a b (hab : a ≠ b) => show n + a ≠ n + b by omega) List.nodup_range)
  have big : ∀ {j x : Nat}, ls[j]? = some x → n ≤ x ∧ x < 2 * n := fun hx => by
    obtain ⟨i, hi, e⟩ := List.mem_map.mp (hp.mem_iff.mp (List.mem_of_getElem? hx))
    have := List.mem_range.mp hi
    omega
  have ht : t < n := by rw [← hln]; exact get_lt hl
  have hb := big hl
  obtain ⟨h1, h2⟩ := h
  refine ⟨by simp only [List.length_set]; exact h1, fun j hj x hx => ?_⟩
  have hjn : j < n := by rw [← hln]; exact get_lt hx
  have hbx := big hx
  by_cases e : j = t
  · subst e
    cases Option.some.inj (hl.symm.trans hx)
    exact ⟨by rw [List.getElem?_set_ne (by omega), List.getElem?_set_self (by omega)], by rw [List.getElem?_set_self (by simp only [List.length_set]; omega)]⟩
  · obtain ⟨g1, g2⟩ := h2 j (by omega) x hx
    have xl : l ≠ x := fun z => by subst z; exact e (nd_ix hnd hx hl)
    exact ⟨by rw [List.getElem?_set_ne (by omega), List.getElem?_set_ne (by omega)]; exact g1, by rw [List.getElem?_set_ne xl, List.getElem?_set_ne (by omega)]; exact g2⟩
theorem SInv.done {n : Nat} {ls fs : List Nat} (hp : ls.Perm ((List.range n).map fun i => n + i)) (h : SInv n ls fs n) : IsPair (2 * n) fs := by
  have hln : ls.length = n := by rw [hp.length_eq, List.length_map, List.length_range]
  refine ⟨h.1, fun x hx => ?_⟩
  by_cases e : x < n
  · obtain ⟨l, hl⟩ := get_some (l := ls) (i := x) (by omega)
    obtain ⟨i, hi, e'⟩ := List.mem_map.mp (hp.mem_iff.mp (List.mem_of_getElem? hl))
    have := List.mem_range.mp hi
    obtain ⟨g1, g2⟩ := h.2 x e l hl
    exact ⟨l, g1, by omega, by omega, g2⟩
  · have hm : x ∈ ls := hp.mem_iff.mpr (List.mem_map.mpr ⟨x - n, List.mem_range.mpr (by omega), by omega⟩)
    obtain ⟨j, hj, ej⟩ := List.mem_iff_getElem.mp hm
    obtain ⟨g1, g2⟩ := h.2 j (by omega) x (by rw [List.getElem?_eq_getElem hj, ej])
    exact ⟨j, g2, by omega, by omega, g1⟩
theorem emp_step (n i : Nat) (h : i < 2 * n) : (emp n).take (i + 1) = (emp n).take i ++ [(i + n) % (2 * n)] := by
  rw [List.take_add_one, emp_get h]
  rfl
theorem nv_snoc' (l : List Nat) (x : Nat) : nv l ++ [.int (x : Int)] = nv (l ++ [x]) := by
  unfold nv
  rw [List.map_append]; rfl
theorem mod_cast_n (i n : Nat) : ((0 : Int) + (i : Nat) + (n : Int)) % (2 * (n : Int)) = (((i + n) % (2 * n) : Nat) : Int) := by
  have h : (((i + n) % (2 * n) : Nat) : Int) = ((i + n : Nat) : Int) % ((2 * n : Nat) : Int) := Int.natCast_emod _ _
  rw [h, Int.natCast_add, Int.natCast_mul, Int.zero_add]
  rfl
end Pc
namespace Pc
open PySem PySem.Spec PyProof.Rows L2 RZ
/-! ### pairs that are chosen from a range -/
def selN (c : Nat → Bool) (g : Nat → Nat × Nat) (i : Nat) : List (Nat × Nat) := ((List.range i).filter c).map g
theorem selN_yes {c : Nat → Bool} {g : Nat → Nat × Nat} {i : Nat} (h : c i = true) : selN c g (i + 1) = selN c g i ++ [g i] := by
  unfold selN
  rw [List.range_succ, List.filter_append, List.map_append, List.filter_cons_of_pos h, List.filter_nil, List.map_cons, List.map_nil]
theorem selN_no {c : Nat → Bool} {g : Nat → Nat × Nat} {i : Nat} (h : c i = false) : selN c g (i + 1) = selN c g i := by
  unfold selN
  rw [List.range_succ, List.filter_append, List.map_append, List.filter_cons_of_neg (by rw [h]; decide), List.filter_nil, List.map_nil, List.append_nil]
theorem selN_len (c : Nat → Bool) (g : Nat → Nat × Nat) (i : Nat) : (selN c g i).length ≤ i := by
  unfold selN
  rw [List.length_map]
  exact Nat.le_trans (List.length_filter_le _ _) (by rw [List.length_range]; exact Nat.le_refl _)
theorem selN_mem {c : Nat → Bool} {g : Nat → Nat × Nat} {i : Nat} {p : Nat × Nat} : p ∈ selN c g i ↔ ∃ x, x < i ∧ c x = true ∧ g x = p := by
  unfold selN
  rw [List.mem_map]
  constructor
  · rintro ⟨x, hx, e⟩
    have := List.mem_filter.mp hx
    exact ⟨x, List.mem_range.mp this.1, this.2, e⟩
  · rintro ⟨x, h1, h2, e⟩
    exact ⟨x, List.mem_filter.mpr ⟨List.mem_range.mpr h1, h2⟩, e⟩
/-- one more pair is put to the list -/
theorem sel_step {H H1 : Hp} {D u : Addr} {as : List Addr} {c : Nat → Bool} {g : Nat → Nat × Nat} {i : Nat} {v1 v2 : V} (nD : H D = none) (sm : Same H H1) (eD : H1 D = some (.lst (as.map V.ref))) (hA : Prs H1 as (selN c g i)) (hc : c i = true) (nu : H1 u = none)
    (hv : [v1, v2] = [V.int ((g i).1 : Int), V.int ((g i).2 : Int)]) (hi : i ≤ 999) : ∃ acc, (upd H1 u (.tup [v1, v2])) D = some (.lst acc) ∧ acc.length < sizeLine ∧
      (Same H (upd (upd H1 u (.tup [v1, v2])) D (.lst (acc ++ [.ref u]))) ∧ ∃ as' : List Addr, (upd (upd H1 u (.tup [v1, v2])) D (.lst (acc ++ [.ref u]))) D = some (.lst (as'.map V.ref)) ∧ Prs (upd (upd H1 u (.tup [v1, v2])) D (.lst (acc ++ [.ref u]))) as' (selN c g (i + 1))) := by
  have su : Same H1 (upd H1 u (.tup [v1, v2])) := same_new nu
  have nuD : u ≠ D := fun e => by rw [e, eD] at nu; cases nu
  refine ⟨_, su _ _ eD, ?_, fun b' o hb => ?_, as ++ [u], ?_, ?_⟩
  · rw [List.length_map, hA.length]
    have := selN_len c g i
    exact small1000 (by omega)
  · rw [upd_ne (ne_of_none hb nD)]; exact su _ _ (sm _ _ hb)
  · rw [upd_same, List.map_append]; rfl
  · rw [selN_yes hc]
    refine prs_append (prs_keep (b := D) (ys := as.map V.ref) keep_upd (su _ _ eD) (prs_same su hA)) (.cons ?_ .nil)
    rw [upd_ne nuD, upd_same, hv]
theorem ix_sq {K : PySem.W.Frag} {H : Hp} {a : Addr} {xs : List V} {i : Int} {v : V} {Q : VK} (h : Sq K H a xs) (e : atI xs i = some v) (q : Q v H) : rIx K (.ref a) (.int i) H Q :=
  h.elim (fun z => .inl ⟨a, xs, i, v, rfl, rfl, z, e, q⟩) (fun z => .inr (.inl ⟨a, xs, i, v, rfl, rfl, z, e, q⟩))
/-! ### upper pairs, lower pairs, strands -/
def upC (fs : List Nat) (n x : Nat) : Bool := decide (x < fs.getD x 0) && decide (fs.getD x 0 < n)
def upG (fs : List Nat) (x : Nat) : Nat × Nat := (x, fs.getD x 0)
def loC (fs : List Nat) (n x : Nat) : Bool := decide (n + x < fs.getD (n + x) 0)
def loG (fs : List Nat) (n x : Nat) : Nat × Nat := (x, fs.getD (n + x) 0 - n)
def stC (fs : List Nat) (n x : Nat) : Bool := decide (n ≤ fs.getD x 0)
def stG (fs : List Nat) (n x : Nat) : Nat × Nat := (x, fs.getD x 0 - n)
def ups (fs : List Nat) (n : Nat) : List (Nat × Nat) := selN (upC fs n) (upG fs) n
def los (fs : List Nat) (n : Nat) : List (Nat × Nat) := selN (loC fs n) (loG fs n) n
def sts (fs : List Nat) (n : Nat) : List (Nat × Nat) := selN (stC fs n) (stG fs n) n
theorem ups_mem {n : Nat} {fs : List Nat} (h : IsPair (2 * n) fs) {p : Nat × Nat} (hp : p ∈ ups fs n) : fs[p.1]? = some p.2 ∧ p.1 < p.2 ∧ p.2 < n := by
  obtain ⟨x, hx, hc, e⟩ := selN_mem.mp hp
  obtain ⟨y, ey, _⟩ := h.par x (by omega)
  unfold upC at hc
  rw [getD_of ey, Bool.and_eq_true, decide_eq_true_iff, decide_eq_true_iff] at hc
  subst e
  show fs[x]? = some (fs.getD x 0) ∧ x < fs.getD x 0 ∧ fs.getD x 0 < n
  rw [getD_of ey]
  exact ⟨ey, hc.1, hc.2⟩
theorem los_mem {n : Nat} {fs : List Nat} (h : IsPair (2 * n) fs) {p : Nat × Nat} (hp : p ∈ los fs n) : fs[n + p.1]? = some (n + p.2) ∧ p.1 < p.2 ∧ p.2 < n := by
  obtain ⟨x, hx, hc, e⟩ := selN_mem.mp hp
  obtain ⟨y, ey, hy, _⟩ := h.par (n + x) (by omega)
  unfold loC at hc
  rw [getD_of ey, decide_eq_true_iff] at hc
  subst e
  show fs[n + x]? = some (n + (fs.getD (n + x) 0 - n)) ∧ x < fs.getD (n + x) 0 - n ∧ fs.getD (n + x) 0 - n < n
  rw [getD_of ey, show n + (y - n) = y by omega]
  exact ⟨ey, by omega, by omega⟩
theorem sts_mem {n : Nat} {fs : List Nat} (h : IsPair (2 * n) fs) {p : Nat × Nat} (hp : p ∈ sts fs n) : fs[p.1]? = some (n + p.2) ∧ p.1 < n ∧ p.2 < n := by
  obtain ⟨x, hx, hc, e⟩ := selN_mem.mp hp
  obtain ⟨y, ey, hy, _⟩ := h.par x (by omega)
  unfold stC at hc
  rw [getD_of ey, decide_eq_true_iff] at hc
  subst e
  show fs[x]? = some (n + (fs.getD x 0 - n)) ∧ x < n ∧ fs.getD x 0 - n < n
  rw [getD_of ey, show n + (y - n) = y by omega]
  exact ⟨ey, by omega, by omega⟩
/-- all joins of a sheet, as pairs of ends -/
def jns (fs : List Nat) (n : Nat) : List (Nat × Nat) := ups fs n ++ ((los fs n).map (fun p => (n + p.1, n + p.2)) ++ (sts fs n).map (fun p => (p.1, n + p.2)))
theorem jns_ok {n : Nat} {fs : List Nat} (h : IsPair (2 * n) fs) : ∀ p ∈ jns fs n, fs[p.1]? = some p.2 ∧ p.1 < p.2 := fun p hp => by
  rcases List.mem_append.mp hp with z | z
  · have := ups_mem h z; exact ⟨this.1, this.2.1⟩
  · rcases List.mem_append.mp z with z | z
    · obtain ⟨r, hr, rfl⟩ := List.mem_map.mp z
      have := los_mem h hr
      exact ⟨this.1, by show n + r.1 < n + r.2; omega⟩
    · obtain ⟨r, hr, rfl⟩ := List.mem_map.mp z
      have := sts_mem h hr
      exact ⟨this.1, by show r.1 < n + r.2; omega⟩
theorem sel_fst {c : Nat → Bool} {g : Nat → Nat × Nat} {i : Nat} (h : ∀ x, (g x).1 = x) : (selN c g i).map Prod.fst = (List.range i).filter c := by
  unfold selN
  rw [List.map_map]
  conv => rhs; rw [← List.map_id ((List.range i).filter c)]
  exact List.map_congr_left fun x _ => h x
theorem jns_nodup {n : Nat} {fs : List Nat} (h : IsPair (2 * n) fs) : ((jns fs n).map Prod.fst).Nodup := by
  have e1 : (ups fs n).map Prod.fst = (List.range n).filter (upC fs n) := sel_fst fun _ => rfl
  have e2 : ((los fs n).map (fun p => (n + p.1, n + p.2))).map Prod.fst = ((List.range n).filter (loC fs n)).map (fun x => n + x) := by
    rw [← sel_fst (c := loC fs n) (g := loG fs n) (i := n) fun _ => rfl, List.map_map, List.map_map]; rfl
  have e3 : ((sts fs n).map (fun p => (p.1, n + p.2))).map Prod.fst = (List.range n).filter (stC fs n) := by
    rw [← sel_fst (c := stC fs n) (g := stG fs n) (i := n) fun _ => rfl, List.map_map]; rfl
  unfold jns
  rw [List.map_append, List.map_append, e1, e2, e3]
  have nr : (List.range n).Nodup := List.nodup_range
  refine List.nodup_append.mpr ⟨nr.filter _, List.nodup_append.mpr ⟨?_, nr.filter _, fun a ha b hb => ?_⟩, fun a ha b hb => ?_⟩
  · exact List.Pairwise.map _ (fun a b (hab : a ≠ b) => show n + a ≠ n + b by omega) (nr.filter _)
  · obtain ⟨x, _, rfl⟩ := List.mem_map.mp ha
    have := List.mem_range.mp (List.mem_filter.mp hb).1
    omega
  · have ha1 := List.mem_range.mp (List.mem_filter.mp ha).1
    have ha2 := (List.mem_filter.mp ha).2
    unfold upC at ha2
    rw [Bool.and_eq_true, decide_eq_true_iff, decide_eq_true_iff] at ha2
    rcases List.mem_append.mp hb with z | z
    · obtain ⟨x, _, rfl⟩ := List.mem_map.mp z; omega
    · have hb2 := (List.mem_filter.mp z).2
      unfold stC at hb2
      rw [decide_eq_true_iff] at hb2
      intro e; subst e; omega
theorem jns_all {n : Nat} {fs : List Nat} (h : IsPair (2 * n) fs) {z y : Nat} (e : fs[z]? = some y) (hz : z < y) : (z, y) ∈ jns fs n := by
  obtain ⟨_, hy, hz2, _⟩ := h.back e
  unfold jns
  by_cases c : z < n
  · by_cases d : y < n
    · refine List.mem_append.mpr (.inl (selN_mem.mpr ⟨z, c, ?_, ?_⟩))
      · unfold upC; rw [getD_of e, decide_eq_true hz, decide_eq_true d]; rfl
      · unfold upG; rw [getD_of e]
    · refine List.mem_append.mpr (.inr (List.mem_append.mpr (.inr (List.mem_map.mpr ⟨(z, y - n), selN_mem.mpr ⟨z, c, ?_, ?_⟩, ?_⟩))))
      · unfold stC; rw [getD_of e]; exact decide_eq_true (by omega)
      · unfold stG; rw [getD_of e]
      · show (z, n + (y - n)) = (z, y); rw [show n + (y - n) = y by omega]
  · have e' : fs[n + (z - n)]? = some y := by rw [show n + (z - n) = z by omega]; exact e
    refine List.mem_append.mpr (.inr (List.mem_append.mpr (.inl (List.mem_map.mpr ⟨(z - n, y - n), selN_mem.mpr ⟨z - n, by omega, ?_, ?_⟩, ?_⟩))))
    · unfold loC; rw [getD_of e']; exact decide_eq_true (by omega)
    · unfold loG; rw [getD_of e']
    · show (n + (z - n), n + (y - n)) = (z, y); rw [show n + (z - n) = z by omega, show n + (y - n) = y by omega]
/-- the ends of joins in a row -/
def flat : List (Nat × Nat) → List Nat
  | [] => []
  | p :: r => p.1 :: p.2 :: flat r
theorem flat_app : ∀ a b : List (Nat × Nat), flat (a ++ b) = flat a ++ flat b
  | [], _ => rfl
  | p :: r, b => by show p.1 :: p.2 :: flat (r ++ b) = _; rw [flat_app r b]; rfl
theorem flat_mem : ∀ {l : List (Nat × Nat)} {z : Nat}, z ∈ flat l ↔ ∃ p ∈ l, z = p.1 ∨ z = p.2
  | [], z => by simp [flat]
  | p :: r, z => by
    show z ∈ p.1 :: p.2 :: flat r ↔ _
    rw [List.mem_cons, List.mem_cons, flat_mem (l := r)]
    constructor
    · rintro (e | e | ⟨q, hq, e⟩)
      · exact ⟨p, List.mem_cons_self, .inl e⟩
      · exact ⟨p, List.mem_cons_self, .inr e⟩
      · exact ⟨q, List.mem_cons_of_mem _ hq, e⟩
    · rintro ⟨q, hq, e⟩
      rcases List.mem_cons.mp hq with z | z
      · subst z; exact e.elim .inl (fun e => .inr (.inl e))
      · exact .inr (.inr ⟨q, z, e⟩)
theorem flat_len : ∀ l : List (Nat × Nat), (flat l).length = 2 * l.length
  | [] => rfl
  | p :: r => by show (flat r).length + 1 + 1 = 2 * (r.length + 1); rw [flat_len r]; omega
theorem flat_nodup {n : Nat} {fs : List Nat} (h : IsPair n fs) : ∀ {l : List (Nat × Nat)}, (∀ p ∈ l, fs[p.1]? = some p.2 ∧ p.1 < p.2) → (l.map Prod.fst).Nodup → (flat l).Nodup
  | [], _, _ => List.nodup_nil
  | p :: r, ho, hd => by
    have hp := ho p List.mem_cons_self
    obtain ⟨n1, n2⟩ := List.nodup_cons.mp (show (p.1 :: r.map Prod.fst).Nodup from hd)
    have hr : ∀ q ∈ r, fs[q.1]? = some q.2 ∧ q.1 < q.2 := fun q hq => ho q (List.mem_cons_of_mem _ hq)
    have ih := flat_nodup h hr n2
    have bp := (h.back hp.1).1
    have ne1 : ∀ q ∈ r, p.1 ≠ q.1 := fun q hq e => n1 (List.mem_map.mpr ⟨q, hq, e.symm⟩)
    show (p.1 :: p.2 :: flat r).Nodup
    refine List.nodup_cons.mpr ⟨fun hm => ?_, List.nodup_cons.mpr ⟨fun hm => ?_, ih⟩⟩
    · rcases List.mem_cons.mp hm with e | e
      · omega
      · obtain ⟨q, hq, e⟩ := flat_mem.mp e
        have hq' := hr q hq
        rcases e with e | e
        · exact ne1 q hq e
        · have bq := (h.back hq'.1).1
          rw [← e, hp.1] at bq
          have := Option.some.inj bq
          omega
    · obtain ⟨q, hq, e⟩ := flat_mem.mp hm
      have hq' := hr q hq
      rcases e with e | e
      · have e1 := hq'.1
        rw [← e, bp] at e1
        have := Option.some.inj e1
        omega
      · have bq := (h.back hq'.1).1
        rw [← e, bp] at bq
        exact ne1 q hq (Option.some.inj bq)
theorem jns_perm {n : Nat} {fs : List Nat} (h : IsPair (2 * n) fs) : (flat (jns fs n)).Perm (List.range (2 * n)) := by
  refine (List.perm_ext_iff_of_nodup (flat_nodup h (jns_ok h) (jns_nodup h)) List.nodup_range).mpr fun z => ?_
  rw [flat_mem, List.mem_range]
  constructor
  · rintro ⟨p, hp, e⟩
    obtain ⟨b1, b2, b3, _⟩ := h.back (jns_ok h p hp).1
    rcases e with e | e <;> omega
  · intro hz
    obtain ⟨y, ey, hy, hne, eb⟩ := h.par z hz
    by_cases c : z < y
    · exact ⟨_, jns_all h ey c, .inl rfl⟩
    · exact ⟨_, jns_all h eb (by omega), .inr rfl⟩
theorem flat_two {f : Nat → Bool} : ∀ {l : List (Nat × Nat)}, (∀ p ∈ l, f p.1 = true ∧ f p.2 = true) → (flat l).countP f = 2 * l.length
  | [], _ => rfl
  | p :: r, h => by
    have hp := h p List.mem_cons_self
    show (p.1 :: p.2 :: flat r).countP f = _
    rw [List.countP_cons_of_pos hp.1, List.countP_cons_of_pos hp.2, flat_two fun q hq => h q (List.mem_cons_of_mem _ hq), List.length_cons]
    omega
theorem flat_none {f : Nat → Bool} : ∀ {l : List (Nat × Nat)}, (∀ p ∈ l, f p.1 = false ∧ f p.2 = false) → (flat l).countP f = 0
  | [], _ => rfl
  | p :: r, h => by
    have hp := h p List.mem_cons_self
    show (p.1 :: p.2 :: flat r).countP f = _
    rw [List.countP_cons_of_neg (by rw [hp.1]; decide), List.countP_cons_of_neg (by rw [hp.2]; decide), flat_none fun q hq => h q (List.mem_cons_of_mem _ hq)]
theorem flat_one {f : Nat → Bool} : ∀ {l : List (Nat × Nat)}, (∀ p ∈ l, f p.1 = true ∧ f p.2 = false) → (flat l).countP f = l.length
  | [], _ => rfl
  | p :: r, h => by
    have hp := h p List.mem_cons_self
    show (p.1 :: p.2 :: flat r).countP f = _
    rw [List.countP_cons_of_pos hp.1, List.countP_cons_of_neg (by rw [hp.2]; decide), flat_one fun q hq => h q (List.mem_cons_of_mem _ hq), List.length_cons]
theorem range_low (n : Nat) : (List.range (2 * n)).countP (fun z => decide (z < n)) = n := by
  rw [show 2 * n = n + n by omega, List.range_add, List.countP_append, List.countP_eq_length.mpr (fun a ha => decide_eq_true (List.mem_range.mp ha)), List.countP_eq_zero.mpr (fun a ha => ?_), List.length_range, Nat.add_zero]
  obtain ⟨x, _, rfl⟩ := List.mem_map.mp ha
  rw [decide_eq_true_iff]; omega
theorem ups_los {n : Nat} {fs : List Nat} (h : IsPair (2 * n) fs) : (ups fs n).length = (los fs n).length := by
  have hp := jns_perm h
  have hl := hp.length_eq
  have hc := hp.countP_eq (fun z => decide (z < n))
  rw [range_low] at hc
  rw [flat_len, List.length_range] at hl
  unfold jns at hc hl
  rw [List.length_append, List.length_append, List.length_map, List.length_map] at hl
  have x1 : (flat (ups fs n)).countP (fun z => decide (z < n)) = 2 * (ups fs n).length := flat_two fun p hp => by
    have := ups_mem h hp
    exact ⟨decide_eq_true (by omega), decide_eq_true (by omega)⟩
  have x2 : (flat ((los fs n).map (fun p => (n + p.1, n + p.2)))).countP (fun z => decide (z < n)) = 0 := flat_none fun p hp => by
    obtain ⟨r, hr, rfl⟩ := List.mem_map.mp hp
    exact ⟨decide_eq_false (by show ¬ n + r.1 < n; omega), decide_eq_false (by show ¬ n + r.2 < n; omega)⟩
  have x3 : (flat ((sts fs n).map (fun p => (p.1, n + p.2)))).countP (fun z => decide (z < n)) = ((sts fs n).map (fun p => (p.1, n + p.2))).length := flat_one fun p hp => by
    obtain ⟨r, hr, rfl⟩ := List.mem_map.mp hp
    have := sts_mem h hr
    exact ⟨decide_eq_true (by show r.1 < n; omega), decide_eq_false (by show ¬ n + r.2 < n; omega)⟩
  rw [flat_app, flat_app, List.countP_append, List.countP_append, x1, x2, x3, List.length_map] at hc
  omega
end Pc
namespace Pc
open PySem PySem.Spec PyProof.Rows L2 RZ
section
variable {P : Program} {w : World} {K : PySem.W.Frag} {mg : Str → Option Value} {base : Heap}
/-! ### the number of people of a sheet -/
def spPeople (K : PySem.W.Frag) : Sp := fun vs H Q _ => ∃ (a : Addr) (fs : List Nat) (n : Nat), vs = [.ref a] ∧ Sq K H a (nv fs) ∧ fs.length = 2 * n ∧ Q (.int n) H
theorem ok_p_people_of (T : Env K mg) : FnOk P w K mg base CX0 1 T.f_p_people_of T.d_p_people_of ["sheet"] (spPeople K) := by
  refine T.F_p_people_of.ok sc_p_people_of (fun vs H Q E h => ?_) (fun cdv A outer s H vs Q E hr h => ?_)
  · obtain ⟨a, fs, n, rfl, _⟩ := h
    rfl
  · obtain ⟨a, fs, n, rfl, hS, hl, q⟩ := h
    refine ⟨_, pss_one (ps_ret (pe_op op_fdiv (pe_callB call_len_seq (by rfl) T.n_len PySem.boot_len (pa_cons (pv 0) pa_nil)) pe_int)), ?_⟩
    refine ⟨.ref a, rfl, a, _, rfl, hS, _, 2, rfl, rfl, ⟨by decide, by decide⟩, ?_⟩
    show Q (.int (((nv fs).length : Int) / 2)) H
    rw [nv_length, hl, show (((2 * n : Nat) : Int) / 2) = (n : Int) by omega]
    exact q
end
end Pc
namespace Pc
/-! ### ways along a sheet and a pairing -/
/-- nodup numbers below n are n at most -/
theorem few_below : ∀ (n : Nat) (l : List Nat), l.Nodup → (∀ x ∈ l, x < n) → l.length ≤ n
  | 0, l, _, h => by
    cases l with
    | nil => exact Nat.le_refl _
    | cons a r => exact absurd (h a List.mem_cons_self) (Nat.not_lt_zero _)
  | n + 1, l, hd, h => by
    by_cases hm : n ∈ l
    · have h1 : (l.erase n).length = l.length - 1 := List.length_erase_of_mem hm
      have h2 := few_below n (l.erase n) (hd.erase n) (fun x hx => by
        have hx' := (hd.mem_erase_iff).mp hx
        have := h x hx'.2
        have := hx'.1
        omega)
      omega
    · have h2 := few_below n l hd (fun x hx => by
        have := h x hx
        have : x ≠ n := fun e => hm (e ▸ hx)
        omega)
      omega
/-- a function on the first n + 1 numbers into the n first ones takes one value twice -/
theorem pigeon (n : Nat) (f : Nat → Nat) (h : ∀ i, i ≤ n → f i < n) : ∃ i j, i < j ∧ j ≤ n ∧ f i = f j := by
  apply Classical.byContradiction
  intro hn
  have hd : ((List.range (n + 1)).map f).Nodup := by
    rw [List.nodup_iff_pairwise_ne, List.pairwise_map]
    refine List.Pairwise.imp_of_mem ?_ List.pairwise_lt_range
    intro a b ha hb hab e
    exact hn ⟨a, b, hab, by have := List.mem_range.mp hb; omega, e⟩
  have := few_below n _ hd (fun x hx => by
    obtain ⟨i, hi, rfl⟩ := List.mem_map.mp hx
    exact h i (by have := List.mem_range.mp hi; omega))
  rw [List.length_map, List.length_range] at this
  omega
section
variable (fs ps : List Nat) (n : Nat)
/-- the whole way from an end: along the join, along the couple, and so on until a lower end -/
inductive Trail : Nat → List Nat → Prop
  | stop {z : Nat} : n ≤ fs.getD z 0 → Trail z [z, fs.getD z 0]
  | go {z : Nat} {l : List Nat} : fs.getD z 0 < n → Trail (ps.getD (fs.getD z 0) 0) l → Trail z (z :: fs.getD z 0 :: l)
/-- where the steps of a way begin -/
def hop (z : Nat) : Nat → Nat
  | 0 => z
  | k + 1 => ps.getD (fs.getD (hop z k) 0) 0
end
theorem IsPair.d {n : Nat} {ps : List Nat} (h : IsPair n ps) {x : Nat} (hx : x < n) : ps.getD x 0 < n ∧ ps.getD x 0 ≠ x ∧ ps.getD (ps.getD x 0) 0 = x ∧ ps[x]? = some (ps.getD x 0) := by
  obtain ⟨y, h1, h2, h3, h4⟩ := h.par x hx
  rw [getD_of h1]
  exact ⟨h2, h3, getD_of h4, h1⟩
theorem IsPair.inj {n : Nat} {ps : List Nat} (h : IsPair n ps) {x y : Nat} (hx : x < n) (hy : y < n) (e : ps.getD x 0 = ps.getD y 0) : x = y := by
  rw [← (h.d hx).2.2.1, ← (h.d hy).2.2.1, e]
theorem Trail.det {fs ps : List Nat} {n z : Nat} {l m : List Nat} (h : Trail fs ps n z l) : Trail fs ps n z m → l = m := by
  induction h generalizing m with
  | stop h1 => intro h; cases h with
    | stop _ => rfl
    | go h2 _ => omega
  | go h1 _ ih => intro h; cases h with
    | stop h2 => omega
    | go _ h3 => rw [ih h3]
theorem Trail.len {fs ps : List Nat} {n z : Nat} {l : List Nat} (h : Trail fs ps n z l) : 2 ≤ l.length ∧ l.length % 2 = 0 ∧ n ≤ l.getLastD 0 := by
  induction h with
  | stop h1 => exact ⟨Nat.le_refl _, by simp only [List.length_cons, List.length_nil], h1⟩
  | @go z l h1 _ ih =>
    refine ⟨by simp only [List.length_cons]; omega, by simp only [List.length_cons]; omega, ?_⟩
    cases l with
    | nil => exact absurd ih.1 (by decide)
    | cons a r => exact ih.2.2
theorem hop_step (fs ps : List Nat) (z k : Nat) : hop fs ps (ps.getD (fs.getD z 0) 0) k = hop fs ps z (k + 1) := by
  induction k with
  | zero => rfl
  | succ k ih => rw [hop, ih]; rfl
theorem trail_of {fs ps : List Nat} {n : Nat} : ∀ (m z : Nat), n ≤ fs.getD (hop fs ps z m) 0 → ∃ l, Trail fs ps n z l ∧ l.length ≤ 2 * m + 2
  | 0, z, h => ⟨_, .stop h, Nat.le_refl _⟩
  | m + 1, z, h => by
    by_cases c : fs.getD z 0 < n
    · obtain ⟨l, h1, h2⟩ := trail_of m (ps.getD (fs.getD z 0) 0) (by rw [hop_step]; exact h)
      exact ⟨_, .go c h1, by simp only [List.length_cons]; omega⟩
    · exact ⟨_, .stop (by omega), by simp only [List.length_cons, List.length_nil]; omega⟩
/-- every way from a lower end comes to a lower end -/
theorem trail_ex {fs ps : List Nat} {n : Nat} (hF : IsPair (2 * n) fs) (hP : IsPair n ps) {z : Nat} (hz : n ≤ z) (hz2 : z < 2 * n) : ∃ l, Trail fs ps n z l ∧ l.length ≤ 2 * n + 2 := by
  apply Classical.byContradiction
  intro hn
  have small : ∀ k, k ≤ n → fs.getD (hop fs ps z k) 0 < n := fun k hk => by
    apply Classical.byContradiction
    intro h
    obtain ⟨l, h1, h2⟩ := trail_of (fs := fs) (ps := ps) (n := n) k z (by omega)
    exact hn ⟨l, h1, by omega⟩
  have hl : ∀ k, k ≤ n → hop fs ps z k < 2 * n ∧ (0 < k → hop fs ps z k < n) := fun k hk => by
    cases k with
    | zero => exact ⟨hz2, fun h => absurd h (Nat.lt_irrefl _)⟩
    | succ k =>
      have := (hP.d (small k (by omega))).1
      exact ⟨by show ps.getD _ 0 < 2 * n; omega, fun _ => this⟩
  have diff : ∀ i j, i < j → j ≤ n → hop fs ps z i ≠ hop fs ps z j := fun i => by
    induction i with
    | zero =>
      intro j hj hn2 e
      have := (hl j hn2).2 hj
      have e' : z = hop fs ps z j := e
      omega
    | succ i ih =>
      intro j hj hn2 e
      cases j with
      | zero => omega
      | succ j =>
        have e1 : fs.getD (hop fs ps z i) 0 = fs.getD (hop fs ps z j) 0 := hP.inj (small i (by omega)) (small j (by omega)) e
        exact ih j (by omega) (by omega) (hF.inj (hl i (by omega)).1 (hl j (by omega)).1 e1)
  obtain ⟨i, j, h1, h2, h3⟩ := pigeon n (fun k => fs.getD (hop fs ps z k) 0) small
  exact diff i j h1 h2 (hF.inj (hl i (by omega)).1 (hl j h2).1 h3)
/-- the way of a lower end, and where it ends -/
noncomputable def trl (fs ps : List Nat) (n z : Nat) : List Nat := open Classical in if h : ∃ l, Trail fs ps n z l then h.choose else []
noncomputable def far (fs ps : List Nat) (n z : Nat) : Nat := (trl fs ps n z).getLastD 0
theorem Trail.eq {fs ps : List Nat} {n z : Nat} {l : List Nat} (h : Trail fs ps n z l) : trl fs ps n z = l := by
  unfold trl
  rw [dif_pos ⟨l, h⟩]
  exact (Exists.choose_spec (⟨l, h⟩ : ∃ l, Trail fs ps n z l)).det h
theorem trl_trail {fs ps : List Nat} {n : Nat} (hF : IsPair (2 * n) fs) (hP : IsPair n ps) {z : Nat} (hz : n ≤ z) (hz2 : z < 2 * n) : Trail fs ps n z (trl fs ps n z) ∧ (trl fs ps n z).length ≤ 2 * n + 2 := by
  obtain ⟨l, h1, h2⟩ := trail_ex hF hP hz hz2
  rw [h1.eq]; exact ⟨h1, h2⟩
/-- what is read -/
noncomputable def rd (fs ps : List Nat) (n : Nat) : List Nat := (List.range n).map fun x => far fs ps n (n + x) - n
end Pc
namespace Pc
theorem lastc {l : List Nat} (h : 2 ≤ l.length) (a b d : Nat) : (a :: b :: l).getLastD d = l.getLastD d := by
  cases l with
  | nil => exact absurd h (by decide)
  | cons x r => rfl
theorem Trail.last {fs ps : List Nat} {n z : Nat} {l : List Nat} (hF : IsPair (2 * n) fs) (hP : IsPair n ps) (h : Trail fs ps n z l) : z < 2 * n → l.getLastD 0 < 2 * n := by
  induction h with
  | @stop z h1 => intro hz; exact (hF.d hz).1
  | @go z l h1 h2 ih =>
    intro hz
    rw [lastc h2.len.1]
    have := (hP.d h1).1
    exact ih (by omega)
theorem Trail.rev {fs ps : List Nat} {n z : Nat} {l : List Nat} (hF : IsPair (2 * n) fs) (hP : IsPair n ps) (h : Trail fs ps n z l) : z < 2 * n → ∀ t : List Nat, (n ≤ z → t = []) → (z < n → Trail fs ps n (ps.getD z 0) t) → Trail fs ps n (l.getLastD 0) (l.reverse ++ t) := by
  have one : ∀ {z : Nat} {t : List Nat}, z < 2 * n → (n ≤ z → t = []) → (z < n → Trail fs ps n (ps.getD z 0) t) → Trail fs ps n (fs.getD z 0) (fs.getD z 0 :: z :: t) := fun {z t} hz h1 h2 => by
    have e := (hF.d hz).2.2.1
    by_cases c : z < n
    · have := Trail.go (fs := fs) (ps := ps) (n := n) (z := fs.getD z 0) (l := t) (by rw [e]; exact c) (by rw [e]; exact h2 c)
      rw [e] at this; exact this
    · rw [h1 (by omega)]
      have := Trail.stop (fs := fs) (ps := ps) (n := n) (z := fs.getD z 0) (by rw [e]; omega)
      rw [e] at this; exact this
  induction h with
  | @stop z h1 => intro hz t a b; exact one hz a b
  | @go z l h1 h2 ih =>
    intro hz t a b
    have hz' := hP.d h1
    rw [lastc h2.len.1]
    have := ih (by omega) (fs.getD z 0 :: z :: t) (fun x => by omega) (fun _ => by rw [hz'.2.2.1]; exact one hz a b)
    simp only [List.reverse_cons, List.append_assoc, List.cons_append, List.nil_append]
    exact this
theorem Trail.back {fs ps : List Nat} {n z : Nat} {l : List Nat} (hF : IsPair (2 * n) fs) (hP : IsPair n ps) (h : Trail fs ps n z l) (hz : n ≤ z) (hz2 : z < 2 * n) : Trail fs ps n (l.getLastD 0) l.reverse := by
  have := h.rev hF hP hz2 [] (fun _ => rfl) (fun h => by omega)
  rw [List.append_nil] at this; exact this
theorem Trail.head {fs ps : List Nat} {n z : Nat} {l : List Nat} (h : Trail fs ps n z l) : l[0]? = some z := by
  cases h <;> rfl
theorem Trail.adj {fs ps : List Nat} {n z : Nat} {l : List Nat} (hF : IsPair (2 * n) fs) (hP : IsPair n ps) (h : Trail fs ps n z l) : z < 2 * n → ∀ i x, l[i]? = some x → l[i + 1]? ≠ some x := by
  induction h with
  | @stop z h1 =>
    intro hz i x h1 h2
    have hi : i + 1 < 2 := get_lt h2
    have : i = 0 := by omega
    subst this
    have e1 : z = x := Option.some.inj h1
    have e2 : fs.getD z 0 = x := Option.some.inj h2
    exact (hF.d hz).2.1 (e2.trans e1.symm)
  | @go z l h1 h2 ih =>
    intro hz i x g1 g2
    have hz' := hP.d h1
    cases i with
    | zero =>
      have e1 : z = x := Option.some.inj g1
      have e2 : fs.getD z 0 = x := Option.some.inj g2
      exact (hF.d hz).2.1 (e2.trans e1.symm)
    | succ i =>
      cases i with
      | zero =>
        have e1 : fs.getD z 0 = x := Option.some.inj g1
        have e2 : some (ps.getD (fs.getD z 0) 0) = some x := h2.head.symm.trans g2
        exact hz'.2.1 ((Option.some.inj e2).trans e1.symm)
      | succ i => exact ih (by omega) i x g1 g2
theorem last_get {l : List Nat} (h : 0 < l.length) : l[l.length - 1]? = some (l.getLastD 0) := by
  cases l with
  | nil => exact absurd h (by decide)
  | cons a r => rw [← List.getLast?_eq_getElem?, List.getLast?_eq_some_getLast (List.cons_ne_nil a r), List.getLastD_cons, ← List.getLast_eq_getLastD (h := List.cons_ne_nil a r)]
theorem far_is {fs ps : List Nat} {n z : Nat} {l : List Nat} (h : Trail fs ps n z l) : far fs ps n z = l.getLastD 0 := by
  unfold far; rw [h.eq]
theorem far_d {fs ps : List Nat} {n : Nat} (hF : IsPair (2 * n) fs) (hP : IsPair n ps) {z : Nat} (hz : n ≤ z) (hz2 : z < 2 * n) : n ≤ far fs ps n z ∧ far fs ps n z < 2 * n ∧ far fs ps n (far fs ps n z) = z ∧ far fs ps n z ≠ z := by
  obtain ⟨l, h1, _⟩ := trail_ex hF hP hz hz2
  have hb := h1.back hF hP hz hz2
  have hl := h1.len
  have e := far_is h1
  have e2 := far_is hb
  rw [e, e2]
  refine ⟨hl.2.2, h1.last hF hP hz2, ?_, fun c => ?_⟩
  · have g := last_get (l := l.reverse) (by rw [List.length_reverse]; omega)
    rw [List.length_reverse, List.getElem?_reverse (by omega), show l.length - 1 - (l.length - 1) = 0 by omega, h1.head] at g
    exact (Option.some.inj g).symm
  · rw [c] at hb
    have e3 : l = l.reverse := h1.det hb
    obtain ⟨k, hk⟩ : ∃ k, l.length = 2 * k := ⟨l.length / 2, by omega⟩
    have g1 : l[k - 1]? = l[k]? := by
      have g : l[k - 1]? = l.reverse[k - 1]? := congrArg (fun (m : List Nat) => m[k - 1]?) e3
      rw [List.getElem?_reverse (by omega), show l.length - 1 - (k - 1) = k by omega] at g
      exact g
    have lt : k - 1 < l.length := by omega
    exact h1.adj hF hP hz2 (k - 1) l[k - 1] (List.getElem?_eq_getElem lt) (by rw [show k - 1 + 1 = k by omega, ← g1]; exact List.getElem?_eq_getElem lt)
theorem rd_len (fs ps : List Nat) (n : Nat) : (rd fs ps n).length = n := by unfold rd; rw [List.length_map, List.length_range]
theorem rd_get (fs ps : List Nat) {n x : Nat} (h : x < n) : (rd fs ps n)[x]? = some (far fs ps n (n + x) - n) := by
  unfold rd; rw [List.getElem?_map, List.getElem?_range h]; rfl
theorem rd_pair {fs ps : List Nat} {n : Nat} (hF : IsPair (2 * n) fs) (hP : IsPair n ps) : IsPair n (rd fs ps n) := by
  refine ⟨rd_len _ _ _, fun x hx => ?_⟩
  obtain ⟨h1, h2, h3, h4⟩ := far_d hF hP (z := n + x) (by omega) (by omega)
  refine ⟨_, rd_get fs ps hx, by omega, by omega, ?_⟩
  rw [rd_get fs ps (by omega), show n + (far fs ps n (n + x) - n) = far fs ps n (n + x) by omega, h3, show n + x - n = x by omega]
/-- a sheet that differs only at four ends -/
structure Near (fs gs : List Nat) (n A B c d : Nat) : Prop where
  la : n ≤ A
  lb : n ≤ B
  ab : A ≠ B
  fc : fs.getD c 0 = A
  un : ∀ z, fs.getD z 0 = A → z = c
  fd : fs.getD d 0 = B
  fb : fs.getD B 0 = d
  gc : gs.getD c 0 = d
  eq : ∀ z, z ≠ A → z ≠ B → z ≠ c → z ≠ d → gs.getD z 0 = fs.getD z 0
theorem Trail.near {fs gs ps : List Nat} {n A B c d z : Nat} {l : List Nat} (hP : IsPair n ps) (N : Near fs gs n A B c d) (h : Trail fs ps n z l) : z ≠ A → z ≠ B → l.getLastD 0 ≠ A → l.getLastD 0 ≠ B → Trail gs ps n z l := by
  have la := N.la
  have lb := N.lb
  induction h with
  | @stop z h1 =>
    intro hA hB eA eB
    have e : gs.getD z 0 = fs.getD z 0 := N.eq z hA hB (fun e => eA (by rw [e]; exact N.fc)) (fun e => eB (by rw [e]; exact N.fd))
    rw [← e]; exact .stop (by rw [e]; exact h1)
  | @go z l h1 h2 ih =>
    intro hA hB eA eB
    rw [lastc h2.len.1] at eA eB
    have e : gs.getD z 0 = fs.getD z 0 := N.eq z hA hB (fun e => by rw [e, N.fc] at h1; omega) (fun e => by rw [e, N.fd] at h1; omega)
    have hz' := (hP.d h1).1
    have t := ih (by omega) (by omega) eA eB
    rw [← e] at h1 t ⊢
    exact .go h1 t
theorem Trail.over {fs gs ps : List Nat} {n A B c d z : Nat} {l m : List Nat} (hP : IsPair n ps) (N : Near fs gs n A B c d) (hm : Trail fs ps n B m) (mA : m.getLastD 0 ≠ A) (mB : m.getLastD 0 ≠ B) (h : Trail fs ps n z l) : z ≠ A → z ≠ B → l.getLastD 0 = A → ∃ k, Trail gs ps n z k ∧ k.getLastD 0 = m.getLastD 0 := by
  have la := N.la
  have lb := N.lb
  have fb := N.fb
  induction h with
  | @stop z h1 =>
    intro hA hB eA
    by_cases zc : z = c
    · subst zc
      cases hm with
      | stop h => 
        refine ⟨_, .stop (by rw [N.gc, ← fb]; exact h), ?_⟩
        rw [N.gc, ← fb]; rfl
      | @go _ m h h2 =>
        rw [lastc h2.len.1] at mA mB ⊢
        rw [fb] at h h2
        have := hP.d h
        refine ⟨_, .go (by rw [N.gc]; exact h) (by rw [N.gc]; exact h2.near hP N (by omega) (by omega) mA mB), ?_⟩
        rw [lastc h2.len.1]
    · exact absurd (N.un z eA) zc
  | @go z l h1 h2 ih =>
    intro hA hB eA
    rw [lastc h2.len.1] at eA
    have e : gs.getD z 0 = fs.getD z 0 := N.eq z hA hB (fun e => by rw [e, N.fc] at h1; omega) (fun e => by rw [e, N.fd] at h1; omega)
    have hz' := (hP.d h1).1
    obtain ⟨k, t1, t2⟩ := ih (by omega) (by omega) eA
    rw [← e] at h1 t1
    refine ⟨_, .go h1 t1, ?_⟩
    rw [lastc t1.len.1]; exact t2

theorem jn_near {fs : List Nat} {n A B : Nat} (hF : IsPair (2 * n) fs) (hA : n ≤ A) (hB : n ≤ B) (hA2 : A < 2 * n) (hB2 : B < 2 * n) (hab : A ≠ B) (hc : fs.getD A 0 ≠ B) : Near fs (jn fs A B) n A B (fs.getD A 0) (fs.getD B 0) ∧ Near fs (jn fs A B) n B A (fs.getD B 0) (fs.getD A 0) ∧ (jn fs A B).getD A 0 = B ∧ (jn fs A B).getD B 0 = A := by
  obtain ⟨a1, a2, a3, a4⟩ := hF.d hA2
  obtain ⟨b1, b2, b3, b4⟩ := hF.d hB2
  have G := jn_get hF hab a4 b4 hc
  obtain ⟨x1, x2, x3, x4, _⟩ := four hF hab a4 b4 hc
  have D : ∀ z, (jn fs A B).getD z 0 = ((jn fs A B)[z]?).getD 0 := fun z => List.getD_eq_getElem?_getD
  have un : ∀ {X : Nat}, n ≤ X → X < 2 * n → ∀ z, fs.getD z 0 = X → z = fs.getD X 0 := fun {X} h1 h2 z e => by
    by_cases hz : z < 2 * n
    · rw [← e, (hF.d hz).2.2.1]
    · rw [List.getD_eq_getElem?_getD, List.getElem?_eq_none (by rw [hF.len]; omega)] at e
      have e' : 0 = X := e
      omega
  have E : ∀ z, z ≠ A → z ≠ B → z ≠ fs.getD A 0 → z ≠ fs.getD B 0 → (jn fs A B).getD z 0 = fs.getD z 0 := fun z h1 h2 h3 h4 => by
    rw [D, G, if_neg h1, if_neg h2, if_neg h3, if_neg h4, ← List.getD_eq_getElem?_getD]
  refine ⟨⟨hA, hB, hab, a3, un hA hA2, b3, rfl, ?_, E⟩, ⟨hB, hA, hab.symm, b3, un hB hB2, a3, rfl, ?_, fun z h1 h2 h3 h4 => E z h2 h1 h4 h3⟩, ?_, ?_⟩
  · rw [D, G, if_neg x1, if_neg hc, if_pos rfl]; rfl
  · rw [D, G, if_neg x3, if_neg x2, if_neg (Ne.symm x4), if_pos rfl]; rfl
  · rw [D, G, if_pos rfl]; rfl
  · rw [D, G, if_neg hab.symm, if_pos rfl]; rfl
theorem IsPair.ofd {fs : List Nat} {n x y : Nat} (h : IsPair n fs) (hx : x < n) (e : fs.getD x 0 = y) : fs[x]? = some y := by
  rw [← e]; exact (h.d hx).2.2.2
/-- a call added to a sheet is a call behind what is read -/
theorem rd_jn {fs ps : List Nat} {n a b : Nat} (hF : IsPair (2 * n) fs) (hP : IsPair n ps) (hab : a ≠ b) (ha : a < n) (hb : b < n) : rd (jn fs (n + a) (n + b)) ps n = jn (rd fs ps n) a b := by
  have hR := rd_pair hF hP
  by_cases hc : fs.getD (n + a) 0 = n + b
  · rw [jn_same (hF.ofd (by omega) hc)]
    have t : Trail fs ps n (n + a) [n + a, n + b] := by
      have := Trail.stop (fs := fs) (ps := ps) (n := n) (z := n + a) (by rw [hc]; omega)
      rw [hc] at this; exact this
    refine (jn_same ?_).symm
    rw [rd_get fs ps ha, far_is t]
    show some (n + b - n) = some b
    rw [Nat.add_sub_cancel_left]
  · obtain ⟨N1, N2, gA, gB⟩ := jn_near hF (A := n + a) (B := n + b) (by omega) (by omega) (by omega) (by omega) (by omega) hc
    have hF' : IsPair (2 * n) (jn fs (n + a) (n + b)) := jn_pair hF (by omega) (by omega) (by omega)
    have fA := far_d hF hP (z := n + a) (by omega) (by omega)
    have fB := far_d hF hP (z := n + b) (by omega) (by omega)
    have tA : Trail (jn fs (n + a) (n + b)) ps n (n + a) [n + a, n + b] := by
      have := Trail.stop (fs := jn fs (n + a) (n + b)) (ps := ps) (n := n) (z := n + a) (by rw [gA]; omega)
      rw [gA] at this; exact this
    have tB : Trail (jn fs (n + a) (n + b)) ps n (n + b) [n + b, n + a] := by
      have := Trail.stop (fs := jn fs (n + a) (n + b)) (ps := ps) (n := n) (z := n + b) (by rw [gB]; omega)
      rw [gB] at this; exact this
    obtain ⟨lA, hlA, _⟩ := trail_ex hF hP (z := n + a) (by omega) (by omega)
    obtain ⟨lB, hlB, _⟩ := trail_ex hF hP (z := n + b) (by omega) (by omega)
    have eA := far_is hlA
    have eB := far_is hlB
    have ga := rd_get fs ps ha
    have gb := rd_get fs ps hb
    refine List.ext_getElem? fun x => ?_
    by_cases hx : x < n
    · rw [rd_get _ ps hx]
      have fX := far_d hF hP (z := n + x) (by omega) (by omega)
      obtain ⟨lX, hlX, _⟩ := trail_ex hF hP (z := n + x) (by omega) (by omega)
      have eX := far_is hlX
      by_cases xa : x = a
      · subst xa
        rw [far_is tA, show [n + x, n + b].getLastD 0 - n = b by show n + b - n = b; omega]
        by_cases c : far fs ps n (n + x) - n = b
        · rw [jn_same (by rw [rd_get fs ps hx, c]), rd_get fs ps hx, c]
        · rw [jn_get hR hab ga gb c, if_pos rfl]
      · by_cases xb : x = b
        · subst xb
          rw [far_is tB, show [n + x, n + a].getLastD 0 - n = a by show n + a - n = a; omega]
          by_cases c : far fs ps n (n + a) - n = x
          · rw [jn_same (by rw [rd_get fs ps ha, c]), rd_get fs ps hx, show n + x = far fs ps n (n + a) by omega, fA.2.2.1, Nat.add_sub_cancel_left]
          · rw [jn_get hR hab ga gb c, if_neg (Ne.symm hab), if_pos rfl]
        · by_cases yA : far fs ps n (n + x) = n + a
          · -- the way of x came to a
            have e1 : far fs ps n (n + a) = n + x := by rw [← yA]; exact fX.2.2.1
            have e2 : far fs ps n (n + b) ≠ n + a := fun z => by
              have := fB.2.2.1
              rw [z, e1] at this; omega
            obtain ⟨k, k1, k2⟩ := Trail.over hP N1 hlB (by rw [← eB]; exact e2) (by rw [← eB]; exact fB.2.2.2) hlX (by omega) (by omega) (by rw [← eX]; exact yA)
            rw [far_is k1, k2, ← eB, jn_get hR hab ga gb (by omega), if_neg xa, if_neg xb, if_pos (by omega)]
          · by_cases yB : far fs ps n (n + x) = n + b
            · have e1 : far fs ps n (n + b) = n + x := by rw [← yB]; exact fX.2.2.1
              have e2 : far fs ps n (n + a) ≠ n + b := fun z => by
                have := fA.2.2.1
                rw [z, e1] at this; omega
              obtain ⟨k, k1, k2⟩ := Trail.over hP N2 hlA (by rw [← eA]; exact e2) (by rw [← eA]; exact fA.2.2.2) hlX (by omega) (by omega) (by rw [← eX]; exact yB)
              have e3 : far fs ps n (n + a) ≠ n + x := fun z => by
                have := fA.2.2.1
                rw [z, yB] at this; omega
              rw [far_is k1, k2, ← eA, jn_get hR hab ga gb (by omega), if_neg xa, if_neg xb, if_neg (by omega), if_pos (by omega)]
            · have t := hlX.near hP N1 (by omega) (by omega) (by rw [← eX]; exact yA) (by rw [← eX]; exact yB)
              rw [far_is t, ← eX, ← rd_get fs ps hx]
              by_cases c : far fs ps n (n + a) - n = b
              · rw [jn_same (by rw [rd_get fs ps ha, c])]
              · have e1 : far fs ps n (n + a) ≠ n + x := fun z => by
                  have := fA.2.2.1
                  rw [z] at this; exact yA this
                have e2 : far fs ps n (n + b) ≠ n + x := fun z => by
                  have := fB.2.2.1
                  rw [z] at this; exact yB this
                rw [jn_get hR hab ga gb c, if_neg xa, if_neg xb, if_neg (by omega), if_neg (by omega)]
    · rw [List.getElem?_eq_none (by rw [rd_len]; omega), List.getElem?_eq_none (by rw [jn_len, rd_len]; omega)]
end Pc
namespace Pc
theorem rd_emp {ps : List Nat} {n : Nat} (hn : 0 < n) (hP : IsPair n ps) : rd (emp n) ps n = ps := by
  refine List.ext_getElem? fun x => ?_
  by_cases hx : x < n
  · obtain ⟨h1, _, _, h4⟩ := hP.d hx
    have e1 : (emp n).getD (n + x) 0 = x := getD_of (emp_hi hx)
    have e2 : (emp n).getD (ps.getD x 0) 0 = n + ps.getD x 0 := getD_of (emp_lo h1)
    have t2 := Trail.stop (fs := emp n) (ps := ps) (n := n) (z := ps.getD x 0) (by rw [e2]; omega)
    have t := Trail.go (fs := emp n) (ps := ps) (n := n) (z := n + x) (by rw [e1]; exact hx) (by rw [e1]; exact t2)
    rw [rd_get _ ps hx, far_is t, h4]
    show some ((emp n).getD (ps.getD x 0) 0 - n) = _
    rw [e2, Nat.add_sub_cancel_left]
  · rw [List.getElem?_eq_none (by rw [rd_len]; omega), List.getElem?_eq_none (by rw [hP.len]; omega)]
theorem rd_runs {n : Nat} {ps : List Nat} (hP : IsPair n ps) : ∀ (qs : List (Nat × Nat)) {fs : List Nat}, IsPair (2 * n) fs → Calls n qs → rd (shw n qs fs) ps n = runs qs (rd fs ps n)
  | [], _, _, _ => rfl
  | q :: r, fs, hF, hc => by
    have h1 := hc q List.mem_cons_self
    have h2 := rd_runs hP r (jn_pair hF (a := n + q.1) (b := n + q.2) (by omega) (by omega) (by omega)) (fun x hx => hc x (List.mem_cons_of_mem _ hx))
    rw [rd_jn hF hP (by omega) (by omega) h1.2] at h2
    exact h2
/-- guarantee (a) -/
theorem rd_word {n : Nat} {ps : List Nat} {qs : List (Nat × Nat)} (hn : 0 < n) (hP : IsPair n ps) (hc : Calls n qs) : rd (shw n qs (emp n)) ps n = runs qs ps := by
  rw [rd_runs hP qs (emp_pair hn) hc, rd_emp hn hP]
end Pc
namespace Pc
/-! ### walks along layers: a layer of m upper and n lower ends joins them in pairs -/
section
variable {S Y : Type} (step : S → S ⊕ Y)
inductive Ends : S → Y → Prop
  | stop {s : S} {y : Y} : step s = .inr y → Ends s y
  | go {s t : S} {y : Y} : step s = .inl t → Ends t y → Ends s y
/-- where a walk is after i steps -/
def itr (s : S) : Nat → S
  | 0 => s
  | i + 1 => match step (itr s i) with
    | .inl t => t
    | .inr _ => itr s i
end
theorem Ends.det {S Y : Type} {step : S → S ⊕ Y} {s : S} {x y : Y} (h : Ends step s x) : Ends step s y → x = y := by
  induction h with
  | stop h1 => intro h; cases h with
    | stop h2 => rw [h1] at h2; exact Sum.inr.inj h2
    | go h2 _ => rw [h1] at h2; cases h2
  | go h1 _ ih => intro h; cases h with
    | stop h2 => rw [h1] at h2; cases h2
    | go h2 h3 => rw [h1] at h2; cases h2; exact ih h3
theorem itr_step {S Y : Type} {step : S → S ⊕ Y} {s t : S} (h : step s = .inl t) : ∀ i, itr step t i = itr step s (i + 1)
  | 0 => by show t = (match step s with | .inl t => t | .inr _ => s); rw [h]
  | i + 1 => by
    show (match step (itr step t i) with | .inl t => t | .inr _ => itr step t i) = (match step (itr step s (i + 1)) with | .inl t => t | .inr _ => itr step s (i + 1))
    rw [itr_step h i]
theorem itr_succ {S Y : Type} {step : S → S ⊕ Y} {s t : S} {i : Nat} (h : step (itr step s i) = .inl t) : itr step s (i + 1) = t := by
  show (match step (itr step s i) with | .inl t => t | .inr _ => itr step s i) = t
  rw [h]
theorem Ends.nth {S Y : Type} {step : S → S ⊕ Y} {s : S} {y : Y} (h : Ends step s y) : ∃ m, (∀ i, i < m → step (itr step s i) = .inl (itr step s (i + 1))) ∧ step (itr step s m) = .inr y := by
  induction h with
  | stop h => exact ⟨0, fun i hi => absurd hi (Nat.not_lt_zero _), h⟩
  | go h _ ih =>
    obtain ⟨m, h1, h2⟩ := ih
    refine ⟨m + 1, fun i hi => ?_, by rw [← itr_step h]; exact h2⟩
    cases i with
    | zero => rw [← itr_step h 0]; exact h
    | succ i =>
      have := h1 i (by omega)
      rw [itr_step h, itr_step h] at this; exact this
theorem ends_of {S Y : Type} {step : S → S ⊕ Y} : ∀ (m : Nat) (s : S) (y : Y), step (itr step s m) = .inr y → ∃ z, Ends step s z
  | 0, s, y, h => ⟨y, .stop h⟩
  | m + 1, s, y, h => by
    cases e : step s with
    | inr z => exact ⟨z, .stop e⟩
    | inl t =>
      obtain ⟨z, hz⟩ := ends_of m t y (by rw [itr_step e]; exact h)
      exact ⟨z, .go e hz⟩
/-- the step of a walk along a layer f, of m and n ends, and a layer g behind it -/
def cstep (f g : List Nat) (m n : Nat) : Bool × Nat → (Bool × Nat) ⊕ Nat
  | (true, z) => if f.getD z 0 < m then .inr (f.getD z 0) else .inl (false, f.getD z 0 - m)
  | (false, z) => if g.getD z 0 < n then .inl (true, m + g.getD z 0) else .inr (m + (g.getD z 0 - n))
def cst (m n e : Nat) : Bool × Nat := if e < m then (true, e) else (false, n + (e - m))
theorem cs_tl {f g : List Nat} {m n z : Nat} (h : f.getD z 0 < m) : cstep f g m n (true, z) = .inr (f.getD z 0) := if_pos h
theorem cs_tg {f g : List Nat} {m n z : Nat} (h : m ≤ f.getD z 0) : cstep f g m n (true, z) = .inl (false, f.getD z 0 - m) := if_neg (by omega)
theorem cs_fl {f g : List Nat} {m n z : Nat} (h : g.getD z 0 < n) : cstep f g m n (false, z) = .inl (true, m + g.getD z 0) := if_pos h
theorem cs_fg {f g : List Nat} {m n z : Nat} (h : n ≤ g.getD z 0) : cstep f g m n (false, z) = .inr (m + (g.getD z 0 - n)) := if_neg (by omega)
def opp (f g : List Nat) : Bool × Nat → Bool × Nat
  | (true, z) => (true, f.getD z 0)
  | (false, z) => (false, g.getD z 0)
/-- the states of a walk -/
def Val (m n k : Nat) : Bool × Nat → Prop
  | (true, z) => z < m + n
  | (false, z) => z < n + k
section
variable {f g : List Nat} {m n k : Nat} (hf : IsPair (m + n) f) (hg : IsPair (n + k) g)
include hf hg
theorem cs_val {s t : Bool × Nat} (hs : Val m n k s) (h : cstep f g m n s = .inl t) : Val m n k t ∧ (t = (true, t.2) ∧ m ≤ t.2 ∨ t = (false, t.2) ∧ t.2 < n) ∧ t.1 = !s.1 ∧ cstep f g m n (opp f g t) = .inl (opp f g s) := by
  obtain ⟨b, z⟩ := s
  cases b with
  | true =>
    have hz : z < m + n := hs
    by_cases c : f.getD z 0 < m
    · rw [cs_tl c] at h; cases h
    · rw [cs_tg (by omega)] at h
      cases h
      have := hf.d hz
      have hx : f.getD z 0 - m < n + k := by omega
      have gx := hg.d hx
      refine ⟨hx, .inr ⟨rfl, by show f.getD z 0 - m < n; omega⟩, rfl, ?_⟩
      show cstep f g m n (false, g.getD (f.getD z 0 - m) 0) = .inl (true, f.getD z 0)
      rw [cs_fl (by rw [gx.2.2.1]; omega), gx.2.2.1, show m + (f.getD z 0 - m) = f.getD z 0 by omega]
  | false =>
    have hz : z < n + k := hs
    by_cases c : g.getD z 0 < n
    · rw [cs_fl c] at h
      cases h
      have hx : m + g.getD z 0 < m + n := by omega
      have fx := hf.d hx
      refine ⟨hx, .inl ⟨rfl, by show m ≤ m + g.getD z 0; omega⟩, rfl, ?_⟩
      show cstep f g m n (true, f.getD (m + g.getD z 0) 0) = .inl (false, g.getD z 0)
      rw [cs_tg (by rw [fx.2.2.1]; omega), fx.2.2.1, show m + g.getD z 0 - m = g.getD z 0 by omega]
    · rw [cs_fg (by omega)] at h; cases h
theorem opp_opp {s : Bool × Nat} (hs : Val m n k s) : opp f g (opp f g s) = s ∧ opp f g s ≠ s ∧ (opp f g s).1 = s.1 ∧ Val m n k (opp f g s) := by
  obtain ⟨b, z⟩ := s
  cases b with
  | true =>
    have := hf.d (show z < m + n from hs)
    exact ⟨by show (true, f.getD (f.getD z 0) 0) = (true, z); rw [this.2.2.1], fun e => this.2.1 (congrArg Prod.snd e), rfl, this.1⟩
  | false =>
    have := hg.d (show z < n + k from hs)
    exact ⟨by show (false, g.getD (g.getD z 0) 0) = (false, z); rw [this.2.2.1], fun e => this.2.1 (congrArg Prod.snd e), rfl, this.1⟩
theorem cs_inj {s t u : Bool × Nat} (hs : Val m n k s) (ht : Val m n k t) (h1 : cstep f g m n s = .inl u) (h2 : cstep f g m n t = .inl u) : s = t := by
  have a := (cs_val hf hg hs h1).2.2.2
  have b := (cs_val hf hg ht h2).2.2.2
  rw [a] at b
  have e : opp f g s = opp f g t := Sum.inl.inj b
  rw [← (opp_opp hf hg hs).1, e, (opp_opp hf hg ht).1]
theorem cs_end {s : Bool × Nat} {y : Nat} (hs : Val m n k s) (h : cstep f g m n s = .inr y) : cst m n y = opp f g s ∧ y < m + k := by
  obtain ⟨b, z⟩ := s
  cases b with
  | true =>
    by_cases c : f.getD z 0 < m
    · rw [cs_tl c] at h; cases h
      refine ⟨?_, by omega⟩
      unfold cst; rw [if_pos c]; rfl
    · rw [cs_tg (by omega)] at h; cases h
  | false =>
    have := hg.d (show z < n + k from hs)
    by_cases c : g.getD z 0 < n
    · rw [cs_fl c] at h; cases h
    · rw [cs_fg (by omega)] at h; cases h
      refine ⟨?_, by omega⟩
      unfold cst; rw [if_neg (by omega), show n + (m + (g.getD z 0 - n) - m) = g.getD z 0 by omega]; rfl
theorem cst_val {e : Nat} (he : e < m + k) : Val m n k (cst m n e) ∧ cstep f g m n (opp f g (cst m n e)) = .inr e := by
  unfold cst
  by_cases c : e < m
  · rw [if_pos c]
    have := hf.d (show e < m + n by omega)
    refine ⟨show e < m + n by omega, ?_⟩
    show cstep f g m n (true, f.getD e 0) = .inr e
    rw [cs_tl (by rw [this.2.2.1]; exact c), this.2.2.1]
  · rw [if_neg c]
    have := hg.d (show n + (e - m) < n + k by omega)
    refine ⟨show n + (e - m) < n + k by omega, ?_⟩
    show cstep f g m n (false, g.getD (n + (e - m)) 0) = .inr e
    rw [cs_fg (by rw [this.2.2.1]; omega), this.2.2.1, show m + (n + (e - m) - n) = e by omega]
theorem cs_out {e : Nat} (he : e < m + k) {s : Bool × Nat} (hs : Val m n k s) : cstep f g m n s ≠ .inl (cst m n e) := fun h => by
  have h1 := (cs_val hf hg hs h).2.2.2
  rw [(cst_val hf hg he).2] at h1
  cases h1
theorem walk_ends {e : Nat} (he : e < m + k) : ∃ y, Ends (cstep f g m n) (cst m n e) y := by
  apply Classical.byContradiction
  intro hn
  have go : ∀ i, cstep f g m n (itr (cstep f g m n) (cst m n e) i) = .inl (itr (cstep f g m n) (cst m n e) (i + 1)) := fun i => by
    cases h : cstep f g m n (itr (cstep f g m n) (cst m n e) i) with
    | inr y => exact absurd (ends_of i _ y h) hn
    | inl t => rw [itr_succ h]
  have val : ∀ i, Val m n k (itr (cstep f g m n) (cst m n e) i) := fun i => by
    induction i with
    | zero => exact (cst_val hf hg he).1
    | succ i ih => exact (cs_val hf hg ih (go i)).1
  have diff : ∀ i j, i < j → itr (cstep f g m n) (cst m n e) i ≠ itr (cstep f g m n) (cst m n e) j := fun i => by
    induction i with
    | zero =>
      intro j hj h
      cases j with
      | zero => omega
      | succ j => exact cs_out hf hg he (val j) ((go j).trans (congrArg Sum.inl h.symm))
    | succ i ih =>
      intro j hj h
      cases j with
      | zero => omega
      | succ j => exact ih j (by omega) (cs_inj hf hg (val i) (val j) (go i) ((go j).trans (congrArg Sum.inl h.symm)))
  let code : Bool × Nat → Nat := fun s => if s.1 = true then s.2 - m else n + s.2
  obtain ⟨i, j, h1, h2, h3⟩ := pigeon (2 * n) (fun i => code (itr (cstep f g m n) (cst m n e) (i + 1))) (fun i _ => by
    have v := val (i + 1)
    have := (cs_val hf hg (val i) (go i)).2.1
    generalize itr (cstep f g m n) (cst m n e) (i + 1) = s at v this
    obtain ⟨b, z⟩ := s
    cases b with
    | true =>
      rcases this with h | h
      · have hv : z < m + n := v
        have hz : m ≤ z := h.2
        show (if true = true then z - m else n + z) < 2 * n
        rw [if_pos rfl]; omega
      · cases h.1
    | false =>
      rcases this with h | h
      · cases h.1
      · have hz : z < n := h.2
        show (if false = true then z - m else n + z) < 2 * n
        rw [if_neg Bool.false_ne_true]; omega)
  refine diff (i + 1) (j + 1) (by omega) ?_
  have v1 := (cs_val hf hg (val i) (go i)).2.1
  have v2 := (cs_val hf hg (val j) (go j)).2.1
  have w1 := val (i + 1)
  have w2 := val (j + 1)
  have h3' : code (itr (cstep f g m n) (cst m n e) (i + 1)) = code (itr (cstep f g m n) (cst m n e) (j + 1)) := h3
  clear h3 diff val go hn
  generalize itr (cstep f g m n) (cst m n e) (i + 1) = s at v1 h3' w1
  generalize itr (cstep f g m n) (cst m n e) (j + 1) = t at v2 h3' w2
  obtain ⟨b, z⟩ := s
  obtain ⟨b', z'⟩ := t
  have T : ∀ z, code (true, z) = z - m := fun z => if_pos rfl
  have F : ∀ z, code (false, z) = n + z := fun z => if_neg Bool.false_ne_true
  cases b <;> cases b'
  · rw [F, F] at h3'
    have : z = z' := by omega
    rw [this]
  · rw [F, T] at h3'
    rcases v2 with h | h
    · have : z' < m + n := w2
      have : m ≤ z' := h.2
      omega
    · cases h.1
  · rw [T, F] at h3'
    rcases v1 with h | h
    · have : z < m + n := w1
      have : m ≤ z := h.2
      omega
    · cases h.1
  · rw [T, T] at h3'
    rcases v1 with h | h
    · rcases v2 with h' | h'
      · have : m ≤ z := h.2
        have : m ≤ z' := h'.2
        have : z = z' := by omega
        rw [this]
      · cases h'.1
    · cases h.1
theorem ends_back {s : Bool × Nat} {y : Nat} (h : Ends (cstep f g m n) s y) : Val m n k s → y < m + k ∧ ∀ y0, Ends (cstep f g m n) (opp f g s) y0 → Ends (cstep f g m n) (cst m n y) y0 := by
  induction h with
  | stop h1 =>
    intro hs
    have := cs_end hf hg hs h1
    exact ⟨this.2, fun y0 h0 => by rw [this.1]; exact h0⟩
  | go h1 _ ih =>
    intro hs
    obtain ⟨v1, _, _, v2⟩ := cs_val hf hg hs h1
    obtain ⟨i1, i2⟩ := ih v1
    exact ⟨i1, fun y0 h0 => i2 y0 (.go v2 h0)⟩
theorem ends_inv {e y : Nat} (he : e < m + k) (h : Ends (cstep f g m n) (cst m n e) y) : y < m + k ∧ Ends (cstep f g m n) (cst m n y) e ∧ y ≠ e := by
  obtain ⟨v, o⟩ := cst_val hf hg he
  obtain ⟨h1, h2⟩ := ends_back hf hg h v
  refine ⟨h1, h2 e (.stop o), fun c => ?_⟩
  subst c
  obtain ⟨t, g1, g2⟩ := h.nth
  have val : ∀ i, i ≤ t → Val m n k (itr (cstep f g m n) (cst m n y) i) := fun i => by
    induction i with
    | zero => exact fun _ => v
    | succ i ih => exact fun hi => (cs_val hf hg (ih (by omega)) (g1 i (by omega))).1
  have mir : ∀ j, j ≤ t → opp f g (itr (cstep f g m n) (cst m n y) (t - j)) = itr (cstep f g m n) (cst m n y) j := fun j => by
    induction j with
    | zero => intro _; exact (cs_end hf hg (val t (Nat.le_refl _)) g2).1.symm
    | succ j ih =>
      intro hj
      have a1 := ih (by omega)
      have a2 := g1 (t - (j + 1)) (by omega)
      rw [show t - (j + 1) + 1 = t - j by omega] at a2
      have a3 := (cs_val hf hg (val _ (by omega)) a2).2.2.2
      rw [a1, g1 j (by omega)] at a3
      exact (Sum.inl.inj a3).symm
  by_cases p : t % 2 = 0
  · have := mir (t / 2) (by omega)
    rw [show t - t / 2 = t / 2 by omega] at this
    exact (opp_opp hf hg (val (t / 2) (by omega))).2.1 this
  · have a := mir (t / 2) (by omega)
    rw [show t - t / 2 = t / 2 + 1 by omega] at a
    have b := (opp_opp hf hg (val (t / 2 + 1) (by omega))).2.2.1
    have c := (cs_val hf hg (val (t / 2) (by omega)) (g1 (t / 2) (by omega))).2.2.1
    rw [a] at b
    rw [← b] at c
    exact absurd c (by cases (itr (cstep f g m n) (cst m n y) (t / 2)).1 <;> decide)
end
/-- two layers one behind the other -/
noncomputable def cfar (f g : List Nat) (m n e : Nat) : Nat := open Classical in if h : ∃ y, Ends (cstep f g m n) (cst m n e) y then h.choose else 0
noncomputable def cmp (f g : List Nat) (m n k : Nat) : List Nat := (List.range (m + k)).map fun e => cfar f g m n e
theorem cfar_is {f g : List Nat} {m n e y : Nat} (h : Ends (cstep f g m n) (cst m n e) y) : cfar f g m n e = y := by
  unfold cfar
  rw [dif_pos ⟨y, h⟩]
  exact (Exists.choose_spec (⟨y, h⟩ : ∃ y, Ends (cstep f g m n) (cst m n e) y)).det h
theorem cmp_len (f g : List Nat) (m n k : Nat) : (cmp f g m n k).length = m + k := by unfold cmp; rw [List.length_map, List.length_range]
theorem cmp_get (f g : List Nat) {m n k e : Nat} (h : e < m + k) : (cmp f g m n k)[e]? = some (cfar f g m n e) := by unfold cmp; rw [List.getElem?_map, List.getElem?_range h]; rfl
theorem cmp_d (f g : List Nat) {m n k e : Nat} (h : e < m + k) : (cmp f g m n k).getD e 0 = cfar f g m n e := by
  rw [List.getD_eq_getElem?_getD, cmp_get f g h]; rfl
theorem cmp_ends {f g : List Nat} {m n k e : Nat} (hf : IsPair (m + n) f) (hg : IsPair (n + k) g) (he : e < m + k) : Ends (cstep f g m n) (cst m n e) ((cmp f g m n k).getD e 0) := by
  obtain ⟨y, h⟩ := walk_ends hf hg he
  rw [cmp_d f g he, cfar_is h]; exact h
theorem cmp_pair {f g : List Nat} {m n k : Nat} (hf : IsPair (m + n) f) (hg : IsPair (n + k) g) : IsPair (m + k) (cmp f g m n k) := by
  refine ⟨cmp_len .., fun e he => ?_⟩
  obtain ⟨y, h⟩ := walk_ends hf hg he
  obtain ⟨h1, h2, h3⟩ := ends_inv hf hg he h
  exact ⟨y, by rw [cmp_get f g he, cfar_is h], h1, h3, by rw [cmp_get f g h1, cfar_is h2]⟩
theorem cmp_ext {f g x : List Nat} {m n k : Nat} (hx : x.length = m + k) (h : ∀ e, e < m + k → Ends (cstep f g m n) (cst m n e) (x.getD e 0)) : cmp f g m n k = x := by
  refine List.ext_getElem? fun e => ?_
  by_cases he : e < m + k
  · rw [cmp_get f g he, cfar_is (h e he), List.getD_eq_getElem?_getD, List.getElem?_eq_getElem (by omega)]; rfl
  · rw [List.getElem?_eq_none (by rw [cmp_len]; omega), List.getElem?_eq_none (by omega)]
end Pc
namespace Pc
/-! ### three layers -/
def step3 (f g h : List Nat) (m n k : Nat) : Nat × Nat → (Nat × Nat) ⊕ Nat
  | (0, z) => if f.getD z 0 < m then .inr (f.getD z 0) else .inl (1, f.getD z 0 - m)
  | (1, z) => if g.getD z 0 < n then .inl (0, m + g.getD z 0) else .inl (2, g.getD z 0 - n)
  | (_, z) => if h.getD z 0 < k then .inl (1, n + h.getD z 0) else .inr (m + (h.getD z 0 - k))
section
variable {f g h : List Nat} {m n k l : Nat}
/-- the first two -/
def em1 : Bool × Nat → Nat × Nat
  | (true, z) => (0, z)
  | (false, z) => (1, z)
theorem first_two {s : Bool × Nat} {e : Nat} (w : Ends (cstep f g m n) s e) : (e < m → Ends (step3 f g h m n k) (em1 s) e) ∧ (m ≤ e → ∀ y, Ends (step3 f g h m n k) (2, e - m) y → Ends (step3 f g h m n k) (em1 s) y) := by
  induction w with
  | @stop s e h1 =>
    obtain ⟨b, z⟩ := s
    cases b with
    | true =>
      by_cases c : f.getD z 0 < m
      · rw [cs_tl c] at h1; cases h1
        exact ⟨fun _ => .stop (if_pos c), fun q => absurd c (by omega)⟩
      · rw [cs_tg (by omega)] at h1; cases h1
    | false =>
      by_cases c : g.getD z 0 < n
      · rw [cs_fl c] at h1; cases h1
      · rw [cs_fg (by omega)] at h1; cases h1
        refine ⟨fun q => by omega, fun _ y hy => .go (t := (2, g.getD z 0 - n)) (if_neg c) ?_⟩
        rw [show m + (g.getD z 0 - n) - m = g.getD z 0 - n by omega] at hy
        exact hy
  | @go s t e h1 _ ih =>
    have st : step3 f g h m n k (em1 s) = .inl (em1 t) := by
      obtain ⟨b, z⟩ := s
      cases b with
      | true =>
        by_cases c : f.getD z 0 < m
        · rw [cs_tl c] at h1; cases h1
        · rw [cs_tg (by omega)] at h1; cases h1
          exact if_neg c
      | false =>
        by_cases c : g.getD z 0 < n
        · rw [cs_fl c] at h1; cases h1
          exact if_pos c
        · rw [cs_fg (by omega)] at h1; cases h1
    exact ⟨fun q => .go st (ih.1 q), fun q y hy => .go st (ih.2 q y hy)⟩
/-- the last two -/
def em2 : Bool × Nat → Nat × Nat
  | (true, z) => (1, z)
  | (false, z) => (2, z)
theorem last_two {s : Bool × Nat} {e : Nat} (w : Ends (cstep g h n k) s e) : (n ≤ e → Ends (step3 f g h m n k) (em2 s) (m + (e - n))) ∧ (e < n → ∀ y, Ends (step3 f g h m n k) (0, m + e) y → Ends (step3 f g h m n k) (em2 s) y) := by
  induction w with
  | @stop s e h1 =>
    obtain ⟨b, z⟩ := s
    cases b with
    | true =>
      by_cases c : g.getD z 0 < n
      · rw [cs_tl c] at h1; cases h1
        exact ⟨fun q => absurd c (by omega), fun _ y hy => .go (t := (0, m + g.getD z 0)) (if_pos c) hy⟩
      · rw [cs_tg (by omega)] at h1; cases h1
    | false =>
      by_cases c : h.getD z 0 < k
      · rw [cs_fl c] at h1; cases h1
      · rw [cs_fg (by omega)] at h1; cases h1
        refine ⟨fun _ => .stop ?_, fun q => by omega⟩
        rw [show m + (n + (h.getD z 0 - k) - n) = m + (h.getD z 0 - k) by omega]
        exact if_neg c
  | @go s t e h1 _ ih =>
    have st : step3 f g h m n k (em2 s) = .inl (em2 t) := by
      obtain ⟨b, z⟩ := s
      cases b with
      | true =>
        by_cases c : g.getD z 0 < n
        · rw [cs_tl c] at h1; cases h1
        · rw [cs_tg (by omega)] at h1; cases h1
          exact if_neg c
      | false =>
        by_cases c : h.getD z 0 < k
        · rw [cs_fl c] at h1; cases h1
          exact if_pos c
        · rw [cs_fg (by omega)] at h1; cases h1
    exact ⟨fun q => .go st (ih.1 q), fun q y hy => .go st (ih.2 q y hy)⟩
def em3 (m n : Nat) : Bool × Nat → Nat × Nat
  | (true, z) => if z < m then (0, z) else (1, n + (z - m))
  | (false, z) => (2, z)
def em4 (n k : Nat) : Bool × Nat → Nat × Nat
  | (true, z) => (0, z)
  | (false, z) => if z < n then (1, z) else (2, k + (z - n))
theorem em3_cst (z : Nat) : em3 m n (true, z) = em1 (cst m n z) := by
  unfold cst
  by_cases c : z < m
  · rw [if_pos c]; exact if_pos c
  · rw [if_neg c]; exact if_neg c
theorem em4_cst (z : Nat) : em4 n k (false, z) = em2 (cst n k z) := by
  unfold cst
  by_cases c : z < n
  · rw [if_pos c]; exact if_pos c
  · rw [if_neg c]; exact if_neg c
theorem left_three (hf : IsPair (m + n) f) (hg : IsPair (n + k) g) (hh : IsPair (k + l) h) {s : Bool × Nat} {y : Nat} (w : Ends (cstep (cmp f g m n k) h m k) s y) : Val m k l s → Ends (step3 f g h m n k) (em3 m n s) y := by
  have hfg := cmp_pair hf hg
  induction w with
  | @stop s e h1 =>
    intro hs
    obtain ⟨b, z⟩ := s
    cases b with
    | true =>
      have W := first_two (h := h) (k := k) (cmp_ends hf hg (show z < m + k from hs))
      by_cases c : (cmp f g m n k).getD z 0 < m
      · rw [cs_tl c] at h1; cases h1
        rw [em3_cst]; exact W.1 c
      · rw [cs_tg (by omega)] at h1; cases h1
    | false =>
      by_cases c : h.getD z 0 < k
      · rw [cs_fl c] at h1; cases h1
      · rw [cs_fg (by omega)] at h1; cases h1
        exact .stop (if_neg c)
  | @go s t e h1 _ ih =>
    intro hs
    have ht := (cs_val hfg hh hs h1).1
    obtain ⟨b, z⟩ := s
    cases b with
    | true =>
      have W := first_two (h := h) (k := k) (cmp_ends hf hg (show z < m + k from hs))
      by_cases c : (cmp f g m n k).getD z 0 < m
      · rw [cs_tl c] at h1; cases h1
      · rw [cs_tg (by omega)] at h1; cases h1
        rw [em3_cst]; exact W.2 (by omega) _ (ih ht)
    | false =>
      by_cases c : h.getD z 0 < k
      · rw [cs_fl c] at h1; cases h1
        refine .go (t := (1, n + h.getD z 0)) (if_pos c) ?_
        have q := ih ht
        have e : em3 m n (true, m + h.getD z 0) = (1, n + h.getD z 0) := by
          show (if m + h.getD z 0 < m then _ else _) = _
          rw [if_neg (by omega), show m + h.getD z 0 - m = h.getD z 0 by omega]
        rw [e] at q; exact q
      · rw [cs_fg (by omega)] at h1; cases h1
theorem right_three (hf : IsPair (m + n) f) (hg : IsPair (n + k) g) (hh : IsPair (k + l) h) {s : Bool × Nat} {y : Nat} (w : Ends (cstep f (cmp g h n k l) m n) s y) : Val m n l s → Ends (step3 f g h m n k) (em4 n k s) y := by
  have hgh := cmp_pair hg hh
  induction w with
  | @stop s e h1 =>
    intro hs
    obtain ⟨b, z⟩ := s
    cases b with
    | true =>
      by_cases c : f.getD z 0 < m
      · rw [cs_tl c] at h1; cases h1
        exact .stop (if_pos c)
      · rw [cs_tg (by omega)] at h1; cases h1
    | false =>
      have W := last_two (f := f) (m := m) (cmp_ends hg hh (show z < n + l from hs))
      by_cases c : (cmp g h n k l).getD z 0 < n
      · rw [cs_fl c] at h1; cases h1
      · rw [cs_fg (by omega)] at h1; cases h1
        rw [em4_cst]; exact W.1 (by omega)
  | @go s t e h1 _ ih =>
    intro hs
    have ht := (cs_val hf hgh hs h1).1
    obtain ⟨b, z⟩ := s
    cases b with
    | true =>
      by_cases c : f.getD z 0 < m
      · rw [cs_tl c] at h1; cases h1
      · rw [cs_tg (by omega)] at h1; cases h1
        refine .go (t := (1, f.getD z 0 - m)) (if_neg c) ?_
        have q := ih ht
        have fz := hf.d (show z < m + n from hs)
        have e : em4 n k (false, f.getD z 0 - m) = (1, f.getD z 0 - m) := if_pos (by omega)
        rw [e] at q; exact q
    | false =>
      have W := last_two (f := f) (m := m) (cmp_ends hg hh (show z < n + l from hs))
      by_cases c : (cmp g h n k l).getD z 0 < n
      · rw [cs_fl c] at h1; cases h1
        rw [em4_cst]; exact W.2 c _ (ih ht)
      · rw [cs_fg (by omega)] at h1; cases h1
/-- the order of joining does not matter -/
theorem cmp_assoc (hf : IsPair (m + n) f) (hg : IsPair (n + k) g) (hh : IsPair (k + l) h) : cmp (cmp f g m n k) h m k l = cmp f (cmp g h n k l) m n l := by
  have hfg := cmp_pair hf hg
  have hgh := cmp_pair hg hh
  refine cmp_ext (by rw [cmp_len]) fun e he => ?_
  obtain ⟨y, w⟩ := walk_ends hfg hh he
  have a := left_three hf hg hh w (cst_val hfg hh he).1
  have b := right_three hf hg hh (cmp_ends hf hgh he) (cst_val hf hgh he).1
  have e1 : em3 m n (cst m k e) = em4 n k (cst m n e) := by
    unfold cst
    by_cases c : e < m
    · rw [if_pos c, if_pos c]; exact if_pos c
    · rw [if_neg c, if_neg c]
      show (2, k + (e - m)) = if n + (e - m) < n then _ else _
      rw [if_neg (by omega), show n + (e - m) - n = e - m by omega]
  rw [e1] at a
  rw [← a.det b]; exact w
end
/-! ### what is read is a layer behind a pairing -/
theorem trail_ends {fs ps : List Nat} {n z : Nat} {l : List Nat} (hP : IsPair n ps) (h : Trail fs ps n z l) : Ends (cstep ps fs 0 n) (false, z) (l.getLastD 0 - n) := by
  induction h with
  | @stop z h1 =>
    have := cs_fg (f := ps) (g := fs) (m := 0) (n := n) (z := z) h1
    rw [Nat.zero_add] at this
    exact .stop this
  | @go z l h1 h2 ih =>
    have a := cs_fl (f := ps) (g := fs) (m := 0) (n := n) (z := z) h1
    rw [Nat.zero_add] at a
    have b := cs_tg (f := ps) (g := fs) (m := 0) (n := n) (z := fs.getD z 0) (Nat.zero_le _)
    rw [Nat.sub_zero] at b
    rw [lastc h2.len.1]
    exact .go a (.go b ih)
theorem rd_cmp {fs ps : List Nat} {n : Nat} (hF : IsPair (2 * n) fs) (hP : IsPair n ps) : rd fs ps n = cmp ps fs 0 n n := by
  refine (cmp_ext (by rw [rd_len, Nat.zero_add]) fun e he => ?_).symm
  obtain ⟨l, h1, _⟩ := trail_ex hF hP (z := n + e) (by omega) (by omega)
  have := trail_ends hP h1
  rw [← far_is h1] at this
  have e1 : (rd fs ps n).getD e 0 = far fs ps n (n + e) - n := by
    rw [List.getD_eq_getElem?_getD, rd_get fs ps (by omega)]; rfl
  rw [e1]
  unfold cst
  rw [if_neg (Nat.not_lt_zero _), Nat.sub_zero]
  exact this
/-! ### a call added to the second layer -/
section
variable {f g g' : List Nat} {m n k A B c d : Nat}
theorem Ends.near (hf : IsPair (m + n) f) (hg : IsPair (n + k) g) (hN : Near g g' n A B c d) {s : Bool × Nat} {y : Nat} (w : Ends (cstep f g m n) s y) : Val m n k s → s ≠ (false, A) → s ≠ (false, B) → y ≠ m + (A - n) → y ≠ m + (B - n) → Ends (cstep f g' m n) s y := by
  have la := hN.la
  have lb := hN.lb
  induction w with
  | @stop s y h1 =>
    intro vs s1 s2 y1 y2
    obtain ⟨b, z⟩ := s
    cases b with
    | true =>
      by_cases q : f.getD z 0 < m
      · rw [cs_tl q] at h1; cases h1; exact .stop (cs_tl q)
      · rw [cs_tg (by omega)] at h1; cases h1
    | false =>
      by_cases q : g.getD z 0 < n
      · rw [cs_fl q] at h1; cases h1
      · rw [cs_fg (by omega)] at h1; cases h1
        have e : g'.getD z 0 = g.getD z 0 := hN.eq z (fun e => s1 (by rw [e])) (fun e => s2 (by rw [e])) (fun e => y1 (by rw [e, hN.fc])) (fun e => y2 (by rw [e, hN.fd]))
        have := cs_fg (f := f) (g := g') (m := m) (n := n) (z := z) (by rw [e]; omega)
        rw [e] at this; exact .stop this
  | @go s t y h1 _ ih =>
    intro vs s1 s2 y1 y2
    have cv := cs_val hf hg vs h1
    obtain ⟨b, z⟩ := s
    cases b with
    | true =>
      by_cases q : f.getD z 0 < m
      · rw [cs_tl q] at h1; cases h1
      · rw [cs_tg (by omega)] at h1; cases h1
        have hz := (hf.d (show z < m + n from vs)).1
        exact .go (cs_tg (by omega)) (ih cv.1 (fun h => by have := congrArg Prod.snd h; have e : f.getD z 0 - m = A := this; omega) (fun h => by have := congrArg Prod.snd h; have e : f.getD z 0 - m = B := this; omega) y1 y2)
    | false =>
      by_cases q : g.getD z 0 < n
      · rw [cs_fl q] at h1; cases h1
        have e : g'.getD z 0 = g.getD z 0 := hN.eq z (fun e => s1 (by rw [e])) (fun e => s2 (by rw [e])) (fun e => by rw [e, hN.fc] at q; omega) (fun e => by rw [e, hN.fd] at q; omega)
        have := cs_fl (f := f) (g := g') (m := m) (n := n) (z := z) (by rw [e]; exact q)
        rw [e] at this
        exact .go this (ih cv.1 (fun h => by cases h) (fun h => by cases h) y1 y2)
      · rw [cs_fg (by omega)] at h1; cases h1
theorem Ends.over (hf : IsPair (m + n) f) (hg : IsPair (n + k) g) (hN : Near g g' n A B c d) (hB : B < n + k) {y' : Nat} (wB : Ends (cstep f g m n) (false, B) y') (yA : y' ≠ m + (A - n)) (yB : y' ≠ m + (B - n)) {s : Bool × Nat} {y : Nat} (w : Ends (cstep f g m n) s y) :
    Val m n k s → s ≠ (false, A) → s ≠ (false, B) → y = m + (A - n) → Ends (cstep f g' m n) s y' := by
  have la := hN.la
  have lb := hN.lb
  have fb := hN.fb
  induction w with
  | @stop s y h1 =>
    intro vs s1 s2 y1
    obtain ⟨b, z⟩ := s
    cases b with
    | true =>
      by_cases q : f.getD z 0 < m
      · rw [cs_tl q] at h1; cases h1; omega
      · rw [cs_tg (by omega)] at h1; cases h1
    | false =>
      by_cases q : g.getD z 0 < n
      · rw [cs_fl q] at h1; cases h1
      · rw [cs_fg (by omega)] at h1; cases h1
        have zc : z = c := hN.un z (by omega)
        subst zc
        -- the way of B goes on from here
        cases wB with
        | stop h2 =>
          by_cases p : g.getD B 0 < n
          · rw [cs_fl p] at h2; cases h2
          · rw [cs_fg (by omega)] at h2; cases h2
            have := cs_fg (f := f) (g := g') (m := m) (n := n) (z := z) (by rw [hN.gc, ← fb]; omega)
            rw [hN.gc, ← fb] at this; exact .stop this
        | @go _ t _ h2 h3 =>
          have cv := cs_val hf hg (show Val m n k (false, B) from hB) h2
          by_cases p : g.getD B 0 < n
          · rw [cs_fl p] at h2; cases h2
            have := cs_fl (f := f) (g := g') (m := m) (n := n) (z := z) (by rw [hN.gc, ← fb]; exact p)
            rw [hN.gc, ← fb] at this
            exact .go this (h3.near hf hg hN cv.1 (fun h => by cases h) (fun h => by cases h) yA yB)
          · rw [cs_fg (by omega)] at h2; cases h2
  | @go s t y h1 _ ih =>
    intro vs s1 s2 y1
    have cv := cs_val hf hg vs h1
    obtain ⟨b, z⟩ := s
    cases b with
    | true =>
      by_cases q : f.getD z 0 < m
      · rw [cs_tl q] at h1; cases h1
      · rw [cs_tg (by omega)] at h1; cases h1
        have hz := (hf.d (show z < m + n from vs)).1
        exact .go (cs_tg (by omega)) (ih cv.1 (fun h => by have := congrArg Prod.snd h; have e : f.getD z 0 - m = A := this; omega) (fun h => by have := congrArg Prod.snd h; have e : f.getD z 0 - m = B := this; omega) y1)
    | false =>
      by_cases q : g.getD z 0 < n
      · rw [cs_fl q] at h1; cases h1
        have e : g'.getD z 0 = g.getD z 0 := hN.eq z (fun e => s1 (by rw [e])) (fun e => s2 (by rw [e])) (fun e => by rw [e, hN.fc] at q; omega) (fun e => by rw [e, hN.fd] at q; omega)
        have := cs_fl (f := f) (g := g') (m := m) (n := n) (z := z) (by rw [e]; exact q)
        rw [e] at this
        exact .go this (ih cv.1 (fun h => by cases h) (fun h => by cases h) y1)
      · rw [cs_fg (by omega)] at h1; cases h1
end
/-- a call at the lower ends of the second layer is one at the lower ends of both -/
theorem cmp_jn {f g : List Nat} {m n k a b : Nat} (hn : k = n) (h0 : 0 < n) (hf : IsPair (m + n) f) (hg : IsPair (n + k) g) (hab : a ≠ b) (ha : a < k) (hb : b < k) : cmp f (jn g (n + a) (n + b)) m n k = jn (cmp f g m n k) (m + a) (m + b) := by
  subst hn
  have hR := cmp_pair hf hg
  have hg2 : IsPair (2 * k) g := by rw [show 2 * k = k + k by omega]; exact hg
  by_cases hc : g.getD (k + a) 0 = k + b
  · rw [jn_same (hg.ofd (by omega) hc)]
    have w : Ends (cstep f g m k) (cst m k (m + a)) (m + b) := by
      have := cs_fg (f := f) (g := g) (m := m) (n := k) (z := k + a) (by rw [hc]; omega)
      rw [hc, show k + b - k = b by omega] at this
      unfold cst
      rw [if_neg (by omega), show m + a - m = a by omega]
      exact .stop this
    refine (jn_same ?_).symm
    rw [cmp_get f g (by omega), cfar_is w]
  · obtain ⟨N1, N2, gA, gB⟩ := jn_near hg2 (A := k + a) (B := k + b) (by omega) (by omega) (by omega) (by omega) (by omega) hc
    have hg' : IsPair (k + k) (jn g (k + a) (k + b)) := jn_pair hg (by omega) (by omega) (by omega)
    have ga := hR.d (show m + a < m + k by omega)
    have gb := hR.d (show m + b < m + k by omega)
    have sA : cst m k (m + a) = (false, k + a) := by unfold cst; rw [if_neg (by omega), show m + a - m = a by omega]
    have sB : cst m k (m + b) = (false, k + b) := by unfold cst; rw [if_neg (by omega), show m + b - m = b by omega]
    have wA := cmp_ends hf hg (show m + a < m + k by omega)
    have wB := cmp_ends hf hg (show m + b < m + k by omega)
    have JS : (cmp f g m k k).getD (m + a) 0 = m + b → jn (cmp f g m k k) (m + a) (m + b) = cmp f g m k k := fun c => jn_same (hR.ofd (by omega) c)
    rw [sA] at wA
    rw [sB] at wB
    refine cmp_ext (by rw [jn_len, cmp_len]) fun e he => ?_
    have G : ∀ {v : Nat}, (jn (cmp f g m k k) (m + a) (m + b))[e]? = some v → (jn (cmp f g m k k) (m + a) (m + b)).getD e 0 = v := fun h => getD_of h
    have we := cmp_ends hf hg he
    have ve := (cst_val hf hg he).1
    have ge := hR.d he
    have ne : ∀ {x : Nat}, x < k → e ≠ m + x → cst m k e ≠ (false, k + x) := fun {x} hx h z => by
      unfold cst at z
      by_cases c : e < m
      · rw [if_pos c] at z; cases z
      · rw [if_neg c] at z
        have : k + (e - m) = k + x := congrArg Prod.snd z
        omega
    by_cases ea : e = m + a
    · subst ea
      have w : Ends (cstep f (jn g (k + a) (k + b)) m k) (cst m k (m + a)) (m + b) := by
        have := cs_fg (f := f) (g := jn g (k + a) (k + b)) (m := m) (n := k) (z := k + a) (by rw [gA]; omega)
        rw [gA, show k + b - k = b by omega] at this
        rw [sA]; exact .stop this
      by_cases c : (cmp f g m k k).getD (m + a) 0 = m + b
      · rw [JS c, c]; exact w
      · rw [G (by rw [jn_get hR (by omega) ga.2.2.2 gb.2.2.2 c, if_pos rfl])]; exact w
    · by_cases eb : e = m + b
      · subst eb
        have w : Ends (cstep f (jn g (k + a) (k + b)) m k) (cst m k (m + b)) (m + a) := by
          have := cs_fg (f := f) (g := jn g (k + a) (k + b)) (m := m) (n := k) (z := k + b) (by rw [gB]; omega)
          rw [gB, show k + a - k = a by omega] at this
          rw [sB]; exact .stop this
        by_cases c : (cmp f g m k k).getD (m + a) 0 = m + b
        · rw [JS c, show (cmp f g m k k).getD (m + b) 0 = m + a by rw [← c]; exact ga.2.2.1]; exact w
        · rw [G (by rw [jn_get hR (by omega) ga.2.2.2 gb.2.2.2 c, if_neg (by omega), if_pos rfl])]; exact w
      · have s1 := ne ha ea
        have s2 := ne hb eb
        by_cases yA : (cmp f g m k k).getD e 0 = m + a
        · have e1 : (cmp f g m k k).getD (m + a) 0 = e := by rw [← yA]; exact ge.2.2.1
          have e2 : (cmp f g m k k).getD (m + b) 0 ≠ m + a := fun z => by
            have := gb.2.2.1
            rw [z, e1] at this; omega
          have w := Ends.over hf hg N1 (by omega) wB (by rw [show k + a - k = a by omega]; exact e2) (by rw [show k + b - k = b by omega]; exact gb.2.1) we ve s1 s2 (by rw [show k + a - k = a by omega]; exact yA)
          rw [G (by rw [jn_get hR (by omega) ga.2.2.2 gb.2.2.2 (by rw [e1]; omega), if_neg ea, if_neg eb, if_pos e1.symm])]; exact w
        · by_cases yB : (cmp f g m k k).getD e 0 = m + b
          · have e1 : (cmp f g m k k).getD (m + b) 0 = e := by rw [← yB]; exact ge.2.2.1
            have e2 : (cmp f g m k k).getD (m + a) 0 ≠ m + b := fun z => by
              have := ga.2.2.1
              rw [z, e1] at this; omega
            have e3 : (cmp f g m k k).getD (m + a) 0 ≠ e := fun z => by
              have := ga.2.2.1
              rw [z, yB] at this; omega
            have w := Ends.over hf hg N2 (by omega) wA (by rw [show k + b - k = b by omega]; exact e2) (by rw [show k + a - k = a by omega]; exact ga.2.1) we ve s2 s1 (by rw [show k + b - k = b by omega]; exact yB)
            rw [G (by rw [jn_get hR (by omega) ga.2.2.2 gb.2.2.2 e2, if_neg ea, if_neg eb, if_neg (fun z => e3 z.symm), if_pos e1.symm])]; exact w
          · have w := we.near hf hg N1 ve s1 s2 (by rw [show k + a - k = a by omega]; exact yA) (by rw [show k + b - k = b by omega]; exact yB)
            by_cases c : (cmp f g m k k).getD (m + a) 0 = m + b
            · rw [JS c]; exact w
            · have e1 : (cmp f g m k k).getD (m + a) 0 ≠ e := fun z => by
                have := ga.2.2.1
                rw [z] at this; exact yA this
              have e2 : (cmp f g m k k).getD (m + b) 0 ≠ e := fun z => by
                have := gb.2.2.1
                rw [z] at this; exact yB this
              rw [G (by rw [jn_get hR (by omega) ga.2.2.2 gb.2.2.2 c, if_neg ea, if_neg eb, if_neg (fun z => e1 z.symm), if_neg (fun z => e2 z.symm)]; exact ge.2.2.2)]; exact w
end Pc
namespace Pc
/-! ### sheets one after another -/
theorem IsPair.two {n : Nat} {f : List Nat} (h : IsPair (2 * n) f) : IsPair (n + n) f := by rw [← Nat.two_mul]; exact h
theorem IsPair.one {n : Nat} {f : List Nat} (h : IsPair (n + n) f) : IsPair (2 * n) f := by rw [Nat.two_mul]; exact h
noncomputable def fol (f g : List Nat) (n : Nat) : List Nat := cmp f g n n n
theorem fol_pair {f g : List Nat} {n : Nat} (hf : IsPair (2 * n) f) (hg : IsPair (2 * n) g) : IsPair (2 * n) (fol f g n) := (cmp_pair hf.two hg.two).one
theorem fol_assoc {f g h : List Nat} {n : Nat} (hf : IsPair (2 * n) f) (hg : IsPair (2 * n) g) (hh : IsPair (2 * n) h) : fol (fol f g n) h n = fol f (fol g h n) n := cmp_assoc hf.two hg.two hh.two
theorem rd_fol {f g ps : List Nat} {n : Nat} (hf : IsPair (2 * n) f) (hg : IsPair (2 * n) g) (hP : IsPair n ps) : rd (fol f g n) ps n = rd g (rd f ps n) n := by
  have hR := rd_pair hf hP
  have hP0 : IsPair (0 + n) ps := by rw [Nat.zero_add]; exact hP
  rw [rd_cmp (fol_pair hf hg) hP, rd_cmp hg hR, rd_cmp hf hP]
  exact (cmp_assoc hP0 hf.two hg.two).symm
theorem fol_emp {f : List Nat} {n : Nat} (hn : 0 < n) (hf : IsPair (2 * n) f) : fol f (emp n) n = f := by
  refine cmp_ext (by rw [hf.len]; omega) fun e he => ?_
  have fe := hf.d (show e < 2 * n by omega)
  have em : ∀ {x : Nat}, x < n → (emp n).getD x 0 = n + x := fun h => getD_of (emp_lo h)
  have em2 : ∀ {x : Nat}, x < n → (emp n).getD (n + x) 0 = x := fun h => getD_of (emp_hi h)
  -- from the first layer
  have T : ∀ {z : Nat}, z < 2 * n → Ends (cstep f (emp n) n n) (true, z) (f.getD z 0) := fun {z} hz => by
    have fz := hf.d hz
    by_cases c : f.getD z 0 < n
    · exact .stop (cs_tl c)
    · refine .go (cs_tg (by omega)) (.stop ?_)
      have e1 := em (x := f.getD z 0 - n) (by omega)
      rw [cs_fg (by rw [e1]; omega), e1, show n + (n + (f.getD z 0 - n) - n) = f.getD z 0 by omega]
  unfold cst
  by_cases c : e < n
  · rw [if_pos c]; exact T (by omega)
  · rw [if_neg c]
    have e1 := em2 (x := e - n) (by omega)
    refine .go (t := (true, e)) ?_ (T (by omega))
    rw [cs_fl (by rw [e1]; omega), e1, show n + (e - n) = e by omega]
theorem emp_fol {f : List Nat} {n : Nat} (hn : 0 < n) (hf : IsPair (2 * n) f) : fol (emp n) f n = f := by
  refine cmp_ext (by rw [hf.len]; omega) fun e he => ?_
  have em : ∀ {x : Nat}, x < n → (emp n).getD x 0 = n + x := fun h => getD_of (emp_lo h)
  have em2 : ∀ {x : Nat}, x < n → (emp n).getD (n + x) 0 = x := fun h => getD_of (emp_hi h)
  have T : ∀ {z : Nat}, z < 2 * n → Ends (cstep (emp n) f n n) (false, z) (f.getD z 0) := fun {z} hz => by
    have fz := hf.d hz
    by_cases c : f.getD z 0 < n
    · refine .go (cs_fl c) (.stop ?_)
      have e1 := em2 c
      rw [cs_tl (by rw [e1]; exact c), e1]
    · refine .stop ?_
      rw [cs_fg (by omega), show n + (f.getD z 0 - n) = f.getD z 0 by omega]
  unfold cst
  by_cases c : e < n
  · rw [if_pos c]
    have e1 := em c
    refine .go (t := (false, e)) ?_ (T (by omega))
    rw [cs_tg (by rw [e1]; omega), e1, show n + e - n = e by omega]
  · rw [if_neg c, show n + (e - n) = e by omega]; exact T (by omega)
theorem fol_shw {f : List Nat} {n : Nat} (hn : 0 < n) (hf : IsPair (2 * n) f) : ∀ (qs : List (Nat × Nat)) {g : List Nat}, IsPair (2 * n) g → Calls n qs → fol f (shw n qs g) n = shw n qs (fol f g n)
  | [], _, _, _ => rfl
  | q :: r, g, hg, hc => by
    have h1 := hc q List.mem_cons_self
    have h2 := fol_shw hn hf r (jn_pair hg (a := n + q.1) (b := n + q.2) (by omega) (by omega) (by omega)) (fun x hx => hc x (List.mem_cons_of_mem _ hx))
    have e : fol f (jn g (n + q.1) (n + q.2)) n = jn (fol f g n) (n + q.1) (n + q.2) := cmp_jn rfl hn hf.two hg.two (by omega) (by omega) h1.2
    rw [e] at h2
    exact h2
/-- the sheet of a word behind a sheet is the word added to it -/
theorem fol_word {f : List Nat} {n : Nat} {qs : List (Nat × Nat)} (hn : 0 < n) (hf : IsPair (2 * n) f) (hc : Calls n qs) : fol f (shw n qs (emp n)) n = shw n qs f := by
  rw [fol_shw hn hf qs (emp_pair hn) hc, fol_emp hn hf]
theorem shw_app (n : Nat) (qs rs : List (Nat × Nat)) (f : List Nat) : shw n (qs ++ rs) f = shw n rs (shw n qs f) := by
  unfold shw runs low
  rw [List.map_append, List.foldl_append]
/-! ### again and again -/
noncomputable def pw (f : List Nat) (n : Nat) : Nat → List Nat
  | 0 => emp n
  | k + 1 => fol (pw f n k) f n
theorem pw_pair {f : List Nat} {n : Nat} (hn : 0 < n) (hf : IsPair (2 * n) f) : ∀ k, IsPair (2 * n) (pw f n k)
  | 0 => emp_pair hn
  | k + 1 => fol_pair (pw_pair hn hf k) hf
theorem pw_add {f : List Nat} {n : Nat} (hn : 0 < n) (hf : IsPair (2 * n) f) (a : Nat) : ∀ b, fol (pw f n a) (pw f n b) n = pw f n (a + b)
  | 0 => fol_emp hn (pw_pair hn hf a)
  | b + 1 => by
    show fol (pw f n a) (fol (pw f n b) f n) n = fol (pw f n (a + b)) f n
    rw [← fol_assoc (pw_pair hn hf a) (pw_pair hn hf b) hf, pw_add hn hf a b]
theorem pw_one {f : List Nat} {n : Nat} (hn : 0 < n) (hf : IsPair (2 * n) f) : pw f n 1 = f := emp_fol hn hf
/-! ### upside down -/
def os (n e : Nat) : Nat := if e < n then e + n else e - n
theorem os_lt {n e : Nat} (h : e < 2 * n) : os n e < 2 * n := by unfold os; split <;> omega
theorem os_os {n e : Nat} (h : e < 2 * n) : os n (os n e) = e := by
  unfold os
  by_cases c : e < n
  · rw [if_pos c, if_neg (by omega)]; omega
  · rw [if_neg c, if_pos (by omega)]; omega
def mir (f : List Nat) (n : Nat) : List Nat := (List.range (2 * n)).map fun e => os n (f.getD (os n e) 0)
theorem mir_len (f : List Nat) (n : Nat) : (mir f n).length = 2 * n := by unfold mir; rw [List.length_map, List.length_range]
theorem mir_get (f : List Nat) {n e : Nat} (h : e < 2 * n) : (mir f n)[e]? = some (os n (f.getD (os n e) 0)) := by unfold mir; rw [List.getElem?_map, List.getElem?_range h]; rfl
theorem mir_d (f : List Nat) {n e : Nat} (h : e < 2 * n) : (mir f n).getD e 0 = os n (f.getD (os n e) 0) := getD_of (mir_get f h)
theorem mir_pair {f : List Nat} {n : Nat} (hf : IsPair (2 * n) f) : IsPair (2 * n) (mir f n) := by
  refine ⟨mir_len f n, fun e he => ?_⟩
  have fo := hf.d (os_lt he)
  refine ⟨_, mir_get f he, os_lt fo.1, fun z => ?_, ?_⟩
  · have := congrArg (os n) z
    rw [os_os fo.1] at this
    exact fo.2.1 this
  · rw [mir_get f (os_lt fo.1), os_os fo.1, fo.2.2.1, os_os he]
theorem list_d {x y : List Nat} (h : x.length = y.length) (e : ∀ i, i < x.length → x.getD i 0 = y.getD i 0) : x = y := by
  refine List.ext_getElem? fun i => ?_
  by_cases hi : i < x.length
  · have := e i hi
    rw [List.getD_eq_getElem?_getD, List.getD_eq_getElem?_getD, List.getElem?_eq_getElem hi, List.getElem?_eq_getElem (by omega)] at this
    rw [List.getElem?_eq_getElem hi, List.getElem?_eq_getElem (by omega)]
    exact congrArg some this
  · rw [List.getElem?_eq_none (by omega), List.getElem?_eq_none (by omega)]
theorem mir_mir {f : List Nat} {n : Nat} (hf : IsPair (2 * n) f) : mir (mir f n) n = f := by
  refine list_d (by rw [mir_len, hf.len]) fun e he => ?_
  rw [mir_len] at he
  rw [mir_d _ he, mir_d _ (os_lt he), os_os he, os_os (hf.d he).1]
theorem mir_emp {n : Nat} : mir (emp n) n = emp n := by
  refine list_d (by rw [mir_len, emp_len]) fun e he => ?_
  rw [mir_len] at he
  rw [mir_d _ he]
  by_cases c : e < n
  · have e1 : os n e = n + e := by unfold os; rw [if_pos c]; omega
    rw [e1, getD_of (emp_hi c), getD_of (emp_lo c), e1]
  · have e1 : os n e = e - n := by unfold os; rw [if_neg c]
    have h2 := emp_hi (n := n) (e := e - n) (by omega)
    rw [show n + (e - n) = e by omega] at h2
    rw [e1, getD_of (emp_lo (by omega)), getD_of h2]
    unfold os; rw [if_neg (by omega)]; omega
/-- a walk seen from below -/
theorem mir_ends {f g : List Nat} {n : Nat} (hf : IsPair (2 * n) f) (hg : IsPair (2 * n) g) {s : Bool × Nat} {y : Nat} (w : Ends (cstep f g n n) s y) : Val n n n s → Ends (cstep (mir g n) (mir f n) n n) (!s.1, os n s.2) (os n y) := by
  induction w with
  | @stop s y h1 =>
    intro hs
    obtain ⟨b, z⟩ := s
    have hz : z < 2 * n := by cases b <;> (have : z < n + n := hs; omega)
    cases b with
    | true =>
      have fz := hf.d hz
      by_cases c : f.getD z 0 < n
      · rw [cs_tl c] at h1; cases h1
        have e1 : (mir f n).getD (os n z) 0 = os n (f.getD z 0) := by rw [mir_d _ (os_lt hz), os_os hz]
        have e2 : os n (f.getD z 0) = f.getD z 0 + n := by unfold os; rw [if_pos c]
        refine .stop ?_
        show cstep (mir g n) (mir f n) n n (false, os n z) = _
        rw [cs_fg (by rw [e1, e2]; omega), e1, e2, show n + (f.getD z 0 + n - n) = f.getD z 0 + n by omega]
      · rw [cs_tg (by omega)] at h1; cases h1
    | false =>
      have gz := hg.d hz
      by_cases c : g.getD z 0 < n
      · rw [cs_fl c] at h1; cases h1
      · rw [cs_fg (by omega)] at h1; cases h1
        have e1 : (mir g n).getD (os n z) 0 = os n (g.getD z 0) := by rw [mir_d _ (os_lt hz), os_os hz]
        have e2 : os n (g.getD z 0) = g.getD z 0 - n := by unfold os; rw [if_neg c]
        refine .stop ?_
        show cstep (mir g n) (mir f n) n n (true, os n z) = _
        rw [cs_tl (by rw [e1, e2]; omega), e1, show n + (g.getD z 0 - n) = g.getD z 0 by omega]
  | @go s t y h1 _ ih =>
    intro hs
    have cv := cs_val hf.two hg.two hs h1
    have IH := ih cv.1
    obtain ⟨b, z⟩ := s
    have hz : z < 2 * n := by cases b <;> (have : z < n + n := hs; omega)
    cases b with
    | true =>
      have fz := hf.d hz
      by_cases c : f.getD z 0 < n
      · rw [cs_tl c] at h1; cases h1
      · rw [cs_tg (by omega)] at h1; cases h1
        have e1 : (mir f n).getD (os n z) 0 = os n (f.getD z 0) := by rw [mir_d _ (os_lt hz), os_os hz]
        have e2 : os n (f.getD z 0) = f.getD z 0 - n := by unfold os; rw [if_neg c]
        have e3 : os n (f.getD z 0 - n) = n + (f.getD z 0 - n) := by unfold os; rw [if_pos (by omega)]; omega
        refine .go (t := (true, n + (f.getD z 0 - n))) ?_ (by rw [← e3]; exact IH)
        show cstep (mir g n) (mir f n) n n (false, os n z) = _
        rw [cs_fl (by rw [e1, e2]; omega), e1, e2]
    | false =>
      have gz := hg.d hz
      by_cases c : g.getD z 0 < n
      · rw [cs_fl c] at h1; cases h1
        have e1 : (mir g n).getD (os n z) 0 = os n (g.getD z 0) := by rw [mir_d _ (os_lt hz), os_os hz]
        have e2 : os n (g.getD z 0) = g.getD z 0 + n := by unfold os; rw [if_pos c]
        have e3 : os n (n + g.getD z 0) = g.getD z 0 := by unfold os; rw [if_neg (by omega)]; omega
        refine .go (t := (false, g.getD z 0)) ?_ (by have := IH; rw [show os n (true, n + g.getD z 0).2 = g.getD z 0 from e3] at this; exact this)
        show cstep (mir g n) (mir f n) n n (true, os n z) = _
        rw [cs_tg (by rw [e1, e2]; omega), e1, e2, show g.getD z 0 + n - n = g.getD z 0 by omega]
      · rw [cs_fg (by omega)] at h1; cases h1
theorem mir_fol {f g : List Nat} {n : Nat} (hf : IsPair (2 * n) f) (hg : IsPair (2 * n) g) : mir (fol f g n) n = fol (mir g n) (mir f n) n := by
  refine (cmp_ext (by rw [mir_len]; omega) fun e he => ?_).symm
  have he2 : e < 2 * n := by omega
  have w := mir_ends hf hg (cmp_ends hf.two hg.two (show os n e < n + n by have := os_lt he2; omega)) (cst_val hf.two hg.two (by have := os_lt he2; omega)).1
  rw [mir_d _ he2]
  have e1 : ((!(cst n n (os n e)).1, os n (cst n n (os n e)).2) : Bool × Nat) = cst n n e := by
    unfold cst
    by_cases c : e < n
    · have e2 : os n e = e + n := by unfold os; rw [if_pos c]
      rw [e2, if_neg (by omega), if_pos c, show n + (e + n - n) = e + n by omega]
      show (true, os n (e + n)) = _
      unfold os; rw [if_neg (by omega), Nat.add_sub_cancel]
    · have e2 : os n e = e - n := by unfold os; rw [if_neg c]
      rw [e2, if_pos (by omega), if_neg c]
      show (false, os n (e - n)) = _
      unfold os; rw [if_pos (by omega), Nat.add_comm]
  rw [e1] at w
  exact w
/-- forth, back and forth again -/
theorem fol_mir {f : List Nat} {n : Nat} (hf : IsPair (2 * n) f) : fol (fol f (mir f n) n) f n = f := by
  have hm := mir_pair hf
  have hfm := fol_pair hf hm
  have up : ∀ {x : Nat}, x < n → n ≤ f.getD x 0 → (fol f (mir f n) n).getD x 0 = n + x := fun {x} hx h => by
    have fx := hf.d (show x < 2 * n by omega)
    have w : Ends (cstep f (mir f n) n n) (cst n n x) (n + x) := by
      unfold cst; rw [if_pos hx]
      refine .go (cs_tg h) (.stop ?_)
      have e1 : (mir f n).getD (f.getD x 0 - n) 0 = x + n := by
        rw [mir_d _ (by omega), show os n (f.getD x 0 - n) = f.getD x 0 by unfold os; rw [if_pos (by omega)]; omega, fx.2.2.1]
        unfold os; rw [if_pos hx]
      rw [cs_fg (by rw [e1]; omega), e1, show n + (x + n - n) = n + x by omega]
    show (cmp f (mir f n) n n n).getD x 0 = _
    rw [cmp_d _ _ (by omega), cfar_is w]
  have upp : ∀ {x : Nat}, x < n → f.getD x 0 < n → (fol f (mir f n) n).getD x 0 = f.getD x 0 := fun {x} hx h => by
    have w : Ends (cstep f (mir f n) n n) (cst n n x) (f.getD x 0) := by
      unfold cst; rw [if_pos hx]; exact .stop (cs_tl h)
    show (cmp f (mir f n) n n n).getD x 0 = _
    rw [cmp_d _ _ (by omega), cfar_is w]
  have dn : ∀ {x : Nat}, x < n → n ≤ f.getD x 0 → (fol f (mir f n) n).getD (n + x) 0 = x := fun {x} hx h => by
    have := hfm.d (show x < 2 * n by omega)
    rw [up hx h] at this
    exact this.2.2.1
  refine cmp_ext (by rw [hf.len]; omega) fun e he => ?_
  have fe := hf.d (show e < 2 * n by omega)
  unfold cst
  by_cases c : e < n
  · rw [if_pos c]
    by_cases q : f.getD e 0 < n
    · have := cs_tl (f := fol f (mir f n) n) (g := f) (m := n) (n := n) (z := e) (by rw [upp c q]; exact q)
      rw [upp c q] at this; exact .stop this
    · have u := up c (by omega)
      refine .go (t := (false, e)) ?_ (.stop ?_)
      · rw [cs_tg (by rw [u]; omega), u, show n + e - n = e by omega]
      · rw [cs_fg (by omega), show n + (f.getD e 0 - n) = f.getD e 0 by omega]
  · rw [if_neg c, show n + (e - n) = e by omega]
    by_cases q : f.getD e 0 < n
    · have u := dn q (by rw [fe.2.2.1]; omega)
      refine .go (cs_fl q) (.stop ?_)
      rw [cs_tl (by rw [u]; exact q), u]
    · refine .stop ?_
      rw [cs_fg (by omega), show n + (f.getD e 0 - n) = f.getD e 0 by omega]
/-! ### a walk counted -/
inductive EndsN {S Y : Type} (step : S → S ⊕ Y) : Nat → S → Y → Prop
  | stop {s : S} {y : Y} : step s = .inr y → EndsN step 0 s y
  | go {t : Nat} {s u : S} {y : Y} : step s = .inl u → EndsN step t u y → EndsN step (t + 1) s y
theorem Ends.count {S Y : Type} {step : S → S ⊕ Y} {s : S} {y : Y} (h : Ends step s y) : ∃ t, EndsN step t s y := by
  induction h with
  | stop h => exact ⟨0, .stop h⟩
  | go h _ ih =>
    obtain ⟨t, ht⟩ := ih
    exact ⟨t + 1, .go h ht⟩
end Pc
namespace Pc
open PySem PySem.Spec PyProof.Rows L2 RZ
/-- x //= c -/
def ipHalf : TIp := fun x y H Q => ∃ i j, x = .int i ∧ y = .int j ∧ (0 < j ∧ j < 1073741824) ∧ Q (.int (i / j)) H
theorem ip_half {X : Cx} : PIp X .FloorDiv ipHalf := by
  intro pins s σ H x y v u Q I r1 r2 h
  obtain ⟨i, j, e1, e2, hj, q⟩ := h
  subst e1 e2
  obtain ⟨t, rfl⟩ := r1
  obtain ⟨t', rfl⟩ := r2
  refine PyProof.Rows.ifloordiv_int (by omega) ?_ (.inl (PyProof.noPylong_small (by omega)))
  rw [Int.fdiv_eq_ediv_of_nonneg i (by omega)]
  exact ⟨.int _, H, I.tok _, ⟨_, rfl⟩, q⟩
theorem bl_dec (a b : Bool) : decide (V.bl a = V.bl b) = (a == b) := by cases a <;> cases b <;> rfl
end Pc
namespace Pc
theorem iteY {b : Bool} {A B : Prop} (h : b = true) (a : A) : if b = true then A else B := by rw [if_pos h]; exact a
theorem iteX {b : Bool} {A B : Prop} (h : b = false) (a : B) : if b = true then A else B := by rw [h, if_neg Bool.false_ne_true]; exact a
end Pc
namespace Pc
/-! ### how many strands -/
theorem sts_ups {n : Nat} {fs : List Nat} (h : IsPair (2 * n) fs) : 2 * (ups fs n).length + (sts fs n).length = n := by
  have hp := jns_perm h
  have hc := hp.countP_eq (fun z => decide (z < n))
  rw [range_low] at hc
  unfold jns at hc
  have x1 : (flat (ups fs n)).countP (fun z => decide (z < n)) = 2 * (ups fs n).length := flat_two fun p hp => by
    have := ups_mem h hp
    exact ⟨decide_eq_true (by omega), decide_eq_true (by omega)⟩
  have x2 : (flat ((los fs n).map (fun p => (n + p.1, n + p.2)))).countP (fun z => decide (z < n)) = 0 := flat_none fun p hp => by
    obtain ⟨r, hr, rfl⟩ := List.mem_map.mp hp
    exact ⟨decide_eq_false (by show ¬ n + r.1 < n; omega), decide_eq_false (by show ¬ n + r.2 < n; omega)⟩
  have x3 : (flat ((sts fs n).map (fun p => (p.1, n + p.2)))).countP (fun z => decide (z < n)) = ((sts fs n).map (fun p => (p.1, n + p.2))).length := flat_one fun p hp => by
    obtain ⟨r, hr, rfl⟩ := List.mem_map.mp hp
    have := sts_mem h hr
    exact ⟨decide_eq_true (by show r.1 < n; omega), decide_eq_false (by show ¬ n + r.2 < n; omega)⟩
  rw [flat_app, flat_app, List.countP_append, List.countP_append, x1, x2, x3, List.length_map] at hc
  omega
theorem sel_len {c d : Nat → Bool} {g k : Nat → Nat × Nat} {n : Nat} (h : ∀ x, x < n → c x = d x) : (selN c g n).length = (selN d k n).length := by
  unfold selN
  rw [List.length_map, List.length_map]
  exact congrArg List.length (List.filter_congr fun x hx => h x (List.mem_range.mp hx))
theorem sel_le {c d : Nat → Bool} {g k : Nat → Nat × Nat} {n : Nat} (h : ∀ x, x < n → c x = true → d x = true) : (selN c g n).length ≤ (selN d k n).length := by
  unfold selN
  rw [List.length_map, List.length_map, ← List.countP_eq_length_filter, ← List.countP_eq_length_filter]
  exact List.countP_mono_left fun x hx => h x (List.mem_range.mp hx)
theorem ups_mir {n : Nat} {f : List Nat} (hf : IsPair (2 * n) f) : (ups (mir f n) n).length = (los f n).length := by
  refine sel_len fun x hx => ?_
  have fx := hf.d (show n + x < 2 * n by omega)
  have e : (mir f n).getD x 0 = os n (f.getD (n + x) 0) := by rw [mir_d f (by omega), show os n x = n + x by unfold os; rw [if_pos hx]; omega]
  unfold upC loC
  rw [e]
  by_cases c : f.getD (n + x) 0 < n
  · rw [show os n (f.getD (n + x) 0) = f.getD (n + x) 0 + n by unfold os; rw [if_pos c], decide_eq_false (show ¬ f.getD (n + x) 0 + n < n by omega), decide_eq_false (show ¬ n + x < f.getD (n + x) 0 by omega), Bool.and_false]
  · rw [show os n (f.getD (n + x) 0) = f.getD (n + x) 0 - n by unfold os; rw [if_neg c], decide_eq_true (show f.getD (n + x) 0 - n < n by omega), Bool.and_true]
    by_cases q : n + x < f.getD (n + x) 0
    · rw [decide_eq_true q, decide_eq_true (by omega)]
    · rw [decide_eq_false q, decide_eq_false (by omega)]
theorem sts_mir {n : Nat} {f : List Nat} (hf : IsPair (2 * n) f) : (sts (mir f n) n).length = (sts f n).length := by
  have a := sts_ups hf
  have b := sts_ups (mir_pair hf)
  rw [ups_mir hf, ← ups_los hf] at b
  omega
theorem sts_fol {n : Nat} {f g : List Nat} : (sts (fol f g n) n).length ≤ (sts f n).length := by
  refine sel_le fun x hx h => ?_
  unfold stC at h ⊢
  by_cases c : f.getD x 0 < n
  · have w : Ends (cstep f g n n) (cst n n x) (f.getD x 0) := by unfold cst; rw [if_pos hx]; exact .stop (cs_tl c)
    have e : (fol f g n).getD x 0 = f.getD x 0 := by show (cmp f g n n n).getD x 0 = _; rw [cmp_d _ _ (by omega), cfar_is w]
    rw [e, decide_eq_false (by omega)] at h; cases h
  · exact decide_eq_true (by omega)
theorem sts_fol' {n : Nat} {f g : List Nat} (hf : IsPair (2 * n) f) (hg : IsPair (2 * n) g) : (sts (fol f g n) n).length ≤ (sts g n).length := by
  rw [← sts_mir (fol_pair hf hg), mir_fol hf hg, ← sts_mir hg]
  exact sts_fol
end Pc
namespace Pc
open PySem PySem.Spec PyProof.Rows L2 RZ
theorem room65 {k : Nat} {A : Around} (r : Room k A) : A.units + 65 < cLine := by have := r.un; omega
/-- x *= c, both small -/
def ipMul : TIp := fun x y H Q => ∃ i j, x = .int i ∧ y = .int j ∧ CMul i j ∧ Q (.int (i * j)) H
theorem ip_mul {X : Cx} : PIp X .Mult ipMul := by
  intro pins s σ H x y v u Q I r1 r2 h
  obtain ⟨i, j, e1, e2, hj, q⟩ := h
  subst e1 e2
  obtain ⟨t, rfl⟩ := r1
  obtain ⟨t', rfl⟩ := r2
  exact PyProof.Rows.imul_int ⟨.int _, H, I.tok _, ⟨_, rfl⟩, q⟩ hj.ok
end Pc
namespace Pc
/-! ### counting -/
theorem cnt_same {p q : Nat → Bool} {n : Nat} (h : ∀ y, y < n → q y = p y) : (List.range n).countP q = (List.range n).countP p :=
  List.countP_congr fun x hx => by rw [h x (List.mem_range.mp hx)]
theorem cnt_off {p q : Nat → Bool} {a : Nat} : ∀ {n : Nat}, (∀ y, y < n → y ≠ a → q y = p y) → a < n → p a = true → q a = false → (List.range n).countP q + 1 = (List.range n).countP p
  | 0, _, h, _, _ => absurd h (Nat.not_lt_zero _)
  | n + 1, h, ha, h1, h2 => by
    rw [List.range_succ, List.countP_append, List.countP_append]
    by_cases e : a = n
    · subst e
      rw [cnt_same (p := p) (q := q) (fun y hy => h y (by omega) (by omega)), List.countP_cons_of_neg (by rw [h2]; decide), List.countP_cons_of_pos h1]
      rfl
    · have ih := cnt_off (p := p) (q := q) (a := a) (n := n) (fun y hy hn => h y (by omega) hn) (by omega) h1 h2
      have e1 : [n].countP q = [n].countP p := by
        have := h n (by omega) (fun z => e z.symm)
        by_cases c : p n = true
        · rw [List.countP_cons_of_pos c, List.countP_cons_of_pos (by rw [this]; exact c)]; rfl
        · rw [List.countP_cons_of_neg c, List.countP_cons_of_neg (by rw [this]; exact c)]; rfl
      rw [e1]
      omega
/-! ### the people at the lower ends of strands -/
def lsC (f : List Nat) (n y : Nat) : Bool := decide (f.getD (n + y) 0 < n)
def lse (f : List Nat) (n : Nat) : List Nat := (List.range n).filter (lsC f n)
theorem lse_len {f : List Nat} {n : Nat} (hf : IsPair (2 * n) f) : (lse f n).length = (sts f n).length := by
  rw [← sts_mir hf]
  unfold lse sts selN
  rw [List.length_map]
  refine congrArg List.length (List.filter_congr fun x hx => ?_)
  have hx := List.mem_range.mp hx
  have fx := hf.d (show n + x < 2 * n by omega)
  have e : (mir f n).getD x 0 = os n (f.getD (n + x) 0) := by rw [mir_d f (by omega), show os n x = n + x by unfold os; rw [if_pos hx]; omega]
  unfold lsC stC
  rw [e]
  by_cases c : f.getD (n + x) 0 < n
  · rw [decide_eq_true c, show os n (f.getD (n + x) 0) = f.getD (n + x) 0 + n by unfold os; rw [if_pos c], decide_eq_true (by omega)]
  · rw [decide_eq_false c, show os n (f.getD (n + x) 0) = f.getD (n + x) 0 - n by unfold os; rw [if_neg c], decide_eq_false (by omega)]
theorem lse_cnt (f : List Nat) (n : Nat) : (lse f n).length = (List.range n).countP (lsC f n) := (List.countP_eq_length_filter ..).symm
/-- a call takes two strands if both people's lower ends are strands, else none -/
theorem lse_jn {f : List Nat} {n a b : Nat} (hf : IsPair (2 * n) f) (hab : a ≠ b) (ha : a < n) (hb : b < n) : (lse (jn f (n + a) (n + b)) n).length + (if (lsC f n a && lsC f n b) = true then 2 else 0) = (lse f n).length := by
  rw [lse_cnt, lse_cnt]
  have fa := hf.d (show n + a < 2 * n by omega)
  have fb := hf.d (show n + b < 2 * n by omega)
  by_cases hc : f.getD (n + a) 0 = n + b
  · rw [jn_same (hf.ofd (by omega) hc), if_neg, Nat.add_zero]
    unfold lsC
    rw [hc, decide_eq_false (show ¬ n + b < n by omega), Bool.false_and]
    decide
  · have G := jn_get hf (show n + a ≠ n + b by omega) fa.2.2.2 fb.2.2.2 hc
    have D : ∀ z, (jn f (n + a) (n + b)).getD z 0 = ((jn f (n + a) (n + b))[z]?).getD 0 := fun z => List.getD_eq_getElem?_getD
    obtain ⟨x1, x2, x3, x4, _⟩ := four hf (show n + a ≠ n + b by omega) fa.2.2.2 fb.2.2.2 hc
    have pa : lsC (jn f (n + a) (n + b)) n a = false := by
      unfold lsC; rw [D, G, if_pos rfl]; exact decide_eq_false (by show ¬ n + b < n; omega)
    have pb : lsC (jn f (n + a) (n + b)) n b = false := by
      unfold lsC; rw [D, G, if_neg (by omega), if_pos rfl]; exact decide_eq_false (by show ¬ n + a < n; omega)
    have same : ∀ y, y ≠ a → y ≠ b → n + y ≠ f.getD (n + a) 0 → n + y ≠ f.getD (n + b) 0 → lsC (jn f (n + a) (n + b)) n y = lsC f n y := fun y h1 h2 h3 h4 => by
      unfold lsC; rw [D, G, if_neg (by omega), if_neg (by omega), if_neg h3, if_neg h4, ← List.getD_eq_getElem?_getD]
    by_cases ca : f.getD (n + a) 0 < n
    · by_cases cb : f.getD (n + b) 0 < n
      · have qa : lsC f n a = true := decide_eq_true ca
        have qb : lsC f n b = true := decide_eq_true cb
        rw [qa, qb, Bool.and_true, if_pos rfl]
        have s1 := cnt_off (p := lsC f n) (q := fun y => if y = a then false else lsC f n y) (a := a) (n := n) (fun y _ h => if_neg h) ha qa (if_pos rfl)
        have s2 := cnt_off (p := fun y => if y = a then false else lsC f n y) (q := lsC (jn f (n + a) (n + b)) n) (a := b) (n := n) (fun y _ h => by
          by_cases e : y = a
          · rw [e, if_pos rfl]; exact pa
          · rw [if_neg e]; exact same y e h (by omega) (by omega)) hb (by rw [if_neg (Ne.symm hab)]; exact qb) pb
        omega
      · have qb : lsC f n b = false := decide_eq_false cb
        have qa : lsC f n a = true := decide_eq_true ca
        rw [qa, qb, if_neg (by decide), Nat.add_zero]
        -- the one at the other end of b's pair gets the strand
        have hv : f.getD (n + b) 0 - n < n := by omega
        have ev : n + (f.getD (n + b) 0 - n) = f.getD (n + b) 0 := by omega
        have qv : lsC f n (f.getD (n + b) 0 - n) = false := by unfold lsC; rw [ev, fb.2.2.1]; exact decide_eq_false (by omega)
        have pv : lsC (jn f (n + a) (n + b)) n (f.getD (n + b) 0 - n) = true := by
          unfold lsC; rw [ev, D, G, if_neg x3, if_neg x2, if_neg (Ne.symm x4), if_pos rfl]; exact decide_eq_true ca
        have s1 := cnt_off (p := lsC f n) (q := fun y => if y = a then false else lsC f n y) (a := a) (n := n) (fun y _ h => if_neg h) ha qa (if_pos rfl)
        have va : f.getD (n + b) 0 - n ≠ a := fun z => by rw [z, qa] at qv; cases qv
        have s2 := cnt_off (q := fun y => if y = a then false else lsC f n y) (p := lsC (jn f (n + a) (n + b)) n) (a := f.getD (n + b) 0 - n) (n := n) (fun y _ h => by
          by_cases e : y = a
          · rw [e, if_pos rfl]; exact pa.symm
          · rw [if_neg e]
            by_cases e2 : y = b
            · rw [e2, pb, qb]
            · exact (same y e e2 (by omega) (by omega)).symm) hv pv (by rw [if_neg va]; exact qv)
        omega
    · have qa : lsC f n a = false := decide_eq_false ca
      by_cases cb : f.getD (n + b) 0 < n
      · have qb : lsC f n b = true := decide_eq_true cb
        rw [qa, qb, if_neg (by decide), Nat.add_zero]
        have hv : f.getD (n + a) 0 - n < n := by omega
        have ev : n + (f.getD (n + a) 0 - n) = f.getD (n + a) 0 := by omega
        have qv : lsC f n (f.getD (n + a) 0 - n) = false := by unfold lsC; rw [ev, fa.2.2.1]; exact decide_eq_false (by omega)
        have pv : lsC (jn f (n + a) (n + b)) n (f.getD (n + a) 0 - n) = true := by
          unfold lsC; rw [ev, D, G, if_neg x1, if_neg hc, if_pos rfl]; exact decide_eq_true cb
        have s1 := cnt_off (p := lsC f n) (q := fun y => if y = b then false else lsC f n y) (a := b) (n := n) (fun y _ h => if_neg h) hb qb (if_pos rfl)
        have vb : f.getD (n + a) 0 - n ≠ b := fun z => by rw [z, qb] at qv; cases qv
        have s2 := cnt_off (q := fun y => if y = b then false else lsC f n y) (p := lsC (jn f (n + a) (n + b)) n) (a := f.getD (n + a) 0 - n) (n := n) (fun y _ h => by
          by_cases e : y = b
          · rw [e, if_pos rfl]; exact pb.symm
          · rw [if_neg e]
            by_cases e2 : y = a
            · rw [e2, pa, qa]
            · exact (same y e2 e (by omega) (by omega)).symm) hv pv (by rw [if_neg vb]; exact qv)
        omega
      · have qb : lsC f n b = false := decide_eq_false cb
        rw [qa, qb, if_neg (by decide), Nat.add_zero]
        refine cnt_same fun y hy => ?_
        by_cases e1 : y = a
        · rw [e1, pa, qa]
        · by_cases e2 : y = b
          · rw [e2, pb, qb]
          · by_cases e3 : n + y = f.getD (n + a) 0
            · have h1 : lsC f n y = false := by unfold lsC; rw [e3, fa.2.2.1]; exact decide_eq_false (by omega)
              have h2 : lsC (jn f (n + a) (n + b)) n y = false := by unfold lsC; rw [e3, D, G, if_neg x1, if_neg hc, if_pos rfl]; exact decide_eq_false cb
              rw [h1, h2]
            · by_cases e4 : n + y = f.getD (n + b) 0
              · have h1 : lsC f n y = false := by unfold lsC; rw [e4, fb.2.2.1]; exact decide_eq_false (by omega)
                have h2 : lsC (jn f (n + a) (n + b)) n y = false := by unfold lsC; rw [e4, D, G, if_neg x3, if_neg x2, if_neg (Ne.symm x4), if_pos rfl]; exact decide_eq_false ca
                rw [h1, h2]
              · exact same y e1 e2 e3 e4
/-! ### how many pairings -/
def dfac : Nat → Nat
  | 0 => 1
  | r + 1 => dfac r * (2 * r + 1)
theorem dfac_pos : ∀ r, 0 < dfac r
  | 0 => Nat.one_pos
  | r + 1 => Nat.mul_pos (dfac_pos r) (by omega)
theorem dfac_dvd (r : Nat) : ∀ k, dfac r ∣ dfac (r + k)
  | 0 => Nat.dvd_refl _
  | k + 1 => Nat.dvd_trans (dfac_dvd r k) ⟨2 * (r + k) + 1, rfl⟩
end Pc
namespace Pc
open PySem PySem.Spec PyProof.Rows L2 RZ
theorem in_nat (i : Nat) (l : List Nat) : inV (.int (i : Int)) (nv l) = decide (i ∈ l) := by
  unfold inV nv
  rw [List.any_map, Bool.eq_iff_iff, List.any_eq_true, decide_eq_true_iff]
  constructor
  · rintro ⟨x, hx, e⟩
    have e' : eqV (.int (x : Int)) (.int (i : Int)) = true := e
    have : (x : Int) = (i : Int) := by simpa [eqV] using e'
    have : x = i := by omega
    exact this ▸ hx
  · intro h
    exact ⟨i, h, by show eqV (.int (i : Int)) (.int (i : Int)) = true; simp [eqV]⟩
theorem flat_nat (l : List Nat) : (nv l).all flatV = true := by
  unfold nv
  rw [List.all_map, List.all_eq_true]
  exact fun x _ => rfl
theorem mem_data {ps : List (Nat × Nat)} {p : Nat × Nat} (h : p ∈ ps) : ((ps.map pd).any fun z => PyData.eqv z (pd p)) = true := by
  rw [List.any_eq_true]
  exact ⟨pd p, List.mem_map.mpr ⟨p, h, rfl⟩, PySem.SeqAt.eqv_refl _ rfl⟩
/-! ### a call and the pairs of a sheet -/
theorem los_jn {f : List Nat} {n a b : Nat} (hf : IsPair (2 * n) f) (hab : a < b) (hb : b < n) : (a, b) ∈ los (jn f (n + a) (n + b)) n := by
  have e : (jn f (n + a) (n + b)).getD (n + a) 0 = n + b := by
    have fa := hf.d (show n + a < 2 * n by omega)
    have fb := hf.d (show n + b < 2 * n by omega)
    by_cases hc : f.getD (n + a) 0 = n + b
    · rw [jn_same (hf.ofd (by omega) hc), hc]
    · exact getD_of (by rw [jn_get hf (by omega) fa.2.2.2 fb.2.2.2 hc, if_pos rfl])
  refine selN_mem.mpr ⟨a, by omega, ?_, ?_⟩
  · unfold loC; rw [e]; exact decide_eq_true (by omega)
  · unfold loG; rw [e, Nat.add_sub_cancel_left]
theorem ups_jn {f : List Nat} {n a b : Nat} (hf : IsPair (2 * n) f) (hab : a < b) (hb : b < n) {p : Nat × Nat} (hp : p ∈ ups f n) : p ∈ ups (jn f (n + a) (n + b)) n := by
  obtain ⟨x, hx, c, e⟩ := selN_mem.mp hp
  unfold upC at c
  rw [Bool.and_eq_true, decide_eq_true_iff, decide_eq_true_iff] at c
  have fa := hf.d (show n + a < 2 * n by omega)
  have fb := hf.d (show n + b < 2 * n by omega)
  have fx := hf.d (show x < 2 * n by omega)
  have e2 : (jn f (n + a) (n + b)).getD x 0 = f.getD x 0 := by
    by_cases hc : f.getD (n + a) 0 = n + b
    · rw [jn_same (hf.ofd (by omega) hc)]
    · refine getD_of ?_
      rw [jn_get hf (by omega) fa.2.2.2 fb.2.2.2 hc, if_neg (by omega), if_neg (by omega), if_neg (fun z => by rw [z, fa.2.2.1] at c; omega), if_neg (fun z => by rw [z, fb.2.2.1] at c; omega)]
      exact fx.2.2.2
  refine selN_mem.mpr ⟨x, hx, ?_, ?_⟩
  · unfold upC; rw [e2, decide_eq_true c.1, decide_eq_true c.2]; rfl
  · rw [← e]; unfold upG; rw [e2]
theorem low_lows {f : List Nat} {n y : Nat} (hf : IsPair (2 * n) f) (hy : y < n) : decide (y ∈ (sts f n).map Prod.snd) = lsC f n y := by
  have fy := hf.d (show n + y < 2 * n by omega)
  unfold lsC
  rw [decide_eq_decide]
  constructor
  · intro h
    obtain ⟨p, hp, e⟩ := List.mem_map.mp h
    obtain ⟨h1, h2, h3⟩ := sts_mem hf hp
    have := (hf.back h1).1
    rw [e] at this
    rw [getD_of this]; exact h2
  · intro h
    refine List.mem_map.mpr ⟨(f.getD (n + y) 0, y), ?_, rfl⟩
    refine selN_mem.mpr ⟨f.getD (n + y) 0, h, ?_, ?_⟩
    · unfold stC; rw [fy.2.2.1]; exact decide_eq_true (by omega)
    · unfold stG; rw [fy.2.2.1, Nat.add_sub_cancel_left]
theorem rd_los {f ps : List Nat} {n : Nat} (hf : IsPair (2 * n) f) {p : Nat × Nat} (hp : p ∈ los f n) : (rd f ps n)[p.1]? = some p.2 := by
  obtain ⟨h1, h2, h3⟩ := los_mem hf hp
  have e := getD_of h1
  have t := Trail.stop (fs := f) (ps := ps) (n := n) (z := n + p.1) (by rw [e]; omega)
  rw [rd_get f ps (by omega), far_is t, e]
  show some (n + p.2 - n) = _
  rw [Nat.add_sub_cancel_left]
theorem jn_idem {n : Nat} {fs : List Nat} (hP : IsPair n fs) {a b : Nat} (hab : a ≠ b) (ha : a < n) (hb : b < n) : jn (jn fs a b) a b = jn fs a b := by
  have fa := hP.d ha
  have fb := hP.d hb
  refine jn_same ?_
  by_cases hc : fs.getD a 0 = b
  · rw [jn_same (hP.ofd ha hc)]; exact hP.ofd ha hc
  · rw [jn_get hP hab fa.2.2.2 fb.2.2.2 hc, if_pos rfl]
end Pc
namespace Pc
/-! ### words that settle -/
def sw : List Nat → List (Nat × Nat)
  | a :: b :: c :: r => (a, b) :: sw (c :: r)
  | _ => []
theorem sw_eq : ∀ l : List Nat, sw l = (List.range ((l.length - 1) / 2)).map fun i => (l.getD (2 * i) 0, l.getD (2 * i + 1) 0)
  | [] => rfl
  | [_] => by simp [sw]
  | [_, _] => by simp [sw]
  | a :: b :: c :: r => by
    show (a, b) :: sw (c :: r) = _
    rw [sw_eq (c :: r)]
    have e : ((a :: b :: c :: r).length - 1) / 2 = ((c :: r).length - 1) / 2 + 1 := by simp only [List.length_cons]; omega
    rw [e, List.range_succ_eq_map, List.map_cons, List.map_map]
    rfl
theorem sw_len (l : List Nat) : (sw l).length = (l.length - 1) / 2 := by rw [sw_eq, List.length_map, List.length_range]
theorem lse_two {f : List Nat} {n a b : Nat} (hf : IsPair (2 * n) f) (hab : a ≠ b) (ha : a < n) (hb : b < n) (qa : lsC f n a = true) (qb : lsC f n b = true) : lse (jn f (n + a) (n + b)) n = (lse f n).filter (fun y => !decide (y = a) && !decide (y = b)) := by
  have fa := hf.d (show n + a < 2 * n by omega)
  have fb := hf.d (show n + b < 2 * n by omega)
  have ca : f.getD (n + a) 0 < n := of_decide_eq_true qa
  have cb : f.getD (n + b) 0 < n := of_decide_eq_true qb
  have hc : f.getD (n + a) 0 ≠ n + b := by omega
  have G := jn_get hf (show n + a ≠ n + b by omega) fa.2.2.2 fb.2.2.2 hc
  have D : ∀ z, (jn f (n + a) (n + b)).getD z 0 = ((jn f (n + a) (n + b))[z]?).getD 0 := fun z => List.getD_eq_getElem?_getD
  unfold lse
  rw [List.filter_filter]
  refine List.filter_congr fun y _ => ?_
  unfold lsC
  rw [D, G]
  by_cases e1 : y = a
  · rw [if_pos (by omega), decide_eq_true e1]
    show decide (n + b < n) = _
    rw [decide_eq_false (by omega)]; rfl
  · by_cases e2 : y = b
    · rw [if_neg (by omega), if_pos (by omega), decide_eq_true e2]
      show decide (n + a < n) = _
      rw [decide_eq_false (by omega), Bool.not_true, Bool.and_false]; rfl
    · rw [if_neg (by omega), if_neg (by omega), if_neg (by omega), if_neg (by omega), ← List.getD_eq_getElem?_getD, decide_eq_false e1, decide_eq_false e2]
      simp
theorem lse_nodup (f : List Nat) (n : Nat) : (lse f n).Nodup := List.nodup_range.filter _
theorem lse_mem {f : List Nat} {n y : Nat} : y ∈ lse f n ↔ y < n ∧ lsC f n y = true := by
  unfold lse; rw [List.mem_filter, List.mem_range]
theorem settle_end {n : Nat} : ∀ (l : List Nat) {f : List Nat}, IsPair (2 * n) f → lse f n = l → (lse (shw n (sw l) f) n).length ≤ 2 ∧ IsPair (2 * n) (shw n (sw l) f)
  | [], f, hf, h => by
    show (lse f n).length ≤ 2 ∧ IsPair (2 * n) f
    rw [h]; exact ⟨by decide, hf⟩
  | [_], f, hf, h => by
    show (lse f n).length ≤ 2 ∧ IsPair (2 * n) f
    rw [h]; exact ⟨by simp, hf⟩
  | [_, _], f, hf, h => by
    show (lse f n).length ≤ 2 ∧ IsPair (2 * n) f
    rw [h]; exact ⟨by simp, hf⟩
  | a :: b :: c :: r, f, hf, h => by
    have hnd := lse_nodup f n
    rw [h] at hnd
    obtain ⟨n1, hnd2⟩ := List.nodup_cons.mp hnd
    obtain ⟨n2, _⟩ := List.nodup_cons.mp hnd2
    have ma := lse_mem.mp (show a ∈ lse f n by rw [h]; exact List.mem_cons_self)
    have mb := lse_mem.mp (show b ∈ lse f n by rw [h]; exact List.mem_cons_of_mem _ List.mem_cons_self)
    have hab : a ≠ b := fun e => n1 (e ▸ List.mem_cons_self)
    have hj : IsPair (2 * n) (jn f (n + a) (n + b)) := jn_pair hf (by omega) (by omega) (by omega)
    have e : lse (jn f (n + a) (n + b)) n = c :: r := by
      rw [lse_two hf hab ma.1 mb.1 ma.2 mb.2, h, List.filter_cons_of_neg (by simp), List.filter_cons_of_neg (by simp)]
      refine List.filter_eq_self.mpr fun y hy => ?_
      have y1 : y ≠ a := fun z => n1 (z ▸ List.mem_cons_of_mem _ hy)
      have y2 : y ≠ b := fun z => n2 (z ▸ hy)
      rw [decide_eq_false y1, decide_eq_false y2]; rfl
    exact settle_end (c :: r) hj e
theorem sw_calls {n : Nat} {f : List Nat} : ∀ (l : List Nat), l.Pairwise (· < ·) → (∀ x ∈ l, x < n) → Calls n (sw l)
  | [], _, _ => fun q hq => by simp [sw] at hq
  | [_], _, _ => fun q hq => by simp [sw] at hq
  | [_, _], _, _ => fun q hq => by simp [sw] at hq
  | a :: b :: c :: r, hp, hl => fun q hq => by
    rcases List.mem_cons.mp (show q ∈ (a, b) :: sw (c :: r) from hq) with z | z
    · rw [z]
      exact ⟨(List.pairwise_cons.mp hp).1 b List.mem_cons_self, hl b (List.mem_cons_of_mem _ List.mem_cons_self)⟩
    · exact sw_calls (f := f) (c :: r) (List.pairwise_cons.mp (List.pairwise_cons.mp hp).2).2 (fun x hx => hl x (List.mem_cons_of_mem _ (List.mem_cons_of_mem _ hx))) q z
theorem lse_asc (f : List Nat) (n : Nat) : (lse f n).Pairwise (· < ·) := List.pairwise_lt_range.filter _
theorem word_calls (f : List Nat) (n : Nat) : Calls n (sw (lse f n)) := sw_calls (f := f) _ (lse_asc f n) fun x hx => (lse_mem.mp hx).1
/-- who is loose has somebody who is loose -/
theorem rd_loose {f ps : List Nat} {n x : Nat} (hf : IsPair (2 * n) f) (hP : IsPair n ps) (hx : x ∈ lse f n) : (rd f ps n).getD x 0 ∈ lse f n ∧ (rd f ps n).getD x 0 ≠ x := by
  obtain ⟨hxn, hc⟩ := lse_mem.mp hx
  have hR := rd_pair hf hP
  have rx := hR.d hxn
  refine ⟨lse_mem.mpr ⟨rx.1, ?_⟩, rx.2.1⟩
  cases q : lsC f n ((rd f ps n).getD x 0) with
  | true => rfl
  | false =>
    have c : n ≤ f.getD (n + (rd f ps n).getD x 0) 0 := by
      have := of_decide_eq_false q
      omega
    have t := Trail.stop (fs := f) (ps := ps) (n := n) (z := n + (rd f ps n).getD x 0) c
    have e1 : (rd f ps n).getD ((rd f ps n).getD x 0) 0 = f.getD (n + (rd f ps n).getD x 0) 0 - n := by
      refine getD_of ?_
      rw [rd_get f ps rx.1, far_is t]; rfl
    rw [rx.2.2.1] at e1
    have fy := hf.d (show n + (rd f ps n).getD x 0 < 2 * n by omega)
    have e2 : f.getD (n + (rd f ps n).getD x 0) 0 = n + x := by omega
    have e3 := fy.2.2.1
    rw [e2] at e3
    have := of_decide_eq_true hc
    omega
theorem two_same {l : List Nat} (hl : l.length ≤ 2) {x y z : Nat} (hx : x ∈ l) (hy : y ∈ l) (hz : z ∈ l) (h1 : y ≠ x) (h2 : z ≠ x) : y = z := by
  match l, hl with
  | [], _ => simp at hx
  | [u], _ =>
    rw [List.mem_singleton] at hx hy
    exact absurd (hy.trans hx.symm) h1
  | [u, v], _ =>
    simp only [List.mem_cons, List.not_mem_nil, or_false] at hx hy hz
    omega
/-- with two strands at most there is only one result -/
theorem rd_settled {f ps qs : List Nat} {n : Nat} (hf : IsPair (2 * n) f) (hP : IsPair n ps) (hQ : IsPair n qs) (hl : (lse f n).length ≤ 2) : rd f ps n = rd f qs n := by
  refine list_d (by rw [rd_len, rd_len]) fun x hx => ?_
  rw [rd_len] at hx
  by_cases c : lsC f n x = true
  · have hm := lse_mem.mpr ⟨hx, c⟩
    exact two_same hl hm (rd_loose hf hP hm).1 (rd_loose hf hQ hm).1 (rd_loose hf hP hm).2 (rd_loose hf hQ hm).2
  · have c' : n ≤ f.getD (n + x) 0 := by
      apply Classical.byContradiction
      intro h
      exact c (decide_eq_true (by omega))
    have t1 := Trail.stop (fs := f) (ps := ps) (n := n) (z := n + x) c'
    have t2 := Trail.stop (fs := f) (ps := qs) (n := n) (z := n + x) c'
    rw [List.getD_eq_getElem?_getD, List.getD_eq_getElem?_getD, rd_get f ps hx, rd_get f qs hx, far_is t1, far_is t2]
/-- the word of a sheet leads everybody to the same -/
theorem word_settles {f ps qs : List Nat} {n : Nat} (hf : IsPair (2 * n) f) (hP : IsPair n ps) (hQ : IsPair n qs) : runs (sw (lse f n)) (rd f ps n) = runs (sw (lse f n)) (rd f qs n) := by
  obtain ⟨h1, h2⟩ := settle_end (lse f n) hf rfl
  rw [← rd_runs hP _ hf (word_calls f n), ← rd_runs hQ _ hf (word_calls f n)]
  exact rd_settled h2 hP hQ h1
/-- calls of couples make these couples -/
theorem runs_keep {n : Nat} {ps : List Nat} (hP : IsPair n ps) : ∀ (cs : List (Nat × Nat)) {R : List Nat}, IsPair n R → (∀ p ∈ cs, ps[p.1]? = some p.2 ∧ p.1 < p.2) → ∀ x y, ps[x]? = some y → (R.getD x 0 = y ∨ (x, y) ∈ cs ∨ (y, x) ∈ cs) → (runs cs R).getD x 0 = y
  | [], R, _, _, x, y, _, h => by
    rcases h with h | h | h
    · exact h
    · simp at h
    · simp at h
  | (a, b) :: cs, R, hR, hc, x, y, hxy, h => by
    have hab := hc (a, b) List.mem_cons_self
    have h1 : ps[a]? = some b := hab.1
    have hlt : a < b := hab.2
    obtain ⟨b1, b2, b3, b4⟩ := hP.back h1
    have Ra := hR.d b3
    have Rb := hR.d b2
    have hj : IsPair n (jn R a b) := jn_pair hR (by omega) b3 b2
    obtain ⟨x1, x2, x3, x4⟩ := hP.back hxy
    refine runs_keep hP cs (R := jn R a b) hj (fun p hp => hc p (List.mem_cons_of_mem _ hp)) x y hxy ?_
    have ja : (jn R a b).getD a 0 = b ∧ (jn R a b).getD b 0 = a := by
      by_cases c : R.getD a 0 = b
      · rw [jn_same (hR.ofd b3 c)]
        exact ⟨c, by have := Ra.2.2.1; rw [c] at this; exact this⟩
      · have G := jn_get hR (show a ≠ b by omega) Ra.2.2.2 Rb.2.2.2 c
        exact ⟨getD_of (by rw [G, if_pos rfl]), getD_of (by rw [G, if_neg (by omega), if_pos rfl])⟩
    rcases h with h | h | h
    · refine .inl ?_
      by_cases c : R.getD a 0 = b
      · rw [jn_same (hR.ofd b3 c)]; exact h
      · have G := jn_get hR (show a ≠ b by omega) Ra.2.2.2 Rb.2.2.2 c
        have xa : x ≠ a := fun e => by subst e; rw [h1] at hxy; rw [← Option.some.inj hxy] at h; exact c h
        have xb : x ≠ b := fun e => by
          subst e
          rw [b1] at hxy
          rw [← Option.some.inj hxy] at h
          have := Rb.2.2.1
          rw [h] at this; exact c this
        have xc : x ≠ R.getD a 0 := fun e => by
          have : R.getD x 0 = a := by rw [e]; exact Ra.2.2.1
          rw [h] at this
          rw [this, h1] at x1
          exact xb (Option.some.inj x1).symm
        have xd : x ≠ R.getD b 0 := fun e => by
          have : R.getD x 0 = b := by rw [e]; exact Rb.2.2.1
          rw [h] at this
          rw [this, b1] at x1
          exact xa (Option.some.inj x1).symm
        refine getD_of ?_
        rw [G, if_neg xa, if_neg xb, if_neg xc, if_neg xd]
        exact hR.ofd x3 h
    · rcases List.mem_cons.mp h with z | z
      · injection z with z1 z2
        subst z1 z2
        exact .inl ja.1
      · exact .inr (.inl z)
    · rcases List.mem_cons.mp h with z | z
      · injection z with z1 z2
        subst z1 z2
        exact .inl ja.2
      · exact .inr (.inr z)
theorem in_drop {α : Type} {l : List α} {p : α} (h : p ∈ l) : p ∈ l.dropLast ∨ ∃ hn : l ≠ [], p = l.getLast hn := by
  have hn : l ≠ [] := fun e => by rw [e] at h; simp at h
  rw [← List.dropLast_concat_getLast hn] at h
  rcases List.mem_append.mp h with z | z
  · exact .inl z
  · exact .inr ⟨hn, List.mem_singleton.mp z⟩
/-- the couples but the last lead everybody there -/
theorem cpl_runs {n : Nat} {ps q0 : List Nat} (hP : IsPair n ps) (hQ : IsPair n q0) : runs (cpl ps).dropLast q0 = ps := by
  have hc : ∀ p ∈ (cpl ps).dropLast, ps[p.1]? = some p.2 ∧ p.1 < p.2 := fun p hp => (mem_cpl hP).mp (List.dropLast_subset _ hp)
  have hcalls : Calls n (cpl ps).dropLast := fun p hp => by
    have := hc p hp
    exact ⟨this.2, (hP.back this.1).2.1⟩
  have hR := runs_pair _ hQ hcalls
  have good : ∀ {x : Nat}, x < n → ∀ {p : Nat × Nat}, p ∈ (cpl ps).dropLast → (p.1 = x ∨ p.2 = x) → (runs (cpl ps).dropLast q0).getD x 0 = ps.getD x 0 := fun {x} hx {p} hp e => by
    have px := hP.d hx
    have pp := hc p hp
    refine runs_keep hP _ hQ hc x _ px.2.2.2 (.inr ?_)
    rcases e with e | e
    · left
      have : ps.getD x 0 = p.2 := by rw [← e]; exact getD_of pp.1
      rw [this, ← e]; exact hp
    · right
      have : ps.getD x 0 = p.1 := by rw [← e]; exact getD_of (hP.back pp.1).1
      rw [this, ← e]; exact hp
  refine list_d (by rw [hR.len, hP.len]) fun x hx => ?_
  rw [hR.len] at hx
  obtain ⟨p, hp, ep⟩ := cpl_cover hP hx
  rcases in_drop hp with z | ⟨hn, z⟩
  · exact good hx z ep
  · have rx := hR.d hx
    have px := hP.d hx
    obtain ⟨p', hp', ep'⟩ := cpl_cover hP rx.1
    rcases in_drop hp' with z' | ⟨hn', z'⟩
    · have g := good rx.1 z' ep'
      rw [rx.2.2.1] at g
      have := (hP.d rx.1).2.2.1
      rw [← g] at this
      exact this.symm
    · have e : p' = p := z'.trans z.symm
      subst e
      have pp := (mem_cpl hP).mp hp
      have g1 := getD_of pp.1
      have g2 := getD_of (hP.back pp.1).1
      rcases ep with e | e
      · rw [← e, g1]
        rcases ep' with e' | e'
        · exact absurd (e'.symm.trans e).symm (fun w => rx.2.1 w.symm)
        · rw [← e] at e'; exact e'.symm
      · rw [← e, g2]
        rcases ep' with e' | e'
        · rw [← e] at e'; exact e'.symm
        · exact absurd (e'.symm.trans e).symm (fun w => rx.2.1 w.symm)
end Pc
namespace Pc
open PySem PySem.Spec PyProof.Rows L2 RZ
theorem cut_k (vs : List V) (i : Nat) : cutV vs none (some (i : Int)) = vs.take i := by
  unfold cutV
  rw [HT.sIx_none, HT.sIx_nat, List.drop_zero, Nat.sub_zero]
  by_cases h : i ≤ vs.length
  · rw [Nat.min_eq_left h]
  · rw [Nat.min_eq_right (by omega), List.take_of_length_le (Nat.le_refl _), List.take_of_length_le (by omega)]
end Pc
namespace Pc
open PySem PySem.Spec PyProof.Rows L2 RZ
/-! ### pairs that have everybody once make a pairing -/
def prt (qs : List (Nat × Nat)) (z : Nat) : Nat := match qs.find? (fun p => decide (p.1 = z) || decide (p.2 = z)) with
  | some p => if p.1 = z then p.2 else p.1
  | none => 0
def mkp (qs : List (Nat × Nat)) : List Nat := (List.range (2 * qs.length)).map (prt qs)
theorem mkp_len (qs : List (Nat × Nat)) : (mkp qs).length = 2 * qs.length := by unfold mkp; rw [List.length_map, List.length_range]
theorem mkp_get {qs : List (Nat × Nat)} {z : Nat} (h : z < 2 * qs.length) : (mkp qs)[z]? = some (prt qs z) := by unfold mkp; rw [List.getElem?_map, List.getElem?_range h]; rfl
theorem prt_of : ∀ {qs : List (Nat × Nat)}, (flat qs).Nodup → ∀ {p : Nat × Nat}, p ∈ qs → prt qs p.1 = p.2 ∧ prt qs p.2 = p.1
  | [], _, _, h => absurd h List.not_mem_nil
  | q :: qs, hn, p, h => by
    have hn' : (q.1 :: q.2 :: flat qs).Nodup := hn
    rw [List.nodup_cons, List.nodup_cons] at hn'
    obtain ⟨n1, n2, n3⟩ := hn'
    have n12 : q.1 ≠ q.2 := fun e => n1 (by rw [e]; exact List.mem_cons_self)
    have m1 : q.1 ∉ flat qs := fun e => n1 (List.mem_cons_of_mem _ e)
    rcases List.mem_cons.mp h with e | h'
    · subst e
      unfold prt
      rw [List.find?_cons_of_pos (by simp), List.find?_cons_of_pos (by simp)]
      exact ⟨if_pos rfl, if_neg n12⟩
    · have a1 : p.1 ∈ flat qs := flat_mem.mpr ⟨p, h', .inl rfl⟩
      have a2 : p.2 ∈ flat qs := flat_mem.mpr ⟨p, h', .inr rfl⟩
      have c : ∀ z, z ∈ flat qs → prt (q :: qs) z = prt qs z := fun z hz => by
        unfold prt
        rw [List.find?_cons_of_neg]
        intro e
        rw [Bool.or_eq_true, decide_eq_true_eq, decide_eq_true_eq] at e
        rcases e with e | e
        · exact m1 (by rw [e]; exact hz)
        · exact n2 (by rw [e]; exact hz)
      rw [c _ a1, c _ a2]
      exact prt_of n3 h'
theorem makes_mkp {qs : List (Nat × Nat)} (h : (flat qs).Perm (List.range (2 * qs.length))) : Makes qs (mkp qs) where
  half := (mkp_len qs).symm
  ok p hp := by
    have hn : (flat qs).Nodup := h.nodup_iff.mpr List.nodup_range
    have l1 : p.1 < 2 * qs.length := List.mem_range.mp (h.mem_iff.mp (flat_mem.mpr ⟨p, hp, .inl rfl⟩))
    have l2 : p.2 < 2 * qs.length := List.mem_range.mp (h.mem_iff.mp (flat_mem.mpr ⟨p, hp, .inr rfl⟩))
    rw [mkp_get l1, mkp_get l2, (prt_of hn hp).1, (prt_of hn hp).2]
    exact ⟨rfl, rfl⟩
  all z hz := by
    rw [mkp_len] at hz
    obtain ⟨p, hp, e⟩ := flat_mem.mp (h.mem_iff.mpr (List.mem_range.mpr hz))
    exact ⟨p, hp, e.imp Eq.symm Eq.symm⟩
theorem flat_ne {qs : List (Nat × Nat)} (h : (flat qs).Nodup) {p : Nat × Nat} (hp : p ∈ qs) : p.1 ≠ p.2 := by
  induction qs with
  | nil => exact absurd hp List.not_mem_nil
  | cons q r ih =>
    have hn' : (q.1 :: q.2 :: flat r).Nodup := h
    rw [List.nodup_cons, List.nodup_cons] at hn'
    rcases List.mem_cons.mp hp with e | e
    · subst e; exact fun e => hn'.1 (by rw [e]; exact List.mem_cons_self)
    · exact ih hn'.2.2 e
theorem Makes.pair {qs : List (Nat × Nat)} {ps : List Nat} (m : Makes qs ps) (h : ∀ p ∈ qs, p.1 ≠ p.2) : IsPair ps.length ps where
  len := rfl
  par x hx := by
    obtain ⟨p, hp, e⟩ := m.all x hx
    obtain ⟨o1, o2⟩ := m.ok p hp
    have ne := h p hp
    rcases e with e | e
    · subst e; exact ⟨p.2, o1, get_lt o2, fun z => ne z.symm, o2⟩
    · subst e; exact ⟨p.1, o2, get_lt o1, ne, o1⟩
theorem mkp_pair {qs : List (Nat × Nat)} (h : (flat qs).Perm (List.range (2 * qs.length))) : IsPair (2 * qs.length) (mkp qs) := by
  have := (makes_mkp h).pair fun p hp => flat_ne (h.nodup_iff.mpr List.nodup_range) hp
  rw [mkp_len] at this
  exact this
/-- what the same pairs make is one -/
theorem Makes.one {qs : List (Nat × Nat)} {ps rs : List Nat} (m : Makes qs ps) (k : Makes qs rs) : ps = rs := by
  have hl : ps.length = rs.length := by rw [← m.half, k.half]
  refine List.ext_getElem? fun z => ?_
  by_cases hz : z < ps.length
  · obtain ⟨p, hp, e⟩ := m.all z hz
    rcases e with e | e
    · rw [← e, (m.ok p hp).1, (k.ok p hp).1]
    · rw [← e, (m.ok p hp).2, (k.ok p hp).2]
  · rw [List.getElem?_eq_none (by omega), List.getElem?_eq_none (by omega)]
/-! ### the pairing with a number -/
def una : Nat → List Nat → Nat → List (Nat × Nat)
  | 0, _, _ => []
  | j + 1, l, k => (l.getD 0 0, l.tail.getD (k / dfac j) 0) :: una j (l.tail.eraseIdx (k / dfac j)) (k % dfac j)
theorem una_len : ∀ (j : Nat) (l : List Nat) (k : Nat), (una j l k).length = j
  | 0, _, _ => rfl
  | j + 1, l, k => by
    show (una j _ _).length + 1 = j + 1
    rw [una_len j]
theorem choice_lt {j k : Nat} (h : k < dfac (j + 1)) : k / dfac j < 2 * j + 1 := by
  rw [Nat.div_lt_iff_lt_mul (dfac_pos j), Nat.mul_comm]
  exact h
theorem flat_una : ∀ (j : Nat) {l : List Nat} {k : Nat}, l.length = 2 * j → k < dfac j → (flat (una j l k)).Perm l
  | 0, l, k, hl, _ => by
    have : l = [] := List.length_eq_zero_iff.mp (by omega)
    subst this
    exact List.Perm.refl _
  | j + 1, [], k, hl, _ => by simp at hl
  | j + 1, x :: t, k, hl, hk => by
    have ht : t.length = 2 * j + 1 := by rw [List.length_cons] at hl; omega
    have hc := choice_lt hk
    have e : t.getD (k / dfac j) 0 = t[k / dfac j]'(by omega) := by rw [List.getD_eq_getElem?_getD, List.getElem?_eq_getElem (by omega)]; rfl
    show (x :: t.getD (k / dfac j) 0 :: flat (una j (t.eraseIdx (k / dfac j)) (k % dfac j))).Perm (x :: t)
    rw [e]
    refine List.Perm.cons x (((flat_una j (by rw [List.length_eraseIdx, if_pos (by omega)]; omega) (Nat.mod_lt _ (dfac_pos j))).cons _).trans (perm_erase (by omega)))
def pat (r k : Nat) : List Nat := mkp (una r (List.range (2 * r)) k)
theorem una_flat {r k : Nat} (hk : k < dfac r) : (flat (una r (List.range (2 * r)) k)).Perm (List.range (2 * (una r (List.range (2 * r)) k).length)) := by
  rw [una_len]
  exact flat_una r (by rw [List.length_range]) hk
theorem pat_pair {r k : Nat} (hk : k < dfac r) : IsPair (2 * r) (pat r k) := by
  have := mkp_pair (una_flat hk)
  rw [una_len] at this
  exact this
theorem pat_makes {r k : Nat} (hk : k < dfac r) : Makes (una r (List.range (2 * r)) k) (pat r k) := makes_mkp (una_flat hk)
end Pc
namespace Pc
open PySem PySem.Spec PyProof.Rows L2 RZ
/-! ### results by number -/
theorem lse_le (f : List Nat) (n : Nat) : (lse f n).length ≤ n := Nat.le_trans (List.length_filter_le _ _) (by rw [List.length_range]; exact Nat.le_refl _)
theorem los_in {f : List Nat} {n x y : Nat} (hf : IsPair (2 * n) f) (hx : x < n) (e : f.getD (n + x) 0 = n + y) (hxy : x < y) : (x, y) ∈ los f n := by
  unfold los
  rw [selN_mem]
  refine ⟨x, hx, ?_, ?_⟩
  · unfold loC; rw [e]; exact decide_eq_true (by omega)
  · unfold loG; rw [e]; congr 1; omega
theorem flat_shift (n : Nat) : ∀ qs : List (Nat × Nat), flat (qs.map fun p => (n + p.1, n + p.2)) = (flat qs).map (n + ·)
  | [] => rfl
  | p :: r => by
    show (n + p.1) :: (n + p.2) :: flat (r.map fun p => (n + p.1, n + p.2)) = _
    rw [flat_shift n r]; rfl
theorem nodup_of_map {α β : Type} (g : α → β) : ∀ {l : List α}, (l.map g).Nodup → l.Nodup
  | [], _ => List.nodup_nil
  | x :: r, h => by
    have h' : (g x :: r.map g).Nodup := h
    rw [List.nodup_cons] at h'
    exact List.nodup_cons.mpr ⟨fun m => h'.1 (List.mem_map.mpr ⟨x, m, rfl⟩), nodup_of_map g h'.2⟩
theorem nodup_map {α β : Type} {g : α → β} (inj : ∀ a b, g a = g b → a = b) : ∀ {l : List α}, l.Nodup → (l.map g).Nodup
  | [], _ => List.nodup_nil
  | x :: r, h => by
    rw [List.nodup_cons] at h
    refine List.nodup_cons.mpr ⟨fun m => ?_, nodup_map inj h.2⟩
    obtain ⟨y, hy, e⟩ := List.mem_map.mp m
    rw [inj _ _ e] at hy
    exact h.1 hy
theorem los_perm {f : List Nat} {n : Nat} (hf : IsPair (2 * n) f) : (flat (los f n) ++ lse f n).Perm (List.range n) := by
  have hlo : ∀ {z : Nat}, z ∈ flat (los f n) → z < n ∧ n ≤ f.getD (n + z) 0 := fun {z} hz => by
    obtain ⟨p, hp, e⟩ := flat_mem.mp hz
    obtain ⟨e1, e2, e3⟩ := los_mem hf hp
    rcases e with e | e
    · subst e; rw [getD_of e1]; omega
    · subst e; rw [getD_of (hf.back e1).1]; omega
  have nd1 : (flat (los f n)).Nodup := by
    refine nodup_of_map (n + ·) ?_
    rw [← flat_shift]
    refine flat_nodup hf (fun p hp => ?_) ?_
    · obtain ⟨q, hq, e⟩ := List.mem_map.mp hp
      obtain ⟨e1, e2, _⟩ := los_mem hf hq
      rw [← e]
      exact ⟨e1, by show n + q.1 < n + q.2; omega⟩
    · rw [List.map_map]
      have : ((los f n).map Prod.fst).Nodup := by
        unfold los
        rw [sel_fst (g := loG f n) (fun x => rfl)]
        exact List.nodup_range.filter _
      have e : (los f n).map (Prod.fst ∘ fun p => (n + p.1, n + p.2)) = ((los f n).map Prod.fst).map (n + ·) := by rw [List.map_map]; rfl
      rw [e]
      exact nodup_map (fun a b (h : n + a = n + b) => by omega) this
  refine (List.perm_ext_iff_of_nodup (List.nodup_append.mpr ⟨nd1, lse_nodup f n, fun a ha b hb e => ?_⟩) List.nodup_range).mpr fun z => ?_
  · subst e
    have h1 := (hlo ha).2
    have h2 := of_decide_eq_true (lse_mem.mp hb).2
    omega
  · rw [List.mem_append, List.mem_range]
    constructor
    · rintro (h | h)
      · exact (hlo h).1
      · exact (lse_mem.mp h).1
    · intro hz
      have d := hf.d (show n + z < 2 * n by omega)
      by_cases c : f.getD (n + z) 0 < n
      · exact .inr (lse_mem.mpr ⟨hz, decide_eq_true c⟩)
      · refine .inl (flat_mem.mpr ?_)
        obtain ⟨y, ey⟩ : ∃ y, f.getD (n + z) 0 = n + y := ⟨f.getD (n + z) 0 - n, by omega⟩
        rw [ey] at d
        by_cases c2 : z < y
        · exact ⟨_, los_in hf hz ey c2, .inl rfl⟩
        · exact ⟨_, los_in hf (show y < n by omega) d.2.2.1 (by omega), .inr rfl⟩
theorem cpl_flat {n : Nat} {ps : List Nat} (h : IsPair n ps) : (flat (cpl ps)).Perm (List.range n) := by
  have nd : ((cpl ps).map Prod.fst).Nodup := by
    unfold cpl cplN
    rw [List.map_map]
    have : (Prod.fst ∘ fun x => (x, ps.getD x 0)) = (id : Nat → Nat) := rfl
    rw [this, List.map_id]
    exact List.nodup_range.filter _
  refine (List.perm_ext_iff_of_nodup (flat_nodup h (fun p hp => (mem_cpl h).mp hp) nd) List.nodup_range).mpr fun z => ?_
  rw [flat_mem, List.mem_range]
  constructor
  · rintro ⟨p, hp, e⟩
    obtain ⟨b1, b2, b3, _⟩ := h.back ((mem_cpl h).mp hp).1
    rcases e with e | e <;> omega
  · intro hz
    obtain ⟨p, hp, e⟩ := cpl_cover h hz
    exact ⟨p, hp, e.imp Eq.symm Eq.symm⟩
/-- the pairs at the places that qs name -/
def rel (l : List Nat) (qs : List (Nat × Nat)) : List (Nat × Nat) := qs.map fun p => (l.getD p.1 0, l.getD p.2 0)
theorem flat_rel (l : List Nat) : ∀ qs : List (Nat × Nat), flat (rel l qs) = (flat qs).map fun i => l.getD i 0
  | [] => rfl
  | p :: r => by
    show l.getD p.1 0 :: l.getD p.2 0 :: flat (rel l r) = _
    rw [flat_rel l r]; rfl
theorem range_getD (l : List Nat) : (List.range l.length).map (fun i => l.getD i 0) = l := by
  refine List.ext_getElem? fun i => ?_
  rw [List.getElem?_map]
  by_cases h : i < l.length
  · rw [List.getElem?_range h, List.getElem?_eq_getElem h, Option.map_some, List.getD_eq_getElem?_getD, List.getElem?_eq_getElem h]; rfl
  · rw [List.getElem?_eq_none (by rw [List.length_range]; omega), List.getElem?_eq_none (by omega)]; rfl
def rpr (f : List Nat) (n k : Nat) : List (Nat × Nat) := los f n ++ rel (lse f n) (cpl (pat ((lse f n).length / 2) k))
def rat (f : List Nat) (n k : Nat) : List Nat := mkp (rpr f n k)
section
variable {f : List Nat} {n k : Nat}
theorem lse_even (hf : IsPair (2 * n) f) (he : n % 2 = 0) : (lse f n).length % 2 = 0 ∧ (lse f n).length ≤ n ∧ 2 * (los f n).length + (lse f n).length = n := by
  have h1 := (los_perm hf).length_eq
  rw [List.length_append, flat_len, List.length_range] at h1
  omega
theorem rpr_flat0 (hf : IsPair (2 * n) f) (he : n % 2 = 0) (hk : k < dfac ((lse f n).length / 2)) : (flat (rpr f n k)).Perm (List.range n) := by
  unfold rpr
  rw [flat_app, flat_rel]
  refine List.Perm.trans ?_ (los_perm hf)
  refine List.Perm.append_left _ ?_
  have h1 := (cpl_flat (pat_pair hk)).map fun i => (lse f n).getD i 0
  rw [show 2 * ((lse f n).length / 2) = (lse f n).length by have := lse_even hf he; omega] at h1
  rw [range_getD] at h1
  exact h1
theorem rpr_len (hf : IsPair (2 * n) f) (he : n % 2 = 0) (hk : k < dfac ((lse f n).length / 2)) : 2 * (rpr f n k).length = n := by
  have := (rpr_flat0 hf he hk).length_eq
  rw [flat_len, List.length_range] at this
  exact this
theorem rpr_flat (hf : IsPair (2 * n) f) (he : n % 2 = 0) (hk : k < dfac ((lse f n).length / 2)) : (flat (rpr f n k)).Perm (List.range (2 * (rpr f n k).length)) := by
  rw [rpr_len hf he hk]; exact rpr_flat0 hf he hk
theorem rat_makes (hf : IsPair (2 * n) f) (he : n % 2 = 0) (hk : k < dfac ((lse f n).length / 2)) : Makes (rpr f n k) (rat f n k) := makes_mkp (rpr_flat hf he hk)
theorem rat_pair (hf : IsPair (2 * n) f) (he : n % 2 = 0) (hk : k < dfac ((lse f n).length / 2)) : IsPair n (rat f n k) := by
  have := mkp_pair (rpr_flat hf he hk)
  rw [rpr_len hf he hk] at this
  exact this
/-- with two strands at most: the only result -/
theorem rat_rd {ps : List Nat} (hf : IsPair (2 * n) f) (he : n % 2 = 0) (hl : (lse f n).length ≤ 2) (hP : IsPair n ps) : rat f n 0 = rd f ps n := by
  have hR := rd_pair hf hP
  have hk : 0 < dfac ((lse f n).length / 2) := dfac_pos _
  refine (rat_makes hf he hk).one ⟨by rw [rpr_len hf he hk, hR.len], fun p hp => ?_, fun z hz => ?_⟩
  · unfold rpr at hp
    rcases List.mem_append.mp hp with h | h
    · have := rd_los (ps := ps) hf h
      exact ⟨this, (hR.back this).1⟩
    · have h2 : (lse f n).length = 2 := by
        have h3 := lse_even hf he
        by_cases h0 : (lse f n).length = 2
        · exact h0
        · have h4 : (lse f n).length = 0 := by omega
          rw [h4] at h
          simp [rel, pat, una, mkp, cpl, cplN] at h
      rw [h2] at h
      have e : cpl (pat (2 / 2) 0) = [(0, 1)] := by decide
      rw [e] at h
      obtain ⟨x, y, exy⟩ : ∃ x y, lse f n = [x, y] := by
        match hh : lse f n, h2 with
        | [x, y], _ => exact ⟨x, y, rfl⟩
      rw [exy] at h
      have hp' : p = (x, y) := by simpa [rel] using h
      subst hp'
      have hx : x ∈ lse f n := by rw [exy]; exact List.mem_cons_self
      have hq := rd_loose hf hP hx
      have e2 : (rd f ps n).getD x 0 = y := by
        have := hq.1
        rw [exy] at this
        rcases List.mem_cons.mp this with z | z
        · exact absurd z hq.2
        · exact List.mem_singleton.mp z
      have xn := (lse_mem.mp hx).1
      have e3 : (rd f ps n)[x]? = some y := by rw [(hR.d xn).2.2.2, e2]
      exact ⟨e3, (hR.back e3).1⟩
  · rw [hR.len] at hz
    obtain ⟨p, hp, e⟩ := flat_mem.mp ((rpr_flat0 hf he hk).mem_iff.mpr (List.mem_range.mpr hz))
    exact ⟨p, hp, e.imp Eq.symm Eq.symm⟩
end
theorem dfac_one {r : Nat} : dfac r = 1 ↔ r ≤ 1 := by
  constructor
  · intro h
    match r, h with
    | 0, _ => omega
    | 1, _ => omega
    | r + 2, h =>
      have : dfac (r + 1) * (2 * (r + 1) + 1) = 1 := h
      have := Nat.eq_one_of_mul_eq_one_left this
      omega
  · intro h
    rcases (show r = 0 ∨ r = 1 by omega) with e | e <;> subst e <;> rfl
end Pc
namespace Pc
open PySem PySem.Spec PyProof.Rows L2 RZ
/-! ### data of small size, by its depth -/
def Sz : Nat → Nat
  | 0 => 61
  | 1 => 6303
  | 2 => 630503
  | _ => 15762628
abbrev Fi (j : Nat) (d : PyData) : Prop := Fine j (Sz j) d
theorem Sz_le : ∀ j, Sz j ≤ Sz (j + 1)
  | 0 => by decide
  | 1 => by decide
  | 2 => by decide
  | _ + 3 => Nat.le_refl _
theorem Fine.up {j : Nat} {d : PyData} (h : Fi j d) : Fi (j + 1) d := h.mono (Nat.le_succ _) (Sz_le j)
theorem Fine.sh {j : Nat} {d : PyData} (h : Fi j d) (hj : j ≤ 60 := by decide) : SeqAt.shaped d = true := Fine.shaped h (by omega)
theorem fi_int {i : Int} (h : i.natAbs < 2 ^ 60) : Fi 0 (.int i) := fine_int h
theorem fi_bl {b : Bool} : Fi 0 (.bool b) := ⟨rfl, rfl, Nat.le_refl _, trivial, by cases b <;> decide⟩
theorem fi_non : Fi 0 .none := ⟨rfl, rfl, Nat.le_refl _, trivial, by decide⟩
theorem fi_tup {l : List Nat} {m : Nat} (hl : IsPair m l) (hm : m ≤ 100) : Fi 1 (td l) := (fine_tup (n := 100) (fun i hi => by have := hl.lt i hi; omega) (by rw [hl.len]; omega) (by decide)).mono (Nat.le_refl _) (by decide)
/-- numbers of small size, not many -/
def Fw (l : List Nat) : Prop := l.length ≤ 100 ∧ ∀ i ∈ l, i < 2 ^ 60
theorem fb {l : List Nat} {m : Nat} (hl : IsPair m l) (hm : m ≤ 100) : Fw l := ⟨by rw [hl.len]; exact hm, fun i hi => by have := hl.lt i hi; omega⟩
theorem fi_tup' {l : List Nat} (h : Fw l) : Fi 1 (td l) := (fine_tup (n := 100) h.2 h.1 (by decide)).mono (Nat.le_refl _) (by decide)
theorem fi_lst {l : List Nat} (h : Fw l) : Fi 1 (.list (nd l)) := (fine_list (k := 0) (m := 61) (n := 100) (fine_nd h.2) (by rw [nd_length]; exact h.1) (by decide)).mono (Nat.le_refl _) (by decide)
theorem fi_prs {qs : List (Nat × Nat)} (h : qs.length ≤ 1000 ∧ ∀ p ∈ qs, p.1 < 2 ^ 60 ∧ p.2 < 2 ^ 60) : Fi 2 (.list (qs.map pd)) := (fine_pds (n := 1000) h.2 h.1 (by decide)).mono (Nat.le_refl _) (by decide)
theorem fa_nil {j : Nat} : ∀ d ∈ ([] : List PyData), Fi j d := fun _ h => absurd h List.not_mem_nil
theorem fa_cons {j : Nat} {d : PyData} {ds : List PyData} (h : Fi j d) (r : ∀ x ∈ ds, Fi j x) : ∀ x ∈ d :: ds, Fi j x := fun x hx => (List.mem_cons.mp hx).elim (fun e => by rw [e]; exact h) (r x)
def Few (j n : Nat) : Prop := n * (Sz j + 2) + 3 ≤ Sz (j + 1) ∧ n ≤ 100000
instance (j n : Nat) : Decidable (Few j n) := by unfold Few; infer_instance
theorem fi_list {j : Nat} {ds : List PyData} (h : ∀ d ∈ ds, Fi j d) (hn : n = ds.length := by rfl) (hf : Few j n := by decide) : Fi (j + 1) (.list ds) := (fine_list (k := j) (m := Sz j) (n := n) h (by rw [hn]; exact Nat.le_refl _) hf.2).mono (Nat.le_refl _) hf.1
theorem fi_tuple {j : Nat} {ds : List PyData} (h : ∀ d ∈ ds, Fi j d) (hn : n = ds.length := by rfl) (hf : Few j n := by decide) : Fi (j + 1) (.tuple ds) := (fine_tuple (k := j) (m := Sz j) (n := n) h (by rw [hn]; exact Nat.le_refl _) hf.2).mono (Nat.le_refl _) hf.1
theorem fi_ne {j : Nat} {d : PyData} (h : Fi j d) : (!PyData.eqv d d) = false := by
  rw [PySem.SeqAt.eqv_refl _ h.lay]; rfl
theorem fi_eq {j : Nat} {d : PyData} (h : Fi j d) : PyData.eqv d d = true := PySem.SeqAt.eqv_refl _ h.lay
/-! ### arguments by name, in another order -/
def pm10 {α : Type} : List α → List α
  | [a, b] => [b, a]
  | l => l
theorem rel_pm10 {zs : List V} {ws : List Value} (_ : zs.length = 2) (r : Vals zs ws) : Vals (pm10 zs) (pm10 ws) := by
  match zs, ws, r with
  | [], _, .nil => exact .nil
  | [_], _, .cons h .nil => exact .cons h .nil
  | [_, _], _, .cons h1 (.cons h2 .nil) => exact .cons h2 (.cons h1 .nil)
  | _ :: _ :: _ :: _, _, .cons h1 (.cons h2 (.cons h3 r)) => exact .cons h1 (.cons h2 (.cons h3 r))
def pm0 {α : Type} (l : List α) : List α := l
theorem rel_pm0 {zs : List V} {ws : List Value} (_ : zs.length = 1) (r : Vals zs ws) : Vals (pm0 zs) (pm0 ws) := r
end Pc
namespace Pc
open PySem PySem.Spec PyProof.Rows L2 RZ
theorem calls_app {n : Nat} {qs rs : List (Nat × Nat)} (h : Calls n qs) (g : Calls n rs) : Calls n (qs ++ rs) := fun q hq => (List.mem_append.mp hq).elim (h q) (g q)
end Pc
namespace Pc
open PySem PySem.Spec PyProof.Rows L2 RZ
/-- the slots, written out -/
theorem st_eq {t : TS} {D : L2.Ends} {σ : L2.St} {H : Hp} (σ' : L2.St) (h : t D σ' H) (e : σ = σ') : t D σ H := by rw [e]; exact h
end Pc
namespace Pc
open PySem PySem.Spec PyProof.Rows L2 RZ
theorem st_set {i : Nat} {v : V} {σ : L2.St} {H : Hp} {Q : L2.St → Hp → Prop} (σ' : L2.St) (h : Q σ' H) (e : σ.set i (some v) = σ') : gName i v σ H Q := by
  unfold gName
  rw [e]; exact h
end Pc
namespace Pc
open PySem PySem.Spec PyProof.Rows L2 RZ
theorem fi_same {x y : V} (e : x = y) : (!decide (x = y)) = false := by rw [decide_eq_true e]; rfl
theorem fi_is {x y : V} (e : x = y) : decide (x = y) = true := decide_eq_true e
end Pc
namespace Pc
open PySem PySem.Spec PyProof.Rows L2 RZ
theorem st_kept {D : L2.Ends} {i : Nat} {a C d : Addr} {σ1 : L2.St} {H : Hp} (σ' : L2.St) (h : D.nx σ' (upd H a (exk a (.ref C) (some d)))) (e : σ1.set i none = σ') :
    ({ nx := fun σ'' H'' => D.nx (σ''.set i none) (upd H'' a (exk a (.ref C) (some d))), rt := fun _ _ => False } : L2.Ends).nx σ1 H := by
  show D.nx (σ1.set i none) _
  rw [e]; exact h
end Pc
namespace Pc
open PySem PySem.Spec PyProof.Rows L2 RZ
theorem st_setH {i : Nat} {v : V} {σ : L2.St} {H : Hp} {Q : L2.St → Hp → Prop} (σ' : L2.St) (H' : Hp) (h : Q σ' H') (e : σ.set i (some v) = σ') (eh : H = H') : gName i v σ H Q := by
  unfold gName
  rw [e, eh]; exact h
end Pc
namespace Pc
/-! ### sheets that do the same: guarantee (c) -/
theorem jn_gd {n : Nat} {f : List Nat} (hf : IsPair n f) {a b : Nat} (hab : a ≠ b) (ha : a < n) (hb : b < n) (hc : f.getD a 0 ≠ b) (z : Nat) :
    (jn f a b).getD z 0 = if z = a then b else if z = b then a else if z = f.getD a 0 then f.getD b 0 else if z = f.getD b 0 then f.getD a 0 else f.getD z 0 := by
  have e := jn_get hf hab (hf.d ha).2.2.2 (hf.d hb).2.2.2 hc z
  rw [List.getD_eq_getElem?_getD, e]
  split
  · rfl
  · split
    · rfl
    · split
      · rfl
      · split
        · rfl
        · rw [List.getD_eq_getElem?_getD]
theorem jn_has {n : Nat} {f : List Nat} (hf : IsPair n f) {a b : Nat} (hab : a ≠ b) (ha : a < n) (hb : b < n) : (jn f a b).getD a 0 = b ∧ (jn f a b).getD b 0 = a := by
  by_cases hc : f.getD a 0 = b
  · rw [jn_same (hf.ofd ha hc)]
    exact ⟨hc, by rw [← hc]; exact (hf.d ha).2.2.1⟩
  · rw [jn_gd hf hab ha hb hc, jn_gd hf hab ha hb hc, if_pos rfl, if_neg hab.symm, if_pos rfl]
    exact ⟨rfl, rfl⟩
theorem jn_idle {n : Nat} {f : List Nat} (hf : IsPair n f) {a b : Nat} (ha : a < n) (hc : f.getD a 0 = b) : jn f a b = f := jn_same (hf.ofd ha hc)
/-- a join seen from below -/
theorem mir_jn {n : Nat} {f : List Nat} (hf : IsPair (2 * n) f) {a b : Nat} (hab : a ≠ b) (ha : a < n) (hb : b < n) : mir (jn f a b) n = jn (mir f n) (n + a) (n + b) := by
  have hm := mir_pair hf
  have oa : os n a = n + a := by unfold os; rw [if_pos ha]; omega
  have ob : os n b = n + b := by unfold os; rw [if_pos hb]; omega
  have oA : os n (n + a) = a := by unfold os; rw [if_neg (by omega)]; omega
  have oB : os n (n + b) = b := by unfold os; rw [if_neg (by omega)]; omega
  have inj : ∀ {x y : Nat}, x < 2 * n → y < 2 * n → os n x = os n y → x = y := fun {x y} hx hy e => by
    rw [← os_os hx, e, os_os hy]
  have mA : (mir f n).getD (n + a) 0 = os n (f.getD a 0) := by rw [mir_d f (by omega), oA]
  have mB : (mir f n).getD (n + b) 0 = os n (f.getD b 0) := by rw [mir_d f (by omega), oB]
  have fa := hf.d (show a < 2 * n by omega)
  have fb := hf.d (show b < 2 * n by omega)
  by_cases hc : f.getD a 0 = b
  · rw [jn_idle hf (by omega) hc, jn_idle hm (by omega) (by rw [mA, hc, ob])]
  · have hc' : (mir f n).getD (n + a) 0 ≠ n + b := by
      rw [mA, ← ob]; exact fun e => hc (inj fa.1 (by omega) e)
    refine list_d (by rw [mir_len, jn_len, mir_len]) fun z hz => ?_
    rw [mir_len] at hz
    rw [mir_d _ hz, jn_gd hf hab (by omega) (by omega) hc, jn_gd hm (by omega) (by omega) (by omega) hc', mA, mB]
    have oz := os_lt hz
    have key : ∀ {w : Nat}, w < 2 * n → (os n z = w ↔ z = os n w) := fun {w} hw => ⟨fun e => by rw [← e, os_os hz], fun e => by rw [e, os_os hw]⟩
    by_cases z1 : z = n + a
    · subst z1; rw [if_pos oA, if_pos rfl, ob]
    · rw [if_neg (fun e => z1 (((key (by omega)).mp e).trans oa)), if_neg z1]
      by_cases z2 : z = n + b
      · subst z2; rw [if_pos oB, if_pos rfl, oa]
      · rw [if_neg (fun e => z2 (((key (by omega)).mp e).trans ob)), if_neg z2]
        by_cases z3 : z = os n (f.getD a 0)
        · rw [if_pos ((key fa.1).mpr z3), if_pos z3]
        · rw [if_neg (fun e => z3 ((key fa.1).mp e)), if_neg z3]
          by_cases z4 : z = os n (f.getD b 0)
          · rw [if_pos ((key fb.1).mpr z4), if_pos z4]
          · rw [if_neg (fun e => z4 ((key fb.1).mp e)), if_neg z4, mir_d f hz]
theorem mir_one {n a b : Nat} (hab : a < b) (hb : b < n) : mir (jn (emp n) (n + a) (n + b)) n = jn (emp n) (n + a) (n + b) := by
  have he : IsPair (2 * n) (emp n) := emp_pair (by omega)
  have e : jn (emp n) (n + a) (n + b) = jn (emp n) a b := by
    have ea : (emp n).getD a 0 = n + a := getD_of (emp_lo (by omega))
    have eb : (emp n).getD b 0 = n + b := getD_of (emp_lo hb)
    have eA : (emp n).getD (n + a) 0 = a := getD_of (emp_hi (by omega))
    have eB : (emp n).getD (n + b) 0 = b := getD_of (emp_hi hb)
    refine list_d (by rw [jn_len, jn_len]) fun z hz => ?_
    rw [jn_gd he (by omega) (by omega) (by omega) (by rw [eA]; omega), jn_gd he (by omega) (by omega) (by omega) (by rw [ea]; omega), ea, eb, eA, eB]
    repeat' split
    all_goals first | rfl | omega
  have h := mir_jn he (show a ≠ b by omega) (by omega) hb
  rw [mir_emp] at h
  rw [e, h, e]
/-- a call before a sheet joins the two upper ends -/
theorem jn_fol {n : Nat} {f : List Nat} (hf : IsPair (2 * n) f) {a b : Nat} (hab : a < b) (hb : b < n) : fol (jn (emp n) (n + a) (n + b)) f n = jn f a b := by
  have he : IsPair (2 * n) (emp n) := emp_pair (by omega)
  have hw : IsPair (2 * n) (jn (emp n) (n + a) (n + b)) := jn_pair he (by omega) (by omega) (by omega)
  have hm := mir_pair hf
  have hc : Calls n [(a, b)] := fun q hq => by rw [List.mem_singleton] at hq; rw [hq]; exact ⟨hab, hb⟩
  have h1 : mir (fol (jn (emp n) (n + a) (n + b)) f n) n = mir (jn f a b) n := by
    rw [mir_fol hw hf, mir_one hab hb, mir_jn hf (by omega) (by omega) hb]
    exact fol_word (qs := [(a, b)]) (by omega) hm hc
  rw [← mir_mir (fol_pair hw hf), h1, mir_mir (jn_pair hf (by omega) (by omega) (by omega))]
theorem jn_comm {n : Nat} {f : List Nat} (hf : IsPair n f) {a b : Nat} (hab : a ≠ b) (ha : a < n) (hb : b < n) : jn f a b = jn f b a := by
  have fa := hf.d ha
  have fb := hf.d hb
  by_cases hc : f.getD a 0 = b
  · rw [jn_idle hf ha hc, jn_idle hf hb (by rw [← hc]; exact fa.2.2.1)]
  · have hc' : f.getD b 0 ≠ a := fun e => hc (by rw [← e]; exact fb.2.2.1)
    have ne : f.getD a 0 ≠ f.getD b 0 := fun e => hab (hf.inj ha hb e)
    refine list_d (by rw [jn_len, jn_len]) fun z hz => ?_
    rw [jn_gd hf hab ha hb hc, jn_gd hf hab.symm hb ha hc']
    by_cases z1 : z = a
    · rw [if_pos z1, if_neg (by omega), if_pos z1]
    · rw [if_neg z1]
      by_cases z2 : z = b
      · rw [if_pos z2, if_pos z2]
      · rw [if_neg z2, if_neg z2, if_neg z1]
        by_cases z3 : z = f.getD a 0
        · rw [if_pos z3, if_neg (by omega), if_pos z3]
        · rw [if_neg z3, if_neg z3]
theorem rd_up {n : Nat} {f q : List Nat} (hf : IsPair (2 * n) f) (hq : IsPair n q) {a b : Nat} (hab : a ≠ b) (ha : a < n) (hb : b < n) : rd (jn f a b) q n = rd f (jn q a b) n := by
  have main : ∀ {a b : Nat}, a < b → b < n → rd (jn f a b) q n = rd f (jn q a b) n := fun {a b} hab hb => by
    have he : IsPair (2 * n) (emp n) := emp_pair (by omega)
    have hw : IsPair (2 * n) (jn (emp n) (n + a) (n + b)) := jn_pair he (by omega) (by omega) (by omega)
    rw [← jn_fol hf hab hb, rd_fol hw hf hq]
    congr 1
    rw [rd_jn he hq (by omega) (by omega) hb, rd_emp (by omega) hq]
  by_cases c : a < b
  · exact main c hb
  · rw [jn_comm hf hab (by omega) (by omega), jn_comm hq hab ha hb]
    exact main (by omega) ha
/-! ### equal results -/
def Sames (S T : List Nat) (n : Nat) : Prop := ∀ q, IsPair n q → rd S q n = rd T q n
theorem Sames.symm {S T : List Nat} {n : Nat} (h : Sames S T n) : Sames T S n := fun q hq => (h q hq).symm
theorem Sames.up {S T : List Nat} {n a b : Nat} (hS : IsPair (2 * n) S) (hT : IsPair (2 * n) T) (h : Sames S T n) (hab : a ≠ b) (ha : a < n) (hb : b < n) : Sames (jn S a b) (jn T a b) n := fun q hq => by
  rw [rd_up hS hq hab ha hb, rd_up hT hq hab ha hb]
  exact h _ (jn_pair hq hab ha hb)
theorem a_pair {n : Nat} (he : n % 2 = 0) : ∃ q, IsPair n q := ⟨pat (n / 2) 0, by
  have := pat_pair (r := n / 2) (k := 0) (dfac_pos _)
  rw [show 2 * (n / 2) = n by omega] at this
  exact this⟩
theorem two_pair {n a b : Nat} (he : n % 2 = 0) (hab : a ≠ b) (ha : a < n) (hb : b < n) : ∃ q, IsPair n q ∧ q.getD a 0 = b := by
  obtain ⟨q, hq⟩ := a_pair he
  exact ⟨jn q a b, jn_pair hq hab ha hb, (jn_has hq hab ha hb).1⟩
/-- along a lower pair -/
theorem rd_low {n x : Nat} {S q : List Nat} (hx : x < n) (h : n ≤ S.getD (n + x) 0) : (rd S q n).getD x 0 = S.getD (n + x) 0 - n := by
  refine getD_of ?_
  rw [rd_get S q hx, far_is (Trail.stop h)]
  rfl
/-- along two strands -/
theorem rd_two {n x : Nat} {S q : List Nat} (hx : x < n) (h : S.getD (n + x) 0 < n) (h2 : n ≤ S.getD (q.getD (S.getD (n + x) 0) 0) 0) : (rd S q n).getD x 0 = S.getD (q.getD (S.getD (n + x) 0) 0) 0 - n := by
  refine getD_of ?_
  rw [rd_get S q hx, far_is (Trail.go h (Trail.stop h2))]
  rfl
theorem lse_lt {S : List Nat} {n y : Nat} (h : y ∈ lse S n) : y < n ∧ S.getD (n + y) 0 < n := by
  have := lse_mem.mp h
  exact ⟨this.1, of_decide_eq_true this.2⟩
theorem lse_of {S : List Nat} {n y : Nat} (h : y < n) (h2 : S.getD (n + y) 0 < n) : y ∈ lse S n := lse_mem.mpr ⟨h, decide_eq_true h2⟩
/-- who are a couple in all results, where somebody else is loose, are a lower pair -/
theorem sure_low {n x y z : Nat} {S : List Nat} (hS : IsPair (2 * n) S) (he : n % 2 = 0) (hx : x < n) (hz : z ∈ lse S n) (zx : z ≠ x) (zy : z ≠ y) (h : ∀ q, IsPair n q → (rd S q n).getD x 0 = y) : S.getD (n + x) 0 = n + y := by
  obtain ⟨q0, hq0⟩ := a_pair he
  by_cases c : n ≤ S.getD (n + x) 0
  · have := h q0 hq0
    rw [rd_low hx c] at this
    omega
  · exfalso
    have hz' := lse_lt hz
    have sx := hS.d (show n + x < 2 * n by omega)
    have sz := hS.d (show n + z < 2 * n by omega)
    have ne : S.getD (n + x) 0 ≠ S.getD (n + z) 0 := fun e => zx (by have := hS.inj (show n + x < 2 * n by omega) (show n + z < 2 * n by omega) e; omega)
    obtain ⟨q, hq, hqq⟩ := two_pair he ne (by omega) hz'.2
    have := h q hq
    rw [rd_two hx (by omega) (by rw [hqq, sz.2.2.1]; omega), hqq, sz.2.2.1] at this
    omega
/-- a list without repetitions that is longer has something else -/
theorem other_in {l : List Nat} (hd : l.Nodup) : ∀ (ks : List Nat), ks.length < l.length → ∃ z ∈ l, z ∉ ks
  | ks, h => by
    apply Classical.byContradiction
    intro hn
    have sub : ∀ z ∈ l, z ∈ ks := fun z hz => Classical.byContradiction fun c => hn ⟨z, hz, c⟩
    have : ∀ (l ks : List Nat), l.Nodup → (∀ z ∈ l, z ∈ ks) → l.length ≤ ks.length := fun l => by
      induction l with
      | nil => intro ks _ _; exact Nat.zero_le _
      | cons a r ih =>
        intro ks hd hs
        have hd' := List.nodup_cons.mp hd
        have ha := hs a List.mem_cons_self
        have := ih (ks.erase a) hd'.2 (fun z hz => (List.mem_erase_of_ne (fun e => hd'.1 (by rw [← e]; exact hz))).mpr (hs z (List.mem_cons_of_mem _ hz)))
        rw [List.length_erase_of_mem ha] at this
        have := List.length_pos_of_mem ha
        simp only [List.length_cons]
        omega
    have := this l ks hd sub
    omega
theorem other2 {S : List Nat} {n : Nat} (h : 3 ≤ (lse S n).length) (x y : Nat) : ∃ z ∈ lse S n, z ≠ x ∧ z ≠ y := by
  obtain ⟨z, hz, h1⟩ := other_in (lse_nodup S n) [x, y] (by show 2 < _; omega)
  simp only [List.mem_cons, List.not_mem_nil, or_false, not_or] at h1
  exact ⟨z, hz, h1.1, h1.2⟩
theorem Sames.low {S T : List Nat} {n x : Nat} (hT : IsPair (2 * n) T) (he : n % 2 = 0) (h : Sames S T n) (l : 3 ≤ (lse T n).length) (hx : x < n) (c : n ≤ S.getD (n + x) 0) : T.getD (n + x) 0 = S.getD (n + x) 0 := by
  obtain ⟨z, hz, zx, zy⟩ := other2 l x (S.getD (n + x) 0 - n)
  have := sure_low hT he hx hz zx zy (fun q hq => by rw [← h q hq, rd_low hx c])
  omega
theorem Sames.lse {S T : List Nat} {n : Nat} (hS : IsPair (2 * n) S) (hT : IsPair (2 * n) T) (he : n % 2 = 0) (h : Sames S T n) (l : 3 ≤ (lse S n).length) (m : 3 ≤ (lse T n).length) : Pc.lse S n = Pc.lse T n := by
  unfold Pc.lse
  refine List.filter_congr fun x hx => ?_
  have hx := List.mem_range.mp hx
  unfold lsC
  by_cases c : S.getD (n + x) 0 < n
  · by_cases d : T.getD (n + x) 0 < n
    · rw [decide_eq_true c, decide_eq_true d]
    · have := h.symm.low hS he l hx (by omega)
      omega
  · have := h.low hT he m hx (by omega)
    rw [this]
/-- one of them settled, the other one not -/
theorem Sames.both {S T : List Nat} {n : Nat} (hS : IsPair (2 * n) S) (hT : IsPair (2 * n) T) (he : n % 2 = 0) (h : Sames S T n) (l : (Pc.lse S n).length ≤ 2) : (Pc.lse T n).length ≤ 2 := by
  apply Classical.byContradiction
  intro c
  obtain ⟨q0, hq0⟩ := a_pair he
  obtain ⟨x, hx, _⟩ := other2 (S := T) (n := n) (by omega) 0 0
  have hx' := lse_lt hx
  obtain ⟨z, hz, zx, zy⟩ := other2 (S := T) (n := n) (by omega) x ((rd S q0 n).getD x 0)
  have := sure_low hT he hx'.1 hz zx zy (fun q hq => by rw [← h q hq, rd_settled hS hq hq0 l])
  omega
/-- two strands of one, seen in the other -/
theorem Sames.duo {S T : List Nat} {n x y : Nat} (hS : IsPair (2 * n) S) (hT : IsPair (2 * n) T) (he : n % 2 = 0) (h : Sames S T n) (l : 4 ≤ (Pc.lse S n).length) (m : 4 ≤ (Pc.lse T n).length) (hx : x ∈ Pc.lse S n) (hy : y ∈ Pc.lse S n) (hxy : x ≠ y) :
    n ≤ T.getD (S.getD (n + x) 0) 0 ∧ n ≤ T.getD (S.getD (n + y) 0) 0 ∧
    ((T.getD (S.getD (n + x) 0) 0 = n + x ∧ T.getD (S.getD (n + y) 0) 0 = n + y) ∨ (T.getD (S.getD (n + x) 0) 0 = n + y ∧ T.getD (S.getD (n + y) 0) 0 = n + x) ∨
      ((Pc.lse T n).length = 4 ∧ T.getD (S.getD (n + x) 0) 0 ≠ n + x ∧ T.getD (S.getD (n + x) 0) 0 ≠ n + y ∧ T.getD (S.getD (n + y) 0) 0 ≠ n + x ∧ T.getD (S.getD (n + y) 0) 0 ≠ n + y)) := by
  have el := h.lse hS hT he (by omega) (by omega)
  have hx1 := lse_lt hx
  have hy1 := lse_lt hy
  have tx := lse_lt (el ▸ hx)
  have ty := lse_lt (el ▸ hy)
  have sx := hS.d (show n + x < 2 * n by omega)
  have sy := hS.d (show n + y < 2 * n by omega)
  have ne : S.getD (n + x) 0 ≠ S.getD (n + y) 0 := fun e => hxy (by have := hS.inj (show n + x < 2 * n by omega) (show n + y < 2 * n by omega) e; omega)
  revert sx sy ne hx1 hy1
  generalize ea : S.getD (n + x) 0 = a
  generalize eb : S.getD (n + y) 0 = b
  intro hx1 hy1 sx sy ne
  have ha : a < n := hx1.2
  have hb : b < n := hy1.2
  have ta := hT.d (show a < 2 * n by omega)
  have tb := hT.d (show b < 2 * n by omega)
  have hS' : IsPair (2 * n) (jn S a b) := jn_pair hS ne (by omega) (by omega)
  have hT' : IsPair (2 * n) (jn T a b) := jn_pair hT ne (by omega) (by omega)
  have h' := h.up hS hT ne ha hb
  have cS : S.getD a 0 ≠ b := by omega
  have gS := fun z => jn_gd hS ne (show a < 2 * n by omega) (show b < 2 * n by omega) cS z
  have lowS : (jn S a b).getD (n + x) 0 = n + y := by
    rw [gS, if_neg (by omega), if_neg (by omega), if_pos (by omega)]; omega
  have res : ∀ q, IsPair n q → (rd (jn T a b) q n).getD x 0 = y := fun q hq => by
    rw [← h' q hq, rd_low hx1.1 (by omega), lowS]; omega
  by_cases cT : T.getD a 0 = b
  · exfalso
    have e := jn_idle hT (show a < 2 * n by omega) cT
    rw [e] at res
    obtain ⟨z, hz, zx, zy⟩ := other2 (S := T) (n := n) (by omega) x y
    have := sure_low hT he hx1.1 hz zx zy res
    omega
  have gT := fun z => jn_gd hT ne (show a < 2 * n by omega) (show b < 2 * n by omega) cT z
  have keep : ∀ z, z ∈ Pc.lse T n → n + z ≠ T.getD a 0 → n + z ≠ T.getD b 0 → z ∈ Pc.lse (jn T a b) n := fun z hz z1 z2 => by
    have := lse_lt hz
    refine lse_of this.1 ?_
    rw [gT, if_neg (by omega), if_neg (by omega), if_neg z1, if_neg z2]; exact this.2
  by_cases c1 : n ≤ T.getD a 0
  · by_cases c2 : n ≤ T.getD b 0
    · refine ⟨c1, c2, ?_⟩
      have nab : T.getD a 0 ≠ T.getD b 0 := fun e => ne (hT.inj (by omega) (by omega) e)
      have r1 : ∀ {u v : Nat}, u < n → (jn T a b).getD (n + u) 0 = n + v → ∀ q, IsPair n q → (rd (jn T a b) q n).getD u 0 = v := fun {u v} hu e q hq => by
        rw [rd_low hu (by omega), e]; omega
      obtain ⟨q0, hq0⟩ := a_pair he
      have e1 : (jn T a b).getD (T.getD a 0) 0 = T.getD b 0 := by
        rw [gT, if_neg (by omega), if_neg (by omega), if_pos rfl]
      have e2 : (jn T a b).getD (T.getD b 0) 0 = T.getD a 0 := by
        rw [gT, if_neg (by omega), if_neg (by omega), if_neg nab.symm, if_pos rfl]
      have px : (jn T a b).getD (n + x) 0 = n + y ∨ (T.getD a 0 ≠ n + x ∧ T.getD b 0 ≠ n + x) := by
        by_cases z1 : T.getD a 0 = n + x
        · have := r1 (u := x) (v := T.getD b 0 - n) hx1.1 (by rw [← z1, e1]; omega) q0 hq0
          rw [res q0 hq0] at this
          left; rw [← z1, e1]; omega
        · by_cases z2 : T.getD b 0 = n + x
          · have := r1 (u := x) (v := T.getD a 0 - n) hx1.1 (by rw [← z2, e2]; omega) q0 hq0
            rw [res q0 hq0] at this
            left; rw [← z2, e2]; omega
          · exact .inr ⟨z1, z2⟩
      rcases px with px | ⟨z1, z2⟩
      · rw [gT, if_neg (by omega), if_neg (by omega)] at px
        by_cases z1 : n + x = T.getD a 0
        · rw [if_pos z1] at px; exact .inl ⟨z1.symm, px⟩
        · rw [if_neg z1] at px
          by_cases z2 : n + x = T.getD b 0
          · rw [if_pos z2] at px; exact .inr (.inl ⟨px, z2.symm⟩)
          · rw [if_neg z2] at px; omega
      · -- y is not there either
        have tx' : (jn T a b).getD (n + x) 0 = T.getD (n + x) 0 := by
          rw [gT, if_neg (by omega), if_neg (by omega), if_neg (Ne.symm z1), if_neg (Ne.symm z2)]
        have back := (hT'.d (show n + x < 2 * n by omega)).2.2.1
        have ry : ∀ q, IsPair n q → (rd (jn T a b) q n).getD y 0 = x := fun q hq => by
          have := (rd_pair hT' hq).d hx1.1
          rw [res q hq] at this
          exact this.2.2.1
        have w1 : T.getD a 0 ≠ n + y := fun w => by
          have := r1 (u := y) (v := T.getD b 0 - n) hy1.1 (by rw [← w, e1]; omega) q0 hq0
          rw [ry q0 hq0] at this; omega
        have w2 : T.getD b 0 ≠ n + y := fun w => by
          have := r1 (u := y) (v := T.getD a 0 - n) hy1.1 (by rw [← w, e2]; omega) q0 hq0
          rw [ry q0 hq0] at this; omega
        refine .inr (.inr ⟨?_, z1, w1, z2, w2⟩)
        apply Classical.byContradiction
        intro c4
        obtain ⟨z, hz, h1⟩ := other_in (lse_nodup T n) [x, y, T.getD a 0 - n, T.getD b 0 - n] (by show 4 < _; omega)
        simp only [List.mem_cons, List.not_mem_nil, or_false, not_or] at h1
        have := sure_low hT' he hx1.1 (keep z hz (by omega) (by omega)) h1.1 h1.2.1 res
        omega
    · exfalso
      -- only a leads down
      obtain ⟨z, hz, zx⟩ := other_in (lse_nodup T n) [x, y, T.getD a 0 - n] (by show 3 < _; omega)
      have hz3 : z ≠ x ∧ z ≠ y ∧ z ≠ T.getD a 0 - n := by
        simp only [List.mem_cons, List.not_mem_nil, or_false, not_or] at zx
        exact zx
      have := sure_low hT' he hx1.1 (keep z hz (by omega) (by omega)) hz3.1 hz3.2.1 res
      rw [gT, if_neg (by omega), if_neg (by omega)] at this
      by_cases z1 : n + x = T.getD a 0
      · rw [if_pos z1] at this; omega
      · rw [if_neg z1, if_neg (by omega)] at this; omega
  · exfalso
    obtain ⟨z, hz, zx⟩ := other_in (lse_nodup T n) [x, y, T.getD b 0 - n] (by show 3 < _; omega)
    have hz3 : z ≠ x ∧ z ≠ y ∧ z ≠ T.getD b 0 - n := by
      simp only [List.mem_cons, List.not_mem_nil, or_false, not_or] at zx
      exact zx
    by_cases c2 : n ≤ T.getD b 0
    · have := sure_low hT' he hx1.1 (keep z hz (by omega) (by omega)) hz3.1 hz3.2.1 res
      rw [gT, if_neg (by omega), if_neg (by omega), if_neg (by omega)] at this
      by_cases z1 : n + x = T.getD b 0
      · rw [if_pos z1] at this; omega
      · rw [if_neg z1] at this; omega
    · have := sure_low hT' he hx1.1 (keep z hz (by omega) (by omega)) hz3.1 hz3.2.1 res
      rw [gT, if_neg (by omega), if_neg (by omega), if_neg (by omega), if_neg (by omega)] at this
      omega
end Pc
namespace Pc
theorem Sames.ups {S T : List Nat} {n a : Nat} (hS : IsPair (2 * n) S) (hT : IsPair (2 * n) T) (he : n % 2 = 0) (h : Sames S T n) (l : 4 ≤ (Pc.lse S n).length) (m : 4 ≤ (Pc.lse T n).length) (ha : a < n) (c : n ≤ S.getD a 0) : n ≤ T.getD a 0 := by
  have sa := hS.d (show a < 2 * n by omega)
  have e1 : S.getD (n + (S.getD a 0 - n)) 0 = a := by rw [show n + (S.getD a 0 - n) = S.getD a 0 by omega]; exact sa.2.2.1
  have hx : S.getD a 0 - n ∈ Pc.lse S n := lse_of (by omega) (by omega)
  obtain ⟨y, hy, yx, _⟩ := other2 (S := S) (n := n) (by omega) (S.getD a 0 - n) 0
  have := (h.duo hS hT he l m hx hy (Ne.symm yx)).1
  rw [e1] at this
  exact this
theorem Sames.upper {S T : List Nat} {n x : Nat} (hS : IsPair (2 * n) S) (hT : IsPair (2 * n) T) (he : n % 2 = 0) (h : Sames S T n) (l : 4 ≤ (Pc.lse S n).length) (m : 4 ≤ (Pc.lse T n).length) (hx : x < n) (c : S.getD x 0 < n) : T.getD x 0 = S.getD x 0 := by
  apply Classical.byContradiction
  intro ne
  have sx := hS.d (show x < 2 * n by omega)
  have tx := hT.d (show x < 2 * n by omega)
  have cT : T.getD x 0 < n := by
    apply Classical.byContradiction
    intro d
    have := h.symm.ups hT hS he m l hx (by omega)
    omega
  obtain ⟨ℓ, hl, _⟩ := other2 (S := S) (n := n) (by omega) 0 0
  have hl1 := lse_lt hl
  have sl := hS.d (show n + ℓ < 2 * n by omega)
  revert hl1 sl
  generalize ea : S.getD (n + ℓ) 0 = a
  intro hl1 sl
  have ha : a < n := hl1.2
  have eS : S.getD a 0 = n + ℓ := sl.2.2.1
  have cTa := h.ups hS hT he l m ha (by omega)
  have ta := hT.d (show a < 2 * n by omega)
  have ax : a ≠ x := fun e => by rw [e] at eS; omega
  have hS' : IsPair (2 * n) (jn S a x) := jn_pair hS ax (by omega) (by omega)
  have hT' : IsPair (2 * n) (jn T a x) := jn_pair hT ax (by omega) (by omega)
  have h' := h.up hS hT ax ha hx
  have gS := fun z => jn_gd hS ax (show a < 2 * n by omega) (show x < 2 * n by omega) (by omega) z
  have gT := fun z => jn_gd hT ax (show a < 2 * n by omega) (show x < 2 * n by omega) (by omega) z
  have l' : 4 ≤ (Pc.lse (jn S a x) n).length := by
    refine Nat.le_trans l (Nat.le_of_eq ?_)
    unfold Pc.lse
    refine congrArg List.length (List.filter_congr fun y hy => ?_)
    have hy := List.mem_range.mp hy
    unfold lsC
    rw [gS, if_neg (by omega), if_neg (by omega)]
    by_cases z1 : n + y = S.getD a 0
    · rw [if_pos z1, z1, (hS.d (show a < 2 * n by omega)).2.2.1, decide_eq_true ha, decide_eq_true c]
    · rw [if_neg z1, if_neg (by omega)]
  have m' : 4 ≤ (Pc.lse (jn T a x) n).length := by
    refine Nat.le_trans m (Nat.le_of_eq ?_)
    unfold Pc.lse
    refine congrArg List.length (List.filter_congr fun y hy => ?_)
    have hy := List.mem_range.mp hy
    unfold lsC
    rw [gT, if_neg (by omega), if_neg (by omega)]
    by_cases z1 : n + y = T.getD a 0
    · rw [if_pos z1, z1, ta.2.2.1, decide_eq_true ha, decide_eq_true cT]
    · rw [if_neg z1, if_neg (by omega)]
  -- z is at a strand of the one, not of the other
  have zT : (jn T a x).getD (T.getD x 0) 0 = T.getD a 0 := by
    rw [gT, if_neg (fun e => by rw [e] at tx; omega), if_neg tx.2.1, if_neg (by omega), if_pos rfl]
  have zS := h'.symm.ups hT' hS' he m' l' cT (by omega)
  rw [gS] at zS
  by_cases z1 : T.getD x 0 = a
  · rw [z1] at tx; omega
  · rw [if_neg z1, if_neg tx.2.1, if_neg (by omega), if_neg (by omega)] at zS
    have := h.ups hS hT he l m cT zS
    omega
/-- pointwise, when the strands are known -/
theorem Sames.all {S T : List Nat} {n : Nat} (hS : IsPair (2 * n) S) (hT : IsPair (2 * n) T) (he : n % 2 = 0) (h : Sames S T n) (l : 4 ≤ (Pc.lse S n).length) (m : 4 ≤ (Pc.lse T n).length) (k : ∀ a, a < n → n ≤ S.getD a 0 → T.getD a 0 = S.getD a 0) : T = S := by
  refine list_d (by rw [hS.len, hT.len]) fun e hel => ?_
  rw [hT.len] at hel
  have se := hS.d hel
  by_cases c : e < n
  · by_cases d : n ≤ S.getD e 0
    · exact k e c d
    · exact h.upper hS hT he l m c (by omega)
  · obtain ⟨x, rfl⟩ : ∃ x, e = n + x := ⟨e - n, by omega⟩
    by_cases d : n ≤ S.getD (n + x) 0
    · exact h.low hT he (by omega) (by omega) d
    · have := k (S.getD (n + x) 0) (by omega) (by rw [se.2.2.1]; omega)
      rw [se.2.2.1] at this
      have t := (hT.d (show S.getD (n + x) 0 < 2 * n by omega)).2.2.1
      rw [this] at t
      exact t
theorem Sames.five {S T : List Nat} {n : Nat} (hS : IsPair (2 * n) S) (hT : IsPair (2 * n) T) (he : n % 2 = 0) (h : Sames S T n) (l : 4 ≤ (Pc.lse S n).length) (m : 4 ≤ (Pc.lse T n).length) (m4 : (Pc.lse T n).length ≠ 4) : T = S := by
  refine h.all hS hT he l m fun a ha c => ?_
  have sa := hS.d (show a < 2 * n by omega)
  obtain ⟨x, hx⟩ : ∃ x, S.getD a 0 = n + x := ⟨S.getD a 0 - n, by omega⟩
  have e1 : S.getD (n + x) 0 = a := by rw [← hx]; exact sa.2.2.1
  have hxl : x ∈ Pc.lse S n := lse_of (by omega) (by omega)
  obtain ⟨y, hy, yx, _⟩ := other2 (S := S) (n := n) (by omega) x x
  obtain ⟨z, hz, zx, zy⟩ := other2 (S := S) (n := n) (by omega) x y
  have d1 := (h.duo hS hT he l m hxl hy (Ne.symm yx)).2.2
  have d2 := (h.duo hS hT he l m hxl hz (Ne.symm zx)).2.2
  rw [e1] at d1 d2
  rcases d1 with d1 | d1 | d1
  · rw [d1.1, hx]
  · rcases d2 with d2 | d2 | d2
    · rw [d2.1, hx]
    · omega
    · exact absurd d2.1 m4
  · exact absurd d1.1 m4
/-! ### four strands joined crosswise -/
def upl (S : List Nat) (n : Nat) : List Nat := (List.range n).filter fun x => decide (n ≤ S.getD x 0)
theorem upl_mem {S : List Nat} {n a : Nat} : a ∈ upl S n ↔ a < n ∧ n ≤ S.getD a 0 := by
  unfold upl; rw [List.mem_filter, List.mem_range, decide_eq_true_iff]
theorem upl_nodup (S : List Nat) (n : Nat) : (upl S n).Nodup := List.nodup_range.filter _
theorem upl_sts (S : List Nat) (n : Nat) : (sts S n).map Prod.fst = upl S n := sel_fst (c := stC S n) fun _ => rfl
theorem upl_len {S : List Nat} {n : Nat} (hS : IsPair (2 * n) S) : (upl S n).length = (lse S n).length := by
  rw [← upl_sts, List.length_map, lse_len hS]
/-- T is S with its four strands joined crosswise along P -/
structure Crd (S : List Nat) (n : Nat) (A P T : List Nat) : Prop where
  len : T.length = 2 * n
  up : ∀ i, i < 4 → T.getD (A.getD i 0) 0 = S.getD (A.getD (P.getD i 0) 0) 0
  lo : ∀ i, i < 4 → T.getD (S.getD (A.getD i 0) 0) 0 = A.getD (P.getD i 0) 0
  ot : ∀ e, e < 2 * n → e ∉ A → S.getD e 0 ∉ A → T.getD e 0 = S.getD e 0
def P4 (k : Nat) : List Nat := if k = 0 then [1, 0, 3, 2] else if k = 1 then [2, 3, 0, 1] else [3, 2, 1, 0]
theorem P4_ok : ∀ k, k < 3 → ∀ i, i < 4 → (P4 k).getD i 0 < 4 ∧ (P4 k).getD ((P4 k).getD i 0) 0 = i := by decide
def Duo4 (i j s t : Nat) : Prop := (s = i ∧ t = j) ∨ (s = j ∧ t = i) ∨ (s ≠ i ∧ s ≠ j ∧ t ≠ i ∧ t ≠ j)
def duo4 (i j s t : Nat) : Bool := decide ((s = i ∧ t = j) ∨ (s = j ∧ t = i) ∨ (s ≠ i ∧ s ≠ j ∧ t ≠ i ∧ t ≠ j)) && decide (s ≠ t)
theorem comb4B : ((List.range 4).all fun s0 => (List.range 4).all fun s1 => (List.range 4).all fun s2 => (List.range 4).all fun s3 =>
    !(duo4 0 1 s0 s1 && duo4 0 2 s0 s2 && duo4 0 3 s0 s3 && duo4 1 2 s1 s2 && duo4 1 3 s1 s3 && duo4 2 3 s2 s3) || (decide ([s0, s1, s2, s3] = [0, 1, 2, 3]) || (decide ([s0, s1, s2, s3] = P4 0) || (decide ([s0, s1, s2, s3] = P4 1) || decide ([s0, s1, s2, s3] = P4 2))))) = true := by decide +kernel
theorem duo4_of {i j s t : Nat} (h : Duo4 i j s t ∧ s ≠ t) : duo4 i j s t = true := by
  unfold duo4; rw [Bool.and_eq_true, decide_eq_true_iff, decide_eq_true_iff]; exact h
theorem comb4 {s0 s1 s2 s3 : Nat} (h0 : s0 < 4) (h1 : s1 < 4) (h2 : s2 < 4) (h3 : s3 < 4) (d01 : Duo4 0 1 s0 s1 ∧ s0 ≠ s1) (d02 : Duo4 0 2 s0 s2 ∧ s0 ≠ s2) (d03 : Duo4 0 3 s0 s3 ∧ s0 ≠ s3) (d12 : Duo4 1 2 s1 s2 ∧ s1 ≠ s2) (d13 : Duo4 1 3 s1 s3 ∧ s1 ≠ s3) (d23 : Duo4 2 3 s2 s3 ∧ s2 ≠ s3) :
    [s0, s1, s2, s3] = [0, 1, 2, 3] ∨ [s0, s1, s2, s3] = P4 0 ∨ [s0, s1, s2, s3] = P4 1 ∨ [s0, s1, s2, s3] = P4 2 := by
  have h := comb4B
  rw [List.all_eq_true] at h
  have h := h s0 (List.mem_range.mpr h0)
  rw [List.all_eq_true] at h
  have h := h s1 (List.mem_range.mpr h1)
  rw [List.all_eq_true] at h
  have h := h s2 (List.mem_range.mpr h2)
  rw [List.all_eq_true] at h
  have h := h s3 (List.mem_range.mpr h3)
  rw [duo4_of d01, duo4_of d02, duo4_of d03, duo4_of d12, duo4_of d13, duo4_of d23] at h
  simpa using h
theorem four_of {l : List Nat} (h : l.length = 4) : ∃ a b c d, l = [a, b, c, d] := by
  match l, h with
  | [a, b, c, d], _ => exact ⟨a, b, c, d, rfl⟩
theorem Sames.four {S T : List Nat} {n : Nat} (hS : IsPair (2 * n) S) (hT : IsPair (2 * n) T) (he : n % 2 = 0) (h : Sames S T n) (l : (Pc.lse S n).length = 4) (m : 4 ≤ (Pc.lse T n).length) : T = S ∨ ∃ k, k < 3 ∧ Crd S n (upl S n) (P4 k) T := by
  have el := h.lse hS hT he (by omega) (by omega)
  have hl4 : (upl S n).length = 4 := by rw [upl_len hS, l]
  have hnd := upl_nodup S n
  have ilt : ∀ {i j : Nat}, i < 4 → j < 4 → (upl S n).getD i 0 = (upl S n).getD j 0 → i = j := fun {i j} hi hj e => by
    rw [List.getD_eq_getElem?_getD, List.getD_eq_getElem?_getD, List.getElem?_eq_getElem (by omega), List.getElem?_eq_getElem (by omega)] at e
    exact (List.getElem_inj hnd).mp e
  have mem : ∀ i, i < 4 → (upl S n).getD i 0 < n ∧ n ≤ S.getD ((upl S n).getD i 0) 0 := fun i hi => by
    refine upl_mem.mp ?_
    rw [List.getD_eq_getElem?_getD, List.getElem?_eq_getElem (by omega)]
    exact List.getElem_mem _
  have sur : ∀ a, a < n → n ≤ S.getD a 0 → ∃ i, i < 4 ∧ (upl S n).getD i 0 = a := fun a h1 h2 => by
    obtain ⟨i, hi⟩ := List.mem_iff_getElem?.mp (upl_mem.mpr ⟨h1, h2⟩)
    exact ⟨i, by have := get_lt hi; omega, getD_of hi⟩
  have pick : ∀ i, i < 4 → ∃ j, j < 4 ∧ T.getD ((upl S n).getD i 0) 0 = S.getD ((upl S n).getD j 0) 0 := fun i hi => by
    obtain ⟨m1, m2⟩ := mem i hi
    have t1 := h.ups hS hT he (by omega) m m1 m2
    have ta := hT.d (show (upl S n).getD i 0 < 2 * n by omega)
    have tl : T.getD ((upl S n).getD i 0) 0 - n ∈ Pc.lse T n := lse_of (by omega) (by rw [show n + (T.getD ((upl S n).getD i 0) 0 - n) = T.getD ((upl S n).getD i 0) 0 by omega, ta.2.2.1]; exact m1)
    rw [← el] at tl
    have sl := lse_lt tl
    rw [show n + (T.getD ((upl S n).getD i 0) 0 - n) = T.getD ((upl S n).getD i 0) 0 by omega] at sl
    have s2 := hS.d ta.1
    obtain ⟨j, hj, ej⟩ := sur _ sl.2 (by rw [s2.2.2.1]; exact t1)
    exact ⟨j, hj, by rw [ej, s2.2.2.1]⟩
  obtain ⟨s0, h0, e0⟩ := pick 0 (by decide)
  obtain ⟨s1, h1, e1⟩ := pick 1 (by decide)
  obtain ⟨s2, h2, e2⟩ := pick 2 (by decide)
  obtain ⟨s3, h3, e3⟩ := pick 3 (by decide)
  have duo : ∀ {i j s t : Nat}, i < 4 → j < 4 → i ≠ j → s < 4 → t < 4 → T.getD ((upl S n).getD i 0) 0 = S.getD ((upl S n).getD s 0) 0 → T.getD ((upl S n).getD j 0) 0 = S.getD ((upl S n).getD t 0) 0 → Duo4 i j s t ∧ s ≠ t := fun {i j s t} hi hj hij hs ht ei ej => by
    have mi := mem i hi
    have mj := mem j hj
    have si := hS.d (show (upl S n).getD i 0 < 2 * n by omega)
    have sj := hS.d (show (upl S n).getD j 0 < 2 * n by omega)
    have bi : S.getD (n + (S.getD ((upl S n).getD i 0) 0 - n)) 0 = (upl S n).getD i 0 := by rw [show n + (S.getD ((upl S n).getD i 0) 0 - n) = S.getD ((upl S n).getD i 0) 0 by omega]; exact si.2.2.1
    have bj : S.getD (n + (S.getD ((upl S n).getD j 0) 0 - n)) 0 = (upl S n).getD j 0 := by rw [show n + (S.getD ((upl S n).getD j 0) 0 - n) = S.getD ((upl S n).getD j 0) 0 by omega]; exact sj.2.2.1
    have inj : ∀ {u v : Nat}, u < 4 → v < 4 → S.getD ((upl S n).getD u 0) 0 = S.getD ((upl S n).getD v 0) 0 → u = v := fun {u v} hu hv e => ilt hu hv (hS.inj (by have := mem u hu; omega) (by have := mem v hv; omega) e)
    have d := (h.duo hS hT he (by omega) m (x := S.getD ((upl S n).getD i 0) 0 - n) (y := S.getD ((upl S n).getD j 0) 0 - n) (lse_of (by omega) (by omega)) (lse_of (by omega) (by omega)) (fun e => hij (inj hi hj (by omega)))).2.2
    rw [bi, bj, ei, ej] at d
    have ms := mem s hs
    have mt := mem t ht
    refine ⟨?_, fun e => hij (ilt hi hj (hT.inj (by omega) (by omega) (by rw [ei, ej, e])))⟩
    rcases d with ⟨d1, d2⟩ | ⟨d1, d2⟩ | ⟨_, d1, d2, d3, d4⟩
    · exact .inl ⟨inj hs hi (by omega), inj ht hj (by omega)⟩
    · exact .inr (.inl ⟨inj hs hj (by omega), inj ht hi (by omega)⟩)
    · exact .inr (.inr ⟨fun e => d1 (by rw [e]; omega), fun e => d2 (by rw [e]; omega), fun e => d3 (by rw [e]; omega), fun e => d4 (by rw [e]; omega)⟩)
  have d01 := duo (by decide) (by decide) (by decide) h0 h1 e0 e1
  have d02 := duo (by decide) (by decide) (by decide) h0 h2 e0 e2
  have d03 := duo (by decide) (by decide) (by decide) h0 h3 e0 e3
  have d12 := duo (by decide) (by decide) (by decide) h1 h2 e1 e2
  have d13 := duo (by decide) (by decide) (by decide) h1 h3 e1 e3
  have d23 := duo (by decide) (by decide) (by decide) h2 h3 e2 e3
  have sel : ∀ i, i < 4 → T.getD ((upl S n).getD i 0) 0 = S.getD ((upl S n).getD ([s0, s1, s2, s3].getD i 0) 0) 0 := fun i hi => by
    rcases (show i = 0 ∨ i = 1 ∨ i = 2 ∨ i = 3 by omega) with z | z | z | z <;> subst z
    · exact e0
    · exact e1
    · exact e2
    · exact e3
  rcases comb4 h0 h1 h2 h3 d01 d02 d03 d12 d13 d23 with z | zk
  · left
    refine h.all hS hT he (by omega) m fun a ha c => ?_
    obtain ⟨i, hi, rfl⟩ := sur a ha c
    rw [sel i hi, z]
    rcases (show i = 0 ∨ i = 1 ∨ i = 2 ∨ i = 3 by omega) with z | z | z | z <;> subst z <;> rfl
  · right
    obtain ⟨k, hk, z⟩ : ∃ k, k < 3 ∧ [s0, s1, s2, s3] = P4 k := by
      rcases zk with z | z | z
      · exact ⟨0, by decide, z⟩
      · exact ⟨1, by decide, z⟩
      · exact ⟨2, by decide, z⟩
    refine ⟨k, hk, ⟨hT.len, fun i hi => by rw [sel i hi, z], fun i hi => ?_, fun e hel h1 h2 => ?_⟩⟩
    · have pk := P4_ok k hk i hi
      have := sel _ pk.1
      rw [z, pk.2] at this
      have mi := mem _ pk.1
      rw [← this]
      exact (hT.d (by omega)).2.2.1
    · have se := hS.d hel
      by_cases c : e < n
      · exact h.upper hS hT he (by omega) m c (by
          apply Classical.byContradiction
          intro d
          exact h1 (upl_mem.mpr ⟨c, by omega⟩))
      · obtain ⟨x, rfl⟩ : ∃ x, e = n + x := ⟨e - n, by omega⟩
        refine h.low hT he (by omega) (by omega) ?_
        apply Classical.byContradiction
        intro d
        exact h2 (upl_mem.mpr ⟨by omega, by rw [se.2.2.1]; omega⟩)
end Pc
namespace Pc
/-! ### crossings do the same -/
theorem Crd.pair {S T : List Nat} {n k : Nat} (hS : IsPair (2 * n) S) (hk : k < 3) (l : (upl S n).length = 4) (h : Crd S n (upl S n) (P4 k) T) : IsPair (2 * n) T := by
  have mem : ∀ i, i < 4 → (upl S n).getD i 0 < n ∧ n ≤ S.getD ((upl S n).getD i 0) 0 := fun i hi => by
    refine upl_mem.mp ?_
    rw [List.getD_eq_getElem?_getD, List.getElem?_eq_getElem (by omega)]
    exact List.getElem_mem _
  have sur : ∀ a, a ∈ upl S n → ∃ i, i < 4 ∧ (upl S n).getD i 0 = a := fun a ha => by
    obtain ⟨i, hi⟩ := List.mem_iff_getElem?.mp ha
    exact ⟨i, by have := get_lt hi; omega, getD_of hi⟩
  have main : ∀ e, e < 2 * n → T.getD e 0 < 2 * n ∧ T.getD e 0 ≠ e ∧ T.getD (T.getD e 0) 0 = e := fun e he => by
    have se := hS.d he
    by_cases c : e ∈ upl S n
    · obtain ⟨i, hi, rfl⟩ := sur e c
      have pk := P4_ok k hk i hi
      have m1 := mem _ pk.1
      have mi := mem i hi
      have sp := hS.d (show (upl S n).getD ((P4 k).getD i 0) 0 < 2 * n by omega)
      rw [h.up i hi]
      refine ⟨sp.1, by omega, ?_⟩
      rw [h.lo _ pk.1, pk.2]
    · by_cases d : S.getD e 0 ∈ upl S n
      · obtain ⟨i, hi, ei⟩ := sur _ d
        have pk := P4_ok k hk i hi
        have m1 := mem _ pk.1
        have mi := mem i hi
        have ee : e = S.getD ((upl S n).getD i 0) 0 := by rw [ei]; exact se.2.2.1.symm
        have t1 := h.lo i hi
        rw [← ee] at t1 mi
        rw [t1]
        refine ⟨by omega, by omega, ?_⟩
        rw [h.up _ pk.1, pk.2]
        exact ee.symm
      · have o := h.ot e he c d
        rw [o]
        refine ⟨se.1, se.2.1, ?_⟩
        rw [h.ot _ se.1 d (by rw [se.2.2.1]; exact c)]
        exact se.2.2.1
  refine ⟨h.len, fun x hx => ?_⟩
  obtain ⟨m1, m2, m3⟩ := main x hx
  have g : ∀ {y : Nat}, y < 2 * n → T[y]? = some (T.getD y 0) := fun {y} hy => by
    rw [List.getD_eq_getElem?_getD, List.getElem?_eq_getElem (by rw [h.len]; omega)]; rfl
  exact ⟨_, g hx, m1, m2, by rw [g m1, m3]⟩
/-- the lower ends of strands are moved -/
def phi (S T : List Nat) (n e : Nat) : Nat := if n ≤ e ∧ S.getD e 0 < n then T.getD (S.getD e 0) 0 else e
structure Low4 (S T : List Nat) (n : Nat) : Prop where
  hS : IsPair (2 * n) S
  hT : IsPair (2 * n) T
  up : ∀ e, e < n → S.getD e 0 < n → T.getD e 0 = S.getD e 0
  st : ∀ e, e < n → n ≤ S.getD e 0 → n ≤ T.getD e 0
  lo : ∀ e, n ≤ e → e < 2 * n → n ≤ S.getD e 0 → T.getD e 0 = S.getD e 0
theorem Low4.phi {S T : List Nat} {n e : Nat} (h : Low4 S T n) (he : e < 2 * n) : T.getD (phi S T n e) 0 = Pc.phi S T n (S.getD e 0) := by
  have se := h.hS.d he
  unfold Pc.phi
  by_cases c : e < n
  · rw [if_neg (by omega)]
    by_cases d : S.getD e 0 < n
    · rw [if_neg (by omega)]; exact h.up e c d
    · rw [se.2.2.1, if_pos ⟨by omega, c⟩]
  · by_cases d : S.getD e 0 < n
    · rw [if_pos ⟨by omega, d⟩, if_neg (by omega)]
      exact (h.hT.d (by omega)).2.2.1
    · rw [if_neg (by omega), se.2.2.1, if_neg (by omega)]
      exact h.lo e (by omega) he (by omega)
theorem Low4.lt {S T : List Nat} {n e : Nat} (h : Low4 S T n) (he : e < 2 * n) : (n ≤ e → n ≤ Pc.phi S T n e) ∧ (e < n → Pc.phi S T n e = e) := by
  have se := h.hS.d he
  unfold Pc.phi
  refine ⟨fun c => ?_, fun c => if_neg (by omega)⟩
  by_cases d : S.getD e 0 < n
  · rw [if_pos ⟨c, d⟩]
    exact h.st _ d (by rw [se.2.2.1]; exact c)
  · rw [if_neg (by omega)]; exact c
theorem Low4.trail {S T q : List Nat} {n z : Nat} {l : List Nat} (h : Low4 S T n) (hq : IsPair n q) (t : Trail S q n z l) : z < 2 * n → ∃ k, Trail T q n (Pc.phi S T n z) k ∧ k.getLastD 0 = Pc.phi S T n (l.getLastD 0) := by
  induction t with
  | @stop z h1 =>
    intro hz
    have e := h.phi hz
    have sz := h.hS.d hz
    refine ⟨_, .stop (by rw [e]; exact (h.lt sz.1).1 h1), ?_⟩
    show T.getD _ 0 = _
    rw [e]; rfl
  | @go z l h1 h2 ih =>
    intro hz
    have e := h.phi hz
    have sz := h.hS.d hz
    have e2 := (h.lt sz.1).2 h1
    have qz := hq.d h1
    obtain ⟨k, k1, k2⟩ := ih (by omega)
    rw [(h.lt (show q.getD (S.getD z 0) 0 < 2 * n by omega)).2 qz.1] at k1
    refine ⟨_, .go (by rw [e, e2]; exact h1) (by rw [e, e2]; exact k1), ?_⟩
    rw [lastc k1.len.1, lastc h2.len.1, k2]
theorem Low4.rd {S T q : List Nat} {n x : Nat} (h : Low4 S T n) (hq : IsPair n q) (hx : x < n) : (Pc.rd T q n).getD (Pc.phi S T n (n + x) - n) 0 = Pc.phi S T n (n + (Pc.rd S q n).getD x 0) - n := by
  obtain ⟨l, hl, _⟩ := trail_ex h.hS hq (z := n + x) (by omega) (by omega)
  obtain ⟨k, k1, k2⟩ := h.trail hq hl (by omega)
  have p1 := (h.lt (show n + x < 2 * n by omega)).1 (by omega)
  have p2 : Pc.phi S T n (n + x) < 2 * n := by
    have sx := h.hS.d (show n + x < 2 * n by omega)
    unfold Pc.phi
    split
    · exact (h.hT.d sx.1).1
    · omega
  have f := far_d h.hS hq (z := n + x) (by omega) (by omega)
  have e1 : (Pc.rd S q n).getD x 0 = l.getLastD 0 - n := getD_of (by rw [rd_get S q hx, far_is hl])
  refine getD_of ?_
  rw [rd_get T q (by omega), show n + (Pc.phi S T n (n + x) - n) = Pc.phi S T n (n + x) by omega, far_is k1, k2, e1]
  rw [far_is hl] at f
  rw [show n + (l.getLastD 0 - n) = l.getLastD 0 by omega]
theorem Crd.low4 {S T : List Nat} {n k : Nat} (hS : IsPair (2 * n) S) (hk : k < 3) (l : (upl S n).length = 4) (h : Crd S n (upl S n) (P4 k) T) : Low4 S T n where
  hS := hS
  hT := h.pair hS hk l
  up := fun e he c => h.ot e (by omega) (fun z => by have := upl_mem.mp z; omega) (fun z => by
    have := upl_mem.mp z
    rw [(hS.d (show e < 2 * n by omega)).2.2.1] at this
    omega)
  st := fun e he c => by
    obtain ⟨i, hi⟩ := List.mem_iff_getElem?.mp (upl_mem.mpr ⟨he, c⟩)
    have hi4 : i < 4 := by have := get_lt hi; omega
    have pk := P4_ok k hk i hi4
    have := h.up i hi4
    rw [getD_of hi] at this
    rw [this]
    have m : (upl S n).getD ((P4 k).getD i 0) 0 ∈ upl S n := by
      rw [List.getD_eq_getElem?_getD, List.getElem?_eq_getElem (by omega)]
      exact List.getElem_mem _
    exact (upl_mem.mp m).2
  lo := fun e h1 h2 c => h.ot e h2 (fun z => by have := upl_mem.mp z; omega) (fun z => by have := upl_mem.mp z; omega)
/-- a fixed-point-free involution of four -/
theorem inv4B : ((List.range 4).all fun t0 => (List.range 4).all fun t1 => (List.range 4).all fun t2 => (List.range 4).all fun t3 =>
    decide (t0 = 0) || (decide (t1 = 1) || (decide (t2 = 2) || (decide (t3 = 3) || (!(decide ([t0, t1, t2, t3].getD t0 0 = 0) && decide ([t0, t1, t2, t3].getD t1 0 = 1) && decide ([t0, t1, t2, t3].getD t2 0 = 2) && decide ([t0, t1, t2, t3].getD t3 0 = 3)) ||
    (decide ([t0, t1, t2, t3] = P4 0) || (decide ([t0, t1, t2, t3] = P4 1) || decide ([t0, t1, t2, t3] = P4 2)))))))) = true := by decide +kernel
theorem inv4 {t0 t1 t2 t3 : Nat} (h0 : t0 < 4) (h1 : t1 < 4) (h2 : t2 < 4) (h3 : t3 < 4) (n0 : t0 ≠ 0) (n1 : t1 ≠ 1) (n2 : t2 ≠ 2) (n3 : t3 ≠ 3) (e0 : [t0, t1, t2, t3].getD t0 0 = 0) (e1 : [t0, t1, t2, t3].getD t1 0 = 1) (e2 : [t0, t1, t2, t3].getD t2 0 = 2) (e3 : [t0, t1, t2, t3].getD t3 0 = 3) :
    [t0, t1, t2, t3] = P4 0 ∨ [t0, t1, t2, t3] = P4 1 ∨ [t0, t1, t2, t3] = P4 2 := by
  have h := inv4B
  rw [List.all_eq_true] at h
  have h := h t0 (List.mem_range.mpr h0)
  rw [List.all_eq_true] at h
  have h := h t1 (List.mem_range.mpr h1)
  rw [List.all_eq_true] at h
  have h := h t2 (List.mem_range.mpr h2)
  rw [List.all_eq_true] at h
  have h := h t3 (List.mem_range.mpr h3)
  rw [decide_eq_false n0, decide_eq_false n1, decide_eq_false n2, decide_eq_false n3, decide_eq_true e0, decide_eq_true e1, decide_eq_true e2, decide_eq_true e3] at h
  simpa using h
theorem P4_comm : ∀ k, k < 3 → ∀ j, j < 3 → ∀ i, i < 4 → (P4 k).getD ((P4 j).getD i 0) 0 = (P4 j).getD ((P4 k).getD i 0) 0 := by decide
theorem Crd.same {S T : List Nat} {n k : Nat} (hS : IsPair (2 * n) S) (hk : k < 3) (l : (upl S n).length = 4) (h : Crd S n (upl S n) (P4 k) T) : Sames S T n := fun q hq => by
  have hT := h.pair hS hk l
  have L := h.low4 hS hk l
  have hnd := upl_nodup S n
  have hR := rd_pair hS hq
  have hR' := rd_pair hT hq
  have mem : ∀ i, i < 4 → (upl S n).getD i 0 < n ∧ n ≤ S.getD ((upl S n).getD i 0) 0 := fun i hi => by
    refine upl_mem.mp ?_
    rw [List.getD_eq_getElem?_getD, List.getElem?_eq_getElem (by omega)]
    exact List.getElem_mem _
  have ilt : ∀ {i j : Nat}, i < 4 → j < 4 → (upl S n).getD i 0 = (upl S n).getD j 0 → i = j := fun {i j} hi hj e => by
    rw [List.getD_eq_getElem?_getD, List.getD_eq_getElem?_getD, List.getElem?_eq_getElem (by omega), List.getElem?_eq_getElem (by omega)] at e
    exact (List.getElem_inj hnd).mp e
  have low : ∀ i, i < 4 → S.getD ((upl S n).getD i 0) 0 < 2 * n ∧ S.getD (S.getD ((upl S n).getD i 0) 0) 0 = (upl S n).getD i 0 := fun i hi => by
    have := hS.d (show (upl S n).getD i 0 < 2 * n by have := mem i hi; omega)
    exact ⟨this.1, this.2.2.1⟩
  -- loose people by number
  have loose : ∀ x, x ∈ Pc.lse S n → ∃ i, i < 4 ∧ S.getD ((upl S n).getD i 0) 0 = n + x := fun x hx => by
    have h1 := lse_lt hx
    have sx := hS.d (show n + x < 2 * n by omega)
    obtain ⟨i, hi⟩ := List.mem_iff_getElem?.mp (upl_mem.mpr ⟨h1.2, by rw [sx.2.2.1]; omega⟩)
    exact ⟨i, by have := get_lt hi; omega, by rw [getD_of hi]; exact sx.2.2.1⟩
  have isl : ∀ i, i < 4 → S.getD ((upl S n).getD i 0) 0 - n ∈ Pc.lse S n := fun i hi => by
    have m := mem i hi
    have lo := low i hi
    exact lse_of (by omega) (by rw [show n + (S.getD ((upl S n).getD i 0) 0 - n) = S.getD ((upl S n).getD i 0) 0 by omega, lo.2]; exact m.1)
  have inj : ∀ {i j : Nat}, i < 4 → j < 4 → S.getD ((upl S n).getD i 0) 0 - n = S.getD ((upl S n).getD j 0) 0 - n → i = j := fun {i j} hi hj e => by
    have m1 := mem i hi
    have m2 := mem j hj
    exact ilt hi hj (hS.inj (by omega) (by omega) (by omega))
  -- partners by number
  have par : ∀ i, i < 4 → ∃ t, t < 4 ∧ (rd S q n).getD (S.getD ((upl S n).getD i 0) 0 - n) 0 = S.getD ((upl S n).getD t 0) 0 - n ∧ t ≠ i := fun i hi => by
    have r := rd_loose hS hq (isl i hi)
    obtain ⟨t, ht, et⟩ := loose _ r.1
    refine ⟨t, ht, by omega, fun e => r.2 ?_⟩
    rw [e] at et; omega
  obtain ⟨t0, h0, e0, f0⟩ := par 0 (by decide)
  obtain ⟨t1, h1, e1, f1⟩ := par 1 (by decide)
  obtain ⟨t2, h2, e2, f2⟩ := par 2 (by decide)
  obtain ⟨t3, h3, e3, f3⟩ := par 3 (by decide)
  have tt : ∀ i, i < 4 → (rd S q n).getD (S.getD ((upl S n).getD i 0) 0 - n) 0 = S.getD ((upl S n).getD ([t0, t1, t2, t3].getD i 0) 0) 0 - n := fun i hi => by
    rcases (show i = 0 ∨ i = 1 ∨ i = 2 ∨ i = 3 by omega) with z | z | z | z <;> subst z
    · exact e0
    · exact e1
    · exact e2
    · exact e3
  have tlt : ∀ i, i < 4 → [t0, t1, t2, t3].getD i 0 < 4 := fun i hi => by
    rcases (show i = 0 ∨ i = 1 ∨ i = 2 ∨ i = 3 by omega) with z | z | z | z <;> subst z
    · exact h0
    · exact h1
    · exact h2
    · exact h3
  have ttt : ∀ i, i < 4 → [t0, t1, t2, t3].getD ([t0, t1, t2, t3].getD i 0) 0 = i := fun i hi => by
    have a := tt i hi
    have b := tt _ (tlt i hi)
    have r := (hR.d (lse_lt (isl i hi)).1).2.2.1
    rw [a, b] at r
    exact inj (tlt _ (tlt i hi)) hi r
  obtain ⟨j, hj, ej⟩ : ∃ j, j < 3 ∧ [t0, t1, t2, t3] = P4 j := by
    rcases inv4 h0 h1 h2 h3 f0 f1 f2 f3 (ttt 0 (by decide)) (ttt 1 (by decide)) (ttt 2 (by decide)) (ttt 3 (by decide)) with z | z | z
    · exact ⟨0, by decide, z⟩
    · exact ⟨1, by decide, z⟩
    · exact ⟨2, by decide, z⟩
  rw [ej] at tt
  have ph : ∀ i, i < 4 → phi S T n (S.getD ((upl S n).getD i 0) 0) = S.getD ((upl S n).getD ((P4 k).getD i 0) 0) 0 := fun i hi => by
    have m := mem i hi
    unfold phi
    rw [(low i hi).2, if_pos ⟨m.2, m.1⟩, h.up i hi]
  have pid : ∀ x, x < n → x ∉ Pc.lse S n → phi S T n (n + x) = n + x := fun x hx c => by
    unfold phi
    rw [if_neg (fun z => c (lse_of hx z.2))]
  refine (list_d (by rw [rd_len, rd_len]) fun x hx => ?_).symm
  rw [rd_len] at hx
  by_cases c : x ∈ Pc.lse S n
  · obtain ⟨i, hi, ei⟩ := loose x c
    have pk := P4_ok k hk i hi
    have r := L.rd hq (x := S.getD ((upl S n).getD ((P4 k).getD i 0) 0) 0 - n) (lse_lt (isl _ pk.1)).1
    have pj := P4_ok j hj _ pk.1
    have mp := mem _ pk.1
    have mj := mem _ pj.1
    rw [show n + (S.getD ((upl S n).getD ((P4 k).getD i 0) 0) 0 - n) = S.getD ((upl S n).getD ((P4 k).getD i 0) 0) 0 by omega, ph _ pk.1, pk.2, tt _ pk.1, show n + (S.getD ((upl S n).getD ((P4 j).getD ((P4 k).getD i 0) 0) 0) 0 - n) = S.getD ((upl S n).getD ((P4 j).getD ((P4 k).getD i 0) 0) 0) 0 by omega, ph _ pj.1, P4_comm k hk j hj _ pk.1, pk.2, ei, Nat.add_sub_cancel_left] at r
    rw [r, show x = S.getD ((upl S n).getD i 0) 0 - n by omega, tt i hi]
  · have r := L.rd hq hx
    rw [pid x hx c, Nat.add_sub_cancel_left] at r
    have hr := hR.d hx
    have c2 : (rd S q n).getD x 0 ∉ Pc.lse S n := fun z => c (by
      have := (rd_loose hS hq z).1
      rw [hr.2.2.1] at this
      exact this)
    rw [pid _ hr.1 c2, Nat.add_sub_cancel_left] at r
    exact r
/-! ### as the program makes them -/
def crs1 (S A P : List Nat) (fs : List Nat) (i : Nat) : List Nat := (fs.set (A.getD i 0) (S.getD (A.getD (P.getD i 0) 0) 0)).set (S.getD (A.getD (P.getD i 0) 0) 0) (A.getD i 0)
def crsI (S A P : List Nat) (i : Nat) : List Nat := (List.range i).foldl (crs1 S A P) S
theorem crsI_succ (S A P : List Nat) (i : Nat) : crsI S A P (i + 1) = crs1 S A P (crsI S A P i) i := by
  unfold crsI; rw [List.range_succ, List.foldl_append]; rfl
theorem crsI_len (S A P : List Nat) : ∀ i, (crsI S A P i).length = S.length
  | 0 => rfl
  | i + 1 => by rw [crsI_succ]; unfold crs1; rw [List.length_set, List.length_set]; exact crsI_len S A P i
def crs (S : List Nat) (n k : Nat) : List Nat := crsI S (upl S n) (P4 k) 4
theorem getD_set' (fs : List Nat) {a z v : Nat} (ha : a < fs.length) : (fs.set a v).getD z 0 = if z = a then v else fs.getD z 0 := by
  rw [List.getD_eq_getElem?_getD]
  by_cases c : z = a
  · subst c; rw [if_pos rfl, List.getElem?_set_self ha]; rfl
  · rw [if_neg c, List.getElem?_set_ne (Ne.symm c), ← List.getD_eq_getElem?_getD]
theorem crs_crd {S : List Nat} {n k : Nat} (hS : IsPair (2 * n) S) (hk : k < 3) (l : (upl S n).length = 4) : Crd S n (upl S n) (P4 k) (crs S n k) := by
  have hnd := upl_nodup S n
  have mem : ∀ i, i < 4 → (upl S n).getD i 0 < n ∧ n ≤ S.getD ((upl S n).getD i 0) 0 := fun i hi => by
    refine upl_mem.mp ?_
    rw [List.getD_eq_getElem?_getD, List.getElem?_eq_getElem (by omega)]
    exact List.getElem_mem _
  have ilt : ∀ {i j : Nat}, i < 4 → j < 4 → (upl S n).getD i 0 = (upl S n).getD j 0 → i = j := fun {i j} hi hj e => by
    rw [List.getD_eq_getElem?_getD, List.getD_eq_getElem?_getD, List.getElem?_eq_getElem (by omega), List.getElem?_eq_getElem (by omega)] at e
    exact (List.getElem_inj hnd).mp e
  have low : ∀ i, i < 4 → S.getD ((upl S n).getD i 0) 0 < 2 * n ∧ S.getD (S.getD ((upl S n).getD i 0) 0) 0 = (upl S n).getD i 0 := fun i hi => by
    have := hS.d (show (upl S n).getD i 0 < 2 * n by have := mem i hi; omega)
    exact ⟨this.1, this.2.2.1⟩
  have inj : ∀ {i j : Nat}, i < 4 → j < 4 → S.getD ((upl S n).getD i 0) 0 = S.getD ((upl S n).getD j 0) 0 → i = j := fun {i j} hi hj e => ilt hi hj (hS.inj (by have := mem i hi; omega) (by have := mem j hj; omega) e)
  have I : ∀ i, i ≤ 4 → (∀ j, j < i → (crsI S (upl S n) (P4 k) i).getD ((upl S n).getD j 0) 0 = S.getD ((upl S n).getD ((P4 k).getD j 0) 0) 0 ∧ (crsI S (upl S n) (P4 k) i).getD (S.getD ((upl S n).getD ((P4 k).getD j 0) 0) 0) 0 = (upl S n).getD j 0) ∧
      ∀ e, e < 2 * n → e ∉ upl S n → S.getD e 0 ∉ upl S n → (crsI S (upl S n) (P4 k) i).getD e 0 = S.getD e 0 := fun i => by
    induction i with
    | zero => exact fun _ => ⟨fun j hj => absurd hj (Nat.not_lt_zero _), fun e _ _ _ => rfl⟩
    | succ i ih =>
      intro hi
      obtain ⟨g1, g2⟩ := ih (by omega)
      have hl := crsI_len S (upl S n) (P4 k) i
      rw [hS.len] at hl
      have pk := P4_ok k hk i (by omega)
      have mi := mem i (by omega)
      have mp := mem _ pk.1
      have lp := low _ pk.1
      have G : ∀ z, (crsI S (upl S n) (P4 k) (i + 1)).getD z 0 = if z = S.getD ((upl S n).getD ((P4 k).getD i 0) 0) 0 then (upl S n).getD i 0 else if z = (upl S n).getD i 0 then S.getD ((upl S n).getD ((P4 k).getD i 0) 0) 0 else (crsI S (upl S n) (P4 k) i).getD z 0 := fun z => by
        rw [crsI_succ]
        unfold crs1
        rw [getD_set' _ (by rw [List.length_set]; omega), getD_set' _ (by omega)]
      refine ⟨fun j hj => ?_, fun e he h1 h2 => ?_⟩
      · by_cases c : j = i
        · subst c
          refine ⟨?_, ?_⟩
          · rw [G, if_neg (by omega), if_pos rfl]
          · rw [G, if_pos rfl]
        · have pj := P4_ok k hk j (by omega)
          have mj := mem j (by omega)
          have mq := mem _ pj.1
          obtain ⟨a, b⟩ := g1 j (by omega)
          refine ⟨?_, ?_⟩
          · rw [G, if_neg (by omega), if_neg (fun e => c (ilt (by omega) (by omega) e))]; exact a
          · rw [G, if_neg (fun e => c (by
              have := inj pj.1 pk.1 e
              have q1 := pj.2
              rw [this, pk.2] at q1
              exact q1.symm)), if_neg (by omega)]; exact b
      · rw [G, if_neg (fun z => h2 ?_), if_neg (fun z => h1 ?_)]
        · exact g2 e he h1 h2
        · rw [z, List.getD_eq_getElem?_getD, List.getElem?_eq_getElem (by omega)]; exact List.getElem_mem _
        · rw [z, lp.2, List.getD_eq_getElem?_getD, List.getElem?_eq_getElem (by omega)]; exact List.getElem_mem _
  obtain ⟨I1, I2⟩ := I 4 (Nat.le_refl _)
  refine ⟨by show (crsI S (upl S n) (P4 k) 4).length = _; rw [crsI_len, hS.len], fun i hi => (I1 i hi).1, fun i hi => ?_, I2⟩
  have pk := P4_ok k hk i hi
  have := (I1 _ pk.1).2
  rw [pk.2] at this
  exact this
theorem Crd.det {S T U : List Nat} {n k : Nat} (hS : IsPair (2 * n) S) (l : (upl S n).length = 4) (h : Crd S n (upl S n) (P4 k) T) (g : Crd S n (upl S n) (P4 k) U) : T = U := by
  refine list_d (by rw [h.len, g.len]) fun e he => ?_
  rw [h.len] at he
  have sur : ∀ a, a ∈ upl S n → ∃ i, i < 4 ∧ (upl S n).getD i 0 = a := fun a ha => by
    obtain ⟨i, hi⟩ := List.mem_iff_getElem?.mp ha
    exact ⟨i, by have := get_lt hi; omega, getD_of hi⟩
  by_cases c : e ∈ upl S n
  · obtain ⟨i, hi, rfl⟩ := sur e c
    rw [h.up i hi, g.up i hi]
  · by_cases d : S.getD e 0 ∈ upl S n
    · obtain ⟨i, hi, ei⟩ := sur _ d
      have ee : e = S.getD ((upl S n).getD i 0) 0 := by rw [ei]; exact (hS.d he).2.2.1.symm
      rw [ee, h.lo i hi, g.lo i hi]
    · rw [h.ot e he c d, g.ot e he c d]
/-! ### the decision -/
def doS (f g : List Nat) (n : Nat) : Bool :=
  decide (f = g) || (decide ((sts f n).length ≤ 2) && decide ((sts g n).length ≤ 2) && decide (rat f n 0 = rat g n 0)) ||
  (decide ((sts f n).length = 4) && decide ((sts g n).length = 4) && (decide (g = crs f n 0) || decide (g = crs f n 1) || decide (g = crs f n 2)))
theorem doS_iff {f g : List Nat} {n : Nat} (hf : IsPair (2 * n) f) (hg : IsPair (2 * n) g) (he : n % 2 = 0) : doS f g n = true ↔ Sames f g n := by
  have lf := lse_len hf
  have lg := lse_len hg
  have ef := (lse_even hf he).1
  have eg := (lse_even hg he).1
  constructor
  · intro h
    unfold doS at h
    rw [Bool.or_eq_true, Bool.or_eq_true] at h
    rcases h with (h | h) | h
    · rw [of_decide_eq_true h]; exact fun _ _ => rfl
    · rw [Bool.and_eq_true, Bool.and_eq_true, decide_eq_true_iff, decide_eq_true_iff, decide_eq_true_iff] at h
      obtain ⟨⟨h1, h2⟩, h3⟩ := h
      exact fun q hq => by rw [← rat_rd hf he (by omega) hq, ← rat_rd hg he (by omega) hq, h3]
    · rw [Bool.and_eq_true, Bool.and_eq_true, decide_eq_true_iff, decide_eq_true_iff] at h
      obtain ⟨⟨h1, h2⟩, h3⟩ := h
      have l4 : (upl f n).length = 4 := by rw [upl_len hf]; omega
      obtain ⟨k, hk, ek⟩ : ∃ k, k < 3 ∧ g = crs f n k := by
        rw [Bool.or_eq_true, Bool.or_eq_true, decide_eq_true_iff, decide_eq_true_iff, decide_eq_true_iff] at h3
        rcases h3 with (z | z) | z
        · exact ⟨0, by decide, z⟩
        · exact ⟨1, by decide, z⟩
        · exact ⟨2, by decide, z⟩
      rw [ek]
      exact (crs_crd hf hk l4).same hf hk l4
  · intro h
    obtain ⟨q, hq⟩ := a_pair he
    unfold doS
    by_cases c : (sts f n).length ≤ 2
    · have d := h.both hf hg he (by omega)
      have : rat f n 0 = rat g n 0 := by rw [rat_rd hf he (by omega) hq, rat_rd hg he d hq]; exact h q hq
      rw [decide_eq_true c, decide_eq_true (show (sts g n).length ≤ 2 by omega), decide_eq_true this]; simp
    · have d : 3 ≤ (lse g n).length := by
        apply Classical.byContradiction
        intro d
        have := h.symm.both hg hf he (by omega)
        omega
      by_cases e : (lse f n).length = 4
      · have el := h.lse hf hg he (by omega) d
        rcases h.four hf hg he e (by omega) with z | ⟨k, hk, z⟩
        · rw [decide_eq_true z.symm]; rfl
        · have l4 : (upl f n).length = 4 := by rw [upl_len hf]; omega
          have := z.det hf l4 (crs_crd hf hk l4)
          rw [el] at e
          rw [decide_eq_true (show (sts f n).length = 4 by rw [← lf, el, e]), decide_eq_true (show (sts g n).length = 4 by omega)]
          rcases (show k = 0 ∨ k = 1 ∨ k = 2 by omega) with w | w | w <;> (subst w; rw [decide_eq_true this]; simp)
      · have := h.symm.five hg hf he (by omega) (by omega) e
        rw [decide_eq_true this]; rfl
end Pc
namespace Pc
open PySem PySem.Spec PyProof.Rows L2 RZ
/-- a comprehension over a list or a tuple that stays as it is -/
theorem lc_seq' {K : PySem.W.Frag} {a : Addr} {xs : List V} {g : TG} {tt : TT} {te : TE} {vs : List Nat} {σ : L2.St} {H0 H1 : Hp} {Qd : Addr → Hp → Prop} (hS : Sq K H0 a xs) (s0 : Same H0 H1)
    (step : ∀ D, H1 D = none → ∃ Pv : Nat → Hp → Prop, Pv 0 (upd H1 D (.lst [])) ∧ (∀ i H', Pv i H' → Same H0 H') ∧ (∀ i x H', xs[i]? = some x → Pv i H' → g x (wipe σ vs) H' fun σ2 H2 => wipe σ2 vs = wipe σ vs ∧ tt σ2 H2 fun b H3 =>
      if b = true then te σ2 H3 fun y H4 => ∃ acc, H4 D = some (.lst acc) ∧ acc.length < sizeLine ∧ Pv (i + 1) (upd H4 D (.lst (acc ++ [y]))) else Pv (i + 1) H3) ∧ ∀ H', Pv xs.length H' → Qd D H') :
    ((∃ ys, SqL K H1 a ys) ∧ ∀ D, H1 D = none → ∃ W : Nat → Nat → Hp → Prop, (∃ m, W 0 m (upd H1 D (.lst []))) ∧ ∀ i m H, W i m H → ((Itl K a).stop i H ∧ Qd D H) ∨ ((Itl K a).go i H ∧ ∃ Nx : Hp → Prop, (∀ H', Nx H' → ∃ m', m' < m ∧ W (i + 1) m' H') ∧ ∀ x H', (Itl K a).yld i H x H' → g x (wipe σ vs) H' fun σ2 H2 => wipe σ2 vs = wipe σ vs ∧ tt σ2 H2 fun b H3 =>
        if b = true then te σ2 H3 fun y H4 => ∃ acc, H4 D = some (.lst acc) ∧ acc.length < sizeLine ∧ Nx (upd H4 D (.lst (acc ++ [y]))) else Nx H3)) ∨
    ((∃ ys, SqT K H1 a ys) ∧ ∀ D, H1 D = none → ∃ W : Nat → Nat → Hp → Prop, (∃ m, W 0 m (upd H1 D (.lst []))) ∧ ∀ i m H, W i m H → ((Itt K a).stop i H ∧ Qd D H) ∨ ((Itt K a).go i H ∧ ∃ Nx : Hp → Prop, (∀ H', Nx H' → ∃ m', m' < m ∧ W (i + 1) m' H') ∧ ∀ x H', (Itt K a).yld i H x H' → g x (wipe σ vs) H' fun σ2 H2 => wipe σ2 vs = wipe σ vs ∧ tt σ2 H2 fun b H3 =>
        if b = true then te σ2 H3 fun y H4 => ∃ acc, H4 D = some (.lst acc) ∧ acc.length < sizeLine ∧ Nx (upd H4 D (.lst (acc ++ [y]))) else Nx H3)) := by
  rcases hS with h | h
  · refine .inl ⟨⟨_, s0.seq h⟩, fun D nD => ?_⟩
    obtain ⟨Pv, h0, hst, hs, hd⟩ := step D nD
    exact lc_list Pv h0 (fun i H' _ p => (hst i H' p).seq h) hs hd
  · refine .inr ⟨⟨_, same_tup s0 h⟩, fun D nD => ?_⟩
    obtain ⟨Pv, h0, hst, hs, hd⟩ := step D nD
    exact lc_tup Pv h0 (fun i H' _ p => same_tup (hst i H' p) h) hs hd
end Pc
namespace Pc
open PySem PySem.Spec PyProof.Rows L2 RZ
section
variable {P : Program} {w : World} {K : PySem.W.Frag} {mg : Str → Option Value} {base : Heap}
/-! ### numbers of people that are equal -/
def spCheckSizes : Sp := fun vs H Q _ => ∃ n : Nat, vs = [.int n, .int n] ∧ Q .non H
theorem ok_p_check_sizes (T : Env K mg) : FnOk P w K mg base CX0 1 T.f_p_check_sizes T.d_p_check_sizes ["first", "second"] spCheckSizes := by
  refine T.F_p_check_sizes.ok sc_p_check_sizes (fun vs H Q E h => ?_) (fun cdv A outer s H vs Q E hr h => ?_)
  · obtain ⟨n, rfl, _⟩ := h
    rfl
  · obtain ⟨n, rfl, q⟩ := h
    refine ⟨_, pss_one (ps_if (pt_cmpR op_ne (pv 0) (pv 1) (nomark _)) pss_never pss_nil), ?_⟩
    refine ⟨_, rfl, _, rfl, rfl, _, rfl, ite2 (fun c => ?_) (fun _ => q)⟩
    rw [decide_eq_true rfl] at c
    exact absurd c (by decide)
end
end Pc
namespace Pc
open PySem PySem.Spec PyProof.Rows L2 RZ
section
variable {P : Program} {w : World} {K : PySem.W.Frag} {mg : Str → Option Value} {base : Heap}
/-! ### the looks at calls: valid ones raise nothing -/
def spCheckPerson : Sp := fun vs H Q _ => ∃ (n u : Nat), vs = [.int n, .int u] ∧ u < n ∧ Q .non H
theorem ok_p_check_person (T : Env K mg) : FnOk P w K mg base CX0 1 T.f_p_check_person T.d_p_check_person ["size", "person"] spCheckPerson := by
  refine T.F_p_check_person.ok sc_p_check_person (fun vs H Q E h => ?_) (fun cdv A outer s H vs Q E hr h => ?_)
  · obtain ⟨n, u, rfl, _⟩ := h
    rfl
  · obtain ⟨n, u, rfl, hu, q⟩ := h
    refine ⟨_, pss_one (ps_if (pt_not (pt_chain op_le op_lt pe_int (pv 1) (pv 0))) pss_never pss_nil), ?_⟩
    refine ⟨_, rfl, 0, u, rfl, rfl, _, rfl, ?_⟩
    rw [decide_eq_true (show (0 : Int) ≤ (u : Int) by omega)]
    refine iteT ⟨.int n, rfl, u, n, rfl, rfl, _, rfl, ?_⟩
    rw [decide_eq_true (show (u : Int) < (n : Int) by omega)]
    exact iteN q
def spCheckCall (K : PySem.W.Frag) : Sp := fun vs H Q _ => ∃ (n a b : Nat) (c : Addr), vs = [.int n, .ref c] ∧ Sq K H c [.int a, .int b] ∧ a < n ∧ b < n ∧ Q .non H
theorem ok_p_check_call (T : Env K mg) : FnOk P w K mg base CX0 2 T.f_p_check_call T.d_p_check_call ["size", "call"] (spCheckCall K) := by
  have G1 : FnOk P w K mg base CX0 1 T.f_p_check_person T.d_p_check_person ["size", "person"] spCheckPerson := ok_p_check_person T
  refine T.F_p_check_call.ok sc_p_check_call (fun vs H Q E h => ?_) (fun cdv A outer s H vs Q E hr h => ?_)
  · obtain ⟨n, a, b, c, rfl, _⟩ := h
    rfl
  · obtain ⟨n, a, b, c, rfl, hS, ha, hb, q⟩ := h
    refine ⟨_, pss_one (ps_for PassesOwn.never rfl (pi_seq (pv 1)) (pg_name (i := 2) sc_p_check_call.nd rfl (.inl rfl)) (pss_one (ps_expr (pe_call G1 hr (by rfl) T.g_p_check_person T.F_p_check_person.kp T.b_p_check_person .nil pass0 (pa_cons (pv 0) (pa_cons (pv 2) pa_nil)))))), ?_⟩
    refine ⟨.ref c, rfl, c, rfl, for_seq hS (fun i σ H' => H' = H ∧ ∃ y : Option V, σ = [some (.int n), some (.ref c), y]) ⟨rfl, none, rfl⟩ (fun i σ H' h => by rw [h.1]; exact Same.refl _) (fun i x σ H' hx h => ?_) (fun σ H' h => by rw [h.1]; exact q)⟩
    obtain ⟨rfl, y, rfl⟩ := h
    have hx' : ∃ u : Nat, x = .int u ∧ u < n := by
      have hi : i < 2 := get_lt hx
      rcases (show i = 0 ∨ i = 1 by omega) with z | z
      · subst z; exact ⟨a, (Option.some.inj hx).symm, ha⟩
      · subst z; exact ⟨b, (Option.some.inj hx).symm, hb⟩
    obtain ⟨u, rfl, hu⟩ := hx'
    exact ⟨_, rfl, _, rfl, n, u, rfl, hu, rfl, _, rfl⟩
def spCheckWord (K : PySem.W.Frag) : Sp := fun vs H Q _ => ∃ (n : Nat) (wd : Addr) (us : List V) (qs : List (Nat × Nat)), vs = [.int n, .ref wd] ∧ Sq K H wd us ∧ Items K H us qs ∧ Calls n qs ∧ Q .non H
theorem ok_p_check_word (T : Env K mg) : FnOk P w K mg base CX0 3 T.f_p_check_word T.d_p_check_word ["size", "word"] (spCheckWord K) := by
  have G1 : FnOk P w K mg base CX0 2 T.f_p_check_call T.d_p_check_call ["size", "call"] (spCheckCall K) := ok_p_check_call T
  refine T.F_p_check_word.ok sc_p_check_word (fun vs H Q E h => ?_) (fun cdv A outer s H vs Q E hr h => ?_)
  · obtain ⟨n, wd, us, qs, rfl, _⟩ := h
    rfl
  · obtain ⟨n, wd, us, qs, rfl, hS, hI, hc, q⟩ := h
    refine ⟨_, pss_one (ps_for PassesOwn.never rfl (pi_seq (pv 1)) (pg_name (i := 2) sc_p_check_word.nd rfl (.inl rfl)) (pss_one (ps_expr (pe_call G1 hr (by rfl) T.g_p_check_call T.F_p_check_call.kp T.b_p_check_call .nil pass0 (pa_cons (pv 0) (pa_cons (pv 2) pa_nil)))))), ?_⟩
    refine ⟨.ref wd, rfl, wd, rfl, for_seq hS (fun i σ H' => H' = H ∧ ∃ y : Option V, σ = [some (.int n), some (.ref wd), y]) ⟨rfl, none, rfl⟩ (fun i σ H' h => by rw [h.1]; exact Same.refl _) (fun i x σ H' hx h => ?_) (fun σ H' h => by rw [h.1]; exact q)⟩
    obtain ⟨rfl, y, rfl⟩ := h
    obtain ⟨c, p, rfl, hp, hq⟩ := hI.2 i x hx
    have := hc p (List.mem_of_getElem? hp)
    exact ⟨.int n, rfl, .ref c, rfl, n, p.1, p.2, c, rfl, hq, by omega, by omega, rfl, _, rfl⟩
/-! ### join_two -/
def spJoin : Sp := fun vs H Q _ => ∃ (j : Addr) (fs : List Nat) (n a b : Nat), vs = [.ref j, .int a, .int b] ∧ H j = some (.lst (nv fs)) ∧ IsPair n fs ∧ a < n ∧ b < n ∧
  ∀ H' : Hp, H' j = some (.lst (nv (jn fs a b))) → Keep j H H' → Q (.bl (!decide (fs.getD a 0 = b))) H'
theorem ok_p_join_two (T : Env K mg) : FnOk P w K mg base CX0 1 T.f_p_join_two T.d_p_join_two ["joined", "a", "b"] spJoin := by
  refine T.F_p_join_two.ok sc_p_join_two (fun vs H Q E h => ?_) (fun cdv A outer s H vs Q E hr h => ?_)
  · obtain ⟨j, fs, n, a, b, rfl, _⟩ := h
    rfl
  · obtain ⟨j, fs, n, a, b, rfl, hj, hP, ha, hb, q⟩ := h
    refine ⟨_, pss_cons (ps_set (i := 3) sc_p_join_two.nd rfl (.inl rfl) (pe_ix ix_list (pv 0) (pv 1) (fun _ _ => rfl))) <|
      pss_cons (ps_set (i := 4) sc_p_join_two.nd rfl (.inl rfl) (pe_ix ix_list (pv 0) (pv 2) (fun _ _ => rfl))) <|
      pss_cons (ps_if (pt_cmpR op_eq (pv 3) (pv 2) (nomark _)) (pss_one (ps_ret pe_bl)) pss_nil) <|
      pss_cons (ps_asg (pv 2) (pg_sub (pv 0) (pv 1) set_list)) <| pss_cons (ps_asg (pv 1) (pg_sub (pv 0) (pv 2) set_list)) <|
      pss_cons (ps_asg (pv 4) (pg_sub (pv 0) (pv 3) set_list)) <| pss_cons (ps_asg (pv 3) (pg_sub (pv 0) (pv 4) set_list)) <| pss_one (ps_ret pe_bl), ?_⟩
    obtain ⟨c, ea, hc, _⟩ := hP.par a ha
    obtain ⟨d, eb, hd, _⟩ := hP.par b hb
    have hS : SqL K H j (nv fs) := .inl (.inl hj)
    have hl := hP.len
    refine ⟨.ref j, rfl, .int a, rfl, j, _, _, _, rfl, rfl, hS, nv_at ea, ?_⟩
    refine ⟨.ref j, rfl, .int b, rfl, j, _, _, _, rfl, rfl, hS, nv_at eb, ?_⟩
    refine ⟨_, rfl, _, rfl, rfl, _, rfl, ite2 (fun e => ?_) (fun e => ?_)⟩
    · have e1 : c = b := by have := V.int.inj (of_decide_eq_true e); omega
      subst e1
      have := q H (by rw [jn_same ea]; exact hj) (Keep.refl _ _)
      rw [getD_of ea, decide_eq_true rfl] at this
      exact this
    · have e1 : c ≠ b := fun z => e (by rw [z]; exact decide_eq_true rfl)
      have ln : ∀ {l : List V}, l.length = fs.length → ∀ {i : Nat}, i < n → ixN l.length (i : Int) = some i := fun {l} hl2 {i} hi => ixN_nat (by rw [hl2, hl]; exact hi)
      refine ⟨_, rfl, .ref j, rfl, _, rfl, j, _, _, a, rfl, rfl, hj, ln (nv_length _) ha, ?_⟩
      refine ⟨_, rfl, .ref j, rfl, _, rfl, j, _, _, b, rfl, rfl, upd_same, ln (by rw [List.length_set, nv_length]) hb, ?_⟩
      refine ⟨_, rfl, .ref j, rfl, _, rfl, j, _, _, c, rfl, rfl, upd_same, ln (by rw [List.length_set, List.length_set, nv_length]) hc, ?_⟩
      refine ⟨_, rfl, .ref j, rfl, _, rfl, j, _, _, d, rfl, rfl, upd_same, ln (by rw [List.length_set, List.length_set, List.length_set, nv_length]) hd, ?_⟩
      have := q (upd (upd (upd (upd H j (.lst ((nv fs).set a (.int b)))) j (.lst (((nv fs).set a (.int b)).set b (.int a)))) j (.lst ((((nv fs).set a (.int b)).set b (.int a)).set c (.int d)))) j (.lst (((((nv fs).set a (.int b)).set b (.int a)).set c (.int d)).set d (.int c))))
        (by
          rw [upd_same, nv_set, nv_set, nv_set, nv_set]
          unfold jn
          rw [getD_of ea, getD_of eb, if_neg e1])
        (fun x o nx hx => by rw [upd_ne nx, upd_ne nx, upd_ne nx, upd_ne nx]; exact hx)
      rw [getD_of ea, decide_eq_false e1] at this
      exact this
end
end Pc
namespace Pc
open PySem PySem.Spec PyProof.Rows L2 RZ
theorem last_nv (l : List Nat) (z : Nat) : atI (nv (l ++ [z])) (-1) = some (.int (z : Int)) := by
  unfold nv
  rw [List.map_append]
  exact atI_last _ _
theorem last_nv' (l : List Nat) (y z : Nat) : atI (nv (l ++ [y, z])) (-1) = some (.int (z : Int)) := by
  rw [show l ++ [y, z] = (l ++ [y]) ++ [z] by rw [List.append_assoc]; rfl]
  exact last_nv _ _
theorem last_trl {l : List Nat} (h : 2 ≤ l.length) : atI (nv l) (-1) = some (.int ((l.getLastD 0 : Nat) : Int)) := by
  have hne : l ≠ [] := fun e => by rw [e] at h; exact absurd h (by decide)
  have e : l = l.dropLast ++ [l.getLastD 0] := by
    have h1 := List.dropLast_concat_getLast hne
    have h2 := last_get (l := l) (by omega)
    rw [← List.getLast?_eq_getElem?, List.getLast?_eq_some_getLast hne] at h2
    rw [← Option.some.inj h2]; exact h1.symm
  rw [e, show (l.dropLast ++ [l.getLastD 0]).getLastD 0 = l.getLastD 0 by rw [← e]]
  exact last_nv _ _
section
variable {P : Program} {w : World} {K : PySem.W.Frag} {mg : Str → Option Value} {base : Heap}
/-! ### reading -/
/-- the way of a person -/
def spFPath (K : PySem.W.Frag) : Sp := fun vs H Q _ => ∃ (a p : Addr) (fs ps : List Nat) (n x : Nat), vs = [.ref a, .ref p, .int x] ∧ Sq K H a (nv fs) ∧ Sq K H p (nv ps) ∧ IsPair (2 * n) fs ∧ IsPair n ps ∧ x < n ∧ n ≤ 500 ∧
  ∀ (H' : Hp) (t : Addr), Same H H' → H t = none → H' t = some (.lst (nv (trl fs ps n (n + x)))) → Q (.ref t) H'
theorem ok_p_followed_path (T : Env K mg) : FnOk P w K mg base CX0 2 T.f_p_followed_path T.d_p_followed_path ["sheet", "pairing", "person"] (spFPath K) := by
  have G0 : FnOk P w K mg base CX0 1 T.f_p_people_of T.d_p_people_of ["sheet"] (spPeople K) := ok_p_people_of T
  refine T.F_p_followed_path.ok sc_p_followed_path (fun vs H Q E h => ?_) (fun cdv A outer s H vs Q E hr h => ?_)
  · obtain ⟨a, p, fs, ps, n, x, rfl, _⟩ := h
    rfl
  · obtain ⟨a, p, fs, ps, n, x, rfl, ha, hp, hF, hP, hx, hn, q⟩ := h
    refine ⟨_, pss_cons (ps_set (i := 3) sc_p_followed_path.nd rfl (.inl rfl) (pe_call G0 hr (by rfl) T.g_p_people_of T.F_p_people_of.kp T.b_p_people_of .nil pass0 (pa_cons (pv 0) pa_nil))) <|
      pss_cons (ps_set (i := 4) sc_p_followed_path.nd rfl (.inl rfl) (pe_lst (pa_cons (pe_op op_add (pv 3) (pv 2)) (pa_cons (pe_ix ix_seq (pv 0) (pe_op op_add (pv 3) (pv 2)) (fun _ _ => rfl)) pa_nil)))) <|
      pss_cons (ps_while PassesOwn.never (pt_cmpR op_lt (pe_ix ix_list (pv 4) (pe_un un_neg pe_int) (fun _ _ => rfl)) (pv 3) (nomark _))
        (pss_cons (ps_set (i := 5) sc_p_followed_path.nd rfl (.inl rfl) (pe_ix ix_seq (pv 1) (pe_ix ix_list (pv 4) (pe_un un_neg pe_int) (fun _ _ => rfl)) (fun _ _ => rfl))) <|
        pss_cons (ps_expr (pe_bm PySem.F.plainAttrs_list PySem.F.slot_list_append PySem.F.type_list_append mt_append (pv 4) (pa_cons (pv 5) pa_nil))) <|
        pss_one (ps_expr (pe_bm PySem.F.plainAttrs_list PySem.F.slot_list_append PySem.F.type_list_append mt_append (pv 4) (pa_cons (pe_ix ix_seq (pv 0) (pv 5) (fun _ _ => rfl)) pa_nil))))) <|
      pss_one (ps_ret (pv 4)), ?_⟩
    have hl := hF.len
    have c1 : (n : Int) + (x : Int) = ((n + x : Nat) : Int) := by omega
    obtain ⟨d1, _, _, d4⟩ := hF.d (x := n + x) (by omega)
    have a1 : atI (nv fs) ((n : Int) + (x : Int)) = some (.int ((fs.getD (n + x) 0 : Nat) : Int)) := by rw [c1]; exact nv_at d4
    obtain ⟨ht, htl⟩ := trl_trail hF hP (z := n + x) (by omega) (by omega)
    refine ⟨.ref a, rfl, a, fs, n, rfl, ha, hl, ?_⟩
    refine ⟨_, rfl, _, rfl, _, _, rfl, rfl, .ref a, rfl, _, rfl, _, rfl, _, _, rfl, rfl, ix_sq ha a1 ⟨by show 2 ≤ sizeLine; decide, fun e ne => ?_⟩⟩
    have e0 : (upd H e (.lst [.int ((n : Int) + (x : Int)), .int ((fs.getD (n + x) 0 : Nat) : Int)])) e = some (.lst (nv ([] ++ [n + x, fs.getD (n + x) 0]))) := by
      rw [upd_same, c1]; rfl
    refine ⟨fun m σ H' => ∃ (y : Option V) (dn rest : List Nat) (z : Nat), σ = [some (.ref a), some (.ref p), some (.int x), some (.int n), some (.ref e), y] ∧ Same H H' ∧ H' e = some (.lst (nv (dn ++ [z, fs.getD z 0]))) ∧ Trail fs ps n z rest ∧ dn ++ rest = trl fs ps n (n + x) ∧ z < 2 * n ∧ rest.length = m,
      ⟨_, none, [], _, n + x, rfl, same_new ne, e0, ht, rfl, by omega, rfl⟩, fun m σ H' hW => ?_⟩
    obtain ⟨y, dn, rest, z, rfl, sm, ee, tz, et, hz, hm⟩ := hW
    have hlen : dn.length + rest.length ≤ 2 * n + 2 := by
      have := congrArg List.length et
      rw [List.length_append] at this
      omega
    have hr2 := tz.len.1
    refine ⟨.ref e, rfl, 1, rfl, e, _, -1, _, rfl, rfl, .inl (.inl ee), last_nv' _ _ _, _, rfl, _, _, rfl, rfl, _, rfl, ite2 (fun c => ?_) (fun c => ?_)⟩
    · have hc : fs.getD z 0 < n := by have := of_decide_eq_true c; omega
      cases tz with
      | stop h => omega
      | @go _ l _ tz' =>
      obtain ⟨p1, _, _, p4⟩ := hP.d hc
      obtain ⟨f1, _, _, f4⟩ := hF.d (x := ps.getD (fs.getD z 0) 0) (by omega)
      refine ⟨fun σ' H2 => ∃ (y : Option V) (dn rest : List Nat) (z : Nat), σ' = [some (.ref a), some (.ref p), some (.int x), some (.int n), some (.ref e), y] ∧ Same H H2 ∧ H2 e = some (.lst (nv (dn ++ [z, fs.getD z 0]))) ∧ Trail fs ps n z rest ∧ dn ++ rest = trl fs ps n (n + x) ∧ z < 2 * n ∧ rest.length < m,
        fun σ' H2 h2 => ?_, ?_⟩
      · obtain ⟨y', dn', rest', z', g1, g2, g3, g4, g5, g6, g7⟩ := h2
        exact ⟨_, g7, y', dn', rest', z', g1, g2, g3, g4, g5, g6, rfl⟩
      · refine ⟨.ref p, rfl, .ref e, rfl, 1, rfl, e, _, -1, _, rfl, rfl, .inl (.inl ee), last_nv' _ _ _, ix_sq (hp.same sm) (nv_at p4) ?_⟩
        have ls : ∀ {k : Nat} {l : List Nat}, l.length = dn.length + k → k ≤ 4 → (nv l).length < sizeLine := fun {k l} h1 h2 => line_big (by rw [nv_length, h1]; omega)
        refine ⟨.ref e, rfl, .inl ⟨rfl, _, .inl (.inl ee)⟩, _, rfl, e, _, _, rfl, rfl, ee, ls (k := 2) (by rw [List.length_append]; rfl) (by omega), ?_⟩
        have e1 : (upd H' e (.lst (nv (dn ++ [z, fs.getD z 0]) ++ [.int ((ps.getD (fs.getD z 0) 0 : Nat) : Int)]))) e = some (.lst (nv (dn ++ [z, fs.getD z 0] ++ [ps.getD (fs.getD z 0) 0]))) := by rw [upd_same, nv_snoc']
        have s1 : Same H (upd H' e (.lst (nv (dn ++ [z, fs.getD z 0]) ++ [.int ((ps.getD (fs.getD z 0) 0 : Nat) : Int)]))) := fun b o hb => by rw [upd_ne (ne_of_none hb ne)]; exact sm _ _ hb
        revert e1 s1
        generalize upd H' e (.lst (nv (dn ++ [z, fs.getD z 0]) ++ [.int ((ps.getD (fs.getD z 0) 0 : Nat) : Int)])) = H1
        intro e1 s1
        refine ⟨.ref e, rfl, .inl ⟨rfl, _, .inl (.inl e1)⟩, .ref a, rfl, _, rfl, ix_sq (ha.same s1) (nv_at f4) ⟨e, _, _, rfl, rfl, e1, ls (k := 3) (by rw [List.length_append, List.length_append]; rfl) (by omega), ?_⟩⟩
        refine ⟨_, dn ++ [z, fs.getD z 0], l, ps.getD (fs.getD z 0) 0, rfl, fun b o hb => ?_, ?_, tz', ?_, by omega, by rw [← hm]; simp only [List.length_cons]; omega⟩
        · rw [upd_ne (ne_of_none hb ne)]; exact s1 _ _ hb
        · rw [upd_same, nv_snoc', List.append_assoc (dn ++ [z, fs.getD z 0])]; rfl
        · rw [← et, List.append_assoc]; rfl
    · cases tz with
      | go h _ => exact absurd (decide_eq_true (show ((fs.getD z 0 : Nat) : Int) < (n : Int) by omega)) c
      | stop h =>
        rw [et] at ee
        exact ⟨.ref e, rfl, q H' e sm ne ee⟩
/-- result -/
def spResult (K : PySem.W.Frag) : Sp := fun vs H Q _ => ∃ (a p : Addr) (fs ps : List Nat) (n : Nat), vs = [.ref a, .ref p] ∧ Sq K H a (nv fs) ∧ Sq K H p (nv ps) ∧ IsPair (2 * n) fs ∧ IsPair n ps ∧ n ≤ 500 ∧
  ∀ (H' : Hp) (t : Addr), Same H H' → H t = none → H' t = some (.tup (nv (rd fs ps n))) → Q (.ref t) H'
theorem rd_step (fs ps : List Nat) {n i : Nat} (h : i < n) : (rd fs ps n).take (i + 1) = (rd fs ps n).take i ++ [far fs ps n (n + i) - n] := by
  rw [List.take_add_one, rd_get fs ps h]; rfl
theorem ok_p_result (T : Env K mg) : FnOk P w K mg base CX0 3 T.f_p_result T.d_p_result ["sheet", "pairing"] (spResult K) := by
  have G0 : FnOk P w K mg base CX0 1 T.f_p_people_of T.d_p_people_of ["sheet"] (spPeople K) := ok_p_people_of T
  have G1 : FnOk P w K mg base CX0 1 T.f_p_check_sizes T.d_p_check_sizes ["first", "second"] spCheckSizes := ok_p_check_sizes T
  have G2 : FnOk P w K mg base CX0 2 T.f_p_followed_path T.d_p_followed_path ["sheet", "pairing", "person"] (spFPath K) := ok_p_followed_path T
  refine T.F_p_result.ok sc_p_result (fun vs H Q E h => ?_) (fun cdv A outer s H vs Q E hr h => ?_)
  · obtain ⟨a, p, fs, ps, n, rfl, _⟩ := h
    rfl
  · obtain ⟨a, p, fs, ps, n, rfl, ha, hp, hF, hP, hn, q⟩ := h
    have h1 := hr.mono (show 1 ≤ 2 by decide)
    refine ⟨_, pss_cons (ps_set (i := 2) sc_p_result.nd rfl (.inr rfl) (pe_call G0 h1 (by rfl) T.g_p_people_of T.F_p_people_of.kp T.b_p_people_of .nil pass0 (pa_cons (pv 0) pa_nil))) <|
      pss_cons (ps_expr (pe_call G1 h1 (by rfl) T.g_p_check_sizes T.F_p_check_sizes.kp T.b_p_check_sizes .nil pass0 (pa_cons (pv 2) (pa_cons (pe_callB call_len_seq (by rfl) T.n_len PySem.boot_len (pa_cons (pv 1) pa_nil)) pa_nil)))) <|
      pss_one (ps_ret (pe_callTy call_tuple_of (by rfl) T.n_tuple (by decide +kernel) (pa_cons
        (pe_lc (own := [("person", 3)]) (g := gName 3) (tt := tYes) (te := tOp (rI0 fun i j => .int (i - j)) (tOp (rIxL K) (tCall (spFPath K) [] (fun _ _ _ => False) (tCons (tVar 0) (tCons (tVar 1) (tCons (tVar 3) tNil)))) (tUn (rU fun i => .int (-i)) (tC (.int 1)))) (tVar 2)) rfl sc_p_result.nd
          (pi_range1 (by rfl) T.n_range (pa_cons (pv 2) pa_nil)) (blkOk_by (N := N_p_result) (sc := defScope s_p_result) (by decide +kernel)) (fun _ _ _ _ _ => pg_name (i := 3) sc_p_result.nd rfl (.inl rfl)) (fun _ _ _ _ _ => pts_nil)
          (fun _ _ _ _ _ => pe_op op_sub (pe_ix ix_list (pe_call G2 hr (by rfl) T.g_p_followed_path T.F_p_followed_path.kp T.b_p_followed_path .nil pass0 (pa_cons (pv 0) (pa_cons (pv 1) (pa_cons (pv 3) pa_nil)))) (pe_un un_neg pe_int) (fun _ _ => rfl)) (pv 2))) pa_nil))), ?_⟩
    have hl := hF.len
    have hlp : ((nv ps).length : Int) = (n : Nat) := by rw [nv_length, hP.len]
    refine ⟨.ref a, rfl, a, fs, n, rfl, ha, hl, ?_⟩
    refine ⟨_, rfl, .ref p, rfl, p, _, rfl, hp, n, ?_, ?_⟩
    · show [V.int (n : Int), V.int ((nv ps).length : Int)] = _
      rw [hlp]
    refine ⟨_, rfl, _, rfl, by omega, by omega, fun D nD => ?_⟩
    rw [show ((n : Int)).toNat = n by omega]
    refine lc_range (n := n) (fun i H' => Same H H' ∧ H' D = some (.lst (nv ((rd fs ps n).take i)))) ⟨same_new nD, upd_same⟩ (fun i H1 hi hPv => ?_) (fun H1 hPv => ?_)
    · obtain ⟨sm, eD⟩ := hPv
      refine ⟨rfl, yes_if ⟨.ref a, rfl, .ref p, rfl, _, rfl, a, p, fs, ps, n, i, ?_, ha.same sm, hp.same sm, hF, hP, hi, hn, fun H2 t s2 nt et => ?_⟩⟩
      · show [V.ref a, V.ref p, V.int ((0 : Int) + (i : Nat))] = _
        rw [Int.zero_add]
      obtain ⟨tt, _⟩ := trl_trail hF hP (z := n + i) (by omega) (by omega)
      have hf := far_d hF hP (z := n + i) (by omega) (by omega)
      refine ⟨1, rfl, t, _, -1, _, rfl, rfl, .inl (.inl et), last_trl tt.len.1, _, rfl, _, _, rfl, rfl, _, s2 _ _ eD, line_big (by rw [nv_length, List.length_take, rd_len]; omega), fun b o hb => ?_, ?_⟩
      · rw [upd_ne (ne_of_none hb nD)]; exact s2 _ _ (sm _ _ hb)
      · rw [upd_same, rd_step fs ps hi, ← nv_snoc']
        show some (HO.lst (nv ((rd fs ps n).take i) ++ [V.int (((far fs ps n (n + i) : Nat) : Int) - (n : Int))])) = _
        rw [show ((far fs ps n (n + i) : Nat) : Int) - (n : Int) = ((far fs ps n (n + i) - n : Nat) : Int) by omega]
    · obtain ⟨s1, eD⟩ := hPv
      rw [List.take_of_length_le (Nat.le_of_eq (rd_len fs ps n))] at eD
      exact ⟨D, _, rfl, .inl ⟨.inl (.inl eD), fun t nt => q _ t (s1.trans (same_new nt)) (s1.free nt) upd_same⟩⟩
end
end Pc
namespace Pc
open PySem PySem.Spec PyProof.Rows L2 RZ
section
variable {P : Program} {w : World} {K : PySem.W.Frag} {mg : Str → Option Value} {base : Heap}
/-! ### path -/
theorem ok_p_path (T : Env K mg) : FnOk P w K mg base CX0 3 T.f_p_path T.d_p_path ["sheet", "pairing", "person"] (spFPath K) := by
  have G0 : FnOk P w K mg base CX0 1 T.f_p_people_of T.d_p_people_of ["sheet"] (spPeople K) := ok_p_people_of T
  have G1 : FnOk P w K mg base CX0 1 T.f_p_check_sizes T.d_p_check_sizes ["first", "second"] spCheckSizes := ok_p_check_sizes T
  have G2 : FnOk P w K mg base CX0 1 T.f_p_check_person T.d_p_check_person ["size", "person"] spCheckPerson := ok_p_check_person T
  have G3 : FnOk P w K mg base CX0 2 T.f_p_followed_path T.d_p_followed_path ["sheet", "pairing", "person"] (spFPath K) := ok_p_followed_path T
  refine T.F_p_path.ok sc_p_path (fun vs H Q E h => ?_) (fun cdv A outer s H vs Q E hr h => ?_)
  · obtain ⟨a, p, fs, ps, n, x, rfl, _⟩ := h
    rfl
  · obtain ⟨a, p, fs, ps, n, x, rfl, ha, hp, hF, hP, hx, hn, q⟩ := h
    have h1 := hr.mono (show 1 ≤ 2 by decide)
    refine ⟨_, pss_cons (ps_expr (pe_call G1 h1 (by rfl) T.g_p_check_sizes T.F_p_check_sizes.kp T.b_p_check_sizes .nil pass0 (pa_cons (pe_call G0 h1 (by rfl) T.g_p_people_of T.F_p_people_of.kp T.b_p_people_of .nil pass0 (pa_cons (pv 0) pa_nil)) (pa_cons (pe_callB call_len_seq (by rfl) T.n_len PySem.boot_len (pa_cons (pv 1) pa_nil)) pa_nil)))) <| pss_cons (ps_expr (pe_call G2 h1 (by rfl) T.g_p_check_person T.F_p_check_person.kp T.b_p_check_person .nil pass0 (pa_cons (pe_callB call_len_seq (by rfl) T.n_len PySem.boot_len (pa_cons (pv 1) pa_nil)) (pa_cons (pv 2) pa_nil)))) <| pss_one (ps_ret (pe_call G3 hr (by rfl) T.g_p_followed_path T.F_p_followed_path.kp T.b_p_followed_path .nil pass0 (pa_cons (pv 0) (pa_cons (pv 1) (pa_cons (pv 2) pa_nil))))), ?_⟩
    have hlp : ((nv ps).length : Int) = (n : Nat) := by rw [nv_length, hP.len]
    refine ⟨.ref a, rfl, a, fs, n, rfl, ha, hF.len, .ref p, rfl, p, _, rfl, hp, n, ?_, ?_⟩
    · show [V.int (n : Int), V.int ((nv ps).length : Int)] = _
      rw [hlp]
    refine ⟨.ref p, rfl, p, _, rfl, hp, _, rfl, n, x, ?_, hx, ?_⟩
    · show [V.int ((nv ps).length : Int), V.int (x : Int)] = _
      rw [hlp]
    exact ⟨_, rfl, _, rfl, _, rfl, a, p, fs, ps, n, x, rfl, ha, hp, hF, hP, hx, hn, q⟩
end
end Pc
namespace Pc
open PySem PySem.Spec PyProof.Rows L2 RZ
theorem emp_two (n : Nat) : emp n = ((List.range n).map fun i => n + i) ++ List.range n := by
  refine List.ext_getElem? fun z => ?_
  by_cases h : z < n
  · rw [emp_lo h, List.getElem?_append_left (by rw [List.length_map, List.length_range]; exact h), List.getElem?_map, List.getElem?_range h]
    rfl
  · rw [List.getElem?_append_right (by rw [List.length_map, List.length_range]; omega), List.length_map, List.length_range]
    by_cases h2 : z < 2 * n
    · have := emp_hi (n := n) (e := z - n) (by omega)
      rw [show n + (z - n) = z by omega] at this
      rw [this, List.getElem?_range (by omega)]
    · rw [List.getElem?_eq_none (by rw [emp_len]; omega), List.getElem?_eq_none (by rw [List.length_range]; omega)]
end Pc
namespace Pc
open PySem PySem.Spec PyProof.Rows L2 RZ
section
variable {P : Program} {w : World} {K : PySem.W.Frag} {mg : Str → Option Value} {base : Heap}
/-! ### the empty sheet -/
def spEmpty : Sp := fun vs H Q _ => ∃ n : Nat, vs = [.int n] ∧ n ≤ 1000 ∧ ∀ (H' : Hp) (t : Addr), Same H H' → H t = none → H' t = some (.tup (nv (emp n))) → Q (.ref t) H'
theorem ok_p_empty_sheet (T : Env K mg) : FnOk P w K mg base CX0 1 T.f_p_empty_sheet T.d_p_empty_sheet ["size"] spEmpty := by
  refine T.F_p_empty_sheet.ok sc_p_empty_sheet (fun vs H Q E h => ?_) (fun cdv A outer s H vs Q E hr h => ?_)
  · obtain ⟨n, rfl, _⟩ := h
    rfl
  · obtain ⟨n, rfl, hn, q⟩ := h
    refine ⟨_, pss_one (ps_ret (pe_callTy call_tuple_of (by rfl) T.n_tuple (by decide +kernel) (pa_cons (pe_op op_cat (pe_listRg rfl (by rfl) T.n_list (prg_2 (by rfl) T.n_range (pv 0) (pe_op op_mul pe_int (pv 0)))) (pe_listRg rfl (by rfl) T.n_list (prg_1 (by rfl) T.n_range (pv 0)))) pa_nil))), ?_⟩
    refine ⟨_, rfl, _, rfl, 2, n, rfl, rfl, .inl ⟨by decide, by decide⟩, _, _, rfl, rfl, RgOk.of_le (by omega) (by omega) (by omega) (by omega), fun a na => ?_⟩
    have s1 : Same H _ := same_new (o := .lst (rgV (n : Int) (2 * (n : Int)))) na
    refine ⟨_, rfl, _, rfl, RgOk.of_le (by decide) (by omega) (by decide) (by omega), fun c nc => ?_⟩
    have s2 : Same (upd H a (.lst (rgV (n : Int) (2 * (n : Int))))) _ := same_new (o := .lst (rgV 0 (n : Int))) nc
    refine ⟨a, c, _, _, rfl, rfl, s2 _ _ upd_same, upd_same, ?_, fun d nd => ?_⟩
    · rw [rgV_length, rgV_length]
      exact Nat.le_of_lt (line_big (by omega))
    refine ⟨d, _, rfl, .inl ⟨.inl (.inl upd_same), fun t nt => ?_⟩⟩
    have s3 := (s1.trans s2).trans (same_new (o := .lst (rgV (n : Int) (2 * (n : Int)) ++ rgV 0 (n : Int))) nd)
    refine q _ t (s3.trans (same_new nt)) (s3.free nt) ?_
    rw [upd_same, range_shift, rg_nv, emp_two]
    unfold nv
    rw [List.map_append]
end
end Pc
namespace Pc
open PySem PySem.Spec PyProof.Rows L2 RZ
section
variable {P : Program} {w : World} {K : PySem.W.Frag} {mg : Str → Option Value} {base : Heap}
/-! ### sheets with words added -/
def spWithWord (K : PySem.W.Frag) : Sp := fun vs H Q _ => ∃ (a wd : Addr) (fs : List Nat) (us : List V) (qs : List (Nat × Nat)) (n : Nat), vs = [.ref a, .ref wd] ∧ Sq K H a (nv fs) ∧ IsPair (2 * n) fs ∧ Sq K H wd us ∧ Items K H us qs ∧ Calls n qs ∧ n ≤ 1000 ∧
  ∀ (H' : Hp) (t : Addr), Same H H' → H t = none → H' t = some (.tup (nv (shw n qs fs))) → Q (.ref t) H'
theorem ok_p_with_word (T : Env K mg) : FnOk P w K mg base CX0 4 T.f_p_with_word T.d_p_with_word ["sheet", "word"] (spWithWord K) := by
  have G0 : FnOk P w K mg base CX0 1 T.f_p_people_of T.d_p_people_of ["sheet"] (spPeople K) := ok_p_people_of T
  have G1 : FnOk P w K mg base CX0 3 T.f_p_check_word T.d_p_check_word ["size", "word"] (spCheckWord K) := ok_p_check_word T
  have G2 : FnOk P w K mg base CX0 1 T.f_p_join_two T.d_p_join_two ["joined", "a", "b"] spJoin := ok_p_join_two T
  refine T.F_p_with_word.ok sc_p_with_word (fun vs H Q E h => ?_) (fun cdv A outer s H vs Q E hr h => ?_)
  · obtain ⟨a, wd, fs, us, qs, n, rfl, _⟩ := h
    rfl
  · obtain ⟨a, wd, fs, us, qs, n, rfl, ha, hP, hw, hI, hc, hn, q⟩ := h
    have h1 := hr.mono (show 1 ≤ 3 by decide)
    refine ⟨_, pss_cons (ps_set (i := 2) sc_p_with_word.nd rfl (.inl rfl) (pe_call G0 h1 (by rfl) T.g_p_people_of T.F_p_people_of.kp T.b_p_people_of .nil pass0 (pa_cons (pv 0) pa_nil))) <|
      pss_cons (ps_expr (pe_call G1 hr (by rfl) T.g_p_check_word T.F_p_check_word.kp T.b_p_check_word .nil pass0 (pa_cons (pv 2) (pa_cons (pv 1) pa_nil)))) <|
      pss_cons (ps_set (i := 3) sc_p_with_word.nd rfl (.inl rfl) (pe_callTy call_list_of (by rfl) T.n_list (by decide +kernel) (pa_cons (pv 0) pa_nil))) <|
      pss_cons (ps_for PassesOwn.never rfl (pi_seq (pv 1)) (pg_seq (by rfl) (pgs_cons (pg_name (i := 4) sc_p_with_word.nd rfl (.inl rfl)) (pgs_cons (pg_name (i := 5) sc_p_with_word.nd rfl (.inl rfl)) pgs_nil)))
        (pss_one (ps_expr (pe_call G2 h1 (by rfl) T.g_p_join_two T.F_p_join_two.kp T.b_p_join_two .nil pass0 (pa_cons (pv 3) (pa_cons (pe_op op_add (pv 2) (pv 4)) (pa_cons (pe_op op_add (pv 2) (pv 5)) pa_nil))))))) <|
      pss_one (ps_ret (pe_callTy call_tuple_of (by rfl) T.n_tuple (by decide +kernel) (pa_cons (pv 3) pa_nil))), ?_⟩
    refine ⟨.ref a, rfl, a, fs, n, rfl, ha, hP.len, ?_⟩
    refine ⟨_, rfl, .ref wd, rfl, n, wd, us, qs, rfl, hw, hI, hc, ?_⟩
    refine ⟨.ref a, rfl, a, _, rfl, ha, fun l nl => ?_⟩
    have s0 : Same H (upd H l (.lst (nv fs))) := same_new nl
    refine ⟨.ref wd, rfl, wd, rfl, for_seq hw (fun i σ H' => Same H H' ∧ ∃ (y4 y5 : Option V), σ = [some (.ref a), some (.ref wd), some (.int n), some (.ref l), y4, y5] ∧ H' l = some (.lst (nv (shw n (qs.take i) fs)))) ⟨s0, none, none, rfl, upd_same⟩ (fun i σ H' h => h.1) (fun i x σ H' hx h => ?_) (fun σ H' h => ?_)⟩
    · obtain ⟨sm, y4, y5, rfl, el⟩ := h
      obtain ⟨c, r, rfl, hr', hq⟩ := hI.2 i x hx
      have hcr := hc r (List.mem_of_getElem? hr')
      refine ⟨c, _, rfl, hq.same sm, rfl, _, _, rfl, _, _, rfl, rfl, .ref l, rfl, _, rfl, _, rfl, _, _, rfl, rfl, _, rfl, _, rfl, _, _, rfl, rfl, l, _, 2 * n, n + r.1, n + r.2, ?_, el, shw_pair hP (hc.take i), by omega, by omega, fun H2 e2 k2 => ?_⟩
      · show [V.ref l, V.int ((n : Int) + (r.1 : Int)), V.int ((n : Int) + (r.2 : Int))] = _
        rw [show (n : Int) + (r.1 : Int) = ((n + r.1 : Nat) : Int) by omega, show (n : Int) + (r.2 : Int) = ((n + r.2 : Nat) : Int) by omega]
      · refine ⟨fun b o hb => k2 b o (ne_of_none hb nl) (sm _ _ hb), _, _, rfl, ?_⟩
        rw [shw_take hr']
        exact e2
    · obtain ⟨sm, y4, y5, rfl, el⟩ := h
      rw [hI.1, List.take_length] at el
      exact ⟨.ref l, rfl, l, _, rfl, .inl ⟨.inl (.inl el), fun t nt => q _ t (sm.trans (same_new nt)) (sm.free nt) upd_same⟩⟩
end
end Pc
namespace Pc
open PySem PySem.Spec PyProof.Rows L2 RZ
section
variable {P : Program} {w : World} {K : PySem.W.Frag} {mg : Str → Option Value} {base : Heap}
/-! ### sheets of words -/
def spPSheetOf (K : PySem.W.Frag) : Sp := fun vs H Q _ => ∃ (n : Nat) (wd : Addr) (us : List V) (qs : List (Nat × Nat)), vs = [.int n, .ref wd] ∧ Sq K H wd us ∧ Items K H us qs ∧ Calls n qs ∧ 0 < n ∧ n ≤ 1000 ∧
  ∀ (H' : Hp) (t : Addr), Same H H' → H t = none → H' t = some (.tup (nv (shw n qs (emp n)))) → Q (.ref t) H'
theorem ok_p_sheet_of (T : Env K mg) : FnOk P w K mg base CX0 5 T.f_p_sheet_of T.d_p_sheet_of ["size", "word"] (spPSheetOf K) := by
  have G0 : FnOk P w K mg base CX0 1 T.f_p_empty_sheet T.d_p_empty_sheet ["size"] spEmpty := ok_p_empty_sheet T
  have G1 : FnOk P w K mg base CX0 4 T.f_p_with_word T.d_p_with_word ["sheet", "word"] (spWithWord K) := ok_p_with_word T
  refine T.F_p_sheet_of.ok sc_p_sheet_of (fun vs H Q E h => ?_) (fun cdv A outer s H vs Q E hr h => ?_)
  · obtain ⟨n, wd, us, qs, rfl, _⟩ := h
    rfl
  · obtain ⟨n, wd, us, qs, rfl, hw, hI, hc, h0, hn, q⟩ := h
    refine ⟨_, pss_one (ps_ret (pe_call G1 hr (by rfl) T.g_p_with_word T.F_p_with_word.kp T.b_p_with_word .nil pass0 (pa_cons (pe_call G0 (hr.mono (by decide)) (by rfl) T.g_p_empty_sheet T.F_p_empty_sheet.kp T.b_p_empty_sheet .nil pass0 (pa_cons (pv 0) pa_nil)) (pa_cons (pv 1) pa_nil)))), ?_⟩
    refine ⟨_, rfl, n, rfl, hn, fun H1 t s1 nt et => ?_⟩
    refine ⟨.ref wd, rfl, t, wd, emp n, us, qs, n, rfl, .inr (.inl (.inl et)), emp_pair h0, hw.same s1, hI.same s1, hc, hn, fun H2 t2 s2 nt2 et2 => q H2 t2 (s1.trans s2) (s1.free nt2) et2⟩
end
end Pc
namespace Pc
open PySem PySem.Spec PyProof.Rows L2 RZ
/-! ### pairs, sorted, whatever they are (pk and perm_refs are also in lib43: never both) -/
def pk (H : Hp) : V → Int × Int := fun v => match v with
  | .ref t => match H t with
    | some (.tup [.int i, .int j]) => (i, j)
    | _ => (0, 0)
  | _ => (0, 0)
theorem pk_of {H : Hp} {t : Addr} {i j : Int} (h : H t = some (.tup [.int i, .int j])) : pk H (.ref t) = (i, j) := by
  unfold pk
  simp only [h]
theorem perm_refs {ys : List V} {as : List Addr} (h : ys.Perm (as.map V.ref)) : ∃ bs : List Addr, ys = bs.map V.ref ∧ bs.Perm as := by
  obtain ⟨bs, e1, e2⟩ := perm_map_inv V.ref h.symm as rfl
  exact ⟨bs, e1, e2⟩
def leP (p q : Nat × Nat) : Bool := decide (p.1 < q.1) || (decide (p.1 = q.1) && decide (p.2 ≤ q.2))
def srt (qs : List (Nat × Nat)) : List (Nat × Nat) := qs.mergeSort leP
theorem srt_perm (qs : List (Nat × Nat)) : (srt qs).Perm qs := List.mergeSort_perm qs leP
theorem leP_iff {p q : Nat × Nat} : leP p q = true ↔ ¬ (q.1 < p.1 ∨ (q.1 = p.1 ∧ q.2 < p.2)) := by
  unfold leP
  rw [Bool.or_eq_true, Bool.and_eq_true, decide_eq_true_iff, decide_eq_true_iff, decide_eq_true_iff]
  omega
theorem srt_asc (qs : List (Nat × Nat)) : (srt qs).Pairwise (fun p q => ¬ (q.1 < p.1 ∨ (q.1 = p.1 ∧ q.2 < p.2))) := by
  refine List.Pairwise.imp (R := fun p q => leP p q = true) (fun {a b} h => leP_iff.mp h) (List.pairwise_mergeSort (fun a b c h1 h2 => ?_) (fun a b => ?_) qs)
  · rw [leP_iff] at h1 h2 ⊢; omega
  · rw [Bool.or_eq_true, leP_iff, leP_iff]; omega
theorem asc_srt {rs ts : List (Nat × Nat)} (hp : rs.Perm ts) (h1 : rs.Pairwise (fun p q => ¬ (q.1 < p.1 ∨ (q.1 = p.1 ∧ q.2 < p.2)))) (h3 : ts.Pairwise (fun p q => ¬ (q.1 < p.1 ∨ (q.1 = p.1 ∧ q.2 < p.2)))) : rs = ts := by
  refine List.Perm.eq_of_pairwise (le := fun p q : Nat × Nat => ¬ (q.1 < p.1 ∨ (q.1 = p.1 ∧ q.2 < p.2))) (fun a b _ _ hab hba => ?_) h1 h3 hp
  obtain ⟨a1, a2⟩ := a
  obtain ⟨b1, b2⟩ := b
  simp only at hab hba
  have : a1 = b1 := by omega
  have : a2 = b2 := by omega
  subst a1 a2; rfl
theorem sort_prsL {K : PySem.W.Frag} {H : Hp} {a : Addr} {as : List Addr} {qs : List (Nat × Nat)} {Q : VK} (hS : SqL K H a (as.map V.ref)) (hA : Prs H as qs)
    (h : ∀ (p : Addr) (bs : List Addr), H p = none → Prs H bs (srt qs) → Q (.ref p) (upd H p (.lst (bs.map V.ref)))) : rSortedPO K [.ref a] H Q := by
  refine ⟨a, _, pk H, rfl, hS, fun x hx => ?_, fun ys p sr st np => ?_⟩
  · obtain ⟨t, ht, rfl⟩ := List.mem_map.mp hx
    obtain ⟨i, hi⟩ := List.getElem?_of_mem ht
    obtain ⟨r, hr, e⟩ := prs_get hA hi
    exact ⟨t, rfl, by rw [pk_of e]; exact e⟩
  · obtain ⟨bs, rfl, hb⟩ := perm_refs st.perm
    obtain ⟨rs, hrs, hB⟩ := paired_perm hb.symm qs hA
    have hB' : Prs H bs rs := hB
    have h1 : rs.Pairwise (fun p q => ¬ (q.1 < p.1 ∨ (q.1 = p.1 ∧ q.2 < p.2))) := by
      rw [List.pairwise_iff_getElem]
      intro i j hi hj hij
      have hl := hB'.length
      have sr' : (bs.map V.ref).Pairwise (fun x y => ltP (pk H) y x = false) := sr
      rw [List.pairwise_iff_getElem] at sr'
      have h5 := sr' i j (by rw [List.length_map]; omega) (by rw [List.length_map]; omega) hij
      rw [List.getElem_map, List.getElem_map] at h5
      obtain ⟨p1, e1, g1⟩ := prs_get hB' (List.getElem?_eq_getElem (show i < bs.length by omega))
      obtain ⟨p2, e2, g2⟩ := prs_get hB' (List.getElem?_eq_getElem (show j < bs.length by omega))
      have h6 : SrtO.lexB (pk H (.ref bs[j])) (pk H (.ref bs[i])) = false := h5
      rw [pk_of g1, pk_of g2] at h6
      have h7 := SrtO.lexB_no.mp h6
      rw [List.getElem?_eq_getElem hi] at e1
      rw [List.getElem?_eq_getElem hj] at e2
      rw [Option.some.inj e1, Option.some.inj e2]
      simp only at h7
      omega
    have e : rs = srt qs := asc_srt (hrs.trans (srt_perm qs).symm) h1 (srt_asc qs)
    rw [e] at hB'
    exact h p bs np hB'
theorem srt_len (qs : List (Nat × Nat)) : (srt qs).length = qs.length := (srt_perm qs).length_eq
end Pc
namespace Pc
open PySem PySem.Spec PyProof.Rows L2 RZ
/-! ### the couples on a path -/
def stp (E : List Nat) : List (Nat × Nat) := (List.range ((E.length - 1) / 2)).map fun i => (E.getD (2 * i + 1) 0, E.getD (2 * i + 2) 0)
def mms (qs : List (Nat × Nat)) : List (Nat × Nat) := qs.map fun p => (min p.1 p.2, max p.1 p.2)
theorem stp_len (E : List Nat) : (stp E).length = (E.length - 1) / 2 := by unfold stp; rw [List.length_map, List.length_range]
theorem mms_len (qs : List (Nat × Nat)) : (mms qs).length = qs.length := by unfold mms; rw [List.length_map]
theorem int_min (i j : Nat) : (if (j : Int) < (i : Int) then (j : Int) else (i : Int)) = ((min i j : Nat) : Int) := by split <;> omega
theorem int_max (i j : Nat) : (if (j : Int) > (i : Int) then (j : Int) else (i : Int)) = ((max i j : Nat) : Int) := by split <;> omega
open PySem PySem.Spec PyProof.Rows L2 RZ in
theorem rgc_path {m : Nat} (h : m ≤ 100000) : RgC 1 ((m : Int) - 1) 2 ((m - 1) / 2) := by
  have e : Builtin.Range.rangeSize 1 ((m : Int) - 1) 2 = (((m - 1) / 2 : Nat) : Int) := by
    unfold Builtin.Range.rangeSize
    rw [if_pos (by decide)]
    split <;> omega
  refine ⟨by decide, by decide, ?_, e⟩
  unfold Builtin.Range.small
  rw [e, fits_long (i := 1) (by decide) (by decide), fits_long (i := (m : Int) - 1) (by omega) (by omega), fits_long (i := 2) (by decide) (by decide), fits_long (i := (((m - 1) / 2 : Nat) : Int)) (by omega) (by omega), if_pos (by decide), fits_long (i := (m : Int) - 1 + (2 - 1)) (by omega) (by omega), Bool.or_true]
  rfl
section
variable {P : Program} {w : World} {K : PySem.W.Frag} {mg : Str → Option Value} {base : Heap}
def spCouplesOn (K : PySem.W.Frag) : Sp := fun vs H Q _ => ∃ (a p : Addr) (fs ps : List Nat) (n x : Nat), vs = [.ref a, .ref p, .int x] ∧ Sq K H a (nv fs) ∧ Sq K H p (nv ps) ∧ IsPair (2 * n) fs ∧ IsPair n ps ∧ x < n ∧ n ≤ 500 ∧ (trl fs ps n (n + x)).length ≤ 1000 ∧
  ∀ (H' : Hp) (t : Addr) (bs : List Addr), Same H H' → H t = none → H' t = some (.lst (bs.map V.ref)) → Prs H' bs (srt (mms (stp (trl fs ps n (n + x))))) → Q (.ref t) H'
theorem ok_p_couples_on (T : Env K mg) : FnOk P w K mg base CX0 4 T.f_p_couples_on T.d_p_couples_on ["sheet", "pairing", "person"] (spCouplesOn K) := by
  have GP : FnOk P w K mg base CX0 3 T.f_p_path T.d_p_path ["sheet", "pairing", "person"] (spFPath K) := ok_p_path T
  refine T.F_p_couples_on.ok sc_p_couples_on (fun vs H Q E h => ?_) (fun cdv A outer s H vs Q E hr h => ?_)
  · obtain ⟨a, p, fs, ps, n, x, rfl, _⟩ := h
    rfl
  · obtain ⟨a, p, fs, ps, n, x, rfl, ha, hp, hF, hP, hx, hn, hL, q⟩ := h
    obtain ⟨L, hLd⟩ : ∃ L, L = trl fs ps n (n + x) := ⟨_, rfl⟩
    rw [← hLd] at hL q
    refine ⟨_, pss_cons (ps_set (i := 3) sc_p_couples_on.nd rfl (by first | exact .inl rfl | exact .inr rfl) (pe_call GP hr (by rfl) T.g_p_path T.F_p_path.kp T.b_p_path .nil pass0 (pa_cons (pv 0) (pa_cons (pv 1) (pa_cons (pv 2) pa_nil))))) <|
      pss_cons (ps_setLc (i := 4) (own := [("at", 5)]) (g := gName 5) (tt := tYes) (te := tTup (tCons (tOp (rIxL K) (tVar 3) (tVar 5)) (tCons (tOp (rIxL K) (tVar 3) (tOp (rI0 fun i j => .int (i + j)) (tVar 5) (tC (.int 1)))) tNil))) rfl sc_p_couples_on.nd rfl rfl (sw_true rfl rfl rfl (by decide +kernel))
        (pi_range3 (by rfl) T.n_range (pa_cons pe_int (pa_cons (pe_op op_sub (pe_callB call_len_seq (by rfl) T.n_len PySem.boot_len (pa_cons (pv 3) pa_nil)) pe_int) (pa_cons pe_int pa_nil)))) (blkOk_by (N := N_p_couples_on) (sc := defScope s_p_couples_on) (by decide +kernel)) (fun _ _ _ _ _ => pg_name (i := 5) sc_p_couples_on.nd rfl (.inl rfl)) (fun _ _ _ _ _ => pts_nil)
        (fun _ _ _ _ _ => pe_tup (pa_cons (pe_ix ix_list (pv 3) (pv 5) (fun _ _ => rfl)) (pa_cons (pe_ix ix_list (pv 3) (pe_op op_add (pv 5) pe_int) (fun _ _ => rfl)) pa_nil)))) <|
      pss_one (ps_ret (pe_callB cr_sortedPO (by rfl) T.n_sorted (by decide +kernel) (pa_cons (pe_lc (own := [("x", 6), ("y", 7)]) (g := gTup K 2 (gCons (gName 6) (gCons (gName 7) gNil))) (tt := tYes) (by rfl) sc_p_couples_on.nd (pi_list (pv 4)) (blkOk_by (N := N_p_couples_on) (sc := defScope s_p_couples_on) (by decide +kernel)) (fun _ _ _ _ _ => pg_tup (by rfl) (pgs_cons (pg_name (i := 6) sc_p_couples_on.nd rfl (.inl rfl)) (pgs_cons (pg_name (i := 7) sc_p_couples_on.nd rfl (.inl rfl)) pgs_nil))) (fun _ _ _ _ _ => pts_nil)
        (fun _ _ _ _ _ => pe_tup (pa_cons (pe_callB (call_min2 rfl) (by rfl) T.n_min (by decide +kernel) (pa_cons (pv 6) (pa_cons (pv 7) pa_nil))) (pa_cons (pe_callB (call_max2 rfl) (by rfl) T.n_max (by decide +kernel) (pa_cons (pv 6) (pa_cons (pv 7) pa_nil))) pa_nil)))) pa_nil))), ?_⟩
    refine ⟨.ref a, rfl, .ref p, rfl, _, rfl, a, p, fs, ps, n, x, rfl, ha, hp, hF, hP, hx, hn, fun H1 l s1 nl el => ?_⟩
    rw [← hLd] at el
    refine st_set [some (.ref a), some (.ref p), some (.int x), some (.ref l), none, none, none, none] ?_ rfl
    refine ⟨_, rfl, l, _, rfl, .inl (.inl (.inl el)), _, 1, rfl, rfl, 1, _, 2, (L.length - 1) / 2, rfl, ?_, fun D nD => ?_⟩
    · show RgC 1 (((nv L).length : Int) - 1) 2 _
      rw [nv_length]; exact rgc_path (by omega)
    refine lc_it (walk_rangeC (n := (L.length - 1) / 2)) (fun i H' => Same H1 H' ∧ ∃ as : List Addr, H' D = some (.lst (as.map V.ref)) ∧ Prs H' as ((stp L).take i)) ⟨same_new nD, [], upd_same, .nil⟩ (fun _ _ _ _ => trivial) (fun i x' H2 H3 hi hPv yy => ?_) (fun H' hPv => ?_)
    · obtain ⟨sm, as, eD, hA⟩ := hPv
      obtain ⟨rfl, rfl⟩ := yy
      have g1 : L[2 * i + 1]? = some (L.getD (2 * i + 1) 0) := by rw [List.getD_eq_getElem?_getD, List.getElem?_eq_getElem (by omega)]; rfl
      have g2 : L[2 * i + 2]? = some (L.getD (2 * i + 2) 0) := by rw [List.getD_eq_getElem?_getD, List.getElem?_eq_getElem (by omega)]; rfl
      have ea : atI (nv L) ((1 : Int) + (i : Nat) * 2) = some (.int ((L.getD (2 * i + 1) 0 : Nat) : Int)) := by
        rw [show (1 : Int) + (i : Nat) * 2 = ((2 * i + 1 : Nat) : Int) by omega]; exact nv_at g1
      have eb : atI (nv L) ((1 : Int) + (i : Nat) * 2 + 1) = some (.int ((L.getD (2 * i + 2) 0 : Nat) : Int)) := by
        rw [show (1 : Int) + (i : Nat) * 2 + 1 = ((2 * i + 2 : Nat) : Int) by omega]; exact nv_at g2
      have hl : SqL K H3 l (nv L) := .inl (.inl (sm _ _ el))
      refine ⟨rfl, yes_if ⟨_, rfl, _, rfl, l, _, _, _, rfl, rfl, hl, ea, _, rfl, _, rfl, _, 1, rfl, rfl, l, _, _, _, rfl, rfl, hl, eb, by show 2 ≤ sizeLine; decide, fun u nu => ⟨_, same_new nu _ _ eD, ?_, fun z o hz => ?_, as ++ [u], ?_, ?_⟩⟩⟩
      · rw [List.length_map, hA.length, List.length_take]; exact small1000 (by omega)
      · rw [upd_ne (ne_of_none hz nD)]; exact same_new nu _ _ (sm _ _ hz)
      · rw [upd_same, List.map_append]; rfl
      · have uD : u ≠ D := fun z => by rw [z, eD] at nu; cases nu
        have ej : (stp L)[i]? = some (L.getD (2 * i + 1) 0, L.getD (2 * i + 2) 0) := by unfold stp; rw [List.getElem?_map, List.getElem?_range hi]; rfl
        rw [List.take_add_one, ej]
        refine prs_append (prs_keep (b := D) keep_upd (same_new nu _ _ eD) (prs_same (same_new nu) hA)) (.cons ?_ .nil)
        rw [upd_ne uD, upd_same]
    obtain ⟨s2, as, eD, hA⟩ := hPv
    rw [← stp_len, List.take_length] at hA
    refine st_set [some (.ref a), some (.ref p), some (.int x), some (.ref l), some (.ref D), none, none, none] ?_ rfl
    refine ⟨_, rfl, D, rfl, ⟨_, .inl (.inl eD)⟩, fun G nG => ?_⟩
    refine lc_list (xs := as.map V.ref) (fun i H2 => Same H' H2 ∧ ∃ cs : List Addr, H2 G = some (.lst (cs.map V.ref)) ∧ Prs H2 cs ((mms (stp L)).take i)) ⟨same_new nG, [], upd_same, .nil⟩ (fun i H2 _ h => .inl (.inl (h.1 _ _ eD))) (fun i v H2 hv h => ?_) (fun H2 h => ?_)
    · obtain ⟨sm, cs, eG, hC⟩ := h
      rw [List.getElem?_map] at hv
      obtain ⟨u, hu', rfl⟩ := Option.map_eq_some_iff.mp hv
      obtain ⟨r, er, hu⟩ := prs_get hA hu'
      refine ⟨u, _, rfl, .inl (.inl (sm _ _ hu)), rfl, _, _, rfl, _, _, rfl, rfl, rfl, yes_if ⟨_, rfl, _, rfl, _, _, rfl, _, rfl, _, rfl, _, _, rfl, by show 2 ≤ sizeLine; decide, fun z nz => ⟨_, same_new nz _ _ eG, ?_, fun y o hy => ?_, cs ++ [z], ?_, ?_⟩⟩⟩
      · rw [List.length_map, hC.length, List.length_take]; have := get_lt er; rw [stp_len] at this; exact small1000 (by omega)
      · rw [upd_ne (ne_of_none hy nG)]; exact same_new nz _ _ (sm _ _ hy)
      · rw [upd_same, List.map_append]; rfl
      · have zG : z ≠ G := fun e => by rw [e, eG] at nz; cases nz
        have ej : (mms (stp L))[i]? = some (min r.1 r.2, max r.1 r.2) := by unfold mms; rw [List.getElem?_map, er]; rfl
        rw [List.take_add_one, ej]
        refine prs_append (prs_keep (b := G) keep_upd (same_new nz _ _ eG) (prs_same (same_new nz) hC)) (.cons ?_ .nil)
        rw [upd_ne zG, upd_same, int_min, int_max]
    obtain ⟨s3, cs, eG, hC⟩ := h
    rw [List.length_map, hA.length, ← mms_len (stp L), List.take_length] at hC
    exact sort_prsL (.inl (.inl eG)) hC fun t bs nt hB => q _ t bs (((s1.trans s2).trans s3).trans (same_new nt)) (((s1.trans s2).trans s3).free nt) upd_same (prs_same (same_new nt) hB)
end
end Pc
namespace Pc
open PySem PySem.Spec PyProof.Rows L2 RZ
/-! ### of lib50, alone -/
theorem keep_free' {b p : Addr} {k : Nat} {H H' : Hp} (hk : Keep b H H') (hB : Box k H' b) (h : H' p = none) : H p = none := by
  cases e : H p with
  | none => rfl
  | some o => rw [hk p o (hB.ne_new h).symm e] at h; cases h
theorem q_dec {Q : VK} {x y : V} {H : Hp} (e : x = y) (h : Q (.bl true) H) : Q (.bl (decide (x = y))) H := by rw [decide_eq_true e]; exact h
theorem fps13 {L : List Nat} {m : Nat} (h : L.length ≤ m) (hm : m ≤ 1000) {k : Nat} (hk : k < 2 ^ 60) (hk0 : 0 < k) (hl : ∀ z ∈ L, z < k) : (srt (mms (stp L))).length ≤ 1000 ∧ ∀ p ∈ srt (mms (stp L)), p.1 < 2 ^ 60 ∧ p.2 < 2 ^ 60 := by
  refine ⟨by rw [srt_len, mms_len, stp_len]; omega, fun p hp => ?_⟩
  have h1 := (srt_perm _).mem_iff.mp hp
  unfold mms at h1
  obtain ⟨r, hr, rfl⟩ := List.mem_map.mp h1
  unfold stp at hr
  obtain ⟨i, _, rfl⟩ := List.mem_map.mp hr
  have g : ∀ j, L.getD j 0 < k := fun j => by
    rw [List.getD_eq_getElem?_getD]
    cases e : L[j]? with
    | none => exact hk0
    | some x => exact hl x (List.mem_of_getElem? e)
  have g1 := g (2 * i + 1)
  have g2 := g (2 * i + 2)
  show min _ _ < 2 ^ 60 ∧ max _ _ < 2 ^ 60
  omega
end Pc
namespace Pc
open PySem PySem.Spec PyProof.Rows L2 RZ
/-! ### ways that have an end in common; closed ways -/
section
variable {fs ps : List Nat} {n z s s' : Nat} {l l' : List Nat}
theorem Trail.drop (h : Trail fs ps n z l) : ∀ {i e : Nat}, l[2 * i]? = some e → Trail fs ps n e (l.drop (2 * i)) ∧ (l.drop (2 * i)).getLastD 0 = l.getLastD 0 := by
  induction h with
  | @stop z h1 =>
    intro i e he
    cases i with
    | zero => cases he; exact ⟨.stop h1, rfl⟩
    | succ i => rw [show 2 * (i + 1) = 2 * i + 1 + 1 by omega] at he; simp at he
  | @go z l h1 h2 ih =>
    intro i e he
    cases i with
    | zero => cases he; exact ⟨.go h1 h2, rfl⟩
    | succ i =>
      rw [show 2 * (i + 1) = 2 * i + 1 + 1 by omega] at he ⊢
      obtain ⟨g1, g2⟩ := ih (i := i) (e := e) he
      exact ⟨g1, by rw [lastc h2.len.1]; exact g2⟩
theorem par_or {e : Nat} (hl : l.length % 2 = 0) (he : e ∈ l) : ((∃ i, l[2 * i]? = some e) ∧ ∃ j, l.reverse[2 * j + 1]? = some e) ∨ ((∃ i, l.reverse[2 * i]? = some e) ∧ ∃ j, l[2 * j + 1]? = some e) := by
  obtain ⟨k, hk, ek⟩ := List.getElem_of_mem he
  have e1 : l[k]? = some e := by rw [List.getElem?_eq_getElem hk, ek]
  have e2 : l.reverse[l.length - 1 - k]? = some e := by
    rw [List.getElem?_reverse (by omega), show l.length - 1 - (l.length - 1 - k) = k by omega]; exact e1
  rcases Nat.mod_two_eq_zero_or_one k with c | c
  · exact .inl ⟨⟨k / 2, by rw [show 2 * (k / 2) = k by omega]; exact e1⟩, (l.length - 1 - k) / 2, by rw [show 2 * ((l.length - 1 - k) / 2) + 1 = l.length - 1 - k by omega]; exact e2⟩
  · exact .inr ⟨⟨(l.length - 1 - k) / 2, by rw [show 2 * ((l.length - 1 - k) / 2) = l.length - 1 - k by omega]; exact e2⟩, k / 2, by rw [show 2 * (k / 2) + 1 = k by omega]; exact e1⟩
theorem way_even (hF : IsPair (2 * n) fs) (hP : IsPair n ps) (h : Trail fs ps n s l) (h' : Trail fs ps n s' l') (hs : n ≤ s) (hs2 : s < 2 * n) (hs' : n ≤ s') (hs2' : s' < 2 * n) {i j e : Nat} (hi : l[2 * i]? = some e) (hj : l'[2 * j]? = some e) : l = l' := by
  obtain ⟨g1, g2⟩ := h.drop hi
  obtain ⟨k1, k2⟩ := h'.drop hj
  have e1 := g1.det k1
  have e2 : l.getLastD 0 = l'.getLastD 0 := by rw [← g2, ← k2, e1]
  have b1 := h.back hF hP hs hs2
  have b2 := h'.back hF hP hs' hs2'
  rw [e2] at b1
  exact List.reverse_inj.mp (b1.det b2)
theorem Trail.start2 (hF : IsPair (2 * n) fs) (hP : IsPair n ps) (h : Trail fs ps n s l) (hs2 : s < 2 * n) : n ≤ l.getLastD 0 ∧ l.getLastD 0 < 2 * n := ⟨h.len.2.2, h.last hF hP hs2⟩
theorem way_same (hF : IsPair (2 * n) fs) (hP : IsPair n ps) (h : Trail fs ps n s l) (h' : Trail fs ps n s' l') (hs : n ≤ s) (hs2 : s < 2 * n) (hs' : n ≤ s') (hs2' : s' < 2 * n) {e : Nat} (he : e ∈ l) (he' : e ∈ l') : l = l' ∨ l = l'.reverse := by
  have b1 := h.back hF hP hs hs2
  have b2 := h'.back hF hP hs' hs2'
  obtain ⟨p1, p2⟩ := h.start2 hF hP hs2
  obtain ⟨p3, p4⟩ := h'.start2 hF hP hs2'
  rcases par_or h.len.2.1 he with ⟨⟨i, hi⟩, _⟩ | ⟨⟨i, hi⟩, _⟩ <;> rcases par_or h'.len.2.1 he' with ⟨⟨j, hj⟩, _⟩ | ⟨⟨j, hj⟩, _⟩
  · exact .inl (way_even hF hP h h' hs hs2 hs' hs2' hi hj)
  · exact .inr (way_even hF hP h b2 hs hs2 p3 p4 hi hj)
  · exact .inr (by rw [← List.reverse_reverse l, way_even hF hP b1 h' p1 p2 hs' hs2' hi hj])
  · exact .inl (List.reverse_inj.mp (way_even hF hP b1 b2 p1 p2 p3 p4 hi hj))
theorem last_rev (h : Trail fs ps n s l) : l.reverse.getLastD 0 = s := by
  have h0 := h.head
  cases l with
  | nil => cases h0
  | cons x l =>
    rw [List.reverse_cons, List.getLastD_eq_getLast?, List.getLast?_append]
    exact Option.some.inj (show some x = some s from h0) ▸ rfl
/-- where an end of a way leads -/
theorem way_next (hF : IsPair (2 * n) fs) (hP : IsPair n ps) (h : Trail fs ps n s l) (hs : n ≤ s) (hs2 : s < 2 * n) {e : Nat} (he : e ∈ l) (hu : fs.getD e 0 < n) : ps.getD (fs.getD e 0) 0 ∈ l := by
  have key : ∀ {s : Nat} {l : List Nat}, Trail fs ps n s l → ∀ {i : Nat}, l[2 * i]? = some e → ps.getD (fs.getD e 0) 0 ∈ l := fun {s l} h {i} hi => by
    obtain ⟨g, _⟩ := h.drop hi
    generalize hd : l.drop (2 * i) = d at g
    cases g with
    | stop h1 => omega
    | @go _ m _ h2 =>
      have := List.mem_of_getElem? h2.head
      exact List.mem_of_mem_drop (i := 2 * i) (by rw [hd]; exact List.mem_cons_of_mem _ (List.mem_cons_of_mem _ this))
  rcases par_or h.len.2.1 he with ⟨⟨i, hi⟩, _⟩ | ⟨⟨i, hi⟩, _⟩
  · exact key h hi
  · exact List.mem_reverse.mp (key (h.back hF hP hs hs2) hi)
/-- nobody is on a way -/
def Off (fs ps : List Nat) (n h : Nat) : Prop := ∀ x, x < n → h ∉ trl fs ps n (n + x)
theorem trl_at (hF : IsPair (2 * n) fs) (hP : IsPair n ps) {x : Nat} (hx : x < n) : Trail fs ps n (n + x) (trl fs ps n (n + x)) := (trl_trail hF hP (by omega) (by omega)).1
theorem off_next (hF : IsPair (2 * n) fs) (hP : IsPair n ps) {h : Nat} (hh : h < n) (o : Off fs ps n h) : fs.getD (ps.getD h 0) 0 < n ∧ Off fs ps n (fs.getD (ps.getD h 0) 0) := by
  have hp := hP.d hh
  have hf := hF.d (show ps.getD h 0 < 2 * n by omega)
  have hlt : fs.getD (ps.getD h 0) 0 < n := by
    rcases Nat.lt_or_ge (fs.getD (ps.getD h 0) 0) n with c | c
    · exact c
    · have t := trl_at hF hP (x := fs.getD (ps.getD h 0) 0 - n) (by omega)
      rw [show n + (fs.getD (ps.getD h 0) 0 - n) = fs.getD (ps.getD h 0) 0 by omega] at t
      have m := way_next hF hP t c hf.1 (List.mem_of_getElem? t.head) (by rw [hf.2.2.1]; exact hp.1)
      rw [hf.2.2.1, hp.2.2.1] at m
      have := o (fs.getD (ps.getD h 0) 0 - n) (by omega)
      rw [show n + (fs.getD (ps.getD h 0) 0 - n) = fs.getD (ps.getD h 0) 0 by omega] at this
      exact absurd m this
  refine ⟨hlt, fun x hx hm => ?_⟩
  have t := trl_at hF hP hx
  have m := way_next hF hP t (by omega) (by omega) hm (by rw [hf.2.2.1]; exact hp.1)
  rw [hf.2.2.1, hp.2.2.1] at m
  exact o x hx m
/-- the steps of a way -/
theorem step_at (hF : IsPair (2 * n) fs) (h : Trail fs ps n s l) (hs2 : s < 2 * n) {j e : Nat} (hj : l[2 * j + 1]? = some e) (he : e < n) : (e, ps.getD e 0) ∈ stp l ∧ l[2 * j + 2]? = some (ps.getD e 0) := by
  have hl := (List.getElem?_eq_some_iff.mp hj).1
  have e0 : l[2 * j]? = some l[2 * j] := List.getElem?_eq_getElem (by omega)
  obtain ⟨g, _⟩ := h.drop e0
  have h2 : l[2 * j + 2]? = some (ps.getD e 0) := by
    generalize hd : l.drop (2 * j) = d at g
    have i1 : d[1]? = some e := by rw [← hd, List.getElem?_drop]; exact hj
    have i2 : d[2]? = l[2 * j + 2]? := by rw [← hd, List.getElem?_drop]
    rw [← i2]
    cases g with
    | stop h1 =>
      have := Option.some.inj (show some _ = some e from i1)
      omega
    | @go _ m _ h2 =>
      have := Option.some.inj (show some _ = some e from i1)
      have h3 := h2.head
      rw [this] at h3
      exact h3
  refine ⟨?_, h2⟩
  have hl2 := (List.getElem?_eq_some_iff.mp h2).1
  unfold stp
  refine List.mem_map.mpr ⟨j, List.mem_range.mpr (by omega), ?_⟩
  rw [List.getD_eq_getElem?_getD, hj, List.getD_eq_getElem?_getD, h2]; rfl
theorem stp_mem (hF : IsPair (2 * n) fs) (hP : IsPair n ps) (h : Trail fs ps n s l) (hs2 : s < 2 * n) {q : Nat × Nat} (hq : q ∈ stp l) : ∃ j, l[2 * j + 1]? = some q.1 ∧ l[2 * j + 2]? = some q.2 ∧ q.1 < n ∧ q.2 = ps.getD q.1 0 := by
  unfold stp at hq
  obtain ⟨j, hj, rfl⟩ := List.mem_map.mp hq
  have hj := List.mem_range.mp hj
  have e1 : l[2 * j + 1]? = some (l.getD (2 * j + 1) 0) := by rw [List.getD_eq_getElem?_getD, List.getElem?_eq_getElem (by omega)]; rfl
  have e2 : l[2 * j + 2]? = some (l.getD (2 * j + 2) 0) := by rw [List.getD_eq_getElem?_getD, List.getElem?_eq_getElem (by omega)]; rfl
  have e0 : l[2 * j]? = some l[2 * j] := List.getElem?_eq_getElem (by omega)
  obtain ⟨g, _⟩ := h.drop e0
  have hlt : l.getD (2 * j + 1) 0 < n := by
    generalize hd : l.drop (2 * j) = d at g
    have hdl : d.length = l.length - 2 * j := by rw [← hd, List.length_drop]
    have i1 : d[1]? = some (l.getD (2 * j + 1) 0) := by rw [← hd, List.getElem?_drop]; exact e1
    cases g with
    | stop h1 => simp at hdl; omega
    | @go _ m h1 h2 =>
      have := Option.some.inj (show some _ = some (l.getD (2 * j + 1) 0) from i1)
      omega
  have h2 := (step_at hF h hs2 e1 hlt).2
  rw [e2] at h2
  exact ⟨j, e1, e2, hlt, Option.some.inj h2⟩
/-- the couples that are used -/
noncomputable def usd (fs ps : List Nat) (n : Nat) : Nat → List (Nat × Nat)
  | 0 => []
  | x + 1 => usd fs ps n x ++ srt (mms (stp (trl fs ps n (n + x))))
theorem usd_mem {c : Nat × Nat} : ∀ {k : Nat}, c ∈ usd fs ps n k ↔ ∃ x, x < k ∧ c ∈ mms (stp (trl fs ps n (n + x)))
  | 0 => ⟨fun h => absurd h List.not_mem_nil, fun ⟨x, hx, _⟩ => absurd hx (Nat.not_lt_zero _)⟩
  | k + 1 => by
    unfold usd
    rw [List.mem_append, usd_mem (k := k), (srt_perm _).mem_iff]
    constructor
    · rintro (⟨x, hx, h⟩ | h)
      · exact ⟨x, by omega, h⟩
      · exact ⟨k, by omega, h⟩
    · rintro ⟨x, hx, h⟩
      rcases Nat.lt_or_ge x k with c | c
      · exact .inl ⟨x, c, h⟩
      · rw [show x = k by omega] at h; exact .inr h
theorem mms_mem {qs : List (Nat × Nat)} {c : Nat × Nat} : c ∈ mms qs ↔ ∃ q ∈ qs, c = (min q.1 q.2, max q.1 q.2) := by
  unfold mms
  rw [List.mem_map]
  exact ⟨fun ⟨q, h, e⟩ => ⟨q, h, e.symm⟩, fun ⟨q, h, e⟩ => ⟨q, h, e.symm⟩⟩
/-- whoever is on a way has a couple that is used -/
theorem on_used (hF : IsPair (2 * n) fs) (hP : IsPair n ps) {h x : Nat} (hh : h < n) (hx : x < n) (hm : h ∈ trl fs ps n (n + x)) : (min h (ps.getD h 0), max h (ps.getD h 0)) ∈ usd fs ps n n := by
  have t := trl_at hF hP hx
  have tb := t.back hF hP (by omega) (by omega)
  obtain ⟨p1, p2⟩ := t.start2 hF hP (by omega)
  rcases par_or t.len.2.1 hm with ⟨_, j, hj⟩ | ⟨_, j, hj⟩
  · have := (step_at hF tb p2 hj hh).1
    refine usd_mem.mpr ⟨(trl fs ps n (n + x)).getLastD 0 - n, by omega, mms_mem.mpr ⟨(h, ps.getD h 0), ?_, rfl⟩⟩
    rw [show n + ((trl fs ps n (n + x)).getLastD 0 - n) = (trl fs ps n (n + x)).getLastD 0 by omega, tb.eq]
    exact this
  · have := (step_at hF t (by omega) hj hh).1
    exact usd_mem.mpr ⟨x, hx, mms_mem.mpr ⟨(h, ps.getD h 0), this, rfl⟩⟩
theorem off_of (hF : IsPair (2 * n) fs) (hP : IsPair n ps) {h : Nat} (hh : h < n) (hn : (min h (ps.getD h 0), max h (ps.getD h 0)) ∉ usd fs ps n n) : Off fs ps n h := fun _ hx hm => hn (on_used hF hP hh hx hm)
end
end Pc
namespace Pc
/-! ### the cycles of two pairings -/
theorem nd_len : ∀ (n : Nat) (l : List Nat), l.Nodup → (∀ y ∈ l, y < n) → l.length ≤ n
  | 0, [], _, _ => Nat.le_refl _
  | 0, y :: _, _, h => absurd (h y List.mem_cons_self) (Nat.not_lt_zero _)
  | n + 1, l, hd, h => by
    have h1 := nd_len n (l.erase n) (hd.erase n) (fun y hy => by
      have h2 := (hd.mem_erase_iff).mp hy
      have h3 := h y h2.2
      have h4 := h2.1
      omega)
    rw [List.length_erase] at h1
    split at h1 <;> omega
theorem nd_all : ∀ (n : Nat) (l : List Nat), l.Nodup → (∀ y ∈ l, y < n) → (∀ y, y < n → y ∈ l) → l.Perm (List.range n) := fun n l hd h1 h2 =>
  (List.perm_ext_iff_of_nodup hd List.nodup_range).mpr fun y => ⟨fun hy => List.mem_range.mpr (h1 y hy), fun hy => h2 y (List.mem_range.mp hy)⟩
inductive LapEnd (a b : List Nat) : List Nat → Nat → List Nat → Prop
  | stop {l : List Nat} {z : Nat} : z ∈ l → LapEnd a b l z l
  | go {l r : List Nat} {z : Nat} : z ∉ l → LapEnd a b (l ++ [z, a.getD z 0]) (b.getD (a.getD z 0) 0) r → LapEnd a b l z r
theorem LapEnd.det {a b l r r' : List Nat} {z : Nat} (h : LapEnd a b l z r) : LapEnd a b l z r' → r = r' := by
  induction h with
  | stop h1 => intro h2; cases h2 with
    | stop _ => rfl
    | go h3 _ => exact absurd h1 h3
  | go h1 _ ih => intro h2; cases h2 with
    | stop h3 => exact absurd h3 h1
    | go _ h4 => exact ih h4
structure LpI (a b : List Nat) (n x : Nat) (l : List Nat) (z : Nat) : Prop where
  nd : l.Nodup
  lt : ∀ y ∈ l, y < n
  zl : z < n
  xl : x < n
  ca : ∀ y ∈ l, a.getD y 0 ∈ l
  st : l ≠ [] → x ∈ l ∧ b.getD z 0 ∈ l ∧ b.getD z 0 ≠ x
  s0 : l = [] → z = x
  cb : ∀ y ∈ l, y ≠ x → y ≠ b.getD z 0 → b.getD y 0 ∈ l ∧ b.getD y 0 ≠ x ∧ b.getD y 0 ≠ b.getD z 0
theorem LpI.start {a b : List Nat} {n x : Nat} (hx : x < n) : LpI a b n x [] x :=
  ⟨List.nodup_nil, fun _ h => absurd h List.not_mem_nil, hx, hx, fun _ h => absurd h List.not_mem_nil, fun h => absurd rfl h, fun _ => rfl, fun _ h => absurd h List.not_mem_nil⟩
theorem LpI.step {a b : List Nat} {n x z : Nat} {l : List Nat} (ha : IsPair n a) (hb : IsPair n b) (h : LpI a b n x l z) (hz : z ∉ l) : LpI a b n x (l ++ [z, a.getD z 0]) (b.getD (a.getD z 0) 0) := by
  obtain ⟨a1, a2, a3, _⟩ := ha.d h.zl
  obtain ⟨b1, b2, b3, _⟩ := hb.d a1
  obtain ⟨c1, c2, c3, _⟩ := hb.d h.zl
  have haz : a.getD z 0 ∉ l := fun hm => hz (by have := h.ca _ hm; rwa [a3] at this)
  have hxz : l ≠ [] → z ≠ x := fun hl e => hz (by rw [e]; exact (h.st hl).1)
  have hnil : ∀ y ∈ l, l ≠ [] := fun y hy e => by rw [e] at hy; exact absurd hy List.not_mem_nil
  refine ⟨?_, ?_, b1, h.xl, ?_, ?_, ?_, ?_⟩
  · refine List.nodup_append.mpr ⟨h.nd, ?_, fun y hy w hw => ?_⟩
    · exact List.nodup_cons.mpr ⟨fun hm => a2 (List.mem_singleton.mp hm).symm, List.nodup_cons.mpr ⟨List.not_mem_nil, List.nodup_nil⟩⟩
    · rcases List.mem_cons.mp hw with e | hw
      · exact fun e2 => hz (by rw [← e, ← e2]; exact hy)
      · exact fun e2 => haz (by rw [← List.mem_singleton.mp hw, ← e2]; exact hy)
  · intro y hy
    rcases List.mem_append.mp hy with hy | hy
    · exact h.lt y hy
    · rcases List.mem_cons.mp hy with e | hy
      · rw [e]; exact h.zl
      · rw [List.mem_singleton.mp hy]; exact a1
  · intro y hy
    refine List.mem_append.mpr ?_
    rcases List.mem_append.mp hy with hy | hy
    · exact .inl (h.ca y hy)
    · rcases List.mem_cons.mp hy with e | hy
      · rw [e]; exact .inr (List.mem_cons_of_mem _ List.mem_cons_self)
      · rw [List.mem_singleton.mp hy, a3]; exact .inr List.mem_cons_self
  · intro _
    rw [b3]
    refine ⟨?_, List.mem_append.mpr (.inr (List.mem_cons_of_mem _ List.mem_cons_self)), ?_⟩
    · by_cases e : l = []
      · rw [h.s0 e]; exact List.mem_append.mpr (.inr List.mem_cons_self)
      · exact List.mem_append.mpr (.inl (h.st e).1)
    · by_cases e : l = []
      · rw [← h.s0 e]; exact a2
      · exact fun e2 => haz (by rw [e2]; exact (h.st e).1)
  · intro e; exact absurd e (by simp)
  · intro y hy hyx hyz
    rw [b3] at hyz ⊢
    rcases List.mem_append.mp hy with hy | hy
    · by_cases e : y = b.getD z 0
      · rw [e, c3]
        exact ⟨List.mem_append.mpr (.inr List.mem_cons_self), hxz (hnil _ hy), fun e => a2 e.symm⟩
      · obtain ⟨h1, h2, _⟩ := h.cb y hy hyx e
        exact ⟨List.mem_append.mpr (.inl h1), h2, fun e2 => haz (by rw [← e2]; exact h1)⟩
    · rcases List.mem_cons.mp hy with e | hy
      · by_cases e2 : l = []
        · exact absurd (e.trans (h.s0 e2)) hyx
        · rw [e]
          obtain ⟨h1, h2, h3⟩ := h.st e2
          exact ⟨List.mem_append.mpr (.inl h2), h3, fun e3 => haz (by rw [← e3]; exact h2)⟩
      · exact absurd (List.mem_singleton.mp hy) hyz
theorem LpI.done {a b : List Nat} {n x z : Nat} {l : List Nat} (hb : IsPair n b) (h : LpI a b n x l z) (hz : z ∈ l) : z = x := by
  by_cases e : z = x
  · exact e
  · exact absurd rfl (h.cb z hz e (fun e2 => (hb.d h.zl).2.1 e2.symm)).2.2
theorem LpI.closed {a b : List Nat} {n x z : Nat} {l : List Nat} (hb : IsPair n b) (h : LpI a b n x l z) (hz : z ∈ l) : ∀ y ∈ l, b.getD y 0 ∈ l := by
  intro y hy
  have hn : l ≠ [] := fun e => by rw [e] at hy; exact absurd hy List.not_mem_nil
  have e := h.done hb hz
  obtain ⟨h1, h2, _⟩ := h.st hn
  by_cases e1 : y = x
  · rw [e1, ← e]; exact h2
  · by_cases e2 : y = b.getD z 0
    · rw [e2, (hb.d h.zl).2.2.1]; exact hz
    · exact (h.cb y hy e1 e2).1
theorem LpI.room {a b : List Nat} {n x z : Nat} {l : List Nat} (ha : IsPair n a) (hb : IsPair n b) (h : LpI a b n x l z) (hz : z ∉ l) : l.length + 2 ≤ n := by
  have h1 := h.step ha hb hz
  have h2 := nd_len n _ h1.nd h1.lt
  rw [List.length_append] at h2
  exact h2
theorem LpI.some {a b : List Nat} {n x : Nat} (ha : IsPair n a) (hb : IsPair n b) : ∀ (k : Nat) (l : List Nat) (z : Nat), n - l.length ≤ k → LpI a b n x l z → ∃ r, LapEnd a b l z r
  | 0, l, z, hk, h => by
    by_cases hz : z ∈ l
    · exact ⟨_, .stop hz⟩
    · have := h.room ha hb hz; omega
  | k + 1, l, z, hk, h => by
    by_cases hz : z ∈ l
    · exact ⟨_, .stop hz⟩
    · have := h.room ha hb hz
      obtain ⟨r, hr⟩ := LpI.some ha hb k _ _ (by rw [List.length_append]; show n - (l.length + 2) ≤ k; omega) (h.step ha hb hz)
      exact ⟨r, .go hz hr⟩
/-- a whole lap -/
structure Lap (a b : List Nat) (n x : Nat) (M r : List Nat) : Prop where
  en : LapEnd a b [] x r
  inv : LpI a b n x r x
  hx : x ∈ r
  out : ∀ y ∈ r, y ∉ M
theorem LapEnd.lap {a b : List Nat} {n x : Nat} (ha : IsPair n a) (hb : IsPair n b) {l r : List Nat} {z : Nat} (h : LapEnd a b l z r) : LpI a b n x l z → LpI a b n x r x ∧ x ∈ r := by
  induction h with
  | stop hz => intro hi; have e := hi.done hb hz; rw [e] at hi hz; exact ⟨hi, hz⟩
  | go hz _ ih => intro hi; exact ih (hi.step ha hb hz)
theorem LapEnd.out {a b : List Nat} {n x : Nat} (ha : IsPair n a) (hb : IsPair n b) {M : List Nat} (ca : ∀ y ∈ M, a.getD y 0 ∈ M) (cb : ∀ y ∈ M, b.getD y 0 ∈ M) {l r : List Nat} {z : Nat} (h : LapEnd a b l z r) :
    LpI a b n x l z → z ∉ M → (∀ y ∈ l, y ∉ M) → ∀ y ∈ r, y ∉ M := by
  induction h with
  | stop _ => intro _ _ h; exact h
  | @go l' r' z' hz _ ih =>
    intro hi hzM hl
    obtain ⟨a1, _, a3, _⟩ := ha.d hi.zl
    obtain ⟨_, _, b3, _⟩ := hb.d a1
    have haM : a.getD z' 0 ∉ M := fun e => hzM (by have := ca _ e; rwa [a3] at this)
    refine ih (hi.step ha hb hz) (fun e => haM (by have := cb _ e; rwa [b3] at this)) fun y hy => ?_
    rcases List.mem_append.mp hy with hy | hy
    · exact hl y hy
    · rcases List.mem_cons.mp hy with e | hy
      · rw [e]; exact hzM
      · rw [List.mem_singleton.mp hy]; exact haM
/-- the cycles found up to a person -/
inductive Rn (a b : List Nat) : Nat → List (List Nat) → Prop
  | zero : Rn a b 0 []
  | skip {i : Nat} {ls : List (List Nat)} : Rn a b i ls → i ∈ ls.flatten → Rn a b (i + 1) ls
  | new {i : Nat} {ls : List (List Nat)} {r : List Nat} : Rn a b i ls → i ∉ ls.flatten → LapEnd a b [] i r → Rn a b (i + 1) (ls ++ [r])
theorem Rn.det {a b : List Nat} {i : Nat} {ls : List (List Nat)} (h : Rn a b i ls) : ∀ {ms : List (List Nat)}, Rn a b i ms → ls = ms := by
  induction h with
  | zero => intro ms h2; cases h2; rfl
  | skip h1 hm ih => intro ms h2; cases h2 with
    | skip h3 _ => exact ih h3
    | new h3 hn _ => rw [← ih h3] at hn; exact absurd hm hn
  | new h1 hn he ih => intro ms h2; cases h2 with
    | skip h3 hm => rw [← ih h3] at hm; exact absurd hm hn
    | new h3 _ he' => rw [ih h3, he.det he']
structure RnI (a b : List Nat) (n i : Nat) (ls : List (List Nat)) : Prop where
  nd : ls.flatten.Nodup
  lt : ∀ y ∈ ls.flatten, y < n
  ca : ∀ y ∈ ls.flatten, a.getD y 0 ∈ ls.flatten
  cb : ∀ y ∈ ls.flatten, b.getD y 0 ∈ ls.flatten
  al : ∀ y, y < i → y ∈ ls.flatten
  ne : ∀ l ∈ ls, l ≠ []
theorem flat_snoc (ls : List (List Nat)) (r : List Nat) : (ls ++ [r]).flatten = ls.flatten ++ r := by
  rw [List.flatten_append]; simp
theorem Rn.inv {a b : List Nat} {n : Nat} (ha : IsPair n a) (hb : IsPair n b) {i : Nat} {ls : List (List Nat)} (h : Rn a b i ls) : i ≤ n → RnI a b n i ls := by
  induction h with
  | zero => intro _; exact ⟨List.nodup_nil, fun _ h => absurd h List.not_mem_nil, fun _ h => absurd h List.not_mem_nil, fun _ h => absurd h List.not_mem_nil, fun _ h => absurd h (Nat.not_lt_zero _), fun _ h => absurd h List.not_mem_nil⟩
  | @skip i ls _ hm ih =>
    intro hi
    have h := ih (by omega)
    exact ⟨h.nd, h.lt, h.ca, h.cb, fun y hy => by by_cases e : y = i; · rw [e]; exact hm
                                                  · exact h.al y (by omega), h.ne⟩
  | @new i ls r _ hn he ih =>
    intro hi
    have h := ih (by omega)
    have s0 : LpI a b n i [] i := LpI.start (by omega)
    obtain ⟨h1, h2⟩ := he.lap ha hb s0
    have h3 := he.out ha hb h.ca h.cb s0 hn (fun _ h => absurd h List.not_mem_nil)
    have h4 := h1.closed hb h2
    refine ⟨?_, ?_, ?_, ?_, ?_, ?_⟩
    · rw [flat_snoc]; exact List.nodup_append.mpr ⟨h.nd, h1.nd, fun y hy w hw e => h3 w hw (by rw [← e]; exact hy)⟩
    · rw [flat_snoc]; intro y hy; rcases List.mem_append.mp hy with hy | hy
      · exact h.lt y hy
      · exact h1.lt y hy
    · rw [flat_snoc]; intro y hy; rcases List.mem_append.mp hy with hy | hy
      · exact List.mem_append.mpr (.inl (h.ca y hy))
      · exact List.mem_append.mpr (.inr (h1.ca y hy))
    · rw [flat_snoc]; intro y hy; rcases List.mem_append.mp hy with hy | hy
      · exact List.mem_append.mpr (.inl (h.cb y hy))
      · exact List.mem_append.mpr (.inr (h4 y hy))
    · rw [flat_snoc]; intro y hy
      by_cases e : y = i
      · rw [e]; exact List.mem_append.mpr (.inr h2)
      · exact List.mem_append.mpr (.inl (h.al y (by omega)))
    · intro l hl; rcases List.mem_append.mp hl with hl | hl
      · exact h.ne l hl
      · rw [List.mem_singleton.mp hl]; intro e; rw [e] at h2; exact absurd h2 List.not_mem_nil
theorem flatL_len : ∀ (ls : List (List Nat)), (∀ l ∈ ls, l ≠ []) → ls.length ≤ ls.flatten.length
  | [], _ => Nat.le_refl _
  | l :: ls, h => by
    have h1 := flatL_len ls (fun m hm => h m (List.mem_cons_of_mem _ hm))
    have h2 : 0 < l.length := List.length_pos_iff.mpr (h l List.mem_cons_self)
    rw [List.flatten_cons, List.length_append, List.length_cons]; omega
theorem flatL_one {ls : List (List Nat)} {l : List Nat} (h : l ∈ ls) : l.length ≤ ls.flatten.length := by
  obtain ⟨s, t, rfl⟩ := List.append_of_mem h
  rw [List.flatten_append, List.flatten_cons, List.length_append, List.length_append]; omega
theorem RnI.len {a b : List Nat} {n i : Nat} {ls : List (List Nat)} (h : RnI a b n i ls) : ls.flatten.length ≤ n := nd_len n _ h.nd h.lt
theorem RnI.len' {a b : List Nat} {n i : Nat} {ls : List (List Nat)} (h : RnI a b n i ls) : ls.length ≤ n := Nat.le_trans (flatL_len ls h.ne) h.len
theorem RnI.perm {a b : List Nat} {n : Nat} {ls : List (List Nat)} (h : RnI a b n n ls) : ls.flatten.Perm (List.range n) := nd_all n _ h.nd h.lt h.al
end Pc
namespace Pc
open PySem PySem.Spec PyProof.Rows L2 RZ
theorem tups_upd {w : World} {g : Addr} {S : Int → Bool} {k : Nat} {H : Hp} {o : HO} (hg : H g = some (SetO w g S k)) : ∀ {as : List Addr} {ls : List (List Nat)}, Tups H as ls → Tups (upd H g o) as ls
  | _, _, .nil => .nil
  | _, _, .cons h r => .cons (by rw [upd_ne (fun z => by rw [z, hg] at h; cases h)]; exact h) (tups_upd hg r)
end Pc
namespace Pc
/-! ### classes: how many there are, and what one more join does -/
inductive Cn (E : Nat → Nat → Prop) : Nat → Nat → Prop
  | refl (x : Nat) : Cn E x x
  | step {x y z : Nat} : Cn E x y → E y z ∨ E z y → Cn E x z
theorem Cn.trans {E : Nat → Nat → Prop} {x y z : Nat} (h : Cn E x y) (g : Cn E y z) : Cn E x z := by
  induction g with
  | refl => exact h
  | step _ e ih => exact .step ih e
theorem Cn.one {E : Nat → Nat → Prop} {x y : Nat} (h : E x y ∨ E y x) : Cn E x y := .step (.refl x) h
theorem Cn.symm {E : Nat → Nat → Prop} {x y : Nat} (h : Cn E x y) : Cn E y x := by
  induction h with
  | refl => exact .refl _
  | step _ e ih => exact (Cn.one e.symm).trans ih
theorem Cn.mono {E F : Nat → Nat → Prop} (h : ∀ x y, E x y → Cn F x y) {x y : Nat} (g : Cn E x y) : Cn F x y := by
  induction g with
  | refl => exact .refl _
  | step _ e ih => exact ih.trans (e.elim (fun z => h _ _ z) (fun z => (h _ _ z).symm))
/-- the joins with one more -/
def Ad (p q : Nat) (E : Nat → Nat → Prop) : Nat → Nat → Prop := fun x y => E x y ∨ (x = p ∧ y = q)
theorem Cn.up {E : Nat → Nat → Prop} {p q x y : Nat} (h : Cn E x y) : Cn (Ad p q E) x y := h.mono fun _ _ e => .one (.inl (.inl e))
theorem cn_ad {E : Nat → Nat → Prop} {p q x y : Nat} (h : Cn (Ad p q E) x y) : Cn E x y ∨ (Cn E x p ∧ Cn E q y) ∨ (Cn E x q ∧ Cn E p y) := by
  induction h with
  | refl => exact .inl (.refl _)
  | step _ e ih =>
    have go : ∀ {u v : Nat}, (Cn E x u ∨ (Cn E x p ∧ Cn E q u) ∨ (Cn E x q ∧ Cn E p u)) → E u v ∨ E v u → Cn E x v ∨ (Cn E x p ∧ Cn E q v) ∨ (Cn E x q ∧ Cn E p v) := fun {u v} h e => by
      rcases h with h | ⟨h1, h2⟩ | ⟨h1, h2⟩
      · exact .inl (.step h e)
      · exact .inr (.inl ⟨h1, .step h2 e⟩)
      · exact .inr (.inr ⟨h1, .step h2 e⟩)
    rcases e with (e | ⟨rfl, rfl⟩) | (e | ⟨rfl, rfl⟩)
    · exact go ih (.inl e)
    · rcases ih with h | ⟨h1, h2⟩ | ⟨h1, h2⟩
      · exact .inr (.inl ⟨h, .refl _⟩)
      · exact .inr (.inl ⟨h1, .refl _⟩)
      · exact .inl h1
    · exact go ih (.inr e)
    · rcases ih with h | ⟨h1, h2⟩ | ⟨h1, h2⟩
      · exact .inr (.inr ⟨h, .refl _⟩)
      · exact .inl h1
      · exact .inr (.inr ⟨h1, .refl _⟩)
/-- the least of its class -/
def Lst1 (E : Nat → Nat → Prop) (x : Nat) : Prop := ∀ y, y < x → ¬ Cn E y x
open Classical in
noncomputable def nc (n : Nat) (E : Nat → Nat → Prop) : Nat := ((List.range n).filter fun x => decide (Lst1 E x)).length
open Classical in
theorem nc_congr {n : Nat} {E F : Nat → Nat → Prop} (h : ∀ x y, Cn E x y ↔ Cn F x y) : nc n E = nc n F := by
  unfold nc
  congr 2
  funext x
  exact decide_eq_decide.mpr ⟨fun g y hy c => g y hy ((h y x).mpr c), fun g y hy c => g y hy ((h y x).mp c)⟩
theorem flt_len_le {p q : Nat → Bool} : ∀ (l : List Nat), (∀ x ∈ l, q x = true → p x = true) → (l.filter q).length ≤ (l.filter p).length
  | [], _ => Nat.le_refl _
  | x :: l, h => by
    have ih := flt_len_le (p := p) (q := q) l (fun y hy => h y (List.mem_cons_of_mem _ hy))
    by_cases c : q x = true
    · rw [List.filter_cons_of_pos c, List.filter_cons_of_pos (h x List.mem_cons_self c), List.length_cons, List.length_cons]; omega
    · rw [List.filter_cons_of_neg c]
      by_cases d : p x = true
      · rw [List.filter_cons_of_pos d, List.length_cons]; omega
      · rw [List.filter_cons_of_neg d]; exact ih
theorem flt_len_one {p q : Nat → Bool} : ∀ (l : List Nat), l.Nodup → (∀ x ∈ l, ∀ y ∈ l, p x = true → ¬ q x = true → p y = true → ¬ q y = true → x = y) → (l.filter p).length ≤ (l.filter q).length + 1
  | [], _, _ => Nat.zero_le _
  | x :: l, hd, h => by
    have hd' := List.nodup_cons.mp hd
    have ih := flt_len_one (p := p) (q := q) l hd'.2 (fun y hy z hz => h y (List.mem_cons_of_mem _ hy) z (List.mem_cons_of_mem _ hz))
    by_cases c : p x = true
    · by_cases d : q x = true
      · rw [List.filter_cons_of_pos c, List.filter_cons_of_pos d, List.length_cons, List.length_cons]; omega
      · have h2 := flt_len_le (p := q) (q := p) l (fun y hy py => by
          by_cases qy : q y = true
          · exact qy
          · have e := h x List.mem_cons_self y (List.mem_cons_of_mem _ hy) c d py qy
            rw [← e] at hy; exact absurd hy hd'.1)
        rw [List.filter_cons_of_pos c, List.filter_cons_of_neg d, List.length_cons]; omega
    · rw [List.filter_cons_of_neg c]
      by_cases d : q x = true
      · rw [List.filter_cons_of_pos d, List.length_cons]; omega
      · rw [List.filter_cons_of_neg d]; exact ih
theorem flt_len_lt {p q : Nat → Bool} : ∀ (l : List Nat), (∀ x ∈ l, q x = true → p x = true) → (∃ x ∈ l, p x = true ∧ ¬ q x = true) → (l.filter q).length < (l.filter p).length
  | [], _, h => by obtain ⟨x, hx, _⟩ := h; exact absurd hx List.not_mem_nil
  | x :: l, h, g => by
    have h' : ∀ y ∈ l, q y = true → p y = true := fun y hy => h y (List.mem_cons_of_mem _ hy)
    have h1 := flt_len_le (p := p) (q := q) l h'
    by_cases c : q x = true
    · obtain ⟨y, hy, py, qy⟩ := g
      have ih := flt_len_lt (p := p) (q := q) l h' ⟨y, (List.mem_cons.mp hy).resolve_left (fun e => qy (by rw [e]; exact c)), py, qy⟩
      rw [List.filter_cons_of_pos c, List.filter_cons_of_pos (h x List.mem_cons_self c), List.length_cons, List.length_cons]; omega
    · rw [List.filter_cons_of_neg c]
      by_cases d : p x = true
      · rw [List.filter_cons_of_pos d, List.length_cons]; omega
      · obtain ⟨y, hy, py, qy⟩ := g
        rw [List.filter_cons_of_neg d]
        exact flt_len_lt (p := p) (q := q) l h' ⟨y, (List.mem_cons.mp hy).resolve_left (fun e => d (by rw [← e]; exact py)), py, qy⟩
theorem lst_of_ad {E : Nat → Nat → Prop} {p q x : Nat} (h : Lst1 (Ad p q E) x) : Lst1 E x := fun y hy c => h y hy c.up
open Classical in
theorem nc_ad_le {n : Nat} {E : Nat → Nat → Prop} {p q : Nat} : nc n (Ad p q E) ≤ nc n E := flt_len_le _ fun _ _ h => decide_eq_true (lst_of_ad (of_decide_eq_true h))
theorem lst_uniq {E : Nat → Nat → Prop} {x y : Nat} (hx : Lst1 E x) (hy : Lst1 E y) (h : Cn E x y) : x = y := by
  rcases Nat.lt_trichotomy x y with c | c | c
  · exact absurd h (hy x c)
  · exact c
  · exact absurd h.symm (hx y c)
/-- who is the least no more -/
theorem lost {E : Nat → Nat → Prop} {p q x : Nat} (hx : Lst1 E x) (hn : ¬ Lst1 (Ad p q E) x) : (Cn E x q ∧ ∃ y, y < x ∧ Cn E y p) ∨ (Cn E x p ∧ ∃ y, y < x ∧ Cn E y q) := by
  obtain ⟨y, hy, c⟩ : ∃ y, y < x ∧ Cn (Ad p q E) y x := by
    rcases Classical.em (∃ y, y < x ∧ Cn (Ad p q E) y x) with h | h
    · exact h
    · exact absurd (fun y hy c => h ⟨y, hy, c⟩) hn
  rcases cn_ad c with h | ⟨h1, h2⟩ | ⟨h1, h2⟩
  · exact absurd h (hx y hy)
  · exact .inl ⟨h2.symm, y, hy, h1⟩
  · exact .inr ⟨h2.symm, y, hy, h1⟩
open Classical in
theorem nc_le_ad {n : Nat} {E : Nat → Nat → Prop} {p q : Nat} : nc n E ≤ nc n (Ad p q E) + 1 := by
  refine flt_len_one _ List.nodup_range fun x _ y _ hx' nx' hy' ny' => ?_
  have hx := of_decide_eq_true hx'
  have hy := of_decide_eq_true hy'
  have nx : ¬ Lst1 (Ad p q E) x := fun z => nx' (decide_eq_true z)
  have ny : ¬ Lst1 (Ad p q E) y := fun z => ny' (decide_eq_true z)
  rcases lost hx nx with ⟨h1, z, hz, h2⟩ | ⟨h1, z, hz, h2⟩ <;> rcases lost hy ny with ⟨g1, w, hw, g2⟩ | ⟨g1, w, hw, g2⟩
  · exact lst_uniq hx hy (h1.trans g1.symm)
  · -- x is the least of q's class, y of p's
    have a1 : ¬ z < y := fun c => hy z c (h2.trans g1.symm)
    have a2 : ¬ w < x := fun c => hx w c (g2.trans h1.symm)
    omega
  · have a1 : ¬ z < y := fun c => hy z c (h2.trans g1.symm)
    have a2 : ¬ w < x := fun c => hx w c (g2.trans h1.symm)
    omega
  · exact lst_uniq hx hy (h1.trans g1.symm)
theorem nc_ad_eq {n : Nat} {E : Nat → Nat → Prop} {p q : Nat} (h : Cn E p q) : nc n (Ad p q E) = nc n E :=
  nc_congr fun x y => ⟨fun c => by
    rcases cn_ad c with c | ⟨h1, h2⟩ | ⟨h1, h2⟩
    · exact c
    · exact (h1.trans h).trans h2
    · exact (h1.trans h.symm).trans h2, fun c => c.up⟩
open Classical in
theorem least_of {E : Nat → Nat → Prop} : ∀ (p : Nat), ∃ x, x ≤ p ∧ Cn E x p ∧ Lst1 E x
  | p => by
    by_cases h : Lst1 E p
    · exact ⟨p, Nat.le_refl _, .refl _, h⟩
    · obtain ⟨y, hy, c⟩ : ∃ y, y < p ∧ Cn E y p := by
        rcases Classical.em (∃ y, y < p ∧ Cn E y p) with g | g
        · exact g
        · exact absurd (fun y hy c => g ⟨y, hy, c⟩) h
      obtain ⟨x, h1, h2, h3⟩ := least_of (E := E) y
      exact ⟨x, by omega, h2.trans c, h3⟩
open Classical in
theorem nc_ad_lt {n : Nat} {E : Nat → Nat → Prop} {p q : Nat} (hp : p < n) (hq : q < n) (h : ¬ Cn E p q) : nc n (Ad p q E) + 1 = nc n E := by
  have h1 := nc_le_ad (n := n) (E := E) (p := p) (q := q)
  have h2 : nc n (Ad p q E) < nc n E := by
    refine flt_len_lt _ (fun _ _ h => decide_eq_true (lst_of_ad (of_decide_eq_true h))) ?_
    obtain ⟨x, x1, x2, x3⟩ := least_of (E := E) p
    obtain ⟨y, y1, y2, y3⟩ := least_of (E := E) q
    have e : Cn (Ad p q E) p q := .one (.inl (.inr ⟨rfl, rfl⟩))
    rcases Nat.lt_trichotomy x y with c | c | c
    · exact ⟨y, List.mem_range.mpr (by omega), decide_eq_true y3, fun g => of_decide_eq_true g x c ((x2.up.trans e).trans y2.up.symm)⟩
    · rw [c] at x2; exact absurd (x2.symm.trans y2) h
    · exact ⟨x, List.mem_range.mpr (by omega), decide_eq_true x3, fun g => of_decide_eq_true g y c ((y2.up.trans e.symm).trans x2.up.symm)⟩
  omega
/-- an involution without a fixed point: an even number -/
theorem even_inv {f : Nat → Nat} : ∀ (k : Nat) (l : List Nat), l.length = k → l.Nodup → (∀ z ∈ l, f z ∈ l ∧ f z ≠ z ∧ f (f z) = z) → k % 2 = 0
  | 0, _, _, _, _ => rfl
  | 1, l, hl, hd, h => by
    obtain ⟨x, rfl⟩ := List.length_eq_one_iff.mp hl
    have := h x List.mem_cons_self
    exact absurd (List.mem_singleton.mp this.1) this.2.1
  | k + 2, l, hl, hd, h => by
    obtain ⟨x, r, rfl⟩ : ∃ x r, l = x :: r := by
      cases l with
      | nil => cases hl
      | cons x r => exact ⟨x, r, rfl⟩
    obtain ⟨x1, x2, x3⟩ := h x List.mem_cons_self
    have hd' := List.nodup_cons.mp hd
    have xr : f x ∈ r := (List.mem_cons.mp x1).resolve_left x2
    have ih := even_inv (f := f) k (r.erase (f x)) (by rw [List.length_erase_of_mem xr]; rw [List.length_cons] at hl; omega) (hd'.2.erase _) (fun z hz => by
      obtain ⟨z1, z2⟩ := (hd'.2.mem_erase_iff).mp hz
      obtain ⟨y1, y2, y3⟩ := h z (List.mem_cons_of_mem _ z2)
      refine ⟨(hd'.2.mem_erase_iff).mpr ⟨fun e => ?_, (List.mem_cons.mp y1).resolve_left (fun e => ?_)⟩, y2, y3⟩
      · have : z = x := by rw [← y3, e, x3]
        exact hd'.1 (by rw [← this]; exact z2)
      · exact z1 (by rw [← y3, e]))
    omega
end Pc
namespace Pc
/-! ### cycles are classes; a call changes their number by one at most -/
def ed (n : Nat) (a b : List Nat) : Nat → Nat → Prop := fun x y => x < n ∧ (y = a.getD x 0 ∨ y = b.getD x 0)
theorem LapEnd.cn {a b : List Nat} {n i : Nat} (ha : IsPair n a) (hb : IsPair n b) {l r : List Nat} {z : Nat} (h : LapEnd a b l z r) : LpI a b n i l z → Cn (ed n a b) i z → (∀ y ∈ l, Cn (ed n a b) i y) → ∀ y ∈ r, Cn (ed n a b) i y := by
  induction h with
  | stop _ => intro _ _ h; exact h
  | @go l' r' z' hz _ ih =>
    intro hi hc hl
    obtain ⟨a1, _, _, _⟩ := ha.d hi.zl
    have c1 : Cn (ed n a b) i (a.getD z' 0) := .step hc (.inl ⟨hi.zl, .inl rfl⟩)
    refine ih (hi.step ha hb hz) (.step c1 (.inl ⟨a1, .inr rfl⟩)) fun y hy => ?_
    rcases List.mem_append.mp hy with hy | hy
    · exact hl y hy
    · rcases List.mem_cons.mp hy with e | hy
      · rw [e]; exact hc
      · rw [List.mem_singleton.mp hy]; exact c1
theorem cn_in {a b : List Nat} {n i : Nat} {r : List Nat} (ha : IsPair n a) (hb : IsPair n b) (hi : i ∈ r) (ca : ∀ y ∈ r, a.getD y 0 ∈ r) (cb : ∀ y ∈ r, b.getD y 0 ∈ r) {y : Nat} (h : Cn (ed n a b) i y) : y ∈ r := by
  induction h with
  | refl => exact hi
  | step _ e ih =>
    rcases e with ⟨_, e | e⟩ | ⟨hz, e | e⟩
    · rw [e]; exact ca _ ih
    · rw [e]; exact cb _ ih
    · have := ca _ ih; rw [e, (ha.d hz).2.2.1] at this; exact this
    · have := cb _ ih; rw [e, (hb.d hz).2.2.1] at this; exact this
theorem lap_cn {a b : List Nat} {n i : Nat} (ha : IsPair n a) (hb : IsPair n b) (hi : i < n) {r : List Nat} (h : LapEnd a b [] i r) (y : Nat) : y ∈ r ↔ Cn (ed n a b) i y := by
  have s0 : LpI a b n i [] i := LpI.start hi
  obtain ⟨h1, h2⟩ := h.lap ha hb s0
  exact ⟨h.cn ha hb s0 (.refl _) (fun _ h => absurd h List.not_mem_nil) y, cn_in ha hb h2 h1.ca (h1.closed hb h2)⟩
theorem flt_pos {p : Nat → Bool} {i : Nat} (h : p i = true) : ((List.range (i + 1)).filter p).length = ((List.range i).filter p).length + 1 := by
  rw [List.range_succ, List.filter_append, List.filter_cons_of_pos h, List.filter_nil, List.length_append]; rfl
theorem flt_neg {p : Nat → Bool} {i : Nat} (h : p i = false) : ((List.range (i + 1)).filter p).length = ((List.range i).filter p).length := by
  rw [List.range_succ, List.filter_append, List.filter_cons_of_neg (by rw [h]; exact Bool.false_ne_true), List.filter_nil, List.append_nil]
open Classical in
theorem Rn.count {a b : List Nat} {n : Nat} (ha : IsPair n a) (hb : IsPair n b) {i : Nat} {ls : List (List Nat)} (h : Rn a b i ls) : i ≤ n → (∀ y, y ∈ ls.flatten ↔ ∃ j, j < i ∧ Cn (ed n a b) j y) ∧ ls.length = ((List.range i).filter fun x => decide (Lst1 (ed n a b) x)).length := by
  induction h with
  | zero => intro _; exact ⟨fun y => ⟨fun h => absurd h List.not_mem_nil, fun ⟨j, hj, _⟩ => absurd hj (Nat.not_lt_zero _)⟩, rfl⟩
  | @skip i ls _ hm ih =>
    intro hi
    obtain ⟨h1, h2⟩ := ih (by omega)
    obtain ⟨j0, hj0, c0⟩ := (h1 i).mp hm
    refine ⟨fun y => ⟨fun h => by obtain ⟨j, hj, c⟩ := (h1 y).mp h; exact ⟨j, by omega, c⟩, fun ⟨j, hj, c⟩ => ?_⟩, ?_⟩
    · by_cases e : j = i
      · exact (h1 y).mpr ⟨j0, hj0, c0.trans (by rw [← e]; exact c)⟩
      · exact (h1 y).mpr ⟨j, by omega, c⟩
    · rw [h2]; exact (flt_neg (p := fun x => decide (Lst1 (ed n a b) x)) (decide_eq_false (fun z => z j0 hj0 c0))).symm
  | @new i ls r _ hn he ih =>
    intro hi
    obtain ⟨h1, h2⟩ := ih (by omega)
    have hl := lap_cn ha hb (show i < n by omega) he
    have hL : Lst1 (ed n a b) i := fun y hy c => hn ((h1 i).mpr ⟨y, hy, c⟩)
    refine ⟨fun y => ?_, ?_⟩
    · rw [flat_snoc, List.mem_append, h1 y, hl y]
      exact ⟨fun h => by
        rcases h with ⟨j, hj, c⟩ | c
        · exact ⟨j, by omega, c⟩
        · exact ⟨i, by omega, c⟩, fun ⟨j, hj, c⟩ => by
        by_cases e : j = i
        · rw [e] at c; exact .inr c
        · exact .inl ⟨j, by omega, c⟩⟩
    · rw [List.length_append, h2]; exact (flt_pos (p := fun x => decide (Lst1 (ed n a b) x)) (decide_eq_true hL)).symm
theorem Rn.nc {a b : List Nat} {n : Nat} (ha : IsPair n a) (hb : IsPair n b) {ls : List (List Nat)} (h : Rn a b n ls) : ls.length = nc n (ed n a b) := (h.count ha hb (Nat.le_refl _)).2
/-- the joins but for those of four people in the first pairing -/
def e0 (n : Nat) (a b : List Nat) (x u y v : Nat) : Nat → Nat → Prop := fun p q => p < n ∧ (q = b.getD p 0 ∨ (q = a.getD p 0 ∧ p ≠ x ∧ p ≠ u ∧ p ≠ y ∧ p ≠ v))
theorem cn_lt {n : Nat} {a b : List Nat} {x u y v w z : Nat} (ha : IsPair n a) (hb : IsPair n b) (hw : w < n) (h : Cn (e0 n a b x u y v) w z) : z < n := by
  induction h with
  | refl => exact hw
  | step _ e ih =>
    rcases e with ⟨_, e | ⟨e, _⟩⟩ | ⟨h1, _⟩
    · rw [e]; exact (hb.d ih).1
    · rw [e]; exact (ha.d ih).1
    · exact h1
open Classical in
/-- one of the four is never alone -/
theorem not_alone {n : Nat} {a b : List Nat} {x u y v w : Nat} (ha : IsPair n a) (hb : IsPair n b) (hx : x < n) (hy : y < n) (hu : u = a.getD x 0) (hv : v = a.getD y 0) (hw : w = x ∨ w = u ∨ w = y ∨ w = v) :
    ∃ w', (w' = x ∨ w' = u ∨ w' = y ∨ w' = v) ∧ w' ≠ w ∧ Cn (e0 n a b x u y v) w w' := by
  have dx := ha.d hx
  have dy := ha.d hy
  have hwn : w < n := by rcases hw with e | e | e | e <;> rw [e]; exact hx; rw [hu]; exact dx.1; exact hy; rw [hv]; exact dy.1
  rcases Classical.em (∃ w', (w' = x ∨ w' = u ∨ w' = y ∨ w' = v) ∧ w' ≠ w ∧ Cn (e0 n a b x u y v) w w') with h | h
  · exact h
  exfalso
  have hno : ∀ w', (w' = x ∨ w' = u ∨ w' = y ∨ w' = v) → w' ≠ w → ¬ Cn (e0 n a b x u y v) w w' := fun w' h1 h2 h3 => h ⟨w', h1, h2, h3⟩
  obtain ⟨S, hS⟩ : ∃ S, S = (List.range n).filter fun z => decide (Cn (e0 n a b x u y v) w z) := ⟨_, rfl⟩
  have nd : S.Nodup := by rw [hS]; exact List.nodup_range.filter _
  have mem : ∀ z, z ∈ S ↔ Cn (e0 n a b x u y v) w z := fun z => by
    rw [hS, List.mem_filter, List.mem_range, decide_eq_true_iff]
    exact ⟨fun h => h.2, fun h => ⟨cn_lt ha hb hwn h, h⟩⟩
  have ev := even_inv (f := fun z => b.getD z 0) S.length S rfl nd (fun z hz => by
    have hzn := cn_lt ha hb hwn ((mem z).mp hz)
    obtain ⟨b1, b2, b3, _⟩ := hb.d hzn
    exact ⟨(mem _).mpr (.step ((mem z).mp hz) (.inl ⟨hzn, .inl rfl⟩)), b2, b3⟩)
  have wS : w ∈ S := (mem w).mpr (.refl _)
  have od := even_inv (f := fun z => a.getD z 0) (S.erase w).length (S.erase w) rfl (nd.erase _) (fun z hz => by
    obtain ⟨z1, z2⟩ := (nd.mem_erase_iff).mp hz
    have hc := (mem z).mp z2
    have hzn := cn_lt ha hb hwn hc
    obtain ⟨a1, a2, a3, _⟩ := ha.d hzn
    have zx : z ≠ x := fun e => hno z (.inl e) z1 hc
    have zu : z ≠ u := fun e => hno z (.inr (.inl e)) z1 hc
    have zy : z ≠ y := fun e => hno z (.inr (.inr (.inl e))) z1 hc
    have zv : z ≠ v := fun e => hno z (.inr (.inr (.inr e))) z1 hc
    refine ⟨(nd.mem_erase_iff).mpr ⟨fun e => ?_, (mem _).mpr (.step hc (.inl ⟨hzn, .inr ⟨rfl, zx, zu, zy, zv⟩⟩))⟩, a2, a3⟩
    have e' : z = a.getD w 0 := by rw [← a3]; exact congrArg (fun t => a.getD t 0) e
    rcases hw with w1 | w1 | w1 | w1
    · exact zu (by rw [e', w1, hu])
    · exact zx (by rw [e', w1, hu, dx.2.2.1])
    · exact zv (by rw [e', w1, hv])
    · exact zy (by rw [e', w1, hv, dy.2.2.1]))
  rw [List.length_erase_of_mem wS] at od
  have := List.length_pos_of_mem wS
  omega
theorem four_bound {n : Nat} {E : Nat → Nat → Prop} {p q r s : Nat} (h : ∀ w, (w = p ∨ w = q ∨ w = r ∨ w = s) → ∃ w', (w' = p ∨ w' = q ∨ w' = r ∨ w' = s) ∧ w' ≠ w ∧ Cn E w w') : nc n E ≤ nc n (Ad p q (Ad r s E)) + 1 := by
  have key : Cn E r s ∨ Cn (Ad r s E) p q := by
    have rs : Cn (Ad r s E) r s := .one (.inl (.inr ⟨rfl, rfl⟩))
    obtain ⟨w, hw, nw, c⟩ := h r (.inr (.inr (.inl rfl)))
    rcases hw with e | e | e | e
    · rw [e] at c
      obtain ⟨w', hw', nw', c'⟩ := h q (.inr (.inl rfl))
      rcases hw' with e' | e' | e' | e'
      · rw [e'] at c'; exact .inr c'.symm.up
      · exact absurd e' nw'
      · rw [e'] at c'; exact .inr (c'.trans c).symm.up
      · rw [e'] at c'; exact .inr ((c.symm.up.trans rs).trans c'.symm.up)
    · rw [e] at c
      obtain ⟨w', hw', nw', c'⟩ := h p (.inl rfl)
      rcases hw' with e' | e' | e' | e'
      · exact absurd e' nw'
      · rw [e'] at c'; exact .inr c'.up
      · rw [e'] at c'; exact .inr (c'.trans c).up
      · rw [e'] at c'; exact .inr ((c'.up.trans rs.symm).trans c.up)
    · exact absurd e nw
    · rw [e] at c; exact .inl c
  rcases key with k | k
  · have h1 := nc_ad_eq (n := n) k
    have h2 := nc_le_ad (n := n) (E := Ad r s E) (p := p) (q := q)
    omega
  · have h1 := nc_ad_eq (n := n) k
    have h2 := nc_le_ad (n := n) (E := E) (p := r) (q := s)
    omega
theorem nc_ad2_le {n : Nat} {E : Nat → Nat → Prop} {p q r s : Nat} : nc n (Ad p q (Ad r s E)) ≤ nc n E := Nat.le_trans nc_ad_le nc_ad_le
/-- one pairing from another by a call of x and y -/
structure Cald (n : Nat) (a a' : List Nat) (x y : Nat) : Prop where
  hx : x < n
  hy : y < n
  xy : x ≠ y
  uy : a.getD x 0 ≠ y
  tx : a'.getD x 0 = y
  ty : a'.getD y 0 = x
  tu : a'.getD (a.getD x 0) 0 = a.getD y 0
  tv : a'.getD (a.getD y 0) 0 = a.getD x 0
  el : ∀ z, z < n → z ≠ x → z ≠ a.getD x 0 → z ≠ y → z ≠ a.getD y 0 → a'.getD z 0 = a.getD z 0
theorem ed_old {n : Nat} {a b : List Nat} {x y : Nat} (ha : IsPair n a) (hx : x < n) (hy : y < n) (p q : Nat) : Cn (ed n a b) p q ↔ Cn (Ad x (a.getD x 0) (Ad y (a.getD y 0) (e0 n a b x (a.getD x 0) y (a.getD y 0)))) p q := by
  have dx := ha.d hx
  have dy := ha.d hy
  have ex : Cn (Ad x (a.getD x 0) (Ad y (a.getD y 0) (e0 n a b x (a.getD x 0) y (a.getD y 0)))) x (a.getD x 0) := .one (.inl (.inr ⟨rfl, rfl⟩))
  have ey : Cn (Ad x (a.getD x 0) (Ad y (a.getD y 0) (e0 n a b x (a.getD x 0) y (a.getD y 0)))) y (a.getD y 0) := .one (.inl (.inl (.inr ⟨rfl, rfl⟩)))
  constructor
  · exact Cn.mono fun s t ⟨hs, h⟩ => by
      rcases h with h | h
      · by_cases c1 : s = x
        · rw [h, c1]; exact ex
        · by_cases c2 : s = a.getD x 0
          · rw [h, c2, dx.2.2.1]; exact ex.symm
          · by_cases c3 : s = y
            · rw [h, c3]; exact ey
            · by_cases c4 : s = a.getD y 0
              · rw [h, c4, dy.2.2.1]; exact ey.symm
              · exact .one (.inl (.inl (.inl ⟨hs, .inr ⟨h, c1, c2, c3, c4⟩⟩)))
      · exact .one (.inl (.inl (.inl ⟨hs, .inl h⟩)))
  · exact Cn.mono fun s t h => by
      rcases h with (⟨hs, h | ⟨h, _⟩⟩ | ⟨h1, h2⟩) | ⟨h1, h2⟩
      · exact .one (.inl ⟨hs, .inr h⟩)
      · exact .one (.inl ⟨hs, .inl h⟩)
      · rw [h1, h2]; exact .one (.inl ⟨hy, .inl rfl⟩)
      · rw [h1, h2]; exact .one (.inl ⟨hx, .inl rfl⟩)
theorem ed_new {n : Nat} {a a' b : List Nat} {x y : Nat} (ha : IsPair n a) (h : Cald n a a' x y) (p q : Nat) : Cn (ed n a' b) p q ↔ Cn (Ad x y (Ad (a.getD x 0) (a.getD y 0) (e0 n a b x (a.getD x 0) y (a.getD y 0)))) p q := by
  have dx := ha.d h.hx
  have dy := ha.d h.hy
  have ex : Cn (Ad x y (Ad (a.getD x 0) (a.getD y 0) (e0 n a b x (a.getD x 0) y (a.getD y 0)))) x y := .one (.inl (.inr ⟨rfl, rfl⟩))
  have ey : Cn (Ad x y (Ad (a.getD x 0) (a.getD y 0) (e0 n a b x (a.getD x 0) y (a.getD y 0)))) (a.getD x 0) (a.getD y 0) := .one (.inl (.inl (.inr ⟨rfl, rfl⟩)))
  constructor
  · exact Cn.mono fun s t ⟨hs, g⟩ => by
      rcases g with g | g
      · by_cases c1 : s = x
        · rw [g, c1, h.tx]; exact ex
        · by_cases c2 : s = a.getD x 0
          · rw [g, c2, h.tu]; exact ey
          · by_cases c3 : s = y
            · rw [g, c3, h.ty]; exact ex.symm
            · by_cases c4 : s = a.getD y 0
              · rw [g, c4, h.tv]; exact ey.symm
              · exact .one (.inl (.inl (.inl ⟨hs, .inr ⟨by rw [g, h.el s hs c1 c2 c3 c4], c1, c2, c3, c4⟩⟩)))
      · exact .one (.inl (.inl (.inl ⟨hs, .inl g⟩)))
  · exact Cn.mono fun s t g => by
      rcases g with (⟨hs, g | ⟨g, c1, c2, c3, c4⟩⟩ | ⟨h1, h2⟩) | ⟨h1, h2⟩
      · exact .one (.inl ⟨hs, .inr g⟩)
      · exact .one (.inl ⟨hs, .inl (by rw [g, h.el s hs c1 c2 c3 c4])⟩)
      · rw [h1, h2]; exact .one (.inl ⟨dx.1, .inl h.tu.symm⟩)
      · rw [h1, h2]; exact .one (.inl ⟨h.hx, .inl h.tx.symm⟩)
/-- a call changes the number of classes by one at most -/
theorem call_nc {n : Nat} {a a' b : List Nat} {x y : Nat} (ha : IsPair n a) (hb : IsPair n b) (h : Cald n a a' x y) : nc n (ed n a b) ≤ nc n (ed n a' b) + 1 ∧ nc n (ed n a' b) ≤ nc n (ed n a b) + 1 := by
  rw [nc_congr (ed_old ha h.hx h.hy), nc_congr (ed_new ha h)]
  have four := fun w hw => not_alone (w := w) ha hb h.hx h.hy rfl rfl hw
  have h1 := four_bound (n := n) (E := e0 n a b x (a.getD x 0) y (a.getD y 0)) (p := x) (q := a.getD x 0) (r := y) (s := a.getD y 0) four
  have h2 := four_bound (n := n) (E := e0 n a b x (a.getD x 0) y (a.getD y 0)) (p := x) (q := y) (r := a.getD x 0) (s := a.getD y 0) (fun w hw => by
    obtain ⟨w', g1, g2, g3⟩ := four w (by rcases hw with e | e | e | e; exact .inl e; exact .inr (.inr (.inl e)); exact .inr (.inl e); exact .inr (.inr (.inr e)))
    exact ⟨w', by rcases g1 with e | e | e | e; exact .inl e; exact .inr (.inr (.inl e)); exact .inr (.inl e); exact .inr (.inr (.inr e)), g2, g3⟩)
  have h3 := nc_ad2_le (n := n) (E := e0 n a b x (a.getD x 0) y (a.getD y 0)) (p := x) (q := a.getD x 0) (r := y) (s := a.getD y 0)
  have h4 := nc_ad2_le (n := n) (E := e0 n a b x (a.getD x 0) y (a.getD y 0)) (p := x) (q := y) (r := a.getD x 0) (s := a.getD y 0)
  omega
end Pc
namespace Pc
/-! ### how many classes have a property; two pairings above and below a sheet -/
noncomputable def bP (p : Prop) : Bool := @decide p (Classical.propDecidable p)
theorem bP_iff {p : Prop} : bP p = true ↔ p := @decide_eq_true_iff p (Classical.propDecidable p)
noncomputable def cP (n : Nat) (E : Nat → Nat → Prop) (P : Nat → Prop) : Nat := ((List.range n).filter fun x => bP (Lst1 E x ∧ P x)).length
theorem nc_bP {n : Nat} {E : Nat → Nat → Prop} : nc n E = ((List.range n).filter fun x => bP (Lst1 E x)).length := rfl
theorem rep_ex (E : Nat → Nat → Prop) : ∀ z : Nat, ∃ w, w ≤ z ∧ Lst1 E w ∧ Cn E w z := fun z => by
  induction z using Nat.strongRecOn with
  | _ z ih =>
    by_cases h : Lst1 E z
    · exact ⟨z, Nat.le_refl _, h, .refl _⟩
    · have : ∃ y, y < z ∧ Cn E y z := Classical.byContradiction fun g => h fun y hy c => g ⟨y, hy, c⟩
      obtain ⟨y, hy, c⟩ := this
      obtain ⟨w, h1, h2, h3⟩ := ih y hy
      exact ⟨w, by omega, h2, h3.trans c⟩
theorem inj_len {α β : Type} [DecidableEq β] (f : α → β) : ∀ {l : List α} {m : List β}, l.Nodup → (∀ x ∈ l, f x ∈ m) → (∀ x ∈ l, ∀ y ∈ l, f x = f y → x = y) → l.length ≤ m.length
  | [], _, _, _, _ => Nat.zero_le _
  | x :: l, m, hd, hm, hi => by
    obtain ⟨h1, h2⟩ := List.nodup_cons.mp hd
    have hx := hm x List.mem_cons_self
    have ih := inj_len f (l := l) (m := m.erase (f x)) h2 (fun y hy => (List.mem_erase_of_ne fun e => h1 (by rw [← hi y (List.mem_cons_of_mem _ hy) x List.mem_cons_self e]; exact hy)).mpr (hm y (List.mem_cons_of_mem _ hy)))
      (fun y hy z hz => hi y (List.mem_cons_of_mem _ hy) z (List.mem_cons_of_mem _ hz))
    rw [List.length_erase_of_mem hx] at ih
    have := List.length_pos_of_mem hx
    rw [List.length_cons]; omega
/-- a map that brings different classes to different classes -/
theorem cP_le {n m : Nat} {E F : Nat → Nat → Prop} {P Q : Nat → Prop} (f : Nat → Nat) (h1 : ∀ x, x < n → P x → f x < m ∧ Q (f x)) (h2 : ∀ x y, x < n → y < n → P x → P y → Cn F (f x) (f y) → Cn E x y) (hQ : ∀ x y, Q y → Cn F x y → Q x) : cP n E P ≤ cP m F Q := by
  obtain ⟨r, hr⟩ : ∃ r : Nat → Nat, ∀ z, r z ≤ z ∧ Lst1 F (r z) ∧ Cn F (r z) z := ⟨fun z => Classical.choose (rep_ex F z), fun z => Classical.choose_spec (rep_ex F z)⟩
  have r1 := fun z => (hr z).1
  have r2 := fun z => (hr z).2.1
  have r3 := fun z => (hr z).2.2
  unfold cP
  refine inj_len (fun x => r (f x)) (List.nodup_range.filter _) (fun x hx => ?_) (fun x hx y hy e => ?_)
  · obtain ⟨g1, g2⟩ := List.mem_filter.mp hx
    obtain ⟨g3, g4⟩ := bP_iff.mp g2
    obtain ⟨k1, k2⟩ := h1 x (List.mem_range.mp g1) g4
    have := r1 (f x)
    exact List.mem_filter.mpr ⟨List.mem_range.mpr (by omega), bP_iff.mpr ⟨r2 _, hQ _ _ k2 (r3 _)⟩⟩
  · obtain ⟨a1, a2⟩ := List.mem_filter.mp hx
    obtain ⟨a3, a4⟩ := bP_iff.mp a2
    obtain ⟨b1, b2⟩ := List.mem_filter.mp hy
    obtain ⟨b3, b4⟩ := bP_iff.mp b2
    have e : r (f x) = r (f y) := e
    have c : Cn F (f x) (f y) := (r3 (f x)).symm.trans (by rw [e]; exact r3 (f y))
    have c2 := h2 x y (List.mem_range.mp a1) (List.mem_range.mp b1) a4 b4 c
    rcases Nat.lt_trichotomy x y with g | g | g
    · exact absurd c2 (b3 x g)
    · exact g
    · exact absurd c2.symm (a3 y g)
theorem cP_all {n : Nat} {E : Nat → Nat → Prop} : cP n E (fun _ => True) = nc n E := by
  rw [nc_bP]
  unfold cP
  congr 2
  funext x
  rw [Bool.eq_iff_iff, bP_iff, bP_iff]
  exact ⟨fun h => h.1, fun h => ⟨h, trivial⟩⟩
theorem flt1 (g : Nat → Bool) (x : Nat) (l : List Nat) : ((x :: l).filter g).length = (if g x = true then 1 else 0) + (l.filter g).length := by
  by_cases c : g x = true
  · rw [List.filter_cons_of_pos c, if_pos c, List.length_cons]; omega
  · rw [List.filter_cons_of_neg c, if_neg c]; omega
theorem cP_split {n : Nat} {E : Nat → Nat → Prop} (P : Nat → Prop) : cP n E (fun x => ¬ P x) + cP n E P = nc n E := by
  rw [nc_bP]
  unfold cP
  induction List.range n with
  | nil => rfl
  | cons x l ih =>
    rw [flt1, flt1, flt1]
    have a1 : (bP (Lst1 E x ∧ (fun x => ¬ P x) x) = true) = (Lst1 E x ∧ ¬ P x) := propext bP_iff
    have a2 : (bP (Lst1 E x ∧ P x) = true) = (Lst1 E x ∧ P x) := propext bP_iff
    have a3 : (bP (Lst1 E x) = true) = Lst1 E x := propext bP_iff
    have k : (if bP (Lst1 E x ∧ (fun x => ¬ P x) x) = true then 1 else 0) + (if bP (Lst1 E x ∧ P x) = true then 1 else 0) = (if bP (Lst1 E x) = true then 1 else 0) := by
      by_cases c : Lst1 E x
      · by_cases d : P x
        · rw [if_neg (by rw [a1]; exact fun h => h.2 d), if_pos (by rw [a2]; exact ⟨c, d⟩), if_pos (by rw [a3]; exact c)]
        · rw [if_pos (by rw [a1]; exact ⟨c, d⟩), if_neg (by rw [a2]; exact fun h => d h.2), if_pos (by rw [a3]; exact c)]
      · rw [if_neg (by rw [a1]; exact fun h => c h.1), if_neg (by rw [a2]; exact fun h => c h.1), if_neg (by rw [a3]; exact c)]
    omega
theorem cP_snoc {n : Nat} {E : Nat → Nat → Prop} {P : Nat → Prop} : (Lst1 E n ∧ P n → cP (n + 1) E P = cP n E P + 1) ∧ (¬ (Lst1 E n ∧ P n) → cP (n + 1) E P = cP n E P) := by
  unfold cP
  rw [List.range_succ, List.filter_append, List.length_append, flt1, List.filter_nil, List.length_nil]
  have a2 : (bP (Lst1 E n ∧ P n) = true) = (Lst1 E n ∧ P n) := propext bP_iff
  exact ⟨fun h => by rw [if_pos (by rw [a2]; exact h)], fun h => by rw [if_neg (by rw [a2]; exact h)]; rfl⟩
/-- the pairing p above, q below -/
def J2 (n : Nat) (p q : List Nat) : List Nat := p ++ q.map (n + ·)
section
variable {n : Nat} {f p q : List Nat}
theorem J2_up (hp : p.length = n) {x : Nat} (hx : x < n) : (J2 n p q).getD x 0 = p.getD x 0 := by
  unfold J2
  rw [List.getD_eq_getElem?_getD, List.getElem?_append_left (by omega), ← List.getD_eq_getElem?_getD]
theorem J2_low (hp : p.length = n) (hq : q.length = n) {x : Nat} (hx : x < n) : (J2 n p q).getD (n + x) 0 = n + q.getD x 0 := by
  unfold J2
  rw [List.getD_eq_getElem?_getD, List.getElem?_append_right (by omega), List.getElem?_map, show n + x - p.length = x by omega, List.getElem?_eq_getElem (by omega), List.getD_eq_getElem?_getD, List.getElem?_eq_getElem (by omega)]
  rfl
abbrev EJ (n : Nat) (f p q : List Nat) : Nat → Nat → Prop := ed (2 * n) f (J2 n p q)
/-- from an end to a joined or a tied one -/
theorem ej_step (hF : IsPair (2 * n) f) (hP : IsPair n p) (hQ : IsPair n q) {u v : Nat} (hu : u < 2 * n) (h : EJ n f p q u v ∨ EJ n f p q v u) : v < 2 * n ∧ (v = f.getD u 0 ∨ (u < n ∧ v = p.getD u 0) ∨ (n ≤ u ∧ v = n + q.getD (u - n) 0)) := by
  have jj : ∀ u, u < 2 * n → ((u < n ∧ (J2 n p q).getD u 0 = p.getD u 0 ∧ p.getD u 0 < n) ∨ (n ≤ u ∧ (J2 n p q).getD u 0 = n + q.getD (u - n) 0 ∧ q.getD (u - n) 0 < n)) := fun u hu => by
    rcases Nat.lt_or_ge u n with c | c
    · exact .inl ⟨c, J2_up hP.len c, (hP.d c).1⟩
    · have := J2_low (p := p) (q := q) hP.len hQ.len (x := u - n) (by omega)
      rw [show n + (u - n) = u by omega] at this
      exact .inr ⟨c, this, (hQ.d (by omega)).1⟩
  rcases h with ⟨_, h | h⟩ | ⟨hv, h | h⟩
  · exact ⟨by rw [h]; exact (hF.d hu).1, .inl h⟩
  · rcases jj u hu with ⟨c, e, l⟩ | ⟨c, e, l⟩
    · exact ⟨by omega, .inr (.inl ⟨c, by omega⟩)⟩
    · exact ⟨by omega, .inr (.inr ⟨c, by omega⟩)⟩
  · exact ⟨hv, .inl (by rw [h]; exact (hF.d hv).2.2.1.symm)⟩
  · rcases jj v hv with ⟨c, e, l⟩ | ⟨c, e, l⟩
    · rw [e] at h
      exact ⟨hv, .inr (.inl ⟨by omega, by rw [h]; exact (hP.d c).2.2.1.symm⟩)⟩
    · rw [e] at h
      have := (hQ.d (show v - n < n by omega)).2.2.1
      exact ⟨hv, .inr (.inr ⟨by omega, by rw [h, show n + q.getD (v - n) 0 - n = q.getD (v - n) 0 by omega, this]; omega⟩)⟩
/-- a way stays in its class -/
theorem cls_trail (hF : IsPair (2 * n) f) (hP : IsPair n p) {z : Nat} {l : List Nat} (h : Trail f p n z l) : z < 2 * n → ∀ e ∈ l, Cn (EJ n f p q) z e := by
  induction h with
  | @stop z _ =>
    intro hz e he
    rcases List.mem_cons.mp he with c | c
    · rw [c]; exact .refl _
    · rw [List.mem_singleton.mp c]; exact .one (.inl ⟨hz, .inl rfl⟩)
  | @go z l h1 _ ih =>
    intro hz e he
    have c1 : Cn (EJ n f p q) z (f.getD z 0) := .one (.inl ⟨hz, .inl rfl⟩)
    rcases List.mem_cons.mp he with c | he
    · rw [c]; exact .refl _
    rcases List.mem_cons.mp he with c | he
    · rw [c]; exact c1
    · have c2 : Cn (EJ n f p q) (f.getD z 0) (p.getD (f.getD z 0) 0) := .one (.inl ⟨(hF.d hz).1, .inr (J2_up hP.len h1).symm⟩)
      exact (c1.trans c2).trans (ih (by have := (hP.d h1).1; omega) e he)
theorem rd_at (hF : IsPair (2 * n) f) (hP : IsPair n p) {x : Nat} (hx : x < n) {l : List Nat} (h : Trail f p n (n + x) l) : (rd f p n).getD x 0 = l.getLastD 0 - n := by
  rw [List.getD_eq_getElem?_getD, rd_get f p hx, far_is h]; rfl
theorem cls_up (hF : IsPair (2 * n) f) (hP : IsPair n p) (hQ : IsPair n q) {x y : Nat} (hx : x < n) (h : Cn (ed n (rd f p n) q) x y) : y < n ∧ Cn (EJ n f p q) (n + x) (n + y) := by
  induction h with
  | refl => exact ⟨hx, .refl _⟩
  | @step u v _ e ih =>
    obtain ⟨hu, ih⟩ := ih
    have hr := rd_pair hF hP
    have one : ∀ {a b : Nat}, a < n → (b = (rd f p n).getD a 0 ∨ b = q.getD a 0) → Cn (EJ n f p q) (n + a) (n + b) := fun {a b} ha hb => by
      rcases hb with hb | hb
      · obtain ⟨t, _⟩ := trl_trail hF hP (z := n + a) (by omega) (by omega)
        have e1 := rd_at hF hP ha t
        obtain ⟨z1, z2⟩ := t.start2 hF hP (by omega)
        have hm : (trl f p n (n + a)).getLastD 0 ∈ trl f p n (n + a) := by
          have := t.len.1
          exact List.mem_of_getElem? (last_get (by omega))
        have := cls_trail (q := q) hF hP t (by omega) _ hm
        rwa [show n + b = (trl f p n (n + a)).getLastD 0 by omega]
      · exact .one (.inl ⟨by omega, .inr (by rw [J2_low hP.len hQ.len ha, hb])⟩)
    rcases e with ⟨_, e⟩ | ⟨hv, e⟩
    · refine ⟨?_, ih.trans (one hu e)⟩
      rcases e with e | e
      · rw [e]; exact (hr.d hu).1
      · rw [e]; exact (hQ.d hu).1
    · exact ⟨hv, ih.trans (one hv e).symm⟩
theorem cls_low (hF : IsPair (2 * n) f) (hP : IsPair n p) (hQ : IsPair n q) {y : Nat} (hy : y < n) {w : Nat} (h : Cn (EJ n f p q) (n + y) w) : w < 2 * n ∧ (n ≤ w → Cn (ed n (rd f p n) q) y (w - n)) ∧
    (w < n → ∃ l l', Trail f p n w l ∧ Trail f p n (p.getD w 0) l' ∧ Cn (ed n (rd f p n) q) y (l.getLastD 0 - n) ∧ Cn (ed n (rd f p n) q) y (l'.getLastD 0 - n)) := by
  induction h with
  | refl => exact ⟨by omega, fun _ => by rw [show n + y - n = y by omega]; exact .refl _, fun h => by omega⟩
  | @step u v _ e ih =>
    obtain ⟨hu, i1, i2⟩ := ih
    obtain ⟨hv, e⟩ := ej_step hF hP hQ hu e
    refine ⟨hv, ?_⟩
    have hfu := hF.d hu
    rcases e with e | ⟨c, e⟩ | ⟨c, e⟩
    · rcases Nat.lt_or_ge u n with c | c
      · obtain ⟨l, l', t, t', g, g'⟩ := i2 c
        refine ⟨fun hvn => ?_, fun hvn => ?_⟩
        · have s : Trail f p n u [u, f.getD u 0] := .stop (by omega)
          rw [t.det s] at g
          rw [e]; exact g
        · cases t with
          | stop h1 => omega
          | @go _ l2 h1 t2 =>
            have hf2 : f.getD v 0 = u := by rw [e]; exact hfu.2.2.1
            have tv : Trail f p n v (v :: f.getD v 0 :: l') := .go (by omega) (by rw [hf2]; exact t')
            refine ⟨_, l2, tv, by rw [e]; exact t2, ?_, ?_⟩
            · rw [lastc t'.len.1]; exact g'
            · rw [lastc t2.len.1] at g; exact g
      · have g := i1 c
        have hx : u - n < n := by omega
        obtain ⟨t, _⟩ := trl_trail hF hP (z := u) c hu
        have t' := t
        rw [show u = n + (u - n) by omega] at t'
        have er := rd_at hF hP hx t'
        rw [show n + (u - n) = u by omega] at er
        have g2 : Cn (ed n (rd f p n) q) y ((trl f p n u).getLastD 0 - n) := g.trans (.one (.inl ⟨hx, .inl er.symm⟩))
        clear er t'
        revert t g2
        generalize trl f p n u = t0
        intro t g2
        refine ⟨fun hvn => ?_, fun hvn => ?_⟩
        · have s : Trail f p n u [u, f.getD u 0] := .stop (by omega)
          rw [t.det s] at g2
          rw [e]; exact g2
        · have hf2 : f.getD v 0 = u := by rw [e]; exact hfu.2.2.1
          revert g2
          cases t with
          | stop h1 => intro; omega
          | @go _ l2 h1 t2 =>
            intro g2
            have tv : Trail f p n v [v, f.getD v 0] := .stop (by omega)
            refine ⟨_, l2, tv, by rw [e]; exact t2, ?_, ?_⟩
            · show Cn _ y (f.getD v 0 - n)
              rw [hf2]; exact g
            · rw [lastc t2.len.1] at g2; exact g2
    · have hp := hP.d c
      obtain ⟨l, l', t, t', g, g'⟩ := i2 c
      refine ⟨fun hvn => by omega, fun _ => ⟨l', l, by rw [e]; exact t', by rw [e, hp.2.2.1]; exact t, g', g⟩⟩
    · have g := i1 c
      have hq := hQ.d (show u - n < n by omega)
      refine ⟨fun hvn => ?_, fun hvn => by omega⟩
      refine g.trans (.one (.inl ⟨by omega, .inr ?_⟩))
      omega
/-- who is on no way: closed -/
theorem off_p (hF : IsPair (2 * n) f) (hP : IsPair n p) {h : Nat} (hh : h < n) (o : Off f p n h) : Off f p n (p.getD h 0) := fun x hx hm => by
  have hp := hP.d hh
  have u := on_used hF hP hp.1 hx hm
  rw [hp.2.2.1] at u
  obtain ⟨z, hz, hc⟩ := usd_mem.mp u
  obtain ⟨w, hw, e⟩ := mms_mem.mp hc
  obtain ⟨j, j1, j2, j3, j4⟩ := stp_mem hF hP (trl_at hF hP hz) (by omega) hw
  have : h = w.1 ∨ h = w.2 := by
    have e1 := congrArg Prod.fst e
    have e2 := congrArg Prod.snd e
    simp only at e1 e2
    omega
  rcases this with g | g
  · exact o z hz (by rw [g]; exact List.mem_of_getElem? j1)
  · exact o z hz (by rw [g]; exact List.mem_of_getElem? j2)
theorem off_f (hF : IsPair (2 * n) f) (hP : IsPair n p) {h : Nat} (hh : h < n) (o : Off f p n h) : f.getD h 0 < n ∧ Off f p n (f.getD h 0) := by
  have hp := hP.d hh
  have := off_next hF hP hp.1 (off_p hF hP hh o)
  rwa [hp.2.2.1] at this
abbrev OffP (f p : List Nat) (n x : Nat) : Prop := x < n ∧ Off f p n x
theorem off_cls (hF : IsPair (2 * n) f) (hP : IsPair n p) (hQ : IsPair n q) {x y : Nat} (h : OffP f p n x) (c : Cn (EJ n f p q) x y) : OffP f p n y := by
  induction c with
  | refl => exact h
  | @step u v _ e ih =>
    obtain ⟨hv, e⟩ := ej_step hF hP hQ (show u < 2 * n by have := ih.1; omega) e
    rcases e with e | ⟨c, e⟩ | ⟨c, e⟩
    · rw [e]; exact off_f hF hP ih.1 ih.2
    · rw [e]; exact ⟨(hP.d c).1, off_p hF hP c ih.2⟩
    · have := ih.1; omega
theorem on_cls (hF : IsPair (2 * n) f) (hP : IsPair n p) {x : Nat} (hx : x < 2 * n) (h : ¬ OffP f p n x) : ∃ y, y < n ∧ Cn (EJ n f p q) (n + y) x := by
  rcases Nat.lt_or_ge x n with c | c
  · have : ∃ y, y < n ∧ x ∈ trl f p n (n + y) := Classical.byContradiction fun g => h ⟨c, fun y hy hm => g ⟨y, hy, hm⟩⟩
    obtain ⟨y, hy, hm⟩ := this
    exact ⟨y, hy, cls_trail hF hP (trl_at hF hP hy) (by omega) x hm⟩
  · exact ⟨x - n, by omega, by rw [show n + (x - n) = x by omega]; exact .refl _⟩
/-- the classes with an end below are those of the results with the pairing below -/
theorem cnt_low (hF : IsPair (2 * n) f) (hP : IsPair n p) (hQ : IsPair n q) : cP (2 * n) (EJ n f p q) (fun x => ¬ OffP f p n x) = nc n (ed n (rd f p n) q) := by
  rw [← cP_all]
  refine Nat.le_antisymm ?_ ?_
  · have hy : ∀ x, ∃ y, x < 2 * n → ¬ OffP f p n x → y < n ∧ Cn (EJ n f p q) (n + y) x := fun x => by
      by_cases c : x < 2 * n ∧ ¬ OffP f p n x
      · obtain ⟨y, h⟩ := on_cls (q := q) hF hP c.1 c.2
        exact ⟨y, fun _ _ => h⟩
      · exact ⟨0, fun h1 h2 => absurd ⟨h1, h2⟩ c⟩
    obtain ⟨g, hg⟩ : ∃ g : Nat → Nat, ∀ x, x < 2 * n → ¬ OffP f p n x → g x < n ∧ Cn (EJ n f p q) (n + g x) x := ⟨fun x => Classical.choose (hy x), fun x => Classical.choose_spec (hy x)⟩
    refine cP_le g (fun x hx hP' => ⟨(hg x hx hP').1, trivial⟩) (fun x y hx hy h1 h2 c => ?_) (fun _ _ _ _ => trivial)
    have c2 := (cls_up hF hP hQ (hg x hx h1).1 c).2
    exact ((hg x hx h1).2.symm.trans c2).trans (hg y hy h2).2
  · refine cP_le (fun y => n + y) (fun x hx _ => ⟨by omega, fun h => by have := h.1; omega⟩) (fun x y hx hy _ _ c => ?_) (fun x y h c g => h (off_cls hF hP hQ g c))
    have := (cls_low hF hP hQ hx c).2.1 (by omega)
    rwa [show n + y - n = y by omega] at this
/-- the joins among those who are on no way; the others with their partners -/
noncomputable def offJ (f p : List Nat) (n : Nat) : List Nat := open Classical in (List.range n).map fun x => if Off f p n x then f.getD x 0 else p.getD x 0
theorem offJ_get {x : Nat} (hx : x < n) : (offJ f p n)[x]? = some (open Classical in if Off f p n x then f.getD x 0 else p.getD x 0) := by
  unfold offJ
  rw [List.getElem?_map, List.getElem?_range hx]; rfl
theorem offJ_on {x : Nat} (hx : x < n) (o : Off f p n x) : (offJ f p n).getD x 0 = f.getD x 0 := by
  rw [List.getD_eq_getElem?_getD, offJ_get hx, if_pos o]; rfl
theorem offJ_off {x : Nat} (hx : x < n) (o : ¬ Off f p n x) : (offJ f p n).getD x 0 = p.getD x 0 := by
  rw [List.getD_eq_getElem?_getD, offJ_get hx, if_neg o]; rfl
/-- the classes without an end below are those above -/
theorem cnt_offw (hF : IsPair (2 * n) f) (hP : IsPair n p) (hQ : IsPair n q) : cP (2 * n) (EJ n f p q) (OffP f p n) = cP n (ed n p (offJ f p n)) (Off f p n) := by
  have up : ∀ {x y : Nat}, x < n → Off f p n x → Cn (ed n p (offJ f p n)) x y → (y < n ∧ Off f p n y) ∧ Cn (EJ n f p q) x y := fun {x y} hx o c => by
    induction c with
    | refl => exact ⟨⟨hx, o⟩, .refl _⟩
    | @step u v _ e ih =>
      obtain ⟨⟨hu, ou⟩, ih⟩ := ih
      have key : v < n ∧ Off f p n v ∧ Cn (EJ n f p q) u v := by
        rcases e with ⟨_, e | e⟩ | ⟨hv, e | e⟩
        · rw [e]; exact ⟨(hP.d hu).1, off_p hF hP hu ou, .one (.inl ⟨by omega, .inr (J2_up hP.len hu).symm⟩)⟩
        · rw [offJ_on hu ou] at e
          obtain ⟨a, b⟩ := off_f hF hP hu ou
          rw [e]; exact ⟨a, b, .one (.inl ⟨by omega, .inl rfl⟩)⟩
        · have e2 : v = p.getD u 0 := by rw [e]; exact (hP.d hv).2.2.1.symm
          rw [e2]; exact ⟨(hP.d hu).1, off_p hF hP hu ou, .one (.inl ⟨by omega, .inr (J2_up hP.len hu).symm⟩)⟩
        · by_cases ov : Off f p n v
          · rw [offJ_on hv ov] at e
            exact ⟨hv, ov, .one (.inr ⟨by omega, .inl e⟩)⟩
          · rw [offJ_off hv ov] at e
            have e2 : v = p.getD u 0 := by rw [e]; exact (hP.d hv).2.2.1.symm
            exact absurd (by rw [e2]; exact off_p hF hP hu ou) ov
      exact ⟨⟨key.1, key.2.1⟩, ih.trans key.2.2⟩
  have down : ∀ {x y : Nat}, OffP f p n x → Cn (EJ n f p q) x y → Cn (ed n p (offJ f p n)) x y := fun {x y} o c => by
    have : OffP f p n y ∧ Cn (ed n p (offJ f p n)) x y := by
      induction c with
      | refl => exact ⟨o, .refl _⟩
      | @step u v cu e ih =>
        obtain ⟨ou, ih⟩ := ih
        obtain ⟨hv, e'⟩ := ej_step hF hP hQ (show u < 2 * n by have := ou.1; omega) e
        refine ⟨off_cls hF hP hQ o (.step cu e), ?_⟩
        rcases e' with e' | ⟨c, e'⟩ | ⟨c, e'⟩
        · exact ih.trans (.one (.inl ⟨ou.1, .inr (by rw [offJ_on ou.1 ou.2]; exact e')⟩))
        · exact ih.trans (.one (.inl ⟨ou.1, .inl e'⟩))
        · have := ou.1; omega
    exact this.2
  refine Nat.le_antisymm ?_ ?_
  · refine cP_le id (fun x _ o => ⟨o.1, o.2⟩) (fun x y _ _ o1 _ c => (up o1.1 o1.2 c).2) (fun x y oy c => ?_)
    by_cases hy : y < n
    · exact (up hy oy c.symm).1.2
    · -- nobody outside is joined with anybody
      have : x = y := by
        have : ∀ {u v : Nat}, Cn (ed n p (offJ f p n)) u v → ¬ u < n → u = v := fun {u v} c hu => by
          induction c with
          | refl => rfl
          | @step a b _ e ih =>
            subst ih
            rcases e with ⟨h, _⟩ | ⟨h, e | e⟩
            · exact absurd h hu
            · exact absurd (by rw [e]; exact (hP.d h).1) hu
            · by_cases ob : Off f p n b
              · rw [offJ_on h ob] at e; exact absurd (by rw [e]; exact (off_f hF hP h ob).1) hu
              · rw [offJ_off h ob] at e; exact absurd (by rw [e]; exact (hP.d h).1) hu
        exact (this c.symm hy).symm
      rw [this]; exact oy
  · exact cP_le id (fun x hx o => ⟨by show x < 2 * n; omega, hx, o⟩) (fun x y hx hy ox oy c => down ⟨hx, ox⟩ c) (fun x y oy c => off_cls hF hP hQ oy c.symm)
theorem cnt_sum (hF : IsPair (2 * n) f) (hP : IsPair n p) (hQ : IsPair n q) : nc n (ed n (rd f p n) q) + cP n (ed n p (offJ f p n)) (Off f p n) = nc (2 * n) (EJ n f p q) := by
  rw [← cnt_low hF hP hQ, ← cnt_offw hF hP hQ, cP_split]
end
end Pc
namespace Pc
open PySem PySem.Spec PyProof.Rows L2 RZ
/-! ### a word turned about; who has been met -/
section
variable {n : Nat} {f p q : List Nat}
theorem J2_os (hp : p.length = n) (hq : q.length = n) (hp2 : ∀ x, x < n → p.getD x 0 < n) (hq2 : ∀ x, x < n → q.getD x 0 < n) {x : Nat} (hx : x < 2 * n) : (J2 n q p).getD (os n x) 0 = os n ((J2 n p q).getD x 0) := by
  rcases Nat.lt_or_ge x n with c | c
  · rw [J2_up hp c, show os n x = n + x by unfold os; rw [if_pos c]; omega, J2_low hq hp c]
    unfold os
    rw [if_pos (hp2 x c)]; omega
  · have e := J2_low (p := p) (q := q) hp hq (x := x - n) (by omega)
    rw [show n + (x - n) = x by omega] at e
    rw [e, show os n x = x - n by unfold os; rw [if_neg (by omega)], J2_up hq (by omega)]
    unfold os
    rw [if_neg (by omega)]; omega
theorem cn_os (hF : IsPair (2 * n) f) (hP : IsPair n p) (hQ : IsPair n q) {x y : Nat} (hx : x < 2 * n) (h : Cn (EJ n f p q) x y) : y < 2 * n ∧ Cn (EJ n (mir f n) q p) (os n x) (os n y) := by
  have one : ∀ {u v : Nat}, EJ n f p q u v → EJ n (mir f n) q p (os n u) (os n v) := fun {u v} ⟨hu, e⟩ => by
    refine ⟨os_lt hu, ?_⟩
    rcases e with e | e
    · left
      rw [mir_d f (os_lt hu), os_os hu, e]
    · right
      rw [J2_os hP.len hQ.len (fun x hx => (hP.d hx).1) (fun x hx => (hQ.d hx).1) hu, e]
  induction h with
  | refl => exact ⟨hx, .refl _⟩
  | @step u v _ e ih =>
    obtain ⟨hu, ih⟩ := ih
    exact ⟨(ej_step hF hP hQ hu e).1, .step ih (e.imp one one)⟩
theorem nc_os (hF : IsPair (2 * n) f) (hP : IsPair n p) (hQ : IsPair n q) : nc (2 * n) (EJ n f p q) = nc (2 * n) (EJ n (mir f n) q p) := by
  have key : ∀ {f p q : List Nat}, IsPair (2 * n) f → IsPair n p → IsPair n q → cP (2 * n) (EJ n f p q) (fun _ => True) ≤ cP (2 * n) (EJ n (mir f n) q p) (fun _ => True) := fun {f p q} hF hP hQ => by
    refine cP_le (os n) (fun x hx _ => ⟨os_lt hx, trivial⟩) (fun x y hx hy _ _ c => ?_) (fun _ _ _ _ => trivial)
    have := (cn_os (mir_pair hF) hQ hP (os_lt hx) c).2
    rwa [mir_mir hF, os_os hx, os_os hy] at this
  rw [← cP_all, ← cP_all]
  refine Nat.le_antisymm (key hF hP hQ) ?_
  have := key (mir_pair hF) hQ hP
  rwa [mir_mir hF] at this
theorem ed_comm (n : Nat) (a b : List Nat) : ed n a b = ed n b a := by
  funext x y
  unfold ed
  exact propext ⟨fun ⟨h, g⟩ => ⟨h, g.symm⟩, fun ⟨h, g⟩ => ⟨h, g.symm⟩⟩
theorem turned_about (hF : IsPair (2 * n) f) (hP : IsPair n p) (hQ : IsPair n q) :
    nc n (ed n (rd f p n) q) + cP n (ed n p (offJ f p n)) (Off f p n) = nc n (ed n p (rd (mir f n) q n)) + cP n (ed n q (offJ (mir f n) q n)) (Off (mir f n) q n) := by
  rw [cnt_sum hF hP hQ, ed_comm n p (rd (mir f n) q n), cnt_sum (mir_pair hF) hQ hP, nc_os hF hP hQ]
theorem offJ_pair (hF : IsPair (2 * n) f) (hP : IsPair n p) : IsPair n (offJ f p n) := by
  refine ⟨by unfold offJ; rw [List.length_map, List.length_range], fun x hx => ?_⟩
  have hp := hP.d hx
  by_cases o : Off f p n x
  · obtain ⟨a, b⟩ := off_f hF hP hx o
    have hf := hF.d (show x < 2 * n by omega)
    refine ⟨f.getD x 0, ?_, a, hf.2.1, ?_⟩
    · rw [offJ_get hx, if_pos o]
    · rw [offJ_get a, if_pos b, hf.2.2.1]
  · have b : ¬ Off f p n (p.getD x 0) := fun b => o (by have := off_p hF hP hp.1 b; rwa [hp.2.2.1] at this)
    refine ⟨p.getD x 0, ?_, hp.1, hp.2.1, ?_⟩
    · rw [offJ_get hx, if_neg o]
    · rw [offJ_get hp.1, if_neg b, hp.2.2.1]
end
/-! who has been met: a dict with people as keys -/
def dkM (M : List Nat) : List (L2.Key × V) := M.map fun x => ((Sum.inl ((x : Nat) : Int) : L2.Key), V.bl true)
theorem val_dkM {M : List Nat} {z : Nat} : valV (dkM M) (Sum.inl ((z : Nat) : Int)) = if z ∈ M then some (V.bl true) else none := by
  induction M with
  | nil => rfl
  | cons x M ih =>
    unfold dkM valV at ih ⊢
    rw [List.map_cons]
    by_cases c : z = x
    · rw [List.find?_cons_of_pos (by rw [decide_eq_true_iff]; rw [c]), if_pos (by rw [c]; exact List.mem_cons_self)]; rfl
    · rw [List.find?_cons_of_neg (by
        rw [decide_eq_true_iff]
        intro e
        have e := Sum.inl.inj e
        exact c (by omega)), ih]
      by_cases d : z ∈ M
      · rw [if_pos d, if_pos (List.mem_cons_of_mem _ d)]
      · rw [if_neg d, if_neg (fun h => by
          rcases List.mem_cons.mp h with h | h
          · exact c h
          · exact d h)]
theorem put_dkM {M : List Nat} {z : Nat} (h : z ∉ M) : putK (dkM M) (Sum.inl ((z : Nat) : Int)) (V.bl true) = dkM (M ++ [z]) := by
  unfold putK
  rw [if_neg]
  · unfold dkM; rw [List.map_append]; rfl
  · intro e
    obtain ⟨kv, hkv, e⟩ := List.any_eq_true.mp e
    obtain ⟨x, hx, rfl⟩ := List.mem_map.mp hkv
    have e := Sum.inl.inj (of_decide_eq_true e)
    have : x = z := by omega
    rw [this] at hx
    exact h hx
structure Met (a b : List Nat) (n : Nat) (P : Nat → Prop) (i : Nat) (M : List Nat) : Prop where
  nd : M.Nodup
  lt : ∀ x ∈ M, x < n
  mem : ∀ x, x < n → (x ∈ M ↔ ∃ j, j < i ∧ P j ∧ Cn (ed n a b) j x)
section
variable {a b : List Nat} {n i : Nat} {P : Nat → Prop} {M : List Nat}
theorem Met.zero : Met a b n P 0 [] := ⟨List.nodup_nil, fun _ h => absurd h List.not_mem_nil, fun x _ => ⟨fun h => absurd h List.not_mem_nil, fun ⟨j, hj, _⟩ => absurd hj (Nat.not_lt_zero _)⟩⟩
theorem Met.few (h : Met a b n P i M) : M.length ≤ n := nd_len n _ h.nd h.lt
theorem Met.least (h : Met a b n P i M) (hPc : ∀ x y, P x → Cn (ed n a b) x y → P y) (hi : i < n) (hp : P i) (hm : i ∉ M) : Lst1 (ed n a b) i := fun y hy c =>
  hm ((h.mem i hi).mpr ⟨y, hy, hPc _ _ hp c.symm, c⟩)
theorem Met.seen (h : Met a b n P i M) (hi : i < n) (hm : i ∈ M) : ¬ Lst1 (ed n a b) i := fun g => by
  obtain ⟨j, hj, _, c⟩ := (h.mem i hi).mp hm
  exact g j hj c
theorem Met.skip (h : Met a b n P i M) (hi : i < n) (hs : ¬ P i ∨ i ∈ M) : Met a b n P (i + 1) M := by
  refine ⟨h.nd, h.lt, fun x hx => ⟨fun hm => ?_, fun ⟨j, hj, hp, c⟩ => ?_⟩⟩
  · obtain ⟨j, hj, g⟩ := (h.mem x hx).mp hm
    exact ⟨j, by omega, g⟩
  · rcases Nat.lt_or_ge j i with d | d
    · exact (h.mem x hx).mpr ⟨j, d, hp, c⟩
    · have : j = i := by omega
      subst this
      rcases hs with hs | hs
      · exact absurd hp hs
      · obtain ⟨k, hk, hpk, ck⟩ := (h.mem j hi).mp hs
        exact (h.mem x hx).mpr ⟨k, hk, hpk, ck.trans c⟩
/-- nobody of the new class has been met -/
theorem Met.apart (h : Met a b n P i M) (hi : i < n) (hm : i ∉ M) {z : Nat} (hz : z < n) (c : Cn (ed n a b) i z) : z ∉ M := fun g => by
  obtain ⟨j, hj, hp, d⟩ := (h.mem z hz).mp g
  exact hm ((h.mem i hi).mpr ⟨j, hj, hp, d.trans c.symm⟩)
theorem Met.lap (h : Met a b n P i M) (ha : IsPair n a) (hb : IsPair n b) (hp : P i) (hm : i ∉ M) {r : List Nat} (hr : LpI a b n i r i) (hir : i ∈ r) (hc : ∀ y ∈ r, Cn (ed n a b) i y) : Met a b n P (i + 1) (M ++ r) := by
  have hi := hr.zl
  have cb := hr.closed hb hir
  refine ⟨List.nodup_append.mpr ⟨h.nd, hr.nd, fun x hx y hy e => h.apart hi hm (hr.lt y hy) (hc y hy) (by rw [← e]; exact hx)⟩, fun x hx => ?_, fun x hx => ?_⟩
  · rcases List.mem_append.mp hx with g | g
    · exact h.lt x g
    · exact hr.lt x g
  · rw [List.mem_append]
    constructor
    · rintro (g | g)
      · obtain ⟨j, hj, g⟩ := (h.mem x hx).mp g
        exact ⟨j, by omega, g⟩
      · exact ⟨i, by omega, hp, hc x g⟩
    · rintro ⟨j, hj, hpj, c⟩
      rcases Nat.lt_or_ge j i with d | d
      · exact .inl ((h.mem x hx).mpr ⟨j, d, hpj, c⟩)
      · have : j = i := by omega
        subst this
        right
        clear hpj hj
        induction c with
        | refl => exact hir
        | @step u v cu e ih =>
          have hu : u < n := by
            rcases e with e | e
            · exact e.1
            · rcases e.2 with e2 | e2
              · rw [e2]; exact (ha.d e.1).1
              · rw [e2]; exact (hb.d e.1).1
          have um := ih hu
          rcases e with ⟨_, e | e⟩ | ⟨hv, e | e⟩
          · rw [e]; exact hr.ca u um
          · rw [e]; exact cb u um
          · have : v = a.getD u 0 := by rw [e]; exact (ha.d hv).2.2.1.symm
            rw [this]; exact hr.ca u um
          · have : v = b.getD u 0 := by rw [e]; exact (hb.d hv).2.2.1.symm
            rw [this]; exact cb u um
theorem off_closed {f p : List Nat} (hF : IsPair (2 * n) f) (hP : IsPair n p) {x y : Nat} (hx : x < n) (o : Off f p n x) (c : Cn (ed n p (offJ f p n)) x y) : y < n ∧ Off f p n y := by
  induction c with
  | refl => exact ⟨hx, o⟩
  | @step u v _ e ih =>
    obtain ⟨hu, ou⟩ := ih
    have hO := offJ_pair hF hP
    have one : ∀ {w : Nat}, w < n → Off f p n w → ∀ z, z = p.getD w 0 ∨ z = (offJ f p n).getD w 0 → z < n ∧ Off f p n z := fun {w} hw ow z hz => by
      rcases hz with hz | hz
      · rw [hz]; exact ⟨(hP.d hw).1, off_p hF hP hw ow⟩
      · rw [hz, offJ_on hw ow]; exact off_f hF hP hw ow
    rcases e with ⟨_, e⟩ | ⟨hv, e | e⟩
    · exact one hu ou v e
    · exact one hu ou v (.inl (by rw [e]; exact (hP.d hv).2.2.1.symm))
    · exact one hu ou v (.inr (by rw [e]; exact (hO.d hv).2.2.1.symm))
end
end Pc
namespace Pc
open PySem PySem.Spec PyProof.Rows L2 RZ
/-! ### take_d (of snip_p_followed), units1L (of lib240) alone -/
theorem take_d {l : List Nat} {i : Nat} (h : i < l.length) : l.take (i + 1) = l.take i ++ [l.getD i 0] := by
  rw [List.take_add_one, List.getD_eq_getElem?_getD, List.getElem?_eq_getElem h]; rfl
theorem units1L {k : Nat} {A : Around} (r : Room k A) : A.units + 1 < cLine := by have := r.units; omega
theorem nv_some {L : List Nat} {i : Nat} {v : V} (h : (nv L)[i]? = some v) : ∃ w, L[i]? = some w ∧ v = .int (w : Nat) := by
  unfold nv at h
  rw [List.getElem?_map] at h
  obtain ⟨w, hw, rfl⟩ := Option.map_eq_some_iff.mp h
  exact ⟨w, hw, rfl⟩
end Pc
namespace Pc
/-! ### the loops of a closed sheet -/
def upE (f : List Nat) (n p : Nat) : Nat := f.getD p 0 % n
def loE (f : List Nat) (n p : Nat) : Nat := f.getD (n + p) 0 % n
structure LoopL (f : List Nat) (n x : Nat) (ps : List Nat) : Prop where
  mem : x ∈ ps
  nd : ps.Nodup
  lt : ∀ p ∈ ps, p < n
  cl : ∀ p ∈ ps, upE f n p ∈ ps ∧ loE f n p ∈ ps
  mn : ∀ M : List Nat, x ∈ M → (∀ p ∈ M, upE f n p ∈ M ∧ loE f n p ∈ M) → ∀ p ∈ ps, p ∈ M
theorem LoopL.perm {f : List Nat} {n x : Nat} {ps qs : List Nat} (h : LoopL f n x ps) (g : LoopL f n x qs) : ps.Perm qs :=
  (List.perm_ext_iff_of_nodup h.nd g.nd).mpr fun p => ⟨h.mn qs g.mem g.cl p, g.mn ps h.mem h.cl p⟩
theorem sorted_of {l : List Nat} (h : l.Nodup) : ∃ t : List Nat, t.Perm l ∧ t.Pairwise (· < ·) := by
  refine ⟨l.mergeSort (fun a b => decide (a ≤ b)), List.mergeSort_perm _ _, ?_⟩
  have h1 : (l.mergeSort (fun a b => decide (a ≤ b))).Pairwise (fun a b => decide (a ≤ b) = true) := List.pairwise_mergeSort (fun a b c h1 h2 => by
    have := of_decide_eq_true h1; have := of_decide_eq_true h2; exact decide_eq_true (by omega)) (fun a b => by
    rw [Bool.or_eq_true, decide_eq_true_iff, decide_eq_true_iff]; omega) l
  have h2 : (l.mergeSort (fun a b => decide (a ≤ b))).Nodup := (List.mergeSort_perm l _).nodup_iff.mpr h
  have h3 : (l.mergeSort (fun a b => decide (a ≤ b))).Pairwise (· ≠ ·) := h2
  exact (h1.and h3).imp fun {a b} h => by have := of_decide_eq_true h.1; have := h.2; omega
theorem sorted_eq {s t : List Nat} (h : s.Perm t) (hs : s.Pairwise (· < ·)) (ht : t.Pairwise (· < ·)) : s = t :=
  List.Perm.eq_of_pairwise (le := fun a b : Nat => a < b) (fun a b _ _ h1 h2 => by omega) hs ht h
inductive Lo (f : List Nat) (n : Nat) : Nat → List (List Nat) → Prop
  | zero : Lo f n 0 []
  | skip {i : Nat} {ls : List (List Nat)} : Lo f n i ls → i ∈ ls.flatten → Lo f n (i + 1) ls
  | new {i : Nat} {ls : List (List Nat)} {ps t : List Nat} : Lo f n i ls → i ∉ ls.flatten → LoopL f n i ps → t.Perm ps → t.Pairwise (· < ·) → Lo f n (i + 1) (ls ++ [t])
theorem Lo.det {f : List Nat} {n i : Nat} {ls : List (List Nat)} (h : Lo f n i ls) : ∀ {ms : List (List Nat)}, Lo f n i ms → ls = ms := by
  induction h with
  | zero => intro ms h2; cases h2; rfl
  | skip h1 hm ih => intro ms h2; cases h2 with
    | skip h3 _ => exact ih h3
    | new h3 hn _ _ _ => rw [← ih h3] at hn; exact absurd hm hn
  | new h1 hn hL hp hs ih => intro ms h2; cases h2 with
    | skip h3 hm => rw [← ih h3] at hm; exact absurd hm hn
    | new h3 _ hL' hp' hs' => rw [ih h3, sorted_eq ((hp.trans (hL.perm hL')).trans hp'.symm) hs hs']
theorem Lo.bound {f : List Nat} {n i : Nat} {ls : List (List Nat)} (h : Lo f n i ls) : ls.length ≤ i ∧ ∀ t ∈ ls, 0 < t.length ∧ t.length ≤ n ∧ ∀ p ∈ t, p < n := by
  induction h with
  | zero => exact ⟨Nat.le_refl _, fun _ h => absurd h List.not_mem_nil⟩
  | skip _ _ ih => exact ⟨by omega, ih.2⟩
  | @new i ls ps t _ _ hL hp _ ih =>
    refine ⟨by rw [List.length_append, List.length_singleton]; omega, fun u hu => ?_⟩
    rcases List.mem_append.mp hu with hu | hu
    · exact ih.2 u hu
    · rw [List.mem_singleton.mp hu]
      refine ⟨List.length_pos_of_mem (hp.mem_iff.mpr hL.mem), ?_, fun p hp' => hL.lt p (hp.mem_iff.mp hp')⟩
      rw [hp.length_eq]; exact nd_len n ps hL.nd hL.lt
/-! ### the walk along the ends -/
def oth (n y : Nat) : Nat := if y < n then y + n else y - n
theorem oth_emp {n y : Nat} (h : y < 2 * n) : (emp n).getD y 0 = oth n y := by
  unfold oth
  by_cases c : y < n
  · rw [if_pos c, getD_of (emp_lo c), Nat.add_comm]
  · rw [if_neg c]
    have := emp_hi (n := n) (e := y - n) (by omega)
    rw [show n + (y - n) = y by omega] at this
    exact getD_of this
theorem oth_lt {n y : Nat} (h : y < 2 * n) : oth n y < 2 * n := by unfold oth; split <;> omega
theorem oth_oth {n y : Nat} (h : y < 2 * n) : oth n (oth n y) = y := by
  unfold oth
  by_cases c : y < n
  · rw [if_pos c, if_neg (by omega)]; omega
  · rw [if_neg c, if_pos (by omega)]; omega
theorem oth_mod {n y : Nat} (h : y < 2 * n) : oth n y % n = y % n := by
  unfold oth
  by_cases c : y < n
  · rw [if_pos c, Nat.add_mod_right]
  · rw [if_neg c, ← Nat.mod_eq_sub_mod (by omega)]
theorem mod_two {n y z : Nat} (hy : y < 2 * n) (hz : z < 2 * n) (h : y % n = z % n) : y = z ∨ y = oth n z := by
  have e : ∀ w, w < 2 * n → w % n = if w < n then w else w - n := fun w hw => by
    by_cases c : w < n
    · rw [if_pos c, Nat.mod_eq_of_lt c]
    · rw [if_neg c, Nat.mod_eq_sub_mod (by omega), Nat.mod_eq_of_lt (by omega)]
  rw [e y hy, e z hz] at h
  unfold oth
  split at h <;> split at h <;> split <;> omega
inductive Ev (f : List Nat) : List Nat → List Nat → Prop
  | nil : Ev f [] []
  | snoc {l es : List Nat} {z : Nat} : Ev f l es → Ev f (l ++ [z, f.getD z 0]) (es ++ [z])
theorem Ev.sub {f l es : List Nat} (h : Ev f l es) : ∀ y ∈ es, y ∈ l ∧ f.getD y 0 ∈ l := by
  induction h with
  | nil => intro y hy; exact absurd hy List.not_mem_nil
  | snoc _ ih =>
    intro y hy
    rcases List.mem_append.mp hy with hy | hy
    · exact ⟨List.mem_append.mpr (.inl (ih y hy).1), List.mem_append.mpr (.inl (ih y hy).2)⟩
    · rw [List.mem_singleton.mp hy]
      exact ⟨List.mem_append.mpr (.inr List.mem_cons_self), List.mem_append.mpr (.inr (List.mem_cons_of_mem _ List.mem_cons_self))⟩
structure EvI (f : List Nat) (n x : Nat) (l es : List Nat) (z : Nat) : Prop where
  lp : LpI f (emp n) (2 * n) x l z
  ev : Ev f l es
  dj : ∀ e ∈ es, ∀ e' ∈ es, e ≠ f.getD e' 0
  pn : (es.map (· % n)).Nodup
  nx : ∀ e ∈ es, oth n (f.getD e 0) ∈ es ∨ oth n (f.getD e 0) = z
  pv : ∀ e ∈ es, e = x ∨ ∃ e' ∈ es, e = oth n (f.getD e' 0)
  zz : es = [] ∨ ∃ e ∈ es, z = oth n (f.getD e 0)
  xe : es = [] → z = x
  xm : es ≠ [] → x ∈ es
  mn : ∀ M : List Nat, x ∈ M → (∀ p ∈ M, upE f n p ∈ M ∧ loE f n p ∈ M) → z % n ∈ M ∧ ∀ e ∈ es, e % n ∈ M
theorem EvI.start {f : List Nat} {n x : Nat} (hx : x < n) : EvI f n x [] [] x :=
  ⟨LpI.start (by omega), .nil, fun _ h => absurd h List.not_mem_nil, List.nodup_nil, fun _ h => absurd h List.not_mem_nil, fun _ h => absurd h List.not_mem_nil, .inl rfl, fun _ => rfl, fun h => absurd rfl h, fun M hM _ => ⟨by rw [Nat.mod_eq_of_lt hx]; exact hM, fun _ h => absurd h List.not_mem_nil⟩⟩
theorem end_of {f : List Nat} {n e : Nat} (he : e < 2 * n) : f.getD e 0 % n = if e < n then upE f n (e % n) else loE f n (e % n) := by
  unfold upE loE
  by_cases c : e < n
  · rw [if_pos c, Nat.mod_eq_of_lt c]
  · rw [if_neg c, Nat.mod_eq_sub_mod (show n ≤ e by omega), Nat.mod_eq_of_lt (show e - n < n by omega), show n + (e - n) = e by omega]
theorem EvI.step {f : List Nat} {n x z : Nat} {l es : List Nat} (hf : IsPair (2 * n) f) (hn : 0 < n) (h : EvI f n x l es z) (hz : z ∉ l) : EvI f n x (l ++ [z, f.getD z 0]) (es ++ [z]) (oth n (f.getD z 0)) := by
  have hz2 := h.lp.zl
  obtain ⟨a1, a2, a3, _⟩ := hf.d hz2
  have haz : f.getD z 0 ∉ l := fun hm => hz (by have := h.lp.ca _ hm; rwa [a3] at this)
  have hes : ∀ e ∈ es, e < 2 * n := fun e he => h.lp.lt e (h.ev.sub e he).1
  have hlp := h.lp.step hf (emp_pair hn) hz
  rw [oth_emp a1] at hlp
  refine ⟨hlp, .snoc h.ev, ?_, ?_, ?_, ?_, ?_, ?_, ?_, ?_⟩
  · intro e he e' he'
    rcases List.mem_append.mp he with he | he <;> rcases List.mem_append.mp he' with he' | he'
    · exact h.dj e he e' he'
    · rw [List.mem_singleton.mp he']; exact fun e0 => haz (by rw [← e0]; exact (h.ev.sub e he).1)
    · rw [List.mem_singleton.mp he]; exact fun e0 => hz (by rw [e0]; exact (h.ev.sub e' he').2)
    · rw [List.mem_singleton.mp he, List.mem_singleton.mp he']; exact fun e0 => a2 e0.symm
  · rw [List.map_append]
    refine List.nodup_append.mpr ⟨h.pn, List.nodup_cons.mpr ⟨List.not_mem_nil, List.nodup_nil⟩, fun p hp q hq e => ?_⟩
    rw [List.mem_singleton.mp hq] at e
    obtain ⟨y, hy, rfl⟩ := List.mem_map.mp hp
    rcases mod_two (hes y hy) hz2 e with e1 | e1
    · exact hz (by rw [← e1]; exact (h.ev.sub y hy).1)
    · rcases h.zz with e2 | ⟨e', he', e2⟩
      · rw [e2] at hy; exact absurd hy List.not_mem_nil
      · rw [e2, oth_oth (hf.d (hes e' he')).1] at e1
        exact h.dj y hy e' he' e1
  · intro e he
    rcases List.mem_append.mp he with he | he
    · rcases h.nx e he with h1 | h1
      · exact .inl (List.mem_append.mpr (.inl h1))
      · exact .inl (List.mem_append.mpr (.inr (by rw [h1]; exact List.mem_singleton.mpr rfl)))
    · rw [List.mem_singleton.mp he]; exact .inr rfl
  · intro e he
    rcases List.mem_append.mp he with he | he
    · rcases h.pv e he with h1 | ⟨e', h1, h2⟩
      · exact .inl h1
      · exact .inr ⟨e', List.mem_append.mpr (.inl h1), h2⟩
    · rw [List.mem_singleton.mp he]
      rcases h.zz with h1 | ⟨e', h1, h2⟩
      · exact .inl (h.xe h1)
      · exact .inr ⟨e', List.mem_append.mpr (.inl h1), h2⟩
  · exact .inr ⟨z, List.mem_append.mpr (.inr (List.mem_singleton.mpr rfl)), rfl⟩
  · intro e; exact absurd e (by simp)
  · intro _
    by_cases e : es = []
    · rw [h.xe e]; exact List.mem_append.mpr (.inr (List.mem_singleton.mpr rfl))
    · exact List.mem_append.mpr (.inl (h.xm e))
  · intro M hM hc
    obtain ⟨h1, h2⟩ := h.mn M hM hc
    refine ⟨?_, fun e he => ?_⟩
    · rw [oth_mod a1, end_of hz2]
      split
      · exact (hc _ h1).1
      · exact (hc _ h1).2
    · rcases List.mem_append.mp he with he | he
      · exact h2 e he
      · rw [List.mem_singleton.mp he]; exact h1
theorem EvI.loop {f : List Nat} {n x : Nat} {l es : List Nat} (hf : IsPair (2 * n) f) (hx : x < n) (h : EvI f n x l es x) (hne : es ≠ []) : LoopL f n x (es.map (· % n)) := by
  have hes : ∀ e ∈ es, e < 2 * n := fun e he => h.lp.lt e (h.ev.sub e he).1
  have nx : ∀ e ∈ es, oth n (f.getD e 0) ∈ es := fun e he => by
    rcases h.nx e he with h1 | h1
    · exact h1
    · rw [h1]; exact h.xm hne
  have pv : ∀ e ∈ es, ∃ e' ∈ es, e = oth n (f.getD e' 0) := fun e he => by
    rcases h.pv e he with h1 | h1
    · rw [h1]; exact h.zz.resolve_left hne
    · exact h1
  refine ⟨List.mem_map.mpr ⟨x, h.xm hne, Nat.mod_eq_of_lt hx⟩, h.pn, fun p hp => ?_, fun p hp => ?_, fun M hM hc p hp => ?_⟩
  · obtain ⟨e, _, rfl⟩ := List.mem_map.mp hp
    exact Nat.mod_lt _ (by omega)
  · obtain ⟨e, he, rfl⟩ := List.mem_map.mp hp
    have h1 : f.getD e 0 % n ∈ es.map (· % n) := List.mem_map.mpr ⟨_, nx e he, oth_mod (hf.d (hes e he)).1⟩
    obtain ⟨e', he', e1⟩ := pv e he
    have hfe' := hf.d (hes e' he')
    have h2 : f.getD (oth n e) 0 % n ∈ es.map (· % n) := by
      rw [e1, oth_oth hfe'.1, hfe'.2.2.1]
      exact List.mem_map.mpr ⟨e', he', rfl⟩
    rw [end_of (hes e he)] at h1
    rw [end_of (oth_lt (hes e he)), oth_mod (hes e he)] at h2
    have hlt := hes e he
    by_cases c : e < n
    · rw [if_pos c] at h1
      rw [if_neg (by unfold oth; rw [if_pos c]; omega)] at h2
      exact ⟨h1, h2⟩
    · rw [if_neg c] at h1
      rw [if_pos (by unfold oth; rw [if_neg c]; omega)] at h2
      exact ⟨h2, h1⟩
  · obtain ⟨e, he, rfl⟩ := List.mem_map.mp hp
    exact (h.mn M hM hc).2 e he
/-! ### the search -/
structure Bf (f : List Nat) (n x : Nat) (lp fr : List Nat) : Prop where
  mem : x ∈ lp
  nd : lp.Nodup
  lt : ∀ p ∈ lp, p < n
  sub : ∀ p ∈ fr, p ∈ lp
  cl : ∀ p ∈ lp, p ∈ fr ∨ (upE f n p ∈ lp ∧ loE f n p ∈ lp)
  mn : ∀ M : List Nat, x ∈ M → (∀ p ∈ M, upE f n p ∈ M ∧ loE f n p ∈ M) → ∀ p ∈ lp, p ∈ M
theorem Bf.start {f : List Nat} {n x : Nat} (hx : x < n) : Bf f n x [x] [x] :=
  ⟨List.mem_singleton.mpr rfl, List.nodup_cons.mpr ⟨List.not_mem_nil, List.nodup_nil⟩, fun p hp => by rw [List.mem_singleton.mp hp]; exact hx, fun _ h => h, fun _ h => .inl h, fun M hM _ p hp => by rw [List.mem_singleton.mp hp]; exact hM⟩
theorem Bf.done {f : List Nat} {n x : Nat} {lp : List Nat} (h : Bf f n x lp []) : LoopL f n x lp :=
  ⟨h.mem, h.nd, h.lt, fun p hp => (h.cl p hp).resolve_left List.not_mem_nil, h.mn⟩
structure Bm (f : List Nat) (n x : Nat) (lp fr : List Nat) (y i : Nat) : Prop where
  mem : x ∈ lp
  nd : lp.Nodup
  lt : ∀ p ∈ lp, p < n
  sub : ∀ p ∈ fr, p ∈ lp
  hin : y ∈ lp
  cl : ∀ p ∈ lp, p ∈ fr ∨ p = y ∨ (upE f n p ∈ lp ∧ loE f n p ∈ lp)
  d0 : 1 ≤ i → upE f n y ∈ lp
  d1 : 2 ≤ i → loE f n y ∈ lp
  mn : ∀ M : List Nat, x ∈ M → (∀ p ∈ M, upE f n p ∈ M ∧ loE f n p ∈ M) → ∀ p ∈ lp, p ∈ M
theorem Bf.pop {f : List Nat} {n x y : Nat} {lp fr : List Nat} (h : Bf f n x lp (fr ++ [y])) : Bm f n x lp fr y 0 :=
  ⟨h.mem, h.nd, h.lt, fun p hp => h.sub p (List.mem_append.mpr (.inl hp)), h.sub y (List.mem_append.mpr (.inr (List.mem_singleton.mpr rfl))), fun p hp => by
    rcases h.cl p hp with h1 | h1
    · rcases List.mem_append.mp h1 with h1 | h1
      · exact .inl h1
      · exact .inr (.inl (List.mem_singleton.mp h1))
    · exact .inr (.inr h1), fun z => absurd z (by omega), fun z => absurd z (by omega), h.mn⟩
def endE (f : List Nat) (n y i : Nat) : Nat := if i = 0 then upE f n y else loE f n y
theorem Bm.old {f : List Nat} {n x y i : Nat} {lp fr : List Nat} (h : Bm f n x lp fr y i) (hi : i < 2) (hm : endE f n y i ∈ lp) : Bm f n x lp fr y (i + 1) := by
  refine ⟨h.mem, h.nd, h.lt, h.sub, h.hin, h.cl, fun _ => ?_, fun hz => ?_, h.mn⟩
  · by_cases c : i = 0
    · unfold endE at hm; rw [if_pos c] at hm; exact hm
    · exact h.d0 (by omega)
  · unfold endE at hm; rw [if_neg (by omega)] at hm; exact hm
theorem Bm.new {f : List Nat} {n x y i : Nat} {lp fr : List Nat} (h : Bm f n x lp fr y i) (hn : 0 < n) (hi : i < 2) (hm : endE f n y i ∉ lp) : Bm f n x (lp ++ [endE f n y i]) (fr ++ [endE f n y i]) y (i + 1) := by
  have hlt : endE f n y i < n := by unfold endE upE loE; split <;> exact Nat.mod_lt _ hn
  have in1 : ∀ p, p ∈ lp → p ∈ lp ++ [endE f n y i] := fun p hp => List.mem_append.mpr (.inl hp)
  have in2 : endE f n y i ∈ lp ++ [endE f n y i] := List.mem_append.mpr (.inr (List.mem_singleton.mpr rfl))
  refine ⟨in1 _ h.mem, ?_, fun p hp => ?_, fun p hp => ?_, in1 _ h.hin, fun p hp => ?_, fun _ => ?_, fun hz => ?_, fun M hM hc p hp => ?_⟩
  · exact List.nodup_append.mpr ⟨h.nd, List.nodup_cons.mpr ⟨List.not_mem_nil, List.nodup_nil⟩, fun p hp q hq e => hm (by rw [← List.mem_singleton.mp hq, ← e]; exact hp)⟩
  · rcases List.mem_append.mp hp with hp | hp
    · exact h.lt p hp
    · rw [List.mem_singleton.mp hp]; exact hlt
  · rcases List.mem_append.mp hp with hp | hp
    · exact in1 _ (h.sub p hp)
    · rw [List.mem_singleton.mp hp]; exact in2
  · rcases List.mem_append.mp hp with hp | hp
    · rcases h.cl p hp with h1 | h1 | h1
      · exact .inl (List.mem_append.mpr (.inl h1))
      · exact .inr (.inl h1)
      · exact .inr (.inr ⟨in1 _ h1.1, in1 _ h1.2⟩)
    · rw [List.mem_singleton.mp hp]; exact .inl (List.mem_append.mpr (.inr (List.mem_singleton.mpr rfl)))
  · by_cases c : i = 0
    · have : endE f n y i = upE f n y := by unfold endE; rw [if_pos c]
      rw [← this]; exact in2
    · exact in1 _ (h.d0 (by omega))
  · have : endE f n y i = loE f n y := by unfold endE; rw [if_neg (by omega)]
    rw [← this]; exact in2
  · rcases List.mem_append.mp hp with hp | hp
    · exact h.mn M hM hc p hp
    · rw [List.mem_singleton.mp hp]
      have h1 := hc y (h.mn M hM hc y h.hin)
      unfold endE; split
      · exact h1.1
      · exact h1.2
theorem Bm.room {f : List Nat} {n x y i : Nat} {lp fr : List Nat} (h : Bm f n x lp fr y i) (hn : 0 < n) (hi : i < 2) (hm : endE f n y i ∉ lp) : lp.length + 1 ≤ n := by
  have h1 := h.new hn hi hm
  have h2 := nd_len n _ h1.nd h1.lt
  rw [List.length_append, List.length_singleton] at h2; exact h2
theorem Bm.back {f : List Nat} {n x y : Nat} {lp fr : List Nat} (h : Bm f n x lp fr y 2) : Bf f n x lp fr :=
  ⟨h.mem, h.nd, h.lt, h.sub, fun p hp => by
    rcases h.cl p hp with h1 | h1 | h1
    · exact .inl h1
    · rw [h1]; exact .inr ⟨h.d0 (by omega), h.d1 (by omega)⟩
    · exact .inr h1, h.mn⟩
/-! ### pure loops -/
def pureB (f : List Nat) (n : Nat) (l : List Nat) : Bool := decide (1 < l.length) && l.all fun p => decide (n ≤ f.getD p 0)
end Pc
namespace Pc
open PySem PySem.Spec PyProof.Rows L2 RZ
section
variable {P : Program} {w : World} {K : PySem.W.Frag} {mg : Str → Option Value} {base : Heap}
/-! ### upside down -/
def spOther : Sp := fun vs H Q _ => ∃ n e : Nat, vs = [.int n, .int e] ∧ Q (.int (os n e : Nat)) H
theorem ok_p_other_side (T : Env K mg) : FnOk P w K mg base CX0 1 T.f_p_other_side T.d_p_other_side ["size", "end"] spOther := by
  refine T.F_p_other_side.ok sc_p_other_side (fun vs H Q E h => ?_) (fun cdv A outer s H vs Q E hr h => ?_)
  · obtain ⟨n, e, rfl, _⟩ := h
    rfl
  · obtain ⟨n, e, rfl, q⟩ := h
    refine ⟨_, pss_one (ps_ret (pe_ifExp (pt_cmpR op_lt (pv 1) (pv 0) (nomark _)) (pe_op op_add (pv 1) (pv 0)) (pe_op op_sub (pv 1) (pv 0)))), ?_⟩
    refine ⟨_, rfl, _, rfl, _, _, rfl, rfl, _, rfl, ite2 (fun c => ?_) (fun c => ?_)⟩
    · have h : e < n := by have := of_decide_eq_true c; omega
      refine ⟨_, rfl, _, rfl, _, _, rfl, rfl, ?_⟩
      have : (((e : Nat) : Int) + (n : Int)) = ((os n e : Nat) : Int) := by unfold os; rw [if_pos h]; omega
      show Q (.int (((e : Nat) : Int) + (n : Int))) H
      rw [this]; exact q
    · have h : ¬ e < n := fun z => c (decide_eq_true (by omega))
      refine ⟨_, rfl, _, rfl, _, _, rfl, rfl, ?_⟩
      have : (((e : Nat) : Int) - (n : Int)) = ((os n e : Nat) : Int) := by unfold os; rw [if_neg h]; omega
      show Q (.int (((e : Nat) : Int) - (n : Int))) H
      rw [this]; exact q
def spMirrored (K : PySem.W.Frag) : Sp := fun vs H Q _ => ∃ (a : Addr) (f : List Nat) (n : Nat), vs = [.ref a] ∧ Sq K H a (nv f) ∧ IsPair (2 * n) f ∧ n ≤ 500 ∧
  ∀ (H' : Hp) (t : Addr), Same H H' → H t = none → H' t = some (.tup (nv (mir f n))) → Q (.ref t) H'
theorem ok_p_mirrored (T : Env K mg) : FnOk P w K mg base CX0 2 T.f_p_mirrored T.d_p_mirrored ["sheet"] (spMirrored K) := by
  have G0 : FnOk P w K mg base CX0 1 T.f_p_people_of T.d_p_people_of ["sheet"] (spPeople K) := ok_p_people_of T
  have G1 : FnOk P w K mg base CX0 1 T.f_p_other_side T.d_p_other_side ["size", "end"] spOther := ok_p_other_side T
  refine T.F_p_mirrored.ok sc_p_mirrored (fun vs H Q E h => ?_) (fun cdv A outer s H vs Q E hr h => ?_)
  · obtain ⟨a, f, n, rfl, _⟩ := h
    rfl
  · obtain ⟨a, f, n, rfl, ha, hf, hn, q⟩ := h
    refine ⟨_, pss_cons (ps_set (i := 1) sc_p_mirrored.nd rfl (.inr rfl) (pe_call G0 hr (by rfl) T.g_p_people_of T.F_p_people_of.kp T.b_p_people_of .nil pass0 (pa_cons (pv 0) pa_nil))) <|
      pss_one (ps_ret (pe_callTy call_tuple_of (by rfl) T.n_tuple (by decide +kernel) (pa_cons
        (pe_lc (own := [("end", 2)]) (g := gName 2) (tt := tYes) (te := tCall spOther [] (fun _ _ _ => False) (tCons (tVar 1) (tCons (tOp (rIx K) (tVar 0) (tCall spOther [] (fun _ _ _ => False) (tCons (tVar 1) (tCons (tVar 2) tNil)))) tNil))) rfl sc_p_mirrored.nd
          (pi_range1 (by rfl) T.n_range (pa_cons (pe_op op_mul pe_int (pv 1)) pa_nil)) (blkOk_by (N := N_p_mirrored) (sc := defScope s_p_mirrored) (by decide +kernel)) (fun _ _ _ _ _ => pg_name (i := 2) sc_p_mirrored.nd rfl (.inl rfl)) (fun _ _ _ _ _ => pts_nil)
          (fun _ _ _ _ _ => pe_call G1 hr (by rfl) T.g_p_other_side T.F_p_other_side.kp T.b_p_other_side .nil pass0 (pa_cons (pv 1) (pa_cons (pe_ix ix_seq (pv 0) (pe_call G1 hr (by rfl) T.g_p_other_side T.F_p_other_side.kp T.b_p_other_side .nil pass0 (pa_cons (pv 1) (pa_cons (pv 2) pa_nil))) (fun _ _ => rfl)) pa_nil)))) pa_nil))), ?_⟩
    refine ⟨.ref a, rfl, a, f, n, rfl, ha, hf.len, ?_⟩
    refine ⟨_, rfl, 2, n, rfl, rfl, .inl ⟨by decide, by decide⟩, _, rfl, by omega, by omega, fun D nD => ?_⟩
    rw [show (2 * (n : Int)).toNat = 2 * n by omega]
    refine lc_range (n := 2 * n) (fun i H' => Same H H' ∧ H' D = some (.lst (nv ((mir f n).take i)))) ⟨same_new nD, upd_same⟩ (fun i H1 hi hPv => ?_) (fun H1 hPv => ?_)
    · obtain ⟨sm, eD⟩ := hPv
      have fo := hf.d (os_lt hi)
      refine ⟨rfl, yes_if ⟨_, rfl, .ref a, rfl, _, rfl, _, rfl, n, i, ?_, ix_sq (ha.same sm) (nv_at fo.2.2.2) ⟨n, f.getD (os n i) 0, rfl, _, eD, line_big (by rw [nv_length, List.length_take, mir_len]; omega), fun x o hx => ?_, ?_⟩⟩⟩
      · show [V.int (n : Int), V.int ((0 : Int) + (i : Nat))] = _
        rw [Int.zero_add]
      · rw [upd_ne (ne_of_none hx nD)]; exact sm _ _ hx
      · rw [upd_same, take_d (by rw [mir_len]; exact hi), ← nv_snoc', mir_d f hi]
    · obtain ⟨s1, eD⟩ := hPv
      rw [List.take_of_length_le (Nat.le_of_eq (mir_len f n))] at eD
      exact ⟨D, _, rfl, .inl ⟨.inl (.inl eD), fun t nt => q _ t (s1.trans (same_new nt)) (s1.free nt) upd_same⟩⟩
end
end Pc
namespace Pc
open PySem PySem.Spec PyProof.Rows L2 RZ
section
variable {P : Program} {w : World} {K : PySem.W.Frag} {mg : Str → Option Value} {base : Heap}
/-! ### pairs of a sheet -/
def spPairs (K : PySem.W.Frag) (g : List Nat → Nat → List (Nat × Nat)) : Sp := fun vs H Q _ => ∃ (a : Addr) (fs : List Nat) (n : Nat), vs = [.ref a] ∧ Sq K H a (nv fs) ∧ IsPair (2 * n) fs ∧ n ≤ 500 ∧
  ∀ (H' : Hp) (p : Addr) (as : List Addr), Same H H' → H p = none → H' p = some (.lst (as.map V.ref)) → Prs H' as (g fs n) → Q (.ref p) H'
theorem at0 {fs : List Nat} {i z : Nat} (e : fs[i]? = some z) : atI (nv fs) ((0 : Int) + (i : Nat)) = some (.int z) := by rw [Int.zero_add]; exact nv_at e
theorem at1 {fs : List Nat} {n i z : Nat} (e : fs[n + i]? = some z) : atI (nv fs) ((n : Int) + ((0 : Int) + (i : Nat))) = some (.int z) := by
  rw [Int.zero_add, show (n : Int) + (i : Int) = ((n + i : Nat) : Int) by omega]; exact nv_at e
end
end Pc
namespace Pc
open PySem PySem.Spec PyProof.Rows L2 RZ
section
variable {P : Program} {w : World} {K : PySem.W.Frag} {mg : Str → Option Value} {base : Heap}
/-! ### upper pairs -/
theorem ok_p_upper_pairs (T : Env K mg) : FnOk P w K mg base CX0 2 T.f_p_upper_pairs T.d_p_upper_pairs ["sheet"] (spPairs K ups) := by
  have G0 : FnOk P w K mg base CX0 1 T.f_p_people_of T.d_p_people_of ["sheet"] (spPeople K) := ok_p_people_of T
  refine T.F_p_upper_pairs.ok sc_p_upper_pairs (fun vs H Q E h => ?_) (fun cdv A outer s H vs Q E hr h => ?_)
  · obtain ⟨a, fs, n, rfl, _⟩ := h
    rfl
  · obtain ⟨a, fs, n, rfl, hS, hP, hn, q⟩ := h
    refine ⟨_, pss_cons (ps_set (i := 1) sc_p_upper_pairs.nd rfl (.inr rfl) (pe_call G0 hr (by rfl) T.g_p_people_of T.F_p_people_of.kp T.b_p_people_of .nil pass0 (pa_cons (pv 0) pa_nil))) <|
      pss_one (ps_ret (pe_lc (own := [("x", 2)]) (g := gName 2) (tt := tTest (tChain (rI0 fun i j => .bl (decide (i < j))) (rI0 fun i j => .bl (decide (i < j))) (tVar 2) (tOp (rIx K) (tVar 0) (tVar 2)) (tVar 1))) (te := tTup (tCons (tVar 2) (tCons (tOp (rIx K) (tVar 0) (tVar 2)) tNil))) rfl sc_p_upper_pairs.nd
        (pi_range1 (by rfl) T.n_range (pa_cons (pv 1) pa_nil)) (blkOk_by (N := N_p_upper_pairs) (sc := defScope s_p_upper_pairs) (by decide +kernel)) (fun _ _ _ _ _ => pg_name (i := 2) sc_p_upper_pairs.nd rfl (.inl rfl))
        (fun _ _ _ _ _ => pts_one (pt_chain op_lt op_lt (pv 2) (pe_ix ix_seq (pv 0) (pv 2) (fun _ _ => rfl)) (pv 1)))
        (fun _ _ _ _ _ => pe_tup (pa_cons (pv 2) (pa_cons (pe_ix ix_seq (pv 0) (pv 2) (fun _ _ => rfl)) pa_nil))))), ?_⟩
    have hl := hP.len
    refine ⟨.ref a, rfl, a, fs, n, rfl, hS, hl, _, rfl, _, rfl, by omega, by omega, fun D nD => ?_⟩
    rw [show ((n : Int)).toNat = n by omega]
    refine lc_range (n := n) (fun i H' => Same H H' ∧ ∃ as : List Addr, H' D = some (.lst (as.map V.ref)) ∧ Prs H' as (selN (upC fs n) (upG fs) i)) ⟨same_new nD, [], upd_same, .nil⟩ (fun i H1 hi hPv => ?_) (fun H1 hPv => ?_)
    · obtain ⟨sm, as, eD, hA⟩ := hPv
      obtain ⟨z, ez, _⟩ := hP.par i (by omega)
      have hS1 := hS.same sm
      refine ⟨rfl, _, rfl, _, rfl, _, rfl, ix_sq hS1 (at0 ez) ⟨_, _, rfl, rfl, _, rfl, ite2 (fun c => ?_) (fun c => ?_)⟩⟩
      · have hz : i < z := by have := of_decide_eq_true c; omega
        refine ⟨_, rfl, _, _, rfl, rfl, _, rfl, ite2 (fun c' => ?_) (fun c' => ?_)⟩
        · have hz2 : z < n := by have := of_decide_eq_true c'; omega
          refine ⟨_, rfl, _, rfl, _, rfl, ix_sq hS1 (at0 ez) ⟨by show 2 ≤ sizeLine; decide, fun u nu => sel_step nD sm eD hA ?_ nu ?_ (by omega)⟩⟩
          · unfold upC; rw [getD_of ez, decide_eq_true hz, decide_eq_true hz2]; rfl
          · unfold upG; rw [getD_of ez, Int.zero_add]
        · refine ⟨sm, as, eD, ?_⟩
          rw [selN_no]
          · exact hA
          · unfold upC; rw [getD_of ez, decide_eq_false (p := z < n) (fun h => c' (decide_eq_true (by omega))), Bool.and_false]
      · refine ⟨_, rfl, iteF ⟨sm, as, eD, ?_⟩⟩
        rw [selN_no]
        · exact hA
        · unfold upC; rw [getD_of ez, decide_eq_false (p := i < z) (fun h => c (decide_eq_true (by omega))), Bool.false_and]
    · obtain ⟨sm, as, eD, hA⟩ := hPv
      exact q H1 D as sm nD eD hA
end
end Pc
namespace Pc
open PySem PySem.Spec PyProof.Rows L2 RZ
section
variable {P : Program} {w : World} {K : PySem.W.Frag} {mg : Str → Option Value} {base : Heap}
/-! ### lower pairs -/
theorem ok_p_lower_pairs (T : Env K mg) : FnOk P w K mg base CX0 2 T.f_p_lower_pairs T.d_p_lower_pairs ["sheet"] (spPairs K los) := by
  have G0 : FnOk P w K mg base CX0 1 T.f_p_people_of T.d_p_people_of ["sheet"] (spPeople K) := ok_p_people_of T
  refine T.F_p_lower_pairs.ok sc_p_lower_pairs (fun vs H Q E h => ?_) (fun cdv A outer s H vs Q E hr h => ?_)
  · obtain ⟨a, fs, n, rfl, _⟩ := h
    rfl
  · obtain ⟨a, fs, n, rfl, hS, hP, hn, q⟩ := h
    refine ⟨_, pss_cons (ps_set (i := 1) sc_p_lower_pairs.nd rfl (.inr rfl) (pe_call G0 hr (by rfl) T.g_p_people_of T.F_p_people_of.kp T.b_p_people_of .nil pass0 (pa_cons (pv 0) pa_nil))) <|
      pss_one (ps_ret (pe_lc (own := [("x", 2)]) (g := gName 2) (tt := tTest (tOp (rI0 fun i j => .bl (decide (j < i))) (tOp (rIx K) (tVar 0) (tOp (rI0 fun i j => .int (i + j)) (tVar 1) (tVar 2))) (tOp (rI0 fun i j => .int (i + j)) (tVar 1) (tVar 2))))
          (te := tTup (tCons (tVar 2) (tCons (tOp (rI0 fun i j => .int (i - j)) (tOp (rIx K) (tVar 0) (tOp (rI0 fun i j => .int (i + j)) (tVar 1) (tVar 2))) (tVar 1)) tNil))) rfl sc_p_lower_pairs.nd
        (pi_range1 (by rfl) T.n_range (pa_cons (pv 1) pa_nil)) (blkOk_by (N := N_p_lower_pairs) (sc := defScope s_p_lower_pairs) (by decide +kernel)) (fun _ _ _ _ _ => pg_name (i := 2) sc_p_lower_pairs.nd rfl (.inl rfl))
        (fun _ _ _ _ _ => pts_one (pt_cmpR op_gt (pe_ix ix_seq (pv 0) (pe_op op_add (pv 1) (pv 2)) (fun _ _ => rfl)) (pe_op op_add (pv 1) (pv 2)) (nomark _)))
        (fun _ _ _ _ _ => pe_tup (pa_cons (pv 2) (pa_cons (pe_op op_sub (pe_ix ix_seq (pv 0) (pe_op op_add (pv 1) (pv 2)) (fun _ _ => rfl)) (pv 1)) pa_nil))))), ?_⟩
    have hl := hP.len
    refine ⟨.ref a, rfl, a, fs, n, rfl, hS, hl, _, rfl, _, rfl, by omega, by omega, fun D nD => ?_⟩
    rw [show ((n : Int)).toNat = n by omega]
    refine lc_range (n := n) (fun i H' => Same H H' ∧ ∃ as : List Addr, H' D = some (.lst (as.map V.ref)) ∧ Prs H' as (selN (loC fs n) (loG fs n) i)) ⟨same_new nD, [], upd_same, .nil⟩ (fun i H1 hi hPv => ?_) (fun H1 hPv => ?_)
    · obtain ⟨sm, as, eD, hA⟩ := hPv
      obtain ⟨z, ez, _⟩ := hP.par (n + i) (by omega)
      have hS1 := hS.same sm
      refine ⟨rfl, _, rfl, _, rfl, _, rfl, _, _, rfl, rfl, ix_sq hS1 (at1 ez) ⟨_, rfl, _, rfl, _, _, rfl, rfl, _, _, rfl, rfl, _, rfl, ite2 (fun c => ?_) (fun c => ?_)⟩⟩
      · have hz : n + i < z := by have := of_decide_eq_true c; omega
        refine ⟨_, rfl, _, rfl, _, rfl, _, rfl, _, _, rfl, rfl, ix_sq hS1 (at1 ez) ⟨_, rfl, _, _, rfl, rfl, by show 2 ≤ sizeLine; decide, fun u nu => sel_step nD sm eD hA ?_ nu ?_ (by omega)⟩⟩
        · unfold loC; rw [getD_of ez, decide_eq_true hz]
        · unfold loG; rw [getD_of ez]
          show [V.int ((0 : Int) + (i : Nat)), V.int ((z : Int) - (n : Int))] = [V.int (i : Int), V.int ((z - n : Nat) : Int)]
          rw [Int.zero_add, show (z : Int) - (n : Int) = ((z - n : Nat) : Int) by omega]
      · refine ⟨sm, as, eD, ?_⟩
        rw [selN_no]
        · exact hA
        · unfold loC; rw [getD_of ez, decide_eq_false (fun h => c (decide_eq_true (by omega)))]
    · obtain ⟨sm, as, eD, hA⟩ := hPv
      exact q H1 D as sm nD eD hA
end
end Pc
namespace Pc
open PySem PySem.Spec PyProof.Rows L2 RZ
theorem rgc_odd {r : Nat} (h : r ≤ 100000) : RgC 1 ((2 * r : Nat) : Int) 2 r := by
  have e : Builtin.Range.rangeSize 1 ((2 * r : Nat) : Int) 2 = (r : Int) := by
    unfold Builtin.Range.rangeSize
    rw [if_pos (by decide)]
    split <;> omega
  refine ⟨by decide, by decide, ?_, e⟩
  unfold Builtin.Range.small
  rw [e, fits_long (i := 1) (by decide) (by decide), fits_long (i := ((2 * r : Nat) : Int)) (by omega) (by omega), fits_long (i := 2) (by decide) (by decide), fits_long (i := (r : Int)) (by omega) (by omega), if_pos (by decide), fits_long (i := ((2 * r : Nat) : Int) + (2 - 1)) (by omega) (by omega), Bool.or_true]
  rfl
theorem dfac_small {r : Nat} (h : r ≤ 10) : dfac r ≤ 654729075 := by
  have := Nat.le_of_dvd (dfac_pos (r + (10 - r))) (dfac_dvd r (10 - r))
  rw [show r + (10 - r) = 10 by omega] at this
  exact Nat.le_trans this (by decide)
section
variable {P : Program} {w : World} {K : PySem.W.Frag} {mg : Str → Option Value} {base : Heap}
/-! ### how many pairings, how many results -/
def spMany : Sp := fun vs H Q _ => ∃ r : Nat, vs = [.int ((2 * r : Nat) : Int)] ∧ r ≤ 10 ∧ Q (.int (dfac r : Nat)) H
theorem ok_p_pairings_many (T : Env K mg) : FnOk P w K mg base CX0 1 T.f_p_pairings_many T.d_p_pairings_many ["size"] spMany := by
  refine T.F_p_pairings_many.ok sc_p_pairings_many (fun vs H Q E h => ?_) (fun cdv A outer s H vs Q E hr h => ?_)
  · obtain ⟨r, rfl, _⟩ := h
    rfl
  · obtain ⟨r, rfl, hr', q⟩ := h
    refine ⟨_, pss_cons (ps_set (i := 1) sc_p_pairings_many.nd rfl (.inl rfl) pe_int) <|
      pss_cons (ps_for PassesOwn.never rfl (pi_range3 rfl T.n_range (pa_cons pe_int (pa_cons (pv 0) (pa_cons pe_int pa_nil)))) (pg_name (i := 2) sc_p_pairings_many.nd rfl (.inl rfl))
        (pss_one (ps_aug (i := 1) sc_p_pairings_many.nd rfl (.inl rfl) (pv 2) ip_mul))) <|
      pss_one (ps_ret (pv 1)), ?_⟩
    refine ⟨_, rfl, 1, _, 2, r, rfl, rgc_odd (by omega), ?_⟩
    refine for_rangeC (fun t σ H' => H' = H ∧ ∃ y : Option V, σ = [some (.int ((2 * r : Nat) : Int)), some (.int (dfac t : Nat)), y]) ⟨rfl, none, rfl⟩ (fun t σ H' ht h => ?_) (fun σ H' h => ?_)
    · obtain ⟨rfl, y, rfl⟩ := h
      have hd := dfac_small (r := t) (by omega)
      refine ⟨_, rfl, _, rfl, _, _, rfl, rfl, .inl ⟨by omega, by omega⟩, rfl, some (.int (1 + (t : Nat) * 2)), ?_⟩
      show [some (V.int ((2 * r : Nat) : Int)), some (V.int ((dfac t : Int) * (1 + (t : Nat) * 2))), some (V.int (1 + (t : Nat) * 2))] = _
      rw [show ((dfac t : Nat) : Int) * (1 + (t : Nat) * 2) = ((dfac (t + 1) : Nat) : Int) by
        show _ = ((dfac t * (2 * t + 1) : Nat) : Int)
        rw [Int.natCast_mul, show ((2 * t + 1 : Nat) : Int) = 1 + (t : Nat) * 2 by omega]]
    · obtain ⟨rfl, y, rfl⟩ := h
      exact ⟨_, rfl, q⟩
end
end Pc
namespace Pc
open PySem PySem.Spec PyProof.Rows L2 RZ
section
variable {P : Program} {w : World} {K : PySem.W.Frag} {mg : Str → Option Value} {base : Heap}
/-! ### the people at the lower ends of strands -/
def spLoose (K : PySem.W.Frag) : Sp := fun vs H Q _ => ∃ (a : Addr) (f : List Nat) (n : Nat), vs = [.ref a] ∧ Sq K H a (nv f) ∧ IsPair (2 * n) f ∧ n ≤ 500 ∧
  ∀ (H' : Hp) (t : Addr), Same H H' → H t = none → H' t = some (.lst (nv (lse f n))) → Q (.ref t) H'
theorem lse_step (f : List Nat) (n i : Nat) : (List.range (i + 1)).filter (lsC f n) = (List.range i).filter (lsC f n) ++ (if lsC f n i = true then [i] else []) := by
  rw [List.range_succ, List.filter_append]
  by_cases c : lsC f n i = true
  · rw [if_pos c, List.filter_cons_of_pos c, List.filter_nil]
  · rw [if_neg c, List.filter_cons_of_neg c, List.filter_nil]
theorem ok_p_loose_people (T : Env K mg) : FnOk P w K mg base CX0 2 T.f_p_loose_people T.d_p_loose_people ["sheet"] (spLoose K) := by
  have G0 : FnOk P w K mg base CX0 1 T.f_p_people_of T.d_p_people_of ["sheet"] (spPeople K) := ok_p_people_of T
  refine T.F_p_loose_people.ok sc_p_loose_people (fun vs H Q E h => ?_) (fun cdv A outer s H vs Q E hr h => ?_)
  · obtain ⟨a, f, n, rfl, _⟩ := h
    rfl
  · obtain ⟨a, f, n, rfl, ha, hf, hn, q⟩ := h
    refine ⟨_, pss_cons (ps_set (i := 1) sc_p_loose_people.nd rfl (.inr rfl) (pe_call G0 hr (by rfl) T.g_p_people_of T.F_p_people_of.kp T.b_p_people_of .nil pass0 (pa_cons (pv 0) pa_nil))) <|
      pss_one (ps_ret (pe_lc (own := [("person", 2)]) (g := gName 2) (tt := tTest (tOp (rI0 fun i j => .bl (decide (i < j))) (tOp (rIx K) (tVar 0) (tOp (rI0 fun i j => .int (i + j)) (tVar 1) (tVar 2))) (tVar 1))) (te := tVar 2) rfl sc_p_loose_people.nd
        (pi_range1 (by rfl) T.n_range (pa_cons (pv 1) pa_nil)) (blkOk_by (N := N_p_loose_people) (sc := defScope s_p_loose_people) (by decide +kernel)) (fun _ _ _ _ _ => pg_name (i := 2) sc_p_loose_people.nd rfl (.inl rfl))
        (fun _ _ _ _ _ => pts_one (pt_cmpR op_lt (pe_ix ix_seq (pv 0) (pe_op op_add (pv 1) (pv 2)) (fun _ _ => rfl)) (pv 1) (nomark _)))
        (fun _ _ _ _ _ => pv 2))), ?_⟩
    refine ⟨.ref a, rfl, a, f, n, rfl, ha, hf.len, _, rfl, _, rfl, by omega, by omega, fun D nD => ?_⟩
    rw [show ((n : Int)).toNat = n by omega]
    refine lc_range (n := n) (fun i H' => Same H H' ∧ H' D = some (.lst (nv ((List.range i).filter (lsC f n))))) ⟨same_new nD, upd_same⟩ (fun i H1 hi hPv => ?_) (fun H1 hPv => ?_)
    · obtain ⟨sm, eD⟩ := hPv
      have fi := hf.d (show n + i < 2 * n by omega)
      refine ⟨rfl, _, rfl, _, rfl, _, rfl, _, _, rfl, rfl, ix_sq (ha.same sm) (at1 fi.2.2.2) ⟨_, rfl, _, _, rfl, rfl, _, rfl, ite2 (fun c => ?_) (fun c => ?_)⟩⟩
      · have hc : lsC f n i = true := decide_eq_true (by have := of_decide_eq_true c; omega)
        refine ⟨_, rfl, _, eD, line_big ?_, fun x o hx => ?_, ?_⟩
        · rw [nv_length]
          exact Nat.le_trans (List.length_filter_le _ _) (by rw [List.length_range]; omega)
        · rw [upd_ne (ne_of_none hx nD)]; exact sm _ _ hx
        · rw [upd_same, lse_step, if_pos hc, ← nv_snoc']
          show some (HO.lst (nv ((List.range i).filter (lsC f n)) ++ [V.int ((0 : Int) + (i : Nat))])) = _
          rw [Int.zero_add]
      · refine ⟨sm, ?_⟩
        have hc : ¬ lsC f n i = true := fun z => c (decide_eq_true (by have := of_decide_eq_true z; omega))
        rw [lse_step, if_neg hc, List.append_nil]; exact eD
    · obtain ⟨sm, eD⟩ := hPv
      exact q H1 D sm nD eD
end
end Pc
namespace Pc
open PySem PySem.Spec PyProof.Rows L2 RZ
section
variable {P : Program} {w : World} {K : PySem.W.Frag} {mg : Str → Option Value} {base : Heap}
/-! ### how many results -/
def spResMany (K : PySem.W.Frag) : Sp := fun vs H Q _ => ∃ (a : Addr) (f : List Nat) (n : Nat), vs = [.ref a] ∧ Sq K H a (nv f) ∧ IsPair (2 * n) f ∧ n % 2 = 0 ∧ n ≤ 20 ∧ ∀ H', Same H H' → Q (.int (dfac ((sts f n).length / 2) : Nat)) H'
theorem sts_even {n : Nat} {f : List Nat} (hf : IsPair (2 * n) f) (he : n % 2 = 0) : (sts f n).length % 2 = 0 ∧ (sts f n).length ≤ n := by
  have := sts_ups hf
  omega
theorem ok_p_results_many (T : Env K mg) : FnOk P w K mg base CX0 3 T.f_p_results_many T.d_p_results_many ["sheet"] (spResMany K) := by
  have G1 : FnOk P w K mg base CX0 1 T.f_p_pairings_many T.d_p_pairings_many ["size"] spMany := ok_p_pairings_many T
  have G2 : FnOk P w K mg base CX0 2 T.f_p_loose_people T.d_p_loose_people ["sheet"] (spLoose K) := ok_p_loose_people T
  refine T.F_p_results_many.ok sc_p_results_many (fun vs H Q E h => ?_) (fun cdv A outer s H vs Q E hr h => ?_)
  · obtain ⟨a, f, n, rfl, _⟩ := h
    rfl
  · obtain ⟨a, f, n, rfl, ha, hf, he, hn, q⟩ := h
    refine ⟨_, pss_one (ps_ret (pe_call G1 (hr.mono (by decide)) (by rfl) T.g_p_pairings_many T.F_p_pairings_many.kp T.b_p_pairings_many .nil pass0 (pa_cons (pe_callB call_len_seq (by rfl) T.n_len PySem.boot_len (pa_cons (pe_call G2 hr (by rfl) T.g_p_loose_people T.F_p_loose_people.kp T.b_p_loose_people .nil pass0 (pa_cons (pv 0) pa_nil)) pa_nil)) pa_nil))), ?_⟩
    refine ⟨.ref a, rfl, a, f, n, rfl, ha, hf, by omega, fun H1 t s1 nt et => ⟨t, _, rfl, .inl (.inl (.inl et)), (sts f n).length / 2, ?_, ?_, q H1 s1⟩⟩
    · have := sts_even hf he
      show [V.int (((nv (lse f n)).length : Nat) : Int)] = _
      rw [nv_length, lse_len hf, show 2 * ((sts f n).length / 2) = (sts f n).length by omega]
    · have := sts_even hf he
      omega
end
end Pc
namespace Pc
theorem jn_getD {n : Nat} {f : List Nat} (hf : IsPair n f) {a b : Nat} (hab : a ≠ b) (ha : a < n) (hb : b < n) (hc : f.getD a 0 ≠ b) {z : Nat} (hz : z < n) :
    (jn f a b).getD z 0 = if z = a then b else if z = b then a else if z = f.getD a 0 then f.getD b 0 else if z = f.getD b 0 then f.getD a 0 else f.getD z 0 := by
  have e := jn_get hf hab (hf.d ha).2.2.2 (hf.d hb).2.2.2 hc z
  rw [List.getD_eq_getElem?_getD, e]
  split
  · rfl
  · split
    · rfl
    · split
      · rfl
      · split
        · rfl
        · rw [List.getD_eq_getElem?_getD]
theorem pair_ext {m : Nat} {f g : List Nat} (hf : IsPair m f) (hg : IsPair m g) (h : ∀ z, z < m → f.getD z 0 = g.getD z 0) : f = g := by
  refine List.ext_getElem? fun i => ?_
  by_cases hi : i < m
  · rw [(hf.d hi).2.2.2, (hg.d hi).2.2.2, h i hi]
  · rw [List.getElem?_eq_none (by rw [hf.len]; omega), List.getElem?_eq_none (by rw [hg.len]; omega)]
theorem emp_os {n y : Nat} (h : y < 2 * n) : (emp n).getD y 0 = os n y := by
  unfold os
  by_cases c : y < n
  · rw [if_pos c, getD_of (emp_lo c)]; omega
  · obtain ⟨e, rfl⟩ : ∃ e, y = n + e := ⟨y - n, by omega⟩
    rw [if_neg c, getD_of (emp_hi (show e < n by omega))]; omega
theorem mir_call {n a b : Nat} (hab : a < b) (hb : b < n) : mir (jn (emp n) (n + a) (n + b)) n = jn (emp n) (n + a) (n + b) := by
  have hn : 0 < n := by omega
  have hE := emp_pair hn
  have ea : (emp n).getD (n + a) 0 = a := by rw [emp_os (by omega)]; unfold os; rw [if_neg (by omega)]; omega
  have eb : (emp n).getD (n + b) 0 = b := by rw [emp_os (by omega)]; unfold os; rw [if_neg (by omega)]; omega
  have hJ := jn_pair hE (show n + a ≠ n + b by omega) (by omega) (by omega)
  have G : ∀ z, z < 2 * n → (jn (emp n) (n + a) (n + b)).getD z 0 = if z = n + a then n + b else if z = n + b then n + a else if z = a then b else if z = b then a else os n z := fun z hz => by
    rw [jn_getD hE (by omega) (by omega) (by omega) (by rw [ea]; omega) hz, ea, eb, emp_os hz]
  refine pair_ext (mir_pair hJ) hJ fun z hz => ?_
  have ho : os n z < 2 * n := os_lt hz
  rw [mir_d _ hz, G _ ho, G z hz]
  unfold os
  (repeat' split) <;> omega
theorem mir_word {n : Nat} (hn : 0 < n) : ∀ {qs : List (Nat × Nat)}, Calls n qs → mir (shw n qs (emp n)) n = shw n qs.reverse (emp n)
  | [], _ => mir_emp
  | q :: r, hc => by
    have hq := hc q List.mem_cons_self
    have hr : Calls n r := fun x hx => hc x (List.mem_cons_of_mem _ hx)
    have hrr : Calls n r.reverse := fun x hx => hr x (List.mem_reverse.mp hx)
    have h1 : Calls n [q] := fun x hx => by rw [List.mem_singleton.mp hx]; exact hq
    have hJ : IsPair (2 * n) (shw n [q] (emp n)) := shw_pair (emp_pair hn) h1
    have hR : IsPair (2 * n) (shw n r (emp n)) := shw_pair (emp_pair hn) hr
    have e : shw n (q :: r) (emp n) = fol (shw n [q] (emp n)) (shw n r (emp n)) n := by
      rw [fol_word hn hJ hr, ← shw_app]; rfl
    have m1 : mir (shw n [q] (emp n)) n = shw n [q] (emp n) := mir_call hq.1 hq.2
    rw [e, mir_fol hJ hR, m1, mir_word hn hr, fol_word hn (shw_pair (emp_pair hn) hrr) h1, ← shw_app, List.reverse_cons]
end Pc
namespace Pc
/-! ### mirrored sheets: pairs, strands, loops, words -/
theorem sel_eq {c d : Nat → Bool} {g k : Nat → Nat × Nat} {n : Nat} (h : ∀ x, x < n → c x = d x) (e : ∀ x, x < n → c x = true → g x = k x) : selN c g n = selN d k n := by
  unfold selN
  rw [List.filter_congr (p := c) (q := d) fun x hx => h x (List.mem_range.mp hx)]
  refine List.map_congr_left fun x hx => ?_
  rw [List.mem_filter] at hx
  have hx' := List.mem_range.mp hx.1
  exact e x hx' (by rw [h x hx']; exact hx.2)
theorem mir_lo (f : List Nat) {n x : Nat} (hx : x < n) : (mir f n).getD x 0 = os n (f.getD (n + x) 0) := by
  rw [mir_d f (by omega), show os n x = n + x by unfold os; rw [if_pos hx]; omega]
theorem mir_hi (f : List Nat) {n x : Nat} (hx : x < n) : (mir f n).getD (n + x) 0 = os n (f.getD x 0) := by
  rw [mir_d f (by omega), show os n (n + x) = x by unfold os; rw [if_neg (by omega)]; omega]
theorem os_mod {n y : Nat} (h : y < 2 * n) : os n y % n = y % n := oth_mod h
theorem ups_mirL {n : Nat} {f : List Nat} (hf : IsPair (2 * n) f) : ups (mir f n) n = los f n := by
  refine sel_eq (fun x hx => ?_) fun x hx hc => ?_
  · have fx := hf.d (show n + x < 2 * n by omega)
    unfold upC loC
    rw [mir_lo f hx]
    by_cases c : f.getD (n + x) 0 < n
    · rw [show os n (f.getD (n + x) 0) = f.getD (n + x) 0 + n by unfold os; rw [if_pos c], decide_eq_false (show ¬ f.getD (n + x) 0 + n < n by omega), decide_eq_false (show ¬ n + x < f.getD (n + x) 0 by omega), Bool.and_false]
    · rw [show os n (f.getD (n + x) 0) = f.getD (n + x) 0 - n by unfold os; rw [if_neg c], decide_eq_true (show f.getD (n + x) 0 - n < n by omega), Bool.and_true]
      by_cases q : n + x < f.getD (n + x) 0
      · rw [decide_eq_true q, decide_eq_true (by omega)]
      · rw [decide_eq_false q, decide_eq_false (by omega)]
  · unfold upC at hc
    unfold upG loG
    rw [mir_lo f hx] at hc ⊢
    rw [Bool.and_eq_true] at hc
    have h2 := of_decide_eq_true hc.2
    have c : ¬ f.getD (n + x) 0 < n := fun c => by
      rw [show os n (f.getD (n + x) 0) = f.getD (n + x) 0 + n by unfold os; rw [if_pos c]] at h2; omega
    rw [show os n (f.getD (n + x) 0) = f.getD (n + x) 0 - n by unfold os; rw [if_neg c]]
theorem los_mirL {n : Nat} {f : List Nat} (hf : IsPair (2 * n) f) : los (mir f n) n = ups f n := by
  have h := ups_mirL (mir_pair hf)
  rw [mir_mir hf] at h
  exact h.symm
theorem pair_nodup {l : List (Nat × Nat)} (h : l.Pairwise (fun p q => p.1 < q.1)) : l.Nodup := h.imp fun {a b} hab e => by rw [e] at hab; omega
theorem sel_up {c : Nat → Bool} {g : Nat → Nat × Nat} {n : Nat} (h : ∀ x, (g x).1 = x) : (selN c g n).Pairwise (fun p q => p.1 < q.1) := by
  unfold selN
  rw [List.pairwise_map]
  exact (List.pairwise_lt_range.filter _).imp fun {a b} hab => by rw [h a, h b]; exact hab
theorem sts_iff {n : Nat} {f : List Nat} {x y : Nat} : (x, y) ∈ sts f n ↔ x < n ∧ n ≤ f.getD x 0 ∧ f.getD x 0 - n = y := by
  unfold sts
  rw [selN_mem]
  constructor
  · rintro ⟨z, hz, hc, e⟩
    unfold stG at e
    have e1 : z = x := congrArg Prod.fst e
    have e2 : f.getD z 0 - n = y := congrArg Prod.snd e
    subst e1
    exact ⟨hz, of_decide_eq_true hc, e2⟩
  · rintro ⟨hx, hn, e⟩
    exact ⟨x, hx, decide_eq_true hn, by unfold stG; rw [e]⟩
theorem sts_mirP {n : Nat} {f : List Nat} (hf : IsPair (2 * n) f) : (sts (mir f n) n).Perm ((sts f n).map fun p => (p.2, p.1)) := by
  have key : ∀ {g : List Nat}, IsPair (2 * n) g → ∀ x y, (x, y) ∈ sts g n → (y, x) ∈ sts (mir g n) n := fun {g} hg x y h => by
    obtain ⟨hx, h1, h2⟩ := sts_iff.mp h
    have gx := hg.d (show x < 2 * n by omega)
    have hy : y < n := by omega
    have gy : g.getD (n + y) 0 = x := by rw [show n + y = g.getD x 0 by omega]; exact gx.2.2.1
    refine sts_iff.mpr ⟨hy, ?_, ?_⟩ <;> rw [mir_lo g hy, gy, show os n x = x + n by unfold os; rw [if_pos hx]] <;> omega
  have nd1 : (sts (mir f n) n).Nodup := pair_nodup (sel_up fun _ => rfl)
  have nd2 : ((sts f n).map fun p => (p.2, p.1)).Nodup := by
    unfold List.Nodup
    rw [List.pairwise_map]
    exact (pair_nodup (sel_up (c := stC f n) (g := stG f n) (n := n) fun _ => rfl)).imp fun {a b} hab e => hab (Prod.ext (congrArg Prod.snd e) (congrArg Prod.fst e))
  refine (List.perm_ext_iff_of_nodup nd1 nd2).mpr fun p => ?_
  constructor
  · intro h
    have := key (mir_pair hf) p.1 p.2 h
    rw [mir_mir hf] at this
    exact List.mem_map.mpr ⟨(p.2, p.1), this, rfl⟩
  · intro h
    obtain ⟨q, hq, e⟩ := List.mem_map.mp h
    rw [← e]
    exact key hf q.1 q.2 hq
end Pc
namespace Pc
open PySem PySem.Spec PyProof.Rows L2 RZ
/-! ### xs[::-1] of a list -/
def backV {α : Type} (xs : List α) : List α := (sliceRange ((xs.length : Int) - 1) (-1) (-1)).filterMap (xs[·]?)
theorem pick_vals {xs : List V} {its : List Value} (r : Vals xs its) : ∀ l : List Nat, Vals (l.filterMap (xs[·]?)) (l.filterMap (its[·]?))
  | [] => .nil
  | i :: l => by
    cases e : xs[i]? with
    | none =>
      have h := List.getElem?_eq_none_iff.mp e
      have e2 : its[i]? = none := List.getElem?_eq_none_iff.mpr (by rw [← r.length]; exact h)
      rw [List.filterMap_cons_none e, List.filterMap_cons_none e2]
      exact pick_vals r l
    | some v =>
      obtain ⟨u, hu, ru⟩ := r.get e
      rw [List.filterMap_cons_some e, List.filterMap_cons_some hu]
      exact .cons ru (pick_vals r l)
theorem back_len {α : Type} (xs : List α) : (backV xs).length ≤ xs.length := by
  unfold backV
  exact Nat.le_trans (List.length_filterMap_le _ _) (sliceRange_length_le _ _ _ _ (fun h => absurd h (by decide)) (fun _ => ⟨Int.le_refl _, Int.le_refl _⟩))
theorem back_mem {α : Type} {xs : List α} {x : α} (h : x ∈ backV xs) : x ∈ xs := by
  obtain ⟨i, _, e⟩ := List.mem_filterMap.mp h
  exact List.mem_of_getElem? e
theorem back_nv (l : List Nat) : backV (nv l) = nv (backV l) := by
  unfold backV nv
  rw [List.length_map, List.map_filterMap]
  refine congrArg (fun f => List.filterMap f _) (funext fun i => ?_)
  rw [List.getElem?_map]
theorem slice_back (its : List Value) : slicePick its.toArray none none (some (-1)) = (backV its).toArray := by
  unfold slicePick backV
  simp [sliceBounds]
def tRevL (K : PySem.W.Frag) (te : TE) : TE := fun σ H Q => te σ H fun x H1 => ∃ a xs, x = .ref a ∧ SqL K H1 a xs ∧ ∀ p, H1 p = none → Q (.ref p) (upd H1 p (.lst (backV xs)))
theorem pe_revL {X : Cx} {e : Expr} {te : TE} {k : Nat} {p1 p2 p3 pos : Pos} (he : PE X e te) : PE X (.Subscript e (.Slice none none (some (.UnaryOp .USub (.Constant (.int 1) k p1) p2)) p3) pos) (tRevL X.K te) := by
  constructor
  intro pins s σ H Q I h
  refine Subscript_ (thn (he.run pins s σ H _ I h) fun v s1 r => ?_)
  obtain ⟨x, H1, I1, r1, a, xs, ex, hx, q⟩ := r
  subst ex
  cases r1
  have hst : PO X (some (.UnaryOp .USub (.Constant (.int 1) k p1) p2)) (tPart (tUn (rU fun i => .int (-i)) (tC (.int 1)))) := po_some (pe_un un_neg pe_int)
  refine wpAny_Slice (thn (po_none.run pins s1 σ H1 (fun o H2 => o = none ∧ H2 = H1) I1 ⟨rfl, rfl⟩) fun vl s2 ⟨l, H2, I2, pl, el, e2⟩ => ?_)
  subst el e2
  refine thn (po_none.run pins s2 σ H2 (fun o H3 => o = none ∧ H3 = H2) I2 ⟨rfl, rfl⟩) fun vu s3 ⟨u, H3, I3, pu, eu, e3⟩ => ?_
  subst eu e3
  refine thn (hst.run pins s3 σ H3 (fun o H4 => o = some (-1) ∧ H4 = H3) I3 ⟨1, rfl, -1, rfl, rfl, rfl⟩) fun vs s4 ⟨o, H4, I4, ps, eo, e4⟩ => ?_
  subst eo e4
  cases pl
  cases pu
  have I5 : Inv X pins σ H4 { s4 with heap := s4.heap.push { cls := .type "slice", data := .fields #[.none, .none, vs] } } := I4.kept (t' := s4.toks) fun b ob q => Heap.get?_push_of_some _ q
  obtain ⟨its, r, ht, hz⟩ := I5.list hx
  have hlen := r.length
  show wpAny (model X.prog X.w) X.A (subscriptTail e (.Slice none none (some (.UnaryOp .USub (.Constant (.int 1) k p1) p2)) p3) (.ref a) (.ref s4.heap.objs.size)) (EP X pins σ Q) X.xe _
  refine tail_any (ops := [.ref a, .ref s4.heap.objs.size]) ht.isList.typeIs PySem.F.slot_list_getitem.lookup ?_ (by with_unfolding_all rfl)
  refine wpAny_getItem_list_slice ht.isList (Heap.IsSliceOf.new _ .none .none vs) .none .none ps (by simp) ?_ (by rw [List.size_toArray] <;> omega)
  rw [slice_back]
  refine ⟨.ref _, _, I5.laid (t' := s4.toks) (o := .lst (backV xs)) (fun b ob q => Heap.get?_push_of_some _ q) (Nat.le_refl _) ?_, rfl, q _ (I5.hok.fresh (Nat.le_refl _))⟩
  refine ⟨Nat.le_trans (back_len xs) hz, _, 0, ?_, Heap.get?_push_size _ rfl⟩
  unfold backV
  rw [hlen]
  exact pick_vals r _
end Pc
namespace Pc
open PySem PySem.Spec PyProof.Rows L2 RZ
/-! ### backV_rev alone (never with lib154) -/
theorem fm_cong {α β : Type} {f g : α → Option β} : ∀ {l : List α}, (∀ x ∈ l, f x = g x) → l.filterMap f = l.filterMap g
  | [], _ => rfl
  | x :: l, h => by
    rw [List.filterMap_cons, List.filterMap_cons, h x List.mem_cons_self, fm_cong fun y hy => h y (List.mem_cons_of_mem _ hy)]
theorem fm_all {α : Type} : ∀ l : List α, (List.range l.length).filterMap (fun i => l[i]?) = l
  | [] => rfl
  | x :: l => by
    rw [List.length_cons, List.range_succ_eq_map, List.filterMap_cons]
    show x :: (List.map Nat.succ (List.range l.length)).filterMap (fun i => (x :: l)[i]?) = _
    rw [List.filterMap_map]
    exact congrArg (x :: ·) (fm_all l)
theorem fm_rev {α : Type} (xs : List α) : ((List.range xs.length).map fun k => xs.length - 1 - k).filterMap (fun i => xs[i]?) = xs.reverse := by
  have h := fm_all xs.reverse
  rw [List.length_reverse] at h
  rw [← h, List.filterMap_map]
  refine fm_cong fun k hk => ?_
  have hk := List.mem_range.mp hk
  show xs[xs.length - 1 - k]? = _
  rw [List.getElem?_reverse hk]
theorem down_range (n : Nat) : sliceRange ((n : Int) - 1) (-1) (-1) = (List.range n).map fun k => n - 1 - k := by
  unfold sliceRange
  rw [if_neg (by decide)]
  have e : (if ((n : Int) - 1) > -1 then ((n : Int) - 1 - -1 - -1 - 1) / (- -1) else 0).toNat = n := by
    by_cases c : ((n : Int) - 1) > -1
    · rw [if_pos c, show ((n : Int) - 1 - -1 - -1 - 1) = n by omega, show (- -1 : Int) = 1 by decide, Int.ediv_one, Int.toNat_natCast]
    · rw [if_neg c]; show 0 = n; omega
  show (List.range (if ((n : Int) - 1) > -1 then ((n : Int) - 1 - -1 - -1 - 1) / (- -1) else 0).toNat).map _ = _
  rw [e]
  refine List.map_congr_left fun k hk => ?_
  have hk := List.mem_range.mp hk
  omega
theorem backV_rev {α : Type} (xs : List α) : backV xs = xs.reverse := by
  unfold backV
  rw [down_range, fm_rev]
end Pc
namespace L2
open PySem PySem.Spec PyProof.Rows
/-! ### xs.count(y), xs a list of data -/
def rCntD (K : PySem.W.Frag) : V → List V → Hp → VK → Prop := fun x xs H Q => ∃ (p : Addr) (ys : List V) (y : V) (ds : List PyData) (d : PyData), x = .ref p ∧ xs = [y] ∧ SqL K H p ys ∧ DpAll K H ys ds ∧ Dp K H y d ∧ PyData.plainAll ds = true ∧ d.plain = true ∧ d.depth ≤ 20 ∧ Q (.int ((ds.countP fun z => PyData.eqv z d : Nat) : Int)) H
theorem mt_dcount {X : Cx} (hu : X.A.units + 64 < cLine) : MtR X "list.count" (rCntD X.K) := by
  intro pins s σ H x xs v us Q I rx rxs h
  obtain ⟨p, ys, y, ds, d, rfl, rfl, hs, hd, hy, p1, p2, dp, q⟩ := h
  cases rx
  obtain ⟨u, rfl, ru⟩ := rxs.one
  obtain ⟨its, rv, pl, hlen⟩ := I.list hs
  obtain ⟨as, r1⟩ := Dp.readsAll I ds ys its hd rv
  obtain ⟨bs, r2⟩ := Dp.reads I d y u hy ru
  exact SeqAt.count_list_data pl.isList (by simpa using r1) r2 p1 p2 (by omega) ⟨.int _, H, I.tok _, ⟨_, rfl⟩, q⟩
end L2
namespace Pc
open PySem PySem.Spec PyProof.Rows L2 RZ
theorem eqv_pd (a b : Nat × Nat) : PyData.eqv (pd a) (pd b) = decide (a = b) := by
  obtain ⟨a1, a2⟩ := a
  obtain ⟨b1, b2⟩ := b
  unfold pd
  rw [Bool.eq_iff_iff]
  simp [PyData.eqv, PyData.eqvAll]
  omega
theorem cnt_pd (qs : List (Nat × Nat)) (q : Nat × Nat) : (qs.map pd).countP (fun z => PyData.eqv z (pd q)) = qs.count q := by
  rw [List.countP_map, List.count_eq_countP]
  refine List.countP_congr fun x _ => ?_
  show PyData.eqv (pd x) (pd q) = true ↔ (x == q) = true
  rw [eqv_pd, decide_eq_true_iff, beq_iff_eq]
theorem plain_pds : ∀ qs : List (Nat × Nat), PyData.plainAll (qs.map pd) = true
  | [] => rfl
  | q :: qs => by
    show (PyData.plain (pd q) && PyData.plainAll (qs.map pd)) = true
    rw [plain_pds qs]; rfl
end Pc
namespace Pc
open PySem PySem.Spec PyProof.Rows L2 RZ
theorem inV_nv (i : Nat) (l : List Nat) : inV (.int (i : Int)) (nv l) = decide (i ∈ l) := by
  unfold inV nv
  induction l with
  | nil => rfl
  | cons x r ih =>
    rw [List.map_cons, List.any_cons, ih]
    by_cases e : x = i
    · subst e
      have : eqV (.int (x : Int)) (.int (x : Int)) = true := beq_self_eq_true _
      rw [this, decide_eq_true (List.mem_cons_self)]; rfl
    · have : eqV (.int (x : Int)) (.int (i : Int)) = false := by
        show ((x : Int) == (i : Int)) = false
        exact beq_eq_false_iff_ne.mpr (by omega)
      rw [this, Bool.false_or]
      by_cases m : i ∈ r
      · rw [decide_eq_true m, decide_eq_true (List.mem_cons_of_mem _ m)]
      · rw [decide_eq_false m, decide_eq_false (fun h => (List.mem_cons.mp h).elim (fun z => e z.symm) m)]
end Pc
namespace Pc
open PySem PySem.Spec PyProof.Rows L2 RZ
/-! ### those who are on no way, one after another -/
theorem off_iff {n : Nat} {f p : List Nat} (hF : IsPair (2 * n) f) (hP : IsPair n p) {h : Nat} (hh : h < n) : Off f p n h ↔ (min h (p.getD h 0), max h (p.getD h 0)) ∉ usd f p n n := by
  refine ⟨fun o u => ?_, off_of hF hP hh⟩
  obtain ⟨z, hz, hc⟩ := usd_mem.mp u
  obtain ⟨w, hw, e⟩ := mms_mem.mp hc
  obtain ⟨j, j1, j2, j3, j4⟩ := stp_mem hF hP (trl_at hF hP hz) (by omega) hw
  have : h = w.1 ∨ h = w.2 := by
    have e1 := congrArg Prod.fst e
    have e2 := congrArg Prod.snd e
    simp only at e1 e2
    omega
  rcases this with g | g
  · exact o z hz (by rw [g]; exact List.mem_of_getElem? j1)
  · exact o z hz (by rw [g]; exact List.mem_of_getElem? j2)
theorem Met.jump {a b : List Nat} {n : Nat} {P : Nat → Prop} {M : List Nat} : ∀ (d : Nat) {i : Nat}, i + d ≤ n → (∀ k, i ≤ k → k < i + d → ¬ P k) → Met a b n P i M → Met a b n P (i + d) M ∧ cP (i + d) (ed n a b) P = cP i (ed n a b) P
  | 0, _, _, _, h => ⟨h, rfl⟩
  | d + 1, i, hn, hk, h => by
    obtain ⟨g1, g2⟩ := Met.jump d (i := i) (by omega) (fun k h1 h2 => hk k h1 (by omega)) h
    have no := hk (i + d) (by omega) (by omega)
    exact ⟨g1.skip (by omega) (.inl no), by rw [← g2]; exact cP_snoc.2 fun z => no z.2⟩
/-- the j-th of some numbers, n behind the last -/
def bd (U : List Nat) (n j : Nat) : Nat := U[j]?.getD n
section
variable {n : Nat} {g : Nat → Bool}
theorem flt_asc : ((List.range n).filter g).Pairwise (· < ·) := List.pairwise_lt_range.filter _
theorem bd_le (j : Nat) : bd ((List.range n).filter g) n j ≤ n := by
  unfold bd
  cases e : ((List.range n).filter g)[j]? with
  | none => exact Nat.le_refl _
  | some x =>
    have := List.mem_range.mp (List.mem_filter.mp (List.mem_of_getElem? e)).1
    exact Nat.le_of_lt this
theorem bd_gap {j i : Nat} (hi : ∀ m x, m < j → ((List.range n).filter g)[m]? = some x → x < i) {k : Nat} (h1 : i ≤ k) (h2 : k < bd ((List.range n).filter g) n j) : ¬ g k = true := fun hg => by
  have hk : k < n := Nat.lt_of_lt_of_le h2 (bd_le j)
  have hm : k ∈ (List.range n).filter g := List.mem_filter.mpr ⟨List.mem_range.mpr hk, hg⟩
  obtain ⟨m, hm⟩ := List.getElem?_of_mem hm
  rcases Nat.lt_or_ge m j with c | c
  · have := hi m k c hm; omega
  · obtain ⟨l1, l2⟩ := List.getElem?_eq_some_iff.mp hm
    have hj : j < ((List.range n).filter g).length := by omega
    unfold bd at h2
    rw [List.getElem?_eq_getElem hj] at h2
    have h2 : k < ((List.range n).filter g)[j] := h2
    rcases Nat.lt_or_ge j m with d | d
    · have := List.pairwise_iff_getElem.mp flt_asc j m hj l1 d
      omega
    · have : j = m := by omega
      subst this
      omega
theorem bd_before {j x m y : Nat} (hx : ((List.range n).filter g)[j]? = some x) (hm : m < j + 1) (hy : ((List.range n).filter g)[m]? = some y) : y < x + 1 := by
  obtain ⟨l1, l2⟩ := List.getElem?_eq_some_iff.mp hx
  obtain ⟨m1, m2⟩ := List.getElem?_eq_some_iff.mp hy
  rcases Nat.lt_or_ge m j with c | c
  · have := List.pairwise_iff_getElem.mp flt_asc m j m1 l1 c
    omega
  · have : m = j := by omega
    subst this
    omega
end
end Pc
namespace Pc
open PySem PySem.Spec PyProof.Rows L2 RZ
section
variable {P : Program} {w : World} {K : PySem.W.Frag} {mg : Str → Option Value} {base : Heap}
/-! ### how many closed ways two pairings have -/
def spRoundsD (K : PySem.W.Frag) : Sp := fun vs H Q _ => ∃ (x y : Addr) (a b : List Nat) (n : Nat), vs = [.ref x, .ref y] ∧ SqT K H x (nv a) ∧ SqT K H y (nv b) ∧ IsPair n a ∧ IsPair n b ∧ n ≤ 500 ∧ ∀ H', Same H H' → Q (.int (nc n (ed n a b) : Nat)) H'
theorem dkM_len (M : List Nat) : (dkM M).length = M.length := List.length_map _
theorem sqt_keepD {K : PySem.W.Frag} {aM : Addr} {H J : Hp} {kvs : List (L2.Key × V)} {x : Addr} {xs : List V} (k : Keep aM H J) (e : H aM = some (.dK kvs)) (h : SqT K H x xs) : SqT K J x xs := by
  rcases h with (h | ⟨o, h⟩) | h
  · exact .inl (.inl (k _ _ (fun z => by rw [z, e] at h; cases h) h))
  · exact .inl (.inr ⟨o, k _ _ (fun z => by rw [z, e] at h; cases h) h⟩)
  · exact .inr h
theorem pair_at {n : Nat} {a : List Nat} (ha : IsPair n a) {x : Nat} (hx : x < n) : atI (nv a) ((x : Nat) : Int) = some (.int ((a.getD x 0 : Nat) : Int)) := nv_at (ha.d hx).2.2.2
theorem ok_rounds (T : Env K mg) : FnOk P w K mg base CX0 1 T.f_rounds T.d_rounds ["_law_crowd", "_law_its"] (spRoundsD K) := by

  refine T.F_rounds.ok sc_rounds (fun vs H Q E h => ?_) (fun cdv A outer s H vs Q E hr h => ?_)
  · obtain ⟨x, y, a, b, n, rfl, _⟩ := h
    rfl
  · obtain ⟨x, y, a, b, n, rfl, hx, hy, ha, hb, hn, q⟩ := h

    refine ⟨_, pss_cons (ps_par (i := 2) (j := 3) (by rfl) sc_rounds.nd rfl rfl (by decide) rfl rfl (pa_cons pe_dnewK (pa_cons pe_int pa_nil)) (by rfl)) <|
      pss_cons (ps_for PassesOwn.never rfl (pi_range1 (by rfl) T.n_range (pa_cons (pe_callB call_len_seq (by rfl) T.n_len PySem.boot_len (pa_cons (pv 0) pa_nil)) pa_nil)) (pg_name (i := 4) sc_rounds.nd rfl (.inl rfl))
        (pss_one (ps_if (pt_cmp (pc_dnotin (units1L hr) (pv 4) (pv 2))) (pss_cons (ps_par (i := 3) (j := 5) (by rfl) sc_rounds.nd rfl rfl (by decide) rfl rfl (pa_cons (pe_op op_add (pv 3) pe_int) (pa_cons (pv 4) pa_nil)) (by rfl)) <|
      pss_one (ps_while PassesOwn.never (pt_cmp (pc_dnotin (units1L hr) (pv 5) (pv 2))) (pss_cons (ps_dput (units1L hr) (pv 2) (pv 5) pe_bl (by rfl)) <|
      pss_cons (ps_dput (units1L hr) (pv 2) (pe_ix ix_tup (pv 0) (pv 5) (fun _ _ => rfl)) pe_bl (by rfl)) <|
      pss_one (ps_set (i := 5) sc_rounds.nd rfl (.inl rfl) (pe_ix ix_tup (pv 1) (pe_ix ix_tup (pv 0) (pv 5) (fun _ _ => rfl)) (fun _ _ => rfl)))))) pss_nil))) <|
      pss_one (ps_ret (pv 3)), ?_⟩
    -- an empty dict
    refine fun aM nM => ⟨_, _, rfl, ?_⟩
    have eM : (upd H aM (.dK [])) aM = some (.dK (dkM [])) := upd_same
    have hx0 : SqT K (upd H aM (.dK [])) x (nv a) := same_tup (same_new nM) hx
    have hy0 : SqT K (upd H aM (.dK [])) y (nv b) := same_tup (same_new nM) hy
    have fin : ∀ J, Keep aM (upd H aM (.dK [])) J → Same H J := fun J k z o hz => k _ _ (ne_of_none hz nM) (same_new nM _ _ hz)
    have hPc : ∀ u v : Nat, (fun _ : Nat => True) u → Cn (ed n a b) u v → (fun _ : Nat => True) v := fun _ _ _ _ => trivial
    refine st_eq (t := tSeq _ _) [some (.ref x), some (.ref y), some (.ref aM), some (.int ((0 : Nat) : Int)), none, none] ?_ rfl
    revert eM hx0 hy0 fin
    generalize upd H aM (.dK []) = H1
    intro eM hx0 hy0 fin
    have hxl : (((nv a).length : Nat) : Int) = ((n : Nat) : Int) := by rw [nv_length, ha.len]
    refine ⟨_, rfl, x, _, rfl, .inr hx0, ?_⟩
    rw [hxl]
    refine ⟨_, rfl, by omega, by omega, ?_⟩
    rw [show ((n : Nat) : Int).toNat = n by rfl]
    refine for_range (n := n) (fun i σ J => Keep aM H1 J ∧ ∃ (M : List Nat) (y4 y5 : Option V), σ = [some (.ref x), some (.ref y), some (.ref aM), some (.int ((cP i (ed n a b) (fun _ => True) : Nat) : Int)), y4, y5] ∧ J aM = some (.dK (dkM M)) ∧ Met a b n (fun _ => True) i M)
      ⟨fun _ _ _ h => h, [], none, none, rfl, eM, Met.zero⟩ (fun i σ J hi h => ?_) (fun σ J h => ?_)
    · obtain ⟨kJ, M, y4, y5, rfl, eJ, hM⟩ := h
      refine st_set [some (.ref x), some (.ref y), some (.ref aM), some (.int ((cP i (ed n a b) (fun _ => True) : Nat) : Int)), some (.int ((i : Nat) : Int)), y5] ?_ (by rw [Int.zero_add]; rfl)
      have hMn := hM.few
      refine ⟨_, rfl, _, rfl, aM, _, rfl, DGet.k (k := .inl ((i : Nat) : Int)) eJ, _, rfl, ?_⟩
      rw [val_dkM]
      by_cases hm : i ∈ M
      · rw [if_pos hm]
        refine iteX rfl ?_
        have e := (cP_snoc (n := i) (E := ed n a b) (P := fun _ => True)).2 (fun g => hM.seen hi hm g.1)
        exact ⟨kJ, M, _, _, by rw [e], eJ, hM.skip hi (.inr hm)⟩
      · rw [if_neg hm]
        refine iteY rfl ?_
        have e := (cP_snoc (n := i) (E := ed n a b) (P := fun _ => True)).1 ⟨hM.least hPc hi trivial hm, trivial⟩
        refine ⟨_, rfl, _, 1, rfl, rfl, _, rfl, _, _, rfl, ?_⟩
        rw [show (fun i j => V.int (i + j)) ((cP i (ed n a b) (fun _ => True) : Nat) : Int) 1 = V.int ((cP (i + 1) (ed n a b) (fun _ => True) : Nat) : Int) from congrArg V.int (by rw [e]; push_cast; rfl)]
        refine st_eq (t := tWhile _ _) [some (.ref x), some (.ref y), some (.ref aM), some (.int ((cP (i + 1) (ed n a b) (fun _ => True) : Nat) : Int)), some (.int ((i : Nat) : Int)), some (.int ((i : Nat) : Int))] ?_ rfl
        refine ⟨fun w σ J => ∃ (l : List Nat) (z : Nat), w = n - l.length ∧ σ = [some (.ref x), some (.ref y), some (.ref aM), some (.int ((cP (i + 1) (ed n a b) (fun _ => True) : Nat) : Int)), some (.int ((i : Nat) : Int)), some (.int ((z : Nat) : Int))] ∧ Keep aM H1 J ∧ J aM = some (.dK (dkM (M ++ l))) ∧ LpI a b n i l z ∧ (∀ u ∈ l, Cn (ed n a b) i u) ∧ Cn (ed n a b) i z,
          ⟨n, [], i, rfl, rfl, kJ, by rw [List.append_nil]; exact eJ, LpI.start hi, fun u hu => absurd hu List.not_mem_nil, .refl _⟩, fun w σ J2 hW => ?_⟩
        clear eJ kJ
        obtain ⟨l, z, rfl, rfl, kJ, eJ, hl, hlc, hzc⟩ := hW
        have hzn := hl.zl
        have hzM := hM.apart hi hm hzn hzc
        refine ⟨_, rfl, _, rfl, aM, _, rfl, DGet.k (k := .inl ((z : Nat) : Int)) eJ, _, rfl, ?_⟩
        rw [val_dkM]
        by_cases hz : z ∈ l
        · rw [if_pos (List.mem_append.mpr (.inr hz))]
          refine iteX rfl ?_
          have ez := hl.done hb hz
          subst ez
          exact ⟨kJ, M ++ l, _, _, rfl, eJ, hM.lap ha hb trivial hm hl hz hlc⟩
        · have hzMl : z ∉ M ++ l := fun h => (List.mem_append.mp h).elim hzM hz
          rw [if_neg hzMl]
          refine iteY rfl ?_
          have hroom := hl.room ha hb hz
          have had := ha.d hzn
          have hbd := hb.d had.1
          have hac : Cn (ed n a b) i (a.getD z 0) := hzc.trans (.one (.inl ⟨hzn, .inl rfl⟩))
          have hbc : Cn (ed n a b) i (b.getD (a.getD z 0) 0) := hac.trans (.one (.inl ⟨had.1, .inr rfl⟩))
          have hal : a.getD z 0 ∉ l := fun h => hz (by have := hl.ca _ h; rwa [had.2.2.1] at this)
          have haM : a.getD z 0 ∉ M ++ l ++ [z] := fun h => by
            rcases List.mem_append.mp h with h | h
            · exact (List.mem_append.mp h).elim (hM.apart hi hm had.1 hac) hal
            · exact had.2.1 (List.mem_singleton.mp h)
          have hlen : (M ++ l).length ≤ 1000 := by rw [List.length_append]; omega
          refine ⟨fun σ J => ∃ (z2 : Nat), σ = [some (.ref x), some (.ref y), some (.ref aM), some (.int ((cP (i + 1) (ed n a b) (fun _ => True) : Nat) : Int)), some (.int ((i : Nat) : Int)), some (.int ((z2 : Nat) : Int))] ∧ Keep aM H1 J ∧ J aM = some (.dK (dkM (M ++ (l ++ [z, a.getD z 0])))) ∧ z2 = b.getD (a.getD z 0) 0, fun σ' J' h => ?_, ?_⟩
          · obtain ⟨z2, h1, h2, h3, rfl⟩ := h
            refine ⟨n - (l ++ [z, a.getD z 0]).length, ?_, l ++ [z, a.getD z 0], _, rfl, h1, h2, h3, hl.step ha hb hz, fun u hu => ?_, hbc⟩
            · rw [List.length_append]; show n - (l.length + 2) < n - l.length; omega
            · rcases List.mem_append.mp hu with g | g
              · exact hlc u g
              · rcases List.mem_cons.mp g with g | g
                · rw [g]; exact hzc
                · rw [List.mem_singleton.mp g]; exact hac
          refine ⟨_, rfl, _, rfl, aM, _, rfl, DPut.k (k := .inl ((z : Nat) : Int)) eJ (by rw [dkM_len]; exact small1000 hlen), ?_⟩
          rw [put_dkM hzMl]
          have k1 : Keep aM J2 (upd J2 aM (.dK (dkM (M ++ l ++ [z])))) := keep_upd
          have e1 : (upd J2 aM (.dK (dkM (M ++ l ++ [z])))) aM = some (.dK (dkM (M ++ l ++ [z]))) := upd_same
          replace kJ := kJ.trans k1
          clear k1
          revert kJ e1
          generalize upd J2 aM (.dK (dkM (M ++ l ++ [z]))) = J3
          intro e1 kJ
          have hx3 := sqt_keepD kJ eM hx0
          refine ⟨_, rfl, _, rfl, _, rfl, x, _, _, _, rfl, rfl, hx3, pair_at ha hzn, aM, _, rfl, DPut.k (k := .inl ((a.getD z 0 : Nat) : Int)) e1 (by rw [dkM_len, List.length_append]; exact small1000 (by show (M ++ l).length + 1 ≤ 1000; rw [List.length_append]; omega)), ?_⟩
          rw [put_dkM haM]
          have k2 : Keep aM J3 (upd J3 aM (.dK (dkM (M ++ l ++ [z] ++ [a.getD z 0])))) := keep_upd
          have e2 : (upd J3 aM (.dK (dkM (M ++ l ++ [z] ++ [a.getD z 0])))) aM = some (.dK (dkM (M ++ (l ++ [z, a.getD z 0])))) := by
            rw [upd_same, show M ++ l ++ [z] ++ [a.getD z 0] = M ++ (l ++ [z, a.getD z 0]) by simp]
          replace kJ := kJ.trans k2
          clear k2
          revert kJ e2
          generalize upd J3 aM (.dK (dkM (M ++ l ++ [z] ++ [a.getD z 0]))) = J4
          intro e2 kJ
          refine ⟨_, rfl, _, rfl, _, rfl, x, _, _, _, rfl, rfl, sqt_keepD kJ eM hx0, pair_at ha hzn, y, _, _, _, rfl, rfl, sqt_keepD kJ eM hy0, pair_at hb had.1, ?_⟩
          refine st_set [some (.ref x), some (.ref y), some (.ref aM), some (.int ((cP (i + 1) (ed n a b) (fun _ => True) : Nat) : Int)), some (.int ((i : Nat) : Int)), some (.int ((b.getD (a.getD z 0) 0 : Nat) : Int))] ?_ rfl
          exact ⟨_, rfl, kJ, e2, rfl⟩
    · obtain ⟨kJ, M, y4, y5, rfl, eJ, hM⟩ := h
      refine ⟨_, rfl, ?_⟩
      rw [cP_all]
      exact q _ (fin _ kJ)
end
end Pc
namespace Pc
open PySem PySem.Spec PyProof.Rows L2 RZ
section
variable {P : Program} {w : World} {K : PySem.W.Frag} {mg : Str → Option Value} {base : Heap}
/-! ### closed ways above -/
abbrev rMin2 : List V → Hp → VK → Prop := fun xs H Q => ∃ i j, xs = [.int i, .int j] ∧ Q (.int (if j < i then j else i)) H
abbrev rMax2 : List V → Hp → VK → Prop := fun xs H Q => ∃ i j, xs = [.int i, .int j] ∧ Q (.int (if j > i then j else i)) H
def spHiddenD (K : PySem.W.Frag) : Sp := fun vs H Q _ => ∃ (x y : Addr) (f p : List Nat) (n : Nat), vs = [.ref x, .ref y] ∧ SqT K H x (nv f) ∧ SqT K H y (nv p) ∧ IsPair (2 * n) f ∧ IsPair n p ∧ 0 < n ∧ n ≤ 20 ∧ ∀ H', Same H H' → Q (.int (cP n (ed n p (offJ f p n)) (Off f p n) : Nat)) H'
theorem usd_len {fs ps : List Nat} {n : Nat} (hF : IsPair (2 * n) fs) (hP : IsPair n ps) : ∀ k, k ≤ n → (usd fs ps n k).length ≤ k * (n + 1)
  | 0, _ => Nat.zero_le _
  | k + 1, hk => by
    have h1 := usd_len hF hP k (by omega)
    have h2 : (trl fs ps n (n + k)).length ≤ 2 * n + 2 := (trl_trail hF hP (z := n + k) (by omega) (by omega)).2
    unfold usd
    rw [List.length_append, (srt_perm _).length_eq, mms_len, stp_len, Nat.succ_mul]
    omega
theorem any_pd (qs : List (Nat × Nat)) (q : Nat × Nat) : ((qs.map pd).any fun z => PyData.eqv z (pd q)) = decide (q ∈ qs) := by
  rw [Bool.eq_iff_iff, List.any_eq_true, decide_eq_true_iff]
  constructor
  · rintro ⟨z, hz, e⟩
    obtain ⟨r, hr, rfl⟩ := List.mem_map.mp hz
    rw [eqv_pd, decide_eq_true_iff] at e
    rw [← e]; exact hr
  · intro h
    exact ⟨pd q, List.mem_map.mpr ⟨q, h, rfl⟩, by rw [eqv_pd]; exact decide_eq_true rfl⟩
theorem usd_lt {fs ps : List Nat} {n : Nat} (hF : IsPair (2 * n) fs) (hP : IsPair n ps) {k : Nat} (hk : k ≤ n) {c : Nat × Nat} (h : c ∈ usd fs ps n k) : c.1 < 2 * n ∧ c.2 < 2 * n := by
  obtain ⟨x, hx, hm⟩ := usd_mem.mp h
  obtain ⟨q, hq, rfl⟩ := mms_mem.mp hm
  obtain ⟨j, j1, j2, j3, j4⟩ := stp_mem hF hP (trl_at hF hP (show x < n by omega)) (by omega) hq
  have := hP.d j3
  simp only
  omega
theorem ok_hidden (T : Env K mg) : FnOk P w K mg base CX0 5 T.f_hidden T.d_hidden ["_law_page", "_law_crowd"] (spHiddenD K) := by
  have GC : FnOk P w K mg base CX0 4 T.f_p_couples_on T.d_p_couples_on ["sheet", "pairing", "person"] (spCouplesOn K) := ok_p_couples_on T
  refine T.F_hidden.ok sc_hidden (fun vs H Q E h => ?_) (fun cdv A outer s H vs Q E hr h => ?_)
  · obtain ⟨x, y, f, p, n, rfl, _⟩ := h
    rfl
  · obtain ⟨x, y, f, p, n, rfl, hx, hy, hF, hP, hn0, hn, q⟩ := h

    refine ⟨_, pss_cons (ps_par3 (i := 2) (j := 3) (l := 4) (by rfl) sc_hidden.nd rfl rfl rfl (by decide) (by decide) (by decide) rfl rfl rfl (pa_cons pe_dnewK (pa_cons pe_int (pa_cons (pe_callB call_len_seq (by rfl) T.n_len PySem.boot_len (pa_cons (pv 1) pa_nil)) pa_nil))) (by rfl)) <|
      pss_cons (ps_set (i := 5) sc_hidden.nd rfl (.inr rfl) (pe_lst pa_nil)) <|
      pss_cons (ps_for PassesOwn.never rfl (pi_range1 (by rfl) T.n_range (pa_cons (pv 4) pa_nil)) (pg_name (i := 6) sc_hidden.nd rfl (.inl rfl))
        (pss_one (ps_set (i := 5) sc_hidden.nd rfl (.inr rfl) (pe_op op_cat (pv 5) (pe_call GC hr (by rfl) T.g_p_couples_on T.F_p_couples_on.kp T.b_p_couples_on .nil pass0 (pa_cons (pv 0) (pa_cons (pv 1) (pa_cons (pv 6) pa_nil)))))))) <|
      pss_cons (ps_for PassesOwn.never rfl (pi_list (pe_lc (own := [("_law_who", 6)]) (g := gName 6) (tt := tTest (tOp (rNotInD K) (tTup (tCons (tCB rMin2 (tCons (tVar 6) (tCons (tOp (rIxT K) (tVar 1) (tVar 6)) tNil))) (tCons (tCB rMax2 (tCons (tVar 6) (tCons (tOp (rIxT K) (tVar 1) (tVar 6)) tNil))) tNil))) (tVar 5))) (te := tVar 6) rfl sc_hidden.nd (pi_range1 (by rfl) T.n_range (pa_cons (pv 4) pa_nil)) (blkOk_by (N := N_hidden) (sc := (defScope s_hidden)) (by decide +kernel)) (fun _ _ _ _ _ => (pg_name (i := 6) sc_hidden.nd rfl (.inl rfl))) (fun _ _ _ _ _ => pts_one (pt_cmpR (op_notInD (room65 hr)) (pe_tup (pa_cons (pe_callB (r := rMin2) (call_min2 rfl) (by rfl) T.n_min (by decide +kernel) (pa_cons (pv 6) (pa_cons (pe_ix ix_tup (pv 1) (pv 6) (fun _ _ => rfl)) pa_nil))) (pa_cons (pe_callB (r := rMax2) (call_max2 rfl) (by rfl) T.n_max (by decide +kernel) (pa_cons (pv 6) (pa_cons (pe_ix ix_tup (pv 1) (pv 6) (fun _ _ => rfl)) pa_nil))) pa_nil))) (pv 5) (by rfl))) (fun _ _ _ _ _ => (pv 6)))) (pg_name (i := 6) sc_hidden.nd rfl (.inl rfl))
        (pss_one (ps_if (pt_cmp (pc_dnotin (units1L hr) (pv 6) (pv 2))) (pss_cons (ps_par (i := 3) (j := 7) (by rfl) sc_hidden.nd rfl rfl (by decide) rfl rfl (pa_cons (pe_op op_add (pv 3) pe_int) (pa_cons (pv 6) pa_nil)) (by rfl)) <|
      pss_one (ps_while PassesOwn.never (pt_cmp (pc_dnotin (units1L hr) (pv 7) (pv 2))) (pss_cons (ps_dput (units1L hr) (pv 2) (pv 7) pe_bl (by rfl)) <|
      pss_cons (ps_dput (units1L hr) (pv 2) (pe_ix ix_tup (pv 1) (pv 7) (fun _ _ => rfl)) pe_bl (by rfl)) <|
      pss_one (ps_set (i := 7) sc_hidden.nd rfl (.inl rfl) (pe_ix ix_tup (pv 0) (pe_ix ix_tup (pv 1) (pv 7) (fun _ _ => rfl)) (fun _ _ => rfl)))))) pss_nil))) <|
      pss_one (ps_ret (pv 3)), ?_⟩
    -- an empty dict
    refine fun aM nM => ?_
    have eM : (upd H aM (.dK [])) aM = some (.dK (dkM [])) := upd_same
    have hx0 : SqT K (upd H aM (.dK [])) x (nv f) := same_tup (same_new nM) hx
    have hy0 : SqT K (upd H aM (.dK [])) y (nv p) := same_tup (same_new nM) hy
    have s0 : Same H (upd H aM (.dK [])) := same_new nM
    revert eM hx0 hy0 s0
    generalize upd H aM (.dK []) = H1
    intro eM hx0 hy0 s0
    have hyl : (((nv p).length : Nat) : Int) = ((n : Nat) : Int) := by rw [nv_length, hP.len]
    refine ⟨_, rfl, y, _, rfl, .inr hy0, _, _, _, rfl, ?_⟩
    rw [hyl]
    refine st_eq (t := tSeq _ _) [some (.ref x), some (.ref y), some (.ref aM), some (.int ((0 : Nat) : Int)), some (.int ((n : Nat) : Int)), none, none, none] ?_ rfl
    refine ⟨by show 0 ≤ sizeLine; decide, fun u0 nu0 => ?_⟩
    have sT : Same H1 (upd H1 u0 (.lst [])) := same_new nu0
    have e0 : (upd H1 u0 (.lst [])) u0 = some (.lst (([] : List Addr).map V.ref)) := upd_same
    replace eM := sT _ _ eM
    replace hx0 := same_tup sT hx0
    replace hy0 := same_tup sT hy0
    replace s0 := s0.trans sT
    clear sT nu0
    revert e0 eM hx0 hy0 s0
    generalize upd H1 u0 (.lst []) = H2
    intro e0 eM hx0 hy0 s0
    refine st_set [some (.ref x), some (.ref y), some (.ref aM), some (.int ((0 : Nat) : Int)), some (.int ((n : Nat) : Int)), some (.ref u0), none, none] ?_ rfl
    have hul := usd_len hF hP
    have hnn : n * (n + 1) ≤ 20 * 21 := Nat.mul_le_mul hn (by omega)
    have hkn : ∀ k, k ≤ n → k * (n + 1) ≤ 420 := fun k hk => Nat.le_trans (Nat.mul_le_mul_right _ hk) hnn
    -- what is used
    refine ⟨_, rfl, _, rfl, by omega, by omega, ?_⟩
    rw [show ((n : Nat) : Int).toNat = n by rfl]
    refine for_range (n := n) (fun i σ J => Same H2 J ∧ ∃ (U : Addr) (bs : List Addr) (y6 : Option V), σ = [some (.ref x), some (.ref y), some (.ref aM), some (.int ((0 : Nat) : Int)), some (.int ((n : Nat) : Int)), some (.ref U), y6, none] ∧ J U = some (.lst (bs.map V.ref)) ∧ Prs J bs (usd f p n i)) ⟨fun _ _ h => h, u0, [], none, rfl, e0, .nil⟩ (fun i σ J hi h => ?_) (fun σ J h => ?_)
    · obtain ⟨sJ, U, bs, y6, rfl, eU, hU⟩ := h
      refine st_set [some (.ref x), some (.ref y), some (.ref aM), some (.int ((0 : Nat) : Int)), some (.int ((n : Nat) : Int)), some (.ref U), some (.int ((0 : Int) + (i : Nat))), none] ?_ rfl
      have hl2 : (trl f p n (n + i)).length ≤ 2 * n + 2 := (trl_trail hF hP (z := n + i) (by omega) (by omega)).2
      refine ⟨_, rfl, _, rfl, _, rfl, _, rfl, x, y, f, p, n, i, congrArg (fun z => [V.ref x, V.ref y, V.int z]) (Int.zero_add _), .inr (same_tup sJ hx0), .inr (same_tup sJ hy0), hF, hP, hi, by omega, by omega, fun J1 t cs s1 nt et ht => ?_⟩
      have hbl : bs.length ≤ 420 := by rw [hU.length]; exact Nat.le_trans (hul i (by omega)) (hkn i (by omega))
      have hcl : cs.length ≤ 420 := by rw [ht.length, (srt_perm _).length_eq, mms_len, stp_len]; omega
      refine ⟨U, t, _, _, rfl, rfl, s1 _ _ eU, et, by rw [List.length_map, List.length_map]; exact Nat.le_of_lt (small1000 (by omega)), fun g ng => ?_⟩
      have s2 := same_new (o := .lst (bs.map V.ref ++ cs.map V.ref)) ng
      refine st_set [some (.ref x), some (.ref y), some (.ref aM), some (.int ((0 : Nat) : Int)), some (.int ((n : Nat) : Int)), some (.ref g), some (.int ((0 : Int) + (i : Nat))), none] ?_ rfl
      exact ⟨(sJ.trans s1).trans s2, g, bs ++ cs, _, rfl, by rw [upd_same, List.map_append], prs_append (prs_same (s1.trans s2) hU) (prs_same s2 ht)⟩
    obtain ⟨sJ, U, bs, y6, rfl, eU, hU⟩ := h
    clear e0
    have hbl : bs.length ≤ 420 := by rw [hU.length]; exact Nat.le_trans (hul n (Nat.le_refl _)) hnn
    have hfw : (usd f p n n).length ≤ 1000 ∧ ∀ c ∈ usd f p n n, c.1 < 2 ^ 60 ∧ c.2 < 2 ^ 60 := ⟨by have := hul n (Nat.le_refl _); omega, fun c hc => by have := usd_lt hF hP (Nat.le_refl _) hc; omega⟩
    have hfi : Fi 2 (.list ((usd f p n n).map pd)) := fi_prs hfw
    obtain ⟨g, hg⟩ : ∃ g : Nat → Bool, g = fun w => decide ((min w (p.getD w 0), max w (p.getD w 0)) ∉ usd f p n n) := ⟨_, rfl⟩
    have hgo : ∀ w, w < n → (g w = true ↔ Off f p n w) := fun w hw => by rw [hg]; show decide _ = true ↔ _; rw [decide_eq_true_iff]; exact (off_iff hF hP hw).symm
    replace eM := sJ _ _ eM
    replace hx0 := same_tup sJ hx0
    replace hy0 := same_tup sJ hy0
    replace s0 := s0.trans sJ
    clear sJ
    -- those whose couple is not
    refine ⟨_, rfl, _, rfl, by omega, by omega, fun D nD => ?_⟩
    rw [show ((n : Nat) : Int).toNat = n by rfl]
    refine lc_range (n := n) (fun l J' => Same J J' ∧ J' D = some (.lst (nv ((List.range l).filter g)))) ⟨same_new nD, upd_same⟩ (fun l J' hl h => ?_) (fun J' h => ?_)
    · obtain ⟨s1, eD⟩ := h
      have hdp := hP.d hl
      have hix : atI (nv p) ((0 : Int) + (l : Nat)) = some (V.int ((p.getD l 0 : Nat) : Int)) := by rw [Int.zero_add]; exact nv_at hdp.2.2.2
      have hy1 := same_tup s1 hy0
      refine ⟨rfl, ?_⟩
      refine ⟨_, rfl, _, rfl, _, rfl, y, _, _, _, rfl, rfl, hy1, hix, _, _, rfl, _, rfl, _, rfl, _, rfl, y, _, _, _, rfl, rfl, hy1, hix, _, _, rfl, by show 2 ≤ sizeLine; decide, fun t nt => ?_⟩
      have s2 : Same J' (upd J' t (.tup [V.int (if ((p.getD l 0 : Nat) : Int) < (0 : Int) + (l : Nat) then ((p.getD l 0 : Nat) : Int) else (0 : Int) + (l : Nat)), V.int (if ((p.getD l 0 : Nat) : Int) > (0 : Int) + (l : Nat) then ((p.getD l 0 : Nat) : Int) else (0 : Int) + (l : Nat))])) := same_new nt
      have et : (upd J' t (.tup [V.int (if ((p.getD l 0 : Nat) : Int) < (0 : Int) + (l : Nat) then ((p.getD l 0 : Nat) : Int) else (0 : Int) + (l : Nat)), V.int (if ((p.getD l 0 : Nat) : Int) > (0 : Int) + (l : Nat) then ((p.getD l 0 : Nat) : Int) else (0 : Int) + (l : Nat))])) t = some (.tup [V.int ((min l (p.getD l 0) : Nat) : Int), V.int ((max l (p.getD l 0) : Nat) : Int)]) := by
        rw [upd_same]
        have e1 : (if ((p.getD l 0 : Nat) : Int) < (0 : Int) + (l : Nat) then ((p.getD l 0 : Nat) : Int) else (0 : Int) + (l : Nat)) = ((min l (p.getD l 0) : Nat) : Int) := by split <;> omega
        have e2 : (if ((p.getD l 0 : Nat) : Int) > (0 : Int) + (l : Nat) then ((p.getD l 0 : Nat) : Int) else (0 : Int) + (l : Nat)) = ((max l (p.getD l 0) : Nat) : Int) := by split <;> omega
        rw [e1, e2]
      revert s2 et
      generalize upd J' t (.tup [V.int (if ((p.getD l 0 : Nat) : Int) < (0 : Int) + (l : Nat) then ((p.getD l 0 : Nat) : Int) else (0 : Int) + (l : Nat)), V.int (if ((p.getD l 0 : Nat) : Int) > (0 : Int) + (l : Nat) then ((p.getD l 0 : Nat) : Int) else (0 : Int) + (l : Nat))]) = J2
      intro s2 et
      refine ⟨_, rfl, pd (min l (p.getD l 0), max l (p.getD l 0)), (usd f p n n).map pd, .tup (.inl (.inl et)) (.cons (.int _) (.cons (.int _) .nil)), .lst (.inl (.inl (s2 _ _ (s1 _ _ eU)))) (prs_dp (prs_same s2 (prs_same s1 hU))), (fine_pd (p := (min l (p.getD l 0), max l (p.getD l 0))) (by show min l (p.getD l 0) < 2 ^ 60; omega) (by show max l (p.getD l 0) < 2 ^ 60; omega)).shaped (by decide), hfi.sh, _, rfl, ?_⟩
      rw [any_pd]
      by_cases hm : (min l (p.getD l 0), max l (p.getD l 0)) ∈ usd f p n n
      · have gl : ¬ g l = true := by rw [hg]; show ¬ decide _ = true; rw [decide_eq_true_iff]; exact fun z => z hm
        rw [decide_eq_true hm]
        refine iteX rfl ⟨s1.trans s2, ?_⟩
        rw [List.range_succ, List.filter_append, List.filter_cons_of_neg gl, List.filter_nil, List.append_nil]
        exact s2 _ _ eD
      · have gl : g l = true := by rw [hg]; show decide _ = true; rw [decide_eq_true_iff]; exact hm
        rw [decide_eq_false hm]
        refine iteY rfl ⟨_, rfl, _, s2 _ _ eD, small1000 ?_, fun z o hz => by rw [upd_ne (ne_of_none hz nD)]; exact s2 _ _ (s1 _ _ hz), ?_⟩
        · rw [nv_length]; have := List.length_filter_le g (List.range l); rw [List.length_range] at this; omega
        · rw [upd_same, List.range_succ, List.filter_append, List.filter_cons_of_pos gl, List.filter_nil, Int.zero_add, nv_snoc']
    obtain ⟨s1, eD⟩ := h
    replace eM := s1 _ _ eM
    replace hx0 := same_tup s1 hx0
    replace hy0 := same_tup s1 hy0
    replace s0 := s0.trans s1
    have DM : D ≠ aM := fun z => by rw [z, eM] at eD; cases eD
    have nM2 : H aM = none := nM
    have hO := offJ_pair hF hP
    have hPc : ∀ u v : Nat, u < n → Off f p n u → Cn (ed n p (offJ f p n)) u v → v < n ∧ Off f p n v := fun u v hu o c => off_closed hF hP hu o c
    clear s1 eU hU hbl hfw hfi nD
    have hUl : ((List.range n).filter g).length ≤ n := by have := List.length_filter_le g (List.range n); rw [List.length_range] at this; exact this
    have st0 := Met.jump (a := p) (b := offJ f p n) (n := n) (P := Off f p n) (M := []) (bd ((List.range n).filter g) n 0) (i := 0) (by have := bd_le (n := n) (g := g) 0; omega) (fun k h1 h2 o => bd_gap (n := n) (g := g) (j := 0) (i := 0) (fun m x hm _ => absurd hm (Nat.not_lt_zero m)) h1 (by omega) ((hgo k (by have := bd_le (n := n) (g := g) 0; omega)).mpr o)) Met.zero
    rw [Nat.zero_add] at st0
    refine ⟨D, rfl, ⟨_, .inl (.inl eD)⟩, for_list (xs := nv ((List.range n).filter g)) (fun j σ J => Keep aM J' J ∧ ∃ (M : List Nat) (y6 y7 : Option V), σ = [some (.ref x), some (.ref y), some (.ref aM), some (.int ((cP (bd ((List.range n).filter g) n j) (ed n p (offJ f p n)) (Off f p n) : Nat) : Int)), some (.int ((n : Nat) : Int)), some (.ref U), y6, y7] ∧ J aM = some (.dK (dkM M)) ∧ Met p (offJ f p n) n (Off f p n) (bd ((List.range n).filter g) n j) M)
      ⟨fun _ _ _ h => h, [], y6, none, by rw [st0.2]; rfl, eM, st0.1⟩ (fun j σ J _ h => .inl (.inl (h.1 _ _ DM eD))) (fun j v σ J hv h => ?_) (fun σ J h => ?_)⟩
    · obtain ⟨kJ, M, y6, y7, rfl, eJ, hM⟩ := h
      obtain ⟨i, hiU, rfl⟩ := nv_some hv
      have hbi : bd ((List.range n).filter g) n j = i := by unfold bd; rw [hiU]; rfl
      rw [hbi] at hM ⊢
      have hi : i < n := List.mem_range.mp (List.mem_filter.mp (List.mem_of_getElem? hiU)).1
      have oi : Off f p n i := (hgo i hi).mp (List.mem_filter.mp (List.mem_of_getElem? hiU)).2
      have hMn := hM.few
      have hPi : ∀ u v : Nat, Off f p n u → u < n → Cn (ed n p (offJ f p n)) u v → Off f p n v := fun u v o hu c => (hPc u v hu o c).2
      have least : i ∉ M → Lst1 (ed n p (offJ f p n)) i := fun hm y hy c => hm ((hM.mem i hi).mpr ⟨y, hy, (hPc i y hi oi c.symm).2, c⟩)
      -- from this one to the next
      have next : ∀ {M2 : List Nat}, Met p (offJ f p n) n (Off f p n) (i + 1) M2 → Met p (offJ f p n) n (Off f p n) (bd ((List.range n).filter g) n (j + 1)) M2 ∧ cP (bd ((List.range n).filter g) n (j + 1)) (ed n p (offJ f p n)) (Off f p n) = cP (i + 1) (ed n p (offJ f p n)) (Off f p n) := fun {M2} h2 => by
        have hle := bd_le (n := n) (g := g) (j + 1)
        have hge : i + 1 ≤ bd ((List.range n).filter g) n (j + 1) := by
          unfold bd
          cases e : ((List.range n).filter g)[j + 1]? with
          | none => exact hi
          | some z =>
            obtain ⟨l1, l2⟩ := List.getElem?_eq_some_iff.mp hiU
            obtain ⟨m1, m2⟩ := List.getElem?_eq_some_iff.mp e
            have := List.pairwise_iff_getElem.mp (flt_asc (n := n) (g := g)) j (j + 1) l1 m1 (by omega)
            show i + 1 ≤ z
            omega
        have := Met.jump (bd ((List.range n).filter g) n (j + 1) - (i + 1)) (i := i + 1) (by omega) (fun k h1 h3 o => bd_gap (n := n) (g := g) (j := j + 1) (i := i + 1) (fun m x hm hx => bd_before hiU hm hx) h1 (by omega) ((hgo k (by omega)).mpr o)) h2
        rwa [show i + 1 + (bd ((List.range n).filter g) n (j + 1) - (i + 1)) = bd ((List.range n).filter g) n (j + 1) by omega] at this
      refine st_set [some (.ref x), some (.ref y), some (.ref aM), some (.int ((cP i (ed n p (offJ f p n)) (Off f p n) : Nat) : Int)), some (.int ((n : Nat) : Int)), some (.ref U), some (.int ((i : Nat) : Int)), y7] ?_ rfl
      refine ⟨_, rfl, _, rfl, aM, _, rfl, DGet.k (k := .inl ((i : Nat) : Int)) eJ, _, rfl, ?_⟩
      rw [val_dkM]
      by_cases hm : i ∈ M
      · rw [if_pos hm]
        refine iteX rfl ?_
        have e := (cP_snoc (n := i) (E := ed n p (offJ f p n)) (P := Off f p n)).2 (fun z => hM.seen hi hm z.1)
        obtain ⟨g1, g2⟩ := next (hM.skip hi (.inr hm))
        exact ⟨kJ, M, _, _, by rw [g2, e], eJ, g1⟩
      · rw [if_neg hm]
        refine iteY rfl ?_
        have e := (cP_snoc (n := i) (E := ed n p (offJ f p n)) (P := Off f p n)).1 ⟨least hm, oi⟩
        refine ⟨_, rfl, _, 1, rfl, rfl, _, rfl, _, _, rfl, ?_⟩
        rw [show (fun i j => V.int (i + j)) ((cP i (ed n p (offJ f p n)) (Off f p n) : Nat) : Int) 1 = V.int ((cP (i + 1) (ed n p (offJ f p n)) (Off f p n) : Nat) : Int) from congrArg V.int (by rw [e]; push_cast; rfl)]
        refine st_eq (t := tWhile _ _) [some (.ref x), some (.ref y), some (.ref aM), some (.int ((cP (i + 1) (ed n p (offJ f p n)) (Off f p n) : Nat) : Int)), some (.int ((n : Nat) : Int)), some (.ref U), some (.int ((i : Nat) : Int)), some (.int ((i : Nat) : Int))] ?_ rfl
        refine ⟨fun w σ J => ∃ (l : List Nat) (z : Nat), w = n - l.length ∧ σ = [some (.ref x), some (.ref y), some (.ref aM), some (.int ((cP (i + 1) (ed n p (offJ f p n)) (Off f p n) : Nat) : Int)), some (.int ((n : Nat) : Int)), some (.ref U), some (.int ((i : Nat) : Int)), some (.int ((z : Nat) : Int))] ∧ Keep aM J' J ∧ J aM = some (.dK (dkM (M ++ l))) ∧ LpI p (offJ f p n) n i l z ∧ (∀ u ∈ l, Cn (ed n p (offJ f p n)) i u) ∧ Cn (ed n p (offJ f p n)) i z,
          ⟨n, [], i, rfl, rfl, kJ, by rw [List.append_nil]; exact eJ, LpI.start hi, fun u hu => absurd hu List.not_mem_nil, .refl _⟩, fun w σ J2 hW => ?_⟩
        clear eJ kJ
        obtain ⟨l, z, rfl, rfl, kJ, eJ, hl, hlc, hzc⟩ := hW
        have hzn := hl.zl
        have hzM := hM.apart hi hm hzn hzc
        refine ⟨_, rfl, _, rfl, aM, _, rfl, DGet.k (k := .inl ((z : Nat) : Int)) eJ, _, rfl, ?_⟩
        rw [val_dkM]
        by_cases hz : z ∈ l
        · rw [if_pos (List.mem_append.mpr (.inr hz))]
          refine iteX rfl ?_
          have ez := hl.done hO hz
          subst ez
          obtain ⟨g1, g2⟩ := next (hM.lap hP hO oi hm hl hz hlc)
          exact ⟨kJ, M ++ l, _, _, by rw [g2], eJ, g1⟩
        · have hzMl : z ∉ M ++ l := fun h => (List.mem_append.mp h).elim hzM hz
          rw [if_neg hzMl]
          refine iteY rfl ?_
          have hroom := hl.room hP hO hz
          have had := hP.d hzn
          have hac : Cn (ed n p (offJ f p n)) i (p.getD z 0) := hzc.trans (.one (.inl ⟨hzn, .inl rfl⟩))
          have oa := (hPc i _ hi oi hac).2
          have hbf : (offJ f p n).getD (p.getD z 0) 0 = f.getD (p.getD z 0) 0 := offJ_on had.1 oa
          have hbc : Cn (ed n p (offJ f p n)) i (f.getD (p.getD z 0) 0) := hac.trans (.one (.inl ⟨had.1, .inr hbf.symm⟩))
          have hal : p.getD z 0 ∉ l := fun h => hz (by have := hl.ca _ h; rwa [had.2.2.1] at this)
          have haM : p.getD z 0 ∉ M ++ l ++ [z] := fun h => by
            rcases List.mem_append.mp h with h | h
            · exact (List.mem_append.mp h).elim (hM.apart hi hm had.1 hac) hal
            · exact had.2.1 (List.mem_singleton.mp h)
          have hlen : (M ++ l).length ≤ 1000 := by rw [List.length_append]; omega
          refine ⟨fun σ J => ∃ (z2 : Nat), σ = [some (.ref x), some (.ref y), some (.ref aM), some (.int ((cP (i + 1) (ed n p (offJ f p n)) (Off f p n) : Nat) : Int)), some (.int ((n : Nat) : Int)), some (.ref U), some (.int ((i : Nat) : Int)), some (.int ((z2 : Nat) : Int))] ∧ Keep aM J' J ∧ J aM = some (.dK (dkM (M ++ (l ++ [z, p.getD z 0])))) ∧ z2 = f.getD (p.getD z 0) 0, fun σ' J'' h => ?_, ?_⟩
          · obtain ⟨z2, h1, h2, h3, rfl⟩ := h
            refine ⟨n - (l ++ [z, p.getD z 0]).length, ?_, l ++ [z, p.getD z 0], _, rfl, h1, h2, h3, by have := hl.step hP hO hz; rwa [hbf] at this, fun u hu => ?_, hbc⟩
            · rw [List.length_append]; show n - (l.length + 2) < n - l.length; omega
            · rcases List.mem_append.mp hu with g | g
              · exact hlc u g
              · rcases List.mem_cons.mp g with g | g
                · rw [g]; exact hzc
                · rw [List.mem_singleton.mp g]; exact hac
          refine ⟨_, rfl, _, rfl, aM, _, rfl, DPut.k (k := .inl ((z : Nat) : Int)) eJ (by rw [dkM_len]; exact small1000 hlen), ?_⟩
          rw [put_dkM hzMl]
          have k1 : Keep aM J2 (upd J2 aM (.dK (dkM (M ++ l ++ [z])))) := keep_upd
          have e1 : (upd J2 aM (.dK (dkM (M ++ l ++ [z])))) aM = some (.dK (dkM (M ++ l ++ [z]))) := upd_same
          replace kJ := kJ.trans k1
          clear k1
          revert kJ e1
          generalize upd J2 aM (.dK (dkM (M ++ l ++ [z]))) = J3
          intro e1 kJ
          refine ⟨_, rfl, _, rfl, _, rfl, y, _, _, _, rfl, rfl, sqt_keepD kJ eM hy0, pair_at hP hzn, aM, _, rfl, DPut.k (k := .inl ((p.getD z 0 : Nat) : Int)) e1 (by rw [dkM_len, List.length_append]; exact small1000 (by show (M ++ l).length + 1 ≤ 1000; rw [List.length_append]; omega)), ?_⟩
          rw [put_dkM haM]
          have k2 : Keep aM J3 (upd J3 aM (.dK (dkM (M ++ l ++ [z] ++ [p.getD z 0])))) := keep_upd
          have e2 : (upd J3 aM (.dK (dkM (M ++ l ++ [z] ++ [p.getD z 0])))) aM = some (.dK (dkM (M ++ (l ++ [z, p.getD z 0])))) := by
            rw [upd_same, show M ++ l ++ [z] ++ [p.getD z 0] = M ++ (l ++ [z, p.getD z 0]) by simp]
          replace kJ := kJ.trans k2
          clear k2
          revert kJ e2
          generalize upd J3 aM (.dK (dkM (M ++ l ++ [z] ++ [p.getD z 0]))) = J4
          intro e2 kJ
          refine ⟨_, rfl, _, rfl, _, rfl, y, _, _, _, rfl, rfl, sqt_keepD kJ eM hy0, pair_at hP hzn, x, _, _, _, rfl, rfl, sqt_keepD kJ eM hx0, nv_at (hF.d (show p.getD z 0 < 2 * n by omega)).2.2.2, ?_⟩
          refine st_set [some (.ref x), some (.ref y), some (.ref aM), some (.int ((cP (i + 1) (ed n p (offJ f p n)) (Off f p n) : Nat) : Int)), some (.int ((n : Nat) : Int)), some (.ref U), some (.int ((i : Nat) : Int)), some (.int ((f.getD (p.getD z 0) 0 : Nat) : Int))] ?_ rfl
          exact ⟨_, rfl, kJ, e2, rfl⟩
    · obtain ⟨kJ, M, y6, y7, rfl, eJ, hM⟩ := h
      have hbn : bd ((List.range n).filter g) n ((nv ((List.range n).filter g)).length) = n := by unfold bd; rw [nv_length, List.getElem?_eq_none (Nat.le_refl _)]; rfl
      rw [hbn]
      exact ⟨_, rfl, q _ fun z o hz => kJ _ _ (ne_of_none hz nM2) (s0 _ _ hz)⟩
end
end Pc
namespace Pc
open PySem PySem.Spec PyProof.Rows L2 RZ
theorem big60 {x n : Nat} (h : x < n) (hn : n ≤ 100) : x < 2 ^ 60 := Nat.lt_of_lt_of_le h (Nat.le_trans hn (by decide))
theorem ups_b {n : Nat} {f : List Nat} (hf : IsPair (2 * n) f) (hn : n ≤ 100) : (ups f n).length ≤ 1000 ∧ ∀ p ∈ ups f n, p.1 < 2 ^ 60 ∧ p.2 < 2 ^ 60 :=
  ⟨Nat.le_trans (selN_len _ _ _) (by omega), fun p hp => by have := ups_mem hf hp; exact ⟨big60 (n := n) (by omega) hn, big60 (n := n) (by omega) hn⟩⟩
theorem los_b {n : Nat} {f : List Nat} (hf : IsPair (2 * n) f) (hn : n ≤ 100) : (los f n).length ≤ 1000 ∧ ∀ p ∈ los f n, p.1 < 2 ^ 60 ∧ p.2 < 2 ^ 60 :=
  ⟨Nat.le_trans (selN_len _ _ _) (by omega), fun p hp => by have := los_mem hf hp; exact ⟨big60 (n := n) (by omega) hn, big60 (n := n) (by omega) hn⟩⟩
theorem sts_b {n : Nat} {f : List Nat} (hf : IsPair (2 * n) f) (hn : n ≤ 100) : (sts f n).length ≤ 1000 ∧ ∀ p ∈ sts f n, p.1 < 2 ^ 60 ∧ p.2 < 2 ^ 60 :=
  ⟨Nat.le_trans (selN_len _ _ _) (by omega), fun p hp => by have := sts_mem hf hp; exact ⟨big60 (n := n) (by omega) hn, big60 (n := n) (by omega) hn⟩⟩
end Pc
namespace Pc
open PySem PySem.Spec PyProof.Rows L2 RZ
section
variable {P : Program} {w : World} {K : PySem.W.Frag} {mg : Str → Option Value} {base : Heap}
/-! ### words turned about -/
theorem prs_rev {H : Hp} : ∀ {as : List Addr} {qs : List (Nat × Nat)}, Prs H as qs → Prs H as.reverse qs.reverse
  | _, _, .nil => .nil
  | _, _, .cons e t => by
    rw [List.reverse_cons, List.reverse_cons]
    exact prs_append (prs_rev t) (.cons e .nil)
def spRight : Sp := fun vs H Q _ => ∃ (b : Addr) (n : Nat), vs = [.ref b] ∧ Box (n + 1000) H b ∧ ∀ H', Keep b H H' → Box n H' b → Q (.bl true) H'
theorem ok_right (T : Env K mg) : FnOk P w K mg base CX0 6 T.f_right T.d_right ["_law_box_here"] spRight := by
  have GT : FnOk P w K mg base CX0 1 T.f_take T.d_take ["_law_box_here", "_law_span"] spTake := ok_take T
  have GC : FnOk P w K mg base CX0 3 T.f_some_calls T.d_some_calls ["_law_box_here", "_law_count", "_law_most"] spSomeCalls := ok_some_calls T
  have GS : FnOk P w K mg base CX0 5 T.f_p_sheet_of T.d_p_sheet_of ["size", "word"] (spPSheetOf K) := ok_p_sheet_of T
  have GMi : FnOk P w K mg base CX0 2 T.f_p_mirrored T.d_p_mirrored ["sheet"] (spMirrored K) := ok_p_mirrored T
  have GM : FnOk P w K mg base CX0 3 T.f_p_results_many T.d_p_results_many ["sheet"] (spResMany K) := ok_p_results_many T
  have GU : FnOk P w K mg base CX0 2 T.f_p_upper_pairs T.d_p_upper_pairs ["sheet"] (spPairs K ups) := ok_p_upper_pairs T
  have GL : FnOk P w K mg base CX0 2 T.f_p_lower_pairs T.d_p_lower_pairs ["sheet"] (spPairs K los) := ok_p_lower_pairs T
  have GR : FnOk P w K mg base CX0 3 T.f_random T.d_random ["_law_box_here", "_law_count"] spRandom := ok_random T
  have GRo : FnOk P w K mg base CX0 1 T.f_rounds T.d_rounds ["_law_crowd", "_law_its"] (spRoundsD K) := ok_rounds T
  have GRe : FnOk P w K mg base CX0 3 T.f_p_result T.d_p_result ["sheet", "pairing"] (spResult K) := ok_p_result T
  have GH : FnOk P w K mg base CX0 5 T.f_hidden T.d_hidden ["_law_page", "_law_crowd"] (spHiddenD K) := ok_hidden T
  refine T.F_right.ok sc_right (fun vs H Q E h => ?_) (fun cdv A outer s H vs Q E hr h => ?_)
  · obtain ⟨b, n, rfl, _⟩ := h
    rfl
  · obtain ⟨b, n, rfl, hB, q⟩ := h
    have h1 := hr.mono (show 1 ≤ 5 by decide)
    have h2 := hr.mono (show 2 ≤ 5 by decide)
    have h3 := hr.mono (show 3 ≤ 5 by decide)
    refine ⟨_, pss_cons (ps_set (i := 1) sc_right.nd rfl (.inl rfl) (pe_op op_add pe_int (pe_op op_mul pe_int (pe_call GT h1 (by rfl) T.g_take T.F_take.kp T.b_take .nil pass0 (pa_cons (pv 0) (pa_cons pe_int pa_nil)))))) <|
      pss_cons (ps_set (i := 2) sc_right.nd rfl (.inl rfl) (pe_call GC h3 (by rfl) T.g_some_calls T.F_some_calls.kp T.b_some_calls .nil pass0 (pa_cons (pv 0) (pa_cons (pv 1) (pa_cons pe_int pa_nil))))) <|
      pss_cons (ps_par (i := 3) (j := 4) (by rfl) sc_right.nd rfl rfl (by decide) rfl rfl (pa_cons (pe_call GS hr (by rfl) T.g_p_sheet_of T.F_p_sheet_of.kp T.b_p_sheet_of .nil pass0 (pa_cons (pv 1) (pa_cons (pv 2) pa_nil))) (pa_cons (pe_call GS hr (by rfl) T.g_p_sheet_of T.F_p_sheet_of.kp T.b_p_sheet_of .nil pass0 (pa_cons (pv 1) (pa_cons (pe_revL (pv 2)) pa_nil))) pa_nil)) (by rfl)) <|
      pss_cons (ps_if (PW.pt (pw_or (pt_cmpR (op_neD hr.units) (pv 4) (pe_call GMi h2 (by rfl) T.g_p_mirrored T.F_p_mirrored.kp T.b_p_mirrored .nil pass0 (pa_cons (pv 3) pa_nil)) (nomark _)) (pw_or1 (pt_cmpR op_ne (pe_call GM h3 (by rfl) T.g_p_results_many T.F_p_results_many.kp T.b_p_results_many .nil pass0 (pa_cons (pv 4) pa_nil)) (pe_call GM h3 (by rfl) T.g_p_results_many T.F_p_results_many.kp T.b_p_results_many .nil pass0 (pa_cons (pv 3) pa_nil)) (nomark _))))) (pss_one (ps_ret pe_bl)) pss_nil) <|
      pss_cons (ps_if (PW.pt (pw_or (pt_cmpR (op_neD hr.units) (pe_call GU h2 (by rfl) T.g_p_upper_pairs T.F_p_upper_pairs.kp T.b_p_upper_pairs .nil pass0 (pa_cons (pv 4) pa_nil)) (pe_call GL h2 (by rfl) T.g_p_lower_pairs T.F_p_lower_pairs.kp T.b_p_lower_pairs .nil pass0 (pa_cons (pv 3) pa_nil)) (nomark _)) (pw_or1 (pt_cmpR (op_neD hr.units) (pe_call GL h2 (by rfl) T.g_p_lower_pairs T.F_p_lower_pairs.kp T.b_p_lower_pairs .nil pass0 (pa_cons (pv 4) pa_nil)) (pe_call GU h2 (by rfl) T.g_p_upper_pairs T.F_p_upper_pairs.kp T.b_p_upper_pairs .nil pass0 (pa_cons (pv 3) pa_nil)) (nomark _))))) (pss_one (ps_ret pe_bl)) pss_nil) <|
      pss_cons (ps_for PassesOwn.never rfl (pi_range1 (by rfl) T.n_range (pa_cons pe_int pa_nil)) (pg_name (i := 5) sc_right.nd rfl (.inl rfl))
        (pss_cons (ps_par (i := 6) (j := 7) (by rfl) sc_right.nd rfl rfl (by decide) rfl rfl (pa_cons (pe_call GR h3 (by rfl) T.g_random T.F_random.kp T.b_random .nil pass0 (pa_cons (pv 0) (pa_cons (pv 1) pa_nil))) (pa_cons (pe_call GR h3 (by rfl) T.g_random T.F_random.kp T.b_random .nil pass0 (pa_cons (pv 0) (pa_cons (pv 1) pa_nil))) pa_nil)) (by rfl)) <|
      pss_cons (ps_set (i := 8) sc_right.nd rfl (.inl rfl) (pe_op op_add (pe_call GRo h1 (by rfl) T.g_rounds T.F_rounds.kp T.b_rounds .nil pass0 (pa_cons (pe_call GRe h3 (by rfl) T.g_p_result T.F_p_result.kp T.b_p_result .nil pass0 (pa_cons (pv 3) (pa_cons (pv 6) pa_nil))) (pa_cons (pv 7) pa_nil))) (pe_call GH hr (by rfl) T.g_hidden T.F_hidden.kp T.b_hidden .nil pass0 (pa_cons (pv 3) (pa_cons (pv 6) pa_nil))))) <|
      pss_cons (ps_set (i := 9) sc_right.nd rfl (.inl rfl) (pe_op op_add (pe_call GRo h1 (by rfl) T.g_rounds T.F_rounds.kp T.b_rounds .nil pass0 (pa_cons (pv 6) (pa_cons (pe_call GRe h3 (by rfl) T.g_p_result T.F_p_result.kp T.b_p_result .nil pass0 (pa_cons (pv 4) (pa_cons (pv 7) pa_nil))) pa_nil))) (pe_call GH hr (by rfl) T.g_hidden T.F_hidden.kp T.b_hidden .nil pass0 (pa_cons (pv 4) (pa_cons (pv 7) pa_nil))))) <|
      pss_one (ps_if (pt_cmpR op_ne (pv 8) (pv 9) (nomark _)) (pss_one (ps_ret pe_bl)) pss_nil))) <|
      pss_one (ps_ret pe_bl), ?_⟩
    refine ⟨_, rfl, b, n + 999, 10, rfl, hB.mono (by omega), by decide, by decide, fun r0 J0 ra rb hB0 k0 => ?_⟩
    refine ⟨2, r0, rfl, rfl, .inl ⟨by decide, by decide⟩, 2, _, rfl, rfl, ?_⟩
    obtain ⟨N, hN2, hN20, hNe, eN⟩ : ∃ N : Nat, 2 ≤ N ∧ N ≤ 20 ∧ N % 2 = 0 ∧ (2 + 2 * r0 : Int) = ((N : Nat) : Int) := ⟨2 + 2 * r0.toNat, by omega, by omega, by omega, by omega⟩
    rw [show (fun i j => V.int (i + j)) 2 ((fun i j => i * j) 2 r0) = V.int ((N : Nat) : Int) from congrArg V.int eN]
    refine st_set [some (.ref b), some (.int (N : Nat)), none, none, none, none, none, none, none, none] ?_ rfl
    refine ⟨_, rfl, _, rfl, b, n + 500, N, 40, rfl, hB0.mono (by omega), hN2, by omega, by decide, fun J2 cw as qs hc hql nc ec hA k2 hB2 => ?_⟩
    have kJ : Keep b H J2 := k0.trans k2
    clear k0 k2 hB0 nc hB
    refine st_set [some (.ref b), some (.int (N : Nat)), some (.ref cw), none, none, none, none, none, none, none] ?_ rfl
    -- the sheet and the one turned about
    have hN0 : 0 < N := by omega
    refine ⟨_, rfl, _, rfl, N, cw, _, qs, rfl, .inl (.inl (.inl ec)), items_of hA, hc, hN0, by omega, fun J3 x s3 nx ex => ?_⟩
    replace ec := s3 _ _ ec
    replace hA := prs_same s3 hA
    refine ⟨_, rfl, _, rfl, cw, _, rfl, .inl (.inl ec), fun rv nrv => ?_⟩
    rw [backV_rev, ← List.map_reverse]
    have s4 : Same J3 (upd J3 rv (.lst (as.reverse.map V.ref))) := same_new nrv
    have hcr : Calls N qs.reverse := fun c h => hc c (List.mem_reverse.mp h)
    refine ⟨N, rv, _, qs.reverse, rfl, .inl (.inl (.inl upd_same)), items_of (prs_same s4 (prs_rev hA)), hcr, hN0, by omega, fun J4 y s5 ny ey => ⟨_, _, rfl, ?_⟩⟩
    have s25 := (s3.trans s4).trans s5
    replace ex := s5 _ _ (s4 _ _ ex)
    replace kJ := kJ.trans (Keep.of_same s25)
    replace hB2 := hB2.same s25
    obtain ⟨f, hfe⟩ : ∃ f, f = shw N qs (emp N) := ⟨_, rfl⟩
    have hf : IsPair (2 * N) f := by rw [hfe]; exact shw_pair (emp_pair hN0) hc
    rw [← mir_word hN0 hc, ← hfe] at ey
    rw [← hfe] at ex
    have hg : IsPair (2 * N) (mir f N) := mir_pair hf
    clear s25 s3 s4 s5 nx ny nrv ec hA
    refine st_eq (t := tSeq _ _) [some (.ref b), some (.int (N : Nat)), some (.ref cw), some (.ref x), some (.ref y), none, none, none, none, none] ?_ rfl
    have hfg : Fi 1 (td (mir f N)) := fi_tup hg (by omega)
    refine ⟨_, rfl, _, rfl, x, f, N, rfl, .inr (.inl (.inl ex)), hf, by omega, fun J5 t s5 nt et => ?_⟩
    refine ⟨_, _, .tup (.inl (.inl (s5 _ _ ey))) (dp_nats _), .tup (.inl (.inl et)) (dp_nats _), hfg.sh, hfg.sh, _, rfl, iteX ?_ ?_⟩
    · rw [show PyData.eqv (.tuple (nd (mir f N))) (.tuple (nd (mir f N))) = true from fi_eq hfg]; rfl
    refine ⟨_, rfl, y, mir f N, N, rfl, .inr (.inl (.inl (s5 _ _ ey))), hg, hNe, hN20, fun J6 s6 => ?_⟩
    refine ⟨_, rfl, x, f, N, rfl, .inr (.inl (.inl (s6 _ _ (s5 _ _ ex)))), hf, hNe, hN20, fun J7 s7 => ?_⟩
    refine ⟨rfl, _, rfl, iteX (fi_same ?_) ?_⟩
    · rw [(sts_mirP hf).length_eq, List.length_map]
    have s57 := (s5.trans s6).trans s7
    replace ex := s57 _ _ ex
    replace ey := s57 _ _ ey
    replace kJ := kJ.trans (Keep.of_same s57)
    replace hB2 := hB2.same s57
    clear s57 s5 s6 s7 nt et
    -- upper and lower pairs
    have hul : Fi 2 (.list ((los f N).map pd)) := fi_prs (los_b hf (by omega))
    have huu : Fi 2 (.list ((ups f N).map pd)) := fi_prs (ups_b hf (by omega))
    refine ⟨_, rfl, y, mir f N, N, rfl, .inr (.inl (.inl ey)), hg, by omega, fun J8 u1 a1 s8 n8 e8 h8 => ?_⟩
    rw [ups_mirL hf] at h8
    refine ⟨_, rfl, x, f, N, rfl, .inr (.inl (.inl (s8 _ _ ex))), hf, by omega, fun J9 u2 a2 s9 n9 e9 h9 => ?_⟩
    refine ⟨_, _, .lst (.inl (.inl (s9 _ _ e8))) (prs_dp (prs_same s9 h8)), .lst (.inl (.inl e9)) (prs_dp h9), hul.sh, hul.sh, _, rfl, iteX (by rw [fi_eq hul]; rfl) ?_⟩
    have s89 := s8.trans s9
    refine ⟨_, rfl, y, mir f N, N, rfl, .inr (.inl (.inl (s89 _ _ ey))), hg, by omega, fun J10 u3 a3 s10 n10 e10 h10 => ?_⟩
    rw [los_mirL hf] at h10
    refine ⟨_, rfl, x, f, N, rfl, .inr (.inl (.inl (s10 _ _ (s89 _ _ ex)))), hf, by omega, fun J11 u4 a4 s11 n11 e11 h11 => ?_⟩
    refine ⟨_, _, .lst (.inl (.inl (s11 _ _ e10))) (prs_dp (prs_same s11 h10)), .lst (.inl (.inl e11)) (prs_dp h11), huu.sh, huu.sh, _, rfl, iteX (by rw [fi_eq huu]; rfl) ?_⟩
    have s811 := (s89.trans s10).trans s11
    replace ex := s811 _ _ ex
    replace ey := s811 _ _ ey
    replace kJ := kJ.trans (Keep.of_same s811)
    replace hB2 := hB2.same s811
    clear s811 s89 s8 s9 s10 s11 n8 e8 h8 n9 e9 h9 n10 e10 h10 n11 e11 h11
    -- closed ways
    refine ⟨3, rfl, by decide, by decide, ?_⟩
    refine for_range (n := 3) (fun i σ J => Keep b H J ∧ Box (n + 300 - 60 * i) J b ∧ J x = some (.tup (nv f)) ∧ J y = some (.tup (nv (mir f N))) ∧ ∃ (y5 y6 y7 y8 y9 : Option V), σ = [some (.ref b), some (.int (N : Nat)), some (.ref cw), some (.ref x), some (.ref y), y5, y6, y7, y8, y9])
      ⟨kJ, hB2.mono (by omega), ex, ey, none, none, none, none, none, rfl⟩ (fun i σ J hi h => ?_) (fun σ J h => ?_)
    · clear kJ hB2 ex ey
      obtain ⟨kJ, hB, ex, ey, y5, y6, y7, y8, y9, rfl⟩ := h
      obtain ⟨m, hm⟩ : ∃ z, z = n + 300 - 60 * (i + 1) := ⟨_, rfl⟩
      replace hB : Box (m + 60) J b := hB.mono (by omega)
      refine st_set [some (.ref b), some (.int (N : Nat)), some (.ref cw), some (.ref x), some (.ref y), some (.int ((0 : Int) + (i : Nat))), y6, y7, y8, y9] ?_ rfl
      refine ⟨_, rfl, _, rfl, b, m + 40, N, rfl, hB.mono (by omega), hNe, by omega, fun J1 pc ps hP k1 hB1 np ep => ?_⟩
      refine ⟨_, rfl, _, rfl, b, m + 20, N, rfl, hB1.mono (by omega), hNe, by omega, fun J2 pq qq hQ k2 hB2 nq eq => ⟨_, _, rfl, ?_⟩⟩
      obtain ⟨yb, hyb⟩ := hB.lst
      obtain ⟨yc, hyc⟩ := hB1.lst
      have m1 : ∀ z vs, J z = some (.tup vs) → J2 z = some (.tup vs) := fun z vs h => k2 _ _ (fun g => by rw [g, hyb] at h; cases h) (k1 _ _ (fun g => by rw [g, hyb] at h; cases h) h)
      replace ex := m1 _ _ ex
      replace ey := m1 _ _ ey
      replace ep : J2 pc = some (.tup (nv ps)) := k2 _ _ (fun g => by rw [g, hyc] at ep; cases ep) ep
      replace kJ := (kJ.trans k1).trans k2
      clear m1 hyb yb hyc yc k1 k2 hB hB1 np nq
      refine st_eq (t := tSeq _ _) [some (.ref b), some (.int (N : Nat)), some (.ref cw), some (.ref x), some (.ref y), some (.int ((0 : Int) + (i : Nat))), some (.ref pc), some (.ref pq), y8, y9] ?_ rfl
      have T1 := turned_about hf hP hQ
      refine ⟨_, rfl, _, rfl, x, pc, f, ps, N, rfl, .inr (.inl (.inl ex)), .inr (.inl (.inl ep)), hf, hP, by omega, fun J3 t s3 nt et => ?_⟩
      refine ⟨_, rfl, t, pq, _, qq, N, rfl, .inl (.inl et), .inl (.inl (s3 _ _ eq)), rd_pair hf hP, hQ, by omega, fun J4 s4 => ?_⟩
      have s34 := s3.trans s4
      refine ⟨_, rfl, _, rfl, x, pc, f, ps, N, rfl, .inl (.inl (s34 _ _ ex)), .inl (.inl (s34 _ _ ep)), hf, hP, hN0, hN20, fun J5 s5 => ⟨_, _, rfl, rfl, ?_⟩⟩
      replace s34 := s34.trans s5
      refine st_set [some (.ref b), some (.int (N : Nat)), some (.ref cw), some (.ref x), some (.ref y), some (.int ((0 : Int) + (i : Nat))), some (.ref pc), some (.ref pq), some _, y9] ?_ rfl
      refine ⟨_, rfl, _, rfl, _, rfl, y, pq, mir f N, qq, N, rfl, .inr (.inl (.inl (s34 _ _ ey))), .inr (.inl (.inl (s34 _ _ eq))), hg, hQ, by omega, fun J6 t2 s6 nt2 et2 => ?_⟩
      have s36 := s34.trans s6
      refine ⟨pc, t2, ps, _, N, rfl, .inl (.inl (s36 _ _ ep)), .inl (.inl et2), hP, rd_pair hg hQ, by omega, fun J7 s7 => ?_⟩
      replace s36 := s36.trans s7
      refine ⟨_, rfl, _, rfl, y, pq, mir f N, qq, N, rfl, .inl (.inl (s36 _ _ ey)), .inl (.inl (s36 _ _ eq)), hg, hQ, hN0, hN20, fun J8 s8 => ⟨_, _, rfl, rfl, ?_⟩⟩
      replace s36 := s36.trans s8
      refine st_set [some (.ref b), some (.int (N : Nat)), some (.ref cw), some (.ref x), some (.ref y), some (.int ((0 : Int) + (i : Nat))), some (.ref pc), some (.ref pq), some _, some _] ?_ rfl
      refine ⟨_, rfl, _, rfl, rfl, _, rfl, iteX (fi_same (congrArg V.int ?_)) ⟨kJ.trans (Keep.of_same s36), (hB2.same s36).mono (by omega), s36 _ _ ex, s36 _ _ ey, _, _, _, _, _, rfl⟩⟩
      omega
    · obtain ⟨kJ, hB, _⟩ := h
      exact q _ kJ (hB.mono (by omega))
end
end Pc
namespace Pc
open PySem PySem.Spec PyProof.Rows L2 RZ
section
variable {P : Program} {w : World} {K : PySem.W.Frag} {mg : Str → Option Value} {base : Heap}
/-! ### the law -/
def spLaw (K : PySem.W.Frag) : Sp := fun vs H Q _ => ∃ (a : Addr) (ns : List Int), vs = [.ref a] ∧ SqL K H a (ns.map V.int) ∧ ns.length ≤ 63 ∧ ∀ H', Q (.bl true) H'
theorem ok_law (T : Env K mg) {f : Addr} {fd : FuncData} (F : Fun K "law" "law" s_law f fd) : FnOk P w K mg base CX0 7 f fd ["_law_script"] (spLaw K) := by
  have GC : FnOk P w K mg base CX0 1 T.f_cells T.d_cells ["_law_script", "_law_most"] (spCells K) := ok_cells T
  have GB : FnOk P w K mg base CX0 1 T.f_box T.d_box ["_law_script", "_law_k"] (spBox K) := ok_box T
  have GR : FnOk P w K mg base CX0 6 T.f_right T.d_right ["_law_box_here"] spRight := ok_right T
  refine F.ok sc_law (fun vs H Q E h => ?_) (fun cdv A outer s H vs Q E hr h => ?_)
  · obtain ⟨a, ns, rfl, _⟩ := h
    rfl
  · obtain ⟨a, ns, rfl, hS, hn, q⟩ := h
    have h1 := hr.mono (show 1 ≤ 6 by decide)
    refine ⟨_, pss_cons (ps_set (i := 1) sc_law.nd rfl (.inl rfl) (pe_call GC h1 (by rfl) T.g_cells T.F_cells.kp T.b_cells .nil pass0 (pa_cons (pv 0) (pa_cons pe_int pa_nil)))) <|
      pss_cons (ps_for PassesOwn.never rfl (pi_range1 (by rfl) T.n_range (pa_cons (pe_callB call_len_seq (by rfl) T.n_len PySem.boot_len (pa_cons (pv 1) pa_nil)) pa_nil)) (pg_name (i := 2) sc_law.nd rfl (.inl rfl))
        (pss_cons (ps_set (i := 3) sc_law.nd rfl (.inr rfl) (pe_call GB h1 (by rfl) T.g_box T.F_box.kp T.b_box .nil pass0 (pa_cons (pv 1) (pa_cons (pv 2) pa_nil))))
        (pss_one (ps_if (pt_not (pt_val (pe_callB (cr_all rfl) (by rfl) T.n_all (by decide +kernel) (pa_cons
          (pe_lc (own := [("_law_turn", 4)]) (g := gName 4) (tt := tYes) rfl sc_law.nd (pi_range1 (by rfl) T.n_range (pa_cons pe_int pa_nil)) (blkOk_by (N := N_law) (sc := defScope s_law) (by decide +kernel))
            (fun _ _ _ _ _ => pg_name (i := 4) sc_law.nd rfl (.inl rfl)) (fun _ _ _ _ _ => pts_nil)
            (fun _ _ _ _ _ => pe_call GR hr (by rfl) T.g_right T.F_right.kp T.b_right .nil pass0 (pa_cons (pv 3) pa_nil))) pa_nil)))) (pss_one (ps_ret pe_bl)) pss_nil)))) <|
      pss_one (ps_ret pe_bl), ?_⟩
    refine ⟨.ref a, rfl, a, ns, 3, rfl, hS, hn, by decide, by decide, fun Hc p cs sc np ep hc1 hc2 => ?_⟩
    have hlen : (cs.map V.int).length = cs.length := List.length_map _
    refine ⟨.ref p, rfl, p, _, rfl, .inl (.inl (.inl ep)), _, rfl, by omega, by omega, ?_⟩
    have hj : ((cs.map V.int).length : Int).toNat = cs.length := by rw [hlen]; rfl
    rw [hj]
    refine for_range (fun i σ H' => H' p = some (.lst (cs.map V.int)) ∧ ∃ (y2 y3 y4 : Option V), σ = [some (.ref a), some (.ref p), y2, y3, y4]) ⟨ep, none, none, none, rfl⟩ (fun i σ H1 hi hPv => ?_) (fun σ H' hPv => q _)
    obtain ⟨ep1, y2, y3, y4, rfl⟩ := hPv
    refine ⟨.ref p, rfl, _, rfl, p, cs, i, ?_, .inl (.inl ep1), by omega, fun Hb b sb nb hBb => ?_⟩
    · show [V.ref p, V.int ((0 : Int) + (i : Nat))] = _
      rw [Int.zero_add]
    have epb := sb _ _ ep1
    have pb : p ≠ b := ne_of_none ep1 nb
    refine ⟨2, rfl, by decide, by decide, fun D nD => ?_⟩
    have bD : b ≠ D := hBb.ne_new nD
    have pD : p ≠ D := ne_of_none epb nD
    refine lc_range (n := 2) (fun j H' => H' p = some (.lst (cs.map V.int)) ∧ Box (1000 * (2 - j)) H' b ∧ H' D = some (.lst (List.replicate j (.bl true))))
      ⟨same_new nD _ _ epb, (hBb.same (same_new nD)).mono (by decide), upd_same⟩ (fun j H' hj hPv => ?_) (fun H' hPv => ?_)
    · obtain ⟨ep', hB', eD⟩ := hPv
      refine ⟨rfl, yes_if ⟨_, rfl, b, 1000 * (2 - (j + 1)), rfl, hB'.mono (by omega), fun H2 k2 hB2 => ⟨_, k2 _ _ bD.symm eD, ?_, ?_, ?_, ?_⟩⟩⟩
      · rw [List.length_replicate]; exact small1000 (by omega)
      · rw [upd_ne pD]; exact k2 _ _ pb ep'
      · exact hB2.keep (c := D) keep_upd bD
      · rw [upd_same, List.replicate_succ']
    · obtain ⟨ep', hB', eD⟩ := hPv
      refine ⟨D, List.replicate 2 true, rfl, by rw [List.map_replicate]; exact .inl (.inl eD), _, rfl, ?_⟩
      rw [all_rep]
      exact iteN ⟨ep', _, _, _, rfl⟩
end
end Pc
namespace Pc
open PySem PySem.Spec PyProof.Rows L2 RZ
theorem all_mk {l : PySem.W.OpenLaw} {w : World} {K : PySem.W.Frag} {h : Heap} {mg : Str → Option Value} {fa f_p_pairings_many f_p_check_person f_p_check_call f_p_check_word f_p_join_two f_p_people_of f_p_check_sizes f_p_empty_sheet f_p_with_word f_p_sheet_of f_p_upper_pairs f_p_lower_pairs f_p_other_side f_p_mirrored f_p_followed_path f_p_result f_p_path f_p_couples_on f_p_loose_people f_p_results_many f_box f_take f_cells f_of f_strewn f_paired f_random f_any_call f_some_calls f_rounds f_hidden f_right f_law : Addr} (X : K.In h) (G : h.Ns mainGlobals mg) (hfa : mg "law" = some (.ref fa))
    {od_p_pairings_many an_p_pairings_many : Option Addr} {sl_p_pairings_many : Array (Option Value)} {oc_p_pairings_many kV_p_pairings_many dc_p_pairings_many pm_p_pairings_many cd_p_pairings_many ct_p_pairings_many : Value}
    {od_p_check_person an_p_check_person : Option Addr} {sl_p_check_person : Array (Option Value)} {oc_p_check_person kV_p_check_person dc_p_check_person pm_p_check_person cd_p_check_person ct_p_check_person : Value}
    {od_p_check_call an_p_check_call : Option Addr} {sl_p_check_call : Array (Option Value)} {oc_p_check_call kV_p_check_call dc_p_check_call pm_p_check_call cd_p_check_call ct_p_check_call : Value}
    {od_p_check_word an_p_check_word : Option Addr} {sl_p_check_word : Array (Option Value)} {oc_p_check_word kV_p_check_word dc_p_check_word pm_p_check_word cd_p_check_word ct_p_check_word : Value}
    {od_p_join_two an_p_join_two : Option Addr} {sl_p_join_two : Array (Option Value)} {oc_p_join_two kV_p_join_two dc_p_join_two pm_p_join_two cd_p_join_two ct_p_join_two : Value}
    {od_p_people_of an_p_people_of : Option Addr} {sl_p_people_of : Array (Option Value)} {oc_p_people_of kV_p_people_of dc_p_people_of pm_p_people_of cd_p_people_of ct_p_people_of : Value}
    {od_p_check_sizes an_p_check_sizes : Option Addr} {sl_p_check_sizes : Array (Option Value)} {oc_p_check_sizes kV_p_check_sizes dc_p_check_sizes pm_p_check_sizes cd_p_check_sizes ct_p_check_sizes : Value}
    {od_p_empty_sheet an_p_empty_sheet : Option Addr} {sl_p_empty_sheet : Array (Option Value)} {oc_p_empty_sheet kV_p_empty_sheet dc_p_empty_sheet pm_p_empty_sheet cd_p_empty_sheet ct_p_empty_sheet : Value}
    {od_p_with_word an_p_with_word : Option Addr} {sl_p_with_word : Array (Option Value)} {oc_p_with_word kV_p_with_word dc_p_with_word pm_p_with_word cd_p_with_word ct_p_with_word : Value}
    {od_p_sheet_of an_p_sheet_of : Option Addr} {sl_p_sheet_of : Array (Option Value)} {oc_p_sheet_of kV_p_sheet_of dc_p_sheet_of pm_p_sheet_of cd_p_sheet_of ct_p_sheet_of : Value}
    {od_p_upper_pairs an_p_upper_pairs : Option Addr} {sl_p_upper_pairs : Array (Option Value)} {oc_p_upper_pairs kV_p_upper_pairs dc_p_upper_pairs pm_p_upper_pairs cd_p_upper_pairs ct_p_upper_pairs : Value}
    {od_p_lower_pairs an_p_lower_pairs : Option Addr} {sl_p_lower_pairs : Array (Option Value)} {oc_p_lower_pairs kV_p_lower_pairs dc_p_lower_pairs pm_p_lower_pairs cd_p_lower_pairs ct_p_lower_pairs : Value}
    {od_p_other_side an_p_other_side : Option Addr} {sl_p_other_side : Array (Option Value)} {oc_p_other_side kV_p_other_side dc_p_other_side pm_p_other_side cd_p_other_side ct_p_other_side : Value}
    {od_p_mirrored an_p_mirrored : Option Addr} {sl_p_mirrored : Array (Option Value)} {oc_p_mirrored kV_p_mirrored dc_p_mirrored pm_p_mirrored cd_p_mirrored ct_p_mirrored : Value}
    {od_p_followed_path an_p_followed_path : Option Addr} {sl_p_followed_path : Array (Option Value)} {oc_p_followed_path kV_p_followed_path dc_p_followed_path pm_p_followed_path cd_p_followed_path ct_p_followed_path : Value}
    {od_p_result an_p_result : Option Addr} {sl_p_result : Array (Option Value)} {oc_p_result kV_p_result dc_p_result pm_p_result cd_p_result ct_p_result : Value}
    {od_p_path an_p_path : Option Addr} {sl_p_path : Array (Option Value)} {oc_p_path kV_p_path dc_p_path pm_p_path cd_p_path ct_p_path : Value}
    {od_p_couples_on an_p_couples_on : Option Addr} {sl_p_couples_on : Array (Option Value)} {oc_p_couples_on kV_p_couples_on dc_p_couples_on pm_p_couples_on cd_p_couples_on ct_p_couples_on : Value}
    {od_p_loose_people an_p_loose_people : Option Addr} {sl_p_loose_people : Array (Option Value)} {oc_p_loose_people kV_p_loose_people dc_p_loose_people pm_p_loose_people cd_p_loose_people ct_p_loose_people : Value}
    {od_p_results_many an_p_results_many : Option Addr} {sl_p_results_many : Array (Option Value)} {oc_p_results_many kV_p_results_many dc_p_results_many pm_p_results_many cd_p_results_many ct_p_results_many : Value}
    {od_box an_box : Option Addr} {sl_box : Array (Option Value)} {oc_box kV_box dc_box pm_box cd_box ct_box : Value}
    {od_take an_take : Option Addr} {sl_take : Array (Option Value)} {oc_take kV_take dc_take pm_take cd_take ct_take : Value}
    {od_cells an_cells : Option Addr} {sl_cells : Array (Option Value)} {oc_cells kV_cells dc_cells pm_cells cd_cells ct_cells : Value}
    {od_of an_of : Option Addr} {sl_of : Array (Option Value)} {oc_of kV_of dc_of pm_of cd_of ct_of : Value}
    {od_strewn an_strewn : Option Addr} {sl_strewn : Array (Option Value)} {oc_strewn kV_strewn dc_strewn pm_strewn cd_strewn ct_strewn : Value}
    {od_paired an_paired : Option Addr} {sl_paired : Array (Option Value)} {oc_paired kV_paired dc_paired pm_paired cd_paired ct_paired : Value}
    {od_random an_random : Option Addr} {sl_random : Array (Option Value)} {oc_random kV_random dc_random pm_random cd_random ct_random : Value}
    {od_any_call an_any_call : Option Addr} {sl_any_call : Array (Option Value)} {oc_any_call kV_any_call dc_any_call pm_any_call cd_any_call ct_any_call : Value}
    {od_some_calls an_some_calls : Option Addr} {sl_some_calls : Array (Option Value)} {oc_some_calls kV_some_calls dc_some_calls pm_some_calls cd_some_calls ct_some_calls : Value}
    {od_rounds an_rounds : Option Addr} {sl_rounds : Array (Option Value)} {oc_rounds kV_rounds dc_rounds pm_rounds cd_rounds ct_rounds : Value}
    {od_hidden an_hidden : Option Addr} {sl_hidden : Array (Option Value)} {oc_hidden kV_hidden dc_hidden pm_hidden cd_hidden ct_hidden : Value}
    {od_right an_right : Option Addr} {sl_right : Array (Option Value)} {oc_right kV_right dc_right pm_right cd_right ct_right : Value}
    {od_law an_law : Option Addr} {sl_law : Array (Option Value)} {oc_law kV_law dc_law pm_law cd_law ct_law : Value}
    (a_p_pairings_many : PySem.W.nsIn K mainGlobals "pairings_many" = some (some (.ref f_p_pairings_many))) (l_p_pairings_many : K.lookup f_p_pairings_many = some ⟨oc_p_pairings_many, od_p_pairings_many, .func (PySem.W.fnOf "pairings_many" "pairings_many" (defArgs s_p_pairings_many) (defBody s_p_pairings_many) (defScope s_p_pairings_many) .none kV_p_pairings_many dc_p_pairings_many pm_p_pairings_many an_p_pairings_many cd_p_pairings_many ct_p_pairings_many), sl_p_pairings_many⟩) (c_p_pairings_many : PySem.W.codeIn K cd_p_pairings_many "pairings_many" = true) (k_p_pairings_many : PySem.W.keepIn K (.ref f_p_pairings_many) = true)
    (a_p_check_person : PySem.W.nsIn K mainGlobals "check_person" = some (some (.ref f_p_check_person))) (l_p_check_person : K.lookup f_p_check_person = some ⟨oc_p_check_person, od_p_check_person, .func (PySem.W.fnOf "check_person" "check_person" (defArgs s_p_check_person) (defBody s_p_check_person) (defScope s_p_check_person) .none kV_p_check_person dc_p_check_person pm_p_check_person an_p_check_person cd_p_check_person ct_p_check_person), sl_p_check_person⟩) (c_p_check_person : PySem.W.codeIn K cd_p_check_person "check_person" = true) (k_p_check_person : PySem.W.keepIn K (.ref f_p_check_person) = true)
    (a_p_check_call : PySem.W.nsIn K mainGlobals "check_call" = some (some (.ref f_p_check_call))) (l_p_check_call : K.lookup f_p_check_call = some ⟨oc_p_check_call, od_p_check_call, .func (PySem.W.fnOf "check_call" "check_call" (defArgs s_p_check_call) (defBody s_p_check_call) (defScope s_p_check_call) .none kV_p_check_call dc_p_check_call pm_p_check_call an_p_check_call cd_p_check_call ct_p_check_call), sl_p_check_call⟩) (c_p_check_call : PySem.W.codeIn K cd_p_check_call "check_call" = true) (k_p_check_call : PySem.W.keepIn K (.ref f_p_check_call) = true)
    (a_p_check_word : PySem.W.nsIn K mainGlobals "check_word" = some (some (.ref f_p_check_word))) (l_p_check_word : K.lookup f_p_check_word = some ⟨oc_p_check_word, od_p_check_word, .func (PySem.W.fnOf "check_word" "check_word" (defArgs s_p_check_word) (defBody s_p_check_word) (defScope s_p_check_word) .none kV_p_check_word dc_p_check_word pm_p_check_word an_p_check_word cd_p_check_word ct_p_check_word), sl_p_check_word⟩) (c_p_check_word : PySem.W.codeIn K cd_p_check_word "check_word" = true) (k_p_check_word : PySem.W.keepIn K (.ref f_p_check_word) = true)
    (a_p_join_two : PySem.W.nsIn K mainGlobals "join_two" = some (some (.ref f_p_join_two))) (l_p_join_two : K.lookup f_p_join_two = some ⟨oc_p_join_two, od_p_join_two, .func (PySem.W.fnOf "join_two" "join_two" (defArgs s_p_join_two) (defBody s_p_join_two) (defScope s_p_join_two) .none kV_p_join_two dc_p_join_two pm_p_join_two an_p_join_two cd_p_join_two ct_p_join_two), sl_p_join_two⟩) (c_p_join_two : PySem.W.codeIn K cd_p_join_two "join_two" = true) (k_p_join_two : PySem.W.keepIn K (.ref f_p_join_two) = true)
    (a_p_people_of : PySem.W.nsIn K mainGlobals "people_of" = some (some (.ref f_p_people_of))) (l_p_people_of : K.lookup f_p_people_of = some ⟨oc_p_people_of, od_p_people_of, .func (PySem.W.fnOf "people_of" "people_of" (defArgs s_p_people_of) (defBody s_p_people_of) (defScope s_p_people_of) .none kV_p_people_of dc_p_people_of pm_p_people_of an_p_people_of cd_p_people_of ct_p_people_of), sl_p_people_of⟩) (c_p_people_of : PySem.W.codeIn K cd_p_people_of "people_of" = true) (k_p_people_of : PySem.W.keepIn K (.ref f_p_people_of) = true)
    (a_p_check_sizes : PySem.W.nsIn K mainGlobals "check_sizes" = some (some (.ref f_p_check_sizes))) (l_p_check_sizes : K.lookup f_p_check_sizes = some ⟨oc_p_check_sizes, od_p_check_sizes, .func (PySem.W.fnOf "check_sizes" "check_sizes" (defArgs s_p_check_sizes) (defBody s_p_check_sizes) (defScope s_p_check_sizes) .none kV_p_check_sizes dc_p_check_sizes pm_p_check_sizes an_p_check_sizes cd_p_check_sizes ct_p_check_sizes), sl_p_check_sizes⟩) (c_p_check_sizes : PySem.W.codeIn K cd_p_check_sizes "check_sizes" = true) (k_p_check_sizes : PySem.W.keepIn K (.ref f_p_check_sizes) = true)
    (a_p_empty_sheet : PySem.W.nsIn K mainGlobals "empty_sheet" = some (some (.ref f_p_empty_sheet))) (l_p_empty_sheet : K.lookup f_p_empty_sheet = some ⟨oc_p_empty_sheet, od_p_empty_sheet, .func (PySem.W.fnOf "empty_sheet" "empty_sheet" (defArgs s_p_empty_sheet) (defBody s_p_empty_sheet) (defScope s_p_empty_sheet) .none kV_p_empty_sheet dc_p_empty_sheet pm_p_empty_sheet an_p_empty_sheet cd_p_empty_sheet ct_p_empty_sheet), sl_p_empty_sheet⟩) (c_p_empty_sheet : PySem.W.codeIn K cd_p_empty_sheet "empty_sheet" = true) (k_p_empty_sheet : PySem.W.keepIn K (.ref f_p_empty_sheet) = true)
    (a_p_with_word : PySem.W.nsIn K mainGlobals "with_word" = some (some (.ref f_p_with_word))) (l_p_with_word : K.lookup f_p_with_word = some ⟨oc_p_with_word, od_p_with_word, .func (PySem.W.fnOf "with_word" "with_word" (defArgs s_p_with_word) (defBody s_p_with_word) (defScope s_p_with_word) .none kV_p_with_word dc_p_with_word pm_p_with_word an_p_with_word cd_p_with_word ct_p_with_word), sl_p_with_word⟩) (c_p_with_word : PySem.W.codeIn K cd_p_with_word "with_word" = true) (k_p_with_word : PySem.W.keepIn K (.ref f_p_with_word) = true)
    (a_p_sheet_of : PySem.W.nsIn K mainGlobals "sheet_of" = some (some (.ref f_p_sheet_of))) (l_p_sheet_of : K.lookup f_p_sheet_of = some ⟨oc_p_sheet_of, od_p_sheet_of, .func (PySem.W.fnOf "sheet_of" "sheet_of" (defArgs s_p_sheet_of) (defBody s_p_sheet_of) (defScope s_p_sheet_of) .none kV_p_sheet_of dc_p_sheet_of pm_p_sheet_of an_p_sheet_of cd_p_sheet_of ct_p_sheet_of), sl_p_sheet_of⟩) (c_p_sheet_of : PySem.W.codeIn K cd_p_sheet_of "sheet_of" = true) (k_p_sheet_of : PySem.W.keepIn K (.ref f_p_sheet_of) = true)
    (a_p_upper_pairs : PySem.W.nsIn K mainGlobals "upper_pairs" = some (some (.ref f_p_upper_pairs))) (l_p_upper_pairs : K.lookup f_p_upper_pairs = some ⟨oc_p_upper_pairs, od_p_upper_pairs, .func (PySem.W.fnOf "upper_pairs" "upper_pairs" (defArgs s_p_upper_pairs) (defBody s_p_upper_pairs) (defScope s_p_upper_pairs) .none kV_p_upper_pairs dc_p_upper_pairs pm_p_upper_pairs an_p_upper_pairs cd_p_upper_pairs ct_p_upper_pairs), sl_p_upper_pairs⟩) (c_p_upper_pairs : PySem.W.codeIn K cd_p_upper_pairs "upper_pairs" = true) (k_p_upper_pairs : PySem.W.keepIn K (.ref f_p_upper_pairs) = true)
    (a_p_lower_pairs : PySem.W.nsIn K mainGlobals "lower_pairs" = some (some (.ref f_p_lower_pairs))) (l_p_lower_pairs : K.lookup f_p_lower_pairs = some ⟨oc_p_lower_pairs, od_p_lower_pairs, .func (PySem.W.fnOf "lower_pairs" "lower_pairs" (defArgs s_p_lower_pairs) (defBody s_p_lower_pairs) (defScope s_p_lower_pairs) .none kV_p_lower_pairs dc_p_lower_pairs pm_p_lower_pairs an_p_lower_pairs cd_p_lower_pairs ct_p_lower_pairs), sl_p_lower_pairs⟩) (c_p_lower_pairs : PySem.W.codeIn K cd_p_lower_pairs "lower_pairs" = true) (k_p_lower_pairs : PySem.W.keepIn K (.ref f_p_lower_pairs) = true)
    (a_p_other_side : PySem.W.nsIn K mainGlobals "other_side" = some (some (.ref f_p_other_side))) (l_p_other_side : K.lookup f_p_other_side = some ⟨oc_p_other_side, od_p_other_side, .func (PySem.W.fnOf "other_side" "other_side" (defArgs s_p_other_side) (defBody s_p_other_side) (defScope s_p_other_side) .none kV_p_other_side dc_p_other_side pm_p_other_side an_p_other_side cd_p_other_side ct_p_other_side), sl_p_other_side⟩) (c_p_other_side : PySem.W.codeIn K cd_p_other_side "other_side" = true) (k_p_other_side : PySem.W.keepIn K (.ref f_p_other_side) = true)
    (a_p_mirrored : PySem.W.nsIn K mainGlobals "mirrored" = some (some (.ref f_p_mirrored))) (l_p_mirrored : K.lookup f_p_mirrored = some ⟨oc_p_mirrored, od_p_mirrored, .func (PySem.W.fnOf "mirrored" "mirrored" (defArgs s_p_mirrored) (defBody s_p_mirrored) (defScope s_p_mirrored) .none kV_p_mirrored dc_p_mirrored pm_p_mirrored an_p_mirrored cd_p_mirrored ct_p_mirrored), sl_p_mirrored⟩) (c_p_mirrored : PySem.W.codeIn K cd_p_mirrored "mirrored" = true) (k_p_mirrored : PySem.W.keepIn K (.ref f_p_mirrored) = true)
    (a_p_followed_path : PySem.W.nsIn K mainGlobals "followed_path" = some (some (.ref f_p_followed_path))) (l_p_followed_path : K.lookup f_p_followed_path = some ⟨oc_p_followed_path, od_p_followed_path, .func (PySem.W.fnOf "followed_path" "followed_path" (defArgs s_p_followed_path) (defBody s_p_followed_path) (defScope s_p_followed_path) .none kV_p_followed_path dc_p_followed_path pm_p_followed_path an_p_followed_path cd_p_followed_path ct_p_followed_path), sl_p_followed_path⟩) (c_p_followed_path : PySem.W.codeIn K cd_p_followed_path "followed_path" = true) (k_p_followed_path : PySem.W.keepIn K (.ref f_p_followed_path) = true)
    (a_p_result : PySem.W.nsIn K mainGlobals "result" = some (some (.ref f_p_result))) (l_p_result : K.lookup f_p_result = some ⟨oc_p_result, od_p_result, .func (PySem.W.fnOf "result" "result" (defArgs s_p_result) (defBody s_p_result) (defScope s_p_result) .none kV_p_result dc_p_result pm_p_result an_p_result cd_p_result ct_p_result), sl_p_result⟩) (c_p_result : PySem.W.codeIn K cd_p_result "result" = true) (k_p_result : PySem.W.keepIn K (.ref f_p_result) = true)
    (a_p_path : PySem.W.nsIn K mainGlobals "path" = some (some (.ref f_p_path))) (l_p_path : K.lookup f_p_path = some ⟨oc_p_path, od_p_path, .func (PySem.W.fnOf "path" "path" (defArgs s_p_path) (defBody s_p_path) (defScope s_p_path) .none kV_p_path dc_p_path pm_p_path an_p_path cd_p_path ct_p_path), sl_p_path⟩) (c_p_path : PySem.W.codeIn K cd_p_path "path" = true) (k_p_path : PySem.W.keepIn K (.ref f_p_path) = true)
    (a_p_couples_on : PySem.W.nsIn K mainGlobals "couples_on" = some (some (.ref f_p_couples_on))) (l_p_couples_on : K.lookup f_p_couples_on = some ⟨oc_p_couples_on, od_p_couples_on, .func (PySem.W.fnOf "couples_on" "couples_on" (defArgs s_p_couples_on) (defBody s_p_couples_on) (defScope s_p_couples_on) .none kV_p_couples_on dc_p_couples_on pm_p_couples_on an_p_couples_on cd_p_couples_on ct_p_couples_on), sl_p_couples_on⟩) (c_p_couples_on : PySem.W.codeIn K cd_p_couples_on "couples_on" = true) (k_p_couples_on : PySem.W.keepIn K (.ref f_p_couples_on) = true)
    (a_p_loose_people : PySem.W.nsIn K mainGlobals "loose_people" = some (some (.ref f_p_loose_people))) (l_p_loose_people : K.lookup f_p_loose_people = some ⟨oc_p_loose_people, od_p_loose_people, .func (PySem.W.fnOf "loose_people" "loose_people" (defArgs s_p_loose_people) (defBody s_p_loose_people) (defScope s_p_loose_people) .none kV_p_loose_people dc_p_loose_people pm_p_loose_people an_p_loose_people cd_p_loose_people ct_p_loose_people), sl_p_loose_people⟩) (c_p_loose_people : PySem.W.codeIn K cd_p_loose_people "loose_people" = true) (k_p_loose_people : PySem.W.keepIn K (.ref f_p_loose_people) = true)
    (a_p_results_many : PySem.W.nsIn K mainGlobals "results_many" = some (some (.ref f_p_results_many))) (l_p_results_many : K.lookup f_p_results_many = some ⟨oc_p_results_many, od_p_results_many, .func (PySem.W.fnOf "results_many" "results_many" (defArgs s_p_results_many) (defBody s_p_results_many) (defScope s_p_results_many) .none kV_p_results_many dc_p_results_many pm_p_results_many an_p_results_many cd_p_results_many ct_p_results_many), sl_p_results_many⟩) (c_p_results_many : PySem.W.codeIn K cd_p_results_many "results_many" = true) (k_p_results_many : PySem.W.keepIn K (.ref f_p_results_many) = true)
    (a_box : PySem.W.nsIn K mainGlobals "_law_box" = some (some (.ref f_box))) (l_box : K.lookup f_box = some ⟨oc_box, od_box, .func (PySem.W.fnOf "_law_box" "_law_box" (defArgs s_box) (defBody s_box) (defScope s_box) .none kV_box dc_box pm_box an_box cd_box ct_box), sl_box⟩) (c_box : PySem.W.codeIn K cd_box "_law_box" = true) (k_box : PySem.W.keepIn K (.ref f_box) = true)
    (a_take : PySem.W.nsIn K mainGlobals "_law_take" = some (some (.ref f_take))) (l_take : K.lookup f_take = some ⟨oc_take, od_take, .func (PySem.W.fnOf "_law_take" "_law_take" (defArgs s_take) (defBody s_take) (defScope s_take) .none kV_take dc_take pm_take an_take cd_take ct_take), sl_take⟩) (c_take : PySem.W.codeIn K cd_take "_law_take" = true) (k_take : PySem.W.keepIn K (.ref f_take) = true)
    (a_cells : PySem.W.nsIn K mainGlobals "_law_cells" = some (some (.ref f_cells))) (l_cells : K.lookup f_cells = some ⟨oc_cells, od_cells, .func (PySem.W.fnOf "_law_cells" "_law_cells" (defArgs s_cells) (defBody s_cells) (defScope s_cells) .none kV_cells dc_cells pm_cells an_cells cd_cells ct_cells), sl_cells⟩) (c_cells : PySem.W.codeIn K cd_cells "_law_cells" = true) (k_cells : PySem.W.keepIn K (.ref f_cells) = true)
    (a_of : PySem.W.nsIn K mainGlobals "_law_of" = some (some (.ref f_of))) (l_of : K.lookup f_of = some ⟨oc_of, od_of, .func (PySem.W.fnOf "_law_of" "_law_of" (defArgs s_of) (defBody s_of) (defScope s_of) .none kV_of dc_of pm_of an_of cd_of ct_of), sl_of⟩) (c_of : PySem.W.codeIn K cd_of "_law_of" = true) (k_of : PySem.W.keepIn K (.ref f_of) = true)
    (a_strewn : PySem.W.nsIn K mainGlobals "_law_strewn" = some (some (.ref f_strewn))) (l_strewn : K.lookup f_strewn = some ⟨oc_strewn, od_strewn, .func (PySem.W.fnOf "_law_strewn" "_law_strewn" (defArgs s_strewn) (defBody s_strewn) (defScope s_strewn) .none kV_strewn dc_strewn pm_strewn an_strewn cd_strewn ct_strewn), sl_strewn⟩) (c_strewn : PySem.W.codeIn K cd_strewn "_law_strewn" = true) (k_strewn : PySem.W.keepIn K (.ref f_strewn) = true)
    (a_paired : PySem.W.nsIn K mainGlobals "_law_paired" = some (some (.ref f_paired))) (l_paired : K.lookup f_paired = some ⟨oc_paired, od_paired, .func (PySem.W.fnOf "_law_paired" "_law_paired" (defArgs s_paired) (defBody s_paired) (defScope s_paired) .none kV_paired dc_paired pm_paired an_paired cd_paired ct_paired), sl_paired⟩) (c_paired : PySem.W.codeIn K cd_paired "_law_paired" = true) (k_paired : PySem.W.keepIn K (.ref f_paired) = true)
    (a_random : PySem.W.nsIn K mainGlobals "_law_random" = some (some (.ref f_random))) (l_random : K.lookup f_random = some ⟨oc_random, od_random, .func (PySem.W.fnOf "_law_random" "_law_random" (defArgs s_random) (defBody s_random) (defScope s_random) .none kV_random dc_random pm_random an_random cd_random ct_random), sl_random⟩) (c_random : PySem.W.codeIn K cd_random "_law_random" = true) (k_random : PySem.W.keepIn K (.ref f_random) = true)
    (a_any_call : PySem.W.nsIn K mainGlobals "_law_any_call" = some (some (.ref f_any_call))) (l_any_call : K.lookup f_any_call = some ⟨oc_any_call, od_any_call, .func (PySem.W.fnOf "_law_any_call" "_law_any_call" (defArgs s_any_call) (defBody s_any_call) (defScope s_any_call) .none kV_any_call dc_any_call pm_any_call an_any_call cd_any_call ct_any_call), sl_any_call⟩) (c_any_call : PySem.W.codeIn K cd_any_call "_law_any_call" = true) (k_any_call : PySem.W.keepIn K (.ref f_any_call) = true)
    (a_some_calls : PySem.W.nsIn K mainGlobals "_law_some_calls" = some (some (.ref f_some_calls))) (l_some_calls : K.lookup f_some_calls = some ⟨oc_some_calls, od_some_calls, .func (PySem.W.fnOf "_law_some_calls" "_law_some_calls" (defArgs s_some_calls) (defBody s_some_calls) (defScope s_some_calls) .none kV_some_calls dc_some_calls pm_some_calls an_some_calls cd_some_calls ct_some_calls), sl_some_calls⟩) (c_some_calls : PySem.W.codeIn K cd_some_calls "_law_some_calls" = true) (k_some_calls : PySem.W.keepIn K (.ref f_some_calls) = true)
    (a_rounds : PySem.W.nsIn K mainGlobals "_law_rounds" = some (some (.ref f_rounds))) (l_rounds : K.lookup f_rounds = some ⟨oc_rounds, od_rounds, .func (PySem.W.fnOf "_law_rounds" "_law_rounds" (defArgs s_rounds) (defBody s_rounds) (defScope s_rounds) .none kV_rounds dc_rounds pm_rounds an_rounds cd_rounds ct_rounds), sl_rounds⟩) (c_rounds : PySem.W.codeIn K cd_rounds "_law_rounds" = true) (k_rounds : PySem.W.keepIn K (.ref f_rounds) = true)
    (a_hidden : PySem.W.nsIn K mainGlobals "_law_hidden" = some (some (.ref f_hidden))) (l_hidden : K.lookup f_hidden = some ⟨oc_hidden, od_hidden, .func (PySem.W.fnOf "_law_hidden" "_law_hidden" (defArgs s_hidden) (defBody s_hidden) (defScope s_hidden) .none kV_hidden dc_hidden pm_hidden an_hidden cd_hidden ct_hidden), sl_hidden⟩) (c_hidden : PySem.W.codeIn K cd_hidden "_law_hidden" = true) (k_hidden : PySem.W.keepIn K (.ref f_hidden) = true)
    (a_right : PySem.W.nsIn K mainGlobals "_law_right" = some (some (.ref f_right))) (l_right : K.lookup f_right = some ⟨oc_right, od_right, .func (PySem.W.fnOf "_law_right" "_law_right" (defArgs s_right) (defBody s_right) (defScope s_right) .none kV_right dc_right pm_right an_right cd_right ct_right), sl_right⟩) (c_right : PySem.W.codeIn K cd_right "_law_right" = true) (k_right : PySem.W.keepIn K (.ref f_right) = true)
    (a_law : PySem.W.nsIn K mainGlobals "law" = some (some (.ref f_law))) (l_law : K.lookup f_law = some ⟨oc_law, od_law, .func (PySem.W.fnOf "law" "law" (defArgs s_law) (defBody s_law) (defScope s_law) .none kV_law dc_law pm_law an_law cd_law ct_law), sl_law⟩) (c_law : PySem.W.codeIn K cd_law "law" = true) (k_law : PySem.W.keepIn K (.ref f_law) = true)
    (z_range : PySem.W.nsIn K mainGlobals "range" = some none) (z_len : PySem.W.nsIn K mainGlobals "len" = some none) (z_tuple : PySem.W.nsIn K mainGlobals "tuple" = some none) (z_list : PySem.W.nsIn K mainGlobals "list" = some none) (z_min : PySem.W.nsIn K mainGlobals "min" = some none) (z_max : PySem.W.nsIn K mainGlobals "max" = some none) (z_sorted : PySem.W.nsIn K mainGlobals "sorted" = some none) (z_abs : PySem.W.nsIn K mainGlobals "abs" = some none) (z_int : PySem.W.nsIn K mainGlobals "int" = some none) (z_enumerate : PySem.W.nsIn K mainGlobals "enumerate" = some none) (z_all : PySem.W.nsIn K mainGlobals "all" = some none) :
    ∃ fd : FuncData, (∀ (s : Shared) (v : Value), BindsTo s fd ⟨[v], []⟩ [("_law_script", v)]) ∧ ∀ base : Heap, K.In base → base.Ns mainGlobals mg → FnOk l.prog w K mg base CX0 7 fa fd ["_law_script"] (spLaw K) := by
  have e := hfa.symm.trans (PySem.W.mg_of X G a_law)
  cases e
  let T : Env K mg := {
    n_range := PySem.W.mg_none_of X G z_range,
    n_len := PySem.W.mg_none_of X G z_len,
    n_tuple := PySem.W.mg_none_of X G z_tuple,
    n_list := PySem.W.mg_none_of X G z_list,
    n_min := PySem.W.mg_none_of X G z_min,
    n_max := PySem.W.mg_none_of X G z_max,
    n_sorted := PySem.W.mg_none_of X G z_sorted,
    n_abs := PySem.W.mg_none_of X G z_abs,
    n_int := PySem.W.mg_none_of X G z_int,
    n_enumerate := PySem.W.mg_none_of X G z_enumerate,
    n_all := PySem.W.mg_none_of X G z_all,
    f_p_pairings_many := f_p_pairings_many, d_p_pairings_many := _, F_p_pairings_many := fun_mk (st := s_p_pairings_many) l_p_pairings_many c_p_pairings_many k_p_pairings_many, g_p_pairings_many := PySem.W.mg_of X G a_p_pairings_many,
    f_p_check_person := f_p_check_person, d_p_check_person := _, F_p_check_person := fun_mk (st := s_p_check_person) l_p_check_person c_p_check_person k_p_check_person, g_p_check_person := PySem.W.mg_of X G a_p_check_person,
    f_p_check_call := f_p_check_call, d_p_check_call := _, F_p_check_call := fun_mk (st := s_p_check_call) l_p_check_call c_p_check_call k_p_check_call, g_p_check_call := PySem.W.mg_of X G a_p_check_call,
    f_p_check_word := f_p_check_word, d_p_check_word := _, F_p_check_word := fun_mk (st := s_p_check_word) l_p_check_word c_p_check_word k_p_check_word, g_p_check_word := PySem.W.mg_of X G a_p_check_word,
    f_p_join_two := f_p_join_two, d_p_join_two := _, F_p_join_two := fun_mk (st := s_p_join_two) l_p_join_two c_p_join_two k_p_join_two, g_p_join_two := PySem.W.mg_of X G a_p_join_two,
    f_p_people_of := f_p_people_of, d_p_people_of := _, F_p_people_of := fun_mk (st := s_p_people_of) l_p_people_of c_p_people_of k_p_people_of, g_p_people_of := PySem.W.mg_of X G a_p_people_of,
    f_p_check_sizes := f_p_check_sizes, d_p_check_sizes := _, F_p_check_sizes := fun_mk (st := s_p_check_sizes) l_p_check_sizes c_p_check_sizes k_p_check_sizes, g_p_check_sizes := PySem.W.mg_of X G a_p_check_sizes,
    f_p_empty_sheet := f_p_empty_sheet, d_p_empty_sheet := _, F_p_empty_sheet := fun_mk (st := s_p_empty_sheet) l_p_empty_sheet c_p_empty_sheet k_p_empty_sheet, g_p_empty_sheet := PySem.W.mg_of X G a_p_empty_sheet,
    f_p_with_word := f_p_with_word, d_p_with_word := _, F_p_with_word := fun_mk (st := s_p_with_word) l_p_with_word c_p_with_word k_p_with_word, g_p_with_word := PySem.W.mg_of X G a_p_with_word,
    f_p_sheet_of := f_p_sheet_of, d_p_sheet_of := _, F_p_sheet_of := fun_mk (st := s_p_sheet_of) l_p_sheet_of c_p_sheet_of k_p_sheet_of, g_p_sheet_of := PySem.W.mg_of X G a_p_sheet_of,
    f_p_upper_pairs := f_p_upper_pairs, d_p_upper_pairs := _, F_p_upper_pairs := fun_mk (st := s_p_upper_pairs) l_p_upper_pairs c_p_upper_pairs k_p_upper_pairs, g_p_upper_pairs := PySem.W.mg_of X G a_p_upper_pairs,
    f_p_lower_pairs := f_p_lower_pairs, d_p_lower_pairs := _, F_p_lower_pairs := fun_mk (st := s_p_lower_pairs) l_p_lower_pairs c_p_lower_pairs k_p_lower_pairs, g_p_lower_pairs := PySem.W.mg_of X G a_p_lower_pairs,
    f_p_other_side := f_p_other_side, d_p_other_side := _, F_p_other_side := fun_mk (st := s_p_other_side) l_p_other_side c_p_other_side k_p_other_side, g_p_other_side := PySem.W.mg_of X G a_p_other_side,
    f_p_mirrored := f_p_mirrored, d_p_mirrored := _, F_p_mirrored := fun_mk (st := s_p_mirrored) l_p_mirrored c_p_mirrored k_p_mirrored, g_p_mirrored := PySem.W.mg_of X G a_p_mirrored,
    f_p_followed_path := f_p_followed_path, d_p_followed_path := _, F_p_followed_path := fun_mk (st := s_p_followed_path) l_p_followed_path c_p_followed_path k_p_followed_path, g_p_followed_path := PySem.W.mg_of X G a_p_followed_path,
    f_p_result := f_p_result, d_p_result := _, F_p_result := fun_mk (st := s_p_result) l_p_result c_p_result k_p_result, g_p_result := PySem.W.mg_of X G a_p_result,
    f_p_path := f_p_path, d_p_path := _, F_p_path := fun_mk (st := s_p_path) l_p_path c_p_path k_p_path, g_p_path := PySem.W.mg_of X G a_p_path,
    f_p_couples_on := f_p_couples_on, d_p_couples_on := _, F_p_couples_on := fun_mk (st := s_p_couples_on) l_p_couples_on c_p_couples_on k_p_couples_on, g_p_couples_on := PySem.W.mg_of X G a_p_couples_on,
    f_p_loose_people := f_p_loose_people, d_p_loose_people := _, F_p_loose_people := fun_mk (st := s_p_loose_people) l_p_loose_people c_p_loose_people k_p_loose_people, g_p_loose_people := PySem.W.mg_of X G a_p_loose_people,
    f_p_results_many := f_p_results_many, d_p_results_many := _, F_p_results_many := fun_mk (st := s_p_results_many) l_p_results_many c_p_results_many k_p_results_many, g_p_results_many := PySem.W.mg_of X G a_p_results_many,
    f_box := f_box, d_box := _, F_box := fun_mk (st := s_box) l_box c_box k_box, g_box := PySem.W.mg_of X G a_box,
    f_take := f_take, d_take := _, F_take := fun_mk (st := s_take) l_take c_take k_take, g_take := PySem.W.mg_of X G a_take,
    f_cells := f_cells, d_cells := _, F_cells := fun_mk (st := s_cells) l_cells c_cells k_cells, g_cells := PySem.W.mg_of X G a_cells,
    f_of := f_of, d_of := _, F_of := fun_mk (st := s_of) l_of c_of k_of, g_of := PySem.W.mg_of X G a_of,
    f_strewn := f_strewn, d_strewn := _, F_strewn := fun_mk (st := s_strewn) l_strewn c_strewn k_strewn, g_strewn := PySem.W.mg_of X G a_strewn,
    f_paired := f_paired, d_paired := _, F_paired := fun_mk (st := s_paired) l_paired c_paired k_paired, g_paired := PySem.W.mg_of X G a_paired,
    f_random := f_random, d_random := _, F_random := fun_mk (st := s_random) l_random c_random k_random, g_random := PySem.W.mg_of X G a_random,
    f_any_call := f_any_call, d_any_call := _, F_any_call := fun_mk (st := s_any_call) l_any_call c_any_call k_any_call, g_any_call := PySem.W.mg_of X G a_any_call,
    f_some_calls := f_some_calls, d_some_calls := _, F_some_calls := fun_mk (st := s_some_calls) l_some_calls c_some_calls k_some_calls, g_some_calls := PySem.W.mg_of X G a_some_calls,
    f_rounds := f_rounds, d_rounds := _, F_rounds := fun_mk (st := s_rounds) l_rounds c_rounds k_rounds, g_rounds := PySem.W.mg_of X G a_rounds,
    f_hidden := f_hidden, d_hidden := _, F_hidden := fun_mk (st := s_hidden) l_hidden c_hidden k_hidden, g_hidden := PySem.W.mg_of X G a_hidden,
    f_right := f_right, d_right := _, F_right := fun_mk (st := s_right) l_right c_right k_right, g_right := PySem.W.mg_of X G a_right }
  exact ⟨PySem.W.fnOf "law" "law" (defArgs s_law) (defBody s_law) (defScope s_law) .none kV_law dc_law pm_law an_law cd_law ct_law, fun s v => .of_eq rfl, fun base _ _ => ok_law T (fun_mk (st := s_law) l_law c_law k_law)⟩
end Pc
open PySem PySem.W PyProof.Rows
set_option maxHeartbeats 0 in
theorem PySem.Challenge.cw_partnercall_k34_whole_words_turned_about_holds : PySem.Challenge.rw_partnercall_k34_whole_words_turned_about.Holds := by
  w_on; o_law; k_head; (case hw => w_witness2)
  k_fill
  refine L2.walk_of (l := PySem.Challenge.rw_partnercall_k34_whole_words_turned_about) (n := 63) (k := 7) (x := "_law_script") (CX := fun _ => L2.CX0) (sp := fun w => Pc.spLaw _) rfl (by decide) rfl ⟨rfl, by decide, by decide⟩ (fun w h Y => PySem.W.kIn_of Y) ?F (fun _ _ a ns hl _ hS => ⟨a, ns, rfl, hS, hl, fun _ => rfl⟩) (fun _ _ _ _ _ h => h)
  case F =>
    intro w mg fa h KX G hmg
    refine' Pc.all_mk KX G hmg ?a_p_pairings_many ?l_p_pairings_many ?c_p_pairings_many ?k_p_pairings_many ?a_p_check_person ?l_p_check_person ?c_p_check_person ?k_p_check_person ?a_p_check_call ?l_p_check_call ?c_p_check_call ?k_p_check_call ?a_p_check_word ?l_p_check_word ?c_p_check_word ?k_p_check_word ?a_p_join_two ?l_p_join_two ?c_p_join_two ?k_p_join_two ?a_p_people_of ?l_p_people_of ?c_p_people_of ?k_p_people_of ?a_p_check_sizes ?l_p_check_sizes ?c_p_check_sizes ?k_p_check_sizes ?a_p_empty_sheet ?l_p_empty_sheet ?c_p_empty_sheet ?k_p_empty_sheet ?a_p_with_word ?l_p_with_word ?c_p_with_word ?k_p_with_word ?a_p_sheet_of ?l_p_sheet_of ?c_p_sheet_of ?k_p_sheet_of ?a_p_upper_pairs ?l_p_upper_pairs ?c_p_upper_pairs ?k_p_upper_pairs ?a_p_lower_pairs ?l_p_lower_pairs ?c_p_lower_pairs ?k_p_lower_pairs ?a_p_other_side ?l_p_other_side ?c_p_other_side ?k_p_other_side ?a_p_mirrored ?l_p_mirrored ?c_p_mirrored ?k_p_mirrored ?a_p_followed_path ?l_p_followed_path ?c_p_followed_path ?k_p_followed_path ?a_p_result ?l_p_result ?c_p_result ?k_p_result ?a_p_path ?l_p_path ?c_p_path ?k_p_path ?a_p_couples_on ?l_p_couples_on ?c_p_couples_on ?k_p_couples_on ?a_p_loose_people ?l_p_loose_people ?c_p_loose_people ?k_p_loose_people ?a_p_results_many ?l_p_results_many ?c_p_results_many ?k_p_results_many ?a_box ?l_box ?c_box ?k_box ?a_take ?l_take ?c_take ?k_take ?a_cells ?l_cells ?c_cells ?k_cells ?a_of ?l_of ?c_of ?k_of ?a_strewn ?l_strewn ?c_strewn ?k_strewn ?a_paired ?l_paired ?c_paired ?k_paired ?a_random ?l_random ?c_random ?k_random ?a_any_call ?l_any_call ?c_any_call ?k_any_call ?a_some_calls ?l_some_calls ?c_some_calls ?k_some_calls ?a_rounds ?l_rounds ?c_rounds ?k_rounds ?a_hidden ?l_hidden ?c_hidden ?k_hidden ?a_right ?l_right ?c_right ?k_right ?a_law ?l_law ?c_law ?k_law ?z_range ?z_len ?z_tuple ?z_list ?z_min ?z_max ?z_sorted ?z_abs ?z_int ?z_enumerate ?z_all
    (case a_p_pairings_many => k_is); (case l_p_pairings_many => k_is); (case c_p_pairings_many => k_is); (case k_p_pairings_many => k_is); (case a_p_check_person => k_is); (case l_p_check_person => k_is); (case c_p_check_person => k_is); (case k_p_check_person => k_is); (case a_p_check_call => k_is); (case l_p_check_call => k_is); (case c_p_check_call => k_is); (case k_p_check_call => k_is); (case a_p_check_word => k_is); (case l_p_check_word => k_is); (case c_p_check_word => k_is); (case k_p_check_word => k_is); (case a_p_join_two => k_is); (case l_p_join_two => k_is); (case c_p_join_two => k_is); (case k_p_join_two => k_is); (case a_p_people_of => k_is); (case l_p_people_of => k_is); (case c_p_people_of => k_is); (case k_p_people_of => k_is); (case a_p_check_sizes => k_is); (case l_p_check_sizes => k_is); (case c_p_check_sizes => k_is); (case k_p_check_sizes => k_is); (case a_p_empty_sheet => k_is); (case l_p_empty_sheet => k_is); (case c_p_empty_sheet => k_is); (case k_p_empty_sheet => k_is); (case a_p_with_word => k_is); (case l_p_with_word => k_is); (case c_p_with_word => k_is); (case k_p_with_word => k_is); (case a_p_sheet_of => k_is); (case l_p_sheet_of => k_is); (case c_p_sheet_of => k_is); (case k_p_sheet_of => k_is); (case a_p_upper_pairs => k_is); (case l_p_upper_pairs => k_is); (case c_p_upper_pairs => k_is); (case k_p_upper_pairs => k_is); (case a_p_lower_pairs => k_is); (case l_p_lower_pairs => k_is); (case c_p_lower_pairs => k_is); (case k_p_lower_pairs => k_is); (case a_p_other_side => k_is); (case l_p_other_side => k_is); (case c_p_other_side => k_is); (case k_p_other_side => k_is); (case a_p_mirrored => k_is); (case l_p_mirrored => k_is); (case c_p_mirrored => k_is); (case k_p_mirrored => k_is); (case a_p_followed_path => k_is); (case l_p_followed_path => k_is); (case c_p_followed_path => k_is); (case k_p_followed_path => k_is); (case a_p_result => k_is); (case l_p_result => k_is); (case c_p_result => k_is); (case k_p_result => k_is); (case a_p_path => k_is); (case l_p_path => k_is); (case c_p_path => k_is); (case k_p_path => k_is); (case a_p_couples_on => k_is); (case l_p_couples_on => k_is); (case c_p_couples_on => k_is); (case k_p_couples_on => k_is); (case a_p_loose_people => k_is); (case l_p_loose_people => k_is); (case c_p_loose_people => k_is); (case k_p_loose_people => k_is); (case a_p_results_many => k_is); (case l_p_results_many => k_is); (case c_p_results_many => k_is); (case k_p_results_many => k_is); (case a_box => k_is); (case l_box => k_is); (case c_box => k_is); (case k_box => k_is); (case a_take => k_is); (case l_take => k_is); (case c_take => k_is); (case k_take => k_is); (case a_cells => k_is); (case l_cells => k_is); (case c_cells => k_is); (case k_cells => k_is); (case a_of => k_is); (case l_of => k_is); (case c_of => k_is); (case k_of => k_is); (case a_strewn => k_is); (case l_strewn => k_is); (case c_strewn => k_is); (case k_strewn => k_is); (case a_paired => k_is); (case l_paired => k_is); (case c_paired => k_is); (case k_paired => k_is); (case a_random => k_is); (case l_random => k_is); (case c_random => k_is); (case k_random => k_is); (case a_any_call => k_is); (case l_any_call => k_is); (case c_any_call => k_is); (case k_any_call => k_is); (case a_some_calls => k_is); (case l_some_calls => k_is); (case c_some_calls => k_is); (case k_some_calls => k_is); (case a_rounds => k_is); (case l_rounds => k_is); (case c_rounds => k_is); (case k_rounds => k_is); (case a_hidden => k_is); (case l_hidden => k_is); (case c_hidden => k_is); (case k_hidden => k_is); (case a_right => k_is); (case l_right => k_is); (case c_right => k_is); (case k_right => k_is); (case a_law => k_is); (case l_law => k_is); (case c_law => k_is); (case k_law => k_is); (case z_range => k_is); (case z_len => k_is); (case z_tuple => k_is); (case z_list => k_is); (case z_min => k_is); (case z_max => k_is); (case z_sorted => k_is); (case z_abs => k_is); (case z_int => k_is); (case z_enumerate => k_is); (case z_all => k_is)
