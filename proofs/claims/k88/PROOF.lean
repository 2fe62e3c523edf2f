import PyProof.Rows.All
import Wide.All
import OpenK.AllK
import Wide.FinOn
import HandS.ForMost
import HandS.IsInst
import HandS.Zip
import HandS.Style
import HandS.Walk
import HandS.Flow
import HandS.Conv
import HandS.RaiseMore
import HandS.NoneIn
import HandS.WordsList
import HandS.Deep
import HandS.Exc
import HandS.ExcOwn
import HandS.WordsExc
import HandS.ExcInit
import HandS.ExcIs
import KE.KExcIs
import KE.KExcInit
import KE.KTryMore
import HandS.SortRule
import HandS.SortInts
import HandS.Strs
import HandS.Wide
import HandS.DictComp
import PySem.Challenge.RW_partnercall_k88_known_sheets_and_rounds
set_option Elab.async false
set_option linter.all false
set_option maxRecDepth 100000
set_option maxHeartbeats 4000000
namespace RZ
end RZ
namespace Pc
open PySem PySem.Spec PyProof.Rows L2 RZ
/-! ### heaps -/
/-- all that was tracked, but for b, is as it was -/
def Keep (b : Addr) (H H' : Hp) : Prop := ∀ a o, a ≠ b → H a = some o → H' a = some o
theorem Keep.refl (b : Addr) (H : Hp) : Keep b H H := fun _ _ _ h => h
theorem Keep.trans {b : Addr} {H H1 H2 : Hp} (p : Keep b H H1) (q : Keep b H1 H2) : Keep b H H2 := fun a o n h => q a o n (p a o n h)
theorem Keep.of_same {b : Addr} {H H' : Hp} (s : Same H H') : Keep b H H' := fun a o _ h => s a o h
theorem same_new {H : Hp} {p : Addr} {o : HO} (h : H p = none) : Same H (upd H p o) := fun b x e => by
  rw [upd_ne (ne_of_none e h)]; exact e
theorem keep_upd {H : Hp} {b : Addr} {o : HO} : Keep b H (upd H b o) := fun a x n e => by
  rw [upd_ne n]; exact e
/-- a list, a tuple under Keep -/
theorem Keep.tup {b : Addr} {H H' : Hp} (k : Keep b H H') {a : Addr} {xs ys : List V} (hb : H b = some (.lst ys)) (h : H a = some (.tup xs)) : H' a = some (.tup xs) :=
  k a _ (fun e => by rw [e, hb] at h; cases h) h
/-! ### small numbers -/
theorem one0 (c : Prop) [Decidable c] : (0 : Int) ≤ (if c then 1 else 0) ∧ (if c then (1 : Int) else 0) ≤ 1 := by
  split <;> decide
theorem in64 {i : Int} (h : 0 ≤ i ∧ i ≤ 1) : -(2 ^ 64) < i ∧ i < 2 ^ 64 := ⟨by omega, by omega⟩
/-! ### the source of draws -/
/-- at b a source that serves n more draws -/
def Box (n : Nat) (H : Hp) (b : Addr) : Prop := ∃ x y z : Int, H b = some (.lst [.int x, .int y, .int z]) ∧ 0 ≤ x ∧ 0 ≤ y ∧ y < 2 ^ 62 ∧ 0 ≤ z ∧ z + n ≤ 1000000000
theorem Box.lst {n : Nat} {H : Hp} {b : Addr} (h : Box n H b) : ∃ ys, H b = some (.lst ys) := let ⟨_, _, _, e, _⟩ := h; ⟨_, e⟩
theorem Box.mono {n m : Nat} {H : Hp} {b : Addr} (h : Box n H b) (l : m ≤ n) : Box m H b := by
  obtain ⟨x, y, z, e, h1, h2, h3, h4, h5⟩ := h
  exact ⟨x, y, z, e, h1, h2, h3, h4, by omega⟩
theorem Box.same {n : Nat} {H H' : Hp} {b : Addr} (h : Box n H b) (s : Same H H') : Box n H' b := by
  obtain ⟨x, y, z, e, r⟩ := h
  exact ⟨x, y, z, s _ _ e, r⟩
theorem Box.keep {n : Nat} {H H' : Hp} {b c : Addr} (h : Box n H b) (k : Keep c H H') (d : b ≠ c) : Box n H' b := by
  obtain ⟨x, y, z, e, r⟩ := h
  exact ⟨x, y, z, k _ _ d e, r⟩
theorem Box.ne_new {n : Nat} {H : Hp} {b p : Addr} (h : Box n H b) (np : H p = none) : b ≠ p := by
  obtain ⟨x, y, z, e, r⟩ := h
  exact ne_of_none e np
theorem Box.ne_tup {n : Nat} {H : Hp} {b p : Addr} {xs : List V} (h : Box n H b) (e2 : H p = some (.tup xs)) : p ≠ b := by
  obtain ⟨x, y, z, e, r⟩ := h
  intro q; rw [q, e] at e2; cases e2
end Pc
namespace Pc
open PySem PySem.Spec PyProof.Rows L2 RZ
/-! ### errors of the program: made -/
section
open PySem.W Builtin Builtin.ObjectAttr
variable {prog : Program} {w : World} {A : Around} {R : Result → Shared → Prop} {hp : Heap} {g : Array GenState} {d : Drawn} {t : Nat} {os : OsState} {B : String} {bmB : List Value}
/-- the first field of an error that has no dict yet -/
theorem osa_first {K : Frag} {f : Str} {tk : Tok} {v : Value} {x C : Addr} {fv : Array Value} {cd : ClassData} (SF : StoreFacts B bmB "object.__setattr__" "object") (X : K.In hp)
    (hx : hp.get? x = some { cls := .ref C, data := .fields fv }) (hcd : clsIn K C = some cd) (ho : excOver K C bmB = true) (hh : cd.hasDict = true) (hf : takerIn K C f = some none)
    (hq : ∀ h' tk' dx, (∀ b o, b ≠ x → hp.get? b = some o → h'.get? b = some o) → hp.objs.size ≤ dx → dx ≠ x →
      h'.get? x = some { cls := .ref C, dict := some dx, data := .fields fv } → h'.Ns1 dx (fun y => if y = f then some v else none) → R (.ok (.ret .none)) ⟨h', g, d, tk', os⟩) :
    codeAny (model prog w) A (.call (.builtin "object.__setattr__") ⟨[.ref x, .str f tk, v], []⟩) R ⟨hp, g, d, t, os⟩ := by
  have hne : x ≠ hp.objs.size := fun e => absurd (Heap.lt_size hx) (by rw [← e]; exact Nat.lt_irrefl x)
  have LC : Looks (model prog w) hp (classData C) cd := looks_clsIn X hcd
  refine osa_openX (s := ⟨hp, g, d, t, os⟩) (od := none) SF X ⟨hx, rfl, rfl, trivial⟩ ho hf fun b => ?_
  obtain ⟨c1, c2, c3, c4, c5, c6, c7, c8, c9, c10, c11⟩ := cd
  dsimp only at hh; subst hh
  dsimp only
  unfold storeInOwnDict ownDictForStores
  repeat (first | with_reducible refine HandSPX.store_in_new ?_ ?_ | with_reducible refine wpAny_loadPart_at hx ?_ | with_reducible refine LC.at ?_ | wp_step)
  · exact ⟨_, #[], _, (Heap.get?_update_ne _ _ _ _ hne.symm).trans (Heap.get?_push_at rfl rfl), rfl, fun e he => absurd he (by simp), fun _ => rfl⟩
  · intro h' tk' n1 n2
    refine hq h' tk' hp.objs.size (fun b o q r => ?_) (Nat.le_refl _) hne.symm ?_ n1
    · exact (n2.2 b (Nat.ne_of_lt (Heap.lt_size r))).trans ((Heap.get?_update_ne _ _ _ _ q).trans (Heap.get?_push_of_some _ r))
    · exact (n2.2 x hne).trans (Heap.get?_update_self _ (Heap.get?_push_of_some _ hx) rfl)
end
/-- what is known of a built-in error class -/
structure Bs (B newId initId : String) (bmB : List Value) : Prop where
  fb : ExcBaseFacts B newId initId bmB
  sf : StoreFacts B bmB "object.__setattr__" "object"
theorem bsV : Bs "ValueError" "ValueError.__new__" "ValueError.__init__" [.type "ValueError", .type "Exception", .type "BaseException", .type "object"] := ⟨F.excBase_ValueError, F.store_ValueError⟩
theorem bsL : Bs "LookupError" "LookupError.__new__" "LookupError.__init__" [.type "LookupError", .type "Exception", .type "BaseException", .type "object"] := ⟨F.excBase_LookupError, F.store_LookupError⟩
theorem bsR : Bs "RuntimeError" "RuntimeError.__new__" "RuntimeError.__init__" [.type "RuntimeError", .type "Exception", .type "BaseException", .type "object"] := ⟨F.excBase_RuntimeError, F.store_RuntimeError⟩
theorem bsO : Bs "OverflowError" "OverflowError.__new__" "OverflowError.__init__" [.type "OverflowError", .type "ArithmeticError", .type "Exception", .type "BaseException", .type "object"] := ⟨F.excBase_OverflowError, F.store_OverflowError⟩
/-- an error class of the program, straight over a built-in one -/
structure Own (K : PySem.W.Frag) (newId : String) (bmB : List Value) (C : Addr) : Prop where
  cls : ∃ nm q N bs sn sub ab col dd k0 k1 k2 k3 k5, K.lookup C = some (excClassObj nm q C N bs bmB true sn sub ab col dd k0 k1 k2 k3 k5 newId)
  over : PySem.W.excOver K C bmB = true
  sa : PySem.W.findIn K (.ref C) "__setattr__" = some (some (.builtin "object.__setattr__"))
  ga : PySem.W.findIn K (.ref C) "__getattribute__" = some (some (.builtin "BaseException.__getattribute__"))
  gg : PySem.W.findIn K (.ref C) "__getattr__" = some none
  exC : PySem.W.subIn K (.ref C) (.type "BaseException") = some true
  tyC : PySem.W.typeIn K (.ref C) = some (.type "type")
  kC : PySem.W.keepIn K (.ref C) = true
  hdC : PySem.W.hasDictIn K C = true
  clC : PySem.W.findIn K (.ref C) "__class__" = some (some (.builtin "object.__class__"))
  mrO : PySem.W.mroIn K C (.type "object") = some true
theorem Own.data {K : PySem.W.Frag} {newId : String} {bmB : List Value} {C : Addr} (T : Own K newId bmB C) : ∃ cd, PySem.W.clsIn K C = some cd ∧ cd.hasDict = true := by
  obtain ⟨nm, q, N, bs, sn, sub, ab, col, dd, k0, k1, k2, k3, k5, e⟩ := T.cls
  refine ⟨{ name := nm, bases := bs, mro := .ref C :: bmB, ns := N, qualname := q, hasDict := true, slotNames := sn, subclasses := sub, abstract := ab, collection := col, hasDel := false }, ?_, rfl⟩
  unfold PySem.W.clsIn
  rw [e] <;> rfl
theorem taker_of {K : PySem.W.Frag} {C : Addr} {f : Str} (h : PySem.W.findIn K (.ref C) f = some none) : PySem.W.takerIn K C f = some none := by
  unfold PySem.W.takerIn
  rw [h]; rfl
section
variable {X : Cx} {pins : List (Addr × Obj)} {σ : L2.St} {H H1 H2 : Hp} {s : Shared} {a C dx : Addr} {f : Str} {newId initId B : String} {bmB : List Value}
/-- an object that stands in the heap, untracked and not of the entry, is tracked from now on -/
theorem adopt {o : HO} (I : Inv X pins σ H s) (hn : H a = none) (n0 : X.s_0.heap.get? a = none) (nL : a ≠ X.env.locals) (nC : ∀ x c, X.env.cells.lookup x = some c → c ≠ a) (nP : ∀ p ∈ X.pn ++ pins, p.1 ≠ a)
    (new : ObjOk X.prog X.w (upd H a o) s.heap a o) : Inv X pins σ (upd H a o) s := by
  have up : ∀ {b : Addr} {u : HO}, H b = some u → upd H a o b = some u := fun {b u} e => by rw [upd_ne (ne_of_none e hn)]; exact e
  refine ⟨I.ok, I.os, I.bare, ⟨I.base.keep, I.base.slot, fun b q e n x => ?_, I.base.there, fun b xs e => up (I.base.tups b xs e), fun b q u e => up (I.base.frzs b q u e), fun b ps e => ?_⟩, I.loc, I.cell, ?_, fun x c e => ?_, fun p hp => ?_, fun b u e => ?_, I.len⟩
  · rw [upd_ne (fun z => by rw [z, n0] at e; cases e)]
    exact I.base.free b q e n x
  · obtain ⟨m, z⟩ := I.base.tbls b ps e
    exact ⟨m, up z⟩
  · rw [upd_ne (Ne.symm nL)]; exact I.free
  · rw [upd_ne (nC x c e)]; exact I.freeC x c e
  · obtain ⟨e, n, r⟩ := I.pin p hp
    exact ⟨e, by rw [upd_ne (nP p hp)]; exact n, r⟩
  · by_cases hb : b = a
    · subst hb
      rw [upd_same] at e; cases e
      exact new
    · rw [upd_ne hb] at e
      exact (I.hok b u e).stay (fun _ _ _ z => z) (fun c z => up z) (fun c xs z => up z)
theorem low_ne {n : Nat} {b a : Addr} (h : b < n) (h' : n ≤ a) : b ≠ a := Nat.ne_of_lt (Nat.lt_of_lt_of_le h h')
theorem get_lt_size {h : Heap} {b : Addr} {o : Obj} (e : h.get? b = some o) : b < h.objs.size := Heap.lt_size e
/-- self.f = y -/
theorem ost_one {y : V} {u : Value} {Q : Unit → Shared → Prop} {E : Value → Shared → Prop} {A : Around} (T : Own X.K newId bmB C) (SF : StoreFacts B bmB "object.__setattr__" "object") (I : Inv X pins σ H s) (e : H a = some (exo a C none)) (hno : PySem.W.findIn X.K (.ref C) f = some none) (ry : RelV y u)
    (h : ∀ dx s', H dx = none → dx ≠ a → Inv X pins σ (upd (upd H a (exo a C (some dx))) dx (exd dx [(f, y)])) s' → Q () s') : wpAny (model X.prog X.w) A (setAttr (.ref a) f u) Q E s := by
  obtain ⟨cd, hcd, hh⟩ := T.data
  obtain ⟨t1, ho⟩ := exo_at I.hok e
  obtain ⟨hp, g, d, t, os⟩ := s
  refine PySem.W.set_plain I.kIn (ox := { cls := .ref C, dict := none, data := .fields #[.ref t1, .none, .none, .none, .bool false, .none] }) (od := none) ⟨ho, rfl, rfl, trivial⟩ T.sa ?_
  refine osa_first SF I.kIn ho hcd T.over hh (taker_of hno) fun h' tk' dx k dn dne hx hns => ?_
  have hnd : H dx = none := I.hok.fresh dn
  have J := I.write (t' := tk') (x := a) (e := a) (o := exo a C (some dx)) (by rw [e]; exact True.intro) (.inl rfl) k ⟨_, hx⟩ (exo_ok hx)
  refine h dx _ hnd dne (adopt J (by rw [upd_ne dne]; exact hnd) ?_ ?_ ?_ ?_ (exd_ok hns (relO_put (fs := []) ry fun _ => True.intro)))
  · cases z : X.s_0.heap.get? dx with
    | none => rfl
    | some o => exact absurd rfl (low_ne (Nat.lt_of_lt_of_le (Heap.lt_size z) I.sz) dn)
  · exact Ne.symm (low_ne I.lt dn)
  · intro x c ec
    obtain ⟨v, ob, eo, _⟩ := I.cell x c ec
    exact low_ne (Heap.lt_size eo) dn
  · intro p hp'
    exact low_ne (Heap.lt_size (I.pin p hp').1) dn
/-- B.__init__(self, ..) -/
theorem oinit_any {us : List Value} {Q : Value → Shared → Prop} {E : Value → Shared → Prop} {A : Around} (T : Own X.K newId bmB C) (F : ExcBaseFacts B newId initId bmB) (I : Inv X pins σ H s) (e : H a = some (exo a C none)) (hl : us.length ≤ sizeLine) (h : ∀ s', Inv X pins σ H s' → Q .none s') :
    wpAny (model X.prog X.w) A (call (.builtin initId) (.ref a :: us)) Q E s := by
  obtain ⟨nm, q, N, bs, sn, sub, ab, col, dd, k0, k1, k2, k3, k5, hC⟩ := T.cls
  obtain ⟨t1, ho⟩ := exo_at I.hok e
  obtain ⟨hp, g, d, t, os⟩ := s
  refine wpAny_call (HandSPX.init_base F (fun _ => rfl) (I.kIn _ _ hC) ho hl fun h' t2 k hx => ?_)
  have J := I.write (t' := t) (x := a) (e := a) (o := exo a C none) (by rw [e]; exact True.intro) (.inl rfl) k ⟨_, hx⟩ (exo_ok hx)
  have eu : upd H a (exo a C none) = H := by
    funext b
    unfold upd
    split
    · rename_i z; rw [z, e]
    · rfl
  rw [eu] at J
  exact h _ J
def tBi (K : PySem.W.Frag) (newId : String) (bmB : List Value) (ta : TA) : TE := fun σ H Q => ta σ H fun vs H1 => ∃ (a C : Addr) (ws : List V), vs = .ref a :: ws ∧ ws.length ≤ 1000 ∧ Own K newId bmB C ∧ H1 a = some (exo a C none) ∧ Q .non H1
def tOs (K : PySem.W.Frag) (newId : String) (bmB : List Value) (f : Str) (to te : TE) : TS := fun D σ H => te σ H fun y H1 => to σ H1 fun x H2 => ∃ a C : Addr, x = .ref a ∧ Own K newId bmB C ∧ PySem.W.findIn K (.ref C) f = some none ∧ H2 a = some (exo a C none) ∧
  ∀ dx, H2 dx = none → dx ≠ a → D.nx σ (upd (upd H2 a (exo a C (some dx))) dx (exd dx [(f, y)]))
theorem pe_binit {n : Str} {o e : Expr} {es : List Expr} {ta : TA} {p1 p2 pos : Pos} {pl : Sem Bool} (F : ExcBaseFacts B newId initId bmB) (hg : Gl X n) (hm : X.mg n = none) (hv : bootBuiltins n = some (.type B)) (hn : n ≠ "__name__") (hdb : (n == ("__debug__" : Str)) = false)
    (hty : typeOf (.type B) = pure (.type "type")) (hst : Manifest.isStub B = false) (hha : PySem.W.handedIn (.builtin initId) = true) (vV : PySem.W.findCls X.K (.type B) (.type "type") "__init__" = some (.val (.builtin initId))) (ha : PA X (e :: es) ta)
    (hc : eval (.Call (.Attribute (.Name n p1) "__init__" p2) (e :: es) [] pos) X.env = (do
      let ov ← eval (.Name n p1) X.env
      standAt p2.atName
      let (f, first) ← holding [ov] (getMethod ov "__init__" pl)
      callWith pos f first (backTo pos (starEach (e :: es) X.env)) (backToKw pos (keywordEach [] X.env))) := by rfl)
    (he : starEach (e :: es) X.env = (false, eval e X.env) :: starEach es X.env := by rfl) (hpl : (backTo pos (starEach es X.env)).any (·.1) = false := by rfl) :
    PE X (.Call (.Attribute (.Name n p1) "__init__" p2) (e :: es) [] pos) (tBi X.K newId bmB ta) := by
  refine ⟨fun pins s σ H Q I h => PySem.W.methodCall_KW (ld_blt I hg hm hv ?_ hn hdb) hc⟩
  obtain ⟨m, fr⟩ := I.fr
  refine PySem.W.method_type fr I.ok.mod.kin hty hst vV hha ?_
  show wpAny _ _ (callWith pos (Value.builtin initId) [] (backTo pos (starEach (e :: es) X.env)) []) _ _ _
  refine PyProof.Rows.callWith_method1 (thn (ha.run pos pins _ σ H _ (I.tok _) h) fun us s1 ⟨vs, H1, I1, r1, a, C, ws, ev, hl, T, ea, q⟩ => ?_) he hpl
  subst ev
  cases r1 with
  | @cons _ u0 _ ur ra rr =>
    obtain rfl : u0 = Value.ref a := ra
    exact oinit_any T F I1 ea (by rw [← Paired.length rr, sizeLine_eq]; omega) fun s' J => ⟨.non, H1, J, rfl, q⟩
theorem ps_os {o e : Expr} {to te : TE} {p' pos : Pos} (SF : StoreFacts B bmB "object.__setattr__" "object") (ho : PE X o to) (he : PE X e te) (hs : swapsWith e (some (.Attribute o f p')) pos.line X.env = pure false := by rfl) : PS X (.Assign [.Attribute o f p'] e pos) (tOs X.K newId bmB f to te) := by
  refine ⟨fun pins s σ H D I h => plainObj_wpAny_Assign_Attribute (thn (he.run pins s σ H _ I h) fun v s1 ⟨y, H1, I1, r1, q1⟩ => thn (ho.run pins s1 σ H1 _ I1 q1) fun u s2 ⟨x, H2, I2, r2, a, C, ex, T, hno, ea, q⟩ => ?_) hs⟩
  subst ex
  obtain rfl : u = Value.ref a := r2
  exact ost_one T SF I2 ea hno r1 fun dx s' n ne J => ⟨σ, _, J, q dx n ne⟩
/-- the new error is let go: the heap without it -/
theorem mk_gone {hp hp2 h2 : Heap} {g1 g2 : Array GenState} {d1 d2 : Drawn} {t1 t2 : Nat} {os1 os2 : OsState} {dv : Option Addr} (I1 : Inv X pins σ H1 ⟨hp, g1, d1, t1, os1⟩)
    (ha : hp.objs.size ≤ a) (k : ∀ b o, hp.get? b = some o → hp2.get? b = some o) (un : Un (frs X.stack) [] (upd H1 a (exo a C none)) H2 hp2 h2) (hok : HOk X.prog X.w H2 h2) (ho : os2 = os1) (hb : AllBare g2) (ea : H2 a = some (exo a C dv)) :
    ∃ (t0 : Addr) (G : Heap), Inv X pins σ (del H2 a) ⟨G, g2, d2, t2, os2⟩ ∧ (∀ b o, G.get? b = some o → h2.get? b = some o) ∧ G.get? a = none ∧
      h2.get? a = some ({ cls := .ref C, dict := dv, data := .fields #[.ref t0, .none, .none, .none, .bool false, .none] } : Obj) := by
  obtain ⟨t0, hoe⟩ := exo_at hok ea
  have hn : H1 a = none := I1.hok.fresh ha
  obtain ⟨G, g1', g2'⟩ := restrict h2 fun b => decide (b ≠ a)
  have gk : ∀ b, b ≠ a → G.get? b = h2.get? b := fun b q => g1' b (decide_eq_true q)
  have ga : G.get? a = none := g2' a (decide_eq_false (fun z => z rfl))
  have na : ∀ {b : Addr} {o : Obj}, hp.get? b = some o → b ≠ a := fun q => low_ne (Heap.lt_size q) ha
  have up : ∀ {b : Addr}, b ≠ a → H1 b = none → upd H1 a (exo a C none) b = none := fun q n => by rw [upd_ne q]; exact n
  have tr : ∀ {b : Addr} {u : HO}, H1 b = some u → upd H1 a (exo a C none) b = some u ∧ b ≠ a := fun q => ⟨by rw [upd_ne (ne_of_none q hn)]; exact q, ne_of_none q hn⟩
  have U : Un (frs X.stack) [] H1 (del H2 a) hp G := {
    keep := fun b o z n hf hx => by rw [gk b (na z)]; exact un.keep b o (k b o z) (up (na z) n) hf hx
    slot := fun b o z n hf hx => by rw [gk b (na z)]; exact un.slot b o (k b o z) (up (na z) n) hf hx
    free := fun b o z n hx => by rw [del_ne (na z)]; exact un.free b o (k b o z) (up (na z) n) hx
    there := fun b o z hx => by rw [gk b (na z)]; exact un.there b o (k b o z) hx
    tups := fun b xs z => by rw [del_ne (tr z).2]; exact un.tups b xs (tr z).1
    frzs := fun b o v z => by rw [del_ne (tr z).2]; exact un.frzs b o v (tr z).1
    tbls := fun b ps z => by rw [del_ne (tr z).2]; exact un.tbls b ps (tr z).1 }
  have hok3 : HOk X.prog X.w (del H2 a) G := fun b o z => by
    have hba : b ≠ a := fun e => by rw [e, del_same] at z; cases z
    rw [del_ne hba] at z
    have noa : ∀ {c : Addr}, H2 c = some (.own b) → c ≠ a := fun hc => at_ne ea hc exo_own
    refine (hok b o z).stay (fun c v hc y => ?_) (fun c hc => by rw [del_ne (noa hc)]; exact hc) (fun c xs hc => by rw [del_ne (at_ne ea hc exo_tup)]; exact hc)
    have hca : c ≠ a := hc.elim (fun q => by rw [q]; exact hba) noa
    rw [gk c hca]; exact y
  have J : Inv X pins σ (del H2 a) ⟨G, g2, d2, t2, os2⟩ := I1.call' (ch := []) ho U hok3 hb (fun b z => absurd z (by simp))
  refine ⟨t0, G, J, fun b o z => ?_, ga, hoe⟩
  by_cases hba : b = a
  · rw [hba, ga] at z; cases z
  · exact (gk b hba).symm.trans z
/-- C(e, ..), C's own __init__ keeping sp -/
def tMkE (C : Addr) (sp : Sp) (ta : TA) : L2.St → Hp → XK → Prop := fun σ H Q => ta σ H fun vs H1 => vs.length ≤ 1000 ∧ ∀ a, H1 a = none → sp (.ref a :: vs) (upd H1 a (exo a C none))
  (fun v H2 => v = .non ∧ ((H2 a = some (exo a C none) ∧ Q (.ref C) none (del H2 a)) ∨ ∃ (d : Addr) (fs : List (Str × V)), H2 a = some (exo a C (some d)) ∧ H2 d = some (exd d fs) ∧ Q (.ref C) (some d) (upd (del H2 a) d (.xd fs)))) (fun _ _ _ => False)
/-- what such a call leaves -/
theorem made_run {vs : List V} {us : List Value} {fI : Addr} {k : Nat} {fd : FuncData} {ps : List Str} {sp : Sp} {Q : XK} {CX : CXT} (T : Own X.K newId bmB C) (F : ExcBaseFacts B newId initId bmB) (iC : PySem.W.findIn X.K (.ref C) "__init__" = some (some (.ref fI))) (tI : PySem.W.typeIn X.K (.ref fI) = some (.type "function"))
    (F1 : FnOk X.prog X.w X.K X.mg X.base CX k fI fd ps sp) (hr : Room (k + 1) X.A) (hb : Binds X.K fd ps []) (hx : Passes CX X (fun _ _ _ => False)) (I1 : Inv X pins σ H1 s) (r1 : Vals vs us) (hz : vs.length ≤ 1000)
    (q1 : ∀ a, H1 a = none → sp (.ref a :: vs) (upd H1 a (exo a C none)) (fun v H2 => v = .non ∧ ((H2 a = some (exo a C none) ∧ Q (.ref C) none (del H2 a)) ∨ ∃ (d : Addr) (fs : List (Str × V)), H2 a = some (exo a C (some d)) ∧ H2 d = some (exd d fs) ∧ Q (.ref C) (some d) (upd (del H2 a) d (.xd fs)))) (fun _ _ _ => False)) :
    wpAny (model X.prog X.w) X.A (call (.ref C) us) (MkP X pins σ Q) X.xe s := by
  obtain ⟨nm, q, N, bs, sn, sub, ab, col, dd, k0, k1, k2, k3, k5, hC⟩ := T.cls
  obtain ⟨hp, g, dr, tk, os⟩ := s
  have hsz : hp.objs.size ≤ hp.objs.size + 1 := Nat.le_succ _
  have hq := q1 (hp.objs.size + 1) (I1.hok.fresh hsz)
  obtain ⟨hp2, ehp⟩ : ∃ hp2, hp2 = (hp.push (PySem.W.kdv_tup us)).push (HandSPX.excO C hp.objs.size) := ⟨_, rfl⟩
  have kk : ∀ b o, hp.get? b = some o → hp2.get? b = some o := fun b o e => by rw [ehp]; exact Heap.get?_push_of_some _ (Heap.get?_push_of_some _ e)
  have hget : hp2.get? (hp.objs.size + 1) = some (HandSPX.excO C hp.objs.size) := by rw [ehp]; heap_get
  have I2 : Inv X pins σ (upd H1 (hp.objs.size + 1) (exo (hp.objs.size + 1) C none)) ⟨hp2, g, dr, tk, os⟩ := I1.laid (t' := tk) kk hsz (exo_ok hget)
  have r2 : Vals (V.ref (hp.objs.size + 1) :: vs) (Value.ref (hp.objs.size + 1) :: us) := .cons rfl r1
  have hl : (Value.ref (hp.objs.size + 1) :: us ++ []).length = ps.length := by
    rw [List.append_nil, ← r2.length]; exact F1.len _ _ _ _ hq
  have hus : us.length ≤ sizeLine := by rw [← Paired.length r1, sizeLine_eq]; omega
  refine wpAny_call (HandSPX.call_own F (fun _ => rfl) (I1.kIn _ _ hC) (PySem.W.looks_findIn I1.kIn iC) (fun self => PySem.W.bind_fn I1.kIn self tI) hus ?_)
  rw [← ehp]
  refine codeAny_mono (F1.run _ X.stack _ _ ⟨Value.ref (hp.objs.size + 1) :: us, []⟩ (Value.ref (hp.objs.size + 1) :: us) _ _ (fun _ _ _ => False) (hr.make C us []) (I2.env0.make C us []) ?_ r2 hq) fun r s' hq' => ?_
  · have z := hb ⟨hp2, g, dr, tk, os⟩ (Value.ref (hp.objs.size + 1) :: us) I2.kIn hl
    rw [List.append_nil] at z; exact z
  cases r with
  | error er => exact hx pins σ _ _ er s' I2 hq'
  | ok fl =>
    cases fl with
    | ret u =>
      obtain ⟨v, H2, os2, bare2, un2, hok2, rv, ev, alt⟩ := hq'
      subst ev
      obtain ⟨h2, g2, d2, t2, os'⟩ := s'
      refine ⟨rv, ?_⟩
      rcases alt with ⟨ea, q2⟩ | ⟨d, fs, ea, ed, q2⟩
      · obtain ⟨t0, G, J, kG, ge, hoe⟩ := mk_gone (d2 := d2) (t2 := t2) I1 hsz kk un2 hok2 os2 bare2 ea
        exact ⟨_, _, _, ⟨G, g2, d2, t2, os'⟩, _, .ref C, none, rfl, J, kG, ge, hoe, ⟨rfl, rfl⟩, rfl, rfl, del_same, rfl, bare2, raises_own T.exC T.tyC, q2⟩
      · obtain ⟨t0, G, J, kG, ge, hoe⟩ := mk_gone (d2 := d2) (t2 := t2) I1 hsz kk un2 hok2 os2 bare2 ea
        have hda : d ≠ hp.objs.size + 1 := fun z => by
          rw [z] at ed
          obtain ⟨mA, ⟨ob, es, ep, e1, e2, _⟩, _⟩ := exd_at hok2 ed
          rw [hoe] at e1
          have z2 := Option.some.inj e1
          subst z2
          cases e2
        have ed' : del H2 (hp.objs.size + 1) d = some (exd d fs) := by rw [del_ne hda]; exact ed
        obtain ⟨mA, ns, rel⟩ := exd_at J.hok ed'
        have J2 := J.write (t' := t2) (h' := G) (x := d) (e := d) (o := .xd fs) (by rw [ed']; exact True.intro) (.inl rfl) (fun _ _ _ z => z) (by obtain ⟨ob, _, _, e1, _⟩ := ns; exact ⟨ob, e1⟩) ⟨mA, ns, rel⟩
        exact ⟨_, _, _, ⟨G, g2, d2, t2, os'⟩, _, .ref C, some d, rfl, J2, kG, ge, hoe, ⟨rfl, rfl⟩, rfl, rfl, by rw [upd_ne (Ne.symm hda)]; exact del_same, rfl, bare2, raises_own T.exC T.tyC, q2⟩
    | next => exact False.elim hq'
    | brk => exact False.elim hq'
    | cont => exact False.elim hq'
theorem pmk_e {x : Str} {fI : Addr} {k : Nat} {fd : FuncData} {ps : List Str} {sp : Sp} {CX : CXT} {e : Expr} {es : List Expr} {ta : TA} {p pos : Pos} (T : Own X.K newId bmB C) (F : ExcBaseFacts B newId initId bmB) (iC : PySem.W.findIn X.K (.ref C) "__init__" = some (some (.ref fI))) (tI : PySem.W.typeIn X.K (.ref fI) = some (.type "function"))
    (F1 : FnOk X.prog X.w X.K X.mg X.base CX k fI fd ps sp) (hr : Room (k + 1) X.A) (hb : Binds X.K fd ps []) (hx : Passes CX X (fun _ _ _ => False)) (hg : Gl X x) (hm : X.mg x = some (.ref C)) (ha : PA X (e :: es) ta)
    (hdb : (x == ("__debug__" : Str)) = false := by decide) (he : starEach (e :: es) X.env = (false, eval e X.env) :: starEach es X.env := by rfl) (hpl : (backTo pos (starEach es X.env)).any (·.1) = false := by rfl) :
    PMk X (.Call (.Name x p) (e :: es) [] pos) (tMkE C sp ta) := by
  intro pins s σ H Q I h
  refine wpAny_Call_Name_kw (ld_glob I hg hm ?_ hdb)
  exact PySem.W.callWith_K (h₀ := X.base) I.ok.mod.kin T.kC (thn (ha.run pos pins s σ H _ I h) fun us s1 ⟨vs, H1, I1, r1, hz, q1⟩ => ⟨I1.kIn, made_run T F iC tI F1 hr hb hx I1 r1 hz q1⟩) he hpl
end
end Pc
namespace Pc
open PySem PySem.Spec PyProof.Rows L2 RZ
/-! ### errors of the program: caught, kept, looked at -/
section
open PySem.W
variable {M : Model} {K : Frag} {h : Heap}
theorem Looks.bind' {α β : Type} {x : Sem α} {f : α → Sem β} {a : α} {b : β} (hx : Looks M h x a) (hf : Looks M h (f a) b) : Looks M h (x >>= f) b := fun A Q E s k q =>
  wpAny_bind (hx A _ E s k (hf A Q E s k q))
theorem loop_all {α β : Type} {f : α → β → Sem (ForInStep β)} {b : β} : ∀ cs : List α, (∀ c ∈ cs, Looks M h (f c b) (.yield b)) → Looks M h (forIn cs b f) b
  | [], _ => by rw [List.forIn_nil]; exact .now
  | c :: cs, hc => by
    rw [List.forIn_cons]
    exact Looks.bind' (hc c List.mem_cons_self) (loop_all cs fun c' h' => hc c' (List.mem_cons_of_mem _ h'))
theorem loop_any {α β : Type} {f : α → β → Sem (ForInStep β)} {b b1 : β} : ∀ (bs : List Bool) (cs : List α), bs.length = cs.length → bs.any id = true → (∀ (i : Nat) (c : α) (y : Bool), cs[i]? = some c → bs[i]? = some y → Looks M h (f c b) (if y = true then .done b1 else .yield b)) → Looks M h (forIn cs b f) b1
  | [], [], _, e, _ => absurd e (by decide)
  | y :: bs, c :: cs, hl, e, hc => by
    rw [List.forIn_cons]
    have h0 := hc 0 c y rfl rfl
    cases y with
    | true => exact Looks.bind' h0 .now
    | false => exact Looks.bind' h0 (loop_any bs cs (Nat.succ.inj hl) e fun i c' y' h1 h2 => hc (i + 1) c' y' h1 h2)
/-- an except clause with several classes, of which one is the error's -/
theorem exm_some {cls : Value} {cs : List Value} {tp e : Addr} {o : Obj} {n : Nat} (X : K.In h) (LT : Looks M h (typeOf (.ref e)) cls) (hp : h.get? tp = some o) (hc : o.cls = .type "tuple") (hd : o.data = .seq cs.toArray n) (bs : List Bool) (hl : bs.length = cs.length) (hb : bs.any id = true)
    (hx : ∀ (i : Nat) (c : Value) (y : Bool), cs[i]? = some c → bs[i]? = some y → exmOne K cls c = some y) : Looks M h (excMatches (.ref e) (.ref tp)) true := by
  have at_ : ∀ c ∈ cs, ∃ y, exmOne K cls c = some y := fun c hm => by
    obtain ⟨i, hi, rfl⟩ := List.getElem_of_mem hm
    exact ⟨bs[i]'(by omega), hx i _ _ (List.getElem?_eq_getElem hi) (List.getElem?_eq_getElem _)⟩
  have L0 : Looks M h (isInstance (.ref tp) (.type "tuple")) true := fun A Q E s k q => by
    refine wpAny_bind (wpAny_typeOf_ref (k _ _ hp) ?_)
    rw [hc]
    exact (Looks.of_pure isSubtype_tuple_tuple) A Q E s k q
  unfold excMatches
  refine Looks.bind' L0 ?_
  dsimp only
  rw [if_pos rfl]
  refine Looks.bind' (a := some cs.toArray) (fun A Q E s k q => wpAny_seqItems (k _ _ hp) hd q) ?_
  refine Looks.bind' (a := cs) .now ?_
  refine Looks.bind' (a := PUnit.unit) (loop_all cs fun c hm => ?_) ?_
  · obtain ⟨y, hy⟩ := at_ c hm
    refine Looks.bind' (exm_cls X hy).1 ?_
    exact .now
  refine Looks.bind' LT ?_
  refine Looks.bind' (loop_any (b1 := (some true, ())) bs cs hl hb fun i c y h1 h2 => Looks.bind' (exm_cls X (hx i c y h1 h2)).2 ?_) ?_
  · cases y <;> exact .now
  · exact .now
end
end Pc
namespace Pc
open PySem PySem.Spec PyProof.Rows L2 RZ
/-- an error that was caught and is kept: its class, its dict -/
def exk (a : Addr) (cls : Value) (d : Option Addr) : HO := .ext fun h => ∃ (oe : Obj) (vs : Array Value), h.get? a = some oe ∧ Zc cls d oe ∧ oe.data = .fields vs
theorem exk_ok {P : Program} {w : World} {H : Hp} {h : Heap} {a : Addr} {cls : Value} {d : Option Addr} {oe : Obj} {vs : Array Value} (e : h.get? a = some oe) (z : Zc cls d oe) (q : oe.data = .fields vs) : ObjOk P w H h a (exk a cls d) :=
  ⟨⟨oe, vs, e, z, q⟩, ⟨oe, e⟩, fun _ _ ⟨o, v, r, r'⟩ k => ⟨o, v, k o r, r'⟩⟩
theorem exk_at {P : Program} {w : World} {H : Hp} {h : Heap} {a : Addr} {cls : Value} {d : Option Addr} (hok : HOk P w H h) (e : H a = some (exk a cls d)) : ∃ (oe : Obj) (vs : Array Value), h.get? a = some oe ∧ Zc cls d oe ∧ oe.data = .fields vs := by
  have x : ObjOk P w H h a (.ext fun h => ∃ (oe : Obj) (vs : Array Value), h.get? a = some oe ∧ Zc cls d oe ∧ oe.data = .fields vs) := hok a _ e
  exact x.1
theorem fly_keeps {B h h' : Heap} {l : List PySem.Env} {e : Addr} {Z : Obj → Prop} (R : HandSPX.FlyingZ B l e Z h) (k : ∀ b o, h.get? b = some o → h'.get? b = some o) : HandSPX.FlyingZ B l e Z h' := by
  obtain ⟨f1, f2, f3, oe, ws, T, oT, ts, r1, r2, r3, r4, r5, r6, r7, r8⟩ := R
  exact ⟨fun b o q => k b o (f1 b o q), f2, f3.of_keeps fun b o q _ => ⟨o, k b o q, rfl⟩, oe, ws, T, oT, ts, k _ _ r1, r2, r3, r4, r5, r6, k _ _ r7, r8⟩
/-- names of classes, one by one -/
def NamesAll (X : Cx) (es : List Expr) (cs : List Value) : Prop := Paired (fun (e : Expr) c => ∃ (x : Str) (p : Pos), e = .Name x p ∧ Names X x c) es cs
theorem names_run {X : Cx} {pins : List (Addr × Obj)} {σ : L2.St} {H : Hp} {s : Shared} {E : Value → Shared → Prop} {pos : Pos} (I : Inv X pins σ H s) :
    ∀ {es : List Expr} {cs : List Value} {Q : List Value → Shared → Prop}, NamesAll X es cs → Q cs s → wpAny (model X.prog X.w) X.A (spliced (backTo pos (starEach es X.env))) Q E s := by
  intro es cs Q h
  revert Q
  induction h with
  | nil => intro Q q; exact wpAny_items_nil q
  | cons h1 _ ih =>
    intro Q q
    obtain ⟨x, p, rfl, hg, hdb, hm⟩ := h1
    refine wpAny_items_cons ?_
    rcases hm with hm | ⟨hm, hv, hn⟩
    · exact ld_glob I hg hm (ih q) hdb
    · exact ld_blt I hg hm hv (ih q) hn hdb
/-- of which classes the error is -/
def Hits (K : PySem.W.Frag) (cls : Value) (cs : List Value) : Prop := ∃ bs : List Bool, bs.length = cs.length ∧ bs.any id = true ∧ ∀ (i : Nat) (c : Value) (y : Bool), cs[i]? = some c → bs[i]? = some y → PySem.W.exmOne K cls c = some y
/-- what 'except (..) as n: suite' wishes of an error of the body (slot i is n's): the error is kept -/
def wKept (K : PySem.W.Frag) (cs : List Value) (i : Nat) (ts : Addr → TS) (D : Ends) : WX := fun cls d σ H => Hits K cls cs ∧ ∀ a, H a = none →
  ts a { nx := fun σ' H' => D.nx (σ'.set i none) (upd H' a (exk a cls d)), rt := fun _ _ => False } (σ.set i (some (.ref a))) H
section
variable {X : Cx} {n : Str} {i : Nat} {body suite : List Stmt} {b₀ : Stmt} {es : List Expr} {cs : List Value} {kk : Nat} {tpos pos pos' : Pos} {tb : WX → TS} {ts : Addr → TS}
theorem ps_try_kept (hex : X.ex = []) (hs : X.stack = X.env :: X.outer) (hf : X.env.frame = some X.env.locals) (hN : X.N.Nodup) (hi : X.N[i]? = some n) (hln : X.env.kindOf n = some .local) (hc : NamesAll X es cs) (hcl : cs.length ≤ 1000)
    (hb : ∀ (W : WX) (pn : List (Addr × Obj)) (xe : Value → Shared → Prop), Takes (X.tr pn xe) W → PassesOwn (model X.prog X.w) X.A X.env xe → PSs (X.tr pn xe) body (tb W))
    (hsu : ∀ (a : Addr) (oe : Obj) (pn : List (Addr × Obj)), PSs (X.suite a ((a, oe) :: pn)) (b₀ :: suite) (ts a)) :
    PS X (.Try body [.ExceptHandler (some (.Tuple es kk tpos)) (some n) (b₀ :: suite) pos'] [] [] pos) (fun D σ H => tb (wKept X.K cs i ts D) D σ H) := by
  refine ⟨fun pins s σ H D I h => ?_⟩
  have ok := I.ok
  have hfr : X.A.frames = some (X.env :: X.outer) := by rw [ok.frames, hs]
  refine wpAny_Try_except (wpAny_mono ((hb (wKept X.K cs i ts D) (X.pn ++ pins) (fun e s₁ => wpAny (model X.prog X.w) X.A (noteFrame e X.env) (fun _ s₂ => wpAny (model X.prog X.w) X.A (setFlight e none) (fun _ s₃ =>
    wpAny (model X.prog X.w) X.A (handleBy e X.env [.ExceptHandler (some (.Tuple es kk tpos)) (some n) (b₀ :: suite) pos']) (SP X pins D) X.xe s₃) X.xe s₂) X.xe s₁) (fun u s' xx => ?_) PassesOwn.looking).run [] s σ H D (I.toTry _) h) (fun f s1 hsp => ?_) (fun e s1 he => he))
  · obtain ⟨a, B, sI, pins', σ', H', cls, d, rfl, J', nb, up, sky, na, os, ag, ⟨bs, hbl, hba, hbx⟩, hyes⟩ := xx
    have J : Inv X pins σ' H' sI := J'.ofTry ok
    rw [hs] at sky
    show wpAny (model X.prog X.w) X.A (noteFrame (.ref a) X.env) _ _ _
    refine Sky.land Zc.steady hfr hf sky fun h3 fl3 up3 => ?_
    obtain ⟨oe3, vs3, he3, hz3, hd3⟩ := fl3.there
    have nfr : a ∉ frs (X.env :: X.outer) := fun hm => by
      obtain ⟨_, o', e', hnf⟩ := fl3.2.2.1.mem hm
      rw [he3] at e'; cases e'
      exact hnf _ hd3
    have nL : a ≠ X.env.locals := fun z => nfr (List.mem_filterMap.mpr ⟨X.env, List.mem_cons_self, by rw [hf, z]⟩)
    have nF : a ∉ X.fs := fun hm => by
      obtain ⟨e, he, q⟩ := List.mem_filterMap.mp hm
      exact nfr (List.mem_filterMap.mpr ⟨e, List.mem_cons_of_mem _ he, q⟩)
    have nI : sI.heap.get? a = none := by
      cases z : sI.heap.get? a with
      | none => rfl
      | some o =>
        have y := nb a o z (by rw [hs]; exact nfr)
        rw [fl3.2.1] at y; cases y
    have J3 : Inv X pins σ' H' { s' with heap := h3 } := J.landed nb fl3.1 (up.trans up3) os ag
    have S3 := J3.suite he3 hd3 na nL nF
    refine wpAny_handleBy_cons (codeAny_handlers_test (wpAny_Tuple_spliced (names_run (X := X.suite a ((a, oe3) :: (X.pn ++ pins))) (cs := cs) S3 (L2.Paired.mapP hc fun _ _ z => z) ⟨by rw [sizeLine_eq]; omega, ?_⟩))) (by intro q; cases q)
    dsimp only
    have kp : ∀ b o, h3.get? b = some o → (h3.push { cls := .type "tuple", data := .seq cs.toArray }).get? b = some o := fun _ _ z => Heap.get?_push_of_some _ z
    have LT : PySem.W.Looks (model X.prog X.w) (h3.push { cls := .type "tuple", data := .seq cs.toArray }) (typeOf (.ref a)) cls := fun A Q E s k q => wpAny_typeOf_ref (k _ _ (kp _ _ he3)) (by rw [hz3.1]; exact q)
    refine (exm_some (J3.kIn.keeps kp) LT (Heap.get?_push_size h3 rfl) rfl rfl bs hbl hba hbx).here ?_
    refine codeAny_handlers_suite_as (HandSPX.lands_againZ (fly_keeps fl3 kp) fun h4 fl4 up4 => ?_)
    have J4 : Inv X pins σ' H' { s' with heap := h4 } := J.landed nb fl4.1 (((up.trans up3).trans (Heap.UpToSlots.of_keeps kp)).trans up4) os ag
    obtain ⟨oe4, vs4, he4, hz4, hd4⟩ := fl4.there
    have S4 := J4.suite he4 hd4 na nL nF
    refine store_ok (X := X.suite a ((a, oe4) :: (X.pn ++ pins))) (v := .ref a) S4 hN hi (.inl hln) rfl (fun s5 S5 => ?_) (.inr hln)
    refine wpAny_mono ((hsu a oe4 (X.pn ++ pins)).run [] s5 _ H' _ S5 (hyes a na)) (fun f s6 hsp => ?_) (fun _ _ z => False.elim z)
    cases f with
    | next =>
      obtain ⟨σ6, H6, S6, q6⟩ := hsp
      refine gone_ok (X := X.suite a ((a, oe4) :: (X.pn ++ pins))) S6 hN hi hln fun s7 S7 => ⟨_, _, adopt (S7.unsuite ok) ?_ ?_ nL ?_ ?_ ?_, q6⟩
      · exact (S7.pin (a, oe4) (List.mem_append_left _ List.mem_cons_self)).2.1
      · cases z : X.s_0.heap.get? a with
        | none => rfl
        | some o =>
          obtain ⟨o', y⟩ := J.base.there a o z (by rw [hex]; exact fun q => nomatch q)
          rw [nI] at y; cases y
      · intro x c ec z
        obtain ⟨v, ob, eo, _⟩ := J.cell x c ec
        rw [z, nI] at eo; cases eo
      · intro p hp z
        have y := (J.pin p hp).1
        rw [z, nI] at y; cases y
      · exact exk_ok (S7.pin (a, oe4) (List.mem_append_left _ List.mem_cons_self)).1 hz4 hd4
    | brk => obtain ⟨σ6, H6, S6, q6⟩ := hsp; exact q6.elim
    | cont => obtain ⟨σ6, H6, S6, q6⟩ := hsp; exact q6.elim
    | ret u => obtain ⟨v6, σ6, H6, S6, r6, q6⟩ := hsp; exact q6.elim
  · cases f with
    | next => obtain ⟨σ', H', J', q⟩ := hsp; exact wpAny_execs_nil ⟨σ', H', J'.ofTry ok, q⟩
    | brk => obtain ⟨σ', H', J', q⟩ := hsp; exact ⟨σ', H', J'.ofTry ok, q⟩
    | cont => obtain ⟨σ', H', J', q⟩ := hsp; exact ⟨σ', H', J'.ofTry ok, q⟩
    | ret u => obtain ⟨v, σ', H', J', r, q⟩ := hsp; exact ⟨v, σ', H', J'.ofTry ok, r, q⟩
end
end Pc
namespace Pc
open PySem PySem.Spec PyProof.Rows L2 RZ
/-- what isinstance asks of the class of a kept error -/
structure KeptC (K : PySem.W.Frag) (C : Addr) : Prop where
  ga : PySem.W.findIn K (.ref C) "__getattribute__" = some (some (.builtin "BaseException.__getattribute__"))
  gg : PySem.W.findIn K (.ref C) "__getattr__" = some none
  exC : PySem.W.subIn K (.ref C) (.type "BaseException") = some true
  hdC : PySem.W.hasDictIn K C = true
  clC : PySem.W.findIn K (.ref C) "__class__" = some (some (.builtin "object.__class__"))
  mrO : PySem.W.mroIn K C (.type "object") = some true
  sp : PySem.W.specialIn K (.builtin "object.__class__") "__get__" = some (some (.builtin "getset_descriptor.__get__"))
  tk : PySem.W.takesIn K (.builtin "object.__class__") = some true
/-- a kept error with its dict -/
def Kept (H : Hp) (a C : Addr) (d : Option Addr) : Prop := H a = some (exk a (.ref C) d) ∧ (d = none ∨ ∃ dd fs, d = some dd ∧ H dd = some (.xd fs))
section
variable {X : Cx} {pins : List (Addr × Obj)} {σ : L2.St} {H : Hp} {s : Shared} {a C : Addr} {d : Option Addr}
theorem kept_inst (I : Inv X pins σ H s) (h : Kept H a C d) : ∃ (oe : Obj) (od : Option Obj), PySem.W.InstAt s.heap a oe C od := by
  obtain ⟨e, hd⟩ := h
  obtain ⟨oe, vs, ho, hz, hv⟩ := exk_at I.hok e
  have nc : PySem.W.notCls oe = true := by unfold PySem.W.notCls; rw [hv] <;> rfl
  rcases hd with rfl | ⟨dd, fs, rfl, ed⟩
  · exact ⟨oe, none, ho, hz.1, nc, by rw [hz.2]; trivial⟩
  · obtain ⟨mA, ⟨od, es, ep, q, _⟩, _⟩ := (show ObjOk X.prog X.w H s.heap dd (.xd fs) from I.hok dd _ ed)
    exact ⟨oe, some od, ho, hz.1, nc, by rw [hz.2]; exact q⟩
theorem kept_kit (T : KeptC X.K C) {oe : Obj} {od : Option Obj} : PySem.W.KitX X.K (.ref a) (.ref C) (fun h => PySem.W.InstAt h a oe C od) :=
  PySem.W.kitx_exc (by obtain ⟨cd, hc, _⟩ := PySem.W.any_some T.hdC; rw [hc]; rfl) T.ga T.gg T.exC T.clC T.sp T.tk T.mrO
/-- isinstance(e, c), e a kept error -/
def rIsk (K : PySem.W.Frag) : List V → Hp → VK → Prop := fun xs H Q => ∃ (a C : Addr) (d : Option Addr) (c : V) (u : Value) (b : Bool), xs = [.ref a, c] ∧ Kept H a C d ∧ KeptC K C ∧ ClsV c u ∧ PySem.W.kitOne K (.ref C) u = some b ∧ Q (.bl b) H
theorem call_isk : CallR X (.builtin "isinstance") (rIsk X.K) := by
  intro pins s σ H xs us Q I r h
  obtain ⟨a, C, d, c, u, b, rfl, hk, T, k, e, q⟩ := h
  obtain ⟨u1, u2, rfl, r1, r2⟩ := vals2 r
  cases (show u1 = Value.ref a from r1)
  have e2 := k.eq r2
  subst e2
  obtain ⟨oe, od, J⟩ := kept_inst I hk
  exact PySem.W.kia_one (kept_kit T) I.kIn J e (fun z => nomatch z) fun tk => ⟨.bl b, H, I.tok tk, rfl, q⟩
/-- isinstance(e, (c, ..)) -/
def rIskT (K : PySem.W.Frag) : List V → Hp → VK → Prop := fun xs H Q => ∃ (a C : Addr) (d : Option Addr) (tp : Addr) (cs : List V) (us : List Value) (b : Bool), xs = [.ref a, .ref tp] ∧ Kept H a C d ∧ KeptC K C ∧ H tp = some (.tup cs) ∧ Paired ClsV cs us ∧ PySem.W.kitAny K (.ref C) us = some b ∧ Q (.bl b) H
theorem call_iskT : CallR X (.builtin "isinstance") (rIskT X.K) := by
  intro pins s σ H xs us Q I r h
  obtain ⟨a, C, d, tp, cs, ws, b, rfl, hk, T, hT, k, e, q⟩ := h
  obtain ⟨u1, u2, rfl, r1, r2⟩ := vals2 r
  cases (show u1 = Value.ref a from r1)
  cases (show u2 = Value.ref tp from r2)
  obtain ⟨oe, od, J⟩ := kept_inst I hk
  obtain ⟨_, its, rv, o, h1, h2, n, h3⟩ := (show ObjOk X.prog X.w H s.heap tp (.tup cs) from I.hok tp _ hT)
  have e3 := ClsV.all k rv
  subst e3
  obtain ⟨oc, od', dt, sl⟩ := o
  simp only at h2 h3
  subst h2 h3
  exact PySem.W.kia_tup (kept_kit T) I.kIn J h1 e (fun z => nomatch z) fun tk => ⟨.bl b, H, I.tok tk, rfl, q⟩
/-- e.f, e a kept error -/
def tKf (K : PySem.W.Frag) (f : Str) (te : TE) : TE := fun σ H Q => te σ H fun x H1 => ∃ (a C dd : Addr) (fs : List (Str × V)) (v : V), x = .ref a ∧ H1 a = some (exk a (.ref C) (some dd)) ∧ KeptC K C ∧ PySem.W.findIn K (.ref C) f = some none ∧ H1 dd = some (.xd fs) ∧ fs.lookup f = some v ∧ Q v H1
theorem pe_kf {e : Expr} {te : TE} {f : Str} {pos : Pos} (he : PE X e te) (hb : attributeBase e f X.env (eval e X.env) = eval e X.env := by rfl) : PE X (.Attribute e f pos) (tKf X.K f te) := by
  refine ⟨fun pins s σ H Q I h => attr_of hb (thn (he.run pins s σ H _ I h) fun u s1 hh => ?_)⟩
  obtain ⟨x, H1, I1, rx, a, C, dd, fs, v, ex, ea, T, hno, ed, l, q⟩ := hh
  subst ex
  obtain rfl : u = Value.ref a := rx
  obtain ⟨oe, vs, ho, hz, hv⟩ := exk_at I1.hok ea
  obtain ⟨mA, hns, hr⟩ := (show ObjOk X.prog X.w H1 s1.heap dd (.xd fs) from I1.hok dd _ ed)
  obtain ⟨od, hod, hl⟩ := lookIn_ns hns
  obtain ⟨w', hw, rw'⟩ := RelO.some_of (v := v) (o := mA f) (by rw [← l]; exact hr f)
  have J : PySem.W.InstAt s1.heap a oe C (some od) := ⟨ho, hz.1, by unfold PySem.W.notCls; rw [hv] <;> rfl, by rw [hz.2]; exact hod⟩
  exact HandSPX.exc_get I1.kIn J T.ga T.gg T.exC (PySem.W.findObj_own T.hdC hno rfl (by rw [hl, hw])) (handed_of rw') ⟨v, H1, I1.tok _, rw', q⟩
end
end Pc
namespace Pc
open PySem PySem.Spec PyProof.Rows L2 RZ
/-! ### errors with one field: made, flying -/
/-- an error of the class at C with the field f flies, from the heap H on -/
def Flies (C : Addr) (f : Str) (v : V) (H : Hp) (E : XK) : Prop := ∀ d H', Same H H' → H d = none → H' d = some (.xd [(f, v)]) → E (.ref C) (some d) H'
theorem Flies.same {C : Addr} {f : Str} {v : V} {H H1 : Hp} {E : XK} (h : Flies C f v H E) (s : Same H H1) : Flies C f v H1 E := fun d H' s' n e => h d H' (s.trans s') (s.free n) e
def spInit1 (C : Addr) (f : Str) : Sp := fun vs H Q _ => ∃ (a : Addr) (v : V), vs = [.ref a, v] ∧ H a = some (exo a C none) ∧ ∀ dx, H dx = none → dx ≠ a → Q .non (upd (upd H a (exo a C (some dx))) dx (exd dx [(f, v)]))
theorem raised1 {C : Addr} {f : Str} {v : V} {H1 : Hp} {Q : XK} (h : Flies C f v H1 Q) : [v].length ≤ 1000 ∧ ∀ a, H1 a = none → spInit1 C f (.ref a :: [v]) (upd H1 a (exo a C none))
    (fun v' H2 => v' = .non ∧ ((H2 a = some (exo a C none) ∧ Q (.ref C) none (del H2 a)) ∨ ∃ (d : Addr) (fs : List (Str × V)), H2 a = some (exo a C (some d)) ∧ H2 d = some (exd d fs) ∧ Q (.ref C) (some d) (upd (del H2 a) d (.xd fs)))) (fun _ _ _ => False) := by
  refine ⟨(by show 1 ≤ 1000; decide), fun a na => ⟨a, v, rfl, upd_same, fun dx nd ne => ⟨rfl, .inr ⟨dx, [(f, v)], ?_, upd_same, h dx _ ?_ ?_ upd_same⟩⟩⟩⟩
  · rw [upd_ne (Ne.symm ne), upd_same]
  · intro b o hb
    have nd' : H1 dx = none := by rw [upd_ne ne] at nd; exact nd
    have hbd := ne_of_none hb nd'
    have hba := ne_of_none hb na
    rw [upd_ne hbd, del_ne hba, upd_ne hbd, upd_ne hba, upd_ne hba]
    exact hb
  · rw [upd_ne ne] at nd; exact nd
/-- the try's wish of such an error -/
theorem kept1 {K : PySem.W.Frag} {C : Addr} {f : Str} {v : V} {cs : List Value} {i : Nat} {ts : Addr → TS} {D : Ends} {σ : L2.St} {H : Hp} (hh : Hits K (.ref C) cs)
    (h : ∀ d H' a, Same H H' → H d = none → H' d = some (.xd [(f, v)]) → H' a = none → a ≠ d → ts a { nx := fun σ' H'' => D.nx (σ'.set i none) (upd H'' a (exk a (.ref C) (some d))), rt := fun _ _ => False } (σ.set i (some (.ref a))) H') :
    Flies C f v H (fun cls d H' => wKept K cs i ts D cls d σ H') := fun d H' s n e => ⟨hh, fun a na => h d H' a s n e na (fun z => by rw [z, e] at na; cases na)⟩
theorem Kept.mk1 {H' : Hp} {a d C : Addr} {fs : List (Str × V)} (e : H' d = some (.xd fs)) (n : H' a = none) : Kept (upd H' a (exk a (.ref C) (some d))) a C (some d) :=
  ⟨upd_same, .inr ⟨d, fs, rfl, by rw [upd_ne (ne_of_none e n)]; exact e⟩⟩
theorem Kept.same {H H' : Hp} {a C : Addr} {d : Option Addr} (h : Kept H a C d) (s : Same H H') : Kept H' a C d :=
  ⟨s _ _ h.1, h.2.imp id fun ⟨dd, fs, e, z⟩ => ⟨dd, fs, e, s _ _ z⟩⟩
theorem over_of {K : PySem.W.Frag} {C : Addr} {bmB : List Value} {newId : String} {nm q : Str} {N : Addr} {bs : List Value} {sn : List Str} {sub : List Value} {ab : Bool} {col : Option Bool} {dd : Option Addr} {k0 k1 k2 k3 k5 : Option Value}
    (h : K.lookup C = some (excClassObj nm q C N bs bmB true sn sub ab col dd k0 k1 k2 k3 k5 newId)) (ht : PySem.W.excTail bmB bmB = true) : PySem.W.excOver K C bmB = true := by
  have e : PySem.W.clsIn K C = some { name := nm, bases := bs, mro := .ref C :: bmB, ns := N, qualname := q, hasDict := true, slotNames := sn, subclasses := sub, abstract := ab, collection := col, hasDel := false } := by
    unfold PySem.W.clsIn
    rw [h] <;> rfl
  unfold PySem.W.excOver
  rw [e]
  show ((C == C) && PySem.W.excTail bmB bmB) = true
  rw [ht, beq_self_eq_true]; rfl
theorem kcls_of {K : PySem.W.Frag} {t : Value} {D : Addr} {b : Bool} (h2 : PySem.W.isClsIn K D = true) (h3 : PySem.W.typeIn K (.ref D) = some (.type "type")) (h4 : PySem.W.subIn K t (.ref D) = some b) : PySem.W.kitCls K t (.ref D) = some b := by
  have e2 : ((PySem.W.clsIn K D).isSome && PySem.W.typeIn K (.ref D) == some (.type "type")) = true := by
    have h2' : (PySem.W.clsIn K D).isSome = true := h2
    rw [h2', h3] <;> rfl
  show (if ((PySem.W.clsIn K D).isSome && PySem.W.typeIn K (.ref D) == some (.type "type")) = true then PySem.W.subIn K t (.ref D) else none) = some b
  rw [if_pos e2]
  exact h4
theorem exm_of' {K : PySem.W.Frag} {t : Value} {D : Addr} {b : Bool} (h1 : PySem.W.subIn K (.ref D) (.type "BaseException") = some true) (h2 : PySem.W.isClsIn K D = true) (h3 : PySem.W.typeIn K (.ref D) = some (.type "type")) (h4 : PySem.W.subIn K t (.ref D) = some b) : PySem.W.exmOne K t (.ref D) = some b := by
  have e1 : (PySem.W.subIn K (.ref D) (.type "BaseException") == some true) = true := by rw [h1] <;> rfl
  show (if (PySem.W.subIn K (.ref D) (.type "BaseException") == some true) = true then PySem.W.kitCls K t (.ref D) else none) = some b
  rw [if_pos e1]
  exact kcls_of h2 h3 h4
theorem kit_own {K : PySem.W.Frag} {C D : Addr} {b : Bool} (h0 : PySem.W.subIn K (.ref C) (.ref C) = some true) (h2 : PySem.W.isClsIn K D = true) (h3 : PySem.W.typeIn K (.ref D) = some (.type "type")) (h4 : PySem.W.subIn K (.ref C) (.ref D) = some b) : PySem.W.kitOne K (.ref C) (.ref D) = some b := by
  by_cases e : C = D
  · subst e
    rw [h0] at h4
    rw [← h4]
    show (if ((Value.ref C) == (Value.ref C)) = true then some true else _) = some true
    rw [if_pos (beq_self_eq_true _)]
  · have n : ((Value.ref C) == (Value.ref D)) = false := beq_false_of_ne (fun z => e (Value.ref.inj z))
    show (if ((Value.ref C) == (Value.ref D)) = true then some true else PySem.W.kitCls K (.ref C) (.ref D)) = some b
    rw [if_neg (by rw [n]; exact Bool.false_ne_true)]
    exact kcls_of h2 h3 h4
theorem kit_blt {K : PySem.W.Frag} {C : Addr} {T : String} {b : Bool} (hm : PySem.W.kitMeta T = true) (h4 : PySem.W.subIn K (.ref C) (.type T) = some b) : PySem.W.kitOne K (.ref C) (.type T) = some b := by
  have n : ((Value.ref C) == (Value.type T)) = false := beq_false_of_ne (fun z => nomatch z)
  show (if ((Value.ref C) == (Value.type T)) = true then some true else (if PySem.W.kitMeta T = true then PySem.W.subIn K (.ref C) (.type T) else none)) = some b
  rw [if_neg (by rw [n]; exact Bool.false_ne_true), if_pos hm]
  exact h4
theorem kit_all {K : PySem.W.Frag} {t : Value} : ∀ {us : List Value}, (∀ u ∈ us, PySem.W.kitOne K t u = some false) → PySem.W.kitAny K t us = some false
  | [], _ => rfl
  | u :: us, h => by
    show (match PySem.W.kitOne K t u with | some true => some true | some false => PySem.W.kitAny K t us | none => none) = some false
    rw [h u List.mem_cons_self]
    exact kit_all fun x hx => h x (List.mem_cons_of_mem _ hx)
end Pc
namespace Pc
open PySem PySem.Spec PyProof.Rows L2 RZ
theorem kit_nil {K : PySem.W.Frag} {t : Value} : PySem.W.kitAny K t [] = some false := rfl
theorem kit_cons {K : PySem.W.Frag} {t u : Value} {us : List Value} (h : PySem.W.kitOne K t u = some false) (r : PySem.W.kitAny K t us = some false) : PySem.W.kitAny K t (u :: us) = some false := by
  show (match PySem.W.kitOne K t u with | some true => some true | some false => PySem.W.kitAny K t us | none => none) = some false
  rw [h]
  exact r
theorem hits_of {K : PySem.W.Frag} {cls : Value} {cs : List Value} (bs : List Bool) (hb : bs.any id = true) (h : Paired (fun c b => PySem.W.exmOne K cls c = some b) cs bs) : Hits K cls cs :=
  ⟨bs, h.length.symm, hb, fun i c y hc hy => by
    obtain ⟨y', e, z⟩ := paired_get h hc
    rw [hy] at e; cases e
    exact z⟩
end Pc
namespace Pc
open PySem PySem.Spec PyProof.Rows L2 RZ
/-- two promises of one def -/
theorem FnOk.or {P : Program} {w : World} {K : PySem.W.Frag} {mg : Str → Option Value} {base : Heap} {CX : CXT} {k : Nat} {f : Addr} {fd : FuncData} {ps : List Str} {sp sp' : Sp} (F : FnOk P w K mg base CX k f fd ps sp) (G : FnOk P w K mg base CX k f fd ps sp') :
    FnOk P w K mg base CX k f fd ps (fun vs H Q E => sp vs H Q E ∨ sp' vs H Q E) where
  len vs H Q E h := h.elim (F.len vs H Q E) (G.len vs H Q E)
  run A outer s H args us vs Q E hr e0 hb r h := h.elim (F.run A outer s H args us vs Q E hr e0 hb r) (G.run A outer s H args us vs Q E hr e0 hb r)
end Pc
namespace Pc
open PySem PySem.Spec PyProof.Rows L2 RZ
def topS (i : Nat) : Stmt := PySem.Challenge.pw_partnercall_k88_known_sheets_and_rounds.main.body.getD i (.Pass ⟨0, 0, 0, 0⟩)
abbrev s_p_couples : Stmt := topS 7
abbrev N_p_couples : List Str := ["pairing", "x", "y"]
theorem sc_p_couples : FnScope ["pairing", "x", "y"] ["pairing"] (defScope s_p_couples) := ⟨rfl, rfl, rfl, by decide +kernel, rfl, by decide +kernel, by decide +kernel⟩
abbrev s_p_pairing_of : Stmt := topS 8
abbrev N_p_pairing_of : List Str := ["couples", "partners", "x", "y"]
theorem sc_p_pairing_of : FnScope ["couples", "partners", "x", "y"] ["couples"] (defScope s_p_pairing_of) := ⟨rfl, rfl, rfl, by decide +kernel, rfl, by decide +kernel, by decide +kernel⟩
abbrev s_p_pairings_many : Stmt := topS 9
abbrev N_p_pairings_many : List Str := ["size", "many", "factor"]
theorem sc_p_pairings_many : FnScope ["size", "many", "factor"] ["size"] (defScope s_p_pairings_many) := ⟨rfl, rfl, rfl, by decide +kernel, rfl, by decide +kernel, by decide +kernel⟩
abbrev s_p_pairing_at : Stmt := topS 10
abbrev N_p_pairing_at : List Str := ["size", "number", "many", "found", "free", "rest", "person", "choice"]
theorem sc_p_pairing_at : FnScope ["size", "number", "many", "found", "free", "rest", "person", "choice"] ["size", "number"] (defScope s_p_pairing_at) := ⟨rfl, rfl, rfl, by decide +kernel, rfl, by decide +kernel, by decide +kernel⟩
abbrev s_p_check_person : Stmt := topS 12
abbrev N_p_check_person : List Str := ["size", "person"]
theorem sc_p_check_person : FnScope ["size", "person"] ["size", "person"] (defScope s_p_check_person) := ⟨rfl, rfl, rfl, by decide +kernel, rfl, by decide +kernel, by decide +kernel⟩
abbrev s_p_check_call : Stmt := topS 13
abbrev N_p_check_call : List Str := ["size", "call", "person"]
theorem sc_p_check_call : FnScope ["size", "call", "person"] ["size", "call"] (defScope s_p_check_call) := ⟨rfl, rfl, rfl, by decide +kernel, rfl, by decide +kernel, by decide +kernel⟩
abbrev s_p_check_word : Stmt := topS 14
abbrev N_p_check_word : List Str := ["size", "word", "call"]
theorem sc_p_check_word : FnScope ["size", "word", "call"] ["size", "word"] (defScope s_p_check_word) := ⟨rfl, rfl, rfl, by decide +kernel, rfl, by decide +kernel, by decide +kernel⟩
abbrev s_p_join_two : Stmt := topS 15
abbrev N_p_join_two : List Str := ["joined", "a", "b", "left", "right"]
theorem sc_p_join_two : FnScope ["joined", "a", "b", "left", "right"] ["joined", "a", "b"] (defScope s_p_join_two) := ⟨rfl, rfl, rfl, by decide +kernel, rfl, by decide +kernel, by decide +kernel⟩
abbrev s_p_people_of : Stmt := topS 17
abbrev N_p_people_of : List Str := ["sheet"]
theorem sc_p_people_of : FnScope ["sheet"] ["sheet"] (defScope s_p_people_of) := ⟨rfl, rfl, rfl, by decide +kernel, rfl, by decide +kernel, by decide +kernel⟩
abbrev s_p_check_sizes : Stmt := topS 18
abbrev N_p_check_sizes : List Str := ["first", "second"]
theorem sc_p_check_sizes : FnScope ["first", "second"] ["first", "second"] (defScope s_p_check_sizes) := ⟨rfl, rfl, rfl, by decide +kernel, rfl, by decide +kernel, by decide +kernel⟩
abbrev s_p_empty_sheet : Stmt := topS 19
abbrev N_p_empty_sheet : List Str := ["size"]
theorem sc_p_empty_sheet : FnScope ["size"] ["size"] (defScope s_p_empty_sheet) := ⟨rfl, rfl, rfl, by decide +kernel, rfl, by decide +kernel, by decide +kernel⟩
abbrev s_p_with_word : Stmt := topS 20
abbrev N_p_with_word : List Str := ["sheet", "word", "size", "ends", "a", "b"]
theorem sc_p_with_word : FnScope ["sheet", "word", "size", "ends", "a", "b"] ["sheet", "word"] (defScope s_p_with_word) := ⟨rfl, rfl, rfl, by decide +kernel, rfl, by decide +kernel, by decide +kernel⟩
abbrev s_p_sheet_of : Stmt := topS 21
abbrev N_p_sheet_of : List Str := ["size", "word"]
theorem sc_p_sheet_of : FnScope ["size", "word"] ["size", "word"] (defScope s_p_sheet_of) := ⟨rfl, rfl, rfl, by decide +kernel, rfl, by decide +kernel, by decide +kernel⟩
abbrev s_p_upper_pairs : Stmt := topS 22
abbrev N_p_upper_pairs : List Str := ["sheet", "size", "x"]
theorem sc_p_upper_pairs : FnScope ["sheet", "size", "x"] ["sheet"] (defScope s_p_upper_pairs) := ⟨rfl, rfl, rfl, by decide +kernel, rfl, by decide +kernel, by decide +kernel⟩
abbrev s_p_lower_pairs : Stmt := topS 23
abbrev N_p_lower_pairs : List Str := ["sheet", "size", "x"]
theorem sc_p_lower_pairs : FnScope ["sheet", "size", "x"] ["sheet"] (defScope s_p_lower_pairs) := ⟨rfl, rfl, rfl, by decide +kernel, rfl, by decide +kernel, by decide +kernel⟩
abbrev s_p_strands : Stmt := topS 24
abbrev N_p_strands : List Str := ["sheet", "size", "x"]
theorem sc_p_strands : FnScope ["sheet", "size", "x"] ["sheet"] (defScope s_p_strands) := ⟨rfl, rfl, rfl, by decide +kernel, rfl, by decide +kernel, by decide +kernel⟩
abbrev s_p_far_end : Stmt := topS 25
abbrev N_p_far_end : List Str := ["one", "other", "start", "size", "inside_one", "end"]
theorem sc_p_far_end : FnScope ["one", "other", "start", "size", "inside_one", "end"] ["one", "other", "start"] (defScope s_p_far_end) := ⟨rfl, rfl, rfl, by decide +kernel, rfl, by decide +kernel, by decide +kernel⟩
abbrev s_p_followed : Stmt := topS 26
abbrev N_p_followed : List Str := ["one", "other", "start"]
theorem sc_p_followed : FnScope ["one", "other", "start"] ["one", "other"] (defScope s_p_followed) := ⟨rfl, rfl, rfl, by decide +kernel, rfl, by decide +kernel, by decide +kernel⟩
abbrev s_p_times : Stmt := topS 27
abbrev N_p_times : List Str := ["sheet", "many", "done", "power", "left"]
theorem sc_p_times : FnScope ["sheet", "many", "done", "power", "left"] ["sheet", "many"] (defScope s_p_times) := ⟨rfl, rfl, rfl, by decide +kernel, rfl, by decide +kernel, by decide +kernel⟩
abbrev s_p_other_side : Stmt := topS 28
abbrev N_p_other_side : List Str := ["size", "end"]
theorem sc_p_other_side : FnScope ["size", "end"] ["size", "end"] (defScope s_p_other_side) := ⟨rfl, rfl, rfl, by decide +kernel, rfl, by decide +kernel, by decide +kernel⟩
abbrev s_p_loose_people : Stmt := topS 30
abbrev N_p_loose_people : List Str := ["sheet", "size", "person"]
theorem sc_p_loose_people : FnScope ["sheet", "size", "person"] ["sheet"] (defScope s_p_loose_people) := ⟨rfl, rfl, rfl, by decide +kernel, rfl, by decide +kernel, by decide +kernel⟩
abbrev s_p_results_many : Stmt := topS 31
abbrev N_p_results_many : List Str := ["sheet"]
theorem sc_p_results_many : FnScope ["sheet"] ["sheet"] (defScope s_p_results_many) := ⟨rfl, rfl, rfl, by decide +kernel, rfl, by decide +kernel, by decide +kernel⟩
abbrev s_p_result_at : Stmt := topS 32
abbrev N_p_result_at : List Str := ["sheet", "number", "people", "chosen", "x", "y"]
theorem sc_p_result_at : FnScope ["sheet", "number", "people", "chosen", "x", "y"] ["sheet", "number"] (defScope s_p_result_at) := ⟨rfl, rfl, rfl, by decide +kernel, rfl, by decide +kernel, by decide +kernel⟩
abbrev s_p_crossings : Stmt := topS 34
abbrev N_p_crossings : List Str := ["sheet", "above", "found", "number", "ends", "at", "other", "x", "y"]
theorem sc_p_crossings : FnScope ["sheet", "above", "found", "number", "ends", "at", "other", "x", "y"] ["sheet"] (defScope s_p_crossings) := ⟨rfl, rfl, rfl, by decide +kernel, rfl, by decide +kernel, by decide +kernel⟩
abbrev s_p_do_same : Stmt := topS 35
abbrev N_p_do_same : List Str := ["one", "other", "first", "second"]
theorem sc_p_do_same : FnScope ["one", "other", "first", "second"] ["one", "other"] (defScope s_p_do_same) := ⟨rfl, rfl, rfl, by decide +kernel, rfl, by decide +kernel, by decide +kernel⟩
abbrev s_p_is_settled : Stmt := topS 37
abbrev N_p_is_settled : List Str := ["sheet"]
theorem sc_p_is_settled : FnScope ["sheet"] ["sheet"] (defScope s_p_is_settled) := ⟨rfl, rfl, rfl, by decide +kernel, rfl, by decide +kernel, by decide +kernel⟩
abbrev s_p_settled_pairing : Stmt := topS 38
abbrev N_p_settled_pairing : List Str := ["sheet", "many"]
theorem sc_p_settled_pairing : FnScope ["sheet", "many"] ["sheet"] (defScope s_p_settled_pairing) := ⟨rfl, rfl, rfl, by decide +kernel, rfl, by decide +kernel, by decide +kernel⟩
abbrev s_p_word_to_settle : Stmt := topS 39
abbrev N_p_word_to_settle : List Str := ["sheet", "people", "at"]
theorem sc_p_word_to_settle : FnScope ["sheet", "people", "at"] ["sheet"] (defScope s_p_word_to_settle) := ⟨rfl, rfl, rfl, by decide +kernel, rfl, by decide +kernel, by decide +kernel⟩
abbrev s_p_fewest_to_settle : Stmt := topS 40
abbrev N_p_fewest_to_settle : List Str := ["sheet"]
theorem sc_p_fewest_to_settle : FnScope ["sheet"] ["sheet"] (defScope s_p_fewest_to_settle) := ⟨rfl, rfl, rfl, by decide +kernel, rfl, by decide +kernel, by decide +kernel⟩
abbrev s_p_settle_word : Stmt := topS 41
abbrev N_p_settle_word : List Str := ["pairing"]
theorem sc_p_settle_word : FnScope ["pairing"] ["pairing"] (defScope s_p_settle_word) := ⟨rfl, rfl, rfl, by decide +kernel, rfl, by decide +kernel, by decide +kernel⟩
abbrev s_p_loop_of : Stmt := topS 43
abbrev N_p_loop_of : List Str := ["sheet", "person", "size", "people", "end"]
theorem sc_p_loop_of : FnScope ["sheet", "person", "size", "people", "end"] ["sheet", "person"] (defScope s_p_loop_of) := ⟨rfl, rfl, rfl, by decide +kernel, rfl, by decide +kernel, by decide +kernel⟩
abbrev s_p_loops : Stmt := topS 44
abbrev N_p_loops : List Str := ["sheet", "found", "seen", "person", "loop", "member"]
theorem sc_p_loops : FnScope ["sheet", "found", "seen", "person", "loop", "member"] ["sheet"] (defScope s_p_loops) := ⟨rfl, rfl, rfl, by decide +kernel, rfl, by decide +kernel, by decide +kernel⟩
abbrev s_p_is_pure : Stmt := topS 45
abbrev N_p_is_pure : List Str := ["sheet", "loop", "person"]
theorem sc_p_is_pure : FnScope ["sheet", "loop", "person"] ["sheet", "loop"] (defScope s_p_is_pure) := ⟨rfl, rfl, rfl, by decide +kernel, rfl, by decide +kernel, by decide +kernel⟩
abbrev s_p_pure_loops : Stmt := topS 46
abbrev N_p_pure_loops : List Str := ["sheet", "loop"]
theorem sc_p_pure_loops : FnScope ["sheet", "loop"] ["sheet"] (defScope s_p_pure_loops) := ⟨rfl, rfl, rfl, by decide +kernel, rfl, by decide +kernel, by decide +kernel⟩
abbrev s_p_has_word : Stmt := topS 47
abbrev N_p_has_word : List Str := ["sheet"]
theorem sc_p_has_word : FnScope ["sheet"] ["sheet"] (defScope s_p_has_word) := ⟨rfl, rfl, rfl, by decide +kernel, rfl, by decide +kernel, by decide +kernel⟩
abbrev s_p_fewest_calls : Stmt := topS 48
abbrev N_p_fewest_calls : List Str := ["sheet"]
theorem sc_p_fewest_calls : FnScope ["sheet"] ["sheet"] (defScope s_p_fewest_calls) := ⟨rfl, rfl, rfl, by decide +kernel, rfl, by decide +kernel, by decide +kernel⟩
abbrev s_p_undone_calls : Stmt := topS 49
abbrev N_p_undone_calls : List Str := ["ends", "pure", "size", "undone", "loop", "a", "b", "alone"]
theorem sc_p_undone_calls : FnScope ["ends", "pure", "size", "undone", "loop", "a", "b", "alone"] ["ends", "pure"] (defScope s_p_undone_calls) := ⟨rfl, rfl, rfl, by decide +kernel, rfl, by decide +kernel, by decide +kernel⟩
abbrev s_p_word_for : Stmt := topS 50
abbrev N_p_word_for : List Str := ["sheet"]
theorem sc_p_word_for : FnScope ["sheet"] ["sheet"] (defScope s_p_word_for) := ⟨rfl, rfl, rfl, by decide +kernel, rfl, by decide +kernel, by decide +kernel⟩
abbrev s_p_word_same : Stmt := topS 51
abbrev N_p_word_same : List Str := ["sheet", "alike", "words", "other"]
theorem sc_p_word_same : FnScope ["sheet", "alike", "words", "other"] ["sheet"] (defScope s_p_word_same) := ⟨rfl, rfl, rfl, by decide +kernel, rfl, by decide +kernel, by decide +kernel⟩
abbrev s_p_fewest_same : Stmt := topS 52
abbrev N_p_fewest_same : List Str := ["sheet"]
theorem sc_p_fewest_same : FnScope ["sheet"] ["sheet"] (defScope s_p_fewest_same) := ⟨rfl, rfl, rfl, by decide +kernel, rfl, by decide +kernel, by decide +kernel⟩
abbrev s_p_common_multiple : Stmt := topS 54
abbrev N_p_common_multiple : List Str := ["one", "other", "divisor", "rest"]
theorem sc_p_common_multiple : FnScope ["one", "other", "divisor", "rest"] ["one", "other"] (defScope s_p_common_multiple) := ⟨rfl, rfl, rfl, by decide +kernel, rfl, by decide +kernel, by decide +kernel⟩
abbrev s_p_moves_of_strands : Stmt := topS 55
abbrev N_p_moves_of_strands : List Str := ["sheet", "size", "late", "later", "x"]
theorem sc_p_moves_of_strands : FnScope ["sheet", "size", "late", "later", "x"] ["sheet"] (defScope s_p_moves_of_strands) := ⟨rfl, rfl, rfl, by decide +kernel, rfl, by decide +kernel, by decide +kernel⟩
abbrev s_p_period_of_sheet : Stmt := topS 56
abbrev N_p_period_of_sheet : List Str := ["sheet", "moves", "period", "start", "length", "end"]
theorem sc_p_period_of_sheet : FnScope ["sheet", "moves", "period", "start", "length", "end"] ["sheet"] (defScope s_p_period_of_sheet) := ⟨rfl, rfl, rfl, by decide +kernel, rfl, by decide +kernel, by decide +kernel⟩
abbrev s_p_sheet_settles : Stmt := topS 57
abbrev N_p_sheet_settles : List Str := ["size", "word", "sheet", "period", "around", "present", "begin"]
theorem sc_p_sheet_settles : FnScope ["size", "word", "sheet", "period", "around", "present", "begin"] ["size", "word"] (defScope s_p_sheet_settles) := ⟨rfl, rfl, rfl, by decide +kernel, rfl, by decide +kernel, by decide +kernel⟩
abbrev s_stream : Stmt := topS 59
abbrev N_stream : List Str := ["_law_script", "_law_k", "_law_cell"]
theorem sc_stream : FnScope ["_law_script", "_law_k", "_law_cell"] ["_law_script", "_law_k"] (defScope s_stream) := ⟨rfl, rfl, rfl, by decide +kernel, rfl, by decide +kernel, by decide +kernel⟩
abbrev s_draw : Stmt := topS 60
abbrev N_draw : List Str := ["_law_source", "_law_bound", "_law_found", "_law_once", "_law_twice"]
theorem sc_draw : FnScope ["_law_source", "_law_bound", "_law_found", "_law_once", "_law_twice"] ["_law_source", "_law_bound"] (defScope s_draw) := ⟨rfl, rfl, rfl, by decide +kernel, rfl, by decide +kernel, by decide +kernel⟩
abbrev s_folded : Stmt := topS 61
abbrev N_folded : List Str := ["_law_script", "_law_most", "_law_cells", "_law_k", "_law_cell"]
theorem sc_folded : FnScope ["_law_script", "_law_most", "_law_cells", "_law_k", "_law_cell"] ["_law_script", "_law_most"] (defScope s_folded) := ⟨rfl, rfl, rfl, by decide +kernel, rfl, by decide +kernel, by decide +kernel⟩
abbrev s_same : Stmt := topS 62
abbrev N_same : List Str := ["_law_found", "_law_due", "_law_mine", "_law_its"]
theorem sc_same : FnScope ["_law_found", "_law_due", "_law_mine", "_law_its"] ["_law_found", "_law_due"] (defScope s_same) := ⟨rfl, rfl, rfl, by decide +kernel, rfl, by decide +kernel, by decide +kernel⟩
abbrev s_chain_right : Stmt := topS 63
abbrev N_chain_right : List Str := ["_law_crowd", "_law_far", "_law_tape", "_law_page", "_law_due", "_law_laps", "_law_there_back", "_law_odd", "_law_factor", "_law_spot"]
theorem sc_chain_right : FnScope ["_law_crowd", "_law_far", "_law_tape", "_law_page", "_law_due", "_law_laps", "_law_there_back", "_law_odd", "_law_factor", "_law_spot"] ["_law_crowd", "_law_far"] (defScope s_chain_right) := ⟨rfl, rfl, rfl, by decide +kernel, rfl, by decide +kernel, by decide +kernel⟩
abbrev s_couples_right : Stmt := topS 64
abbrev N_couples_right : List Str := ["_law_crowd", "_law_duos", "_law_full", "_law_short", "_law_found", "_law_spot"]
theorem sc_couples_right : FnScope ["_law_crowd", "_law_duos", "_law_full", "_law_short", "_law_found", "_law_spot"] ["_law_crowd"] (defScope s_couples_right) := ⟨rfl, rfl, rfl, by decide +kernel, rfl, by decide +kernel, by decide +kernel⟩
abbrev s_round_right : Stmt := topS 65
abbrev N_round_right : List Str := ["_law_crowd", "_law_rest", "_law_ends", "_law_page", "_law_tape", "_law_spot"]
theorem sc_round_right : FnScope ["_law_crowd", "_law_rest", "_law_ends", "_law_page", "_law_tape", "_law_spot"] ["_law_crowd"] (defScope s_round_right) := ⟨rfl, rfl, rfl, by decide +kernel, rfl, by decide +kernel, by decide +kernel⟩
abbrev s_right : Stmt := topS 66
abbrev N_right : List Str := ["_law_source", "_law_crowd", "_law_far"]
theorem sc_right : FnScope ["_law_source", "_law_crowd", "_law_far"] ["_law_source"] (defScope s_right) := ⟨rfl, rfl, rfl, by decide +kernel, rfl, by decide +kernel, by decide +kernel⟩
abbrev s_law : Stmt := topS 67
abbrev N_law : List Str := ["_law_script", "_law_cells", "_law_k", "_law_source", "_law_turn"]
theorem sc_law : FnScope ["_law_script", "_law_cells", "_law_k", "_law_source", "_law_turn"] ["_law_script"] (defScope s_law) := ⟨rfl, rfl, rfl, by decide +kernel, rfl, by decide +kernel, by decide +kernel⟩
set_option genInjectivity false in
set_option genSizeOf false in
structure Env (K : PySem.W.Frag) (mg : Str → Option Value) where
  n_enumerate : mg "enumerate" = none
  n_len : mg "len" = none
  n_tuple : mg "tuple" = none
  n_range : mg "range" = none
  n_list : mg "list" = none
  n_divmod : mg "divmod" = none
  n_sorted : mg "sorted" = none
  n_set : mg "set" = none
  n_all : mg "all" = none
  n_min : mg "min" = none
  n_abs : mg "abs" = none
  n_int : mg "int" = none
  n_isinstance : mg "isinstance" = none
  n_zip : mg "zip" = none
  n_bool : mg "bool" = none
  n_str : mg "str" = none
  n_max : mg "max" = none
  f_p_couples : Addr
  d_p_couples : FuncData
  F_p_couples : Fun K "couples" "couples" s_p_couples f_p_couples d_p_couples
  g_p_couples : mg "couples" = some (.ref f_p_couples)
  f_p_pairing_of : Addr
  d_p_pairing_of : FuncData
  F_p_pairing_of : Fun K "pairing_of" "pairing_of" s_p_pairing_of f_p_pairing_of d_p_pairing_of
  g_p_pairing_of : mg "pairing_of" = some (.ref f_p_pairing_of)
  f_p_pairings_many : Addr
  d_p_pairings_many : FuncData
  F_p_pairings_many : Fun K "pairings_many" "pairings_many" s_p_pairings_many f_p_pairings_many d_p_pairings_many
  g_p_pairings_many : mg "pairings_many" = some (.ref f_p_pairings_many)
  f_p_pairing_at : Addr
  d_p_pairing_at : FuncData
  F_p_pairing_at : Fun K "pairing_at" "pairing_at" s_p_pairing_at f_p_pairing_at d_p_pairing_at
  g_p_pairing_at : mg "pairing_at" = some (.ref f_p_pairing_at)
  f_p_check_person : Addr
  d_p_check_person : FuncData
  F_p_check_person : Fun K "check_person" "check_person" s_p_check_person f_p_check_person d_p_check_person
  g_p_check_person : mg "check_person" = some (.ref f_p_check_person)
  f_p_check_call : Addr
  d_p_check_call : FuncData
  F_p_check_call : Fun K "check_call" "check_call" s_p_check_call f_p_check_call d_p_check_call
  g_p_check_call : mg "check_call" = some (.ref f_p_check_call)
  f_p_check_word : Addr
  d_p_check_word : FuncData
  F_p_check_word : Fun K "check_word" "check_word" s_p_check_word f_p_check_word d_p_check_word
  g_p_check_word : mg "check_word" = some (.ref f_p_check_word)
  f_p_join_two : Addr
  d_p_join_two : FuncData
  F_p_join_two : Fun K "join_two" "join_two" s_p_join_two f_p_join_two d_p_join_two
  g_p_join_two : mg "join_two" = some (.ref f_p_join_two)
  f_p_people_of : Addr
  d_p_people_of : FuncData
  F_p_people_of : Fun K "people_of" "people_of" s_p_people_of f_p_people_of d_p_people_of
  g_p_people_of : mg "people_of" = some (.ref f_p_people_of)
  f_p_check_sizes : Addr
  d_p_check_sizes : FuncData
  F_p_check_sizes : Fun K "check_sizes" "check_sizes" s_p_check_sizes f_p_check_sizes d_p_check_sizes
  g_p_check_sizes : mg "check_sizes" = some (.ref f_p_check_sizes)
  f_p_empty_sheet : Addr
  d_p_empty_sheet : FuncData
  F_p_empty_sheet : Fun K "empty_sheet" "empty_sheet" s_p_empty_sheet f_p_empty_sheet d_p_empty_sheet
  g_p_empty_sheet : mg "empty_sheet" = some (.ref f_p_empty_sheet)
  f_p_with_word : Addr
  d_p_with_word : FuncData
  F_p_with_word : Fun K "with_word" "with_word" s_p_with_word f_p_with_word d_p_with_word
  g_p_with_word : mg "with_word" = some (.ref f_p_with_word)
  f_p_sheet_of : Addr
  d_p_sheet_of : FuncData
  F_p_sheet_of : Fun K "sheet_of" "sheet_of" s_p_sheet_of f_p_sheet_of d_p_sheet_of
  g_p_sheet_of : mg "sheet_of" = some (.ref f_p_sheet_of)
  f_p_upper_pairs : Addr
  d_p_upper_pairs : FuncData
  F_p_upper_pairs : Fun K "upper_pairs" "upper_pairs" s_p_upper_pairs f_p_upper_pairs d_p_upper_pairs
  g_p_upper_pairs : mg "upper_pairs" = some (.ref f_p_upper_pairs)
  f_p_lower_pairs : Addr
  d_p_lower_pairs : FuncData
  F_p_lower_pairs : Fun K "lower_pairs" "lower_pairs" s_p_lower_pairs f_p_lower_pairs d_p_lower_pairs
  g_p_lower_pairs : mg "lower_pairs" = some (.ref f_p_lower_pairs)
  f_p_strands : Addr
  d_p_strands : FuncData
  F_p_strands : Fun K "strands" "strands" s_p_strands f_p_strands d_p_strands
  g_p_strands : mg "strands" = some (.ref f_p_strands)
  f_p_far_end : Addr
  d_p_far_end : FuncData
  F_p_far_end : Fun K "far_end" "far_end" s_p_far_end f_p_far_end d_p_far_end
  g_p_far_end : mg "far_end" = some (.ref f_p_far_end)
  f_p_followed : Addr
  d_p_followed : FuncData
  F_p_followed : Fun K "followed" "followed" s_p_followed f_p_followed d_p_followed
  g_p_followed : mg "followed" = some (.ref f_p_followed)
  f_p_times : Addr
  d_p_times : FuncData
  F_p_times : Fun K "times" "times" s_p_times f_p_times d_p_times
  g_p_times : mg "times" = some (.ref f_p_times)
  f_p_other_side : Addr
  d_p_other_side : FuncData
  F_p_other_side : Fun K "other_side" "other_side" s_p_other_side f_p_other_side d_p_other_side
  g_p_other_side : mg "other_side" = some (.ref f_p_other_side)
  f_p_loose_people : Addr
  d_p_loose_people : FuncData
  F_p_loose_people : Fun K "loose_people" "loose_people" s_p_loose_people f_p_loose_people d_p_loose_people
  g_p_loose_people : mg "loose_people" = some (.ref f_p_loose_people)
  f_p_results_many : Addr
  d_p_results_many : FuncData
  F_p_results_many : Fun K "results_many" "results_many" s_p_results_many f_p_results_many d_p_results_many
  g_p_results_many : mg "results_many" = some (.ref f_p_results_many)
  f_p_result_at : Addr
  d_p_result_at : FuncData
  F_p_result_at : Fun K "result_at" "result_at" s_p_result_at f_p_result_at d_p_result_at
  g_p_result_at : mg "result_at" = some (.ref f_p_result_at)
  f_p_crossings : Addr
  d_p_crossings : FuncData
  F_p_crossings : Fun K "crossings" "crossings" s_p_crossings f_p_crossings d_p_crossings
  g_p_crossings : mg "crossings" = some (.ref f_p_crossings)
  f_p_do_same : Addr
  d_p_do_same : FuncData
  F_p_do_same : Fun K "do_same" "do_same" s_p_do_same f_p_do_same d_p_do_same
  g_p_do_same : mg "do_same" = some (.ref f_p_do_same)
  f_p_is_settled : Addr
  d_p_is_settled : FuncData
  F_p_is_settled : Fun K "is_settled" "is_settled" s_p_is_settled f_p_is_settled d_p_is_settled
  g_p_is_settled : mg "is_settled" = some (.ref f_p_is_settled)
  f_p_settled_pairing : Addr
  d_p_settled_pairing : FuncData
  F_p_settled_pairing : Fun K "settled_pairing" "settled_pairing" s_p_settled_pairing f_p_settled_pairing d_p_settled_pairing
  g_p_settled_pairing : mg "settled_pairing" = some (.ref f_p_settled_pairing)
  f_p_word_to_settle : Addr
  d_p_word_to_settle : FuncData
  F_p_word_to_settle : Fun K "word_to_settle" "word_to_settle" s_p_word_to_settle f_p_word_to_settle d_p_word_to_settle
  g_p_word_to_settle : mg "word_to_settle" = some (.ref f_p_word_to_settle)
  f_p_fewest_to_settle : Addr
  d_p_fewest_to_settle : FuncData
  F_p_fewest_to_settle : Fun K "fewest_to_settle" "fewest_to_settle" s_p_fewest_to_settle f_p_fewest_to_settle d_p_fewest_to_settle
  g_p_fewest_to_settle : mg "fewest_to_settle" = some (.ref f_p_fewest_to_settle)
  f_p_settle_word : Addr
  d_p_settle_word : FuncData
  F_p_settle_word : Fun K "settle_word" "settle_word" s_p_settle_word f_p_settle_word d_p_settle_word
  g_p_settle_word : mg "settle_word" = some (.ref f_p_settle_word)
  f_p_loop_of : Addr
  d_p_loop_of : FuncData
  F_p_loop_of : Fun K "loop_of" "loop_of" s_p_loop_of f_p_loop_of d_p_loop_of
  g_p_loop_of : mg "loop_of" = some (.ref f_p_loop_of)
  f_p_loops : Addr
  d_p_loops : FuncData
  F_p_loops : Fun K "loops" "loops" s_p_loops f_p_loops d_p_loops
  g_p_loops : mg "loops" = some (.ref f_p_loops)
  f_p_is_pure : Addr
  d_p_is_pure : FuncData
  F_p_is_pure : Fun K "is_pure" "is_pure" s_p_is_pure f_p_is_pure d_p_is_pure
  g_p_is_pure : mg "is_pure" = some (.ref f_p_is_pure)
  f_p_pure_loops : Addr
  d_p_pure_loops : FuncData
  F_p_pure_loops : Fun K "pure_loops" "pure_loops" s_p_pure_loops f_p_pure_loops d_p_pure_loops
  g_p_pure_loops : mg "pure_loops" = some (.ref f_p_pure_loops)
  f_p_has_word : Addr
  d_p_has_word : FuncData
  F_p_has_word : Fun K "has_word" "has_word" s_p_has_word f_p_has_word d_p_has_word
  g_p_has_word : mg "has_word" = some (.ref f_p_has_word)
  f_p_fewest_calls : Addr
  d_p_fewest_calls : FuncData
  F_p_fewest_calls : Fun K "fewest_calls" "fewest_calls" s_p_fewest_calls f_p_fewest_calls d_p_fewest_calls
  g_p_fewest_calls : mg "fewest_calls" = some (.ref f_p_fewest_calls)
  f_p_undone_calls : Addr
  d_p_undone_calls : FuncData
  F_p_undone_calls : Fun K "undone_calls" "undone_calls" s_p_undone_calls f_p_undone_calls d_p_undone_calls
  g_p_undone_calls : mg "undone_calls" = some (.ref f_p_undone_calls)
  f_p_word_for : Addr
  d_p_word_for : FuncData
  F_p_word_for : Fun K "word_for" "word_for" s_p_word_for f_p_word_for d_p_word_for
  g_p_word_for : mg "word_for" = some (.ref f_p_word_for)
  f_p_word_same : Addr
  d_p_word_same : FuncData
  F_p_word_same : Fun K "word_same" "word_same" s_p_word_same f_p_word_same d_p_word_same
  g_p_word_same : mg "word_same" = some (.ref f_p_word_same)
  f_p_fewest_same : Addr
  d_p_fewest_same : FuncData
  F_p_fewest_same : Fun K "fewest_same" "fewest_same" s_p_fewest_same f_p_fewest_same d_p_fewest_same
  g_p_fewest_same : mg "fewest_same" = some (.ref f_p_fewest_same)
  f_p_common_multiple : Addr
  d_p_common_multiple : FuncData
  F_p_common_multiple : Fun K "common_multiple" "common_multiple" s_p_common_multiple f_p_common_multiple d_p_common_multiple
  g_p_common_multiple : mg "common_multiple" = some (.ref f_p_common_multiple)
  f_p_moves_of_strands : Addr
  d_p_moves_of_strands : FuncData
  F_p_moves_of_strands : Fun K "moves_of_strands" "moves_of_strands" s_p_moves_of_strands f_p_moves_of_strands d_p_moves_of_strands
  g_p_moves_of_strands : mg "moves_of_strands" = some (.ref f_p_moves_of_strands)
  f_p_period_of_sheet : Addr
  d_p_period_of_sheet : FuncData
  F_p_period_of_sheet : Fun K "period_of_sheet" "period_of_sheet" s_p_period_of_sheet f_p_period_of_sheet d_p_period_of_sheet
  g_p_period_of_sheet : mg "period_of_sheet" = some (.ref f_p_period_of_sheet)
  f_p_sheet_settles : Addr
  d_p_sheet_settles : FuncData
  F_p_sheet_settles : Fun K "sheet_settles" "sheet_settles" s_p_sheet_settles f_p_sheet_settles d_p_sheet_settles
  g_p_sheet_settles : mg "sheet_settles" = some (.ref f_p_sheet_settles)
  f_stream : Addr
  d_stream : FuncData
  F_stream : Fun K "_law_stream" "_law_stream" s_stream f_stream d_stream
  g_stream : mg "_law_stream" = some (.ref f_stream)
  f_draw : Addr
  d_draw : FuncData
  F_draw : Fun K "_law_draw" "_law_draw" s_draw f_draw d_draw
  g_draw : mg "_law_draw" = some (.ref f_draw)
  f_folded : Addr
  d_folded : FuncData
  F_folded : Fun K "_law_folded" "_law_folded" s_folded f_folded d_folded
  g_folded : mg "_law_folded" = some (.ref f_folded)
  f_same : Addr
  d_same : FuncData
  F_same : Fun K "_law_same" "_law_same" s_same f_same d_same
  g_same : mg "_law_same" = some (.ref f_same)
  f_chain_right : Addr
  d_chain_right : FuncData
  F_chain_right : Fun K "_law_chain_right" "_law_chain_right" s_chain_right f_chain_right d_chain_right
  g_chain_right : mg "_law_chain_right" = some (.ref f_chain_right)
  f_couples_right : Addr
  d_couples_right : FuncData
  F_couples_right : Fun K "_law_couples_right" "_law_couples_right" s_couples_right f_couples_right d_couples_right
  g_couples_right : mg "_law_couples_right" = some (.ref f_couples_right)
  f_round_right : Addr
  d_round_right : FuncData
  F_round_right : Fun K "_law_round_right" "_law_round_right" s_round_right f_round_right d_round_right
  g_round_right : mg "_law_round_right" = some (.ref f_round_right)
  f_right : Addr
  d_right : FuncData
  F_right : Fun K "_law_right" "_law_right" s_right f_right d_right
  g_right : mg "_law_right" = some (.ref f_right)
theorem Env.b_p_couples {K : PySem.W.Frag} {mg : Str → Option Value} (T : Env K mg) : Binds K T.d_p_couples ["pairing"] [] := T.F_p_couples.binds fun _ _ _ _ _ _ us hl => match us, hl with | [_], _ => rfl
theorem Env.b_p_pairing_of {K : PySem.W.Frag} {mg : Str → Option Value} (T : Env K mg) : Binds K T.d_p_pairing_of ["couples"] [] := T.F_p_pairing_of.binds fun _ _ _ _ _ _ us hl => match us, hl with | [_], _ => rfl
theorem Env.b_p_pairings_many {K : PySem.W.Frag} {mg : Str → Option Value} (T : Env K mg) : Binds K T.d_p_pairings_many ["size"] [] := T.F_p_pairings_many.binds fun _ _ _ _ _ _ us hl => match us, hl with | [_], _ => rfl
theorem Env.b_p_pairing_at {K : PySem.W.Frag} {mg : Str → Option Value} (T : Env K mg) : Binds K T.d_p_pairing_at ["size", "number"] [] := T.F_p_pairing_at.binds fun _ _ _ _ _ _ us hl => match us, hl with | [_, _], _ => rfl
theorem Env.b_p_check_person {K : PySem.W.Frag} {mg : Str → Option Value} (T : Env K mg) : Binds K T.d_p_check_person ["size", "person"] [] := T.F_p_check_person.binds fun _ _ _ _ _ _ us hl => match us, hl with | [_, _], _ => rfl
theorem Env.b_p_check_call {K : PySem.W.Frag} {mg : Str → Option Value} (T : Env K mg) : Binds K T.d_p_check_call ["size", "call"] [] := T.F_p_check_call.binds fun _ _ _ _ _ _ us hl => match us, hl with | [_, _], _ => rfl
theorem Env.b_p_check_word {K : PySem.W.Frag} {mg : Str → Option Value} (T : Env K mg) : Binds K T.d_p_check_word ["size", "word"] [] := T.F_p_check_word.binds fun _ _ _ _ _ _ us hl => match us, hl with | [_, _], _ => rfl
theorem Env.b_p_join_two {K : PySem.W.Frag} {mg : Str → Option Value} (T : Env K mg) : Binds K T.d_p_join_two ["joined", "a", "b"] [] := T.F_p_join_two.binds fun _ _ _ _ _ _ us hl => match us, hl with | [_, _, _], _ => rfl
theorem Env.b_p_people_of {K : PySem.W.Frag} {mg : Str → Option Value} (T : Env K mg) : Binds K T.d_p_people_of ["sheet"] [] := T.F_p_people_of.binds fun _ _ _ _ _ _ us hl => match us, hl with | [_], _ => rfl
theorem Env.b_p_check_sizes {K : PySem.W.Frag} {mg : Str → Option Value} (T : Env K mg) : Binds K T.d_p_check_sizes ["first", "second"] [] := T.F_p_check_sizes.binds fun _ _ _ _ _ _ us hl => match us, hl with | [_, _], _ => rfl
theorem Env.b_p_empty_sheet {K : PySem.W.Frag} {mg : Str → Option Value} (T : Env K mg) : Binds K T.d_p_empty_sheet ["size"] [] := T.F_p_empty_sheet.binds fun _ _ _ _ _ _ us hl => match us, hl with | [_], _ => rfl
theorem Env.b_p_with_word {K : PySem.W.Frag} {mg : Str → Option Value} (T : Env K mg) : Binds K T.d_p_with_word ["sheet", "word"] [] := T.F_p_with_word.binds fun _ _ _ _ _ _ us hl => match us, hl with | [_, _], _ => rfl
theorem Env.b_p_sheet_of {K : PySem.W.Frag} {mg : Str → Option Value} (T : Env K mg) : Binds K T.d_p_sheet_of ["size", "word"] [] := T.F_p_sheet_of.binds fun _ _ _ _ _ _ us hl => match us, hl with | [_, _], _ => rfl
theorem Env.b_p_upper_pairs {K : PySem.W.Frag} {mg : Str → Option Value} (T : Env K mg) : Binds K T.d_p_upper_pairs ["sheet"] [] := T.F_p_upper_pairs.binds fun _ _ _ _ _ _ us hl => match us, hl with | [_], _ => rfl
theorem Env.b_p_lower_pairs {K : PySem.W.Frag} {mg : Str → Option Value} (T : Env K mg) : Binds K T.d_p_lower_pairs ["sheet"] [] := T.F_p_lower_pairs.binds fun _ _ _ _ _ _ us hl => match us, hl with | [_], _ => rfl
theorem Env.b_p_strands {K : PySem.W.Frag} {mg : Str → Option Value} (T : Env K mg) : Binds K T.d_p_strands ["sheet"] [] := T.F_p_strands.binds fun _ _ _ _ _ _ us hl => match us, hl with | [_], _ => rfl
theorem Env.b_p_far_end {K : PySem.W.Frag} {mg : Str → Option Value} (T : Env K mg) : Binds K T.d_p_far_end ["one", "other", "start"] [] := T.F_p_far_end.binds fun _ _ _ _ _ _ us hl => match us, hl with | [_, _, _], _ => rfl
theorem Env.b_p_followed {K : PySem.W.Frag} {mg : Str → Option Value} (T : Env K mg) : Binds K T.d_p_followed ["one", "other"] [] := T.F_p_followed.binds fun _ _ _ _ _ _ us hl => match us, hl with | [_, _], _ => rfl
theorem Env.b_p_times {K : PySem.W.Frag} {mg : Str → Option Value} (T : Env K mg) : Binds K T.d_p_times ["sheet", "many"] [] := T.F_p_times.binds fun _ _ _ _ _ _ us hl => match us, hl with | [_, _], _ => rfl
theorem Env.b_p_other_side {K : PySem.W.Frag} {mg : Str → Option Value} (T : Env K mg) : Binds K T.d_p_other_side ["size", "end"] [] := T.F_p_other_side.binds fun _ _ _ _ _ _ us hl => match us, hl with | [_, _], _ => rfl
theorem Env.b_p_loose_people {K : PySem.W.Frag} {mg : Str → Option Value} (T : Env K mg) : Binds K T.d_p_loose_people ["sheet"] [] := T.F_p_loose_people.binds fun _ _ _ _ _ _ us hl => match us, hl with | [_], _ => rfl
theorem Env.b_p_results_many {K : PySem.W.Frag} {mg : Str → Option Value} (T : Env K mg) : Binds K T.d_p_results_many ["sheet"] [] := T.F_p_results_many.binds fun _ _ _ _ _ _ us hl => match us, hl with | [_], _ => rfl
theorem Env.b_p_result_at {K : PySem.W.Frag} {mg : Str → Option Value} (T : Env K mg) : Binds K T.d_p_result_at ["sheet", "number"] [] := T.F_p_result_at.binds fun _ _ _ _ _ _ us hl => match us, hl with | [_, _], _ => rfl
theorem Env.b_p_crossings {K : PySem.W.Frag} {mg : Str → Option Value} (T : Env K mg) : Binds K T.d_p_crossings ["sheet"] [] := T.F_p_crossings.binds fun _ _ _ _ _ _ us hl => match us, hl with | [_], _ => rfl
theorem Env.b_p_do_same {K : PySem.W.Frag} {mg : Str → Option Value} (T : Env K mg) : Binds K T.d_p_do_same ["one", "other"] [] := T.F_p_do_same.binds fun _ _ _ _ _ _ us hl => match us, hl with | [_, _], _ => rfl
theorem Env.b_p_is_settled {K : PySem.W.Frag} {mg : Str → Option Value} (T : Env K mg) : Binds K T.d_p_is_settled ["sheet"] [] := T.F_p_is_settled.binds fun _ _ _ _ _ _ us hl => match us, hl with | [_], _ => rfl
theorem Env.b_p_settled_pairing {K : PySem.W.Frag} {mg : Str → Option Value} (T : Env K mg) : Binds K T.d_p_settled_pairing ["sheet"] [] := T.F_p_settled_pairing.binds fun _ _ _ _ _ _ us hl => match us, hl with | [_], _ => rfl
theorem Env.b_p_word_to_settle {K : PySem.W.Frag} {mg : Str → Option Value} (T : Env K mg) : Binds K T.d_p_word_to_settle ["sheet"] [] := T.F_p_word_to_settle.binds fun _ _ _ _ _ _ us hl => match us, hl with | [_], _ => rfl
theorem Env.b_p_fewest_to_settle {K : PySem.W.Frag} {mg : Str → Option Value} (T : Env K mg) : Binds K T.d_p_fewest_to_settle ["sheet"] [] := T.F_p_fewest_to_settle.binds fun _ _ _ _ _ _ us hl => match us, hl with | [_], _ => rfl
theorem Env.b_p_settle_word {K : PySem.W.Frag} {mg : Str → Option Value} (T : Env K mg) : Binds K T.d_p_settle_word ["pairing"] [] := T.F_p_settle_word.binds fun _ _ _ _ _ _ us hl => match us, hl with | [_], _ => rfl
theorem Env.b_p_loop_of {K : PySem.W.Frag} {mg : Str → Option Value} (T : Env K mg) : Binds K T.d_p_loop_of ["sheet", "person"] [] := T.F_p_loop_of.binds fun _ _ _ _ _ _ us hl => match us, hl with | [_, _], _ => rfl
theorem Env.b_p_loops {K : PySem.W.Frag} {mg : Str → Option Value} (T : Env K mg) : Binds K T.d_p_loops ["sheet"] [] := T.F_p_loops.binds fun _ _ _ _ _ _ us hl => match us, hl with | [_], _ => rfl
theorem Env.b_p_is_pure {K : PySem.W.Frag} {mg : Str → Option Value} (T : Env K mg) : Binds K T.d_p_is_pure ["sheet", "loop"] [] := T.F_p_is_pure.binds fun _ _ _ _ _ _ us hl => match us, hl with | [_, _], _ => rfl
theorem Env.b_p_pure_loops {K : PySem.W.Frag} {mg : Str → Option Value} (T : Env K mg) : Binds K T.d_p_pure_loops ["sheet"] [] := T.F_p_pure_loops.binds fun _ _ _ _ _ _ us hl => match us, hl with | [_], _ => rfl
theorem Env.b_p_has_word {K : PySem.W.Frag} {mg : Str → Option Value} (T : Env K mg) : Binds K T.d_p_has_word ["sheet"] [] := T.F_p_has_word.binds fun _ _ _ _ _ _ us hl => match us, hl with | [_], _ => rfl
theorem Env.b_p_fewest_calls {K : PySem.W.Frag} {mg : Str → Option Value} (T : Env K mg) : Binds K T.d_p_fewest_calls ["sheet"] [] := T.F_p_fewest_calls.binds fun _ _ _ _ _ _ us hl => match us, hl with | [_], _ => rfl
theorem Env.b_p_undone_calls {K : PySem.W.Frag} {mg : Str → Option Value} (T : Env K mg) : Binds K T.d_p_undone_calls ["ends", "pure"] [] := T.F_p_undone_calls.binds fun _ _ _ _ _ _ us hl => match us, hl with | [_, _], _ => rfl
theorem Env.b_p_word_for {K : PySem.W.Frag} {mg : Str → Option Value} (T : Env K mg) : Binds K T.d_p_word_for ["sheet"] [] := T.F_p_word_for.binds fun _ _ _ _ _ _ us hl => match us, hl with | [_], _ => rfl
theorem Env.b_p_word_same {K : PySem.W.Frag} {mg : Str → Option Value} (T : Env K mg) : Binds K T.d_p_word_same ["sheet"] [] := T.F_p_word_same.binds fun _ _ _ _ _ _ us hl => match us, hl with | [_], _ => rfl
theorem Env.b_p_fewest_same {K : PySem.W.Frag} {mg : Str → Option Value} (T : Env K mg) : Binds K T.d_p_fewest_same ["sheet"] [] := T.F_p_fewest_same.binds fun _ _ _ _ _ _ us hl => match us, hl with | [_], _ => rfl
theorem Env.b_p_common_multiple {K : PySem.W.Frag} {mg : Str → Option Value} (T : Env K mg) : Binds K T.d_p_common_multiple ["one", "other"] [] := T.F_p_common_multiple.binds fun _ _ _ _ _ _ us hl => match us, hl with | [_, _], _ => rfl
theorem Env.b_p_moves_of_strands {K : PySem.W.Frag} {mg : Str → Option Value} (T : Env K mg) : Binds K T.d_p_moves_of_strands ["sheet"] [] := T.F_p_moves_of_strands.binds fun _ _ _ _ _ _ us hl => match us, hl with | [_], _ => rfl
theorem Env.b_p_period_of_sheet {K : PySem.W.Frag} {mg : Str → Option Value} (T : Env K mg) : Binds K T.d_p_period_of_sheet ["sheet"] [] := T.F_p_period_of_sheet.binds fun _ _ _ _ _ _ us hl => match us, hl with | [_], _ => rfl
theorem Env.b_p_sheet_settles {K : PySem.W.Frag} {mg : Str → Option Value} (T : Env K mg) : Binds K T.d_p_sheet_settles ["size", "word"] [] := T.F_p_sheet_settles.binds fun _ _ _ _ _ _ us hl => match us, hl with | [_, _], _ => rfl
theorem Env.b_stream {K : PySem.W.Frag} {mg : Str → Option Value} (T : Env K mg) : Binds K T.d_stream ["_law_script", "_law_k"] [] := T.F_stream.binds fun _ _ _ _ _ _ us hl => match us, hl with | [_, _], _ => rfl
theorem Env.b_draw {K : PySem.W.Frag} {mg : Str → Option Value} (T : Env K mg) : Binds K T.d_draw ["_law_source", "_law_bound"] [] := T.F_draw.binds fun _ _ _ _ _ _ us hl => match us, hl with | [_, _], _ => rfl
theorem Env.b_folded {K : PySem.W.Frag} {mg : Str → Option Value} (T : Env K mg) : Binds K T.d_folded ["_law_script", "_law_most"] [] := T.F_folded.binds fun _ _ _ _ _ _ us hl => match us, hl with | [_, _], _ => rfl
theorem Env.b_same {K : PySem.W.Frag} {mg : Str → Option Value} (T : Env K mg) : Binds K T.d_same ["_law_found", "_law_due"] [] := T.F_same.binds fun _ _ _ _ _ _ us hl => match us, hl with | [_, _], _ => rfl
theorem Env.b_chain_right {K : PySem.W.Frag} {mg : Str → Option Value} (T : Env K mg) : Binds K T.d_chain_right ["_law_crowd", "_law_far"] [] := T.F_chain_right.binds fun _ _ _ _ _ _ us hl => match us, hl with | [_, _], _ => rfl
theorem Env.b_couples_right {K : PySem.W.Frag} {mg : Str → Option Value} (T : Env K mg) : Binds K T.d_couples_right ["_law_crowd"] [] := T.F_couples_right.binds fun _ _ _ _ _ _ us hl => match us, hl with | [_], _ => rfl
theorem Env.b_round_right {K : PySem.W.Frag} {mg : Str → Option Value} (T : Env K mg) : Binds K T.d_round_right ["_law_crowd"] [] := T.F_round_right.binds fun _ _ _ _ _ _ us hl => match us, hl with | [_], _ => rfl
theorem Env.b_right {K : PySem.W.Frag} {mg : Str → Option Value} (T : Env K mg) : Binds K T.d_right ["_law_source"] [] := T.F_right.binds fun _ _ _ _ _ _ us hl => match us, hl with | [_], _ => rfl
end Pc

namespace Pc
open PySem PySem.Spec PyProof.Rows L2 RZ
section
variable {P : Program} {w : World} {K : PySem.W.Frag} {mg : Str → Option Value} {base : Heap}
/-! ### a source -/
def spBox (K : PySem.W.Frag) : Sp := fun vs H Q _ => ∃ (a : Addr) (ns : List Int) (k : Nat), vs = [.ref a, .int k] ∧ SqL K H a (ns.map V.int) ∧ k ≤ 100 ∧
  ∀ H' b, Same H H' → H b = none → Box 1000000000 H' b → Q (.ref b) H'
theorem ok_box (T : Env K mg) : FnOk P w K mg base CX0 1 T.f_stream T.d_stream ["_law_script", "_law_k"] (spBox K) := by
  refine T.F_stream.ok sc_stream (fun vs H Q E h => ?_) (fun cdv A outer s H vs Q E hr h => ?_)
  · obtain ⟨a, ns, k, rfl, _⟩ := h
    rfl
  · obtain ⟨a, ns, k, rfl, hS, hk, q⟩ := h
    refine ⟨_, pss_cons (ps_set (i := 2) sc_stream.nd rfl (.inl rfl) pe_int) <| pss_cons (ps_if (pt_cmpR op_lt (pv 1) (pe_callB call_len_seq (by rfl) T.n_len PySem.boot_len (pa_cons (pv 0) pa_nil)) (nomark _)) (pss_one (ps_set (i := 2) sc_stream.nd rfl (.inl rfl) (pe_ix ix_list (pv 0) (pv 1) (fun _ _ => rfl)))) pss_nil)
      (pss_one (ps_ret (pe_lst (pa_cons
          (pe_op op_mul (pe_callB call_abs (by rfl) T.n_abs (by decide +kernel) (pa_cons (pv 2) pa_nil))
            (pe_callTy call_int1 (by rfl) T.n_int (by decide +kernel) (pa_cons (pe_cmpR op_ge (pe_callB call_abs (by rfl) T.n_abs (by decide +kernel) (pa_cons (pv 2) pa_nil)) (pe_op op_pow pe_int pe_int) (nomark _)) pa_nil)))
        (pa_cons (pe_op op_add (pe_op op_add (pe_op op_mod (pv 2) pe_int) (pe_op op_mul pe_int (pv 1))) pe_int)
        (pa_cons pe_int pa_nil)))))), ?_⟩
    refine ⟨.int k, rfl, .ref a, rfl, a, ns.map V.int, rfl, .inl hS, _, _, rfl, rfl, _, rfl, ite2 (fun e => ?_) (fun e => ?_)⟩
    · have e1 : k < ns.length := by
        have := of_decide_eq_true e
        rw [List.length_map] at this
        omega
      refine ⟨.ref a, rfl, .int k, rfl, a, _, _, _, rfl, rfl, hS, atI_nat (v := .int ns[k]) (by rw [List.getElem?_map, List.getElem?_eq_getElem e1]; rfl), ?_⟩
      revert e; generalize ns[k] = c; intro _
      refine ⟨_, rfl, _, rfl, _, rfl, _, rfl, 10, 18, rfl, rfl, ⟨by decide, by decide, by decide⟩, _, _, rfl, rfl, .inr ⟨_, rfl, _, _, rfl, rfl, .inr (in64 (one0 _)), _, rfl, _, _, rfl, rfl, (show (0 : Int) < 2305843009213693951 by decide), _, rfl, _, _, rfl, rfl, .inl ⟨by decide, by decide⟩, _, _, rfl, rfl, _, _, rfl, rfl, ?_⟩⟩
      refine ⟨by show 3 ≤ sizeLine; decide, fun b nb => q _ b (same_new nb) nb ⟨_, _, 0, upd_same, Int.mul_nonneg ?_ (one0 _).1, ?_, ?_, by decide, by decide⟩⟩
      · split <;> omega
      · omega
      · omega
    · refine ⟨_, rfl, _, rfl, _, rfl, _, rfl, 10, 18, rfl, rfl, ⟨by decide, by decide, by decide⟩, _, _, rfl, rfl, .inr ⟨_, rfl, _, _, rfl, rfl, .inr (in64 (one0 _)), _, rfl, _, _, rfl, rfl, (show (0 : Int) < 2305843009213693951 by decide), _, rfl, _, _, rfl, rfl, .inl ⟨by decide, by decide⟩, _, _, rfl, rfl, _, _, rfl, rfl, ?_⟩⟩
      refine ⟨by show 3 ≤ sizeLine; decide, fun b nb => q _ b (same_new nb) nb ⟨_, _, 0, upd_same, Int.mul_nonneg ?_ (one0 _).1, ?_, ?_, by decide, by decide⟩⟩
      · split <;> omega
      · omega
      · omega
end
end Pc
namespace Pc
open PySem PySem.Spec PyProof.Rows L2 RZ
section
variable {P : Program} {w : World} {K : PySem.W.Frag} {mg : Str → Option Value} {base : Heap}
/-! ### a draw below a span of at most ten million -/
def spTake : Sp := fun vs H Q _ => ∃ (b : Addr) (n : Nat) (s : Int), vs = [.ref b, .int s] ∧ Box (n + 1) H b ∧ 0 < s ∧ s ≤ 10000000 ∧
  ∀ (r : Int) (H' : Hp), 0 ≤ r → r < s → Box n H' b → Keep b H H' → Q (.int r) H'
theorem ok_take (T : Env K mg) : FnOk P w K mg base CX0 1 T.f_draw T.d_draw ["_law_source", "_law_bound"] spTake := by
  refine T.F_draw.ok sc_draw (fun vs H Q E h => ?_) (fun cdv A outer s H vs Q E hr h => ?_)
  · obtain ⟨b, n, s, rfl, _⟩ := h
    rfl
  · obtain ⟨b, n, s, rfl, ⟨x, y, z, hb, hx, hy, hy2, hz, hz2⟩, hs, hs2, q⟩ := h
    refine ⟨_, pss_cons (ps_if (pt_cmpR op_gt (pe_ix ix_list (pv 0) pe_int (fun _ _ => rfl)) pe_int (nomark _))
        (pss_cons (ps_set (i := 2) sc_draw.nd rfl (.inl rfl) (pe_op op_mod (pe_ix ix_list (pv 0) pe_int (fun _ _ => rfl)) (pv 1)))
        (pss_cons (ps_asg (pe_op op_fdiv (pe_ix ix_list (pv 0) pe_int (fun _ _ => rfl)) (pv 1)) (pg_sub (pv 0) pe_int set_list))
        (pss_one (ps_ret (pv 2))))) pss_nil)
      (pss_cons (ps_if (pt_cmpR op_gt (pv 1) (pe_op op_pow pe_int pe_int) (nomark _)) pss_never pss_nil)
      (pss_cons (ps_asg (pe_op op_add (pe_ix ix_list (pv 0) pe_int (fun _ _ => rfl)) pe_int) (pg_sub (pv 0) pe_int set_list))
      (pss_cons (ps_set (i := 3) sc_draw.nd rfl (.inl rfl) (pe_op op_mod (pe_op op_mul (pe_op op_add (pe_ix ix_list (pv 0) pe_int (fun _ _ => rfl)) (pe_op op_mul pe_int (pe_ix ix_list (pv 0) pe_int (fun _ _ => rfl)))) (pe_op op_add pe_int (pe_ix ix_list (pv 0) pe_int (fun _ _ => rfl)))) pe_int))
      (pss_cons (ps_set (i := 4) sc_draw.nd rfl (.inl rfl) (pe_op op_mod (pe_op op_mul (pe_op op_add (pe_op op_add (pv 3) (pe_ix ix_list (pv 0) pe_int (fun _ _ => rfl))) (pe_op op_fdiv (pe_ix ix_list (pv 0) pe_int (fun _ _ => rfl)) pe_int)) (pe_op op_add (pe_op op_mod (pv 3) pe_int) pe_int)) pe_int))
      (pss_one (ps_ret (pe_op op_mod (pe_op op_fdiv (pe_op op_mod (pe_op op_add (pe_op op_mul (pv 4) pe_int) (pv 3)) pe_int) pe_int) (pv 1)))))))), ?_⟩
    have hS : SqL K H b [.int x, .int y, .int z] := .inl (.inl hb)
    refine ⟨.ref b, rfl, b, _, 0, .int x, rfl, rfl, hS, atI_nat (j := 0) rfl, x, 0, rfl, rfl, _, rfl, ite2 (fun e => ?_) (fun e => ?_)⟩
    · -- the number itself serves
      refine ⟨.ref b, rfl, b, _, 0, .int x, rfl, rfl, hS, atI_nat (j := 0) rfl, .int s, rfl, x, s, rfl, rfl, hs, ?_⟩
      refine ⟨.ref b, rfl, b, _, 0, .int x, rfl, rfl, hS, atI_nat (j := 0) rfl, .int s, rfl, x, s, rfl, rfl, ⟨hs, by omega⟩, .ref b, rfl, b, _, 0, 0, rfl, rfl, hb, rfl, ?_⟩
      refine ⟨_, rfl, q _ _ (Int.emod_nonneg _ (by omega)) (Int.emod_lt_of_pos _ hs) ⟨_, y, z, upd_same, ?_, hy, hy2, hz, by omega⟩ keep_upd⟩
      exact Int.ediv_nonneg hx (by omega)
    · refine ⟨.int s, rfl, 10, 7, rfl, rfl, ⟨by decide, by decide, by decide⟩, s, _, rfl, rfl, _, rfl, ite2 (fun e2 => ?_) (fun _ => ?_)⟩
      · have e3 := of_decide_eq_true e2
        have e4 : (10 : Int) ^ Int.toNat 7 = 10000000 := by decide
        rw [e4] at e3
        omega
      refine ⟨.ref b, rfl, b, _, 2, .int z, rfl, rfl, hS, atI_nat (j := 2) rfl, z, 1, rfl, rfl, .ref b, rfl, b, _, 2, 2, rfl, rfl, hb, rfl, ?_⟩
      have h2 : upd H b (.lst ([V.int x, V.int y, V.int z].set 2 (.int (z + 1)))) b = some (.lst [.int x, .int y, .int (z + 1)]) := upd_same
      have hS2 : SqL K (upd H b (.lst ([V.int x, V.int y, V.int z].set 2 (.int (z + 1))))) b [.int x, .int y, .int (z + 1)] := .inl (.inl h2)
      refine ⟨.ref b, rfl, b, _, 1, .int y, rfl, rfl, hS2, atI_nat (j := 1) rfl, .ref b, rfl, b, _, 2, .int (z + 1), rfl, rfl, hS2, atI_nat (j := 2) rfl, 48271, z + 1, rfl, rfl, .inl ⟨by decide, by decide⟩, y, _, rfl, rfl, .ref b, rfl, b, _, 2, .int (z + 1), rfl, rfl, hS2, atI_nat (j := 2) rfl, 39373, z + 1, rfl, rfl, _, _, rfl, rfl, .inr ⟨by omega, by omega⟩, _, 2147483647, rfl, rfl, (show (0 : Int) < 2147483647 by decide), ?_⟩
      have o1 : 0 ≤ (y + 48271 * (z + 1)) * (39373 + (z + 1)) % 2147483647 := Int.emod_nonneg _ (by decide)
      have o2 : (y + 48271 * (z + 1)) * (39373 + (z + 1)) % 2147483647 < 2147483647 := Int.emod_lt_of_pos _ (by decide)
      have o3 : 0 ≤ (y + 48271 * (z + 1)) * (39373 + (z + 1)) % 2147483647 % 40009 := Int.emod_nonneg _ (by decide)
      have o4 : (y + 48271 * (z + 1)) * (39373 + (z + 1)) % 2147483647 % 40009 < 40009 := Int.emod_lt_of_pos _ (by decide)
      refine ⟨_, rfl, .ref b, rfl, b, _, 2, .int (z + 1), rfl, rfl, hS2, atI_nat (j := 2) rfl, _, z + 1, rfl, rfl, .ref b, rfl, b, _, 1, .int y, rfl, rfl, hS2, atI_nat (j := 1) rfl, y, 1000003, rfl, rfl, ⟨by decide, by decide⟩, _, _, rfl, rfl, _, rfl, _, 40009, rfl, rfl, (show (0 : Int) < 40009 by decide), _, 7, rfl, rfl, _, _, rfl, rfl, .inr ⟨Int.lt_of_lt_of_le (by decide) (Int.add_le_add_right o3 7), Int.lt_trans (Int.add_lt_add_right o4 7) (by decide)⟩, _, 2147483629, rfl, rfl, (show (0 : Int) < 2147483629 by decide), ?_⟩
      refine ⟨_, rfl, _, 48271, rfl, rfl, .inr ⟨by decide, by decide⟩, _, rfl, _, _, rfl, rfl, _, 2147483587, rfl, rfl, (show (0 : Int) < 2147483587 by decide), _, 64, rfl, rfl, ⟨by decide, by decide⟩, .int s, rfl, _, s, rfl, rfl, hs, ?_⟩
      exact q _ _ (Int.emod_nonneg _ (by omega)) (Int.emod_lt_of_pos _ hs) ⟨x, y, z + 1, h2, hx, hy, hy2, by omega, by omega⟩ keep_upd
end
end Pc
namespace Pc
open PySem PySem.Spec PyProof.Rows L2 RZ
/-! ### data -/
theorem dp_ints {K : PySem.W.Frag} {H : Hp} : ∀ ns : List Int, DpAll K H (ns.map V.int) (ns.map PyData.int)
  | [] => .nil
  | n :: r => .cons (.int n) (dp_ints r)
theorem lay_ints : ∀ ns : List Int, PyData.canLayAll0 (ns.map PyData.int) = true
  | [] => rfl
  | n :: r => by
    show (PyData.canLay0 (.int n) && PyData.canLayAll0 (r.map PyData.int)) = true
    rw [lay_ints r]; rfl
theorem depth_ints : ∀ ns : List Int, PyData.depthAll (ns.map PyData.int) = 0
  | [] => rfl
  | n :: r => by
    show max (PyData.depth (.int n)) (PyData.depthAll (r.map PyData.int)) = 0
    rw [depth_ints r]; rfl
theorem shaped_list {ds : List PyData} (h : PyData.canLayAll0 ds = true) (d : PyData.depthAll ds ≤ 63) : SeqAt.shaped (.list ds) = true := by
  unfold SeqAt.shaped
  rw [Bool.and_eq_true]
  exact ⟨h, decide_eq_true (show PyData.depthAll ds + 1 ≤ 64 by omega)⟩
theorem shaped_tuple {ds : List PyData} (h : PyData.canLayAll0 ds = true) (d : PyData.depthAll ds ≤ 63) : SeqAt.shaped (.tuple ds) = true := by
  unfold SeqAt.shaped
  rw [Bool.and_eq_true]
  exact ⟨h, decide_eq_true (show PyData.depthAll ds + 1 ≤ 64 by omega)⟩
theorem shaped_ints (ns : List Int) : SeqAt.shaped (.list (ns.map PyData.int)) = true := shaped_list (lay_ints ns) (by rw [depth_ints]; decide)
theorem shaped_intsT (ns : List Int) : SeqAt.shaped (.tuple (ns.map PyData.int)) = true := shaped_tuple (lay_ints ns) (by rw [depth_ints]; decide)
/-- what a slice of a list of ints is -/
theorem cut_ints (ns : List Int) (lo hi : Option Int) : ∃ ms : List Int, cutV (ns.map V.int) lo hi = ms.map V.int ∧ ms = (ns.drop (HT.sIx ns.length 0 lo)).take (HT.sIx ns.length ns.length hi - HT.sIx ns.length 0 lo) := by
  refine ⟨_, ?_, rfl⟩
  unfold cutV
  rw [List.length_map, List.map_take, List.map_drop]
theorem map_set_int (cs : List Int) (j : Nat) (v : Int) : (cs.map V.int).set j (.int v) = (cs.set j v).map V.int := by
  rw [List.map_set]
theorem small63 {n : Nat} (h : n ≤ 63) : n ≤ sizeLine := Nat.le_trans h (by decide)
end Pc
namespace Pc
open PySem PySem.Spec PyProof.Rows L2 RZ
section
variable {P : Program} {w : World} {K : PySem.W.Frag} {mg : Str → Option Value} {base : Heap}
/-! ### the numbers of the script, the later ones added to the first -/
def spCells (K : PySem.W.Frag) : Sp := fun vs H Q _ => ∃ (a : Addr) (ns : List Int) (m : Nat), vs = [.ref a, .int m] ∧ SqL K H a (ns.map V.int) ∧ ns.length ≤ 63 ∧ 0 < m ∧ m ≤ 60 ∧
  ∀ H' p (cs : List Int), Same H H' → H p = none → H' p = some (.lst (cs.map V.int)) → 1 ≤ cs.length → cs.length ≤ m → Q (.ref p) H'
theorem ok_cells (T : Env K mg) : FnOk P w K mg base CX0 1 T.f_folded T.d_folded ["_law_script", "_law_most"] (spCells K) := by
  refine T.F_folded.ok sc_folded (fun vs H Q E h => ?_) (fun cdv A outer s H vs Q E hr h => ?_)
  · obtain ⟨a, ns, m, rfl, _⟩ := h
    rfl
  · obtain ⟨a, ns, m, rfl, hS, hn, hm, hm2, q⟩ := h
    refine ⟨_, pss_cons (ps_set (i := 2) sc_folded.nd rfl (.inl rfl) (pe_orT (pe_callTy call_list_of (by rfl) T.n_list (by decide +kernel) (pa_cons (pe_slice sl_list (pv 0) po_none (po_some (pv 1))) pa_nil)) (pe_one (pe_lst (pa_cons pe_int pa_nil)))))
      (pss_cons (ps_for PassesOwn.never rfl (pi_enum (by rfl) T.n_enumerate (pa_cons (pe_slice sl_list (pv 0) (po_some (pv 1)) (po_some pe_int)) pa_nil))
          (pg_tup rfl (pgs_cons (pg_name (i := 3) sc_folded.nd rfl (.inl rfl)) (pgs_cons (pg_name (i := 4) sc_folded.nd rfl (.inl rfl)) pgs_nil)))
        (pss_one (ps_asg (pe_op op_add (pe_ix ix_list (pv 2) (pe_op op_mod (pv 3) (pv 1)) (fun _ _ => rfl)) (pe_op op_mul (pv 4) (pe_op op_add (pv 3) pe_int)))
          (pg_sub (pv 2) (pe_op op_mod (pv 3) (pv 1)) set_list))))
      (pss_one (ps_ret (pv 2)))), ?_⟩
    obtain ⟨ms, e1, e2⟩ := cut_ints ns none (some (m : Int))
    obtain ⟨ls, e3, e4⟩ := cut_ints ns (some (m : Int)) (some 63)
    have f2 : ms.length = min m ns.length := by
      rw [e2, HT.sIx_none, HT.sIx_nat, List.length_take, List.drop_zero]
      omega
    have f4 : ls.length = ns.length - m := by
      rw [e4, HT.sIx_nat, show (63 : Int) = ((63 : Nat) : Int) from rfl, HT.sIx_nat, List.length_take, List.length_drop]
      omega
    -- the copy of the first ones
    refine ⟨.ref a, rfl, .int m, rfl, m, rfl, a, ns.map V.int, rfl, hS, fun c nc => ⟨c, _, rfl, .inl (.inl (.inl upd_same)), fun l nl => ?_⟩⟩
    rw [e1] at nl ⊢
    have s1 : Same H (upd (upd H c (.lst (ms.map V.int))) l (.lst (ms.map V.int))) := (same_new nc).trans (same_new nl)
    have nl0 : H l = none := (same_new nc).free nl
    have el0 : (upd (upd H c (.lst (ms.map V.int))) l (.lst (ms.map V.int))) l = some (.lst (ms.map V.int)) := upd_same
    revert s1 el0
    generalize upd (upd H c (.lst (ms.map V.int))) l (.lst (ms.map V.int)) = H0
    intro s1 el0
    refine ⟨!(ms.map V.int).isEmpty, .inl ⟨_, .inl (.inl el0), rfl⟩, ite2 (fun k => ?wa) (fun k => ?wb)⟩
    case' wa =>
      obtain ⟨cs0, g3, g4, g5, g6⟩ : ∃ cs0 : List Int, H0 l = some (.lst (cs0.map V.int)) ∧ 1 ≤ cs0.length ∧ cs0.length ≤ m ∧ (0 < ls.length → cs0.length = m) := by
        refine ⟨ms, el0, ?_, by omega, by omega⟩
        cases ms with
        | nil => exact absurd (show false = true from k) Bool.false_ne_true
        | cons x r => simp
      clear el0
    case' wb =>
      have hm0 : ms.length = 0 := by
        cases ms with
        | nil => rfl
        | cons x r => exact absurd rfl k
      refine ⟨by show 1 ≤ sizeLine; decide, fun l2 nl2 => ?_⟩
      have s3 := s1.trans (same_new (o := .lst [.int 0]) nl2)
      have nl3 := s1.free nl2
      have g3' : (upd H0 l2 (.lst [.int 0])) l2 = some (.lst [.int 0]) := upd_same
      clear nl0 s1 el0
      revert s3 g3'
      generalize upd H0 l2 (.lst [.int 0]) = H3
      intro s3 g3'
      clear nl2
      clear H0
      revert l2 nl3 H3 s3 g3'
      intro l nl0 H0 s1 g3'
      obtain ⟨cs0, g3, g4, g5, g6⟩ : ∃ cs0 : List Int, H0 l = some (.lst (cs0.map V.int)) ∧ 1 ≤ cs0.length ∧ cs0.length ≤ m ∧ (0 < ls.length → cs0.length = m) := ⟨[0], g3', by decide, hm, by omega⟩
    all_goals
      refine ⟨.ref a, rfl, .int m, rfl, m, rfl, _, rfl, a, ns.map V.int, rfl, s1.seq hS, fun d nd => ?_⟩
      rw [e3]
      refine ⟨d, ls.map V.int, rfl, .inl (.inl upd_same), ?_⟩
      have s2 : Same H _ := s1.trans (same_new (o := .lst (ls.map V.int)) nd)
      have ldd : l ≠ d := ne_of_none g3 nd
      refine for_it walk_enum (fun i σ H' => Same H H' ∧ H' d = some (.lst (ls.map V.int)) ∧ ∃ (y3 y4 : Option V) (cs : List Int), σ = [some (.ref a), some (.int m), some (.ref l), y3, y4] ∧ H' l = some (.lst (cs.map V.int)) ∧ cs.length = cs0.length)
        ⟨s2, upd_same, none, none, cs0, rfl, by rw [upd_ne ldd]; exact g3, rfl⟩ (fun i σ H' _ h => .inl (.inl h.2.1)) (fun i x σ H1 H2 hi h y => ?_) (fun σ H' h => ?_)
      · obtain ⟨sm, ed, y3, y4, cs, rfl, el, ecl⟩ := h
        obtain ⟨t, v1, v2, rfl, nt, rfl, g1, g2⟩ := y
        rw [List.length_map] at hi
        have ev1 : v1 = .int (i : Nat) := (Option.some.inj g1).symm
        have ev2 : v2 = .int ls[i] := by
          have g3 : (ls.map V.int)[i]? = some v2 := g2
          rw [List.getElem?_map, List.getElem?_eq_getElem hi] at g3
          exact (Option.some.inj g3).symm
        subst ev1 ev2
        have hml : cs.length = m := by omega
        have hlt : l ≠ t := ne_of_none el nt
        have hdt : d ≠ t := ne_of_none ed nt
        have elt : (upd H1 t (.tup [.int (i : Nat), .int ls[i]])) l = some (.lst (cs.map V.int)) := by rw [upd_ne hlt]; exact el
        have him : ((i : Int) % (m : Int)) = ((i % m : Nat) : Int) := by omega
        have hjm : i % m < cs.length := by rw [hml]; exact Nat.mod_lt _ hm
        have hix : ixN (cs.map V.int).length ((i : Int) % (m : Int)) = some (i % m) := by
          rw [him]
          unfold ixN
          rw [List.length_map, if_pos (by omega), if_pos (by omega)]; rfl
        refine ⟨t, _, rfl, .inl (.inl upd_same), rfl, _, _, rfl, _, _, rfl, rfl, ?_⟩
        refine ⟨.ref l, rfl, .int (i : Nat), rfl, .int m, rfl, (i : Nat), m, rfl, rfl, (show (0 : Int) < m by omega), l, _, _, .int cs[i % m], rfl, rfl, .inl (.inl elt), ?_, ?_⟩
        · unfold atI
          show (ixN (cs.map V.int).length ((i : Int) % (m : Int))).bind _ = _
          rw [hix]
          show (cs.map V.int)[i % m]? = _
          rw [List.getElem?_map, List.getElem?_eq_getElem hjm]; rfl
        refine ⟨.int ls[i], rfl, .int (i : Nat), rfl, (i : Nat), 2, rfl, rfl, ls[i], _, rfl, rfl, .inr ⟨by omega, by omega⟩, cs[i % m], _, rfl, rfl, .ref l, rfl, .int (i : Nat), rfl, .int m, rfl, (i : Nat), m, rfl, rfl, (show (0 : Int) < m by omega), l, _, _, i % m, rfl, rfl, elt, hix, ?_⟩
        refine ⟨?_, ?_, _, _, cs.set (i % m) (cs[i % m] + ls[i] * ((i : Nat) + 2)), rfl, ?_, ?_⟩
        · intro b o hb
          have nb : b ≠ l := ne_of_none hb nl0
          rw [upd_ne nb]
          exact same_new nt _ _ (sm b o hb)
        · rw [upd_ne ldd.symm, upd_ne hdt]; exact ed
        · rw [upd_same, ← map_set_int]
        · rw [List.length_set]; exact ecl
      · obtain ⟨sm, ed, y3, y4, cs, rfl, el, ecl⟩ := h
        exact ⟨.ref l, rfl, q _ l cs sm nl0 el (by omega) (by omega)⟩
end
end Pc
namespace Pc
open PySem PySem.Spec PyProof.Rows L2 RZ
/-! ### xs != [] for any items -/
def rNeNil (K : PySem.W.Frag) : R2 := fun x y H Q => ∃ a b xs, x = .ref a ∧ y = .ref b ∧ SqL K H a xs ∧ SqL K H b [] ∧ Q (.bl (!xs.isEmpty)) H
theorem op_neNil {X : Cx} (hu : X.A.units + 64 < cLine) : OpR X (compareOp .NotEq) (rNeNil X.K) := by
  intro pins s σ H x y v u Q I rx ry h
  obtain ⟨a, b, xs, rfl, rfl, h1, h2, q⟩ := h
  cases rx; cases ry
  obtain ⟨its, rv, p1, _⟩ := I.list h1
  obtain ⟨its2, rv2, p2, _⟩ := I.list h2
  have l1 := rv.length
  have l2 := rv2.length
  have hu0 : X.A.units < cLine := by omega
  cases xs with
  | nil =>
    have z1 : its.length = 0 := l1.symm
    have z2 : its2.length = 0 := l2.symm
    refine SeqAt.RcNeAt.lists (e := fun _ => true) p1.isList p2.isList (by simp [z1, z2]) hu0 (fun j j1 _ => ?_) X.prog X.w X.xe _ ?_
    · rw [List.size_toArray] at j1; omega
    · rw [List.size_toArray, z1]
      exact ⟨.bl false, H, I, rfl, q⟩
  | cons z r =>
    have z1 : its.length ≠ 0 := by rw [← l1]; simp
    have z2 : its2.length = 0 := l2.symm
    refine SeqAt.RcNeAt.lists_lengths p1.isList p2.isList (by simp [z2, z1]) hu0 X.prog X.w X.xe _ ?_
    exact ⟨.bl true, H, I, rfl, q⟩
theorem perm_erase {α : Type} : ∀ {l : List α} {i : Nat} (h : i < l.length), (l[i] :: l.eraseIdx i).Perm l
  | a :: r, 0, _ => List.Perm.refl _
  | a :: r, i + 1, h => (List.Perm.swap a (r[i]'(Nat.lt_of_succ_lt_succ h)) (r.eraseIdx i)).trans ((perm_erase (l := r) (i := i) (Nat.lt_of_succ_lt_succ h)).cons a)
/-- the place of an index that is not negative -/
theorem seq_ix {i : Int} {n : Nat} (h0 : 0 ≤ i) (h : i < n) : seqIndex? i n = some i.toNat := seqIndex_of h0 h
end Pc
namespace Pc
open PySem PySem.Spec PyProof.Rows L2 RZ
/-! ### pairings as lists of natural numbers -/
/-- the numbers as values -/
def nv (l : List Nat) : List V := l.map fun (i : Nat) => V.int (i : Int)
theorem nv_length (l : List Nat) : (nv l).length = l.length := List.length_map _
theorem nv_get {l : List Nat} {i x : Nat} (h : l[i]? = some x) : (nv l)[i]? = some (.int x) := by
  unfold nv; rw [List.getElem?_map, h]; rfl
theorem nv_at {l : List Nat} {i x : Nat} (h : l[i]? = some x) : atI (nv l) (i : Int) = some (.int x) := atI_nat (nv_get h)
theorem nv_set (l : List Nat) (i x : Nat) : (nv l).set i (.int (x : Int)) = nv (l.set i x) := by
  unfold nv; rw [List.map_set]
theorem nv_get' {l : List Nat} {i : Nat} {v : V} (h : (nv l)[i]? = some v) : ∃ x, l[i]? = some x ∧ v = .int (x : Int) := by
  unfold nv at h
  rw [List.getElem?_map] at h
  cases e : l[i]? with
  | none => rw [e] at h; cases h
  | some x => rw [e] at h; exact ⟨x, rfl, (Option.some.inj h).symm⟩
theorem ixN_nat {n i : Nat} (h : i < n) : ixN n (i : Int) = some i := by
  unfold ixN
  rw [if_pos (by omega), if_pos (by omega)]; rfl
theorem get_some {α : Type} {l : List α} {i : Nat} (h : i < l.length) : ∃ x, l[i]? = some x := ⟨_, List.getElem?_eq_getElem h⟩
theorem get_lt {α : Type} {l : List α} {i : Nat} {x : α} (h : l[i]? = some x) : i < l.length := (List.getElem?_eq_some_iff.mp h).1
/-- a pairing of n people -/
structure IsPair (n : Nat) (ps : List Nat) : Prop where
  len : ps.length = n
  par : ∀ x, x < n → ∃ y, ps[x]? = some y ∧ y < n ∧ y ≠ x ∧ ps[y]? = some x
/-- after t turns: the first t pairs are joined -/
def PInv (os fs : List Nat) (t : Nat) : Prop := fs.length = os.length ∧ ∀ j, j < t → ∀ x y, os[2 * j]? = some x → os[2 * j + 1]? = some y → fs[x]? = some y ∧ fs[y]? = some x
theorem PInv.step {os fs : List Nat} {t x y : Nat} (hnd : os.Nodup) (hlt : ∀ z ∈ os, z < os.length) (h : PInv os fs t) (hx : os[2 * t]? = some x) (hy : os[2 * t + 1]? = some y) :
    PInv os ((fs.set x y).set y x) (t + 1) := by
  obtain ⟨hl, hp⟩ := h
  have xl : x < fs.length := by rw [hl]; exact hlt x (List.mem_of_getElem? hx)
  have yl : y < fs.length := by rw [hl]; exact hlt y (List.mem_of_getElem? hy)
  have xy : x ≠ y := fun e => by
    subst e
    have := nd_ix hnd hx hy
    omega
  refine ⟨by rw [List.length_set, List.length_set, hl], fun j hj u v hu hv => ?_⟩
  by_cases e : j = t
  · subst e
    have e1 : u = x := Option.some.inj (hu.symm.trans hx)
    have e2 : v = y := Option.some.inj (hv.symm.trans hy)
    subst e1 e2
    refine ⟨?_, ?_⟩
    · rw [List.getElem?_set_ne (Ne.symm xy), List.getElem?_set_self xl]
    · rw [List.getElem?_set_self (by rw [List.length_set]; exact yl)]
  · obtain ⟨h1, h2⟩ := hp j (by omega) u v hu hv
    have a1 : x ≠ u := fun z => by subst z; have := nd_ix hnd hx hu; omega
    have a2 : y ≠ u := fun z => by subst z; have := nd_ix hnd hy hu; omega
    have a3 : x ≠ v := fun z => by subst z; have := nd_ix hnd hx hv; omega
    have a4 : y ≠ v := fun z => by subst z; have := nd_ix hnd hy hv; omega
    refine ⟨?_, ?_⟩
    · rw [List.getElem?_set_ne a2, List.getElem?_set_ne a1]; exact h1
    · rw [List.getElem?_set_ne a4, List.getElem?_set_ne a3]; exact h2
theorem PInv.done {os fs : List Nat} {n : Nat} (hp : os.Perm (List.range n)) (he : n % 2 = 0) (h : PInv os fs (n / 2)) : IsPair n fs := by
  have hl : os.length = n := by rw [hp.length_eq, List.length_range]
  have hnd : os.Nodup := hp.nodup_iff.mpr List.nodup_range
  refine ⟨by rw [h.1, hl], fun x hx => ?_⟩
  have hm : x ∈ os := hp.mem_iff.mpr (List.mem_range.mpr hx)
  obtain ⟨i, hi, ei⟩ := List.mem_iff_getElem.mp hm
  have gi : os[i]? = some x := by rw [List.getElem?_eq_getElem hi, ei]
  have lt_n : ∀ {k z : Nat}, os[k]? = some z → z < n := fun {k z} hz => List.mem_range.mp (hp.mem_iff.mp (List.mem_of_getElem? hz))
  by_cases hq : i % 2 = 0
  · have i1 : i + 1 < os.length := by omega
    obtain ⟨y, gy⟩ := get_some i1
    have g1 : os[2 * (i / 2)]? = some x := by rw [show 2 * (i / 2) = i by omega]; exact gi
    have g2 : os[2 * (i / 2) + 1]? = some y := by rw [show 2 * (i / 2) + 1 = i + 1 by omega]; exact gy
    obtain ⟨r1, r2⟩ := h.2 (i / 2) (by omega) x y g1 g2
    exact ⟨y, r1, lt_n gy, fun e => by subst e; have := nd_ix hnd gi gy; omega, r2⟩
  · have i1 : i - 1 < os.length := by omega
    obtain ⟨y, gy⟩ := get_some i1
    have g1 : os[2 * (i / 2)]? = some y := by rw [show 2 * (i / 2) = i - 1 by omega]; exact gy
    have g2 : os[2 * (i / 2) + 1]? = some x := by rw [show 2 * (i / 2) + 1 = i by omega]; exact gi
    obtain ⟨r1, r2⟩ := h.2 (i / 2) (by omega) y x g1 g2
    exact ⟨y, r2, lt_n gy, fun e => by subst e; have := nd_ix hnd gi gy; omega, r1⟩
/-- range(0, n, 2) -/
theorem fits_long {i : Int} (h1 : -(2 ^ 62) ≤ i) (h2 : i < 2 ^ 62) : Builtin.Range.rangeFitsLong i = true := by
  unfold Builtin.Range.rangeFitsLong
  rw [Bool.and_eq_true]
  exact ⟨decide_eq_true (by omega), decide_eq_true (by omega)⟩
theorem rgc_two {n : Nat} (h : n ≤ 1000000) : RgC 0 (n : Int) 2 ((n + 1) / 2) := by
  have e : Builtin.Range.rangeSize 0 (n : Int) 2 = (((n + 1) / 2 : Nat) : Int) := by
    unfold Builtin.Range.rangeSize
    rw [if_pos (by decide)]
    split <;> omega
  refine ⟨by decide, by decide, ?_, e⟩
  unfold Builtin.Range.small
  rw [e, fits_long (i := 0) (by decide) (by decide), fits_long (i := (n : Int)) (by omega) (by omega), fits_long (i := 2) (by decide) (by decide), fits_long (i := (((n + 1) / 2 : Nat) : Int)) (by omega) (by omega), if_pos (by decide), fits_long (i := (n : Int) + (2 - 1)) (by omega) (by omega), Bool.or_true]
  rfl
theorem rep_flat {α : Type} (n : Nat) (x : α) : (List.replicate n [x]).flatten = List.replicate n x := by
  induction n with
  | zero => rfl
  | succ n ih => rw [List.replicate_succ, List.flatten_cons, ih, List.replicate_succ]; rfl
end Pc
namespace Pc
open PySem PySem.Spec PyProof.Rows L2 RZ
theorem perm_map_inv {α β : Type} (f : α → β) {zs ys : List β} (h : zs.Perm ys) : ∀ l : List α, zs = l.map f → ∃ l' : List α, ys = l'.map f ∧ l'.Perm l := by
  induction h with
  | nil => exact fun l e => ⟨l, e, List.Perm.refl _⟩
  | cons x _ ih =>
    intro l e
    cases l with
    | nil => cases e
    | cons a r =>
      injection e with e1 e2
      obtain ⟨l', h1, h2⟩ := ih r e2
      exact ⟨a :: l', by rw [h1, e1]; rfl, h2.cons a⟩
  | swap x y t =>
    intro l e
    cases l with
    | nil => cases e
    | cons a r =>
      cases r with
      | nil => injection e with _ e2; cases e2
      | cons b r =>
        injection e with e1 e2
        injection e2 with e2 e3
        exact ⟨b :: a :: r, by rw [e1, e2, e3]; rfl, List.Perm.swap _ _ _⟩
  | trans _ _ ih1 ih2 =>
    intro l e
    obtain ⟨l1, h1, h2⟩ := ih1 l e
    obtain ⟨l2, h3, h4⟩ := ih2 l1 h1
    exact ⟨l2, h3, h4.trans h2⟩
theorem rg_nv (n : Nat) : rgV 0 (n : Int) = nv (List.range n) := by
  unfold rgV nv
  rw [Int.sub_zero, Int.toNat_natCast]
  refine List.map_congr_left fun i _ => ?_
  rw [Int.zero_add]
end Pc
namespace Pc
open PySem PySem.Spec PyProof.Rows L2 RZ
/-! ### data where more is tracked -/
theorem same_tup {K : PySem.W.Frag} {H H' : Hp} {a : Addr} {xs : List V} (e : Same H H') (h : SqT K H a xs) : SqT K H' a xs := by
  rcases h with (h | ⟨o, h⟩) | h
  · exact .inl (.inl (e _ _ h))
  · exact .inl (.inr ⟨o, e _ _ h⟩)
  · exact .inr h
mutual
theorem dp_same {K : PySem.W.Frag} {H H' : Hp} (e : Same H H') : ∀ {v : V} {d : PyData}, Dp K H v d → Dp K H' v d
  | _, _, .non => .non
  | _, _, .bl b => .bl b
  | _, _, .int i => .int i
  | _, _, .str x => .str x
  | _, _, .lst h a => .lst (e.seq h) (dpa_same e a)
  | _, _, .tup h a => .tup (same_tup e h) (dpa_same e a)
theorem dpa_same {K : PySem.W.Frag} {H H' : Hp} (e : Same H H') : ∀ {vs : List V} {ds : List PyData}, DpAll K H vs ds → DpAll K H' vs ds
  | _, _, .nil => .nil
  | _, _, .cons h a => .cons (dp_same e h) (dpa_same e a)
end
theorem dpa_len {K : PySem.W.Frag} {H : Hp} : ∀ {vs : List V} {ds : List PyData}, DpAll K H vs ds → vs.length = ds.length
  | _, _, .nil => rfl
  | _, _, .cons _ a => by rw [List.length_cons, List.length_cons, dpa_len a]
theorem dpa_get {K : PySem.W.Frag} {H : Hp} : ∀ {vs : List V} {ds : List PyData} {i : Nat} {v : V}, DpAll K H vs ds → vs[i]? = some v → ∃ d, ds[i]? = some d ∧ Dp K H v d
  | _, _, _, _, .nil, h => by simp at h
  | _, _, 0, _, .cons (d := d) h _, e => by
    cases Option.some.inj e
    exact ⟨d, rfl, h⟩
  | _, _, i + 1, v, .cons _ a, e => dpa_get (i := i) a e
theorem depth_get : ∀ {ds : List PyData} {i : Nat} {d : PyData}, ds[i]? = some d → d.depth ≤ PyData.depthAll ds
  | [], _, _, h => by simp at h
  | d :: r, 0, _, h => by
    cases Option.some.inj h
    exact Nat.le_max_left _ _
  | d :: r, i + 1, x, h => Nat.le_trans (depth_get (i := i) (ds := r) h) (Nat.le_max_right _ _)
mutual
/-- no list in it is longer than a hundred thousand -/
def narrow : PyData → Prop
  | .list xs => xs.length ≤ 100000 ∧ narrowAll xs
  | .tuple xs => xs.length ≤ 100000 ∧ narrowAll xs
  | _ => True
def narrowAll : List PyData → Prop
  | [] => True
  | x :: xs => narrow x ∧ narrowAll xs
end
theorem narrow_get : ∀ {ds : List PyData} {i : Nat} {d : PyData}, narrowAll ds → ds[i]? = some d → narrow d
  | [], _, _, _, h => by simp at h
  | d :: r, 0, _, n, h => by
    cases Option.some.inj h
    exact n.1
  | d :: r, i + 1, x, n, h => narrow_get (i := i) (ds := r) n.2 h
theorem narrow_of : ∀ {ds : List PyData}, (∀ d ∈ ds, narrow d) → narrowAll ds
  | [], _ => trivial
  | d :: r, h => ⟨h d List.mem_cons_self, narrow_of fun x hx => h x (List.mem_cons_of_mem _ hx)⟩
theorem narrow_ints (ns : List Int) : narrowAll (ns.map PyData.int) := narrow_of fun d hd => by
  obtain ⟨i, _, rfl⟩ := List.mem_map.mp hd
  exact trivial
theorem line_big {n : Nat} (h : n ≤ 100000) : n < sizeLine := Nat.lt_of_le_of_lt h (by decide)
theorem ty_lst {K : PySem.W.Frag} {H : Hp} {a : Addr} {xs : List V} (h : SqL K H a xs) : TyX K H (.ref a) (.type "list") := by
  rcases h with (h | ⟨o, h⟩) | ⟨o, its, n, h, c, _⟩
  · exact .base (.lst h)
  · exact .base (.frz h)
  · exact .kList h c
theorem ty_tup {K : PySem.W.Frag} {H : Hp} {a : Addr} {xs : List V} (h : SqT K H a xs) : TyX K H (.ref a) (.type "tuple") := by
  rcases h with (h | ⟨o, h⟩) | ⟨o, its, n, h, c, _⟩
  · exact .base (.tup h)
  · exact .fTuple h
  · exact .kTuple h c
theorem kit2 {K : PySem.W.Frag} {t a b : String} {p q : Bool} (h1 : kitB t a = some p) (h2 : kitB t b = some q) : PySem.W.kitAny K (.type t) [.type a, .type b] = some (p || q) := by
  refine kitAny_cons (kit_ty h1) (fun e => kitAny_cons (kit_ty h2) (fun e2 => ?_) (fun e2 => ?_)) (fun e => ?_)
  · subst e e2; rfl
  · subst e e2; rfl
  · subst e; rfl
section
variable {K : PySem.W.Frag}
theorem any_lt_int : PySem.W.kitAny K (.type "int") [.type "list", .type "tuple"] = some false := kit2 (p := false) (q := false) (by decide +kernel) (by decide +kernel)
theorem any_sb_int : PySem.W.kitAny K (.type "int") [.type "str", .type "bool"] = some false := kit2 (p := false) (q := false) (by decide +kernel) (by decide +kernel)
theorem any_bs_int : PySem.W.kitAny K (.type "int") [.type "bool", .type "str"] = some false := kit2 (p := false) (q := false) (by decide +kernel) (by decide +kernel)
theorem one_int_int : PySem.W.kitOne K (.type "int") (.type "int") = some true := kit_ty (by decide +kernel)
theorem one_int_bool : PySem.W.kitOne K (.type "int") (.type "bool") = some false := kit_ty (by decide +kernel)
theorem one_int_list : PySem.W.kitOne K (.type "int") (.type "list") = some false := kit_ty (by decide +kernel)
theorem one_int_tuple : PySem.W.kitOne K (.type "int") (.type "tuple") = some false := kit_ty (by decide +kernel)
theorem any_lt_none : PySem.W.kitAny K (.type "NoneType") [.type "list", .type "tuple"] = some false := kit2 (p := false) (q := false) (by decide +kernel) (by decide +kernel)
theorem any_sb_none : PySem.W.kitAny K (.type "NoneType") [.type "str", .type "bool"] = some false := kit2 (p := false) (q := false) (by decide +kernel) (by decide +kernel)
theorem any_bs_none : PySem.W.kitAny K (.type "NoneType") [.type "bool", .type "str"] = some false := kit2 (p := false) (q := false) (by decide +kernel) (by decide +kernel)
theorem one_none_int : PySem.W.kitOne K (.type "NoneType") (.type "int") = some false := kit_ty (by decide +kernel)
theorem one_none_bool : PySem.W.kitOne K (.type "NoneType") (.type "bool") = some false := kit_ty (by decide +kernel)
theorem one_none_list : PySem.W.kitOne K (.type "NoneType") (.type "list") = some false := kit_ty (by decide +kernel)
theorem one_none_tuple : PySem.W.kitOne K (.type "NoneType") (.type "tuple") = some false := kit_ty (by decide +kernel)
theorem any_lt_bool : PySem.W.kitAny K (.type "bool") [.type "list", .type "tuple"] = some false := kit2 (p := false) (q := false) (by decide +kernel) (by decide +kernel)
theorem any_sb_bool : PySem.W.kitAny K (.type "bool") [.type "str", .type "bool"] = some true := kit2 (p := false) (q := true) (by decide +kernel) (by decide +kernel)
theorem any_bs_bool : PySem.W.kitAny K (.type "bool") [.type "bool", .type "str"] = some true := kit2 (p := true) (q := false) (by decide +kernel) (by decide +kernel)
theorem one_bool_int : PySem.W.kitOne K (.type "bool") (.type "int") = some true := kit_ty (by decide +kernel)
theorem one_bool_bool : PySem.W.kitOne K (.type "bool") (.type "bool") = some true := kit_ty (by decide +kernel)
theorem one_bool_list : PySem.W.kitOne K (.type "bool") (.type "list") = some false := kit_ty (by decide +kernel)
theorem one_bool_tuple : PySem.W.kitOne K (.type "bool") (.type "tuple") = some false := kit_ty (by decide +kernel)
theorem any_lt_str : PySem.W.kitAny K (.type "str") [.type "list", .type "tuple"] = some false := kit2 (p := false) (q := false) (by decide +kernel) (by decide +kernel)
theorem any_sb_str : PySem.W.kitAny K (.type "str") [.type "str", .type "bool"] = some true := kit2 (p := true) (q := false) (by decide +kernel) (by decide +kernel)
theorem any_bs_str : PySem.W.kitAny K (.type "str") [.type "bool", .type "str"] = some true := kit2 (p := false) (q := true) (by decide +kernel) (by decide +kernel)
theorem one_str_int : PySem.W.kitOne K (.type "str") (.type "int") = some false := kit_ty (by decide +kernel)
theorem one_str_bool : PySem.W.kitOne K (.type "str") (.type "bool") = some false := kit_ty (by decide +kernel)
theorem one_str_list : PySem.W.kitOne K (.type "str") (.type "list") = some false := kit_ty (by decide +kernel)
theorem one_str_tuple : PySem.W.kitOne K (.type "str") (.type "tuple") = some false := kit_ty (by decide +kernel)
theorem any_lt_list : PySem.W.kitAny K (.type "list") [.type "list", .type "tuple"] = some true := kit2 (p := true) (q := false) (by decide +kernel) (by decide +kernel)
theorem any_sb_list : PySem.W.kitAny K (.type "list") [.type "str", .type "bool"] = some false := kit2 (p := false) (q := false) (by decide +kernel) (by decide +kernel)
theorem any_bs_list : PySem.W.kitAny K (.type "list") [.type "bool", .type "str"] = some false := kit2 (p := false) (q := false) (by decide +kernel) (by decide +kernel)
theorem one_list_int : PySem.W.kitOne K (.type "list") (.type "int") = some false := kit_ty (by decide +kernel)
theorem one_list_bool : PySem.W.kitOne K (.type "list") (.type "bool") = some false := kit_ty (by decide +kernel)
theorem one_list_list : PySem.W.kitOne K (.type "list") (.type "list") = some true := kit_ty (by decide +kernel)
theorem one_list_tuple : PySem.W.kitOne K (.type "list") (.type "tuple") = some false := kit_ty (by decide +kernel)
theorem any_lt_tuple : PySem.W.kitAny K (.type "tuple") [.type "list", .type "tuple"] = some true := kit2 (p := false) (q := true) (by decide +kernel) (by decide +kernel)
theorem any_sb_tuple : PySem.W.kitAny K (.type "tuple") [.type "str", .type "bool"] = some false := kit2 (p := false) (q := false) (by decide +kernel) (by decide +kernel)
theorem any_bs_tuple : PySem.W.kitAny K (.type "tuple") [.type "bool", .type "str"] = some false := kit2 (p := false) (q := false) (by decide +kernel) (by decide +kernel)
theorem one_tuple_int : PySem.W.kitOne K (.type "tuple") (.type "int") = some false := kit_ty (by decide +kernel)
theorem one_tuple_bool : PySem.W.kitOne K (.type "tuple") (.type "bool") = some false := kit_ty (by decide +kernel)
theorem one_tuple_list : PySem.W.kitOne K (.type "tuple") (.type "list") = some false := kit_ty (by decide +kernel)
theorem one_tuple_tuple : PySem.W.kitOne K (.type "tuple") (.type "tuple") = some true := kit_ty (by decide +kernel)
end
theorem cls2 (a b : String) : Paired ClsV [.ty a, .ty b] [.type a, .type b] := .cons (.ty a) (.cons (.ty b) .nil)
/-- zip of two tuples -/
theorem walk_zipT {K : PySem.W.Frag} {a b : Addr} {xs ys : List V} {n : Nat} (hn : n = min xs.length ys.length) : Walk (ItzT K a b) n (fun H => SqT K H a xs ∧ SqT K H b ys) (YPair (fun i => xs[i]?) (fun i => ys[i]?)) := by
  subst hn
  refine ⟨fun i _ hi q => ?_, fun _ q => ⟨xs, ys, q.1, q.2, by omega⟩, fun i H v H' _ q y => ?_⟩
  · obtain ⟨x, hx⟩ := get_some (l := xs) (i := i) (by omega)
    obtain ⟨z, hz⟩ := get_some (l := ys) (i := i) (by omega)
    exact ⟨xs, ys, x, z, q.1, q.2, hx, hz⟩
  · obtain ⟨T, x, z, h1, h2, h3, h4, h5⟩ := y
    exact ⟨T, x, z, h1, h2, h3, h4 xs q.1, h5 ys q.2⟩
theorem fn_never {P : Program} {w : World} {K : PySem.W.Frag} {mg : Str → Option Value} {base : Heap} {CX : CXT} {k : Nat} {f : Addr} {fd : FuncData} {ps : List Str} {sp : Sp} (h : ∀ vs H Q E, ¬ sp vs H Q E) : FnOk P w K mg base CX k f fd ps sp :=
  ⟨fun vs H Q E q => absurd q (h vs H Q E), fun _ _ _ H _ _ vs Q E _ _ _ _ q => absurd q (h vs H Q E)⟩
/-- a comprehension without a test -/
theorem yes_if {σ : L2.St} {H : Hp} {A B : Hp → Prop} (h : A H) : tYes σ H (fun b H3 => if b = true then A H3 else B H3) := by
  show if true = true then A H else B H
  exact iteT h
theorem all_rep : ∀ n : Nat, (List.replicate n true).all id = true
  | 0 => rfl
  | n + 1 => by rw [List.replicate_succ, List.all_cons, all_rep n]; rfl
end Pc
namespace Pc
open PySem PySem.Spec PyProof.Rows L2 RZ
section
variable {P : Program} {w : World} {K : PySem.W.Frag} {mg : Str → Option Value} {base : Heap}
/-! ### the same data twice -/
def spSame (K : PySem.W.Frag) (n : Nat) : Sp := fun vs H Q _ => ∃ (x y : V) (d : PyData), vs = [x, y] ∧ Dp K H x d ∧ Dp K H y d ∧ d.depth < n ∧ narrow d ∧ ∀ H', Same H H' → Q (.bl true) H'
theorem same_step (T : Env K mg) (n : Nat) (G : FnOk P w K mg base CX0 n T.f_same T.d_same ["_law_found", "_law_due"] (spSame K n)) : FnOk P w K mg base CX0 (n + 1) T.f_same T.d_same ["_law_found", "_law_due"] (spSame K (n + 1)) := by
  refine T.F_same.ok sc_same (fun vs H Q E h => ?_) (fun cdv A outer s H vs Q E hr h => ?_)
  · obtain ⟨x, y, d, rfl, _⟩ := h
    rfl
  · obtain ⟨x, y, d, rfl, hx, hy, hd, hw, q⟩ := h
    refine ⟨_, pss_cons (ps_if (pt_val (pe_callB call_isiT (by rfl) T.n_isinstance (by decide +kernel) (pa_cons (pv 1) (pa_cons (pe_tup (pa_cons (pe_bltn (v := .ty "list") (by rfl) T.n_list (by decide +kernel) rfl) (pa_cons (pe_bltn (v := .ty "tuple") (by rfl) T.n_tuple (by decide +kernel) rfl) pa_nil))) pa_nil))))
        (pss_cons (ps_if (PW.pt (pw_or (pt_cmpR op_ne (pe_callB call_isi (by rfl) T.n_isinstance (by decide +kernel) (pa_cons (pv 0) (pa_cons (pe_bltn (v := .ty "list") (by rfl) T.n_list (by decide +kernel) rfl) pa_nil))) (pe_callB call_isi (by rfl) T.n_isinstance (by decide +kernel) (pa_cons (pv 1) (pa_cons (pe_bltn (v := .ty "list") (by rfl) T.n_list (by decide +kernel) rfl) pa_nil))) (nomark _))
            (pw_or1 (pt_cmpR op_ne (pe_callB call_isi (by rfl) T.n_isinstance (by decide +kernel) (pa_cons (pv 0) (pa_cons (pe_bltn (v := .ty "tuple") (by rfl) T.n_tuple (by decide +kernel) rfl) pa_nil))) (pe_callB call_isi (by rfl) T.n_isinstance (by decide +kernel) (pa_cons (pv 1) (pa_cons (pe_bltn (v := .ty "tuple") (by rfl) T.n_tuple (by decide +kernel) rfl) pa_nil))) (nomark _)))))
          (pss_one (ps_ret pe_bl)) pss_nil)
        (pss_one (ps_ret (pe_and (pe_cmpR op_eq (pe_callB call_len_seq (by rfl) T.n_len PySem.boot_len (pa_cons (pv 0) pa_nil)) (pe_callB call_len_seq (by rfl) T.n_len PySem.boot_len (pa_cons (pv 1) pa_nil)) (nomark _))
          (pe_one (pe_callB (cr_all rfl) (by rfl) T.n_all (by decide +kernel) (pa_cons
            (pe_lc (own := [("_law_mine", 2), ("_law_its", 3)]) (g := gTup K 2 (gCons (gName 2) (gCons (gName 3) gNil))) (tt := tYes) (by rfl) sc_same.nd (pi_zipA (by rfl) T.n_zip (pa_cons (pv 0) (pa_cons (pv 1) pa_nil)))
              (blkOk_by (N := N_same) (sc := defScope s_same) (by decide +kernel))
              (fun _ _ _ _ _ => pg_tup (by rfl) (pgs_cons (pg_name (i := 2) sc_same.nd rfl (.inl rfl)) (pgs_cons (pg_name (i := 3) sc_same.nd rfl (.inl rfl)) pgs_nil)))
              (fun _ _ _ _ _ => pts_nil)
              (fun _ _ _ _ _ => pe_call G hr (by rfl) T.g_same T.F_same.kp T.b_same .nil pass0 (pa_cons (pv 2) (pa_cons (pv 3) pa_nil)))) pa_nil))))))) pss_nil)
      (pss_cons (ps_if (PW.pt (pw_or (pt_cmpR op_isN (pv 1) pe_non (nomark _)) (pw_or1 (pt_val (pe_callB call_isiT (by rfl) T.n_isinstance (by decide +kernel) (pa_cons (pv 1) (pa_cons (pe_tup (pa_cons (pe_bltn (v := .ty "bool") (by rfl) T.n_bool (by decide +kernel) rfl) (pa_cons (pe_bltn (v := .ty "str") (by rfl) T.n_str (by decide +kernel) rfl) pa_nil))) pa_nil)))))))
        (pss_one (ps_ret (pe_and (pe_cmpR op_eq (pv 0) (pv 1) (nomark _))
          (pe_and (pe_cmpR op_eq (pe_callB call_isi (by rfl) T.n_isinstance (by decide +kernel) (pa_cons (pv 0) (pa_cons (pe_bltn (v := .ty "bool") (by rfl) T.n_bool (by decide +kernel) rfl) pa_nil))) (pe_callB call_isi (by rfl) T.n_isinstance (by decide +kernel) (pa_cons (pv 1) (pa_cons (pe_bltn (v := .ty "bool") (by rfl) T.n_bool (by decide +kernel) rfl) pa_nil))) (nomark _))
          (pe_one (pe_cmpR op_eq (pe_cmpR op_isN (pv 0) pe_non (nomark _)) (pe_cmpR op_isN (pv 1) pe_non (nomark _)) (nomark _))))))) pss_nil)
      (pss_one (ps_ret (pe_and (pe_callB call_isi (by rfl) T.n_isinstance (by decide +kernel) (pa_cons (pv 0) (pa_cons (pe_bltn (v := .ty "int") (by rfl) T.n_int (by decide +kernel) rfl) pa_nil)))
        (pe_and (pe_not (pe_callB call_isi (by rfl) T.n_isinstance (by decide +kernel) (pa_cons (pv 0) (pa_cons (pe_bltn (v := .ty "bool") (by rfl) T.n_bool (by decide +kernel) rfl) pa_nil)))) (pe_one (pe_cmpR op_eq (pv 0) (pv 1) (nomark _)))))))), ?_⟩
    cases d with
    | dict _ => cases hx
    | int i =>
      cases hx; cases hy
      refine ⟨_, rfl, by show 2 ≤ sizeLine; decide, fun t nt => ⟨_, t, _, _, _, _, rfl, upd_same, cls2 _ _, .base (.int i), any_lt_int, _, rfl, iteF ?_⟩⟩
      refine ⟨_, rfl, rfl, _, rfl, iteF ⟨_, rfl, by show 2 ≤ sizeLine; decide, fun u nu => ⟨_, u, _, _, _, _, rfl, upd_same, cls2 _ _, .base (.int i), any_bs_int, _, rfl, iteF ?_⟩⟩⟩
      refine ⟨_, rfl, _, _, _, _, _, rfl, .ty _, .base (.int i), one_int_int, _, rfl, iteT ⟨_, rfl, _, _, _, _, _, rfl, .ty _, .base (.int i), one_int_bool, _, rfl, _, rfl, iteT ⟨_, rfl, _, rfl, rfl, ?_⟩⟩⟩
      rw [decide_eq_true rfl]
      exact q _ ((same_new nt).trans (same_new nu))
    | none =>
      cases hx; cases hy
      refine ⟨_, rfl, by show 2 ≤ sizeLine; decide, fun t nt => ⟨_, t, _, _, _, _, rfl, upd_same, cls2 _ _, .base .non, any_lt_none, _, rfl, iteF ?_⟩⟩
      refine ⟨_, rfl, rfl, _, rfl, iteT ?_⟩
      refine ⟨_, rfl, _, rfl, rfl, _, rfl, iteT ⟨_, rfl, _, _, _, _, _, rfl, .ty _, .base .non, one_none_bool, _, rfl, _, _, _, _, _, rfl, .ty _, .base .non, one_none_bool, rfl, _, rfl, iteT ⟨_, rfl, rfl, _, rfl, rfl, rfl, ?_⟩⟩⟩
      exact q _ (same_new nt)
    | bool b =>
      cases hx; cases hy
      refine ⟨_, rfl, by show 2 ≤ sizeLine; decide, fun t nt => ⟨_, t, _, _, _, _, rfl, upd_same, cls2 _ _, .base (.bl b), any_lt_bool, _, rfl, iteF ?_⟩⟩
      refine ⟨_, rfl, rfl, _, rfl, iteF ⟨_, rfl, by show 2 ≤ sizeLine; decide, fun u nu => ⟨_, u, _, _, _, _, rfl, upd_same, cls2 _ _, .base (.bl b), any_bs_bool, _, rfl, iteT ?_⟩⟩⟩
      refine ⟨_, rfl, _, rfl, rfl, _, rfl, ?_⟩
      rw [decide_eq_true rfl]
      refine iteT ⟨_, rfl, _, _, _, _, _, rfl, .ty _, .base (.bl b), one_bool_bool, _, rfl, _, _, _, _, _, rfl, .ty _, .base (.bl b), one_bool_bool, rfl, _, rfl, iteT ⟨_, rfl, rfl, _, rfl, rfl, rfl, ?_⟩⟩
      rw [decide_eq_true rfl]
      exact q _ ((same_new nt).trans (same_new nu))
    | str z =>
      cases hx; cases hy
      refine ⟨_, rfl, by show 2 ≤ sizeLine; decide, fun t nt => ⟨_, t, _, _, _, _, rfl, upd_same, cls2 _ _, .base (.str z), any_lt_str, _, rfl, iteF ?_⟩⟩
      refine ⟨_, rfl, rfl, _, rfl, iteF ⟨_, rfl, by show 2 ≤ sizeLine; decide, fun u nu => ⟨_, u, _, _, _, _, rfl, upd_same, cls2 _ _, .base (.str z), any_bs_str, _, rfl, iteT ?_⟩⟩⟩
      refine ⟨_, rfl, _, rfl, rfl, _, rfl, ?_⟩
      rw [decide_eq_true rfl]
      refine iteT ⟨_, rfl, _, _, _, _, _, rfl, .ty _, .base (.str z), one_str_bool, _, rfl, _, _, _, _, _, rfl, .ty _, .base (.str z), one_str_bool, rfl, _, rfl, iteT ⟨_, rfl, rfl, _, rfl, rfl, rfl, ?_⟩⟩
      rw [decide_eq_true rfl]
      exact q _ ((same_new nt).trans (same_new nu))
    | list ds =>
      cases hx with
      | lst hsx hax =>
      cases hy with
      | lst hsy hay =>
      rename_i a xs b ys
      have hlx := dpa_len hax
      have hly := dpa_len hay
      obtain ⟨hw1, hw2⟩ := hw
      refine ⟨_, rfl, by show 2 ≤ sizeLine; decide, fun t nt => ?_⟩
      have s1 : Same H (upd H t (.tup [.ty "list", .ty "tuple"])) := same_new nt
      have hsx1 := Same.seq s1 hsx
      have hsy1 := Same.seq s1 hsy
      refine ⟨_, t, _, _, _, _, rfl, upd_same, cls2 _ _, ty_lst hsy1, any_lt_list, _, rfl, iteT ?_⟩
      refine ⟨_, rfl, _, _, _, _, _, rfl, .ty _, ty_lst hsx1, one_list_list, _, rfl, _, _, _, _, _, rfl, .ty _, ty_lst hsy1, one_list_list, rfl, _, rfl, iteNS rfl ?_⟩
      refine ⟨_, rfl, _, _, _, _, _, rfl, .ty _, ty_lst hsx1, one_list_tuple, _, rfl, _, _, _, _, _, rfl, .ty _, ty_lst hsy1, one_list_tuple, rfl, _, rfl, iteNS rfl ?_⟩
      refine ⟨_, rfl, a, xs, rfl, .inl hsx1, _, rfl, b, ys, rfl, .inl hsy1, rfl, _, rfl, ?_⟩
      rw [decide_eq_true (show V.int (xs.length : Int) = V.int (ys.length : Int) by rw [hlx, hly])]
      refine iteT ⟨_, rfl, _, rfl, a, b, xs, ys, rfl, .inl ⟨hsx1, hsy1, fun D nD => ?_⟩⟩
      have nD0 : H D = none := s1.free nD
      refine lc_it (walk_zip (n := xs.length) (by omega)) (fun i H' => Same H H' ∧ H' D = some (.lst (List.replicate i (.bl true)))) ⟨s1.trans (same_new nD), upd_same⟩ (fun i H' _ h => ⟨Same.seq h.1 hsx, Same.seq h.1 hsy⟩) (fun i v H1 H2 hi h yy => ?_) (fun H' h => ?_)
      · obtain ⟨sm, eD⟩ := h
        obtain ⟨tp, u, v, rfl, nT, rfl, g1, g2⟩ := yy
        obtain ⟨d1, e1, f1⟩ := dpa_get hax g1
        obtain ⟨d2, e2, f2⟩ := dpa_get hay g2
        cases Option.some.inj (e1.symm.trans e2)
        have st : Same H (upd H1 tp (.tup [u, v])) := sm.trans (same_new nT)
        refine ⟨tp, _, rfl, .inl (.inl upd_same), rfl, _, _, rfl, _, _, rfl, rfl, rfl, yes_if ?_⟩
        refine ⟨_, rfl, _, rfl, u, v, d1, rfl, dp_same st f1, dp_same st f2, ?_, narrow_get hw2 e1, fun H3 s3 => ⟨_, s3 _ _ (same_new nT _ _ eD), ?_, ?_, ?_⟩⟩
        · have := depth_get e1
          have hd' : PyData.depthAll ds + 1 < n + 1 := hd
          omega
        · rw [List.length_replicate]
          exact line_big (by omega)
        · intro c o hc
          rw [upd_ne (ne_of_none hc nD0)]
          exact s3 _ _ (st _ _ hc)
        · rw [upd_same, List.replicate_succ']
      · obtain ⟨sm, eD⟩ := h
        refine ⟨D, List.replicate xs.length true, rfl, ?_, ?_⟩
        · rw [List.map_replicate]
          exact .inl (.inl eD)
        · rw [all_rep]
          exact q _ sm
    | tuple ds =>
      cases hx with
      | tup hsx hax =>
      cases hy with
      | tup hsy hay =>
      rename_i a xs b ys
      have hlx := dpa_len hax
      have hly := dpa_len hay
      obtain ⟨hw1, hw2⟩ := hw
      refine ⟨_, rfl, by show 2 ≤ sizeLine; decide, fun t nt => ?_⟩
      have s1 : Same H (upd H t (.tup [.ty "list", .ty "tuple"])) := same_new nt
      have hsx1 := same_tup s1 hsx
      have hsy1 := same_tup s1 hsy
      refine ⟨_, t, _, _, _, _, rfl, upd_same, cls2 _ _, ty_tup hsy1, any_lt_tuple, _, rfl, iteT ?_⟩
      refine ⟨_, rfl, _, _, _, _, _, rfl, .ty _, ty_tup hsx1, one_tuple_list, _, rfl, _, _, _, _, _, rfl, .ty _, ty_tup hsy1, one_tuple_list, rfl, _, rfl, iteNS rfl ?_⟩
      refine ⟨_, rfl, _, _, _, _, _, rfl, .ty _, ty_tup hsx1, one_tuple_tuple, _, rfl, _, _, _, _, _, rfl, .ty _, ty_tup hsy1, one_tuple_tuple, rfl, _, rfl, iteNS rfl ?_⟩
      refine ⟨_, rfl, a, xs, rfl, .inr hsx1, _, rfl, b, ys, rfl, .inr hsy1, rfl, _, rfl, ?_⟩
      rw [decide_eq_true (show V.int (xs.length : Int) = V.int (ys.length : Int) by rw [hlx, hly])]
      refine iteT ⟨_, rfl, _, rfl, a, b, xs, ys, rfl, .inr ⟨hsx1, hsy1, fun D nD => ?_⟩⟩
      have nD0 : H D = none := s1.free nD
      refine lc_it (walk_zipT (n := xs.length) (by omega)) (fun i H' => Same H H' ∧ H' D = some (.lst (List.replicate i (.bl true)))) ⟨s1.trans (same_new nD), upd_same⟩ (fun i H' _ h => ⟨same_tup h.1 hsx, same_tup h.1 hsy⟩) (fun i v H1 H2 hi h yy => ?_) (fun H' h => ?_)
      · obtain ⟨sm, eD⟩ := h
        obtain ⟨tp, u, v, rfl, nT, rfl, g1, g2⟩ := yy
        obtain ⟨d1, e1, f1⟩ := dpa_get hax g1
        obtain ⟨d2, e2, f2⟩ := dpa_get hay g2
        cases Option.some.inj (e1.symm.trans e2)
        have st : Same H (upd H1 tp (.tup [u, v])) := sm.trans (same_new nT)
        refine ⟨tp, _, rfl, .inl (.inl upd_same), rfl, _, _, rfl, _, _, rfl, rfl, rfl, yes_if ?_⟩
        refine ⟨_, rfl, _, rfl, u, v, d1, rfl, dp_same st f1, dp_same st f2, ?_, narrow_get hw2 e1, fun H3 s3 => ⟨_, s3 _ _ (same_new nT _ _ eD), ?_, ?_, ?_⟩⟩
        · have := depth_get e1
          have hd' : PyData.depthAll ds + 1 < n + 1 := hd
          omega
        · rw [List.length_replicate]
          exact line_big (by omega)
        · intro c o hc
          rw [upd_ne (ne_of_none hc nD0)]
          exact s3 _ _ (st _ _ hc)
        · rw [upd_same, List.replicate_succ']
      · obtain ⟨sm, eD⟩ := h
        refine ⟨D, List.replicate xs.length true, rfl, ?_, ?_⟩
        · rw [List.map_replicate]
          exact .inl (.inl eD)
        · rw [all_rep]
          exact q _ sm
theorem ok_same (T : Env K mg) : ∀ n : Nat, FnOk P w K mg base CX0 n T.f_same T.d_same ["_law_found", "_law_due"] (spSame K n)
  | 0 => fn_never fun vs H Q E h => by
    obtain ⟨x, y, d, _, _, _, hd, _⟩ := h
    exact absurd hd (Nat.not_lt_zero _)
  | n + 1 => same_step T n (ok_same T n)
end
end Pc
namespace Pc
open PySem PySem.Spec PyProof.Rows L2 RZ
/-! ### enumerate of a tuple -/
theorem draws_tuple {prog : Program} {w : World} {A : Around} (hh : A.handled = none) (it l : Addr) (hne : l ≠ it) (items : Array Value) :
    Draws prog w A it [it, l] items.size (fun i v => items[i]? = some v) (fun i h => h.IsTupleIter it l i ∧ h.IsTuple l items) where
  live i h st := by
    obtain ⟨⟨o, ho, _⟩, _⟩ := st
    exact ⟨o, ho⟩
  frame i h h' st hk := ⟨Heap.IsTupleIter.at st.1 (hk it (by simp)), Heap.IsTuple.at st.2 (hk l (by simp))⟩
  item i s Q E hi st hQ := by
    have hx : items[i]? = some items[i] := by simp [hi]
    exact nextOf_tuple_item st.1 st.2 hx fun h' hit' hs' => hQ _ h' s.toks hx ⟨hit', st.2.extBut hs'.extBut hne⟩ hs'
  done s Q E st hE := nextOf_tuple_end hh st.1 st.2 (by simp) hE
set_option maxHeartbeats 4000000 in
theorem enum_newT (l : Addr) (items : Array Value) (n : Nat) (dct : Option Addr) (sl : Array (Option Value)) :
    Meets (Builtin.«enumerate.__new__» ⟨[.type "enumerate", .ref l], []⟩) (fun _ R s =>
      s.heap.get? l = some { cls := .type "tuple", dict := dct, data := .seq items n, slots := sl } ∧
      R (.ok (.ret (.ref (s.heap.push { cls := .type "tuple_iterator", data := .fields #[.ref l, .int 0 0] }).objs.size)))
        { s with heap := Heap.push (s.heap.push { cls := .type "tuple_iterator", data := .fields #[.ref l, .int 0 0] }) { cls := .type "enumerate", data := .fields #[.none, .bool false, .ref s.heap.objs.size, rawInt 0, .none, .none] } }) := by
  refine .of_wp fun prog w A R s h => ?_
  obtain ⟨hp, g, d, tk, os⟩ := s
  obtain ⟨hl, h⟩ := h
  have subE := sub_enumerate
  have isT : Heap.IsTuple (Shared.heap ⟨hp, g, d, tk, os⟩) l items := ⟨_, hl, rfl, n, rfl⟩
  wp_walk using AutoSeq1.wpAny_loadPart' hl
  refine wpAny_stack_any fun st => wpAny_pure ?_
  split
  · rename_i c _ _ _ _ _
    cases (c == Value.type "enumerate") <;> (wp_walk using AutoSeq1.wpAny_loadPart' hl, wpAny_pyIter_tuple isT; exact ⟨_, rfl, h⟩)
  · wp_walk using AutoSeq1.wpAny_loadPart' hl, wpAny_pyIter_tuple isT
    exact ⟨_, rfl, h⟩
theorem call_enumT {prog : Program} {w : World} {A : Around} {E : Value → Shared → Prop} {s : Shared} {l : Addr} {items : Array Value} {Q : Value → Shared → Prop} (hL : s.heap.IsTuple l items)
    (h : ∀ h', IsEnum h' (s.heap.objs.size + 1) s.heap.objs.size 0 .none → h'.IsTupleIter s.heap.objs.size l 0 →
      (∀ b o, s.heap.get? b = some o → h'.get? b = some o) → Q (.ref (s.heap.objs.size + 1)) { s with heap := h' }) :
    wpAny (model prog w) A (call (.type "enumerate") [.ref l]) Q E s := by
  obtain ⟨⟨c, dct, dt, sl⟩, hl, hc, n, hd⟩ := hL
  have hc' : c = .type "tuple" := hc
  have hd' : dt = .seq items n := hd
  subst hc' hd'
  refine callType_new F.called_enumerate (by decide) (F.typeCall_enumerate_1 _) (F.newCall_enumerate_1 _) (fun obj => F.args_object_init_2 obj _) F.entry_enumerate_new (enum_newT l items n dct sl) ⟨hl, ?_⟩
  have hz : (s.heap.push { cls := .type "tuple_iterator", data := .fields #[.ref l, .int 0 0] }).objs.size = s.heap.objs.size + 1 := Heap.size_push ..
  have he := Heap.get?_push_size (s.heap.push { cls := .type "tuple_iterator", data := .fields #[.ref l, .int 0 0] })
    (o := { cls := .type "enumerate", data := .fields #[.none, .bool false, .ref s.heap.objs.size, rawInt 0, .none, .none] }) rfl
  rw [hz] at he
  show _ ∧ _
  rw [hz]
  exact ⟨⟨_, he, rfl⟩, h _ he ⟨{ cls := .type "tuple_iterator", data := .fields #[.ref l, .int 0 0] }, Heap.get?_push_of_some _ (Heap.get?_push_size _ rfl), rfl, rfl⟩ fun b o x => Heap.get?_push_of_some _ (Heap.get?_push_of_some _ x)⟩
/-- the tuple at a, its items in new pairs with their places -/
def IteT (K : PySem.W.Frag) (a : Addr) : It where
  go i H := ∃ (xs : List V) (x : V), SqT K H a xs ∧ xs[i]? = some x
  yld i H v H' := ∃ T x, v = .ref T ∧ H T = none ∧ H' = upd H T (.tup [.int (i : Nat), x]) ∧ ∀ xs, SqT K H a xs → xs[i]? = some x
  stop i H := ∃ xs : List V, SqT K H a xs ∧ xs.length ≤ i
theorem turn_enumT {P : Program} {w : World} {K : PySem.W.Frag} {elts : List Expr} {kk : Nat} {tpos : Pos} (a e it : Addr) (hei : e ≠ it) (hae : a ≠ e) (hai : a ≠ it) :
    Turn P w K (.Tuple elts kk tpos) (IteT K a) [e, it] e (fun i h => (∃ old, IsEnum h e it ((i : Nat) : Int) old) ∧ h.IsTupleIter it a i) where
  mem := by simp
  obj i h st b hb := by
    obtain ⟨⟨old, he⟩, ⟨o, ho, hc, hd⟩⟩ := st
    rcases (show b = e ∨ b = it by simpa using hb) with z | z
    · rw [z]; exact ⟨_, he, fun v q => nomatch q⟩
    · rw [z]; exact ⟨o, ho, fun v q => by rw [hd] at q; cases q⟩
  keep i h h' st k := by
    obtain ⟨⟨old, he⟩, hi⟩ := st
    exact ⟨⟨old, k e (by simp) _ he⟩, hi.at fun o q => k it (by simp) o q⟩
  item := by
    intro X hP hw hK hc i pins s σ H E I hf st hg
    subst hP hw hK
    obtain ⟨⟨old, he⟩, hit⟩ := st
    obtain ⟨xs, x, hq, hx⟩ := hg
    obtain ⟨its, rv, p, hz⟩ := I.tuple hq
    have p2 : s.heap.IsTuple a its.toArray := p
    obtain ⟨u, hu, ru⟩ := rv.get hx
    have hlt : i < its.toArray.size := by
      rw [List.size_toArray]
      exact get_lt hu
    have D := draws_tuple (prog := X.prog) (w := X.w) (A := X.A.in1) (show X.A.in1.handled = none from I.ok.hd hc) it a hai its.toArray
    have hel : e < s.heap.objs.size := Heap.lt_size he
    have hil : it < s.heap.objs.size := by obtain ⟨_, q, _⟩ := hit; exact Heap.lt_size q
    refine wpAny_pyNext_enum_itemD D he ⟨hit, p2⟩ hlt hei (by simp [hei, hae.symm]) fun y h' tk hy ho hst hT hsz hk => ?_
    have ey : y = u := by
      have : its.toArray[i]? = some y := hy
      rw [List.getElem?_toArray, hu] at this
      exact (Option.some.inj this).symm
    subst ey
    refine ⟨_, rfl, wpAny_letOwnedTupleGo_enum (s := { s with heap := h', toks := tk + 1 }) ho fun h'' he' sb => ?_⟩
    have hT2 : h''.get? s.heap.objs.size = some { cls := .type "tuple", data := .seq #[.int i tk, y] } := (sb.2 _ (Nat.ne_of_gt hel)).trans hT
    have new : ObjOk X.prog X.w (upd H s.heap.objs.size (.tup [.int (i : Nat), x])) h'' s.heap.objs.size (.tup [.int (i : Nat), x]) :=
      ⟨by show 2 ≤ sizeLine; decide, [.int i tk, y], .cons ⟨_, rfl⟩ (.cons ru .nil), ⟨_, hT2, rfl, _, rfl⟩⟩
    have I1 := I.turnedNew (t' := tk + 1) (h' := h'') (ch := [e, it]) (fun b ob hb q => (sb.2 b (fun z => hb (by simp [z]))).trans (hk b ob (fun z => hb (by simp [z])) (fun z => hb (by simp [z])) q)) hf (Nat.le_refl _) new
    refine ⟨.ref s.heap.objs.size, _, I1, rfl, ⟨_, x, rfl, I.hok.fresh (Nat.le_refl _), rfl, fun ys hy => by rw [I.tuple_inj hy hq]; exact hx⟩, ⟨⟨y, ?_⟩, hst.1.at fun o q => (sb.2 it hei.symm).trans q⟩, fun b hb => ?_⟩
    · rw [show ((i + 1 : Nat) : Int) = (i : Int) + 1 by omega]; exact he'
    · have hb' : b < s.heap.objs.size := by
        rcases (show b = e ∨ b = it by simpa using hb) with z | z
        · rw [z]; exact hel
        · rw [z]; exact hil
      rw [upd_ne (Nat.ne_of_lt hb')]
      exact (hf b hb).1
  done := by
    intro X hP hw hK hc i pins s σ H E I hf st hg
    subst hP hw hK
    obtain ⟨⟨old, he⟩, hit⟩ := st
    obtain ⟨xs, hq, hx⟩ := hg
    obtain ⟨its, rv, p, hz⟩ := I.tuple hq
    have p2 : s.heap.IsTuple a its.toArray := p
    obtain ⟨f0, f1, f2, f3, f4, f5⟩ := hf it (by simp)
    have hl := rv.length
    have hT : s.TypeIs (.ref e) "enumerate" := ⟨_, he, rfl⟩
    unfold pyNext
    refine wpAny_bind (wpAny_attempt (wpAny_callSpecial?_slot (name := Str.ofString "__next__") hT F.slot_enumerate_next (wpAny_call_entry F.slot_enumerate_next hT F.entry_enumerate_next ?_ (F.args_enumerate_next_1 _))))
    show wpAny _ _ (field (.ref e) 2 >>= _) _ _ _
    refine wpAny_bind (wpAny_field he rfl (x := .ref it) rfl ?_)
    refine wpAny_bind (nextOf_tuple_end (show X.A.in1.handled = none from I.ok.hd hc) hit p2 (by simp; omega) fun h' x he' hx' => ?_)
    obtain ⟨o, ho, hcl⟩ := hx'
    refine wpAny_bind (wpAny_isInstance (T := "StopIteration") (b := true) ⟨o, ho, hcl⟩ isSubtype_stop ?_)
    exact wpAny_pure ⟨rfl, I.turned (t' := s.toks) (fun b o hb q => he' b o hb q) f0 f1 f3 f4 f5⟩
  self A i s Q E st h := by
    obtain ⟨⟨_, he⟩, _⟩ := st
    exact wpAny_pyIter_enum he h
/-- enumerate of a list or a tuple -/
def iEnumA (K : PySem.W.Frag) (ta : TA) : TI := fun σ H R => ta σ H fun vs H1 => ∃ a xs, vs = [.ref a] ∧ ((SqL K H1 a xs ∧ R (Ite K a) H1) ∨ (SqT K H1 a xs ∧ R (IteT K a) H1))
theorem pi_enumA {X : Cx} {e : Expr} {ta : TA} {p pos tpos : Pos} {elts : List Expr} {kk : Nat} (hg : Gl X "enumerate") (hm : X.mg "enumerate" = none) (ha : PA X [e] ta) (hs : starEach [e] X.env = [(false, eval e X.env)] := by rfl) :
    PI X (.Tuple elts kk tpos) (.Call (.Name "enumerate" p) [e] [] pos) (iEnumA X.K ta) := by
  constructor
  intro pins s σ H R I h
  refine Call_ (ld_blt I hg hm boot_enumerate (callWith_type1 (thn (ha.run pos pins s σ H _ I h) fun us s1 r => ?_) hs rfl))
  obtain ⟨vs, H1, I1, r1, a, xs, ex, q1⟩ := r
  subst ex
  cases r1 with
  | cons r rr =>
    cases rr
    cases r
    have fr : ∀ b, b ∈ [s1.heap.objs.size + 1, s1.heap.objs.size] → FpOk X pins H1 b := fun b hb => by
      have hle : s1.heap.objs.size ≤ b := by
        rcases (show b = s1.heap.objs.size + 1 ∨ b = s1.heap.objs.size by simpa using hb) with z | z <;> omega
      exact I1.fpOk hle (I1.hok.fresh hle)
    rcases q1 with ⟨hq, q⟩ | ⟨hq, q⟩
    · obtain ⟨its, rv, p', hz⟩ := I1.list hq
      refine call_enumerate_list p'.isList fun h' he hit _ hk => wpAny_pyIter_enum he ?_
      exact ⟨_, _, _, _, H1, rfl, I1.kept (t' := s1.toks) hk, turn_enum a (s1.heap.objs.size + 1) s1.heap.objs.size, ⟨⟨.none, he⟩, hit, Nat.succ_ne_self _⟩, fr, q⟩
    · obtain ⟨its, rv, p', hz⟩ := I1.tuple hq
      have p2 : s1.heap.IsTuple a its.toArray := p'
      have hlt : a < s1.heap.objs.size := by obtain ⟨o, ho, _⟩ := p2; exact Heap.lt_size ho
      refine call_enumT p2 fun h' he hit hk => wpAny_pyIter_enum he ?_
      exact ⟨_, _, _, _, H1, rfl, I1.kept (t' := s1.toks) hk, turn_enumT a (s1.heap.objs.size + 1) s1.heap.objs.size (Nat.succ_ne_self _) (Nat.ne_of_lt (Nat.lt_succ_of_lt hlt)) (Nat.ne_of_lt hlt), ⟨⟨.none, he⟩, hit⟩, fr, q⟩
theorem walk_enumT {K : PySem.W.Frag} {a : Addr} {xs : List V} : Walk (IteT K a) xs.length (fun H => SqT K H a xs) (YPair (fun i => some (.int (i : Nat))) (fun i => xs[i]?)) where
  goes i H hi q := by
    obtain ⟨x, hx⟩ := get_some hi
    exact ⟨xs, x, q, hx⟩
  stops H q := ⟨xs, q, Nat.le_refl _⟩
  yields i H v H' hi q y := by
    obtain ⟨T, x, h1, h2, h3, h4⟩ := y
    exact ⟨T, .int (i : Nat), x, h1, h2, h3, rfl, h4 xs q⟩
end Pc
namespace Pc
open PySem PySem.Spec PyProof.Rows L2 RZ
/-! ### t[::-1] of a pair -/
section
variable {prog : Program} {w : World} {A : Around} {E : Value → Shared → Prop} {s : Shared}
theorem applied_rev2 {sl : Addr} {vk : Value} {Q : Int × Int × Nat → Shared → Prop} (hs : s.heap.IsSliceOf sl .none .none vk) (pk : IsPart vk (some (-1))) (h : Q (1, -1, 2) s) :
    wpAny (model prog w) A (Builtin.Slice.sliceApplied (.ref sl) (pure (2 : Int))) Q E s := by
  obtain ⟨os, hos, hcs, hds⟩ := id hs
  unfold Builtin.Slice.sliceApplied Builtin.Slice.sliceFields
  refine wpAny_bind (wpAny_bind (wpAny_field hos hds (x := .none) rfl ?_))
  refine wpAny_bind (wpAny_field hos hds (x := .none) rfl ?_)
  refine wpAny_bind (wpAny_field hos hds (x := vk) rfl (wpAny_pure ?_))
  refine wpAny_bind (HT.slicePart_ pk ?_)
  show wpAny _ _ (if ((-1 : Int) == 0) = true then _ else _) _ _ s
  rw [if_neg (by decide)]
  refine wpAny_bind (HT.slicePart_ .none (wpAny_bind (HT.slicePart_ .none (wpAny_bind (wpAny_pure ?_)))))
  exact wpAny_pure h
theorem item_rev2 {t sl : Addr} {u v vk : Value} {Q : Value → Shared → Prop} (ht : IsTup s.heap t #[u, v]) (hs : s.heap.IsSliceOf sl .none .none vk) (pk : IsPart vk (some (-1)))
    (h : Q (.ref s.heap.objs.size) { s with heap := s.heap.push { cls := .type "tuple", data := .seq #[v, u] } }) : wpAny (model prog w) A (getItem (.ref t) (.ref sl)) Q E s := by
  obtain ⟨os, hos, hcs, hds⟩ := id hs
  have hTs : s.TypeIs (.ref sl) "slice" := ⟨os, hos, hcs⟩
  unfold getItem
  try with_reducible refine wpAny_holding ?_
  first | refine wpAny_bind (wpAny_pure ?_) | skip
  refine wpAny_bind (wpAny_sequenceKey ht.typeIs (by decide) ?_)
  refine wpAny_bind (wpAny_callSpecial?_slot (name := Str.ofString "__getitem__") ht.typeIs PyProof.Rows.slot_tuple_getitem (wpAny_call_entry PyProof.Rows.slot_tuple_getitem ht.typeIs entry_tuple_getitem ?_ (args_tuple_getitem _ _)))
  show wpAny _ _ (Builtin.Tuple.tupleItemsOf (.ref t) >>= _) _ _ s
  refine wpAny_bind (tupleItemsOf_ ht ?_)
  refine wpAny_bind (wpAny_typeOf hTs ?_)
  rw [if_pos (by decide)]
  refine wpAny_bind (applied_rev2 hs pk ?_)
  show wpAny _ _ (if ((1 : Int) == 0 && (-1 : Int) == 1 && (2 : Nat) == 2) = true then _ else _) _ _ s
  rw [if_neg (by decide)]
  have e : ((List.range 2).filterMap fun (k : Nat) => (#[u, v] : Array Value)[((1 : Int) + (k : Int) * -1).toNat]?).toArray = #[v, u] := rfl
  rw [e]
  have hz : sizeOk (.seq (#[v, u] : Array Value)) := by show 2 ≤ sizeLine; decide
  first
    | exact wpAny_bind (m := Builtin.Tuple.tupleExact _) (wpAny_newObj_type (wpAny_pure ⟨_, rfl, wpAny_pure h⟩) hz)
    | exact wpAny_bind (wpAny_bind (m := Builtin.Tuple.tupleExact _) (wpAny_newObj_type (wpAny_pure (wpAny_pure ⟨_, rfl, wpAny_pure h⟩)) hz))
    | exact wpAny_bind (wpAny_bind (m := Builtin.Tuple.tupleExact _) (wpAny_newObj_type (wpAny_pure ⟨_, rfl, wpAny_pure h⟩) hz))
    | exact wpAny_bind (m := Builtin.Tuple.tupleExact _) (wpAny_newObj_type (wpAny_bind (wpAny_pure (wpAny_pure ⟨_, rfl, wpAny_pure h⟩))) hz)
end
def tRev2 (K : PySem.W.Frag) (te : TE) : TE := fun σ H Q => te σ H fun x H1 => ∃ a y z, x = .ref a ∧ SqT K H1 a [y, z] ∧ ∀ p, H1 p = none → Q (.ref p) (upd H1 p (.tup [z, y]))
theorem pe_rev2 {X : Cx} {e : Expr} {te : TE} {k : Nat} {p1 p2 p3 pos : Pos} (he : PE X e te) : PE X (.Subscript e (.Slice none none (some (.UnaryOp .USub (.Constant (.int 1) k p1) p2)) p3) pos) (tRev2 X.K te) := by
  constructor
  intro pins s σ H Q I h
  refine Subscript_ (thn (he.run pins s σ H _ I h) fun v s1 r => ?_)
  obtain ⟨x, H1, I1, r1, a, y, z, ex, hx, q⟩ := r
  subst ex
  cases r1
  have hst : PO X (some (.UnaryOp .USub (.Constant (.int 1) k p1) p2)) (tPart (tUn (rU fun i => .int (-i)) (tC (.int 1)))) := po_some (pe_un un_neg pe_int)
  refine wpAny_Slice (thn (po_none.run pins s1 σ H1 (fun o H2 => o = none ∧ H2 = H1) I1 ⟨rfl, rfl⟩) fun vl s2 ⟨l, H2, I2, pl, el, e2⟩ => ?_)
  subst el e2
  refine thn (po_none.run pins s2 σ H2 (fun o H3 => o = none ∧ H3 = H2) I2 ⟨rfl, rfl⟩) fun vu s3 ⟨u, H3, I3, pu, eu, e3⟩ => ?_
  subst eu e3
  refine thn (hst.run pins s3 σ H3 (fun o H4 => o = some (-1) ∧ H4 = H3) I3 ⟨1, rfl, -1, rfl, rfl, rfl⟩) fun vs s4 ⟨o, H4, I4, ps, eo, e4⟩ => ?_
  subst eo e4
  cases pl
  cases pu
  have I5 : Inv X pins σ H4 { s4 with heap := s4.heap.push { cls := .type "slice", data := .fields #[.none, .none, vs] } } := I4.kept (t' := s4.toks) fun b ob q => Heap.get?_push_of_some _ q
  obtain ⟨its, r, ht, hz⟩ := I5.tuple hx
  obtain ⟨w1, w2, ei, r1, r2⟩ := vals2 r
  subst ei
  show wpAny (model X.prog X.w) X.A (subscriptTail e (.Slice none none (some (.UnaryOp .USub (.Constant (.int 1) k p1) p2)) p3) (.ref a) (.ref s4.heap.objs.size)) (EP X pins σ Q) X.xe _
  refine tail_any (ops := [.ref a, .ref s4.heap.objs.size]) ht.typeIs PyProof.Rows.slot_tuple_getitem.lookup ?_ (by with_unfolding_all rfl)
  refine item_rev2 ht (Heap.IsSliceOf.new _ .none .none vs) ps ?_
  refine ⟨.ref _, _, I5.laid (t' := s4.toks) (o := .tup [z, y]) (fun b ob q => Heap.get?_push_of_some _ q) (Nat.le_refl _) ?_, rfl, q _ (I5.hok.fresh (Nat.le_refl _))⟩
  exact ⟨by show 2 ≤ sizeLine; decide, [w2, w1], .cons r2 (.cons r1 .nil), IsTup.new _ _⟩
end Pc
namespace Pc
open PySem PySem.Spec PyProof.Rows L2 RZ
/-! ### defs that run where no repr is under way (repr asks for that) -/
structure FnG (P : Program) (w : World) (K : PySem.W.Frag) (mg : Str → Option Value) (base : Heap) (CX : CXT) (k : Nat) (f : Addr) (fd : FuncData) (ps : List Str) (sp : Sp) : Prop where
  len : ∀ vs H Q E, sp vs H Q E → vs.length = ps.length
  run : ∀ (A : Around) (outer : List PySem.Env) (s : Shared) (H : Hp) (args : Args) (us : List Value) (vs : List V) (Q : VK) (E : XK), Room k A → A.guards = some [] → Env0 P w K mg base A outer s H →
    BindsTo s fd args (ps.zip us) → Vals vs us → sp vs H Q E → codeAny (model P w) A (.call (.ref f) args) (CR CX outer P w H s Q E) s
section
variable {P : Program} {w : World} {K : PySem.W.Frag} {mg : Str → Option Value} {base : Heap}
theorem fun_g {x qual : Str} {st : Stmt} {f : Addr} {fd : FuncData} {N ps : List Str} {k : Nat} {sp : Sp} (F : Fun K x qual st f fd) (S : FnScope N ps (defScope st)) (len : ∀ vs H Q E, sp vs H Q E → vs.length = ps.length)
    (hbody : ∀ (cdv : Value) (A : Around) (outer : List PySem.Env) (s : Shared) (H : Hp) (vs : List V) (Q : VK) (E : XK), Room k (A.deeper (envOfC qual (defScope st) s.heap.objs.size f cdv)) → A.guards = some [] → sp vs H Q E →
      ∃ t, PSs (cxOf CX0 P w K mg base N qual (defScope st) f cdv A outer s H E).nox (defBody st) t ∧ t { nx := fun _ H' => Q .non H', rt := Q } (start N vs) H) : FnG P w K mg base CX0 (k + 1) f fd ps sp := by
  obtain ⟨oc, od, kV, doc, pm, an, cdv, ct, osl, rfl, lk, hcd⟩ := F.ex
  constructor
  · exact len
  intro A outer s H args us vs Q E hr hgd e0 hb r hsp
  have hl := len _ _ _ _ hsp
  have up : ∀ b o, base.get? b = some o → s.heap.get? b = some o := fun b o e => (e0.bs b o e).1
  have KX : K.In s.heap := e0.mod.kin.keeps up
  have lim : s.heap.NoLimit := e0.mod.nolimit.keeps up
  obtain ⟨t, ht, hq⟩ := hbody cdv A outer s H vs Q E (hr.deeper _) hgd hsp
  refine codeAny_call_function hr.depth (KX _ _ lk) rfl S.co S.gen rfl (PySem.W.codeRec_of KX hcd) (hb _ _ _ _ ?_)
  refine wpAny_newFunctionEnv_cells S.kind ?_ ?_
  · rintro ⟨n, v⟩ hy
    rcases S.par n (List.of_mem_zip hy).1 with z | z
    · exact Or.inl z
    · exact Or.inr ⟨z, PySem.W.cellsFrom_some _ _ _ (Or.inl z)⟩
  intro env he s1 x
  subst he
  refine ⟨lim.keeps x.toInCall.keep, codeAny_func ?_⟩
  have I := inv_start (CX := CX0) (E := E) S hr.hd e0 hl r x
  refine wpAny_mono (ht.nox.run [] s1 (start N vs) H _ I hq) ?_ (fun _ _ z => z)
  intro fl s' hs
  cases fl with
  | brk => obtain ⟨_, _, _, z⟩ := hs; exact z.elim
  | cont => obtain ⟨_, _, _, z⟩ := hs; exact z.elim
  | next =>
    obtain ⟨σ', H', J, z⟩ := hs
    exact ⟨V.non, H', J.os, J.bare, J.base, J.hok, rfl, z⟩
  | ret u =>
    obtain ⟨v, σ', H', J, rv, z⟩ := hs
    exact ⟨v, H', J.os, J.bare, J.base, J.hok, rv, z⟩
end
section
variable {X : Cx} {CX : CXT} {k : Nat} {f : Addr} {fd : FuncData} {ps : List Str} {sp : Sp} {x : Str} {e : Expr} {es : List Expr} {ds : List Value} {dvs : List V} {E : XK} {t : TA} {p pos : Pos}
theorem pe_callG (F : FnG X.prog X.w X.K X.mg X.base CX k f fd ps sp) (hr : Room k X.A) (hgd : X.A.guards = some []) (hg : Gl X x) (hm : X.mg x = some (.ref f)) (hk : PySem.W.keepIn X.K (.ref f) = true) (hb : Binds X.K fd ps ds) (hd : Vals dvs ds) (hx : Passes CX X E)
    (ha : PA X (e :: es) t) (hdb : (x == ("__debug__" : Str)) = false := by decide) (he : starEach (e :: es) X.env = (false, eval e X.env) :: starEach es X.env := by rfl) (hpl : (backTo pos (starEach es X.env)).any (·.1) = false := by rfl) :
    PE X (.Call (.Name x p) (e :: es) [] pos) (tCall sp dvs E t) := by
  constructor
  intro pins s σ H Q I h
  refine wpAny_Call_Name_kw (ld_glob I hg hm ?_ hdb)
  refine PySem.W.callWith_K (h₀ := X.base) I.ok.mod.kin hk (thn (ha.run pos pins s σ H _ I h) ?_) he hpl
  rintro us s1 ⟨vs, H1, I1, r, q⟩
  refine ⟨I1.kIn, ?_⟩
  have r2 : Vals (vs ++ dvs) (us ++ ds) := r.append hd
  have hl : (us ++ ds).length = ps.length := by
    rw [← r2.length]
    exact F.len _ _ _ _ q
  refine wpAny_call (codeAny_mono (F.run X.A X.stack s1 H1 ⟨us, []⟩ (us ++ ds) (vs ++ dvs) Q E hr hgd I1.env0 (hb s1 us I1.kIn hl) r2 q) ?_)
  intro res s' hq
  cases res with
  | error e => exact hx pins σ H1 s1 e s' I1 hq
  | ok fl =>
    cases fl with
    | ret u => exact I1.after hq
    | next => exact hq.elim
    | brk => exact hq.elim
    | cont => exact hq.elim
end
/-! ### the law's own call, where no repr is under way -/
theorem law_g {P : Program} {w : World} {K : PySem.W.Frag} {mg mb : Str → Option Value} {CX : CXT} {k : Nat} {fa a : Addr} {fd : FuncData} {x : Str} {sp : Sp} {s₁ : Shared} {vs : List Value} {ns : List Int}
    (KX : K.In s₁.heap) (hns : s₁.heap.Ns mainGlobals mg) (hb : s₁.heap.Ns builtinsNs mb) (hbb : ∀ x : Str, x ≠ "__name__" → mb x = bootBuiltins x) (hlim : s₁.heap.NoLimit) (hg : s₁.gens = #[])
    (ha : s₁.heap.get? a = some { cls := .type "list", data := .seq vs.toArray }) (hi : IntsAre vs ns) (hl : ns.length ≤ sizeLine) (hr : Room k callerA)
    (F : ∀ base : Heap, K.In base → base.Ns mainGlobals mg → FnG P w K mg base CX k fa fd [x] sp) (hbind : ∀ (s : Shared) (u : Value), BindsTo s fd ⟨[u], []⟩ [(x, u)])
    (hsp : ∀ H : Hp, SqL K H a (ns.map V.int) → sp [.ref a] H (fun v _ => v = .bl true) fun _ _ _ => False)
    (hCX : ∀ H e s', CX [] H s₁ (fun _ _ _ => False) e s' → False) :
    codeAny (model P w) callerA (.call (.ref fa) ⟨[.ref a], []⟩) (fun r s' => r = .ok (.ret (.bool true)) ∧ OldK s₁.heap s'.heap ∧ s'.os = s₁.os ∧ AllBare s'.gens) s₁ := by
  have rv := vals_ints hi
  have len0 := hi.length
  let lo : Obj := { cls := .type "list", data := .seq vs.toArray }
  have main : ∀ H : Hp, SqL K H a (ns.map V.int) → HOk P w H s₁.heap → (∀ b u, H b = some u → b = a ∧ u = .frz lo (.lst (ns.map V.int)) ∧ K.lookup a = none) →
      codeAny (model P w) callerA (.call (.ref fa) ⟨[.ref a], []⟩) (fun r s' => r = .ok (.ret (.bool true)) ∧ OldK s₁.heap s'.heap ∧ s'.os = s₁.os ∧ AllBare s'.gens) s₁ := by
    intro H hS hok hA
    have free : ∀ {b : Addr} {o : Obj}, s₁.heap.get? b = some o → (∀ n, o.data ≠ .seq vs.toArray n) → H b = none := by
      intro b o e d
      cases z : H b with
      | none => rfl
      | some u =>
        obtain ⟨rfl, _⟩ := hA b u z
        rw [ha] at e
        cases e
        exact absurd rfl (d _)
    have nsK : ∀ {b : Addr} {m : Str → Option Value}, s₁.heap.Ns b m → (hidT s₁.heap H).Ns b m := by
      rintro b m ⟨o, es, ep, e, d, r⟩
      exact ⟨o, es, ep, hidT_get e (free e fun n => by rw [d]; exact fun z => nomatch z), d, r⟩
    have hKb : K.In (hidT s₁.heap H) := by
      intro b o e
      refine hidT_get (KX b o e) ?_
      cases z : H b with
      | none => rfl
      | some u =>
        obtain ⟨rfl, _, hn⟩ := hA b u z
        rw [hn] at e
        cases e
    obtain ⟨mc, l1, l2⟩ := hlim
    have e0 : Env0 P w K mg (hidT s₁.heap H) callerA [] s₁ H :=
      { frames := rfl, mod := ⟨hKb, nsK hns, ⟨mb, nsK hb, hbb⟩, ⟨mc, nsK l1, l2⟩⟩, bs := fun b o e => of_hidT e, bsz := Nat.le_of_eq (hidT_size _ _), funs := trivial, frf := fun b hb => absurd (show b ∈ ([] : List Addr) from hb) (by simp), hok := hok, bare := .of_eq hg }
    have R := (F _ hKb (nsK hns)).run callerA [] s₁ H ⟨[.ref a], []⟩ [.ref a] [.ref a] _ _ hr rfl e0 (hbind s₁ (.ref a)) (.cons rfl .nil) (hsp H hS)
    refine codeAny_mono R ?_
    intro res s' h
    cases res with
    | error e => exact (hCX H e s' h).elim
    | ok fl =>
      cases fl with
      | next => exact h.elim
      | brk => exact h.elim
      | cont => exact h.elim
      | ret u =>
        obtain ⟨v, H', os, bare, un, hok', r', q⟩ := h
        have q' : v = .bl true := q
        subst q'
        obtain rfl : u = Value.bool true := r'
        refine ⟨rfl, OldK.of_keep ?_, os, bare⟩
        intro b o e
        cases z : H b with
        | none => exact un.keep b o e z (fun y => absurd (show b ∈ ([] : List Addr) from y) (by simp)) (by simp)
        | some u =>
          obtain ⟨rfl, rfl, _⟩ := hA b u z
          obtain ⟨g1, _⟩ := hok _ _ z
          obtain ⟨g2, _⟩ := hok' _ _ (un.frzs _ lo _ z)
          rw [e] at g1
          cases g1
          exact g2
  cases hk : K.lookup a with
  | some o =>
    have e := KX a o hk
    rw [ha] at e
    cases e
    refine main (fun _ => none) ?_ (fun b u z => nomatch z) (fun b u z => nomatch z)
    exact Or.inr ⟨_, vs.toArray, _, hk, rfl, rfl, rfl, by rw [List.size_toArray, len0]; exact hl, by simpa using rv⟩
  | none =>
    have sp1 : ∀ b u, (upd (fun _ => none) a (.frz lo (.lst (ns.map V.int)))) b = some u → b = a ∧ u = .frz lo (.lst (ns.map V.int)) ∧ K.lookup a = none := by
      intro b u z
      by_cases hba : b = a
      · subst hba
        rw [upd_same] at z
        exact ⟨rfl, (Option.some.inj z).symm, hk⟩
      · rw [upd_ne hba] at z
        cases z
    refine main (upd (fun _ => none) a (.frz lo (.lst (ns.map V.int)))) (Or.inl (Or.inr ⟨lo, upd_same⟩)) ?_ sp1
    intro b u z
    obtain ⟨rfl, rfl, _⟩ := sp1 b u z
    exact ⟨ha, by rw [List.length_map]; exact hl, vs, _, rv, ha⟩
theorem walk_g {l : PySem.W.OpenLaw} {n k : Nat} {q : Program} {loose : List Str} {XP : (Str → Option Value) → Heap → Prop} {YP : World → Heap → Prop} {d : DefRec} {K : Params → PySem.W.Frag} {sp : World → Sp} {x : Str}
    (hn : l.most = some n) (hn2 : n ≤ sizeLine) (hdf : d.params.defaults = []) (hr : Room k callerA) (hY : ∀ (w : World) (h : Heap), YP w h → (K w.params).In h)
    (F : ∀ (w : World) (mg : Str → Option Value) (fa : Addr) (h : Heap), (K w.params).In h → h.Ns mainGlobals mg → mg d.name = some (.ref fa) →
      ∃ fd : FuncData, (∀ (s : Shared) (u : Value), BindsTo s fd ⟨[u], []⟩ [(x, u)]) ∧ ∀ base : Heap, (K w.params).In base → base.Ns mainGlobals mg → FnG l.prog w (K w.params) mg base CX0 k fa fd [x] (sp w))
    (hsp : ∀ (w : World) (H : Hp) (a : Addr) (ns : List Int), ns.length ≤ n → SqL (K w.params) H a (ns.map V.int) → sp w [.ref a] H (fun v _ => v = .bl true) fun _ _ _ => False) :
    PySem.W.WalkO q loose XP YP l.row.toRowW d [] (fun f vs => PySem.call f vs) := by
  refine Att.attach_call hn hdf ?_
  intro w s₀ s₁ mg mb fa o pm cd doc a vs ns G Y ho hd hcd hmg hobj hints hlen hg
  obtain ⟨fd, hb, hF⟩ := F w mg fa _ (hY w _ Y) G.T.g hmg
  exact law_g (hY w _ Y) G.T.g G.T.b G.T.builtins G.T.nolimit hg hobj hints (Nat.le_trans hlen hn2) hr hF hb (fun H hS => hsp w H a ns hlen hS) fun _ _ _ z => z
/-! ### repr of data -/
theorem call_reprD {X : Cx} (hgd : X.A.guards = some []) (hu : X.A.units + 64 < cLine) : CallR X (.builtin "repr") (fun xs H Q => ∃ (a : Addr) (d : PyData), xs = [.ref a] ∧ Dp X.K H (.ref a) d ∧ d.canLay0 = true ∧ d.showable = true ∧ d.depth ≤ 60 ∧ d.shown.length ≤ sizeLine ∧ Q (.str d.shown) H) := by
  intro pins s σ H xs us Q I r h
  obtain ⟨a, d, rfl, hd, hl, hs, hdp, hz, q⟩ := h
  obtain ⟨u, rfl, ru⟩ := vals1 r
  cases ru
  obtain ⟨as, rd⟩ := Dp.reads I d (.ref a) (.ref a) hd rfl
  refine repr_of_reads' rd hs (PyData.noDict_hsm (PyData.hasDict_of_canLay d hl)) hgd (by omega) (fun _ _ e => e) ?_ hz
  intro h' u tk hk
  exact ⟨.str d.shown, H, I.kept (t' := tk) hk, ⟨u, rfl⟩, q⟩
end Pc
namespace Pc
open PySem PySem.Spec PyProof.Rows L2 RZ
/-! ### data of small size: its depth is at most k, its text has at most m signs -/
structure Fine (k m : Nat) (d : PyData) : Prop where
  lay : d.canLay0 = true
  show_ : d.showable = true
  depth : d.depth ≤ k
  nar : narrow d
  len : d.shown.length ≤ m
theorem Fine.mono {k m k' m' : Nat} {d : PyData} (h : Fine k m d) (hk : k ≤ k') (hm : m ≤ m') : Fine k' m' d := ⟨h.lay, h.show_, Nat.le_trans h.depth hk, h.nar, Nat.le_trans h.len hm⟩
theorem Fine.shaped {k m : Nat} {d : PyData} (h : Fine k m d) (hk : k ≤ 64) : SeqAt.shaped d = true := by
  unfold SeqAt.shaped
  rw [Bool.and_eq_true]
  exact ⟨h.lay, decide_eq_true (Nat.le_trans h.depth hk)⟩
theorem str_len (t : String) : (Str.ofString t).length = t.length := by
  rw [Str.ofString_eq_toList]
  show (t.toList.map Char.toNat).toArray.size = t.length
  rw [List.size_toArray, List.length_map, String.length_toList]
theorem log_lt {i : Int} {k : Nat} (h : i.natAbs < 2 ^ k) (hk : 0 < k) : i.natAbs.log2 < k := by
  by_cases h0 : i.natAbs = 0
  · rw [h0]; exact hk
  · exact (Nat.log2_lt h0).mpr h
theorem fine_int {i : Int} (h : i.natAbs < 2 ^ 60) : Fine 0 61 (.int i) := by
  have hl := log_lt h (by decide)
  refine ⟨rfl, decide_eq_true (Nat.lt_of_lt_of_le hl (by decide)), Nat.le_refl _, trivial, ?_⟩
  show (Str.ofString (toString i)).length ≤ 61
  rw [str_len]
  exact int_text_length_le (by decide) hl
theorem fine_nat {i : Nat} (h : i < 2 ^ 60) : Fine 0 61 (.int (i : Int)) := fine_int (by rw [Int.natAbs_natCast]; exact h)
theorem all_lay {ds : List PyData} (h : ∀ d ∈ ds, d.canLay0 = true) : PyData.canLayAll0 ds = true := by
  induction ds with
  | nil => rfl
  | cons d r ih =>
    show (d.canLay0 && PyData.canLayAll0 r) = true
    rw [h d List.mem_cons_self, ih fun x hx => h x (List.mem_cons_of_mem _ hx)]; rfl
theorem all_showable {ds : List PyData} (h : ∀ d ∈ ds, d.showable = true) : PyData.showableAll ds = true := by
  induction ds with
  | nil => rfl
  | cons d r ih =>
    show (d.showable && PyData.showableAll r) = true
    rw [h d List.mem_cons_self, ih fun x hx => h x (List.mem_cons_of_mem _ hx)]; rfl
theorem all_depth {ds : List PyData} {k : Nat} (h : ∀ d ∈ ds, d.depth ≤ k) : PyData.depthAll ds ≤ k := by
  induction ds with
  | nil => exact Nat.zero_le _
  | cons d r ih => exact Nat.max_le.mpr ⟨h d List.mem_cons_self, ih fun x hx => h x (List.mem_cons_of_mem _ hx)⟩
theorem all_shown {ds : List PyData} {m : Nat} (h : ∀ d ∈ ds, d.shown.length ≤ m) : ((PyData.shownAll ds).map (·.length)).sum ≤ ds.length * m ∧ (PyData.shownAll ds).length = ds.length := by
  induction ds with
  | nil => exact ⟨Nat.zero_le _, rfl⟩
  | cons d r ih =>
    obtain ⟨h1, h2⟩ := ih fun x hx => h x (List.mem_cons_of_mem _ hx)
    have h3 := h d List.mem_cons_self
    refine ⟨?_, congrArg (· + 1) h2⟩
    show ((d.shown :: PyData.shownAll r).map (·.length)).sum ≤ (r.length + 1) * m
    rw [List.map_cons, List.sum_cons, Nat.add_mul, Nat.one_mul]
    omega
theorem fine_list {ds : List PyData} {k m n : Nat} (h : ∀ d ∈ ds, Fine k m d) (hn : ds.length ≤ n) (hb : n ≤ 100000) : Fine (k + 1) (n * (m + 2) + 3) (.list ds) := by
  refine ⟨all_lay fun d hd => (h d hd).lay, all_showable fun d hd => (h d hd).show_, Nat.succ_le_succ (all_depth fun d hd => (h d hd).depth), ⟨Nat.le_trans hn hb, narrow_of fun d hd => (h d hd).nar⟩, ?_⟩
  obtain ⟨h1, h2⟩ := all_shown fun d hd => (h d hd).len
  have h3 := listText_len_le (PyData.shownAll ds)
  have h4 : ds.length * m ≤ n * m := Nat.mul_le_mul_right _ hn
  show (listText (PyData.shownAll ds)).length ≤ _
  rw [Nat.mul_add]
  omega
theorem fine_tuple {ds : List PyData} {k m n : Nat} (h : ∀ d ∈ ds, Fine k m d) (hn : ds.length ≤ n) (hb : n ≤ 100000) : Fine (k + 1) (n * (m + 2) + 3) (.tuple ds) := by
  refine ⟨all_lay fun d hd => (h d hd).lay, all_showable fun d hd => (h d hd).show_, Nat.succ_le_succ (all_depth fun d hd => (h d hd).depth), ⟨Nat.le_trans hn hb, narrow_of fun d hd => (h d hd).nar⟩, ?_⟩
  obtain ⟨h1, h2⟩ := all_shown fun d hd => (h d hd).len
  have h3 := tupleText_len_le (PyData.shownAll ds)
  have h4 : ds.length * m ≤ n * m := Nat.mul_le_mul_right _ hn
  show (tupleText (PyData.shownAll ds)).length ≤ _
  rw [Nat.mul_add]
  omega
/-- numbers as data -/
def nd (l : List Nat) : List PyData := l.map fun (i : Nat) => PyData.int (i : Int)
theorem nd_length (l : List Nat) : (nd l).length = l.length := List.length_map _
theorem dp_nats {K : PySem.W.Frag} {H : Hp} : ∀ l : List Nat, DpAll K H (nv l) (nd l)
  | [] => .nil
  | i :: r => .cons (.int i) (dp_nats r)
theorem fine_nd {l : List Nat} (h : ∀ i ∈ l, i < 2 ^ 60) : ∀ d ∈ nd l, Fine 0 61 d := fun d hd => by
  obtain ⟨i, hi, rfl⟩ := List.mem_map.mp hd
  exact fine_nat (h i hi)
/-- a tuple of numbers -/
theorem fine_tup {l : List Nat} {n : Nat} (h : ∀ i ∈ l, i < 2 ^ 60) (hn : l.length ≤ n) (hb : n ≤ 100000) : Fine 1 (n * 63 + 3) (.tuple (nd l)) := fine_tuple (fine_nd h) (by rw [nd_length]; exact hn) hb
/-! ### lists of pairs of numbers -/
/-- at the places as stand the pairs ps -/
def Prs (H : Hp) (as : List Addr) (ps : List (Nat × Nat)) : Prop := Paired (fun a (p : Nat × Nat) => H a = some (.tup [.int p.1, .int p.2])) as ps
theorem Prs.length {H : Hp} {as : List Addr} {ps : List (Nat × Nat)} (h : Prs H as ps) : as.length = ps.length := Paired.length h
theorem prs_same {H H' : Hp} (e : Same H H') : ∀ {as : List Addr} {ps : List (Nat × Nat)}, Prs H as ps → Prs H' as ps
  | _, _, .nil => .nil
  | _, _, .cons h r => .cons (e _ _ h) (prs_same e r)
theorem prs_keep {b : Addr} {H H' : Hp} {ys : List V} (k : Keep b H H') (hb : H b = some (.lst ys)) : ∀ {as : List Addr} {ps : List (Nat × Nat)}, Prs H as ps → Prs H' as ps
  | _, _, .nil => .nil
  | _, _, .cons h r => .cons (k.tup hb h) (prs_keep k hb r)
theorem prs_get {H : Hp} : ∀ {as : List Addr} {ps : List (Nat × Nat)} {i : Nat} {a : Addr}, Prs H as ps → as[i]? = some a → ∃ p, ps[i]? = some p ∧ H a = some (.tup [.int p.1, .int p.2])
  | _, _, _, _, .nil, h => by simp at h
  | _, _, 0, _, .cons (b := p) h _, e => by
    cases Option.some.inj e
    exact ⟨p, rfl, h⟩
  | _, _, i + 1, a, .cons _ r, e => prs_get (i := i) r e
theorem prs_append {H : Hp} : ∀ {as bs : List Addr} {ps qs : List (Nat × Nat)}, Prs H as ps → Prs H bs qs → Prs H (as ++ bs) (ps ++ qs)
  | _, _, _, _, .nil, s => s
  | _, _, _, _, .cons h r, s => .cons h (prs_append r s)
def pd (p : Nat × Nat) : PyData := .tuple [.int (p.1 : Int), .int (p.2 : Int)]
theorem prs_dp {K : PySem.W.Frag} {H : Hp} : ∀ {as : List Addr} {ps : List (Nat × Nat)}, Prs H as ps → DpAll K H (as.map V.ref) (ps.map pd)
  | _, _, .nil => .nil
  | _, _, .cons h r => .cons (.tup (.inl (.inl h)) (.cons (.int _) (.cons (.int _) .nil))) (prs_dp r)
theorem fine_pd {p : Nat × Nat} (h1 : p.1 < 2 ^ 60) (h2 : p.2 < 2 ^ 60) : Fine 1 129 (pd p) := fine_tuple (n := 2) (fun d hd => by
  rcases List.mem_cons.mp hd with z | z
  · rw [z]; exact fine_nat h1
  · rw [List.mem_singleton.mp z]; exact fine_nat h2) (Nat.le_refl _) (by decide)
/-- a list of pairs -/
theorem fine_pds {ps : List (Nat × Nat)} {n : Nat} (h : ∀ p ∈ ps, p.1 < 2 ^ 60 ∧ p.2 < 2 ^ 60) (hn : ps.length ≤ n) (hb : n ≤ 100000) : Fine 2 (n * 131 + 3) (.list (ps.map pd)) :=
  fine_list (fun d hd => by
    obtain ⟨p, hp, rfl⟩ := List.mem_map.mp hd
    exact fine_pd (h p hp).1 (h p hp).2) (by rw [List.length_map]; exact hn) hb
end Pc
namespace Pc
open PySem PySem.Spec PyProof.Rows L2 RZ
/-! ### a list or a tuple: walked, unpacked -/
/-- a list or a tuple is read -/
def Sq (K : PySem.W.Frag) (H : Hp) (a : Addr) (xs : List V) : Prop := SqL K H a xs ∨ SqT K H a xs
theorem Sq.same {K : PySem.W.Frag} {H H' : Hp} {a : Addr} {xs : List V} (h : Sq K H a xs) (e : Same H H') : Sq K H' a xs := h.imp (fun z => e.seq z) (fun z => same_tup e z)
def iSeq (K : PySem.W.Frag) (tl : TE) : TI := fun σ H R => tl σ H fun x H1 => ∃ a, x = .ref a ∧ (((∃ xs, SqL K H1 a xs) ∧ R (Itl K a) H1) ∨ ((∃ xs, SqT K H1 a xs) ∧ R (Itt K a) H1))
section
variable {X : Cx}
theorem pi_seq {tg l : Expr} {tl : TE} (hl : PE X l tl) : PI X tg l (iSeq X.K tl) := by
  constructor
  intro pins s σ H R I h
  refine thn (hl.run pins s σ H _ I h) ?_
  rintro v s1 ⟨x, H1, I1, r1, a, ex, q⟩
  subst ex
  cases r1
  rcases q with ⟨⟨xs, hx⟩, q⟩ | ⟨⟨xs, hx⟩, q⟩
  · obtain ⟨its, _, p, _⟩ := I1.list hx
    refine wpAny_pyIter_list p.isList ?_
    exact pi_one (tk := s1.toks) I1 _ (turn_list _ _) ⟨_, Heap.get?_push_size _ rfl, rfl, rfl⟩ q
  · obtain ⟨its, _, p, _⟩ := I1.tuple hx
    refine wpAny_pyIter_tuple p ?_
    exact pi_one (tk := s1.toks) I1 _ (turn_tuple _ _) ⟨_, Heap.get?_push_size _ rfl, rfl, rfl⟩ q
/-- names unpacked from a tuple or a list -/
def gSeq (K : PySem.W.Frag) (n : Nat) (t : TGs) : TG := fun v σ H Q => ∃ a xs, v = .ref a ∧ Sq K H a xs ∧ xs.length = n ∧ t xs σ H Q
theorem pg_seq {es : List Expr} {k : Nat} {t : TGs} {n : Nat} {pos : Pos} (hc : X.calm = true) (h : PGs X es t)
    (hn : (assignEach es X.env).length = n := by rfl) (hst : (assignEach es X.env).findIdx? (·.1) = none := by rfl) : PG X (.Tuple es k pos) (gSeq X.K n t) := by
  constructor
  intro pins s σ H v u Q I r hw
  obtain ⟨a, xs, e, hq, hl, hw⟩ := hw
  rcases hq with hq | hq
  · exact (pg_unl (pos := pos) (k := k) hc h hn hst).run pins s σ H v u Q I r ⟨a, xs, e, hq, hl, hw⟩
  · exact (pg_tup (pos := pos) (k := k) hc h hn hst).run pins s σ H v u Q I r ⟨a, xs, e, hq, hl, hw⟩
/-! ### a call with keywords alone -/
def tKw (n : Nat) (sp : Sp) (gV : List V → List V) (E : XK) (tk : TA) : TE := fun σ H Q => tk σ H fun zs H1 => zs.length = n ∧ sp (gV zs) H1 Q E
theorem pe_kw {CX : CXT} {k : Nat} {f : Addr} {fd : FuncData} {ps ks : List Str} {sp : Sp} {E : XK} {x : Str} {p pos : Pos} {kws : List Keyword} {tk : TA} {g : List Value → List Value} {gV : List V → List V}
    (F : FnOk X.prog X.w X.K X.mg X.base CX k f fd ps sp) (hr : Room k X.A) (hg : Gl X x) (hm : X.mg x = some (.ref f)) (hk : PySem.W.keepIn X.K (.ref f) = true)
    (hb : ∀ (s : Shared) (ws : List Value), ws.length = ks.length → BindsTo s fd ⟨[], ks.zip ws⟩ (ps.zip (g ws))) (rel : ∀ {zs : List V} {ws : List Value}, zs.length = ks.length → Vals zs ws → Vals (gV zs) (g ws)) (hx : Passes CX X E) (hkw : PK X kws tk)
    (hall : (backToKw pos (keywordEach kws X.env)).all (·.1.isSome) = true := by rfl) (hks : (backToKw pos (keywordEach kws X.env)).filterMap (·.1) = ks := by rfl) (hdb : (x == ("__debug__" : Str)) = false := by decide)
    (hpl : ((backTo pos (starEach [] X.env)).any (·.1) || (backToKw pos (keywordEach kws X.env)).any (·.1.isNone)) = false := by rfl) :
    PE X (.Call (.Name x p) [] kws pos) (tKw ks.length sp gV E tk) := by
  constructor
  intro pins s σ H Q I h
  refine wpAny_Call_Name_kw (ld_glob I hg hm ?_ hdb)
  refine PySem.W.callWith_KW0 (h₀ := X.base) I.ok.mod.kin hk hall (thn (hkw.run pos pins s σ H _ I h) ?_) hpl
  rintro ws s2 ⟨zs, H2, I2, rz, hz, q⟩
  refine ⟨I2.kIn, ?_⟩
  rw [hks]
  refine wpAny_call (codeAny_mono (F.run X.A X.stack s2 H2 ⟨[], ks.zip ws⟩ (g ws) (gV zs) Q E hr I2.env0 (hb s2 ws (by rw [← rz.length, hz])) (rel hz rz) q) ?_)
  intro res s' hq
  cases res with
  | error e => exact hx pins σ H2 s2 e s' I2 hq
  | ok fl =>
    cases fl with
    | ret u => exact I2.after hq
    | next => exact hq.elim
    | brk => exact hq.elim
    | cont => exact hq.elim
end
theorem kw_to {K : PySem.W.Frag} {x qual : Str} {st : Stmt} {f : Addr} {fd : FuncData} {ps ks : List Str} {g : List Value → List Value} (F : Fun K x qual st f fd)
    (h : ∀ (kV doc pm : Value) (an : Option Addr) (cdv ct : Value) (ws : List Value), ws.length = ks.length → bindArgs (PySem.W.fnOf x qual (defArgs st) (defBody st) (defScope st) .none kV doc pm an cdv ct) ⟨[], ks.zip ws⟩ = pure (ps.zip (g ws))) :
    ∀ (s : Shared) (ws : List Value), ws.length = ks.length → BindsTo s fd ⟨[], ks.zip ws⟩ (ps.zip (g ws)) := by
  obtain ⟨oc, od, kV, doc, pm, an, cdv, ct, osl, rfl, lk, hcd⟩ := F.ex
  intro s ws hl
  exact .of_eq (h kV doc pm an cdv ct ws hl)
end Pc
namespace Pc
open PySem PySem.Spec PyProof.Rows L2 RZ
/-! ### the couples of a pairing -/
/-- the couples whose first person is below i -/
def cplN (ps : List Nat) (i : Nat) : List (Nat × Nat) := ((List.range i).filter fun x => decide (x < ps.getD x 0)).map fun x => (x, ps.getD x 0)
def cpl (ps : List Nat) : List (Nat × Nat) := cplN ps ps.length
theorem getD_of {ps : List Nat} {x y : Nat} (h : ps[x]? = some y) : ps.getD x 0 = y := by
  rw [List.getD_eq_getElem?_getD, h]; rfl
theorem cplN_yes {ps : List Nat} {i y : Nat} (h : ps[i]? = some y) (hl : i < y) : cplN ps (i + 1) = cplN ps i ++ [(i, y)] := by
  unfold cplN
  rw [List.range_succ, List.filter_append, List.map_append]
  congr 1
  rw [List.filter_cons_of_pos (by rw [getD_of h]; exact decide_eq_true hl), List.filter_nil, List.map_cons, List.map_nil, getD_of h]
theorem cplN_no {ps : List Nat} {i y : Nat} (h : ps[i]? = some y) (hl : ¬ i < y) : cplN ps (i + 1) = cplN ps i := by
  unfold cplN
  rw [List.range_succ, List.filter_append, List.map_append, List.filter_cons_of_neg (by rw [getD_of h]; simpa using hl), List.filter_nil, List.map_nil, List.append_nil]
theorem cplN_len (ps : List Nat) (i : Nat) : (cplN ps i).length ≤ i := by
  unfold cplN
  rw [List.length_map]
  exact Nat.le_trans (List.length_filter_le _ _) (by rw [List.length_range]; exact Nat.le_refl _)
theorem mem_cpl {n : Nat} {ps : List Nat} (h : IsPair n ps) {p : Nat × Nat} : p ∈ cpl ps ↔ ps[p.1]? = some p.2 ∧ p.1 < p.2 := by
  unfold cpl cplN
  rw [h.len]
  constructor
  · intro hp
    obtain ⟨x, hx, rfl⟩ := List.mem_map.mp hp
    obtain ⟨h1, h2⟩ := List.mem_filter.mp hx
    obtain ⟨y, e, _⟩ := h.par x (List.mem_range.mp h1)
    rw [getD_of e] at h2 ⊢
    exact ⟨e, of_decide_eq_true h2⟩
  · rintro ⟨e, hl⟩
    refine List.mem_map.mpr ⟨p.1, List.mem_filter.mpr ⟨List.mem_range.mpr ?_, ?_⟩, ?_⟩
    · rw [← h.len]; exact get_lt e
    · rw [getD_of e]; exact decide_eq_true hl
    · rw [getD_of e]
theorem IsPair.back {n : Nat} {ps : List Nat} (h : IsPair n ps) {x y : Nat} (e : ps[x]? = some y) : ps[y]? = some x ∧ y < n ∧ x < n ∧ y ≠ x := by
  have hx : x < n := by rw [← h.len]; exact get_lt e
  obtain ⟨z, e1, e2, e3, e4⟩ := h.par x hx
  cases Option.some.inj (e.symm.trans e1)
  exact ⟨e4, e2, hx, e3⟩
theorem cpl_cover {n : Nat} {ps : List Nat} (h : IsPair n ps) {z : Nat} (hz : z < n) : ∃ p ∈ cpl ps, p.1 = z ∨ p.2 = z := by
  obtain ⟨y, e1, e2, e3, e4⟩ := h.par z hz
  rcases Nat.lt_or_gt_of_ne e3 with l | l
  · exact ⟨(y, z), (mem_cpl h).mpr ⟨e4, l⟩, .inr rfl⟩
  · exact ⟨(z, y), (mem_cpl h).mpr ⟨e1, l⟩, .inl rfl⟩
theorem filter_split {α : Type} (f : α → Bool) : ∀ l : List α, (l.filter f).length + (l.filter fun x => !f x).length = l.length
  | [] => rfl
  | a :: r => by
    have ih := filter_split f r
    cases e : f a with
    | true => rw [List.filter_cons_of_pos e, List.filter_cons_of_neg (by rw [e]; decide), List.length_cons, List.length_cons]; omega
    | false => rw [List.filter_cons_of_neg (by rw [e]; decide), List.filter_cons_of_pos (by rw [e]; rfl), List.length_cons, List.length_cons]; omega
theorem cpl_half {n : Nat} {ps : List Nat} (h : IsPair n ps) : 2 * (cpl ps).length = n := by
  have e1 : (cpl ps).length = ((List.range n).filter fun x => decide (x < ps.getD x 0)).length := by
    unfold cpl cplN; rw [List.length_map, h.len]
  have inj : ∀ x y, x < n → y < n → ps.getD x 0 = ps.getD y 0 → x = y := fun x y hx hy e => by
    obtain ⟨u, a1, _, _, a4⟩ := h.par x hx
    obtain ⟨v, b1, _, _, b4⟩ := h.par y hy
    rw [getD_of a1, getD_of b1] at e
    subst e
    exact Option.some.inj (a4.symm.trans b4)
  have nd0 : (List.range n).Nodup := List.nodup_range
  have p1 : (((List.range n).filter fun x => decide (x < ps.getD x 0)).map fun x => ps.getD x 0).Perm ((List.range n).filter fun x => !decide (x < ps.getD x 0)) := by
    refine (List.perm_ext_iff_of_nodup ?_ (nd0.filter _)).mpr fun z => ?_
    · refine List.Pairwise.map _ (fun a b hab => hab) ?_
      refine List.Pairwise.imp_of_mem (fun {a b} ha hb hab => ?_) (nd0.filter fun x => decide (x < ps.getD x 0))
      exact fun e => hab (inj a b (List.mem_range.mp (List.mem_filter.mp ha).1) (List.mem_range.mp (List.mem_filter.mp hb).1) e)
    · constructor
      · intro hz
        obtain ⟨x, hx, rfl⟩ := List.mem_map.mp hz
        obtain ⟨h1, h2⟩ := List.mem_filter.mp hx
        obtain ⟨y, a1, a2, a3, a4⟩ := h.par x (List.mem_range.mp h1)
        rw [getD_of a1] at h2 ⊢
        have h3 := of_decide_eq_true h2
        refine List.mem_filter.mpr ⟨List.mem_range.mpr a2, ?_⟩
        rw [getD_of a4, decide_eq_false (by omega)]; rfl
      · intro hz
        obtain ⟨h1, h2⟩ := List.mem_filter.mp hz
        obtain ⟨y, a1, a2, a3, a4⟩ := h.par z (List.mem_range.mp h1)
        rw [getD_of a1] at h2
        have h3 : ¬ z < y := by simpa using h2
        refine List.mem_map.mpr ⟨y, List.mem_filter.mpr ⟨List.mem_range.mpr a2, ?_⟩, getD_of a4⟩
        rw [getD_of a4]
        exact decide_eq_true (by omega)
  have e2 := p1.length_eq
  rw [List.length_map] at e2
  have e3 := filter_split (fun x => decide (x < ps.getD x 0)) (List.range n)
  rw [List.length_range] at e3
  omega
/-- what pairs must be so that they make the pairing ps -/
structure Makes (qs : List (Nat × Nat)) (ps : List Nat) : Prop where
  half : 2 * qs.length = ps.length
  ok : ∀ p ∈ qs, ps[p.1]? = some p.2 ∧ ps[p.2]? = some p.1
  all : ∀ z, z < ps.length → ∃ p ∈ qs, p.1 = z ∨ p.2 = z
theorem makes_cpl {n : Nat} {ps : List Nat} (h : IsPair n ps) : Makes (cpl ps) ps where
  half := by rw [cpl_half h, h.len]
  ok p hp := by
    obtain ⟨e, _⟩ := (mem_cpl h).mp hp
    exact ⟨e, (h.back e).1⟩
  all z hz := cpl_cover h (by rw [← h.len]; exact hz)
/-- the pairs of qs in any order, turned or not -/
theorem Makes.turned {qs rs : List (Nat × Nat)} {ps : List Nat} (h : Makes qs ps) (hl : rs.length = qs.length) (h1 : ∀ p ∈ rs, p ∈ qs ∨ (p.2, p.1) ∈ qs) (h2 : ∀ p ∈ qs, p ∈ rs ∨ (p.2, p.1) ∈ rs) : Makes rs ps where
  half := by rw [hl]; exact h.half
  ok p hp := by
    rcases h1 p hp with z | z
    · exact h.ok p z
    · obtain ⟨a, b⟩ := h.ok _ z
      exact ⟨b, a⟩
  all z hz := by
    obtain ⟨p, hp, e⟩ := h.all z hz
    rcases h2 p hp with q | q
    · exact ⟨p, q, e⟩
    · exact ⟨_, q, e.symm⟩
def CInv (ps : List Nat) (qs : List (Nat × Nat)) (fs : List Nat) (i : Nat) : Prop := fs.length = ps.length ∧ ∀ j, j < i → ∀ p, qs[j]? = some p → fs[p.1]? = ps[p.1]? ∧ fs[p.2]? = ps[p.2]?
theorem set_keeps {ps fs : List Nat} {x y z : Nat} (hy : ps[x]? = some y) (hx : x < fs.length) (h : fs[z]? = ps[z]?) : (fs.set x y)[z]? = ps[z]? := by
  by_cases e : x = z
  · subst e
    rw [List.getElem?_set_self hx, hy]
  · rw [List.getElem?_set_ne e]; exact h
theorem CInv.step {ps fs : List Nat} {qs : List (Nat × Nat)} {i : Nat} {p : Nat × Nat} (m : Makes qs ps) (h : CInv ps qs fs i) (hp : qs[i]? = some p) : CInv ps qs ((fs.set p.1 p.2).set p.2 p.1) (i + 1) := by
  obtain ⟨hl, hj⟩ := h
  obtain ⟨o1, o2⟩ := m.ok p (List.mem_of_getElem? hp)
  have l1 : p.1 < fs.length := by rw [hl]; exact get_lt o1
  have l2 : p.2 < (fs.set p.1 p.2).length := by rw [List.length_set, hl]; exact get_lt o2
  refine ⟨by rw [List.length_set, List.length_set, hl], fun j hj2 r hr => ?_⟩
  by_cases e : j = i
  · subst e
    cases Option.some.inj (hp.symm.trans hr)
    refine ⟨set_keeps o2 l2 ?_, ?_⟩
    · rw [List.getElem?_set_self l1, o1]
    · rw [List.getElem?_set_self l2, o2]
  · obtain ⟨a, b⟩ := hj j (by omega) r hr
    exact ⟨set_keeps o2 l2 (set_keeps o1 l1 a), set_keeps o2 l2 (set_keeps o1 l1 b)⟩
theorem CInv.done {ps fs : List Nat} {qs : List (Nat × Nat)} (m : Makes qs ps) (h : CInv ps qs fs qs.length) : fs = ps := by
  refine List.ext_getElem? fun z => ?_
  by_cases hz : z < ps.length
  · obtain ⟨p, hp, e⟩ := m.all z hz
    obtain ⟨i, hi, ei⟩ := List.mem_iff_getElem.mp hp
    obtain ⟨a, b⟩ := h.2 i hi p (by rw [List.getElem?_eq_getElem hi, ei])
    rcases e with e | e
    · rw [← e]; exact a
    · rw [← e]; exact b
  · rw [List.getElem?_eq_none (by rw [h.1]; omega), List.getElem?_eq_none (by omega)]
end Pc
namespace Pc
open PySem PySem.Spec PyProof.Rows L2 RZ
section
variable {K : PySem.W.Frag}
/-- the values us are the pairs qs, each a tuple or a list -/
def Items (K : PySem.W.Frag) (H : Hp) (us : List V) (qs : List (Nat × Nat)) : Prop := us.length = qs.length ∧ ∀ (i : Nat) (v : V), us[i]? = some v → ∃ (c : Addr) (p : Nat × Nat), v = .ref c ∧ qs[i]? = some p ∧ Sq K H c [.int p.1, .int p.2]
theorem Items.same {H H' : Hp} {us : List V} {qs : List (Nat × Nat)} (h : Items K H us qs) (e : Same H H') : Items K H' us qs := ⟨h.1, fun i v hv => by
  obtain ⟨c, p, h1, h2, h3⟩ := h.2 i v hv
  exact ⟨c, p, h1, h2, h3.same e⟩⟩
theorem items_of {H : Hp} {as : List Addr} {qs : List (Nat × Nat)} (h : Prs H as qs) : Items K H (as.map V.ref) qs := ⟨by rw [List.length_map]; exact h.length, fun i v hv => by
  rw [List.getElem?_map] at hv
  cases e : as[i]? with
  | none => rw [e] at hv; cases hv
  | some c =>
    rw [e] at hv
    obtain ⟨p, h1, h2⟩ := prs_get h e
    exact ⟨c, p, (Option.some.inj hv).symm, h1, .inr (.inl (.inl h2))⟩⟩
end
end Pc
namespace Pc
open PySem PySem.Spec PyProof.Rows L2 RZ
theorem paired_perm {α β : Type} {R : α → β → Prop} {as bs : List α} (h : as.Perm bs) : ∀ ps : List β, Paired R as ps → ∃ qs : List β, qs.Perm ps ∧ Paired R bs qs := by
  induction h with
  | nil => exact fun ps h => ⟨ps, List.Perm.refl _, h⟩
  | cons x _ ih =>
    intro ps h
    cases h with
    | cons r t =>
      obtain ⟨qs, h1, h2⟩ := ih _ t
      exact ⟨_ :: qs, h1.cons _, .cons r h2⟩
  | swap x y l =>
    intro ps h
    cases h with
    | cons r t =>
      cases t with
      | cons r2 t2 => exact ⟨_, List.Perm.swap _ _ _, .cons r2 (.cons r t2)⟩
  | trans _ _ ih1 ih2 =>
    intro ps h
    obtain ⟨qs, h1, h2⟩ := ih1 ps h
    obtain ⟨rs, h3, h4⟩ := ih2 qs h2
    exact ⟨rs, h3.trans h1, h4⟩
/-- the same pairs, some turned -/
def Turned (qs rs : List (Nat × Nat)) : Prop := rs.length = qs.length ∧ ∀ (j : Nat) (p q : Nat × Nat), qs[j]? = some p → rs[j]? = some q → q = p ∨ q = (p.2, p.1)
theorem Turned.mem1 {qs rs : List (Nat × Nat)} (h : Turned qs rs) : ∀ p ∈ rs, p ∈ qs ∨ (p.2, p.1) ∈ qs := fun p hp => by
  obtain ⟨j, hj, e⟩ := List.mem_iff_getElem.mp hp
  obtain ⟨q, hq⟩ := get_some (l := qs) (i := j) (by rw [← h.1]; exact hj)
  rcases h.2 j q p hq (by rw [List.getElem?_eq_getElem hj, e]) with z | z
  · exact .inl (z ▸ List.mem_of_getElem? hq)
  · refine .inr ?_
    rw [z]
    exact List.mem_of_getElem? hq
theorem Turned.mem2 {qs rs : List (Nat × Nat)} (h : Turned qs rs) : ∀ p ∈ qs, p ∈ rs ∨ (p.2, p.1) ∈ rs := fun p hp => by
  obtain ⟨j, hj, e⟩ := List.mem_iff_getElem.mp hp
  obtain ⟨q, hq⟩ := get_some (l := rs) (i := j) (by rw [h.1]; exact hj)
  rcases h.2 j p q (by rw [List.getElem?_eq_getElem hj, e]) hq with z | z
  · exact .inl (z ▸ List.mem_of_getElem? hq)
  · exact .inr (z ▸ List.mem_of_getElem? hq)
theorem Makes.perm {qs rs : List (Nat × Nat)} {ps : List Nat} (h : Makes qs ps) (e : rs.Perm qs) : Makes rs ps := h.turned e.length_eq (fun p hp => .inl (e.mem_iff.mp hp)) (fun p hp => .inl (e.mem_iff.mpr hp))
theorem IsPair.lt {n : Nat} {ps : List Nat} (h : IsPair n ps) : ∀ i ∈ ps, i < n := fun i hi => by
  obtain ⟨x, hx, e⟩ := List.mem_iff_getElem.mp hi
  obtain ⟨y, e1, e2, _⟩ := h.par x (by rw [← h.len]; exact hx)
  rw [List.getElem?_eq_getElem hx, e] at e1
  cases Option.some.inj e1
  exact e2
theorem Makes.lt {qs : List (Nat × Nat)} {ps : List Nat} (h : Makes qs ps) : ∀ p ∈ qs, p.1 < ps.length ∧ p.2 < ps.length := fun p hp => ⟨get_lt (h.ok p hp).1, get_lt (h.ok p hp).2⟩
theorem iteN {A B : Prop} (h : B) : if (!true) = true then A else B := by
  rw [if_neg (by decide)]
  exact h
end Pc
namespace Pc
open PySem PySem.Spec PyProof.Rows L2 RZ
/-! ### a loop over a list or a tuple that stays as it is -/
theorem for_seq {K : PySem.W.Frag} {a : Addr} {xs : List V} {g : TG} {tb : TS} {D : Ends} {σ : L2.St} {H0 H : Hp} (hS : Sq K H0 a xs) (Pv : Nat → L2.St → Hp → Prop) (h0 : Pv 0 σ H) (hst : ∀ i σ H', Pv i σ H' → Same H0 H')
    (hs : ∀ i x σ H', xs[i]? = some x → Pv i σ H' → g x σ H' fun σ2 H2 => tb { D with nx := Pv (i + 1), ct := Pv (i + 1), bk := D.nx } σ2 H2) (hd : ∀ σ H', Pv xs.length σ H' → D.nx σ H') :
    ((∃ ys, SqL K H a ys) ∧ ∃ W : Nat → Nat → L2.St → Hp → Prop, (∃ m, W 0 m σ H) ∧ ∀ i m σ H, W i m σ H → ((Itl K a).stop i H ∧ D.nx σ H) ∨ ((Itl K a).go i H ∧ ∃ N : L2.St → Hp → Prop, (∀ σ' H', N σ' H' → ∃ m', m' < m ∧ W (i + 1) m' σ' H') ∧ ∀ x H', (Itl K a).yld i H x H' → g x σ H' fun σ2 H2 => tb { D with nx := N, ct := N, bk := D.nx } σ2 H2)) ∨
    ((∃ ys, SqT K H a ys) ∧ ∃ W : Nat → Nat → L2.St → Hp → Prop, (∃ m, W 0 m σ H) ∧ ∀ i m σ H, W i m σ H → ((Itt K a).stop i H ∧ D.nx σ H) ∨ ((Itt K a).go i H ∧ ∃ N : L2.St → Hp → Prop, (∀ σ' H', N σ' H' → ∃ m', m' < m ∧ W (i + 1) m' σ' H') ∧ ∀ x H', (Itt K a).yld i H x H' → g x σ H' fun σ2 H2 => tb { D with nx := N, ct := N, bk := D.nx } σ2 H2)) := by
  rcases hS with h | h
  · exact .inl ⟨⟨_, (hst 0 σ H h0).seq h⟩, for_list Pv h0 (fun i σ H' _ p => (hst i σ H' p).seq h) hs hd⟩
  · exact .inr ⟨⟨_, same_tup (hst 0 σ H h0) h⟩, for_tup Pv h0 (fun i σ H' _ p => same_tup (hst i σ H' p) h) hs hd⟩
/-! ### two are joined, and the two that are left -/
def jn (fs : List Nat) (a b : Nat) : List Nat := if fs.getD a 0 = b then fs else (((fs.set a b).set b a).set (fs.getD a 0) (fs.getD b 0)).set (fs.getD b 0) (fs.getD a 0)
theorem jn_len (fs : List Nat) (a b : Nat) : (jn fs a b).length = fs.length := by
  unfold jn
  split
  · rfl
  · simp only [List.length_set]
/-- the four are different -/
theorem four {n : Nat} {fs : List Nat} (h : IsPair n fs) {a b c d : Nat} (hab : a ≠ b) (ea : fs[a]? = some c) (eb : fs[b]? = some d) (hcb : c ≠ b) : c ≠ a ∧ d ≠ b ∧ d ≠ a ∧ c ≠ d ∧ a < n ∧ b < n ∧ c < n ∧ d < n := by
  obtain ⟨a1, a2, a3, a4⟩ := h.back ea
  obtain ⟨b1, b2, b3, b4⟩ := h.back eb
  refine ⟨a4, b4, fun e => ?_, fun e => ?_, a3, b3, a2, b2⟩
  · rw [e, ea] at b1; exact hcb (Option.some.inj b1)
  · rw [e, b1] at a1; exact hab (Option.some.inj a1).symm
theorem jn_same {fs : List Nat} {a b : Nat} (e : fs[a]? = some b) : jn fs a b = fs := by
  unfold jn
  rw [getD_of e, if_pos rfl]
theorem jn_get {n : Nat} {fs : List Nat} (h : IsPair n fs) {a b c d : Nat} (hab : a ≠ b) (ea : fs[a]? = some c) (eb : fs[b]? = some d) (hcb : c ≠ b) (z : Nat) :
    (jn fs a b)[z]? = if z = a then some b else if z = b then some a else if z = c then some d else if z = d then some c else fs[z]? := by
  obtain ⟨x1, x2, x3, x4, l1, l2, l3, l4⟩ := four h hab ea eb hcb
  unfold jn
  rw [getD_of ea, getD_of eb, if_neg hcb]
  have hl := h.len
  by_cases z4 : z = d
  · subst z4
    rw [List.getElem?_set_self (by simp only [List.length_set]; omega), if_neg x3, if_neg x2, if_neg (Ne.symm x4), if_pos rfl]
  · rw [List.getElem?_set_ne (Ne.symm z4)]
    by_cases z3 : z = c
    · subst z3
      rw [List.getElem?_set_self (by simp only [List.length_set]; omega), if_neg x1, if_neg hcb, if_pos rfl]
    · rw [List.getElem?_set_ne (Ne.symm z3)]
      by_cases z2 : z = b
      · subst z2
        rw [List.getElem?_set_self (by simp only [List.length_set]; omega), if_neg (Ne.symm hab), if_pos rfl]
      · rw [List.getElem?_set_ne (Ne.symm z2)]
        by_cases z1 : z = a
        · subst z1
          rw [List.getElem?_set_self (by omega), if_pos rfl]
        · rw [List.getElem?_set_ne (Ne.symm z1), if_neg z1, if_neg z2, if_neg z3, if_neg z4]
theorem jn_pair {n : Nat} {fs : List Nat} (h : IsPair n fs) {a b : Nat} (hab : a ≠ b) (ha : a < n) (hb : b < n) : IsPair n (jn fs a b) := by
  obtain ⟨c, ea, _⟩ := h.par a ha
  obtain ⟨d, eb, _⟩ := h.par b hb
  by_cases hcb : c = b
  · subst hcb; rw [jn_same ea]; exact h
  · have G := jn_get h hab ea eb hcb
    obtain ⟨x1, x2, x3, x4, _, _, l3, l4⟩ := four h hab ea eb hcb
    refine ⟨by rw [jn_len]; exact h.len, fun x hx => ?_⟩
    by_cases z1 : x = a
    · subst z1
      exact ⟨b, by rw [G, if_pos rfl], hb, hab.symm, by rw [G, if_neg hab.symm, if_pos rfl]⟩
    · by_cases z2 : x = b
      · subst z2
        exact ⟨a, by rw [G, if_neg z1, if_pos rfl], ha, hab, by rw [G, if_pos rfl]⟩
      · by_cases z3 : x = c
        · subst z3
          exact ⟨d, by rw [G, if_neg z1, if_neg z2, if_pos rfl], l4, x4.symm, by rw [G, if_neg x3, if_neg x2, if_neg x4.symm, if_pos rfl]⟩
        · by_cases z4 : x = d
          · subst z4
            exact ⟨c, by rw [G, if_neg z1, if_neg z2, if_neg z3, if_pos rfl], l3, x4, by rw [G, if_neg x1, if_neg hcb, if_pos rfl]⟩
          · obtain ⟨y, e1, e2, e3, e4⟩ := h.par x hx
            have back : ∀ {u : Nat}, y = u → fs[u]? = some x := fun e => by rw [← e]; exact e4
            refine ⟨y, by rw [G, if_neg z1, if_neg z2, if_neg z3, if_neg z4]; exact e1, e2, e3, ?_⟩
            rw [G, if_neg, if_neg, if_neg, if_neg]
            · exact e4
            · intro e; have q := back e; rw [(h.back eb).1] at q; exact z2 (Option.some.inj q).symm
            · intro e; have q := back e; rw [(h.back ea).1] at q; exact z1 (Option.some.inj q).symm
            · intro e; have q := back e; rw [eb] at q; exact z4 (Option.some.inj q).symm
            · intro e; have q := back e; rw [ea] at q; exact z3 (Option.some.inj q).symm
/-- all pairs are calls of n people -/
def Calls (n : Nat) (qs : List (Nat × Nat)) : Prop := ∀ q ∈ qs, q.1 < q.2 ∧ q.2 < n
/-- the calls done one after another -/
def runs (qs : List (Nat × Nat)) (ps : List Nat) : List Nat := qs.foldl (fun fs q => jn fs q.1 q.2) ps
theorem runs_take {qs : List (Nat × Nat)} {ps : List Nat} {i : Nat} {q : Nat × Nat} (h : qs[i]? = some q) : runs (qs.take (i + 1)) ps = jn (runs (qs.take i) ps) q.1 q.2 := by
  unfold runs
  rw [List.take_add_one, h, List.foldl_append]
  rfl
theorem runs_pair {n : Nat} : ∀ (qs : List (Nat × Nat)) {ps : List Nat}, IsPair n ps → Calls n qs → IsPair n (runs qs ps)
  | [], _, h, _ => h
  | q :: r, ps, h, hc => by
    have h1 := hc q List.mem_cons_self
    exact runs_pair r (jn_pair h (by omega) (by omega) h1.2) (fun x hx => hc x (List.mem_cons_of_mem _ hx))
theorem Calls.take {n : Nat} {qs : List (Nat × Nat)} (h : Calls n qs) (i : Nat) : Calls n (qs.take i) := fun q hq => h q (List.mem_of_mem_take hq)
end Pc
namespace Pc
open PySem PySem.Spec PyProof.Rows L2 RZ
/-! ### lists of tuples of numbers -/
def Tups (H : Hp) (as : List Addr) (ls : List (List Nat)) : Prop := Paired (fun a l => H a = some (.tup (nv l))) as ls
theorem Tups.length {H : Hp} {as : List Addr} {ls : List (List Nat)} (h : Tups H as ls) : as.length = ls.length := Paired.length h
theorem tups_same {H H' : Hp} (e : Same H H') : ∀ {as : List Addr} {ls : List (List Nat)}, Tups H as ls → Tups H' as ls
  | _, _, .nil => .nil
  | _, _, .cons h r => .cons (e _ _ h) (tups_same e r)
theorem tups_keep {b : Addr} {H H' : Hp} {ys : List V} (k : Keep b H H') (hb : H b = some (.lst ys)) : ∀ {as : List Addr} {ls : List (List Nat)}, Tups H as ls → Tups H' as ls
  | _, _, .nil => .nil
  | _, _, .cons h r => .cons (k.tup hb h) (tups_keep k hb r)
theorem tups_append {H : Hp} : ∀ {as bs : List Addr} {ls ms : List (List Nat)}, Tups H as ls → Tups H bs ms → Tups H (as ++ bs) (ls ++ ms)
  | _, _, _, _, .nil, s => s
  | _, _, _, _, .cons h r, s => .cons h (tups_append r s)
theorem tups_get {H : Hp} : ∀ {as : List Addr} {ls : List (List Nat)} {i : Nat} {a : Addr}, Tups H as ls → as[i]? = some a → ∃ l, ls[i]? = some l ∧ H a = some (.tup (nv l))
  | _, _, _, _, .nil, h => by simp at h
  | _, _, 0, _, .cons (b := p) h _, e => by
    cases Option.some.inj e
    exact ⟨p, rfl, h⟩
  | _, _, i + 1, a, .cons _ r, e => tups_get (i := i) r e
def td (l : List Nat) : PyData := .tuple (nd l)
theorem tups_dp {K : PySem.W.Frag} {H : Hp} : ∀ {as : List Addr} {ls : List (List Nat)}, Tups H as ls → DpAll K H (as.map V.ref) (ls.map td)
  | _, _, .nil => .nil
  | _, _, .cons (b := l) h r => .cons (.tup (.inl (.inl h)) (dp_nats l)) (tups_dp r)
theorem fine_tds {ls : List (List Nat)} {n m : Nat} (h : ∀ l ∈ ls, l.length ≤ m ∧ ∀ i ∈ l, i < 2 ^ 60) (hn : ls.length ≤ n) (hb : n ≤ 100000) (hm : m ≤ 100000) : Fine 2 (n * (m * 63 + 5) + 3) (.list (ls.map td)) :=
  fine_list (fun d hd => by
    obtain ⟨l, hl, rfl⟩ := List.mem_map.mp hd
    exact fine_tup (h l hl).2 (h l hl).1 hm) (by rw [List.length_map]; exact hn) hb
/-- the pairings before the first call and behind each -/
def alongs (qs : List (Nat × Nat)) (ps : List Nat) (i : Nat) : List (List Nat) := (List.range (i + 1)).map fun j => runs (qs.take j) ps
theorem alongs_zero (qs : List (Nat × Nat)) (ps : List Nat) : alongs qs ps 0 = [ps] := rfl
theorem alongs_succ (qs : List (Nat × Nat)) (ps : List Nat) (i : Nat) : alongs qs ps (i + 1) = alongs qs ps i ++ [runs (qs.take (i + 1)) ps] := by
  unfold alongs
  rw [List.range_succ, List.map_append]
  rfl
theorem alongs_len (qs : List (Nat × Nat)) (ps : List Nat) (i : Nat) : (alongs qs ps i).length = i + 1 := by
  unfold alongs
  rw [List.length_map, List.length_range]
theorem alongs_mem {n i : Nat} {qs : List (Nat × Nat)} {ps l : List Nat} (hP : IsPair n ps) (hc : Calls n qs) (h : l ∈ alongs qs ps i) : IsPair n l := by
  obtain ⟨j, _, rfl⟩ := List.mem_map.mp h
  exact runs_pair _ hP (hc.take j)
end Pc
namespace Pc
open PySem PySem.Spec PyProof.Rows L2 RZ
/-! ### sheets as lists of natural numbers -/
/-- the empty sheet of n people -/
def emp (n : Nat) : List Nat := (List.range (2 * n)).map fun e => (e + n) % (2 * n)
theorem emp_len (n : Nat) : (emp n).length = 2 * n := by unfold emp; rw [List.length_map, List.length_range]
theorem emp_get {n e : Nat} (h : e < 2 * n) : (emp n)[e]? = some ((e + n) % (2 * n)) := by
  unfold emp
  rw [List.getElem?_map, List.getElem?_range h]
  rfl
theorem emp_lo {n e : Nat} (h : e < n) : (emp n)[e]? = some (n + e) := by
  rw [emp_get (by omega), Nat.mod_eq_of_lt (by omega), Nat.add_comm]
theorem emp_hi {n e : Nat} (h : e < n) : (emp n)[n + e]? = some e := by
  rw [emp_get (by omega), show n + e + n = e + 1 * (2 * n) by omega, Nat.add_mul_mod_self_right, Nat.mod_eq_of_lt (by omega)]
theorem emp_pair {n : Nat} (hn : 0 < n) : IsPair (2 * n) (emp n) := by
  refine ⟨emp_len n, fun x hx => ?_⟩
  by_cases h : x < n
  · exact ⟨n + x, emp_lo h, by omega, by omega, emp_hi h⟩
  · have e : x = n + (x - n) := by omega
    refine ⟨x - n, ?_, by omega, by omega, ?_⟩
    · have := emp_hi (n := n) (e := x - n) (by omega)
      rw [← e] at this; exact this
    · have := emp_lo (n := n) (e := x - n) (by omega)
      rw [← e] at this; exact this
/-- the calls at the lower ends -/
def low (n : Nat) (qs : List (Nat × Nat)) : List (Nat × Nat) := qs.map fun q => (n + q.1, n + q.2)
theorem low_calls {n : Nat} {qs : List (Nat × Nat)} (h : Calls n qs) : Calls (2 * n) (low n qs) := fun q hq => by
  obtain ⟨r, hr, rfl⟩ := List.mem_map.mp hq
  have := h r hr
  exact ⟨by show n + r.1 < n + r.2; omega, by show n + r.2 < 2 * n; omega⟩
theorem low_take (n : Nat) (qs : List (Nat × Nat)) (i : Nat) : (low n qs).take i = low n (qs.take i) := by unfold low; rw [List.map_take]
theorem low_get {n i : Nat} {qs : List (Nat × Nat)} {q : Nat × Nat} (h : qs[i]? = some q) : (low n qs)[i]? = some (n + q.1, n + q.2) := by
  unfold low; rw [List.getElem?_map, h]; rfl
/-- the sheet with calls added -/
def shw (n : Nat) (qs : List (Nat × Nat)) (fs : List Nat) : List Nat := runs (low n qs) fs
theorem shw_take {n i : Nat} {qs : List (Nat × Nat)} {fs : List Nat} {q : Nat × Nat} (h : qs[i]? = some q) : shw n (qs.take (i + 1)) fs = jn (shw n (qs.take i) fs) (n + q.1) (n + q.2) := by
  unfold shw
  rw [← low_take, ← low_take, runs_take (low_get h)]
theorem shw_pair {n : Nat} {qs : List (Nat × Nat)} {fs : List Nat} (hP : IsPair (2 * n) fs) (h : Calls n qs) : IsPair (2 * n) (shw n qs fs) := runs_pair _ hP (low_calls h)
/-- the other order of the stores -/
theorem jn_alt {n : Nat} {fs : List Nat} (h : IsPair n fs) {a b c d : Nat} (hab : a ≠ b) (ea : fs[a]? = some c) (eb : fs[b]? = some d) (hcb : c ≠ b) : (((fs.set c d).set d c).set a b).set b a = jn fs a b := by
  obtain ⟨x1, x2, x3, x4, l1, l2, l3, l4⟩ := four h hab ea eb hcb
  have hl := h.len
  refine List.ext_getElem? fun z => ?_
  rw [jn_get h hab ea eb hcb]
  by_cases z2 : z = b
  · subst z2
    rw [List.getElem?_set_self (by simp only [List.length_set]; omega), if_neg hab.symm, if_pos rfl]
  · rw [List.getElem?_set_ne (Ne.symm z2)]
    by_cases z1 : z = a
    · subst z1
      rw [List.getElem?_set_self (by simp only [List.length_set]; omega), if_pos rfl]
    · rw [List.getElem?_set_ne (Ne.symm z1), if_neg z1, if_neg z2]
      by_cases z4 : z = d
      · subst z4
        rw [List.getElem?_set_self (by simp only [List.length_set]; omega), if_neg (Ne.symm x4), if_pos rfl]
      · rw [List.getElem?_set_ne (Ne.symm z4)]
        by_cases z3 : z = c
        · subst z3
          rw [List.getElem?_set_self (by omega), if_pos rfl]
        · rw [List.getElem?_set_ne (Ne.symm z3), if_neg z3, if_neg z4]
theorem range_shift (n : Nat) : rgV (n : Int) (2 * (n : Int)) = nv ((List.range n).map fun i => n + i) := by
  unfold rgV nv
  rw [show (2 * (n : Int) - (n : Int)).toNat = n by omega, List.map_map]
  refine List.map_congr_left fun i _ => ?_
  show V.int ((n : Int) + (i : Nat)) = V.int (((n + i : Nat) : Int))
  rw [show (((n + i : Nat) : Int)) = (n : Int) + (i : Nat) by omega]
/-- strands in any order: the upper ends in turn, the lower ends as drawn -/
def SInv (n : Nat) (ls fs : List Nat) (t : Nat) : Prop := fs.length = 2 * n ∧ ∀ j, j < t → ∀ l, ls[j]? = some l → fs[j]? = some l ∧ fs[l]? = some j
theorem SInv.step {n : Nat} {ls fs : List Nat} {t l : Nat} (hp : ls.Perm ((List.range n).map fun i => n + i)) (h : SInv n ls fs t) (hl : ls[t]? = some l) : SInv n ls ((fs.set t l).set l t) (t + 1) := by
  have hln : ls.length = n := by rw [hp.length_eq, List.length_map, List.length_range]
  have hnd : ls.Nodup := hp.nodup_iff.mpr (List.Pairwise.map _ (fun a b (hab : a ≠ b) => show n + a ≠ n + b by omega) List.nodup_range)
  have big : ∀ {j x : Nat}, ls[j]? = some x → n ≤ x ∧ x < 2 * n := fun hx => by
    obtain ⟨i, hi, e⟩ := List.mem_map.mp (hp.mem_iff.mp (List.mem_of_getElem? hx))
    have := List.mem_range.mp hi
    omega
  have ht : t < n := by rw [← hln]; exact get_lt hl
  have hb := big hl
  obtain ⟨h1, h2⟩ := h
  refine ⟨by simp only [List.length_set]; exact h1, fun j hj x hx => ?_⟩
  have hjn : j < n := by rw [← hln]; exact get_lt hx
  have hbx := big hx
  by_cases e : j = t
  · subst e
    cases Option.some.inj (hl.symm.trans hx)
    exact ⟨by rw [List.getElem?_set_ne (by omega), List.getElem?_set_self (by omega)], by rw [List.getElem?_set_self (by simp only [List.length_set]; omega)]⟩
  · obtain ⟨g1, g2⟩ := h2 j (by omega) x hx
    have xl : l ≠ x := fun z => by subst z; exact e (nd_ix hnd hx hl)
    exact ⟨by rw [List.getElem?_set_ne (by omega), List.getElem?_set_ne (by omega)]; exact g1, by rw [List.getElem?_set_ne xl, List.getElem?_set_ne (by omega)]; exact g2⟩
theorem SInv.done {n : Nat} {ls fs : List Nat} (hp : ls.Perm ((List.range n).map fun i => n + i)) (h : SInv n ls fs n) : IsPair (2 * n) fs := by
  have hln : ls.length = n := by rw [hp.length_eq, List.length_map, List.length_range]
  refine ⟨h.1, fun x hx => ?_⟩
  by_cases e : x < n
  · obtain ⟨l, hl⟩ := get_some (l := ls) (i := x) (by omega)
    obtain ⟨i, hi, e'⟩ := List.mem_map.mp (hp.mem_iff.mp (List.mem_of_getElem? hl))
    have := List.mem_range.mp hi
    obtain ⟨g1, g2⟩ := h.2 x e l hl
    exact ⟨l, g1, by omega, by omega, g2⟩
  · have hm : x ∈ ls := hp.mem_iff.mpr (List.mem_map.mpr ⟨x - n, List.mem_range.mpr (by omega), by omega⟩)
    obtain ⟨j, hj, ej⟩ := List.mem_iff_getElem.mp hm
    obtain ⟨g1, g2⟩ := h.2 j (by omega) x (by rw [List.getElem?_eq_getElem hj, ej])
    exact ⟨j, g2, by omega, by omega, g1⟩
theorem emp_step (n i : Nat) (h : i < 2 * n) : (emp n).take (i + 1) = (emp n).take i ++ [(i + n) % (2 * n)] := by
  rw [List.take_add_one, emp_get h]
  rfl
theorem nv_snoc' (l : List Nat) (x : Nat) : nv l ++ [.int (x : Int)] = nv (l ++ [x]) := by
  unfold nv
  rw [List.map_append]; rfl
theorem mod_cast_n (i n : Nat) : ((0 : Int) + (i : Nat) + (n : Int)) % (2 * (n : Int)) = (((i + n) % (2 * n) : Nat) : Int) := by
  have h : (((i + n) % (2 * n) : Nat) : Int) = ((i + n : Nat) : Int) % ((2 * n : Nat) : Int) := Int.natCast_emod _ _
  rw [h, Int.natCast_add, Int.natCast_mul, Int.zero_add]
  rfl
end Pc
namespace Pc
open PySem PySem.Spec PyProof.Rows L2 RZ
/-! ### pairs that are chosen from a range -/
def selN (c : Nat → Bool) (g : Nat → Nat × Nat) (i : Nat) : List (Nat × Nat) := ((List.range i).filter c).map g
theorem selN_yes {c : Nat → Bool} {g : Nat → Nat × Nat} {i : Nat} (h : c i = true) : selN c g (i + 1) = selN c g i ++ [g i] := by
  unfold selN
  rw [List.range_succ, List.filter_append, List.map_append, List.filter_cons_of_pos h, List.filter_nil, List.map_cons, List.map_nil]
theorem selN_no {c : Nat → Bool} {g : Nat → Nat × Nat} {i : Nat} (h : c i = false) : selN c g (i + 1) = selN c g i := by
  unfold selN
  rw [List.range_succ, List.filter_append, List.map_append, List.filter_cons_of_neg (by rw [h]; decide), List.filter_nil, List.map_nil, List.append_nil]
theorem selN_len (c : Nat → Bool) (g : Nat → Nat × Nat) (i : Nat) : (selN c g i).length ≤ i := by
  unfold selN
  rw [List.length_map]
  exact Nat.le_trans (List.length_filter_le _ _) (by rw [List.length_range]; exact Nat.le_refl _)
theorem selN_mem {c : Nat → Bool} {g : Nat → Nat × Nat} {i : Nat} {p : Nat × Nat} : p ∈ selN c g i ↔ ∃ x, x < i ∧ c x = true ∧ g x = p := by
  unfold selN
  rw [List.mem_map]
  constructor
  · rintro ⟨x, hx, e⟩
    have := List.mem_filter.mp hx
    exact ⟨x, List.mem_range.mp this.1, this.2, e⟩
  · rintro ⟨x, h1, h2, e⟩
    exact ⟨x, List.mem_filter.mpr ⟨List.mem_range.mpr h1, h2⟩, e⟩
/-- one more pair is put to the list -/
theorem sel_step {H H1 : Hp} {D u : Addr} {as : List Addr} {c : Nat → Bool} {g : Nat → Nat × Nat} {i : Nat} {v1 v2 : V} (nD : H D = none) (sm : Same H H1) (eD : H1 D = some (.lst (as.map V.ref))) (hA : Prs H1 as (selN c g i)) (hc : c i = true) (nu : H1 u = none)
    (hv : [v1, v2] = [V.int ((g i).1 : Int), V.int ((g i).2 : Int)]) (hi : i ≤ 999) : ∃ acc, (upd H1 u (.tup [v1, v2])) D = some (.lst acc) ∧ acc.length < sizeLine ∧
      (Same H (upd (upd H1 u (.tup [v1, v2])) D (.lst (acc ++ [.ref u]))) ∧ ∃ as' : List Addr, (upd (upd H1 u (.tup [v1, v2])) D (.lst (acc ++ [.ref u]))) D = some (.lst (as'.map V.ref)) ∧ Prs (upd (upd H1 u (.tup [v1, v2])) D (.lst (acc ++ [.ref u]))) as' (selN c g (i + 1))) := by
  have su : Same H1 (upd H1 u (.tup [v1, v2])) := same_new nu
  have nuD : u ≠ D := fun e => by rw [e, eD] at nu; cases nu
  refine ⟨_, su _ _ eD, ?_, fun b' o hb => ?_, as ++ [u], ?_, ?_⟩
  · rw [List.length_map, hA.length]
    have := selN_len c g i
    exact small1000 (by omega)
  · rw [upd_ne (ne_of_none hb nD)]; exact su _ _ (sm _ _ hb)
  · rw [upd_same, List.map_append]; rfl
  · rw [selN_yes hc]
    refine prs_append (prs_keep (b := D) (ys := as.map V.ref) keep_upd (su _ _ eD) (prs_same su hA)) (.cons ?_ .nil)
    rw [upd_ne nuD, upd_same, hv]
theorem ix_sq {K : PySem.W.Frag} {H : Hp} {a : Addr} {xs : List V} {i : Int} {v : V} {Q : VK} (h : Sq K H a xs) (e : atI xs i = some v) (q : Q v H) : rIx K (.ref a) (.int i) H Q :=
  h.elim (fun z => .inl ⟨a, xs, i, v, rfl, rfl, z, e, q⟩) (fun z => .inr (.inl ⟨a, xs, i, v, rfl, rfl, z, e, q⟩))
/-! ### upper pairs, lower pairs, strands -/
def upC (fs : List Nat) (n x : Nat) : Bool := decide (x < fs.getD x 0) && decide (fs.getD x 0 < n)
def upG (fs : List Nat) (x : Nat) : Nat × Nat := (x, fs.getD x 0)
def loC (fs : List Nat) (n x : Nat) : Bool := decide (n + x < fs.getD (n + x) 0)
def loG (fs : List Nat) (n x : Nat) : Nat × Nat := (x, fs.getD (n + x) 0 - n)
def stC (fs : List Nat) (n x : Nat) : Bool := decide (n ≤ fs.getD x 0)
def stG (fs : List Nat) (n x : Nat) : Nat × Nat := (x, fs.getD x 0 - n)
def ups (fs : List Nat) (n : Nat) : List (Nat × Nat) := selN (upC fs n) (upG fs) n
def los (fs : List Nat) (n : Nat) : List (Nat × Nat) := selN (loC fs n) (loG fs n) n
def sts (fs : List Nat) (n : Nat) : List (Nat × Nat) := selN (stC fs n) (stG fs n) n
theorem ups_mem {n : Nat} {fs : List Nat} (h : IsPair (2 * n) fs) {p : Nat × Nat} (hp : p ∈ ups fs n) : fs[p.1]? = some p.2 ∧ p.1 < p.2 ∧ p.2 < n := by
  obtain ⟨x, hx, hc, e⟩ := selN_mem.mp hp
  obtain ⟨y, ey, _⟩ := h.par x (by omega)
  unfold upC at hc
  rw [getD_of ey, Bool.and_eq_true, decide_eq_true_iff, decide_eq_true_iff] at hc
  subst e
  show fs[x]? = some (fs.getD x 0) ∧ x < fs.getD x 0 ∧ fs.getD x 0 < n
  rw [getD_of ey]
  exact ⟨ey, hc.1, hc.2⟩
theorem los_mem {n : Nat} {fs : List Nat} (h : IsPair (2 * n) fs) {p : Nat × Nat} (hp : p ∈ los fs n) : fs[n + p.1]? = some (n + p.2) ∧ p.1 < p.2 ∧ p.2 < n := by
  obtain ⟨x, hx, hc, e⟩ := selN_mem.mp hp
  obtain ⟨y, ey, hy, _⟩ := h.par (n + x) (by omega)
  unfold loC at hc
  rw [getD_of ey, decide_eq_true_iff] at hc
  subst e
  show fs[n + x]? = some (n + (fs.getD (n + x) 0 - n)) ∧ x < fs.getD (n + x) 0 - n ∧ fs.getD (n + x) 0 - n < n
  rw [getD_of ey, show n + (y - n) = y by omega]
  exact ⟨ey, by omega, by omega⟩
theorem sts_mem {n : Nat} {fs : List Nat} (h : IsPair (2 * n) fs) {p : Nat × Nat} (hp : p ∈ sts fs n) : fs[p.1]? = some (n + p.2) ∧ p.1 < n ∧ p.2 < n := by
  obtain ⟨x, hx, hc, e⟩ := selN_mem.mp hp
  obtain ⟨y, ey, hy, _⟩ := h.par x (by omega)
  unfold stC at hc
  rw [getD_of ey, decide_eq_true_iff] at hc
  subst e
  show fs[x]? = some (n + (fs.getD x 0 - n)) ∧ x < n ∧ fs.getD x 0 - n < n
  rw [getD_of ey, show n + (y - n) = y by omega]
  exact ⟨ey, by omega, by omega⟩
/-- all joins of a sheet, as pairs of ends -/
def jns (fs : List Nat) (n : Nat) : List (Nat × Nat) := ups fs n ++ ((los fs n).map (fun p => (n + p.1, n + p.2)) ++ (sts fs n).map (fun p => (p.1, n + p.2)))
theorem jns_ok {n : Nat} {fs : List Nat} (h : IsPair (2 * n) fs) : ∀ p ∈ jns fs n, fs[p.1]? = some p.2 ∧ p.1 < p.2 := fun p hp => by
  rcases List.mem_append.mp hp with z | z
  · have := ups_mem h z; exact ⟨this.1, this.2.1⟩
  · rcases List.mem_append.mp z with z | z
    · obtain ⟨r, hr, rfl⟩ := List.mem_map.mp z
      have := los_mem h hr
      exact ⟨this.1, by show n + r.1 < n + r.2; omega⟩
    · obtain ⟨r, hr, rfl⟩ := List.mem_map.mp z
      have := sts_mem h hr
      exact ⟨this.1, by show r.1 < n + r.2; omega⟩
theorem sel_fst {c : Nat → Bool} {g : Nat → Nat × Nat} {i : Nat} (h : ∀ x, (g x).1 = x) : (selN c g i).map Prod.fst = (List.range i).filter c := by
  unfold selN
  rw [List.map_map]
  conv => rhs; rw [← List.map_id ((List.range i).filter c)]
  exact List.map_congr_left fun x _ => h x
theorem jns_nodup {n : Nat} {fs : List Nat} (h : IsPair (2 * n) fs) : ((jns fs n).map Prod.fst).Nodup := by
  have e1 : (ups fs n).map Prod.fst = (List.range n).filter (upC fs n) := sel_fst fun _ => rfl
  have e2 : ((los fs n).map (fun p => (n + p.1, n + p.2))).map Prod.fst = ((List.range n).filter (loC fs n)).map (fun x => n + x) := by
    rw [← sel_fst (c := loC fs n) (g := loG fs n) (i := n) fun _ => rfl, List.map_map, List.map_map]; rfl
  have e3 : ((sts fs n).map (fun p => (p.1, n + p.2))).map Prod.fst = (List.range n).filter (stC fs n) := by
    rw [← sel_fst (c := stC fs n) (g := stG fs n) (i := n) fun _ => rfl, List.map_map]; rfl
  unfold jns
  rw [List.map_append, List.map_append, e1, e2, e3]
  have nr : (List.range n).Nodup := List.nodup_range
  refine List.nodup_append.mpr ⟨nr.filter _, List.nodup_append.mpr ⟨?_, nr.filter _, fun a ha b hb => ?_⟩, fun a ha b hb => ?_⟩
  · exact List.Pairwise.map _ (fun a b (hab : a ≠ b) => show n + a ≠ n + b by omega) (nr.filter _)
  · obtain ⟨x, _, rfl⟩ := List.mem_map.mp ha
    have := List.mem_range.mp (List.mem_filter.mp hb).1
    omega
  · have ha1 := List.mem_range.mp (List.mem_filter.mp ha).1
    have ha2 := (List.mem_filter.mp ha).2
    unfold upC at ha2
    rw [Bool.and_eq_true, decide_eq_true_iff, decide_eq_true_iff] at ha2
    rcases List.mem_append.mp hb with z | z
    · obtain ⟨x, _, rfl⟩ := List.mem_map.mp z; omega
    · have hb2 := (List.mem_filter.mp z).2
      unfold stC at hb2
      rw [decide_eq_true_iff] at hb2
      intro e; subst e; omega
theorem jns_all {n : Nat} {fs : List Nat} (h : IsPair (2 * n) fs) {z y : Nat} (e : fs[z]? = some y) (hz : z < y) : (z, y) ∈ jns fs n := by
  obtain ⟨_, hy, hz2, _⟩ := h.back e
  unfold jns
  by_cases c : z < n
  · by_cases d : y < n
    · refine List.mem_append.mpr (.inl (selN_mem.mpr ⟨z, c, ?_, ?_⟩))
      · unfold upC; rw [getD_of e, decide_eq_true hz, decide_eq_true d]; rfl
      · unfold upG; rw [getD_of e]
    · refine List.mem_append.mpr (.inr (List.mem_append.mpr (.inr (List.mem_map.mpr ⟨(z, y - n), selN_mem.mpr ⟨z, c, ?_, ?_⟩, ?_⟩))))
      · unfold stC; rw [getD_of e]; exact decide_eq_true (by omega)
      · unfold stG; rw [getD_of e]
      · show (z, n + (y - n)) = (z, y); rw [show n + (y - n) = y by omega]
  · have e' : fs[n + (z - n)]? = some y := by rw [show n + (z - n) = z by omega]; exact e
    refine List.mem_append.mpr (.inr (List.mem_append.mpr (.inl (List.mem_map.mpr ⟨(z - n, y - n), selN_mem.mpr ⟨z - n, by omega, ?_, ?_⟩, ?_⟩))))
    · unfold loC; rw [getD_of e']; exact decide_eq_true (by omega)
    · unfold loG; rw [getD_of e']
    · show (n + (z - n), n + (y - n)) = (z, y); rw [show n + (z - n) = z by omega, show n + (y - n) = y by omega]
/-- the ends of joins in a row -/
def flat : List (Nat × Nat) → List Nat
  | [] => []
  | p :: r => p.1 :: p.2 :: flat r
theorem flat_app : ∀ a b : List (Nat × Nat), flat (a ++ b) = flat a ++ flat b
  | [], _ => rfl
  | p :: r, b => by show p.1 :: p.2 :: flat (r ++ b) = _; rw [flat_app r b]; rfl
theorem flat_mem : ∀ {l : List (Nat × Nat)} {z : Nat}, z ∈ flat l ↔ ∃ p ∈ l, z = p.1 ∨ z = p.2
  | [], z => by simp [flat]
  | p :: r, z => by
    show z ∈ p.1 :: p.2 :: flat r ↔ _
    rw [List.mem_cons, List.mem_cons, flat_mem (l := r)]
    constructor
    · rintro (e | e | ⟨q, hq, e⟩)
      · exact ⟨p, List.mem_cons_self, .inl e⟩
      · exact ⟨p, List.mem_cons_self, .inr e⟩
      · exact ⟨q, List.mem_cons_of_mem _ hq, e⟩
    · rintro ⟨q, hq, e⟩
      rcases List.mem_cons.mp hq with z | z
      · subst z; exact e.elim .inl (fun e => .inr (.inl e))
      · exact .inr (.inr ⟨q, z, e⟩)
theorem flat_len : ∀ l : List (Nat × Nat), (flat l).length = 2 * l.length
  | [] => rfl
  | p :: r => by show (flat r).length + 1 + 1 = 2 * (r.length + 1); rw [flat_len r]; omega
theorem flat_nodup {n : Nat} {fs : List Nat} (h : IsPair n fs) : ∀ {l : List (Nat × Nat)}, (∀ p ∈ l, fs[p.1]? = some p.2 ∧ p.1 < p.2) → (l.map Prod.fst).Nodup → (flat l).Nodup
  | [], _, _ => List.nodup_nil
  | p :: r, ho, hd => by
    have hp := ho p List.mem_cons_self
    obtain ⟨n1, n2⟩ := List.nodup_cons.mp (show (p.1 :: r.map Prod.fst).Nodup from hd)
    have hr : ∀ q ∈ r, fs[q.1]? = some q.2 ∧ q.1 < q.2 := fun q hq => ho q (List.mem_cons_of_mem _ hq)
    have ih := flat_nodup h hr n2
    have bp := (h.back hp.1).1
    have ne1 : ∀ q ∈ r, p.1 ≠ q.1 := fun q hq e => n1 (List.mem_map.mpr ⟨q, hq, e.symm⟩)
    show (p.1 :: p.2 :: flat r).Nodup
    refine List.nodup_cons.mpr ⟨fun hm => ?_, List.nodup_cons.mpr ⟨fun hm => ?_, ih⟩⟩
    · rcases List.mem_cons.mp hm with e | e
      · omega
      · obtain ⟨q, hq, e⟩ := flat_mem.mp e
        have hq' := hr q hq
        rcases e with e | e
        · exact ne1 q hq e
        · have bq := (h.back hq'.1).1
          rw [← e, hp.1] at bq
          have := Option.some.inj bq
          omega
    · obtain ⟨q, hq, e⟩ := flat_mem.mp hm
      have hq' := hr q hq
      rcases e with e | e
      · have e1 := hq'.1
        rw [← e, bp] at e1
        have := Option.some.inj e1
        omega
      · have bq := (h.back hq'.1).1
        rw [← e, bp] at bq
        exact ne1 q hq (Option.some.inj bq)
theorem jns_perm {n : Nat} {fs : List Nat} (h : IsPair (2 * n) fs) : (flat (jns fs n)).Perm (List.range (2 * n)) := by
  refine (List.perm_ext_iff_of_nodup (flat_nodup h (jns_ok h) (jns_nodup h)) List.nodup_range).mpr fun z => ?_
  rw [flat_mem, List.mem_range]
  constructor
  · rintro ⟨p, hp, e⟩
    obtain ⟨b1, b2, b3, _⟩ := h.back (jns_ok h p hp).1
    rcases e with e | e <;> omega
  · intro hz
    obtain ⟨y, ey, hy, hne, eb⟩ := h.par z hz
    by_cases c : z < y
    · exact ⟨_, jns_all h ey c, .inl rfl⟩
    · exact ⟨_, jns_all h eb (by omega), .inr rfl⟩
theorem flat_two {f : Nat → Bool} : ∀ {l : List (Nat × Nat)}, (∀ p ∈ l, f p.1 = true ∧ f p.2 = true) → (flat l).countP f = 2 * l.length
  | [], _ => rfl
  | p :: r, h => by
    have hp := h p List.mem_cons_self
    show (p.1 :: p.2 :: flat r).countP f = _
    rw [List.countP_cons_of_pos hp.1, List.countP_cons_of_pos hp.2, flat_two fun q hq => h q (List.mem_cons_of_mem _ hq), List.length_cons]
    omega
theorem flat_none {f : Nat → Bool} : ∀ {l : List (Nat × Nat)}, (∀ p ∈ l, f p.1 = false ∧ f p.2 = false) → (flat l).countP f = 0
  | [], _ => rfl
  | p :: r, h => by
    have hp := h p List.mem_cons_self
    show (p.1 :: p.2 :: flat r).countP f = _
    rw [List.countP_cons_of_neg (by rw [hp.1]; decide), List.countP_cons_of_neg (by rw [hp.2]; decide), flat_none fun q hq => h q (List.mem_cons_of_mem _ hq)]
theorem flat_one {f : Nat → Bool} : ∀ {l : List (Nat × Nat)}, (∀ p ∈ l, f p.1 = true ∧ f p.2 = false) → (flat l).countP f = l.length
  | [], _ => rfl
  | p :: r, h => by
    have hp := h p List.mem_cons_self
    show (p.1 :: p.2 :: flat r).countP f = _
    rw [List.countP_cons_of_pos hp.1, List.countP_cons_of_neg (by rw [hp.2]; decide), flat_one fun q hq => h q (List.mem_cons_of_mem _ hq), List.length_cons]
theorem range_low (n : Nat) : (List.range (2 * n)).countP (fun z => decide (z < n)) = n := by
  rw [show 2 * n = n + n by omega, List.range_add, List.countP_append, List.countP_eq_length.mpr (fun a ha => decide_eq_true (List.mem_range.mp ha)), List.countP_eq_zero.mpr (fun a ha => ?_), List.length_range, Nat.add_zero]
  obtain ⟨x, _, rfl⟩ := List.mem_map.mp ha
  rw [decide_eq_true_iff]; omega
theorem ups_los {n : Nat} {fs : List Nat} (h : IsPair (2 * n) fs) : (ups fs n).length = (los fs n).length := by
  have hp := jns_perm h
  have hl := hp.length_eq
  have hc := hp.countP_eq (fun z => decide (z < n))
  rw [range_low] at hc
  rw [flat_len, List.length_range] at hl
  unfold jns at hc hl
  rw [List.length_append, List.length_append, List.length_map, List.length_map] at hl
  have x1 : (flat (ups fs n)).countP (fun z => decide (z < n)) = 2 * (ups fs n).length := flat_two fun p hp => by
    have := ups_mem h hp
    exact ⟨decide_eq_true (by omega), decide_eq_true (by omega)⟩
  have x2 : (flat ((los fs n).map (fun p => (n + p.1, n + p.2)))).countP (fun z => decide (z < n)) = 0 := flat_none fun p hp => by
    obtain ⟨r, hr, rfl⟩ := List.mem_map.mp hp
    exact ⟨decide_eq_false (by show ¬ n + r.1 < n; omega), decide_eq_false (by show ¬ n + r.2 < n; omega)⟩
  have x3 : (flat ((sts fs n).map (fun p => (p.1, n + p.2)))).countP (fun z => decide (z < n)) = ((sts fs n).map (fun p => (p.1, n + p.2))).length := flat_one fun p hp => by
    obtain ⟨r, hr, rfl⟩ := List.mem_map.mp hp
    have := sts_mem h hr
    exact ⟨decide_eq_true (by show r.1 < n; omega), decide_eq_false (by show ¬ n + r.2 < n; omega)⟩
  rw [flat_app, flat_app, List.countP_append, List.countP_append, x1, x2, x3, List.length_map] at hc
  omega
end Pc
namespace Pc
open PySem PySem.Spec PyProof.Rows L2 RZ
section
variable {P : Program} {w : World} {K : PySem.W.Frag} {mg : Str → Option Value} {base : Heap}
/-! ### the number of people of a sheet -/
def spPeople (K : PySem.W.Frag) : Sp := fun vs H Q _ => ∃ (a : Addr) (fs : List Nat) (n : Nat), vs = [.ref a] ∧ Sq K H a (nv fs) ∧ fs.length = 2 * n ∧ Q (.int n) H
theorem ok_p_people_of (T : Env K mg) : FnOk P w K mg base CX0 1 T.f_p_people_of T.d_p_people_of ["sheet"] (spPeople K) := by
  refine T.F_p_people_of.ok sc_p_people_of (fun vs H Q E h => ?_) (fun cdv A outer s H vs Q E hr h => ?_)
  · obtain ⟨a, fs, n, rfl, _⟩ := h
    rfl
  · obtain ⟨a, fs, n, rfl, hS, hl, q⟩ := h
    refine ⟨_, pss_one (ps_ret (pe_op op_fdiv (pe_callB call_len_seq (by rfl) T.n_len PySem.boot_len (pa_cons (pv 0) pa_nil)) pe_int)), ?_⟩
    refine ⟨.ref a, rfl, a, _, rfl, hS, _, 2, rfl, rfl, ⟨by decide, by decide⟩, ?_⟩
    show Q (.int (((nv fs).length : Int) / 2)) H
    rw [nv_length, hl, show (((2 * n : Nat) : Int) / 2) = (n : Int) by omega]
    exact q
end
end Pc
namespace Pc
/-! ### ways along a sheet and a pairing -/
/-- nodup numbers below n are n at most -/
theorem few_below : ∀ (n : Nat) (l : List Nat), l.Nodup → (∀ x ∈ l, x < n) → l.length ≤ n
  | 0, l, _, h => by
    cases l with
    | nil => exact Nat.le_refl _
    | cons a r => exact absurd (h a List.mem_cons_self) (Nat.not_lt_zero _)
  | n + 1, l, hd, h => by
    by_cases hm : n ∈ l
    · have h1 : (l.erase n).length = l.length - 1 := List.length_erase_of_mem hm
      have h2 := few_below n (l.erase n) (hd.erase n) (fun x hx => by
        have hx' := (hd.mem_erase_iff).mp hx
        have := h x hx'.2
        have := hx'.1
        omega)
      omega
    · have h2 := few_below n l hd (fun x hx => by
        have := h x hx
        have : x ≠ n := fun e => hm (e ▸ hx)
        omega)
      omega
/-- a function on the first n + 1 numbers into the n first ones takes one value twice -/
theorem pigeon (n : Nat) (f : Nat → Nat) (h : ∀ i, i ≤ n → f i < n) : ∃ i j, i < j ∧ j ≤ n ∧ f i = f j := by
  apply Classical.byContradiction
  intro hn
  have hd : ((List.range (n + 1)).map f).Nodup := by
    rw [List.nodup_iff_pairwise_ne, List.pairwise_map]
    refine List.Pairwise.imp_of_mem ?_ List.pairwise_lt_range
    intro a b ha hb hab e
    exact hn ⟨a, b, hab, by have := List.mem_range.mp hb; omega, e⟩
  have := few_below n _ hd (fun x hx => by
    obtain ⟨i, hi, rfl⟩ := List.mem_map.mp hx
    exact h i (by have := List.mem_range.mp hi; omega))
  rw [List.length_map, List.length_range] at this
  omega
section
variable (fs ps : List Nat) (n : Nat)
/-- the whole way from an end: along the join, along the couple, and so on until a lower end -/
inductive Trail : Nat → List Nat → Prop
  | stop {z : Nat} : n ≤ fs.getD z 0 → Trail z [z, fs.getD z 0]
  | go {z : Nat} {l : List Nat} : fs.getD z 0 < n → Trail (ps.getD (fs.getD z 0) 0) l → Trail z (z :: fs.getD z 0 :: l)
/-- where the steps of a way begin -/
def hop (z : Nat) : Nat → Nat
  | 0 => z
  | k + 1 => ps.getD (fs.getD (hop z k) 0) 0
end
theorem IsPair.d {n : Nat} {ps : List Nat} (h : IsPair n ps) {x : Nat} (hx : x < n) : ps.getD x 0 < n ∧ ps.getD x 0 ≠ x ∧ ps.getD (ps.getD x 0) 0 = x ∧ ps[x]? = some (ps.getD x 0) := by
  obtain ⟨y, h1, h2, h3, h4⟩ := h.par x hx
  rw [getD_of h1]
  exact ⟨h2, h3, getD_of h4, h1⟩
theorem IsPair.inj {n : Nat} {ps : List Nat} (h : IsPair n ps) {x y : Nat} (hx : x < n) (hy : y < n) (e : ps.getD x 0 = ps.getD y 0) : x = y := by
  rw [← (h.d hx).2.2.1, ← (h.d hy).2.2.1, e]
theorem Trail.det {fs ps : List Nat} {n z : Nat} {l m : List Nat} (h : Trail fs ps n z l) : Trail fs ps n z m → l = m := by
  induction h generalizing m with
  | stop h1 => intro h; cases h with
    | stop _ => rfl
    | go h2 _ => omega
  | go h1 _ ih => intro h; cases h with
    | stop h2 => omega
    | go _ h3 => rw [ih h3]
theorem Trail.len {fs ps : List Nat} {n z : Nat} {l : List Nat} (h : Trail fs ps n z l) : 2 ≤ l.length ∧ l.length % 2 = 0 ∧ n ≤ l.getLastD 0 := by
  induction h with
  | stop h1 => exact ⟨Nat.le_refl _, by simp only [List.length_cons, List.length_nil], h1⟩
  | @go z l h1 _ ih =>
    refine ⟨by simp only [List.length_cons]; omega, by simp only [List.length_cons]; omega, ?_⟩
    cases l with
    | nil => exact absurd ih.1 (by decide)
    | cons a r => exact ih.2.2
theorem hop_step (fs ps : List Nat) (z k : Nat) : hop fs ps (ps.getD (fs.getD z 0) 0) k = hop fs ps z (k + 1) := by
  induction k with
  | zero => rfl
  | succ k ih => rw [hop, ih]; rfl
theorem trail_of {fs ps : List Nat} {n : Nat} : ∀ (m z : Nat), n ≤ fs.getD (hop fs ps z m) 0 → ∃ l, Trail fs ps n z l ∧ l.length ≤ 2 * m + 2
  | 0, z, h => ⟨_, .stop h, Nat.le_refl _⟩
  | m + 1, z, h => by
    by_cases c : fs.getD z 0 < n
    · obtain ⟨l, h1, h2⟩ := trail_of m (ps.getD (fs.getD z 0) 0) (by rw [hop_step]; exact h)
      exact ⟨_, .go c h1, by simp only [List.length_cons]; omega⟩
    · exact ⟨_, .stop (by omega), by simp only [List.length_cons, List.length_nil]; omega⟩
/-- every way from a lower end comes to a lower end -/
theorem trail_ex {fs ps : List Nat} {n : Nat} (hF : IsPair (2 * n) fs) (hP : IsPair n ps) {z : Nat} (hz : n ≤ z) (hz2 : z < 2 * n) : ∃ l, Trail fs ps n z l ∧ l.length ≤ 2 * n + 2 := by
  apply Classical.byContradiction
  intro hn
  have small : ∀ k, k ≤ n → fs.getD (hop fs ps z k) 0 < n := fun k hk => by
    apply Classical.byContradiction
    intro h
    obtain ⟨l, h1, h2⟩ := trail_of (fs := fs) (ps := ps) (n := n) k z (by omega)
    exact hn ⟨l, h1, by omega⟩
  have hl : ∀ k, k ≤ n → hop fs ps z k < 2 * n ∧ (0 < k → hop fs ps z k < n) := fun k hk => by
    cases k with
    | zero => exact ⟨hz2, fun h => absurd h (Nat.lt_irrefl _)⟩
    | succ k =>
      have := (hP.d (small k (by omega))).1
      exact ⟨by show ps.getD _ 0 < 2 * n; omega, fun _ => this⟩
  have diff : ∀ i j, i < j → j ≤ n → hop fs ps z i ≠ hop fs ps z j := fun i => by
    induction i with
    | zero =>
      intro j hj hn2 e
      have := (hl j hn2).2 hj
      have e' : z = hop fs ps z j := e
      omega
    | succ i ih =>
      intro j hj hn2 e
      cases j with
      | zero => omega
      | succ j =>
        have e1 : fs.getD (hop fs ps z i) 0 = fs.getD (hop fs ps z j) 0 := hP.inj (small i (by omega)) (small j (by omega)) e
        exact ih j (by omega) (by omega) (hF.inj (hl i (by omega)).1 (hl j (by omega)).1 e1)
  obtain ⟨i, j, h1, h2, h3⟩ := pigeon n (fun k => fs.getD (hop fs ps z k) 0) small
  exact diff i j h1 h2 (hF.inj (hl i (by omega)).1 (hl j h2).1 h3)
/-- the way of a lower end, and where it ends -/
noncomputable def trl (fs ps : List Nat) (n z : Nat) : List Nat := open Classical in if h : ∃ l, Trail fs ps n z l then h.choose else []
noncomputable def far (fs ps : List Nat) (n z : Nat) : Nat := (trl fs ps n z).getLastD 0
theorem Trail.eq {fs ps : List Nat} {n z : Nat} {l : List Nat} (h : Trail fs ps n z l) : trl fs ps n z = l := by
  unfold trl
  rw [dif_pos ⟨l, h⟩]
  exact (Exists.choose_spec (⟨l, h⟩ : ∃ l, Trail fs ps n z l)).det h
theorem trl_trail {fs ps : List Nat} {n : Nat} (hF : IsPair (2 * n) fs) (hP : IsPair n ps) {z : Nat} (hz : n ≤ z) (hz2 : z < 2 * n) : Trail fs ps n z (trl fs ps n z) ∧ (trl fs ps n z).length ≤ 2 * n + 2 := by
  obtain ⟨l, h1, h2⟩ := trail_ex hF hP hz hz2
  rw [h1.eq]; exact ⟨h1, h2⟩
/-- what is read -/
noncomputable def rd (fs ps : List Nat) (n : Nat) : List Nat := (List.range n).map fun x => far fs ps n (n + x) - n
end Pc
namespace Pc
theorem lastc {l : List Nat} (h : 2 ≤ l.length) (a b d : Nat) : (a :: b :: l).getLastD d = l.getLastD d := by
  cases l with
  | nil => exact absurd h (by decide)
  | cons x r => rfl
theorem Trail.last {fs ps : List Nat} {n z : Nat} {l : List Nat} (hF : IsPair (2 * n) fs) (hP : IsPair n ps) (h : Trail fs ps n z l) : z < 2 * n → l.getLastD 0 < 2 * n := by
  induction h with
  | @stop z h1 => intro hz; exact (hF.d hz).1
  | @go z l h1 h2 ih =>
    intro hz
    rw [lastc h2.len.1]
    have := (hP.d h1).1
    exact ih (by omega)
theorem Trail.rev {fs ps : List Nat} {n z : Nat} {l : List Nat} (hF : IsPair (2 * n) fs) (hP : IsPair n ps) (h : Trail fs ps n z l) : z < 2 * n → ∀ t : List Nat, (n ≤ z → t = []) → (z < n → Trail fs ps n (ps.getD z 0) t) → Trail fs ps n (l.getLastD 0) (l.reverse ++ t) := by
  have one : ∀ {z : Nat} {t : List Nat}, z < 2 * n → (n ≤ z → t = []) → (z < n → Trail fs ps n (ps.getD z 0) t) → Trail fs ps n (fs.getD z 0) (fs.getD z 0 :: z :: t) := fun {z t} hz h1 h2 => by
    have e := (hF.d hz).2.2.1
    by_cases c : z < n
    · have := Trail.go (fs := fs) (ps := ps) (n := n) (z := fs.getD z 0) (l := t) (by rw [e]; exact c) (by rw [e]; exact h2 c)
      rw [e] at this; exact this
    · rw [h1 (by omega)]
      have := Trail.stop (fs := fs) (ps := ps) (n := n) (z := fs.getD z 0) (by rw [e]; omega)
      rw [e] at this; exact this
  induction h with
  | @stop z h1 => intro hz t a b; exact one hz a b
  | @go z l h1 h2 ih =>
    intro hz t a b
    have hz' := hP.d h1
    rw [lastc h2.len.1]
    have := ih (by omega) (fs.getD z 0 :: z :: t) (fun x => by omega) (fun _ => by rw [hz'.2.2.1]; exact one hz a b)
    simp only [List.reverse_cons, List.append_assoc, List.cons_append, List.nil_append]
    exact this
theorem Trail.back {fs ps : List Nat} {n z : Nat} {l : List Nat} (hF : IsPair (2 * n) fs) (hP : IsPair n ps) (h : Trail fs ps n z l) (hz : n ≤ z) (hz2 : z < 2 * n) : Trail fs ps n (l.getLastD 0) l.reverse := by
  have := h.rev hF hP hz2 [] (fun _ => rfl) (fun h => by omega)
  rw [List.append_nil] at this; exact this
theorem Trail.head {fs ps : List Nat} {n z : Nat} {l : List Nat} (h : Trail fs ps n z l) : l[0]? = some z := by
  cases h <;> rfl
theorem Trail.adj {fs ps : List Nat} {n z : Nat} {l : List Nat} (hF : IsPair (2 * n) fs) (hP : IsPair n ps) (h : Trail fs ps n z l) : z < 2 * n → ∀ i x, l[i]? = some x → l[i + 1]? ≠ some x := by
  induction h with
  | @stop z h1 =>
    intro hz i x h1 h2
    have hi : i + 1 < 2 := get_lt h2
    have : i = 0 := by omega
    subst this
    have e1 : z = x := Option.some.inj h1
    have e2 : fs.getD z 0 = x := Option.some.inj h2
    exact (hF.d hz).2.1 (e2.trans e1.symm)
  | @go z l h1 h2 ih =>
    intro hz i x g1 g2
    have hz' := hP.d h1
    cases i with
    | zero =>
      have e1 : z = x := Option.some.inj g1
      have e2 : fs.getD z 0 = x := Option.some.inj g2
      exact (hF.d hz).2.1 (e2.trans e1.symm)
    | succ i =>
      cases i with
      | zero =>
        have e1 : fs.getD z 0 = x := Option.some.inj g1
        have e2 : some (ps.getD (fs.getD z 0) 0) = some x := h2.head.symm.trans g2
        exact hz'.2.1 ((Option.some.inj e2).trans e1.symm)
      | succ i => exact ih (by omega) i x g1 g2
theorem last_get {l : List Nat} (h : 0 < l.length) : l[l.length - 1]? = some (l.getLastD 0) := by
  cases l with
  | nil => exact absurd h (by decide)
  | cons a r => rw [← List.getLast?_eq_getElem?, List.getLast?_eq_some_getLast (List.cons_ne_nil a r), List.getLastD_cons, ← List.getLast_eq_getLastD (h := List.cons_ne_nil a r)]
theorem far_is {fs ps : List Nat} {n z : Nat} {l : List Nat} (h : Trail fs ps n z l) : far fs ps n z = l.getLastD 0 := by
  unfold far; rw [h.eq]
theorem far_d {fs ps : List Nat} {n : Nat} (hF : IsPair (2 * n) fs) (hP : IsPair n ps) {z : Nat} (hz : n ≤ z) (hz2 : z < 2 * n) : n ≤ far fs ps n z ∧ far fs ps n z < 2 * n ∧ far fs ps n (far fs ps n z) = z ∧ far fs ps n z ≠ z := by
  obtain ⟨l, h1, _⟩ := trail_ex hF hP hz hz2
  have hb := h1.back hF hP hz hz2
  have hl := h1.len
  have e := far_is h1
  have e2 := far_is hb
  rw [e, e2]
  refine ⟨hl.2.2, h1.last hF hP hz2, ?_, fun c => ?_⟩
  · have g := last_get (l := l.reverse) (by rw [List.length_reverse]; omega)
    rw [List.length_reverse, List.getElem?_reverse (by omega), show l.length - 1 - (l.length - 1) = 0 by omega, h1.head] at g
    exact (Option.some.inj g).symm
  · rw [c] at hb
    have e3 : l = l.reverse := h1.det hb
    obtain ⟨k, hk⟩ : ∃ k, l.length = 2 * k := ⟨l.length / 2, by omega⟩
    have g1 : l[k - 1]? = l[k]? := by
      have g : l[k - 1]? = l.reverse[k - 1]? := congrArg (fun (m : List Nat) => m[k - 1]?) e3
      rw [List.getElem?_reverse (by omega), show l.length - 1 - (k - 1) = k by omega] at g
      exact g
    have lt : k - 1 < l.length := by omega
    exact h1.adj hF hP hz2 (k - 1) l[k - 1] (List.getElem?_eq_getElem lt) (by rw [show k - 1 + 1 = k by omega, ← g1]; exact List.getElem?_eq_getElem lt)
theorem rd_len (fs ps : List Nat) (n : Nat) : (rd fs ps n).length = n := by unfold rd; rw [List.length_map, List.length_range]
theorem rd_get (fs ps : List Nat) {n x : Nat} (h : x < n) : (rd fs ps n)[x]? = some (far fs ps n (n + x) - n) := by
  unfold rd; rw [List.getElem?_map, List.getElem?_range h]; rfl
theorem rd_pair {fs ps : List Nat} {n : Nat} (hF : IsPair (2 * n) fs) (hP : IsPair n ps) : IsPair n (rd fs ps n) := by
  refine ⟨rd_len _ _ _, fun x hx => ?_⟩
  obtain ⟨h1, h2, h3, h4⟩ := far_d hF hP (z := n + x) (by omega) (by omega)
  refine ⟨_, rd_get fs ps hx, by omega, by omega, ?_⟩
  rw [rd_get fs ps (by omega), show n + (far fs ps n (n + x) - n) = far fs ps n (n + x) by omega, h3, show n + x - n = x by omega]
/-- a sheet that differs only at four ends -/
structure Near (fs gs : List Nat) (n A B c d : Nat) : Prop where
  la : n ≤ A
  lb : n ≤ B
  ab : A ≠ B
  fc : fs.getD c 0 = A
  un : ∀ z, fs.getD z 0 = A → z = c
  fd : fs.getD d 0 = B
  fb : fs.getD B 0 = d
  gc : gs.getD c 0 = d
  eq : ∀ z, z ≠ A → z ≠ B → z ≠ c → z ≠ d → gs.getD z 0 = fs.getD z 0
theorem Trail.near {fs gs ps : List Nat} {n A B c d z : Nat} {l : List Nat} (hP : IsPair n ps) (N : Near fs gs n A B c d) (h : Trail fs ps n z l) : z ≠ A → z ≠ B → l.getLastD 0 ≠ A → l.getLastD 0 ≠ B → Trail gs ps n z l := by
  have la := N.la
  have lb := N.lb
  induction h with
  | @stop z h1 =>
    intro hA hB eA eB
    have e : gs.getD z 0 = fs.getD z 0 := N.eq z hA hB (fun e => eA (by rw [e]; exact N.fc)) (fun e => eB (by rw [e]; exact N.fd))
    rw [← e]; exact .stop (by rw [e]; exact h1)
  | @go z l h1 h2 ih =>
    intro hA hB eA eB
    rw [lastc h2.len.1] at eA eB
    have e : gs.getD z 0 = fs.getD z 0 := N.eq z hA hB (fun e => by rw [e, N.fc] at h1; omega) (fun e => by rw [e, N.fd] at h1; omega)
    have hz' := (hP.d h1).1
    have t := ih (by omega) (by omega) eA eB
    rw [← e] at h1 t ⊢
    exact .go h1 t
theorem Trail.over {fs gs ps : List Nat} {n A B c d z : Nat} {l m : List Nat} (hP : IsPair n ps) (N : Near fs gs n A B c d) (hm : Trail fs ps n B m) (mA : m.getLastD 0 ≠ A) (mB : m.getLastD 0 ≠ B) (h : Trail fs ps n z l) : z ≠ A → z ≠ B → l.getLastD 0 = A → ∃ k, Trail gs ps n z k ∧ k.getLastD 0 = m.getLastD 0 := by
  have la := N.la
  have lb := N.lb
  have fb := N.fb
  induction h with
  | @stop z h1 =>
    intro hA hB eA
    by_cases zc : z = c
    · subst zc
      cases hm with
      | stop h => 
        refine ⟨_, .stop (by rw [N.gc, ← fb]; exact h), ?_⟩
        rw [N.gc, ← fb]; rfl
      | @go _ m h h2 =>
        rw [lastc h2.len.1] at mA mB ⊢
        rw [fb] at h h2
        have := hP.d h
        refine ⟨_, .go (by rw [N.gc]; exact h) (by rw [N.gc]; exact h2.near hP N (by omega) (by omega) mA mB), ?_⟩
        rw [lastc h2.len.1]
    · exact absurd (N.un z eA) zc
  | @go z l h1 h2 ih =>
    intro hA hB eA
    rw [lastc h2.len.1] at eA
    have e : gs.getD z 0 = fs.getD z 0 := N.eq z hA hB (fun e => by rw [e, N.fc] at h1; omega) (fun e => by rw [e, N.fd] at h1; omega)
    have hz' := (hP.d h1).1
    obtain ⟨k, t1, t2⟩ := ih (by omega) (by omega) eA
    rw [← e] at h1 t1
    refine ⟨_, .go h1 t1, ?_⟩
    rw [lastc t1.len.1]; exact t2

theorem jn_near {fs : List Nat} {n A B : Nat} (hF : IsPair (2 * n) fs) (hA : n ≤ A) (hB : n ≤ B) (hA2 : A < 2 * n) (hB2 : B < 2 * n) (hab : A ≠ B) (hc : fs.getD A 0 ≠ B) : Near fs (jn fs A B) n A B (fs.getD A 0) (fs.getD B 0) ∧ Near fs (jn fs A B) n B A (fs.getD B 0) (fs.getD A 0) ∧ (jn fs A B).getD A 0 = B ∧ (jn fs A B).getD B 0 = A := by
  obtain ⟨a1, a2, a3, a4⟩ := hF.d hA2
  obtain ⟨b1, b2, b3, b4⟩ := hF.d hB2
  have G := jn_get hF hab a4 b4 hc
  obtain ⟨x1, x2, x3, x4, _⟩ := four hF hab a4 b4 hc
  have D : ∀ z, (jn fs A B).getD z 0 = ((jn fs A B)[z]?).getD 0 := fun z => List.getD_eq_getElem?_getD
  have un : ∀ {X : Nat}, n ≤ X → X < 2 * n → ∀ z, fs.getD z 0 = X → z = fs.getD X 0 := fun {X} h1 h2 z e => by
    by_cases hz : z < 2 * n
    · rw [← e, (hF.d hz).2.2.1]
    · rw [List.getD_eq_getElem?_getD, List.getElem?_eq_none (by rw [hF.len]; omega)] at e
      have e' : 0 = X := e
      omega
  have E : ∀ z, z ≠ A → z ≠ B → z ≠ fs.getD A 0 → z ≠ fs.getD B 0 → (jn fs A B).getD z 0 = fs.getD z 0 := fun z h1 h2 h3 h4 => by
    rw [D, G, if_neg h1, if_neg h2, if_neg h3, if_neg h4, ← List.getD_eq_getElem?_getD]
  refine ⟨⟨hA, hB, hab, a3, un hA hA2, b3, rfl, ?_, E⟩, ⟨hB, hA, hab.symm, b3, un hB hB2, a3, rfl, ?_, fun z h1 h2 h3 h4 => E z h2 h1 h4 h3⟩, ?_, ?_⟩
  · rw [D, G, if_neg x1, if_neg hc, if_pos rfl]; rfl
  · rw [D, G, if_neg x3, if_neg x2, if_neg (Ne.symm x4), if_pos rfl]; rfl
  · rw [D, G, if_pos rfl]; rfl
  · rw [D, G, if_neg hab.symm, if_pos rfl]; rfl
theorem IsPair.ofd {fs : List Nat} {n x y : Nat} (h : IsPair n fs) (hx : x < n) (e : fs.getD x 0 = y) : fs[x]? = some y := by
  rw [← e]; exact (h.d hx).2.2.2
/-- a call added to a sheet is a call behind what is read -/
theorem rd_jn {fs ps : List Nat} {n a b : Nat} (hF : IsPair (2 * n) fs) (hP : IsPair n ps) (hab : a ≠ b) (ha : a < n) (hb : b < n) : rd (jn fs (n + a) (n + b)) ps n = jn (rd fs ps n) a b := by
  have hR := rd_pair hF hP
  by_cases hc : fs.getD (n + a) 0 = n + b
  · rw [jn_same (hF.ofd (by omega) hc)]
    have t : Trail fs ps n (n + a) [n + a, n + b] := by
      have := Trail.stop (fs := fs) (ps := ps) (n := n) (z := n + a) (by rw [hc]; omega)
      rw [hc] at this; exact this
    refine (jn_same ?_).symm
    rw [rd_get fs ps ha, far_is t]
    show some (n + b - n) = some b
    rw [Nat.add_sub_cancel_left]
  · obtain ⟨N1, N2, gA, gB⟩ := jn_near hF (A := n + a) (B := n + b) (by omega) (by omega) (by omega) (by omega) (by omega) hc
    have hF' : IsPair (2 * n) (jn fs (n + a) (n + b)) := jn_pair hF (by omega) (by omega) (by omega)
    have fA := far_d hF hP (z := n + a) (by omega) (by omega)
    have fB := far_d hF hP (z := n + b) (by omega) (by omega)
    have tA : Trail (jn fs (n + a) (n + b)) ps n (n + a) [n + a, n + b] := by
      have := Trail.stop (fs := jn fs (n + a) (n + b)) (ps := ps) (n := n) (z := n + a) (by rw [gA]; omega)
      rw [gA] at this; exact this
    have tB : Trail (jn fs (n + a) (n + b)) ps n (n + b) [n + b, n + a] := by
      have := Trail.stop (fs := jn fs (n + a) (n + b)) (ps := ps) (n := n) (z := n + b) (by rw [gB]; omega)
      rw [gB] at this; exact this
    obtain ⟨lA, hlA, _⟩ := trail_ex hF hP (z := n + a) (by omega) (by omega)
    obtain ⟨lB, hlB, _⟩ := trail_ex hF hP (z := n + b) (by omega) (by omega)
    have eA := far_is hlA
    have eB := far_is hlB
    have ga := rd_get fs ps ha
    have gb := rd_get fs ps hb
    refine List.ext_getElem? fun x => ?_
    by_cases hx : x < n
    · rw [rd_get _ ps hx]
      have fX := far_d hF hP (z := n + x) (by omega) (by omega)
      obtain ⟨lX, hlX, _⟩ := trail_ex hF hP (z := n + x) (by omega) (by omega)
      have eX := far_is hlX
      by_cases xa : x = a
      · subst xa
        rw [far_is tA, show [n + x, n + b].getLastD 0 - n = b by show n + b - n = b; omega]
        by_cases c : far fs ps n (n + x) - n = b
        · rw [jn_same (by rw [rd_get fs ps hx, c]), rd_get fs ps hx, c]
        · rw [jn_get hR hab ga gb c, if_pos rfl]
      · by_cases xb : x = b
        · subst xb
          rw [far_is tB, show [n + x, n + a].getLastD 0 - n = a by show n + a - n = a; omega]
          by_cases c : far fs ps n (n + a) - n = x
          · rw [jn_same (by rw [rd_get fs ps ha, c]), rd_get fs ps hx, show n + x = far fs ps n (n + a) by omega, fA.2.2.1, Nat.add_sub_cancel_left]
          · rw [jn_get hR hab ga gb c, if_neg (Ne.symm hab), if_pos rfl]
        · by_cases yA : far fs ps n (n + x) = n + a
          · -- the way of x came to a
            have e1 : far fs ps n (n + a) = n + x := by rw [← yA]; exact fX.2.2.1
            have e2 : far fs ps n (n + b) ≠ n + a := fun z => by
              have := fB.2.2.1
              rw [z, e1] at this; omega
            obtain ⟨k, k1, k2⟩ := Trail.over hP N1 hlB (by rw [← eB]; exact e2) (by rw [← eB]; exact fB.2.2.2) hlX (by omega) (by omega) (by rw [← eX]; exact yA)
            rw [far_is k1, k2, ← eB, jn_get hR hab ga gb (by omega), if_neg xa, if_neg xb, if_pos (by omega)]
          · by_cases yB : far fs ps n (n + x) = n + b
            · have e1 : far fs ps n (n + b) = n + x := by rw [← yB]; exact fX.2.2.1
              have e2 : far fs ps n (n + a) ≠ n + b := fun z => by
                have := fA.2.2.1
                rw [z, e1] at this; omega
              obtain ⟨k, k1, k2⟩ := Trail.over hP N2 hlA (by rw [← eA]; exact e2) (by rw [← eA]; exact fA.2.2.2) hlX (by omega) (by omega) (by rw [← eX]; exact yB)
              have e3 : far fs ps n (n + a) ≠ n + x := fun z => by
                have := fA.2.2.1
                rw [z, yB] at this; omega
              rw [far_is k1, k2, ← eA, jn_get hR hab ga gb (by omega), if_neg xa, if_neg xb, if_neg (by omega), if_pos (by omega)]
            · have t := hlX.near hP N1 (by omega) (by omega) (by rw [← eX]; exact yA) (by rw [← eX]; exact yB)
              rw [far_is t, ← eX, ← rd_get fs ps hx]
              by_cases c : far fs ps n (n + a) - n = b
              · rw [jn_same (by rw [rd_get fs ps ha, c])]
              · have e1 : far fs ps n (n + a) ≠ n + x := fun z => by
                  have := fA.2.2.1
                  rw [z] at this; exact yA this
                have e2 : far fs ps n (n + b) ≠ n + x := fun z => by
                  have := fB.2.2.1
                  rw [z] at this; exact yB this
                rw [jn_get hR hab ga gb c, if_neg xa, if_neg xb, if_neg (by omega), if_neg (by omega)]
    · rw [List.getElem?_eq_none (by rw [rd_len]; omega), List.getElem?_eq_none (by rw [jn_len, rd_len]; omega)]
end Pc
namespace Pc
theorem rd_emp {ps : List Nat} {n : Nat} (hn : 0 < n) (hP : IsPair n ps) : rd (emp n) ps n = ps := by
  refine List.ext_getElem? fun x => ?_
  by_cases hx : x < n
  · obtain ⟨h1, _, _, h4⟩ := hP.d hx
    have e1 : (emp n).getD (n + x) 0 = x := getD_of (emp_hi hx)
    have e2 : (emp n).getD (ps.getD x 0) 0 = n + ps.getD x 0 := getD_of (emp_lo h1)
    have t2 := Trail.stop (fs := emp n) (ps := ps) (n := n) (z := ps.getD x 0) (by rw [e2]; omega)
    have t := Trail.go (fs := emp n) (ps := ps) (n := n) (z := n + x) (by rw [e1]; exact hx) (by rw [e1]; exact t2)
    rw [rd_get _ ps hx, far_is t, h4]
    show some ((emp n).getD (ps.getD x 0) 0 - n) = _
    rw [e2, Nat.add_sub_cancel_left]
  · rw [List.getElem?_eq_none (by rw [rd_len]; omega), List.getElem?_eq_none (by rw [hP.len]; omega)]
theorem rd_runs {n : Nat} {ps : List Nat} (hP : IsPair n ps) : ∀ (qs : List (Nat × Nat)) {fs : List Nat}, IsPair (2 * n) fs → Calls n qs → rd (shw n qs fs) ps n = runs qs (rd fs ps n)
  | [], _, _, _ => rfl
  | q :: r, fs, hF, hc => by
    have h1 := hc q List.mem_cons_self
    have h2 := rd_runs hP r (jn_pair hF (a := n + q.1) (b := n + q.2) (by omega) (by omega) (by omega)) (fun x hx => hc x (List.mem_cons_of_mem _ hx))
    rw [rd_jn hF hP (by omega) (by omega) h1.2] at h2
    exact h2
/-- guarantee (a) -/
theorem rd_word {n : Nat} {ps : List Nat} {qs : List (Nat × Nat)} (hn : 0 < n) (hP : IsPair n ps) (hc : Calls n qs) : rd (shw n qs (emp n)) ps n = runs qs ps := by
  rw [rd_runs hP qs (emp_pair hn) hc, rd_emp hn hP]
end Pc
namespace Pc
/-! ### walks along layers: a layer of m upper and n lower ends joins them in pairs -/
section
variable {S Y : Type} (step : S → S ⊕ Y)
inductive Ends : S → Y → Prop
  | stop {s : S} {y : Y} : step s = .inr y → Ends s y
  | go {s t : S} {y : Y} : step s = .inl t → Ends t y → Ends s y
/-- where a walk is after i steps -/
def itr (s : S) : Nat → S
  | 0 => s
  | i + 1 => match step (itr s i) with
    | .inl t => t
    | .inr _ => itr s i
end
theorem Ends.det {S Y : Type} {step : S → S ⊕ Y} {s : S} {x y : Y} (h : Ends step s x) : Ends step s y → x = y := by
  induction h with
  | stop h1 => intro h; cases h with
    | stop h2 => rw [h1] at h2; exact Sum.inr.inj h2
    | go h2 _ => rw [h1] at h2; cases h2
  | go h1 _ ih => intro h; cases h with
    | stop h2 => rw [h1] at h2; cases h2
    | go h2 h3 => rw [h1] at h2; cases h2; exact ih h3
theorem itr_step {S Y : Type} {step : S → S ⊕ Y} {s t : S} (h : step s = .inl t) : ∀ i, itr step t i = itr step s (i + 1)
  | 0 => by show t = (match step s with | .inl t => t | .inr _ => s); rw [h]
  | i + 1 => by
    show (match step (itr step t i) with | .inl t => t | .inr _ => itr step t i) = (match step (itr step s (i + 1)) with | .inl t => t | .inr _ => itr step s (i + 1))
    rw [itr_step h i]
theorem itr_succ {S Y : Type} {step : S → S ⊕ Y} {s t : S} {i : Nat} (h : step (itr step s i) = .inl t) : itr step s (i + 1) = t := by
  show (match step (itr step s i) with | .inl t => t | .inr _ => itr step s i) = t
  rw [h]
theorem Ends.nth {S Y : Type} {step : S → S ⊕ Y} {s : S} {y : Y} (h : Ends step s y) : ∃ m, (∀ i, i < m → step (itr step s i) = .inl (itr step s (i + 1))) ∧ step (itr step s m) = .inr y := by
  induction h with
  | stop h => exact ⟨0, fun i hi => absurd hi (Nat.not_lt_zero _), h⟩
  | go h _ ih =>
    obtain ⟨m, h1, h2⟩ := ih
    refine ⟨m + 1, fun i hi => ?_, by rw [← itr_step h]; exact h2⟩
    cases i with
    | zero => rw [← itr_step h 0]; exact h
    | succ i =>
      have := h1 i (by omega)
      rw [itr_step h, itr_step h] at this; exact this
theorem ends_of {S Y : Type} {step : S → S ⊕ Y} : ∀ (m : Nat) (s : S) (y : Y), step (itr step s m) = .inr y → ∃ z, Ends step s z
  | 0, s, y, h => ⟨y, .stop h⟩
  | m + 1, s, y, h => by
    cases e : step s with
    | inr z => exact ⟨z, .stop e⟩
    | inl t =>
      obtain ⟨z, hz⟩ := ends_of m t y (by rw [itr_step e]; exact h)
      exact ⟨z, .go e hz⟩
/-- the step of a walk along a layer f, of m and n ends, and a layer g behind it -/
def cstep (f g : List Nat) (m n : Nat) : Bool × Nat → (Bool × Nat) ⊕ Nat
  | (true, z) => if f.getD z 0 < m then .inr (f.getD z 0) else .inl (false, f.getD z 0 - m)
  | (false, z) => if g.getD z 0 < n then .inl (true, m + g.getD z 0) else .inr (m + (g.getD z 0 - n))
def cst (m n e : Nat) : Bool × Nat := if e < m then (true, e) else (false, n + (e - m))
theorem cs_tl {f g : List Nat} {m n z : Nat} (h : f.getD z 0 < m) : cstep f g m n (true, z) = .inr (f.getD z 0) := if_pos h
theorem cs_tg {f g : List Nat} {m n z : Nat} (h : m ≤ f.getD z 0) : cstep f g m n (true, z) = .inl (false, f.getD z 0 - m) := if_neg (by omega)
theorem cs_fl {f g : List Nat} {m n z : Nat} (h : g.getD z 0 < n) : cstep f g m n (false, z) = .inl (true, m + g.getD z 0) := if_pos h
theorem cs_fg {f g : List Nat} {m n z : Nat} (h : n ≤ g.getD z 0) : cstep f g m n (false, z) = .inr (m + (g.getD z 0 - n)) := if_neg (by omega)
def opp (f g : List Nat) : Bool × Nat → Bool × Nat
  | (true, z) => (true, f.getD z 0)
  | (false, z) => (false, g.getD z 0)
/-- the states of a walk -/
def Val (m n k : Nat) : Bool × Nat → Prop
  | (true, z) => z < m + n
  | (false, z) => z < n + k
section
variable {f g : List Nat} {m n k : Nat} (hf : IsPair (m + n) f) (hg : IsPair (n + k) g)
include hf hg
theorem cs_val {s t : Bool × Nat} (hs : Val m n k s) (h : cstep f g m n s = .inl t) : Val m n k t ∧ (t = (true, t.2) ∧ m ≤ t.2 ∨ t = (false, t.2) ∧ t.2 < n) ∧ t.1 = !s.1 ∧ cstep f g m n (opp f g t) = .inl (opp f g s) := by
  obtain ⟨b, z⟩ := s
  cases b with
  | true =>
    have hz : z < m + n := hs
    by_cases c : f.getD z 0 < m
    · rw [cs_tl c] at h; cases h
    · rw [cs_tg (by omega)] at h
      cases h
      have := hf.d hz
      have hx : f.getD z 0 - m < n + k := by omega
      have gx := hg.d hx
      refine ⟨hx, .inr ⟨rfl, by show f.getD z 0 - m < n; omega⟩, rfl, ?_⟩
      show cstep f g m n (false, g.getD (f.getD z 0 - m) 0) = .inl (true, f.getD z 0)
      rw [cs_fl (by rw [gx.2.2.1]; omega), gx.2.2.1, show m + (f.getD z 0 - m) = f.getD z 0 by omega]
  | false =>
    have hz : z < n + k := hs
    by_cases c : g.getD z 0 < n
    · rw [cs_fl c] at h
      cases h
      have hx : m + g.getD z 0 < m + n := by omega
      have fx := hf.d hx
      refine ⟨hx, .inl ⟨rfl, by show m ≤ m + g.getD z 0; omega⟩, rfl, ?_⟩
      show cstep f g m n (true, f.getD (m + g.getD z 0) 0) = .inl (false, g.getD z 0)
      rw [cs_tg (by rw [fx.2.2.1]; omega), fx.2.2.1, show m + g.getD z 0 - m = g.getD z 0 by omega]
    · rw [cs_fg (by omega)] at h; cases h
theorem opp_opp {s : Bool × Nat} (hs : Val m n k s) : opp f g (opp f g s) = s ∧ opp f g s ≠ s ∧ (opp f g s).1 = s.1 ∧ Val m n k (opp f g s) := by
  obtain ⟨b, z⟩ := s
  cases b with
  | true =>
    have := hf.d (show z < m + n from hs)
    exact ⟨by show (true, f.getD (f.getD z 0) 0) = (true, z); rw [this.2.2.1], fun e => this.2.1 (congrArg Prod.snd e), rfl, this.1⟩
  | false =>
    have := hg.d (show z < n + k from hs)
    exact ⟨by show (false, g.getD (g.getD z 0) 0) = (false, z); rw [this.2.2.1], fun e => this.2.1 (congrArg Prod.snd e), rfl, this.1⟩
theorem cs_inj {s t u : Bool × Nat} (hs : Val m n k s) (ht : Val m n k t) (h1 : cstep f g m n s = .inl u) (h2 : cstep f g m n t = .inl u) : s = t := by
  have a := (cs_val hf hg hs h1).2.2.2
  have b := (cs_val hf hg ht h2).2.2.2
  rw [a] at b
  have e : opp f g s = opp f g t := Sum.inl.inj b
  rw [← (opp_opp hf hg hs).1, e, (opp_opp hf hg ht).1]
theorem cs_end {s : Bool × Nat} {y : Nat} (hs : Val m n k s) (h : cstep f g m n s = .inr y) : cst m n y = opp f g s ∧ y < m + k := by
  obtain ⟨b, z⟩ := s
  cases b with
  | true =>
    by_cases c : f.getD z 0 < m
    · rw [cs_tl c] at h; cases h
      refine ⟨?_, by omega⟩
      unfold cst; rw [if_pos c]; rfl
    · rw [cs_tg (by omega)] at h; cases h
  | false =>
    have := hg.d (show z < n + k from hs)
    by_cases c : g.getD z 0 < n
    · rw [cs_fl c] at h; cases h
    · rw [cs_fg (by omega)] at h; cases h
      refine ⟨?_, by omega⟩
      unfold cst; rw [if_neg (by omega), show n + (m + (g.getD z 0 - n) - m) = g.getD z 0 by omega]; rfl
theorem cst_val {e : Nat} (he : e < m + k) : Val m n k (cst m n e) ∧ cstep f g m n (opp f g (cst m n e)) = .inr e := by
  unfold cst
  by_cases c : e < m
  · rw [if_pos c]
    have := hf.d (show e < m + n by omega)
    refine ⟨show e < m + n by omega, ?_⟩
    show cstep f g m n (true, f.getD e 0) = .inr e
    rw [cs_tl (by rw [this.2.2.1]; exact c), this.2.2.1]
  · rw [if_neg c]
    have := hg.d (show n + (e - m) < n + k by omega)
    refine ⟨show n + (e - m) < n + k by omega, ?_⟩
    show cstep f g m n (false, g.getD (n + (e - m)) 0) = .inr e
    rw [cs_fg (by rw [this.2.2.1]; omega), this.2.2.1, show m + (n + (e - m) - n) = e by omega]
theorem cs_out {e : Nat} (he : e < m + k) {s : Bool × Nat} (hs : Val m n k s) : cstep f g m n s ≠ .inl (cst m n e) := fun h => by
  have h1 := (cs_val hf hg hs h).2.2.2
  rw [(cst_val hf hg he).2] at h1
  cases h1
theorem walk_ends {e : Nat} (he : e < m + k) : ∃ y, Ends (cstep f g m n) (cst m n e) y := by
  apply Classical.byContradiction
  intro hn
  have go : ∀ i, cstep f g m n (itr (cstep f g m n) (cst m n e) i) = .inl (itr (cstep f g m n) (cst m n e) (i + 1)) := fun i => by
    cases h : cstep f g m n (itr (cstep f g m n) (cst m n e) i) with
    | inr y => exact absurd (ends_of i _ y h) hn
    | inl t => rw [itr_succ h]
  have val : ∀ i, Val m n k (itr (cstep f g m n) (cst m n e) i) := fun i => by
    induction i with
    | zero => exact (cst_val hf hg he).1
    | succ i ih => exact (cs_val hf hg ih (go i)).1
  have diff : ∀ i j, i < j → itr (cstep f g m n) (cst m n e) i ≠ itr (cstep f g m n) (cst m n e) j := fun i => by
    induction i with
    | zero =>
      intro j hj h
      cases j with
      | zero => omega
      | succ j => exact cs_out hf hg he (val j) ((go j).trans (congrArg Sum.inl h.symm))
    | succ i ih =>
      intro j hj h
      cases j with
      | zero => omega
      | succ j => exact ih j (by omega) (cs_inj hf hg (val i) (val j) (go i) ((go j).trans (congrArg Sum.inl h.symm)))
  let code : Bool × Nat → Nat := fun s => if s.1 = true then s.2 - m else n + s.2
  obtain ⟨i, j, h1, h2, h3⟩ := pigeon (2 * n) (fun i => code (itr (cstep f g m n) (cst m n e) (i + 1))) (fun i _ => by
    have v := val (i + 1)
    have := (cs_val hf hg (val i) (go i)).2.1
    generalize itr (cstep f g m n) (cst m n e) (i + 1) = s at v this
    obtain ⟨b, z⟩ := s
    cases b with
    | true =>
      rcases this with h | h
      · have hv : z < m + n := v
        have hz : m ≤ z := h.2
        show (if true = true then z - m else n + z) < 2 * n
        rw [if_pos rfl]; omega
      · cases h.1
    | false =>
      rcases this with h | h
      · cases h.1
      · have hz : z < n := h.2
        show (if false = true then z - m else n + z) < 2 * n
        rw [if_neg Bool.false_ne_true]; omega)
  refine diff (i + 1) (j + 1) (by omega) ?_
  have v1 := (cs_val hf hg (val i) (go i)).2.1
  have v2 := (cs_val hf hg (val j) (go j)).2.1
  have w1 := val (i + 1)
  have w2 := val (j + 1)
  have h3' : code (itr (cstep f g m n) (cst m n e) (i + 1)) = code (itr (cstep f g m n) (cst m n e) (j + 1)) := h3
  clear h3 diff val go hn
  generalize itr (cstep f g m n) (cst m n e) (i + 1) = s at v1 h3' w1
  generalize itr (cstep f g m n) (cst m n e) (j + 1) = t at v2 h3' w2
  obtain ⟨b, z⟩ := s
  obtain ⟨b', z'⟩ := t
  have T : ∀ z, code (true, z) = z - m := fun z => if_pos rfl
  have F : ∀ z, code (false, z) = n + z := fun z => if_neg Bool.false_ne_true
  cases b <;> cases b'
  · rw [F, F] at h3'
    have : z = z' := by omega
    rw [this]
  · rw [F, T] at h3'
    rcases v2 with h | h
    · have : z' < m + n := w2
      have : m ≤ z' := h.2
      omega
    · cases h.1
  · rw [T, F] at h3'
    rcases v1 with h | h
    · have : z < m + n := w1
      have : m ≤ z := h.2
      omega
    · cases h.1
  · rw [T, T] at h3'
    rcases v1 with h | h
    · rcases v2 with h' | h'
      · have : m ≤ z := h.2
        have : m ≤ z' := h'.2
        have : z = z' := by omega
        rw [this]
      · cases h'.1
    · cases h.1
theorem ends_back {s : Bool × Nat} {y : Nat} (h : Ends (cstep f g m n) s y) : Val m n k s → y < m + k ∧ ∀ y0, Ends (cstep f g m n) (opp f g s) y0 → Ends (cstep f g m n) (cst m n y) y0 := by
  induction h with
  | stop h1 =>
    intro hs
    have := cs_end hf hg hs h1
    exact ⟨this.2, fun y0 h0 => by rw [this.1]; exact h0⟩
  | go h1 _ ih =>
    intro hs
    obtain ⟨v1, _, _, v2⟩ := cs_val hf hg hs h1
    obtain ⟨i1, i2⟩ := ih v1
    exact ⟨i1, fun y0 h0 => i2 y0 (.go v2 h0)⟩
theorem ends_inv {e y : Nat} (he : e < m + k) (h : Ends (cstep f g m n) (cst m n e) y) : y < m + k ∧ Ends (cstep f g m n) (cst m n y) e ∧ y ≠ e := by
  obtain ⟨v, o⟩ := cst_val hf hg he
  obtain ⟨h1, h2⟩ := ends_back hf hg h v
  refine ⟨h1, h2 e (.stop o), fun c => ?_⟩
  subst c
  obtain ⟨t, g1, g2⟩ := h.nth
  have val : ∀ i, i ≤ t → Val m n k (itr (cstep f g m n) (cst m n y) i) := fun i => by
    induction i with
    | zero => exact fun _ => v
    | succ i ih => exact fun hi => (cs_val hf hg (ih (by omega)) (g1 i (by omega))).1
  have mir : ∀ j, j ≤ t → opp f g (itr (cstep f g m n) (cst m n y) (t - j)) = itr (cstep f g m n) (cst m n y) j := fun j => by
    induction j with
    | zero => intro _; exact (cs_end hf hg (val t (Nat.le_refl _)) g2).1.symm
    | succ j ih =>
      intro hj
      have a1 := ih (by omega)
      have a2 := g1 (t - (j + 1)) (by omega)
      rw [show t - (j + 1) + 1 = t - j by omega] at a2
      have a3 := (cs_val hf hg (val _ (by omega)) a2).2.2.2
      rw [a1, g1 j (by omega)] at a3
      exact (Sum.inl.inj a3).symm
  by_cases p : t % 2 = 0
  · have := mir (t / 2) (by omega)
    rw [show t - t / 2 = t / 2 by omega] at this
    exact (opp_opp hf hg (val (t / 2) (by omega))).2.1 this
  · have a := mir (t / 2) (by omega)
    rw [show t - t / 2 = t / 2 + 1 by omega] at a
    have b := (opp_opp hf hg (val (t / 2 + 1) (by omega))).2.2.1
    have c := (cs_val hf hg (val (t / 2) (by omega)) (g1 (t / 2) (by omega))).2.2.1
    rw [a] at b
    rw [← b] at c
    exact absurd c (by cases (itr (cstep f g m n) (cst m n y) (t / 2)).1 <;> decide)
end
/-- two layers one behind the other -/
noncomputable def cfar (f g : List Nat) (m n e : Nat) : Nat := open Classical in if h : ∃ y, Ends (cstep f g m n) (cst m n e) y then h.choose else 0
noncomputable def cmp (f g : List Nat) (m n k : Nat) : List Nat := (List.range (m + k)).map fun e => cfar f g m n e
theorem cfar_is {f g : List Nat} {m n e y : Nat} (h : Ends (cstep f g m n) (cst m n e) y) : cfar f g m n e = y := by
  unfold cfar
  rw [dif_pos ⟨y, h⟩]
  exact (Exists.choose_spec (⟨y, h⟩ : ∃ y, Ends (cstep f g m n) (cst m n e) y)).det h
theorem cmp_len (f g : List Nat) (m n k : Nat) : (cmp f g m n k).length = m + k := by unfold cmp; rw [List.length_map, List.length_range]
theorem cmp_get (f g : List Nat) {m n k e : Nat} (h : e < m + k) : (cmp f g m n k)[e]? = some (cfar f g m n e) := by unfold cmp; rw [List.getElem?_map, List.getElem?_range h]; rfl
theorem cmp_d (f g : List Nat) {m n k e : Nat} (h : e < m + k) : (cmp f g m n k).getD e 0 = cfar f g m n e := by
  rw [List.getD_eq_getElem?_getD, cmp_get f g h]; rfl
theorem cmp_ends {f g : List Nat} {m n k e : Nat} (hf : IsPair (m + n) f) (hg : IsPair (n + k) g) (he : e < m + k) : Ends (cstep f g m n) (cst m n e) ((cmp f g m n k).getD e 0) := by
  obtain ⟨y, h⟩ := walk_ends hf hg he
  rw [cmp_d f g he, cfar_is h]; exact h
theorem cmp_pair {f g : List Nat} {m n k : Nat} (hf : IsPair (m + n) f) (hg : IsPair (n + k) g) : IsPair (m + k) (cmp f g m n k) := by
  refine ⟨cmp_len .., fun e he => ?_⟩
  obtain ⟨y, h⟩ := walk_ends hf hg he
  obtain ⟨h1, h2, h3⟩ := ends_inv hf hg he h
  exact ⟨y, by rw [cmp_get f g he, cfar_is h], h1, h3, by rw [cmp_get f g h1, cfar_is h2]⟩
theorem cmp_ext {f g x : List Nat} {m n k : Nat} (hx : x.length = m + k) (h : ∀ e, e < m + k → Ends (cstep f g m n) (cst m n e) (x.getD e 0)) : cmp f g m n k = x := by
  refine List.ext_getElem? fun e => ?_
  by_cases he : e < m + k
  · rw [cmp_get f g he, cfar_is (h e he), List.getD_eq_getElem?_getD, List.getElem?_eq_getElem (by omega)]; rfl
  · rw [List.getElem?_eq_none (by rw [cmp_len]; omega), List.getElem?_eq_none (by omega)]
end Pc
namespace Pc
/-! ### three layers -/
def step3 (f g h : List Nat) (m n k : Nat) : Nat × Nat → (Nat × Nat) ⊕ Nat
  | (0, z) => if f.getD z 0 < m then .inr (f.getD z 0) else .inl (1, f.getD z 0 - m)
  | (1, z) => if g.getD z 0 < n then .inl (0, m + g.getD z 0) else .inl (2, g.getD z 0 - n)
  | (_, z) => if h.getD z 0 < k then .inl (1, n + h.getD z 0) else .inr (m + (h.getD z 0 - k))
section
variable {f g h : List Nat} {m n k l : Nat}
/-- the first two -/
def em1 : Bool × Nat → Nat × Nat
  | (true, z) => (0, z)
  | (false, z) => (1, z)
theorem first_two {s : Bool × Nat} {e : Nat} (w : Ends (cstep f g m n) s e) : (e < m → Ends (step3 f g h m n k) (em1 s) e) ∧ (m ≤ e → ∀ y, Ends (step3 f g h m n k) (2, e - m) y → Ends (step3 f g h m n k) (em1 s) y) := by
  induction w with
  | @stop s e h1 =>
    obtain ⟨b, z⟩ := s
    cases b with
    | true =>
      by_cases c : f.getD z 0 < m
      · rw [cs_tl c] at h1; cases h1
        exact ⟨fun _ => .stop (if_pos c), fun q => absurd c (by omega)⟩
      · rw [cs_tg (by omega)] at h1; cases h1
    | false =>
      by_cases c : g.getD z 0 < n
      · rw [cs_fl c] at h1; cases h1
      · rw [cs_fg (by omega)] at h1; cases h1
        refine ⟨fun q => by omega, fun _ y hy => .go (t := (2, g.getD z 0 - n)) (if_neg c) ?_⟩
        rw [show m + (g.getD z 0 - n) - m = g.getD z 0 - n by omega] at hy
        exact hy
  | @go s t e h1 _ ih =>
    have st : step3 f g h m n k (em1 s) = .inl (em1 t) := by
      obtain ⟨b, z⟩ := s
      cases b with
      | true =>
        by_cases c : f.getD z 0 < m
        · rw [cs_tl c] at h1; cases h1
        · rw [cs_tg (by omega)] at h1; cases h1
          exact if_neg c
      | false =>
        by_cases c : g.getD z 0 < n
        · rw [cs_fl c] at h1; cases h1
          exact if_pos c
        · rw [cs_fg (by omega)] at h1; cases h1
    exact ⟨fun q => .go st (ih.1 q), fun q y hy => .go st (ih.2 q y hy)⟩
/-- the last two -/
def em2 : Bool × Nat → Nat × Nat
  | (true, z) => (1, z)
  | (false, z) => (2, z)
theorem last_two {s : Bool × Nat} {e : Nat} (w : Ends (cstep g h n k) s e) : (n ≤ e → Ends (step3 f g h m n k) (em2 s) (m + (e - n))) ∧ (e < n → ∀ y, Ends (step3 f g h m n k) (0, m + e) y → Ends (step3 f g h m n k) (em2 s) y) := by
  induction w with
  | @stop s e h1 =>
    obtain ⟨b, z⟩ := s
    cases b with
    | true =>
      by_cases c : g.getD z 0 < n
      · rw [cs_tl c] at h1; cases h1
        exact ⟨fun q => absurd c (by omega), fun _ y hy => .go (t := (0, m + g.getD z 0)) (if_pos c) hy⟩
      · rw [cs_tg (by omega)] at h1; cases h1
    | false =>
      by_cases c : h.getD z 0 < k
      · rw [cs_fl c] at h1; cases h1
      · rw [cs_fg (by omega)] at h1; cases h1
        refine ⟨fun _ => .stop ?_, fun q => by omega⟩
        rw [show m + (n + (h.getD z 0 - k) - n) = m + (h.getD z 0 - k) by omega]
        exact if_neg c
  | @go s t e h1 _ ih =>
    have st : step3 f g h m n k (em2 s) = .inl (em2 t) := by
      obtain ⟨b, z⟩ := s
      cases b with
      | true =>
        by_cases c : g.getD z 0 < n
        · rw [cs_tl c] at h1; cases h1
        · rw [cs_tg (by omega)] at h1; cases h1
          exact if_neg c
      | false =>
        by_cases c : h.getD z 0 < k
        · rw [cs_fl c] at h1; cases h1
          exact if_pos c
        · rw [cs_fg (by omega)] at h1; cases h1
    exact ⟨fun q => .go st (ih.1 q), fun q y hy => .go st (ih.2 q y hy)⟩
def em3 (m n : Nat) : Bool × Nat → Nat × Nat
  | (true, z) => if z < m then (0, z) else (1, n + (z - m))
  | (false, z) => (2, z)
def em4 (n k : Nat) : Bool × Nat → Nat × Nat
  | (true, z) => (0, z)
  | (false, z) => if z < n then (1, z) else (2, k + (z - n))
theorem em3_cst (z : Nat) : em3 m n (true, z) = em1 (cst m n z) := by
  unfold cst
  by_cases c : z < m
  · rw [if_pos c]; exact if_pos c
  · rw [if_neg c]; exact if_neg c
theorem em4_cst (z : Nat) : em4 n k (false, z) = em2 (cst n k z) := by
  unfold cst
  by_cases c : z < n
  · rw [if_pos c]; exact if_pos c
  · rw [if_neg c]; exact if_neg c
theorem left_three (hf : IsPair (m + n) f) (hg : IsPair (n + k) g) (hh : IsPair (k + l) h) {s : Bool × Nat} {y : Nat} (w : Ends (cstep (cmp f g m n k) h m k) s y) : Val m k l s → Ends (step3 f g h m n k) (em3 m n s) y := by
  have hfg := cmp_pair hf hg
  induction w with
  | @stop s e h1 =>
    intro hs
    obtain ⟨b, z⟩ := s
    cases b with
    | true =>
      have W := first_two (h := h) (k := k) (cmp_ends hf hg (show z < m + k from hs))
      by_cases c : (cmp f g m n k).getD z 0 < m
      · rw [cs_tl c] at h1; cases h1
        rw [em3_cst]; exact W.1 c
      · rw [cs_tg (by omega)] at h1; cases h1
    | false =>
      by_cases c : h.getD z 0 < k
      · rw [cs_fl c] at h1; cases h1
      · rw [cs_fg (by omega)] at h1; cases h1
        exact .stop (if_neg c)
  | @go s t e h1 _ ih =>
    intro hs
    have ht := (cs_val hfg hh hs h1).1
    obtain ⟨b, z⟩ := s
    cases b with
    | true =>
      have W := first_two (h := h) (k := k) (cmp_ends hf hg (show z < m + k from hs))
      by_cases c : (cmp f g m n k).getD z 0 < m
      · rw [cs_tl c] at h1; cases h1
      · rw [cs_tg (by omega)] at h1; cases h1
        rw [em3_cst]; exact W.2 (by omega) _ (ih ht)
    | false =>
      by_cases c : h.getD z 0 < k
      · rw [cs_fl c] at h1; cases h1
        refine .go (t := (1, n + h.getD z 0)) (if_pos c) ?_
        have q := ih ht
        have e : em3 m n (true, m + h.getD z 0) = (1, n + h.getD z 0) := by
          show (if m + h.getD z 0 < m then _ else _) = _
          rw [if_neg (by omega), show m + h.getD z 0 - m = h.getD z 0 by omega]
        rw [e] at q; exact q
      · rw [cs_fg (by omega)] at h1; cases h1
theorem right_three (hf : IsPair (m + n) f) (hg : IsPair (n + k) g) (hh : IsPair (k + l) h) {s : Bool × Nat} {y : Nat} (w : Ends (cstep f (cmp g h n k l) m n) s y) : Val m n l s → Ends (step3 f g h m n k) (em4 n k s) y := by
  have hgh := cmp_pair hg hh
  induction w with
  | @stop s e h1 =>
    intro hs
    obtain ⟨b, z⟩ := s
    cases b with
    | true =>
      by_cases c : f.getD z 0 < m
      · rw [cs_tl c] at h1; cases h1
        exact .stop (if_pos c)
      · rw [cs_tg (by omega)] at h1; cases h1
    | false =>
      have W := last_two (f := f) (m := m) (cmp_ends hg hh (show z < n + l from hs))
      by_cases c : (cmp g h n k l).getD z 0 < n
      · rw [cs_fl c] at h1; cases h1
      · rw [cs_fg (by omega)] at h1; cases h1
        rw [em4_cst]; exact W.1 (by omega)
  | @go s t e h1 _ ih =>
    intro hs
    have ht := (cs_val hf hgh hs h1).1
    obtain ⟨b, z⟩ := s
    cases b with
    | true =>
      by_cases c : f.getD z 0 < m
      · rw [cs_tl c] at h1; cases h1
      · rw [cs_tg (by omega)] at h1; cases h1
        refine .go (t := (1, f.getD z 0 - m)) (if_neg c) ?_
        have q := ih ht
        have fz := hf.d (show z < m + n from hs)
        have e : em4 n k (false, f.getD z 0 - m) = (1, f.getD z 0 - m) := if_pos (by omega)
        rw [e] at q; exact q
    | false =>
      have W := last_two (f := f) (m := m) (cmp_ends hg hh (show z < n + l from hs))
      by_cases c : (cmp g h n k l).getD z 0 < n
      · rw [cs_fl c] at h1; cases h1
        rw [em4_cst]; exact W.2 c _ (ih ht)
      · rw [cs_fg (by omega)] at h1; cases h1
/-- the order of joining does not matter -/
theorem cmp_assoc (hf : IsPair (m + n) f) (hg : IsPair (n + k) g) (hh : IsPair (k + l) h) : cmp (cmp f g m n k) h m k l = cmp f (cmp g h n k l) m n l := by
  have hfg := cmp_pair hf hg
  have hgh := cmp_pair hg hh
  refine cmp_ext (by rw [cmp_len]) fun e he => ?_
  obtain ⟨y, w⟩ := walk_ends hfg hh he
  have a := left_three hf hg hh w (cst_val hfg hh he).1
  have b := right_three hf hg hh (cmp_ends hf hgh he) (cst_val hf hgh he).1
  have e1 : em3 m n (cst m k e) = em4 n k (cst m n e) := by
    unfold cst
    by_cases c : e < m
    · rw [if_pos c, if_pos c]; exact if_pos c
    · rw [if_neg c, if_neg c]
      show (2, k + (e - m)) = if n + (e - m) < n then _ else _
      rw [if_neg (by omega), show n + (e - m) - n = e - m by omega]
  rw [e1] at a
  rw [← a.det b]; exact w
end
/-! ### what is read is a layer behind a pairing -/
theorem trail_ends {fs ps : List Nat} {n z : Nat} {l : List Nat} (hP : IsPair n ps) (h : Trail fs ps n z l) : Ends (cstep ps fs 0 n) (false, z) (l.getLastD 0 - n) := by
  induction h with
  | @stop z h1 =>
    have := cs_fg (f := ps) (g := fs) (m := 0) (n := n) (z := z) h1
    rw [Nat.zero_add] at this
    exact .stop this
  | @go z l h1 h2 ih =>
    have a := cs_fl (f := ps) (g := fs) (m := 0) (n := n) (z := z) h1
    rw [Nat.zero_add] at a
    have b := cs_tg (f := ps) (g := fs) (m := 0) (n := n) (z := fs.getD z 0) (Nat.zero_le _)
    rw [Nat.sub_zero] at b
    rw [lastc h2.len.1]
    exact .go a (.go b ih)
theorem rd_cmp {fs ps : List Nat} {n : Nat} (hF : IsPair (2 * n) fs) (hP : IsPair n ps) : rd fs ps n = cmp ps fs 0 n n := by
  refine (cmp_ext (by rw [rd_len, Nat.zero_add]) fun e he => ?_).symm
  obtain ⟨l, h1, _⟩ := trail_ex hF hP (z := n + e) (by omega) (by omega)
  have := trail_ends hP h1
  rw [← far_is h1] at this
  have e1 : (rd fs ps n).getD e 0 = far fs ps n (n + e) - n := by
    rw [List.getD_eq_getElem?_getD, rd_get fs ps (by omega)]; rfl
  rw [e1]
  unfold cst
  rw [if_neg (Nat.not_lt_zero _), Nat.sub_zero]
  exact this
/-! ### a call added to the second layer -/
section
variable {f g g' : List Nat} {m n k A B c d : Nat}
theorem Ends.near (hf : IsPair (m + n) f) (hg : IsPair (n + k) g) (hN : Near g g' n A B c d) {s : Bool × Nat} {y : Nat} (w : Ends (cstep f g m n) s y) : Val m n k s → s ≠ (false, A) → s ≠ (false, B) → y ≠ m + (A - n) → y ≠ m + (B - n) → Ends (cstep f g' m n) s y := by
  have la := hN.la
  have lb := hN.lb
  induction w with
  | @stop s y h1 =>
    intro vs s1 s2 y1 y2
    obtain ⟨b, z⟩ := s
    cases b with
    | true =>
      by_cases q : f.getD z 0 < m
      · rw [cs_tl q] at h1; cases h1; exact .stop (cs_tl q)
      · rw [cs_tg (by omega)] at h1; cases h1
    | false =>
      by_cases q : g.getD z 0 < n
      · rw [cs_fl q] at h1; cases h1
      · rw [cs_fg (by omega)] at h1; cases h1
        have e : g'.getD z 0 = g.getD z 0 := hN.eq z (fun e => s1 (by rw [e])) (fun e => s2 (by rw [e])) (fun e => y1 (by rw [e, hN.fc])) (fun e => y2 (by rw [e, hN.fd]))
        have := cs_fg (f := f) (g := g') (m := m) (n := n) (z := z) (by rw [e]; omega)
        rw [e] at this; exact .stop this
  | @go s t y h1 _ ih =>
    intro vs s1 s2 y1 y2
    have cv := cs_val hf hg vs h1
    obtain ⟨b, z⟩ := s
    cases b with
    | true =>
      by_cases q : f.getD z 0 < m
      · rw [cs_tl q] at h1; cases h1
      · rw [cs_tg (by omega)] at h1; cases h1
        have hz := (hf.d (show z < m + n from vs)).1
        exact .go (cs_tg (by omega)) (ih cv.1 (fun h => by have := congrArg Prod.snd h; have e : f.getD z 0 - m = A := this; omega) (fun h => by have := congrArg Prod.snd h; have e : f.getD z 0 - m = B := this; omega) y1 y2)
    | false =>
      by_cases q : g.getD z 0 < n
      · rw [cs_fl q] at h1; cases h1
        have e : g'.getD z 0 = g.getD z 0 := hN.eq z (fun e => s1 (by rw [e])) (fun e => s2 (by rw [e])) (fun e => by rw [e, hN.fc] at q; omega) (fun e => by rw [e, hN.fd] at q; omega)
        have := cs_fl (f := f) (g := g') (m := m) (n := n) (z := z) (by rw [e]; exact q)
        rw [e] at this
        exact .go this (ih cv.1 (fun h => by cases h) (fun h => by cases h) y1 y2)
      · rw [cs_fg (by omega)] at h1; cases h1
theorem Ends.over (hf : IsPair (m + n) f) (hg : IsPair (n + k) g) (hN : Near g g' n A B c d) (hB : B < n + k) {y' : Nat} (wB : Ends (cstep f g m n) (false, B) y') (yA : y' ≠ m + (A - n)) (yB : y' ≠ m + (B - n)) {s : Bool × Nat} {y : Nat} (w : Ends (cstep f g m n) s y) :
    Val m n k s → s ≠ (false, A) → s ≠ (false, B) → y = m + (A - n) → Ends (cstep f g' m n) s y' := by
  have la := hN.la
  have lb := hN.lb
  have fb := hN.fb
  induction w with
  | @stop s y h1 =>
    intro vs s1 s2 y1
    obtain ⟨b, z⟩ := s
    cases b with
    | true =>
      by_cases q : f.getD z 0 < m
      · rw [cs_tl q] at h1; cases h1; omega
      · rw [cs_tg (by omega)] at h1; cases h1
    | false =>
      by_cases q : g.getD z 0 < n
      · rw [cs_fl q] at h1; cases h1
      · rw [cs_fg (by omega)] at h1; cases h1
        have zc : z = c := hN.un z (by omega)
        subst zc
        -- the way of B goes on from here
        cases wB with
        | stop h2 =>
          by_cases p : g.getD B 0 < n
          · rw [cs_fl p] at h2; cases h2
          · rw [cs_fg (by omega)] at h2; cases h2
            have := cs_fg (f := f) (g := g') (m := m) (n := n) (z := z) (by rw [hN.gc, ← fb]; omega)
            rw [hN.gc, ← fb] at this; exact .stop this
        | @go _ t _ h2 h3 =>
          have cv := cs_val hf hg (show Val m n k (false, B) from hB) h2
          by_cases p : g.getD B 0 < n
          · rw [cs_fl p] at h2; cases h2
            have := cs_fl (f := f) (g := g') (m := m) (n := n) (z := z) (by rw [hN.gc, ← fb]; exact p)
            rw [hN.gc, ← fb] at this
            exact .go this (h3.near hf hg hN cv.1 (fun h => by cases h) (fun h => by cases h) yA yB)
          · rw [cs_fg (by omega)] at h2; cases h2
  | @go s t y h1 _ ih =>
    intro vs s1 s2 y1
    have cv := cs_val hf hg vs h1
    obtain ⟨b, z⟩ := s
    cases b with
    | true =>
      by_cases q : f.getD z 0 < m
      · rw [cs_tl q] at h1; cases h1
      · rw [cs_tg (by omega)] at h1; cases h1
        have hz := (hf.d (show z < m + n from vs)).1
        exact .go (cs_tg (by omega)) (ih cv.1 (fun h => by have := congrArg Prod.snd h; have e : f.getD z 0 - m = A := this; omega) (fun h => by have := congrArg Prod.snd h; have e : f.getD z 0 - m = B := this; omega) y1)
    | false =>
      by_cases q : g.getD z 0 < n
      · rw [cs_fl q] at h1; cases h1
        have e : g'.getD z 0 = g.getD z 0 := hN.eq z (fun e => s1 (by rw [e])) (fun e => s2 (by rw [e])) (fun e => by rw [e, hN.fc] at q; omega) (fun e => by rw [e, hN.fd] at q; omega)
        have := cs_fl (f := f) (g := g') (m := m) (n := n) (z := z) (by rw [e]; exact q)
        rw [e] at this
        exact .go this (ih cv.1 (fun h => by cases h) (fun h => by cases h) y1)
      · rw [cs_fg (by omega)] at h1; cases h1
end
/-- a call at the lower ends of the second layer is one at the lower ends of both -/
theorem cmp_jn {f g : List Nat} {m n k a b : Nat} (hn : k = n) (h0 : 0 < n) (hf : IsPair (m + n) f) (hg : IsPair (n + k) g) (hab : a ≠ b) (ha : a < k) (hb : b < k) : cmp f (jn g (n + a) (n + b)) m n k = jn (cmp f g m n k) (m + a) (m + b) := by
  subst hn
  have hR := cmp_pair hf hg
  have hg2 : IsPair (2 * k) g := by rw [show 2 * k = k + k by omega]; exact hg
  by_cases hc : g.getD (k + a) 0 = k + b
  · rw [jn_same (hg.ofd (by omega) hc)]
    have w : Ends (cstep f g m k) (cst m k (m + a)) (m + b) := by
      have := cs_fg (f := f) (g := g) (m := m) (n := k) (z := k + a) (by rw [hc]; omega)
      rw [hc, show k + b - k = b by omega] at this
      unfold cst
      rw [if_neg (by omega), show m + a - m = a by omega]
      exact .stop this
    refine (jn_same ?_).symm
    rw [cmp_get f g (by omega), cfar_is w]
  · obtain ⟨N1, N2, gA, gB⟩ := jn_near hg2 (A := k + a) (B := k + b) (by omega) (by omega) (by omega) (by omega) (by omega) hc
    have hg' : IsPair (k + k) (jn g (k + a) (k + b)) := jn_pair hg (by omega) (by omega) (by omega)
    have ga := hR.d (show m + a < m + k by omega)
    have gb := hR.d (show m + b < m + k by omega)
    have sA : cst m k (m + a) = (false, k + a) := by unfold cst; rw [if_neg (by omega), show m + a - m = a by omega]
    have sB : cst m k (m + b) = (false, k + b) := by unfold cst; rw [if_neg (by omega), show m + b - m = b by omega]
    have wA := cmp_ends hf hg (show m + a < m + k by omega)
    have wB := cmp_ends hf hg (show m + b < m + k by omega)
    have JS : (cmp f g m k k).getD (m + a) 0 = m + b → jn (cmp f g m k k) (m + a) (m + b) = cmp f g m k k := fun c => jn_same (hR.ofd (by omega) c)
    rw [sA] at wA
    rw [sB] at wB
    refine cmp_ext (by rw [jn_len, cmp_len]) fun e he => ?_
    have G : ∀ {v : Nat}, (jn (cmp f g m k k) (m + a) (m + b))[e]? = some v → (jn (cmp f g m k k) (m + a) (m + b)).getD e 0 = v := fun h => getD_of h
    have we := cmp_ends hf hg he
    have ve := (cst_val hf hg he).1
    have ge := hR.d he
    have ne : ∀ {x : Nat}, x < k → e ≠ m + x → cst m k e ≠ (false, k + x) := fun {x} hx h z => by
      unfold cst at z
      by_cases c : e < m
      · rw [if_pos c] at z; cases z
      · rw [if_neg c] at z
        have : k + (e - m) = k + x := congrArg Prod.snd z
        omega
    by_cases ea : e = m + a
    · subst ea
      have w : Ends (cstep f (jn g (k + a) (k + b)) m k) (cst m k (m + a)) (m + b) := by
        have := cs_fg (f := f) (g := jn g (k + a) (k + b)) (m := m) (n := k) (z := k + a) (by rw [gA]; omega)
        rw [gA, show k + b - k = b by omega] at this
        rw [sA]; exact .stop this
      by_cases c : (cmp f g m k k).getD (m + a) 0 = m + b
      · rw [JS c, c]; exact w
      · rw [G (by rw [jn_get hR (by omega) ga.2.2.2 gb.2.2.2 c, if_pos rfl])]; exact w
    · by_cases eb : e = m + b
      · subst eb
        have w : Ends (cstep f (jn g (k + a) (k + b)) m k) (cst m k (m + b)) (m + a) := by
          have := cs_fg (f := f) (g := jn g (k + a) (k + b)) (m := m) (n := k) (z := k + b) (by rw [gB]; omega)
          rw [gB, show k + a - k = a by omega] at this
          rw [sB]; exact .stop this
        by_cases c : (cmp f g m k k).getD (m + a) 0 = m + b
        · rw [JS c, show (cmp f g m k k).getD (m + b) 0 = m + a by rw [← c]; exact ga.2.2.1]; exact w
        · rw [G (by rw [jn_get hR (by omega) ga.2.2.2 gb.2.2.2 c, if_neg (by omega), if_pos rfl])]; exact w
      · have s1 := ne ha ea
        have s2 := ne hb eb
        by_cases yA : (cmp f g m k k).getD e 0 = m + a
        · have e1 : (cmp f g m k k).getD (m + a) 0 = e := by rw [← yA]; exact ge.2.2.1
          have e2 : (cmp f g m k k).getD (m + b) 0 ≠ m + a := fun z => by
            have := gb.2.2.1
            rw [z, e1] at this; omega
          have w := Ends.over hf hg N1 (by omega) wB (by rw [show k + a - k = a by omega]; exact e2) (by rw [show k + b - k = b by omega]; exact gb.2.1) we ve s1 s2 (by rw [show k + a - k = a by omega]; exact yA)
          rw [G (by rw [jn_get hR (by omega) ga.2.2.2 gb.2.2.2 (by rw [e1]; omega), if_neg ea, if_neg eb, if_pos e1.symm])]; exact w
        · by_cases yB : (cmp f g m k k).getD e 0 = m + b
          · have e1 : (cmp f g m k k).getD (m + b) 0 = e := by rw [← yB]; exact ge.2.2.1
            have e2 : (cmp f g m k k).getD (m + a) 0 ≠ m + b := fun z => by
              have := ga.2.2.1
              rw [z, e1] at this; omega
            have e3 : (cmp f g m k k).getD (m + a) 0 ≠ e := fun z => by
              have := ga.2.2.1
              rw [z, yB] at this; omega
            have w := Ends.over hf hg N2 (by omega) wA (by rw [show k + b - k = b by omega]; exact e2) (by rw [show k + a - k = a by omega]; exact ga.2.1) we ve s2 s1 (by rw [show k + b - k = b by omega]; exact yB)
            rw [G (by rw [jn_get hR (by omega) ga.2.2.2 gb.2.2.2 e2, if_neg ea, if_neg eb, if_neg (fun z => e3 z.symm), if_pos e1.symm])]; exact w
          · have w := we.near hf hg N1 ve s1 s2 (by rw [show k + a - k = a by omega]; exact yA) (by rw [show k + b - k = b by omega]; exact yB)
            by_cases c : (cmp f g m k k).getD (m + a) 0 = m + b
            · rw [JS c]; exact w
            · have e1 : (cmp f g m k k).getD (m + a) 0 ≠ e := fun z => by
                have := ga.2.2.1
                rw [z] at this; exact yA this
              have e2 : (cmp f g m k k).getD (m + b) 0 ≠ e := fun z => by
                have := gb.2.2.1
                rw [z] at this; exact yB this
              rw [G (by rw [jn_get hR (by omega) ga.2.2.2 gb.2.2.2 c, if_neg ea, if_neg eb, if_neg (fun z => e1 z.symm), if_neg (fun z => e2 z.symm)]; exact ge.2.2.2)]; exact w
end Pc
namespace Pc
/-! ### sheets one after another -/
theorem IsPair.two {n : Nat} {f : List Nat} (h : IsPair (2 * n) f) : IsPair (n + n) f := by rw [← Nat.two_mul]; exact h
theorem IsPair.one {n : Nat} {f : List Nat} (h : IsPair (n + n) f) : IsPair (2 * n) f := by rw [Nat.two_mul]; exact h
noncomputable def fol (f g : List Nat) (n : Nat) : List Nat := cmp f g n n n
theorem fol_pair {f g : List Nat} {n : Nat} (hf : IsPair (2 * n) f) (hg : IsPair (2 * n) g) : IsPair (2 * n) (fol f g n) := (cmp_pair hf.two hg.two).one
theorem fol_assoc {f g h : List Nat} {n : Nat} (hf : IsPair (2 * n) f) (hg : IsPair (2 * n) g) (hh : IsPair (2 * n) h) : fol (fol f g n) h n = fol f (fol g h n) n := cmp_assoc hf.two hg.two hh.two
theorem rd_fol {f g ps : List Nat} {n : Nat} (hf : IsPair (2 * n) f) (hg : IsPair (2 * n) g) (hP : IsPair n ps) : rd (fol f g n) ps n = rd g (rd f ps n) n := by
  have hR := rd_pair hf hP
  have hP0 : IsPair (0 + n) ps := by rw [Nat.zero_add]; exact hP
  rw [rd_cmp (fol_pair hf hg) hP, rd_cmp hg hR, rd_cmp hf hP]
  exact (cmp_assoc hP0 hf.two hg.two).symm
theorem fol_emp {f : List Nat} {n : Nat} (hn : 0 < n) (hf : IsPair (2 * n) f) : fol f (emp n) n = f := by
  refine cmp_ext (by rw [hf.len]; omega) fun e he => ?_
  have fe := hf.d (show e < 2 * n by omega)
  have em : ∀ {x : Nat}, x < n → (emp n).getD x 0 = n + x := fun h => getD_of (emp_lo h)
  have em2 : ∀ {x : Nat}, x < n → (emp n).getD (n + x) 0 = x := fun h => getD_of (emp_hi h)
  -- from the first layer
  have T : ∀ {z : Nat}, z < 2 * n → Ends (cstep f (emp n) n n) (true, z) (f.getD z 0) := fun {z} hz => by
    have fz := hf.d hz
    by_cases c : f.getD z 0 < n
    · exact .stop (cs_tl c)
    · refine .go (cs_tg (by omega)) (.stop ?_)
      have e1 := em (x := f.getD z 0 - n) (by omega)
      rw [cs_fg (by rw [e1]; omega), e1, show n + (n + (f.getD z 0 - n) - n) = f.getD z 0 by omega]
  unfold cst
  by_cases c : e < n
  · rw [if_pos c]; exact T (by omega)
  · rw [if_neg c]
    have e1 := em2 (x := e - n) (by omega)
    refine .go (t := (true, e)) ?_ (T (by omega))
    rw [cs_fl (by rw [e1]; omega), e1, show n + (e - n) = e by omega]
theorem emp_fol {f : List Nat} {n : Nat} (hn : 0 < n) (hf : IsPair (2 * n) f) : fol (emp n) f n = f := by
  refine cmp_ext (by rw [hf.len]; omega) fun e he => ?_
  have em : ∀ {x : Nat}, x < n → (emp n).getD x 0 = n + x := fun h => getD_of (emp_lo h)
  have em2 : ∀ {x : Nat}, x < n → (emp n).getD (n + x) 0 = x := fun h => getD_of (emp_hi h)
  have T : ∀ {z : Nat}, z < 2 * n → Ends (cstep (emp n) f n n) (false, z) (f.getD z 0) := fun {z} hz => by
    have fz := hf.d hz
    by_cases c : f.getD z 0 < n
    · refine .go (cs_fl c) (.stop ?_)
      have e1 := em2 c
      rw [cs_tl (by rw [e1]; exact c), e1]
    · refine .stop ?_
      rw [cs_fg (by omega), show n + (f.getD z 0 - n) = f.getD z 0 by omega]
  unfold cst
  by_cases c : e < n
  · rw [if_pos c]
    have e1 := em c
    refine .go (t := (false, e)) ?_ (T (by omega))
    rw [cs_tg (by rw [e1]; omega), e1, show n + e - n = e by omega]
  · rw [if_neg c, show n + (e - n) = e by omega]; exact T (by omega)
theorem fol_shw {f : List Nat} {n : Nat} (hn : 0 < n) (hf : IsPair (2 * n) f) : ∀ (qs : List (Nat × Nat)) {g : List Nat}, IsPair (2 * n) g → Calls n qs → fol f (shw n qs g) n = shw n qs (fol f g n)
  | [], _, _, _ => rfl
  | q :: r, g, hg, hc => by
    have h1 := hc q List.mem_cons_self
    have h2 := fol_shw hn hf r (jn_pair hg (a := n + q.1) (b := n + q.2) (by omega) (by omega) (by omega)) (fun x hx => hc x (List.mem_cons_of_mem _ hx))
    have e : fol f (jn g (n + q.1) (n + q.2)) n = jn (fol f g n) (n + q.1) (n + q.2) := cmp_jn rfl hn hf.two hg.two (by omega) (by omega) h1.2
    rw [e] at h2
    exact h2
/-- the sheet of a word behind a sheet is the word added to it -/
theorem fol_word {f : List Nat} {n : Nat} {qs : List (Nat × Nat)} (hn : 0 < n) (hf : IsPair (2 * n) f) (hc : Calls n qs) : fol f (shw n qs (emp n)) n = shw n qs f := by
  rw [fol_shw hn hf qs (emp_pair hn) hc, fol_emp hn hf]
theorem shw_app (n : Nat) (qs rs : List (Nat × Nat)) (f : List Nat) : shw n (qs ++ rs) f = shw n rs (shw n qs f) := by
  unfold shw runs low
  rw [List.map_append, List.foldl_append]
/-! ### again and again -/
noncomputable def pw (f : List Nat) (n : Nat) : Nat → List Nat
  | 0 => emp n
  | k + 1 => fol (pw f n k) f n
theorem pw_pair {f : List Nat} {n : Nat} (hn : 0 < n) (hf : IsPair (2 * n) f) : ∀ k, IsPair (2 * n) (pw f n k)
  | 0 => emp_pair hn
  | k + 1 => fol_pair (pw_pair hn hf k) hf
theorem pw_add {f : List Nat} {n : Nat} (hn : 0 < n) (hf : IsPair (2 * n) f) (a : Nat) : ∀ b, fol (pw f n a) (pw f n b) n = pw f n (a + b)
  | 0 => fol_emp hn (pw_pair hn hf a)
  | b + 1 => by
    show fol (pw f n a) (fol (pw f n b) f n) n = fol (pw f n (a + b)) f n
    rw [← fol_assoc (pw_pair hn hf a) (pw_pair hn hf b) hf, pw_add hn hf a b]
theorem pw_one {f : List Nat} {n : Nat} (hn : 0 < n) (hf : IsPair (2 * n) f) : pw f n 1 = f := emp_fol hn hf
/-! ### upside down -/
def os (n e : Nat) : Nat := if e < n then e + n else e - n
theorem os_lt {n e : Nat} (h : e < 2 * n) : os n e < 2 * n := by unfold os; split <;> omega
theorem os_os {n e : Nat} (h : e < 2 * n) : os n (os n e) = e := by
  unfold os
  by_cases c : e < n
  · rw [if_pos c, if_neg (by omega)]; omega
  · rw [if_neg c, if_pos (by omega)]; omega
def mir (f : List Nat) (n : Nat) : List Nat := (List.range (2 * n)).map fun e => os n (f.getD (os n e) 0)
theorem mir_len (f : List Nat) (n : Nat) : (mir f n).length = 2 * n := by unfold mir; rw [List.length_map, List.length_range]
theorem mir_get (f : List Nat) {n e : Nat} (h : e < 2 * n) : (mir f n)[e]? = some (os n (f.getD (os n e) 0)) := by unfold mir; rw [List.getElem?_map, List.getElem?_range h]; rfl
theorem mir_d (f : List Nat) {n e : Nat} (h : e < 2 * n) : (mir f n).getD e 0 = os n (f.getD (os n e) 0) := getD_of (mir_get f h)
theorem mir_pair {f : List Nat} {n : Nat} (hf : IsPair (2 * n) f) : IsPair (2 * n) (mir f n) := by
  refine ⟨mir_len f n, fun e he => ?_⟩
  have fo := hf.d (os_lt he)
  refine ⟨_, mir_get f he, os_lt fo.1, fun z => ?_, ?_⟩
  · have := congrArg (os n) z
    rw [os_os fo.1] at this
    exact fo.2.1 this
  · rw [mir_get f (os_lt fo.1), os_os fo.1, fo.2.2.1, os_os he]
theorem list_d {x y : List Nat} (h : x.length = y.length) (e : ∀ i, i < x.length → x.getD i 0 = y.getD i 0) : x = y := by
  refine List.ext_getElem? fun i => ?_
  by_cases hi : i < x.length
  · have := e i hi
    rw [List.getD_eq_getElem?_getD, List.getD_eq_getElem?_getD, List.getElem?_eq_getElem hi, List.getElem?_eq_getElem (by omega)] at this
    rw [List.getElem?_eq_getElem hi, List.getElem?_eq_getElem (by omega)]
    exact congrArg some this
  · rw [List.getElem?_eq_none (by omega), List.getElem?_eq_none (by omega)]
theorem mir_mir {f : List Nat} {n : Nat} (hf : IsPair (2 * n) f) : mir (mir f n) n = f := by
  refine list_d (by rw [mir_len, hf.len]) fun e he => ?_
  rw [mir_len] at he
  rw [mir_d _ he, mir_d _ (os_lt he), os_os he, os_os (hf.d he).1]
theorem mir_emp {n : Nat} : mir (emp n) n = emp n := by
  refine list_d (by rw [mir_len, emp_len]) fun e he => ?_
  rw [mir_len] at he
  rw [mir_d _ he]
  by_cases c : e < n
  · have e1 : os n e = n + e := by unfold os; rw [if_pos c]; omega
    rw [e1, getD_of (emp_hi c), getD_of (emp_lo c), e1]
  · have e1 : os n e = e - n := by unfold os; rw [if_neg c]
    have h2 := emp_hi (n := n) (e := e - n) (by omega)
    rw [show n + (e - n) = e by omega] at h2
    rw [e1, getD_of (emp_lo (by omega)), getD_of h2]
    unfold os; rw [if_neg (by omega)]; omega
/-- a walk seen from below -/
theorem mir_ends {f g : List Nat} {n : Nat} (hf : IsPair (2 * n) f) (hg : IsPair (2 * n) g) {s : Bool × Nat} {y : Nat} (w : Ends (cstep f g n n) s y) : Val n n n s → Ends (cstep (mir g n) (mir f n) n n) (!s.1, os n s.2) (os n y) := by
  induction w with
  | @stop s y h1 =>
    intro hs
    obtain ⟨b, z⟩ := s
    have hz : z < 2 * n := by cases b <;> (have : z < n + n := hs; omega)
    cases b with
    | true =>
      have fz := hf.d hz
      by_cases c : f.getD z 0 < n
      · rw [cs_tl c] at h1; cases h1
        have e1 : (mir f n).getD (os n z) 0 = os n (f.getD z 0) := by rw [mir_d _ (os_lt hz), os_os hz]
        have e2 : os n (f.getD z 0) = f.getD z 0 + n := by unfold os; rw [if_pos c]
        refine .stop ?_
        show cstep (mir g n) (mir f n) n n (false, os n z) = _
        rw [cs_fg (by rw [e1, e2]; omega), e1, e2, show n + (f.getD z 0 + n - n) = f.getD z 0 + n by omega]
      · rw [cs_tg (by omega)] at h1; cases h1
    | false =>
      have gz := hg.d hz
      by_cases c : g.getD z 0 < n
      · rw [cs_fl c] at h1; cases h1
      · rw [cs_fg (by omega)] at h1; cases h1
        have e1 : (mir g n).getD (os n z) 0 = os n (g.getD z 0) := by rw [mir_d _ (os_lt hz), os_os hz]
        have e2 : os n (g.getD z 0) = g.getD z 0 - n := by unfold os; rw [if_neg c]
        refine .stop ?_
        show cstep (mir g n) (mir f n) n n (true, os n z) = _
        rw [cs_tl (by rw [e1, e2]; omega), e1, show n + (g.getD z 0 - n) = g.getD z 0 by omega]
  | @go s t y h1 _ ih =>
    intro hs
    have cv := cs_val hf.two hg.two hs h1
    have IH := ih cv.1
    obtain ⟨b, z⟩ := s
    have hz : z < 2 * n := by cases b <;> (have : z < n + n := hs; omega)
    cases b with
    | true =>
      have fz := hf.d hz
      by_cases c : f.getD z 0 < n
      · rw [cs_tl c] at h1; cases h1
      · rw [cs_tg (by omega)] at h1; cases h1
        have e1 : (mir f n).getD (os n z) 0 = os n (f.getD z 0) := by rw [mir_d _ (os_lt hz), os_os hz]
        have e2 : os n (f.getD z 0) = f.getD z 0 - n := by unfold os; rw [if_neg c]
        have e3 : os n (f.getD z 0 - n) = n + (f.getD z 0 - n) := by unfold os; rw [if_pos (by omega)]; omega
        refine .go (t := (true, n + (f.getD z 0 - n))) ?_ (by rw [← e3]; exact IH)
        show cstep (mir g n) (mir f n) n n (false, os n z) = _
        rw [cs_fl (by rw [e1, e2]; omega), e1, e2]
    | false =>
      have gz := hg.d hz
      by_cases c : g.getD z 0 < n
      · rw [cs_fl c] at h1; cases h1
        have e1 : (mir g n).getD (os n z) 0 = os n (g.getD z 0) := by rw [mir_d _ (os_lt hz), os_os hz]
        have e2 : os n (g.getD z 0) = g.getD z 0 + n := by unfold os; rw [if_pos c]
        have e3 : os n (n + g.getD z 0) = g.getD z 0 := by unfold os; rw [if_neg (by omega)]; omega
        refine .go (t := (false, g.getD z 0)) ?_ (by have := IH; rw [show os n (true, n + g.getD z 0).2 = g.getD z 0 from e3] at this; exact this)
        show cstep (mir g n) (mir f n) n n (true, os n z) = _
        rw [cs_tg (by rw [e1, e2]; omega), e1, e2, show g.getD z 0 + n - n = g.getD z 0 by omega]
      · rw [cs_fg (by omega)] at h1; cases h1
theorem mir_fol {f g : List Nat} {n : Nat} (hf : IsPair (2 * n) f) (hg : IsPair (2 * n) g) : mir (fol f g n) n = fol (mir g n) (mir f n) n := by
  refine (cmp_ext (by rw [mir_len]; omega) fun e he => ?_).symm
  have he2 : e < 2 * n := by omega
  have w := mir_ends hf hg (cmp_ends hf.two hg.two (show os n e < n + n by have := os_lt he2; omega)) (cst_val hf.two hg.two (by have := os_lt he2; omega)).1
  rw [mir_d _ he2]
  have e1 : ((!(cst n n (os n e)).1, os n (cst n n (os n e)).2) : Bool × Nat) = cst n n e := by
    unfold cst
    by_cases c : e < n
    · have e2 : os n e = e + n := by unfold os; rw [if_pos c]
      rw [e2, if_neg (by omega), if_pos c, show n + (e + n - n) = e + n by omega]
      show (true, os n (e + n)) = _
      unfold os; rw [if_neg (by omega), Nat.add_sub_cancel]
    · have e2 : os n e = e - n := by unfold os; rw [if_neg c]
      rw [e2, if_pos (by omega), if_neg c]
      show (false, os n (e - n)) = _
      unfold os; rw [if_pos (by omega), Nat.add_comm]
  rw [e1] at w
  exact w
/-- forth, back and forth again -/
theorem fol_mir {f : List Nat} {n : Nat} (hf : IsPair (2 * n) f) : fol (fol f (mir f n) n) f n = f := by
  have hm := mir_pair hf
  have hfm := fol_pair hf hm
  have up : ∀ {x : Nat}, x < n → n ≤ f.getD x 0 → (fol f (mir f n) n).getD x 0 = n + x := fun {x} hx h => by
    have fx := hf.d (show x < 2 * n by omega)
    have w : Ends (cstep f (mir f n) n n) (cst n n x) (n + x) := by
      unfold cst; rw [if_pos hx]
      refine .go (cs_tg h) (.stop ?_)
      have e1 : (mir f n).getD (f.getD x 0 - n) 0 = x + n := by
        rw [mir_d _ (by omega), show os n (f.getD x 0 - n) = f.getD x 0 by unfold os; rw [if_pos (by omega)]; omega, fx.2.2.1]
        unfold os; rw [if_pos hx]
      rw [cs_fg (by rw [e1]; omega), e1, show n + (x + n - n) = n + x by omega]
    show (cmp f (mir f n) n n n).getD x 0 = _
    rw [cmp_d _ _ (by omega), cfar_is w]
  have upp : ∀ {x : Nat}, x < n → f.getD x 0 < n → (fol f (mir f n) n).getD x 0 = f.getD x 0 := fun {x} hx h => by
    have w : Ends (cstep f (mir f n) n n) (cst n n x) (f.getD x 0) := by
      unfold cst; rw [if_pos hx]; exact .stop (cs_tl h)
    show (cmp f (mir f n) n n n).getD x 0 = _
    rw [cmp_d _ _ (by omega), cfar_is w]
  have dn : ∀ {x : Nat}, x < n → n ≤ f.getD x 0 → (fol f (mir f n) n).getD (n + x) 0 = x := fun {x} hx h => by
    have := hfm.d (show x < 2 * n by omega)
    rw [up hx h] at this
    exact this.2.2.1
  refine cmp_ext (by rw [hf.len]; omega) fun e he => ?_
  have fe := hf.d (show e < 2 * n by omega)
  unfold cst
  by_cases c : e < n
  · rw [if_pos c]
    by_cases q : f.getD e 0 < n
    · have := cs_tl (f := fol f (mir f n) n) (g := f) (m := n) (n := n) (z := e) (by rw [upp c q]; exact q)
      rw [upp c q] at this; exact .stop this
    · have u := up c (by omega)
      refine .go (t := (false, e)) ?_ (.stop ?_)
      · rw [cs_tg (by rw [u]; omega), u, show n + e - n = e by omega]
      · rw [cs_fg (by omega), show n + (f.getD e 0 - n) = f.getD e 0 by omega]
  · rw [if_neg c, show n + (e - n) = e by omega]
    by_cases q : f.getD e 0 < n
    · have u := dn q (by rw [fe.2.2.1]; omega)
      refine .go (cs_fl q) (.stop ?_)
      rw [cs_tl (by rw [u]; exact q), u]
    · refine .stop ?_
      rw [cs_fg (by omega), show n + (f.getD e 0 - n) = f.getD e 0 by omega]
/-! ### a walk counted -/
inductive EndsN {S Y : Type} (step : S → S ⊕ Y) : Nat → S → Y → Prop
  | stop {s : S} {y : Y} : step s = .inr y → EndsN step 0 s y
  | go {t : Nat} {s u : S} {y : Y} : step s = .inl u → EndsN step t u y → EndsN step (t + 1) s y
theorem Ends.count {S Y : Type} {step : S → S ⊕ Y} {s : S} {y : Y} (h : Ends step s y) : ∃ t, EndsN step t s y := by
  induction h with
  | stop h => exact ⟨0, .stop h⟩
  | go h _ ih =>
    obtain ⟨t, ht⟩ := ih
    exact ⟨t + 1, .go h ht⟩
end Pc
namespace Pc
open PySem PySem.Spec PyProof.Rows L2 RZ
/-- x //= c -/
def ipHalf : TIp := fun x y H Q => ∃ i j, x = .int i ∧ y = .int j ∧ (0 < j ∧ j < 1073741824) ∧ Q (.int (i / j)) H
theorem ip_half {X : Cx} : PIp X .FloorDiv ipHalf := by
  intro pins s σ H x y v u Q I r1 r2 h
  obtain ⟨i, j, e1, e2, hj, q⟩ := h
  subst e1 e2
  obtain ⟨t, rfl⟩ := r1
  obtain ⟨t', rfl⟩ := r2
  refine PyProof.Rows.ifloordiv_int (by omega) ?_ (.inl (PyProof.noPylong_small (by omega)))
  rw [Int.fdiv_eq_ediv_of_nonneg i (by omega)]
  exact ⟨.int _, H, I.tok _, ⟨_, rfl⟩, q⟩
theorem bl_dec (a b : Bool) : decide (V.bl a = V.bl b) = (a == b) := by cases a <;> cases b <;> rfl
end Pc
namespace Pc
theorem iteY {b : Bool} {A B : Prop} (h : b = true) (a : A) : if b = true then A else B := by rw [if_pos h]; exact a
theorem iteX {b : Bool} {A B : Prop} (h : b = false) (a : B) : if b = true then A else B := by rw [h, if_neg Bool.false_ne_true]; exact a
end Pc
namespace Pc
/-! ### how many strands -/
theorem sts_ups {n : Nat} {fs : List Nat} (h : IsPair (2 * n) fs) : 2 * (ups fs n).length + (sts fs n).length = n := by
  have hp := jns_perm h
  have hc := hp.countP_eq (fun z => decide (z < n))
  rw [range_low] at hc
  unfold jns at hc
  have x1 : (flat (ups fs n)).countP (fun z => decide (z < n)) = 2 * (ups fs n).length := flat_two fun p hp => by
    have := ups_mem h hp
    exact ⟨decide_eq_true (by omega), decide_eq_true (by omega)⟩
  have x2 : (flat ((los fs n).map (fun p => (n + p.1, n + p.2)))).countP (fun z => decide (z < n)) = 0 := flat_none fun p hp => by
    obtain ⟨r, hr, rfl⟩ := List.mem_map.mp hp
    exact ⟨decide_eq_false (by show ¬ n + r.1 < n; omega), decide_eq_false (by show ¬ n + r.2 < n; omega)⟩
  have x3 : (flat ((sts fs n).map (fun p => (p.1, n + p.2)))).countP (fun z => decide (z < n)) = ((sts fs n).map (fun p => (p.1, n + p.2))).length := flat_one fun p hp => by
    obtain ⟨r, hr, rfl⟩ := List.mem_map.mp hp
    have := sts_mem h hr
    exact ⟨decide_eq_true (by show r.1 < n; omega), decide_eq_false (by show ¬ n + r.2 < n; omega)⟩
  rw [flat_app, flat_app, List.countP_append, List.countP_append, x1, x2, x3, List.length_map] at hc
  omega
theorem sel_len {c d : Nat → Bool} {g k : Nat → Nat × Nat} {n : Nat} (h : ∀ x, x < n → c x = d x) : (selN c g n).length = (selN d k n).length := by
  unfold selN
  rw [List.length_map, List.length_map]
  exact congrArg List.length (List.filter_congr fun x hx => h x (List.mem_range.mp hx))
theorem sel_le {c d : Nat → Bool} {g k : Nat → Nat × Nat} {n : Nat} (h : ∀ x, x < n → c x = true → d x = true) : (selN c g n).length ≤ (selN d k n).length := by
  unfold selN
  rw [List.length_map, List.length_map, ← List.countP_eq_length_filter, ← List.countP_eq_length_filter]
  exact List.countP_mono_left fun x hx => h x (List.mem_range.mp hx)
theorem ups_mir {n : Nat} {f : List Nat} (hf : IsPair (2 * n) f) : (ups (mir f n) n).length = (los f n).length := by
  refine sel_len fun x hx => ?_
  have fx := hf.d (show n + x < 2 * n by omega)
  have e : (mir f n).getD x 0 = os n (f.getD (n + x) 0) := by rw [mir_d f (by omega), show os n x = n + x by unfold os; rw [if_pos hx]; omega]
  unfold upC loC
  rw [e]
  by_cases c : f.getD (n + x) 0 < n
  · rw [show os n (f.getD (n + x) 0) = f.getD (n + x) 0 + n by unfold os; rw [if_pos c], decide_eq_false (show ¬ f.getD (n + x) 0 + n < n by omega), decide_eq_false (show ¬ n + x < f.getD (n + x) 0 by omega), Bool.and_false]
  · rw [show os n (f.getD (n + x) 0) = f.getD (n + x) 0 - n by unfold os; rw [if_neg c], decide_eq_true (show f.getD (n + x) 0 - n < n by omega), Bool.and_true]
    by_cases q : n + x < f.getD (n + x) 0
    · rw [decide_eq_true q, decide_eq_true (by omega)]
    · rw [decide_eq_false q, decide_eq_false (by omega)]
theorem sts_mir {n : Nat} {f : List Nat} (hf : IsPair (2 * n) f) : (sts (mir f n) n).length = (sts f n).length := by
  have a := sts_ups hf
  have b := sts_ups (mir_pair hf)
  rw [ups_mir hf, ← ups_los hf] at b
  omega
theorem sts_fol {n : Nat} {f g : List Nat} : (sts (fol f g n) n).length ≤ (sts f n).length := by
  refine sel_le fun x hx h => ?_
  unfold stC at h ⊢
  by_cases c : f.getD x 0 < n
  · have w : Ends (cstep f g n n) (cst n n x) (f.getD x 0) := by unfold cst; rw [if_pos hx]; exact .stop (cs_tl c)
    have e : (fol f g n).getD x 0 = f.getD x 0 := by show (cmp f g n n n).getD x 0 = _; rw [cmp_d _ _ (by omega), cfar_is w]
    rw [e, decide_eq_false (by omega)] at h; cases h
  · exact decide_eq_true (by omega)
theorem sts_fol' {n : Nat} {f g : List Nat} (hf : IsPair (2 * n) f) (hg : IsPair (2 * n) g) : (sts (fol f g n) n).length ≤ (sts g n).length := by
  rw [← sts_mir (fol_pair hf hg), mir_fol hf hg, ← sts_mir hg]
  exact sts_fol
end Pc
namespace Pc
open PySem PySem.Spec PyProof.Rows L2 RZ
theorem room65 {k : Nat} {A : Around} (r : Room k A) : A.units + 65 < cLine := by have := r.un; omega
/-- x *= c, both small -/
def ipMul : TIp := fun x y H Q => ∃ i j, x = .int i ∧ y = .int j ∧ CMul i j ∧ Q (.int (i * j)) H
theorem ip_mul {X : Cx} : PIp X .Mult ipMul := by
  intro pins s σ H x y v u Q I r1 r2 h
  obtain ⟨i, j, e1, e2, hj, q⟩ := h
  subst e1 e2
  obtain ⟨t, rfl⟩ := r1
  obtain ⟨t', rfl⟩ := r2
  exact PyProof.Rows.imul_int ⟨.int _, H, I.tok _, ⟨_, rfl⟩, q⟩ hj.ok
end Pc
namespace Pc
/-! ### counting -/
theorem cnt_same {p q : Nat → Bool} {n : Nat} (h : ∀ y, y < n → q y = p y) : (List.range n).countP q = (List.range n).countP p :=
  List.countP_congr fun x hx => by rw [h x (List.mem_range.mp hx)]
theorem cnt_off {p q : Nat → Bool} {a : Nat} : ∀ {n : Nat}, (∀ y, y < n → y ≠ a → q y = p y) → a < n → p a = true → q a = false → (List.range n).countP q + 1 = (List.range n).countP p
  | 0, _, h, _, _ => absurd h (Nat.not_lt_zero _)
  | n + 1, h, ha, h1, h2 => by
    rw [List.range_succ, List.countP_append, List.countP_append]
    by_cases e : a = n
    · subst e
      rw [cnt_same (p := p) (q := q) (fun y hy => h y (by omega) (by omega)), List.countP_cons_of_neg (by rw [h2]; decide), List.countP_cons_of_pos h1]
      rfl
    · have ih := cnt_off (p := p) (q := q) (a := a) (n := n) (fun y hy hn => h y (by omega) hn) (by omega) h1 h2
      have e1 : [n].countP q = [n].countP p := by
        have := h n (by omega) (fun z => e z.symm)
        by_cases c : p n = true
        · rw [List.countP_cons_of_pos c, List.countP_cons_of_pos (by rw [this]; exact c)]; rfl
        · rw [List.countP_cons_of_neg c, List.countP_cons_of_neg (by rw [this]; exact c)]; rfl
      rw [e1]
      omega
/-! ### the people at the lower ends of strands -/
def lsC (f : List Nat) (n y : Nat) : Bool := decide (f.getD (n + y) 0 < n)
def lse (f : List Nat) (n : Nat) : List Nat := (List.range n).filter (lsC f n)
theorem lse_len {f : List Nat} {n : Nat} (hf : IsPair (2 * n) f) : (lse f n).length = (sts f n).length := by
  rw [← sts_mir hf]
  unfold lse sts selN
  rw [List.length_map]
  refine congrArg List.length (List.filter_congr fun x hx => ?_)
  have hx := List.mem_range.mp hx
  have fx := hf.d (show n + x < 2 * n by omega)
  have e : (mir f n).getD x 0 = os n (f.getD (n + x) 0) := by rw [mir_d f (by omega), show os n x = n + x by unfold os; rw [if_pos hx]; omega]
  unfold lsC stC
  rw [e]
  by_cases c : f.getD (n + x) 0 < n
  · rw [decide_eq_true c, show os n (f.getD (n + x) 0) = f.getD (n + x) 0 + n by unfold os; rw [if_pos c], decide_eq_true (by omega)]
  · rw [decide_eq_false c, show os n (f.getD (n + x) 0) = f.getD (n + x) 0 - n by unfold os; rw [if_neg c], decide_eq_false (by omega)]
theorem lse_cnt (f : List Nat) (n : Nat) : (lse f n).length = (List.range n).countP (lsC f n) := (List.countP_eq_length_filter ..).symm
/-- a call takes two strands if both people's lower ends are strands, else none -/
theorem lse_jn {f : List Nat} {n a b : Nat} (hf : IsPair (2 * n) f) (hab : a ≠ b) (ha : a < n) (hb : b < n) : (lse (jn f (n + a) (n + b)) n).length + (if (lsC f n a && lsC f n b) = true then 2 else 0) = (lse f n).length := by
  rw [lse_cnt, lse_cnt]
  have fa := hf.d (show n + a < 2 * n by omega)
  have fb := hf.d (show n + b < 2 * n by omega)
  by_cases hc : f.getD (n + a) 0 = n + b
  · rw [jn_same (hf.ofd (by omega) hc), if_neg, Nat.add_zero]
    unfold lsC
    rw [hc, decide_eq_false (show ¬ n + b < n by omega), Bool.false_and]
    decide
  · have G := jn_get hf (show n + a ≠ n + b by omega) fa.2.2.2 fb.2.2.2 hc
    have D : ∀ z, (jn f (n + a) (n + b)).getD z 0 = ((jn f (n + a) (n + b))[z]?).getD 0 := fun z => List.getD_eq_getElem?_getD
    obtain ⟨x1, x2, x3, x4, _⟩ := four hf (show n + a ≠ n + b by omega) fa.2.2.2 fb.2.2.2 hc
    have pa : lsC (jn f (n + a) (n + b)) n a = false := by
      unfold lsC; rw [D, G, if_pos rfl]; exact decide_eq_false (by show ¬ n + b < n; omega)
    have pb : lsC (jn f (n + a) (n + b)) n b = false := by
      unfold lsC; rw [D, G, if_neg (by omega), if_pos rfl]; exact decide_eq_false (by show ¬ n + a < n; omega)
    have same : ∀ y, y ≠ a → y ≠ b → n + y ≠ f.getD (n + a) 0 → n + y ≠ f.getD (n + b) 0 → lsC (jn f (n + a) (n + b)) n y = lsC f n y := fun y h1 h2 h3 h4 => by
      unfold lsC; rw [D, G, if_neg (by omega), if_neg (by omega), if_neg h3, if_neg h4, ← List.getD_eq_getElem?_getD]
    by_cases ca : f.getD (n + a) 0 < n
    · by_cases cb : f.getD (n + b) 0 < n
      · have qa : lsC f n a = true := decide_eq_true ca
        have qb : lsC f n b = true := decide_eq_true cb
        rw [qa, qb, Bool.and_true, if_pos rfl]
        have s1 := cnt_off (p := lsC f n) (q := fun y => if y = a then false else lsC f n y) (a := a) (n := n) (fun y _ h => if_neg h) ha qa (if_pos rfl)
        have s2 := cnt_off (p := fun y => if y = a then false else lsC f n y) (q := lsC (jn f (n + a) (n + b)) n) (a := b) (n := n) (fun y _ h => by
          by_cases e : y = a
          · rw [e, if_pos rfl]; exact pa
          · rw [if_neg e]; exact same y e h (by omega) (by omega)) hb (by rw [if_neg (Ne.symm hab)]; exact qb) pb
        omega
      · have qb : lsC f n b = false := decide_eq_false cb
        have qa : lsC f n a = true := decide_eq_true ca
        rw [qa, qb, if_neg (by decide), Nat.add_zero]
        -- the one at the other end of b's pair gets the strand
        have hv : f.getD (n + b) 0 - n < n := by omega
        have ev : n + (f.getD (n + b) 0 - n) = f.getD (n + b) 0 := by omega
        have qv : lsC f n (f.getD (n + b) 0 - n) = false := by unfold lsC; rw [ev, fb.2.2.1]; exact decide_eq_false (by omega)
        have pv : lsC (jn f (n + a) (n + b)) n (f.getD (n + b) 0 - n) = true := by
          unfold lsC; rw [ev, D, G, if_neg x3, if_neg x2, if_neg (Ne.symm x4), if_pos rfl]; exact decide_eq_true ca
        have s1 := cnt_off (p := lsC f n) (q := fun y => if y = a then false else lsC f n y) (a := a) (n := n) (fun y _ h => if_neg h) ha qa (if_pos rfl)
        have va : f.getD (n + b) 0 - n ≠ a := fun z => by rw [z, qa] at qv; cases qv
        have s2 := cnt_off (q := fun y => if y = a then false else lsC f n y) (p := lsC (jn f (n + a) (n + b)) n) (a := f.getD (n + b) 0 - n) (n := n) (fun y _ h => by
          by_cases e : y = a
          · rw [e, if_pos rfl]; exact pa.symm
          · rw [if_neg e]
            by_cases e2 : y = b
            · rw [e2, pb, qb]
            · exact (same y e e2 (by omega) (by omega)).symm) hv pv (by rw [if_neg va]; exact qv)
        omega
    · have qa : lsC f n a = false := decide_eq_false ca
      by_cases cb : f.getD (n + b) 0 < n
      · have qb : lsC f n b = true := decide_eq_true cb
        rw [qa, qb, if_neg (by decide), Nat.add_zero]
        have hv : f.getD (n + a) 0 - n < n := by omega
        have ev : n + (f.getD (n + a) 0 - n) = f.getD (n + a) 0 := by omega
        have qv : lsC f n (f.getD (n + a) 0 - n) = false := by unfold lsC; rw [ev, fa.2.2.1]; exact decide_eq_false (by omega)
        have pv : lsC (jn f (n + a) (n + b)) n (f.getD (n + a) 0 - n) = true := by
          unfold lsC; rw [ev, D, G, if_neg x1, if_neg hc, if_pos rfl]; exact decide_eq_true cb
        have s1 := cnt_off (p := lsC f n) (q := fun y => if y = b then false else lsC f n y) (a := b) (n := n) (fun y _ h => if_neg h) hb qb (if_pos rfl)
        have vb : f.getD (n + a) 0 - n ≠ b := fun z => by rw [z, qb] at qv; cases qv
        have s2 := cnt_off (q := fun y => if y = b then false else lsC f n y) (p := lsC (jn f (n + a) (n + b)) n) (a := f.getD (n + a) 0 - n) (n := n) (fun y _ h => by
          by_cases e : y = b
          · rw [e, if_pos rfl]; exact pb.symm
          · rw [if_neg e]
            by_cases e2 : y = a
            · rw [e2, pa, qa]
            · exact (same y e2 e (by omega) (by omega)).symm) hv pv (by rw [if_neg vb]; exact qv)
        omega
      · have qb : lsC f n b = false := decide_eq_false cb
        rw [qa, qb, if_neg (by decide), Nat.add_zero]
        refine cnt_same fun y hy => ?_
        by_cases e1 : y = a
        · rw [e1, pa, qa]
        · by_cases e2 : y = b
          · rw [e2, pb, qb]
          · by_cases e3 : n + y = f.getD (n + a) 0
            · have h1 : lsC f n y = false := by unfold lsC; rw [e3, fa.2.2.1]; exact decide_eq_false (by omega)
              have h2 : lsC (jn f (n + a) (n + b)) n y = false := by unfold lsC; rw [e3, D, G, if_neg x1, if_neg hc, if_pos rfl]; exact decide_eq_false cb
              rw [h1, h2]
            · by_cases e4 : n + y = f.getD (n + b) 0
              · have h1 : lsC f n y = false := by unfold lsC; rw [e4, fb.2.2.1]; exact decide_eq_false (by omega)
                have h2 : lsC (jn f (n + a) (n + b)) n y = false := by unfold lsC; rw [e4, D, G, if_neg x3, if_neg x2, if_neg (Ne.symm x4), if_pos rfl]; exact decide_eq_false ca
                rw [h1, h2]
              · exact same y e1 e2 e3 e4
/-! ### how many pairings -/
def dfac : Nat → Nat
  | 0 => 1
  | r + 1 => dfac r * (2 * r + 1)
theorem dfac_pos : ∀ r, 0 < dfac r
  | 0 => Nat.one_pos
  | r + 1 => Nat.mul_pos (dfac_pos r) (by omega)
theorem dfac_dvd (r : Nat) : ∀ k, dfac r ∣ dfac (r + k)
  | 0 => Nat.dvd_refl _
  | k + 1 => Nat.dvd_trans (dfac_dvd r k) ⟨2 * (r + k) + 1, rfl⟩
end Pc
namespace Pc
open PySem PySem.Spec PyProof.Rows L2 RZ
theorem in_nat (i : Nat) (l : List Nat) : inV (.int (i : Int)) (nv l) = decide (i ∈ l) := by
  unfold inV nv
  rw [List.any_map, Bool.eq_iff_iff, List.any_eq_true, decide_eq_true_iff]
  constructor
  · rintro ⟨x, hx, e⟩
    have e' : eqV (.int (x : Int)) (.int (i : Int)) = true := e
    have : (x : Int) = (i : Int) := by simpa [eqV] using e'
    have : x = i := by omega
    exact this ▸ hx
  · intro h
    exact ⟨i, h, by show eqV (.int (i : Int)) (.int (i : Int)) = true; simp [eqV]⟩
theorem flat_nat (l : List Nat) : (nv l).all flatV = true := by
  unfold nv
  rw [List.all_map, List.all_eq_true]
  exact fun x _ => rfl
theorem mem_data {ps : List (Nat × Nat)} {p : Nat × Nat} (h : p ∈ ps) : ((ps.map pd).any fun z => PyData.eqv z (pd p)) = true := by
  rw [List.any_eq_true]
  exact ⟨pd p, List.mem_map.mpr ⟨p, h, rfl⟩, PySem.SeqAt.eqv_refl _ rfl⟩
/-! ### a call and the pairs of a sheet -/
theorem los_jn {f : List Nat} {n a b : Nat} (hf : IsPair (2 * n) f) (hab : a < b) (hb : b < n) : (a, b) ∈ los (jn f (n + a) (n + b)) n := by
  have e : (jn f (n + a) (n + b)).getD (n + a) 0 = n + b := by
    have fa := hf.d (show n + a < 2 * n by omega)
    have fb := hf.d (show n + b < 2 * n by omega)
    by_cases hc : f.getD (n + a) 0 = n + b
    · rw [jn_same (hf.ofd (by omega) hc), hc]
    · exact getD_of (by rw [jn_get hf (by omega) fa.2.2.2 fb.2.2.2 hc, if_pos rfl])
  refine selN_mem.mpr ⟨a, by omega, ?_, ?_⟩
  · unfold loC; rw [e]; exact decide_eq_true (by omega)
  · unfold loG; rw [e, Nat.add_sub_cancel_left]
theorem ups_jn {f : List Nat} {n a b : Nat} (hf : IsPair (2 * n) f) (hab : a < b) (hb : b < n) {p : Nat × Nat} (hp : p ∈ ups f n) : p ∈ ups (jn f (n + a) (n + b)) n := by
  obtain ⟨x, hx, c, e⟩ := selN_mem.mp hp
  unfold upC at c
  rw [Bool.and_eq_true, decide_eq_true_iff, decide_eq_true_iff] at c
  have fa := hf.d (show n + a < 2 * n by omega)
  have fb := hf.d (show n + b < 2 * n by omega)
  have fx := hf.d (show x < 2 * n by omega)
  have e2 : (jn f (n + a) (n + b)).getD x 0 = f.getD x 0 := by
    by_cases hc : f.getD (n + a) 0 = n + b
    · rw [jn_same (hf.ofd (by omega) hc)]
    · refine getD_of ?_
      rw [jn_get hf (by omega) fa.2.2.2 fb.2.2.2 hc, if_neg (by omega), if_neg (by omega), if_neg (fun z => by rw [z, fa.2.2.1] at c; omega), if_neg (fun z => by rw [z, fb.2.2.1] at c; omega)]
      exact fx.2.2.2
  refine selN_mem.mpr ⟨x, hx, ?_, ?_⟩
  · unfold upC; rw [e2, decide_eq_true c.1, decide_eq_true c.2]; rfl
  · rw [← e]; unfold upG; rw [e2]
theorem low_lows {f : List Nat} {n y : Nat} (hf : IsPair (2 * n) f) (hy : y < n) : decide (y ∈ (sts f n).map Prod.snd) = lsC f n y := by
  have fy := hf.d (show n + y < 2 * n by omega)
  unfold lsC
  rw [decide_eq_decide]
  constructor
  · intro h
    obtain ⟨p, hp, e⟩ := List.mem_map.mp h
    obtain ⟨h1, h2, h3⟩ := sts_mem hf hp
    have := (hf.back h1).1
    rw [e] at this
    rw [getD_of this]; exact h2
  · intro h
    refine List.mem_map.mpr ⟨(f.getD (n + y) 0, y), ?_, rfl⟩
    refine selN_mem.mpr ⟨f.getD (n + y) 0, h, ?_, ?_⟩
    · unfold stC; rw [fy.2.2.1]; exact decide_eq_true (by omega)
    · unfold stG; rw [fy.2.2.1, Nat.add_sub_cancel_left]
theorem rd_los {f ps : List Nat} {n : Nat} (hf : IsPair (2 * n) f) {p : Nat × Nat} (hp : p ∈ los f n) : (rd f ps n)[p.1]? = some p.2 := by
  obtain ⟨h1, h2, h3⟩ := los_mem hf hp
  have e := getD_of h1
  have t := Trail.stop (fs := f) (ps := ps) (n := n) (z := n + p.1) (by rw [e]; omega)
  rw [rd_get f ps (by omega), far_is t, e]
  show some (n + p.2 - n) = _
  rw [Nat.add_sub_cancel_left]
theorem jn_idem {n : Nat} {fs : List Nat} (hP : IsPair n fs) {a b : Nat} (hab : a ≠ b) (ha : a < n) (hb : b < n) : jn (jn fs a b) a b = jn fs a b := by
  have fa := hP.d ha
  have fb := hP.d hb
  refine jn_same ?_
  by_cases hc : fs.getD a 0 = b
  · rw [jn_same (hP.ofd ha hc)]; exact hP.ofd ha hc
  · rw [jn_get hP hab fa.2.2.2 fb.2.2.2 hc, if_pos rfl]
end Pc
namespace Pc
/-! ### words that settle -/
def sw : List Nat → List (Nat × Nat)
  | a :: b :: c :: r => (a, b) :: sw (c :: r)
  | _ => []
theorem sw_eq : ∀ l : List Nat, sw l = (List.range ((l.length - 1) / 2)).map fun i => (l.getD (2 * i) 0, l.getD (2 * i + 1) 0)
  | [] => rfl
  | [_] => by simp [sw]
  | [_, _] => by simp [sw]
  | a :: b :: c :: r => by
    show (a, b) :: sw (c :: r) = _
    rw [sw_eq (c :: r)]
    have e : ((a :: b :: c :: r).length - 1) / 2 = ((c :: r).length - 1) / 2 + 1 := by simp only [List.length_cons]; omega
    rw [e, List.range_succ_eq_map, List.map_cons, List.map_map]
    rfl
theorem sw_len (l : List Nat) : (sw l).length = (l.length - 1) / 2 := by rw [sw_eq, List.length_map, List.length_range]
theorem lse_two {f : List Nat} {n a b : Nat} (hf : IsPair (2 * n) f) (hab : a ≠ b) (ha : a < n) (hb : b < n) (qa : lsC f n a = true) (qb : lsC f n b = true) : lse (jn f (n + a) (n + b)) n = (lse f n).filter (fun y => !decide (y = a) && !decide (y = b)) := by
  have fa := hf.d (show n + a < 2 * n by omega)
  have fb := hf.d (show n + b < 2 * n by omega)
  have ca : f.getD (n + a) 0 < n := of_decide_eq_true qa
  have cb : f.getD (n + b) 0 < n := of_decide_eq_true qb
  have hc : f.getD (n + a) 0 ≠ n + b := by omega
  have G := jn_get hf (show n + a ≠ n + b by omega) fa.2.2.2 fb.2.2.2 hc
  have D : ∀ z, (jn f (n + a) (n + b)).getD z 0 = ((jn f (n + a) (n + b))[z]?).getD 0 := fun z => List.getD_eq_getElem?_getD
  unfold lse
  rw [List.filter_filter]
  refine List.filter_congr fun y _ => ?_
  unfold lsC
  rw [D, G]
  by_cases e1 : y = a
  · rw [if_pos (by omega), decide_eq_true e1]
    show decide (n + b < n) = _
    rw [decide_eq_false (by omega)]; rfl
  · by_cases e2 : y = b
    · rw [if_neg (by omega), if_pos (by omega), decide_eq_true e2]
      show decide (n + a < n) = _
      rw [decide_eq_false (by omega), Bool.not_true, Bool.and_false]; rfl
    · rw [if_neg (by omega), if_neg (by omega), if_neg (by omega), if_neg (by omega), ← List.getD_eq_getElem?_getD, decide_eq_false e1, decide_eq_false e2]
      simp
theorem lse_nodup (f : List Nat) (n : Nat) : (lse f n).Nodup := List.nodup_range.filter _
theorem lse_mem {f : List Nat} {n y : Nat} : y ∈ lse f n ↔ y < n ∧ lsC f n y = true := by
  unfold lse; rw [List.mem_filter, List.mem_range]
theorem settle_end {n : Nat} : ∀ (l : List Nat) {f : List Nat}, IsPair (2 * n) f → lse f n = l → (lse (shw n (sw l) f) n).length ≤ 2 ∧ IsPair (2 * n) (shw n (sw l) f)
  | [], f, hf, h => by
    show (lse f n).length ≤ 2 ∧ IsPair (2 * n) f
    rw [h]; exact ⟨by decide, hf⟩
  | [_], f, hf, h => by
    show (lse f n).length ≤ 2 ∧ IsPair (2 * n) f
    rw [h]; exact ⟨by simp, hf⟩
  | [_, _], f, hf, h => by
    show (lse f n).length ≤ 2 ∧ IsPair (2 * n) f
    rw [h]; exact ⟨by simp, hf⟩
  | a :: b :: c :: r, f, hf, h => by
    have hnd := lse_nodup f n
    rw [h] at hnd
    obtain ⟨n1, hnd2⟩ := List.nodup_cons.mp hnd
    obtain ⟨n2, _⟩ := List.nodup_cons.mp hnd2
    have ma := lse_mem.mp (show a ∈ lse f n by rw [h]; exact List.mem_cons_self)
    have mb := lse_mem.mp (show b ∈ lse f n by rw [h]; exact List.mem_cons_of_mem _ List.mem_cons_self)
    have hab : a ≠ b := fun e => n1 (e ▸ List.mem_cons_self)
    have hj : IsPair (2 * n) (jn f (n + a) (n + b)) := jn_pair hf (by omega) (by omega) (by omega)
    have e : lse (jn f (n + a) (n + b)) n = c :: r := by
      rw [lse_two hf hab ma.1 mb.1 ma.2 mb.2, h, List.filter_cons_of_neg (by simp), List.filter_cons_of_neg (by simp)]
      refine List.filter_eq_self.mpr fun y hy => ?_
      have y1 : y ≠ a := fun z => n1 (z ▸ List.mem_cons_of_mem _ hy)
      have y2 : y ≠ b := fun z => n2 (z ▸ hy)
      rw [decide_eq_false y1, decide_eq_false y2]; rfl
    exact settle_end (c :: r) hj e
theorem sw_calls {n : Nat} {f : List Nat} : ∀ (l : List Nat), l.Pairwise (· < ·) → (∀ x ∈ l, x < n) → Calls n (sw l)
  | [], _, _ => fun q hq => by simp [sw] at hq
  | [_], _, _ => fun q hq => by simp [sw] at hq
  | [_, _], _, _ => fun q hq => by simp [sw] at hq
  | a :: b :: c :: r, hp, hl => fun q hq => by
    rcases List.mem_cons.mp (show q ∈ (a, b) :: sw (c :: r) from hq) with z | z
    · rw [z]
      exact ⟨(List.pairwise_cons.mp hp).1 b List.mem_cons_self, hl b (List.mem_cons_of_mem _ List.mem_cons_self)⟩
    · exact sw_calls (f := f) (c :: r) (List.pairwise_cons.mp (List.pairwise_cons.mp hp).2).2 (fun x hx => hl x (List.mem_cons_of_mem _ (List.mem_cons_of_mem _ hx))) q z
theorem lse_asc (f : List Nat) (n : Nat) : (lse f n).Pairwise (· < ·) := List.pairwise_lt_range.filter _
theorem word_calls (f : List Nat) (n : Nat) : Calls n (sw (lse f n)) := sw_calls (f := f) _ (lse_asc f n) fun x hx => (lse_mem.mp hx).1
/-- who is loose has somebody who is loose -/
theorem rd_loose {f ps : List Nat} {n x : Nat} (hf : IsPair (2 * n) f) (hP : IsPair n ps) (hx : x ∈ lse f n) : (rd f ps n).getD x 0 ∈ lse f n ∧ (rd f ps n).getD x 0 ≠ x := by
  obtain ⟨hxn, hc⟩ := lse_mem.mp hx
  have hR := rd_pair hf hP
  have rx := hR.d hxn
  refine ⟨lse_mem.mpr ⟨rx.1, ?_⟩, rx.2.1⟩
  cases q : lsC f n ((rd f ps n).getD x 0) with
  | true => rfl
  | false =>
    have c : n ≤ f.getD (n + (rd f ps n).getD x 0) 0 := by
      have := of_decide_eq_false q
      omega
    have t := Trail.stop (fs := f) (ps := ps) (n := n) (z := n + (rd f ps n).getD x 0) c
    have e1 : (rd f ps n).getD ((rd f ps n).getD x 0) 0 = f.getD (n + (rd f ps n).getD x 0) 0 - n := by
      refine getD_of ?_
      rw [rd_get f ps rx.1, far_is t]; rfl
    rw [rx.2.2.1] at e1
    have fy := hf.d (show n + (rd f ps n).getD x 0 < 2 * n by omega)
    have e2 : f.getD (n + (rd f ps n).getD x 0) 0 = n + x := by omega
    have e3 := fy.2.2.1
    rw [e2] at e3
    have := of_decide_eq_true hc
    omega
theorem two_same {l : List Nat} (hl : l.length ≤ 2) {x y z : Nat} (hx : x ∈ l) (hy : y ∈ l) (hz : z ∈ l) (h1 : y ≠ x) (h2 : z ≠ x) : y = z := by
  match l, hl with
  | [], _ => simp at hx
  | [u], _ =>
    rw [List.mem_singleton] at hx hy
    exact absurd (hy.trans hx.symm) h1
  | [u, v], _ =>
    simp only [List.mem_cons, List.not_mem_nil, or_false] at hx hy hz
    omega
/-- with two strands at most there is only one result -/
theorem rd_settled {f ps qs : List Nat} {n : Nat} (hf : IsPair (2 * n) f) (hP : IsPair n ps) (hQ : IsPair n qs) (hl : (lse f n).length ≤ 2) : rd f ps n = rd f qs n := by
  refine list_d (by rw [rd_len, rd_len]) fun x hx => ?_
  rw [rd_len] at hx
  by_cases c : lsC f n x = true
  · have hm := lse_mem.mpr ⟨hx, c⟩
    exact two_same hl hm (rd_loose hf hP hm).1 (rd_loose hf hQ hm).1 (rd_loose hf hP hm).2 (rd_loose hf hQ hm).2
  · have c' : n ≤ f.getD (n + x) 0 := by
      apply Classical.byContradiction
      intro h
      exact c (decide_eq_true (by omega))
    have t1 := Trail.stop (fs := f) (ps := ps) (n := n) (z := n + x) c'
    have t2 := Trail.stop (fs := f) (ps := qs) (n := n) (z := n + x) c'
    rw [List.getD_eq_getElem?_getD, List.getD_eq_getElem?_getD, rd_get f ps hx, rd_get f qs hx, far_is t1, far_is t2]
/-- the word of a sheet leads everybody to the same -/
theorem word_settles {f ps qs : List Nat} {n : Nat} (hf : IsPair (2 * n) f) (hP : IsPair n ps) (hQ : IsPair n qs) : runs (sw (lse f n)) (rd f ps n) = runs (sw (lse f n)) (rd f qs n) := by
  obtain ⟨h1, h2⟩ := settle_end (lse f n) hf rfl
  rw [← rd_runs hP _ hf (word_calls f n), ← rd_runs hQ _ hf (word_calls f n)]
  exact rd_settled h2 hP hQ h1
/-- calls of couples make these couples -/
theorem runs_keep {n : Nat} {ps : List Nat} (hP : IsPair n ps) : ∀ (cs : List (Nat × Nat)) {R : List Nat}, IsPair n R → (∀ p ∈ cs, ps[p.1]? = some p.2 ∧ p.1 < p.2) → ∀ x y, ps[x]? = some y → (R.getD x 0 = y ∨ (x, y) ∈ cs ∨ (y, x) ∈ cs) → (runs cs R).getD x 0 = y
  | [], R, _, _, x, y, _, h => by
    rcases h with h | h | h
    · exact h
    · simp at h
    · simp at h
  | (a, b) :: cs, R, hR, hc, x, y, hxy, h => by
    have hab := hc (a, b) List.mem_cons_self
    have h1 : ps[a]? = some b := hab.1
    have hlt : a < b := hab.2
    obtain ⟨b1, b2, b3, b4⟩ := hP.back h1
    have Ra := hR.d b3
    have Rb := hR.d b2
    have hj : IsPair n (jn R a b) := jn_pair hR (by omega) b3 b2
    obtain ⟨x1, x2, x3, x4⟩ := hP.back hxy
    refine runs_keep hP cs (R := jn R a b) hj (fun p hp => hc p (List.mem_cons_of_mem _ hp)) x y hxy ?_
    have ja : (jn R a b).getD a 0 = b ∧ (jn R a b).getD b 0 = a := by
      by_cases c : R.getD a 0 = b
      · rw [jn_same (hR.ofd b3 c)]
        exact ⟨c, by have := Ra.2.2.1; rw [c] at this; exact this⟩
      · have G := jn_get hR (show a ≠ b by omega) Ra.2.2.2 Rb.2.2.2 c
        exact ⟨getD_of (by rw [G, if_pos rfl]), getD_of (by rw [G, if_neg (by omega), if_pos rfl])⟩
    rcases h with h | h | h
    · refine .inl ?_
      by_cases c : R.getD a 0 = b
      · rw [jn_same (hR.ofd b3 c)]; exact h
      · have G := jn_get hR (show a ≠ b by omega) Ra.2.2.2 Rb.2.2.2 c
        have xa : x ≠ a := fun e => by subst e; rw [h1] at hxy; rw [← Option.some.inj hxy] at h; exact c h
        have xb : x ≠ b := fun e => by
          subst e
          rw [b1] at hxy
          rw [← Option.some.inj hxy] at h
          have := Rb.2.2.1
          rw [h] at this; exact c this
        have xc : x ≠ R.getD a 0 := fun e => by
          have : R.getD x 0 = a := by rw [e]; exact Ra.2.2.1
          rw [h] at this
          rw [this, h1] at x1
          exact xb (Option.some.inj x1).symm
        have xd : x ≠ R.getD b 0 := fun e => by
          have : R.getD x 0 = b := by rw [e]; exact Rb.2.2.1
          rw [h] at this
          rw [this, b1] at x1
          exact xa (Option.some.inj x1).symm
        refine getD_of ?_
        rw [G, if_neg xa, if_neg xb, if_neg xc, if_neg xd]
        exact hR.ofd x3 h
    · rcases List.mem_cons.mp h with z | z
      · injection z with z1 z2
        subst z1 z2
        exact .inl ja.1
      · exact .inr (.inl z)
    · rcases List.mem_cons.mp h with z | z
      · injection z with z1 z2
        subst z1 z2
        exact .inl ja.2
      · exact .inr (.inr z)
theorem in_drop {α : Type} {l : List α} {p : α} (h : p ∈ l) : p ∈ l.dropLast ∨ ∃ hn : l ≠ [], p = l.getLast hn := by
  have hn : l ≠ [] := fun e => by rw [e] at h; simp at h
  rw [← List.dropLast_concat_getLast hn] at h
  rcases List.mem_append.mp h with z | z
  · exact .inl z
  · exact .inr ⟨hn, List.mem_singleton.mp z⟩
/-- the couples but the last lead everybody there -/
theorem cpl_runs {n : Nat} {ps q0 : List Nat} (hP : IsPair n ps) (hQ : IsPair n q0) : runs (cpl ps).dropLast q0 = ps := by
  have hc : ∀ p ∈ (cpl ps).dropLast, ps[p.1]? = some p.2 ∧ p.1 < p.2 := fun p hp => (mem_cpl hP).mp (List.dropLast_subset _ hp)
  have hcalls : Calls n (cpl ps).dropLast := fun p hp => by
    have := hc p hp
    exact ⟨this.2, (hP.back this.1).2.1⟩
  have hR := runs_pair _ hQ hcalls
  have good : ∀ {x : Nat}, x < n → ∀ {p : Nat × Nat}, p ∈ (cpl ps).dropLast → (p.1 = x ∨ p.2 = x) → (runs (cpl ps).dropLast q0).getD x 0 = ps.getD x 0 := fun {x} hx {p} hp e => by
    have px := hP.d hx
    have pp := hc p hp
    refine runs_keep hP _ hQ hc x _ px.2.2.2 (.inr ?_)
    rcases e with e | e
    · left
      have : ps.getD x 0 = p.2 := by rw [← e]; exact getD_of pp.1
      rw [this, ← e]; exact hp
    · right
      have : ps.getD x 0 = p.1 := by rw [← e]; exact getD_of (hP.back pp.1).1
      rw [this, ← e]; exact hp
  refine list_d (by rw [hR.len, hP.len]) fun x hx => ?_
  rw [hR.len] at hx
  obtain ⟨p, hp, ep⟩ := cpl_cover hP hx
  rcases in_drop hp with z | ⟨hn, z⟩
  · exact good hx z ep
  · have rx := hR.d hx
    have px := hP.d hx
    obtain ⟨p', hp', ep'⟩ := cpl_cover hP rx.1
    rcases in_drop hp' with z' | ⟨hn', z'⟩
    · have g := good rx.1 z' ep'
      rw [rx.2.2.1] at g
      have := (hP.d rx.1).2.2.1
      rw [← g] at this
      exact this.symm
    · have e : p' = p := z'.trans z.symm
      subst e
      have pp := (mem_cpl hP).mp hp
      have g1 := getD_of pp.1
      have g2 := getD_of (hP.back pp.1).1
      rcases ep with e | e
      · rw [← e, g1]
        rcases ep' with e' | e'
        · exact absurd (e'.symm.trans e).symm (fun w => rx.2.1 w.symm)
        · rw [← e] at e'; exact e'.symm
      · rw [← e, g2]
        rcases ep' with e' | e'
        · rw [← e] at e'; exact e'.symm
        · exact absurd (e'.symm.trans e).symm (fun w => rx.2.1 w.symm)
end Pc
namespace Pc
open PySem PySem.Spec PyProof.Rows L2 RZ
theorem cut_k (vs : List V) (i : Nat) : cutV vs none (some (i : Int)) = vs.take i := by
  unfold cutV
  rw [HT.sIx_none, HT.sIx_nat, List.drop_zero, Nat.sub_zero]
  by_cases h : i ≤ vs.length
  · rw [Nat.min_eq_left h]
  · rw [Nat.min_eq_right (by omega), List.take_of_length_le (Nat.le_refl _), List.take_of_length_le (by omega)]
end Pc
namespace Pc
open PySem PySem.Spec PyProof.Rows L2 RZ
/-! ### pairs that have everybody once make a pairing -/
def prt (qs : List (Nat × Nat)) (z : Nat) : Nat := match qs.find? (fun p => decide (p.1 = z) || decide (p.2 = z)) with
  | some p => if p.1 = z then p.2 else p.1
  | none => 0
def mkp (qs : List (Nat × Nat)) : List Nat := (List.range (2 * qs.length)).map (prt qs)
theorem mkp_len (qs : List (Nat × Nat)) : (mkp qs).length = 2 * qs.length := by unfold mkp; rw [List.length_map, List.length_range]
theorem mkp_get {qs : List (Nat × Nat)} {z : Nat} (h : z < 2 * qs.length) : (mkp qs)[z]? = some (prt qs z) := by unfold mkp; rw [List.getElem?_map, List.getElem?_range h]; rfl
theorem prt_of : ∀ {qs : List (Nat × Nat)}, (flat qs).Nodup → ∀ {p : Nat × Nat}, p ∈ qs → prt qs p.1 = p.2 ∧ prt qs p.2 = p.1
  | [], _, _, h => absurd h List.not_mem_nil
  | q :: qs, hn, p, h => by
    have hn' : (q.1 :: q.2 :: flat qs).Nodup := hn
    rw [List.nodup_cons, List.nodup_cons] at hn'
    obtain ⟨n1, n2, n3⟩ := hn'
    have n12 : q.1 ≠ q.2 := fun e => n1 (by rw [e]; exact List.mem_cons_self)
    have m1 : q.1 ∉ flat qs := fun e => n1 (List.mem_cons_of_mem _ e)
    rcases List.mem_cons.mp h with e | h'
    · subst e
      unfold prt
      rw [List.find?_cons_of_pos (by simp), List.find?_cons_of_pos (by simp)]
      exact ⟨if_pos rfl, if_neg n12⟩
    · have a1 : p.1 ∈ flat qs := flat_mem.mpr ⟨p, h', .inl rfl⟩
      have a2 : p.2 ∈ flat qs := flat_mem.mpr ⟨p, h', .inr rfl⟩
      have c : ∀ z, z ∈ flat qs → prt (q :: qs) z = prt qs z := fun z hz => by
        unfold prt
        rw [List.find?_cons_of_neg]
        intro e
        rw [Bool.or_eq_true, decide_eq_true_eq, decide_eq_true_eq] at e
        rcases e with e | e
        · exact m1 (by rw [e]; exact hz)
        · exact n2 (by rw [e]; exact hz)
      rw [c _ a1, c _ a2]
      exact prt_of n3 h'
theorem makes_mkp {qs : List (Nat × Nat)} (h : (flat qs).Perm (List.range (2 * qs.length))) : Makes qs (mkp qs) where
  half := (mkp_len qs).symm
  ok p hp := by
    have hn : (flat qs).Nodup := h.nodup_iff.mpr List.nodup_range
    have l1 : p.1 < 2 * qs.length := List.mem_range.mp (h.mem_iff.mp (flat_mem.mpr ⟨p, hp, .inl rfl⟩))
    have l2 : p.2 < 2 * qs.length := List.mem_range.mp (h.mem_iff.mp (flat_mem.mpr ⟨p, hp, .inr rfl⟩))
    rw [mkp_get l1, mkp_get l2, (prt_of hn hp).1, (prt_of hn hp).2]
    exact ⟨rfl, rfl⟩
  all z hz := by
    rw [mkp_len] at hz
    obtain ⟨p, hp, e⟩ := flat_mem.mp (h.mem_iff.mpr (List.mem_range.mpr hz))
    exact ⟨p, hp, e.imp Eq.symm Eq.symm⟩
theorem flat_ne {qs : List (Nat × Nat)} (h : (flat qs).Nodup) {p : Nat × Nat} (hp : p ∈ qs) : p.1 ≠ p.2 := by
  induction qs with
  | nil => exact absurd hp List.not_mem_nil
  | cons q r ih =>
    have hn' : (q.1 :: q.2 :: flat r).Nodup := h
    rw [List.nodup_cons, List.nodup_cons] at hn'
    rcases List.mem_cons.mp hp with e | e
    · subst e; exact fun e => hn'.1 (by rw [e]; exact List.mem_cons_self)
    · exact ih hn'.2.2 e
theorem Makes.pair {qs : List (Nat × Nat)} {ps : List Nat} (m : Makes qs ps) (h : ∀ p ∈ qs, p.1 ≠ p.2) : IsPair ps.length ps where
  len := rfl
  par x hx := by
    obtain ⟨p, hp, e⟩ := m.all x hx
    obtain ⟨o1, o2⟩ := m.ok p hp
    have ne := h p hp
    rcases e with e | e
    · subst e; exact ⟨p.2, o1, get_lt o2, fun z => ne z.symm, o2⟩
    · subst e; exact ⟨p.1, o2, get_lt o1, ne, o1⟩
theorem mkp_pair {qs : List (Nat × Nat)} (h : (flat qs).Perm (List.range (2 * qs.length))) : IsPair (2 * qs.length) (mkp qs) := by
  have := (makes_mkp h).pair fun p hp => flat_ne (h.nodup_iff.mpr List.nodup_range) hp
  rw [mkp_len] at this
  exact this
/-- what the same pairs make is one -/
theorem Makes.one {qs : List (Nat × Nat)} {ps rs : List Nat} (m : Makes qs ps) (k : Makes qs rs) : ps = rs := by
  have hl : ps.length = rs.length := by rw [← m.half, k.half]
  refine List.ext_getElem? fun z => ?_
  by_cases hz : z < ps.length
  · obtain ⟨p, hp, e⟩ := m.all z hz
    rcases e with e | e
    · rw [← e, (m.ok p hp).1, (k.ok p hp).1]
    · rw [← e, (m.ok p hp).2, (k.ok p hp).2]
  · rw [List.getElem?_eq_none (by omega), List.getElem?_eq_none (by omega)]
/-! ### the pairing with a number -/
def una : Nat → List Nat → Nat → List (Nat × Nat)
  | 0, _, _ => []
  | j + 1, l, k => (l.getD 0 0, l.tail.getD (k / dfac j) 0) :: una j (l.tail.eraseIdx (k / dfac j)) (k % dfac j)
theorem una_len : ∀ (j : Nat) (l : List Nat) (k : Nat), (una j l k).length = j
  | 0, _, _ => rfl
  | j + 1, l, k => by
    show (una j _ _).length + 1 = j + 1
    rw [una_len j]
theorem choice_lt {j k : Nat} (h : k < dfac (j + 1)) : k / dfac j < 2 * j + 1 := by
  rw [Nat.div_lt_iff_lt_mul (dfac_pos j), Nat.mul_comm]
  exact h
theorem flat_una : ∀ (j : Nat) {l : List Nat} {k : Nat}, l.length = 2 * j → k < dfac j → (flat (una j l k)).Perm l
  | 0, l, k, hl, _ => by
    have : l = [] := List.length_eq_zero_iff.mp (by omega)
    subst this
    exact List.Perm.refl _
  | j + 1, [], k, hl, _ => by simp at hl
  | j + 1, x :: t, k, hl, hk => by
    have ht : t.length = 2 * j + 1 := by rw [List.length_cons] at hl; omega
    have hc := choice_lt hk
    have e : t.getD (k / dfac j) 0 = t[k / dfac j]'(by omega) := by rw [List.getD_eq_getElem?_getD, List.getElem?_eq_getElem (by omega)]; rfl
    show (x :: t.getD (k / dfac j) 0 :: flat (una j (t.eraseIdx (k / dfac j)) (k % dfac j))).Perm (x :: t)
    rw [e]
    refine List.Perm.cons x (((flat_una j (by rw [List.length_eraseIdx, if_pos (by omega)]; omega) (Nat.mod_lt _ (dfac_pos j))).cons _).trans (perm_erase (by omega)))
def pat (r k : Nat) : List Nat := mkp (una r (List.range (2 * r)) k)
theorem una_flat {r k : Nat} (hk : k < dfac r) : (flat (una r (List.range (2 * r)) k)).Perm (List.range (2 * (una r (List.range (2 * r)) k).length)) := by
  rw [una_len]
  exact flat_una r (by rw [List.length_range]) hk
theorem pat_pair {r k : Nat} (hk : k < dfac r) : IsPair (2 * r) (pat r k) := by
  have := mkp_pair (una_flat hk)
  rw [una_len] at this
  exact this
theorem pat_makes {r k : Nat} (hk : k < dfac r) : Makes (una r (List.range (2 * r)) k) (pat r k) := makes_mkp (una_flat hk)
end Pc
namespace Pc
open PySem PySem.Spec PyProof.Rows L2 RZ
/-! ### results by number -/
theorem lse_le (f : List Nat) (n : Nat) : (lse f n).length ≤ n := Nat.le_trans (List.length_filter_le _ _) (by rw [List.length_range]; exact Nat.le_refl _)
theorem los_in {f : List Nat} {n x y : Nat} (hf : IsPair (2 * n) f) (hx : x < n) (e : f.getD (n + x) 0 = n + y) (hxy : x < y) : (x, y) ∈ los f n := by
  unfold los
  rw [selN_mem]
  refine ⟨x, hx, ?_, ?_⟩
  · unfold loC; rw [e]; exact decide_eq_true (by omega)
  · unfold loG; rw [e]; congr 1; omega
theorem flat_shift (n : Nat) : ∀ qs : List (Nat × Nat), flat (qs.map fun p => (n + p.1, n + p.2)) = (flat qs).map (n + ·)
  | [] => rfl
  | p :: r => by
    show (n + p.1) :: (n + p.2) :: flat (r.map fun p => (n + p.1, n + p.2)) = _
    rw [flat_shift n r]; rfl
theorem nodup_of_map {α β : Type} (g : α → β) : ∀ {l : List α}, (l.map g).Nodup → l.Nodup
  | [], _ => List.nodup_nil
  | x :: r, h => by
    have h' : (g x :: r.map g).Nodup := h
    rw [List.nodup_cons] at h'
    exact List.nodup_cons.mpr ⟨fun m => h'.1 (List.mem_map.mpr ⟨x, m, rfl⟩), nodup_of_map g h'.2⟩
theorem nodup_map {α β : Type} {g : α → β} (inj : ∀ a b, g a = g b → a = b) : ∀ {l : List α}, l.Nodup → (l.map g).Nodup
  | [], _ => List.nodup_nil
  | x :: r, h => by
    rw [List.nodup_cons] at h
    refine List.nodup_cons.mpr ⟨fun m => ?_, nodup_map inj h.2⟩
    obtain ⟨y, hy, e⟩ := List.mem_map.mp m
    rw [inj _ _ e] at hy
    exact h.1 hy
theorem los_perm {f : List Nat} {n : Nat} (hf : IsPair (2 * n) f) : (flat (los f n) ++ lse f n).Perm (List.range n) := by
  have hlo : ∀ {z : Nat}, z ∈ flat (los f n) → z < n ∧ n ≤ f.getD (n + z) 0 := fun {z} hz => by
    obtain ⟨p, hp, e⟩ := flat_mem.mp hz
    obtain ⟨e1, e2, e3⟩ := los_mem hf hp
    rcases e with e | e
    · subst e; rw [getD_of e1]; omega
    · subst e; rw [getD_of (hf.back e1).1]; omega
  have nd1 : (flat (los f n)).Nodup := by
    refine nodup_of_map (n + ·) ?_
    rw [← flat_shift]
    refine flat_nodup hf (fun p hp => ?_) ?_
    · obtain ⟨q, hq, e⟩ := List.mem_map.mp hp
      obtain ⟨e1, e2, _⟩ := los_mem hf hq
      rw [← e]
      exact ⟨e1, by show n + q.1 < n + q.2; omega⟩
    · rw [List.map_map]
      have : ((los f n).map Prod.fst).Nodup := by
        unfold los
        rw [sel_fst (g := loG f n) (fun x => rfl)]
        exact List.nodup_range.filter _
      have e : (los f n).map (Prod.fst ∘ fun p => (n + p.1, n + p.2)) = ((los f n).map Prod.fst).map (n + ·) := by rw [List.map_map]; rfl
      rw [e]
      exact nodup_map (fun a b (h : n + a = n + b) => by omega) this
  refine (List.perm_ext_iff_of_nodup (List.nodup_append.mpr ⟨nd1, lse_nodup f n, fun a ha b hb e => ?_⟩) List.nodup_range).mpr fun z => ?_
  · subst e
    have h1 := (hlo ha).2
    have h2 := of_decide_eq_true (lse_mem.mp hb).2
    omega
  · rw [List.mem_append, List.mem_range]
    constructor
    · rintro (h | h)
      · exact (hlo h).1
      · exact (lse_mem.mp h).1
    · intro hz
      have d := hf.d (show n + z < 2 * n by omega)
      by_cases c : f.getD (n + z) 0 < n
      · exact .inr (lse_mem.mpr ⟨hz, decide_eq_true c⟩)
      · refine .inl (flat_mem.mpr ?_)
        obtain ⟨y, ey⟩ : ∃ y, f.getD (n + z) 0 = n + y := ⟨f.getD (n + z) 0 - n, by omega⟩
        rw [ey] at d
        by_cases c2 : z < y
        · exact ⟨_, los_in hf hz ey c2, .inl rfl⟩
        · exact ⟨_, los_in hf (show y < n by omega) d.2.2.1 (by omega), .inr rfl⟩
theorem cpl_flat {n : Nat} {ps : List Nat} (h : IsPair n ps) : (flat (cpl ps)).Perm (List.range n) := by
  have nd : ((cpl ps).map Prod.fst).Nodup := by
    unfold cpl cplN
    rw [List.map_map]
    have : (Prod.fst ∘ fun x => (x, ps.getD x 0)) = (id : Nat → Nat) := rfl
    rw [this, List.map_id]
    exact List.nodup_range.filter _
  refine (List.perm_ext_iff_of_nodup (flat_nodup h (fun p hp => (mem_cpl h).mp hp) nd) List.nodup_range).mpr fun z => ?_
  rw [flat_mem, List.mem_range]
  constructor
  · rintro ⟨p, hp, e⟩
    obtain ⟨b1, b2, b3, _⟩ := h.back ((mem_cpl h).mp hp).1
    rcases e with e | e <;> omega
  · intro hz
    obtain ⟨p, hp, e⟩ := cpl_cover h hz
    exact ⟨p, hp, e.imp Eq.symm Eq.symm⟩
/-- the pairs at the places that qs name -/
def rel (l : List Nat) (qs : List (Nat × Nat)) : List (Nat × Nat) := qs.map fun p => (l.getD p.1 0, l.getD p.2 0)
theorem flat_rel (l : List Nat) : ∀ qs : List (Nat × Nat), flat (rel l qs) = (flat qs).map fun i => l.getD i 0
  | [] => rfl
  | p :: r => by
    show l.getD p.1 0 :: l.getD p.2 0 :: flat (rel l r) = _
    rw [flat_rel l r]; rfl
theorem range_getD (l : List Nat) : (List.range l.length).map (fun i => l.getD i 0) = l := by
  refine List.ext_getElem? fun i => ?_
  rw [List.getElem?_map]
  by_cases h : i < l.length
  · rw [List.getElem?_range h, List.getElem?_eq_getElem h, Option.map_some, List.getD_eq_getElem?_getD, List.getElem?_eq_getElem h]; rfl
  · rw [List.getElem?_eq_none (by rw [List.length_range]; omega), List.getElem?_eq_none (by omega)]; rfl
def rpr (f : List Nat) (n k : Nat) : List (Nat × Nat) := los f n ++ rel (lse f n) (cpl (pat ((lse f n).length / 2) k))
def rat (f : List Nat) (n k : Nat) : List Nat := mkp (rpr f n k)
section
variable {f : List Nat} {n k : Nat}
theorem lse_even (hf : IsPair (2 * n) f) (he : n % 2 = 0) : (lse f n).length % 2 = 0 ∧ (lse f n).length ≤ n ∧ 2 * (los f n).length + (lse f n).length = n := by
  have h1 := (los_perm hf).length_eq
  rw [List.length_append, flat_len, List.length_range] at h1
  omega
theorem rpr_flat0 (hf : IsPair (2 * n) f) (he : n % 2 = 0) (hk : k < dfac ((lse f n).length / 2)) : (flat (rpr f n k)).Perm (List.range n) := by
  unfold rpr
  rw [flat_app, flat_rel]
  refine List.Perm.trans ?_ (los_perm hf)
  refine List.Perm.append_left _ ?_
  have h1 := (cpl_flat (pat_pair hk)).map fun i => (lse f n).getD i 0
  rw [show 2 * ((lse f n).length / 2) = (lse f n).length by have := lse_even hf he; omega] at h1
  rw [range_getD] at h1
  exact h1
theorem rpr_len (hf : IsPair (2 * n) f) (he : n % 2 = 0) (hk : k < dfac ((lse f n).length / 2)) : 2 * (rpr f n k).length = n := by
  have := (rpr_flat0 hf he hk).length_eq
  rw [flat_len, List.length_range] at this
  exact this
theorem rpr_flat (hf : IsPair (2 * n) f) (he : n % 2 = 0) (hk : k < dfac ((lse f n).length / 2)) : (flat (rpr f n k)).Perm (List.range (2 * (rpr f n k).length)) := by
  rw [rpr_len hf he hk]; exact rpr_flat0 hf he hk
theorem rat_makes (hf : IsPair (2 * n) f) (he : n % 2 = 0) (hk : k < dfac ((lse f n).length / 2)) : Makes (rpr f n k) (rat f n k) := makes_mkp (rpr_flat hf he hk)
theorem rat_pair (hf : IsPair (2 * n) f) (he : n % 2 = 0) (hk : k < dfac ((lse f n).length / 2)) : IsPair n (rat f n k) := by
  have := mkp_pair (rpr_flat hf he hk)
  rw [rpr_len hf he hk] at this
  exact this
/-- with two strands at most: the only result -/
theorem rat_rd {ps : List Nat} (hf : IsPair (2 * n) f) (he : n % 2 = 0) (hl : (lse f n).length ≤ 2) (hP : IsPair n ps) : rat f n 0 = rd f ps n := by
  have hR := rd_pair hf hP
  have hk : 0 < dfac ((lse f n).length / 2) := dfac_pos _
  refine (rat_makes hf he hk).one ⟨by rw [rpr_len hf he hk, hR.len], fun p hp => ?_, fun z hz => ?_⟩
  · unfold rpr at hp
    rcases List.mem_append.mp hp with h | h
    · have := rd_los (ps := ps) hf h
      exact ⟨this, (hR.back this).1⟩
    · have h2 : (lse f n).length = 2 := by
        have h3 := lse_even hf he
        by_cases h0 : (lse f n).length = 2
        · exact h0
        · have h4 : (lse f n).length = 0 := by omega
          rw [h4] at h
          simp [rel, pat, una, mkp, cpl, cplN] at h
      rw [h2] at h
      have e : cpl (pat (2 / 2) 0) = [(0, 1)] := by decide
      rw [e] at h
      obtain ⟨x, y, exy⟩ : ∃ x y, lse f n = [x, y] := by
        match hh : lse f n, h2 with
        | [x, y], _ => exact ⟨x, y, rfl⟩
      rw [exy] at h
      have hp' : p = (x, y) := by simpa [rel] using h
      subst hp'
      have hx : x ∈ lse f n := by rw [exy]; exact List.mem_cons_self
      have hq := rd_loose hf hP hx
      have e2 : (rd f ps n).getD x 0 = y := by
        have := hq.1
        rw [exy] at this
        rcases List.mem_cons.mp this with z | z
        · exact absurd z hq.2
        · exact List.mem_singleton.mp z
      have xn := (lse_mem.mp hx).1
      have e3 : (rd f ps n)[x]? = some y := by rw [(hR.d xn).2.2.2, e2]
      exact ⟨e3, (hR.back e3).1⟩
  · rw [hR.len] at hz
    obtain ⟨p, hp, e⟩ := flat_mem.mp ((rpr_flat0 hf he hk).mem_iff.mpr (List.mem_range.mpr hz))
    exact ⟨p, hp, e.imp Eq.symm Eq.symm⟩
end
theorem dfac_one {r : Nat} : dfac r = 1 ↔ r ≤ 1 := by
  constructor
  · intro h
    match r, h with
    | 0, _ => omega
    | 1, _ => omega
    | r + 2, h =>
      have : dfac (r + 1) * (2 * (r + 1) + 1) = 1 := h
      have := Nat.eq_one_of_mul_eq_one_left this
      omega
  · intro h
    rcases (show r = 0 ∨ r = 1 by omega) with e | e <;> subst e <;> rfl
end Pc
namespace Pc
open PySem PySem.Spec PyProof.Rows L2 RZ
/-! ### data of small size, by its depth -/
def Sz : Nat → Nat
  | 0 => 61
  | 1 => 6303
  | 2 => 630503
  | _ => 15762628
abbrev Fi (j : Nat) (d : PyData) : Prop := Fine j (Sz j) d
theorem Sz_le : ∀ j, Sz j ≤ Sz (j + 1)
  | 0 => by decide
  | 1 => by decide
  | 2 => by decide
  | _ + 3 => Nat.le_refl _
theorem Fine.up {j : Nat} {d : PyData} (h : Fi j d) : Fi (j + 1) d := h.mono (Nat.le_succ _) (Sz_le j)
theorem Fine.sh {j : Nat} {d : PyData} (h : Fi j d) (hj : j ≤ 60 := by decide) : SeqAt.shaped d = true := Fine.shaped h (by omega)
theorem fi_int {i : Int} (h : i.natAbs < 2 ^ 60) : Fi 0 (.int i) := fine_int h
theorem fi_bl {b : Bool} : Fi 0 (.bool b) := ⟨rfl, rfl, Nat.le_refl _, trivial, by cases b <;> decide⟩
theorem fi_non : Fi 0 .none := ⟨rfl, rfl, Nat.le_refl _, trivial, by decide⟩
theorem fi_tup {l : List Nat} {m : Nat} (hl : IsPair m l) (hm : m ≤ 100) : Fi 1 (td l) := (fine_tup (n := 100) (fun i hi => by have := hl.lt i hi; omega) (by rw [hl.len]; omega) (by decide)).mono (Nat.le_refl _) (by decide)
/-- numbers of small size, not many -/
def Fw (l : List Nat) : Prop := l.length ≤ 100 ∧ ∀ i ∈ l, i < 2 ^ 60
theorem fb {l : List Nat} {m : Nat} (hl : IsPair m l) (hm : m ≤ 100) : Fw l := ⟨by rw [hl.len]; exact hm, fun i hi => by have := hl.lt i hi; omega⟩
theorem fi_tup' {l : List Nat} (h : Fw l) : Fi 1 (td l) := (fine_tup (n := 100) h.2 h.1 (by decide)).mono (Nat.le_refl _) (by decide)
theorem fi_lst {l : List Nat} (h : Fw l) : Fi 1 (.list (nd l)) := (fine_list (k := 0) (m := 61) (n := 100) (fine_nd h.2) (by rw [nd_length]; exact h.1) (by decide)).mono (Nat.le_refl _) (by decide)
theorem fi_prs {qs : List (Nat × Nat)} (h : qs.length ≤ 1000 ∧ ∀ p ∈ qs, p.1 < 2 ^ 60 ∧ p.2 < 2 ^ 60) : Fi 2 (.list (qs.map pd)) := (fine_pds (n := 1000) h.2 h.1 (by decide)).mono (Nat.le_refl _) (by decide)
theorem fa_nil {j : Nat} : ∀ d ∈ ([] : List PyData), Fi j d := fun _ h => absurd h List.not_mem_nil
theorem fa_cons {j : Nat} {d : PyData} {ds : List PyData} (h : Fi j d) (r : ∀ x ∈ ds, Fi j x) : ∀ x ∈ d :: ds, Fi j x := fun x hx => (List.mem_cons.mp hx).elim (fun e => by rw [e]; exact h) (r x)
def Few (j n : Nat) : Prop := n * (Sz j + 2) + 3 ≤ Sz (j + 1) ∧ n ≤ 100000
instance (j n : Nat) : Decidable (Few j n) := by unfold Few; infer_instance
theorem fi_list {j : Nat} {ds : List PyData} (h : ∀ d ∈ ds, Fi j d) (hn : n = ds.length := by rfl) (hf : Few j n := by decide) : Fi (j + 1) (.list ds) := (fine_list (k := j) (m := Sz j) (n := n) h (by rw [hn]; exact Nat.le_refl _) hf.2).mono (Nat.le_refl _) hf.1
theorem fi_tuple {j : Nat} {ds : List PyData} (h : ∀ d ∈ ds, Fi j d) (hn : n = ds.length := by rfl) (hf : Few j n := by decide) : Fi (j + 1) (.tuple ds) := (fine_tuple (k := j) (m := Sz j) (n := n) h (by rw [hn]; exact Nat.le_refl _) hf.2).mono (Nat.le_refl _) hf.1
theorem fi_ne {j : Nat} {d : PyData} (h : Fi j d) : (!PyData.eqv d d) = false := by
  rw [PySem.SeqAt.eqv_refl _ h.lay]; rfl
theorem fi_eq {j : Nat} {d : PyData} (h : Fi j d) : PyData.eqv d d = true := PySem.SeqAt.eqv_refl _ h.lay
/-! ### arguments by name, in another order -/
def pm10 {α : Type} : List α → List α
  | [a, b] => [b, a]
  | l => l
theorem rel_pm10 {zs : List V} {ws : List Value} (_ : zs.length = 2) (r : Vals zs ws) : Vals (pm10 zs) (pm10 ws) := by
  match zs, ws, r with
  | [], _, .nil => exact .nil
  | [_], _, .cons h .nil => exact .cons h .nil
  | [_, _], _, .cons h1 (.cons h2 .nil) => exact .cons h2 (.cons h1 .nil)
  | _ :: _ :: _ :: _, _, .cons h1 (.cons h2 (.cons h3 r)) => exact .cons h1 (.cons h2 (.cons h3 r))
def pm0 {α : Type} (l : List α) : List α := l
theorem rel_pm0 {zs : List V} {ws : List Value} (_ : zs.length = 1) (r : Vals zs ws) : Vals (pm0 zs) (pm0 ws) := r
end Pc
namespace Pc
open PySem PySem.Spec PyProof.Rows L2 RZ
theorem calls_app {n : Nat} {qs rs : List (Nat × Nat)} (h : Calls n qs) (g : Calls n rs) : Calls n (qs ++ rs) := fun q hq => (List.mem_append.mp hq).elim (h q) (g q)
end Pc
namespace Pc
open PySem PySem.Spec PyProof.Rows L2 RZ
/-- the slots, written out -/
theorem st_eq {t : TS} {D : L2.Ends} {σ : L2.St} {H : Hp} (σ' : L2.St) (h : t D σ' H) (e : σ = σ') : t D σ H := by rw [e]; exact h
end Pc
namespace Pc
open PySem PySem.Spec PyProof.Rows L2 RZ
theorem st_set {i : Nat} {v : V} {σ : L2.St} {H : Hp} {Q : L2.St → Hp → Prop} (σ' : L2.St) (h : Q σ' H) (e : σ.set i (some v) = σ') : gName i v σ H Q := by
  unfold gName
  rw [e]; exact h
end Pc
namespace Pc
open PySem PySem.Spec PyProof.Rows L2 RZ
theorem fi_same {x y : V} (e : x = y) : (!decide (x = y)) = false := by rw [decide_eq_true e]; rfl
theorem fi_is {x y : V} (e : x = y) : decide (x = y) = true := decide_eq_true e
end Pc
namespace Pc
open PySem PySem.Spec PyProof.Rows L2 RZ
theorem st_kept {D : L2.Ends} {i : Nat} {a C d : Addr} {σ1 : L2.St} {H : Hp} (σ' : L2.St) (h : D.nx σ' (upd H a (exk a (.ref C) (some d)))) (e : σ1.set i none = σ') :
    ({ nx := fun σ'' H'' => D.nx (σ''.set i none) (upd H'' a (exk a (.ref C) (some d))), rt := fun _ _ => False } : L2.Ends).nx σ1 H := by
  show D.nx (σ1.set i none) _
  rw [e]; exact h
end Pc
namespace Pc
open PySem PySem.Spec PyProof.Rows L2 RZ
theorem st_setH {i : Nat} {v : V} {σ : L2.St} {H : Hp} {Q : L2.St → Hp → Prop} (σ' : L2.St) (H' : Hp) (h : Q σ' H') (e : σ.set i (some v) = σ') (eh : H = H') : gName i v σ H Q := by
  unfold gName
  rw [e, eh]; exact h
end Pc
namespace Pc
open PySem PySem.Spec PyProof.Rows L2 RZ
section
variable {P : Program} {w : World} {K : PySem.W.Frag} {mg : Str → Option Value} {base : Heap}
/-! ### the looks at calls: valid ones raise nothing -/
def spCheckPerson : Sp := fun vs H Q _ => ∃ (n u : Nat), vs = [.int n, .int u] ∧ u < n ∧ Q .non H
theorem ok_p_check_person (T : Env K mg) : FnOk P w K mg base CX0 1 T.f_p_check_person T.d_p_check_person ["size", "person"] spCheckPerson := by
  refine T.F_p_check_person.ok sc_p_check_person (fun vs H Q E h => ?_) (fun cdv A outer s H vs Q E hr h => ?_)
  · obtain ⟨n, u, rfl, _⟩ := h
    rfl
  · obtain ⟨n, u, rfl, hu, q⟩ := h
    refine ⟨_, pss_one (ps_if (pt_not (pt_chain op_le op_lt pe_int (pv 1) (pv 0))) pss_never pss_nil), ?_⟩
    refine ⟨_, rfl, 0, u, rfl, rfl, _, rfl, ?_⟩
    rw [decide_eq_true (show (0 : Int) ≤ (u : Int) by omega)]
    refine iteT ⟨.int n, rfl, u, n, rfl, rfl, _, rfl, ?_⟩
    rw [decide_eq_true (show (u : Int) < (n : Int) by omega)]
    exact iteN q
def spCheckCall (K : PySem.W.Frag) : Sp := fun vs H Q _ => ∃ (n a b : Nat) (c : Addr), vs = [.int n, .ref c] ∧ Sq K H c [.int a, .int b] ∧ a < n ∧ b < n ∧ Q .non H
theorem ok_p_check_call (T : Env K mg) : FnOk P w K mg base CX0 2 T.f_p_check_call T.d_p_check_call ["size", "call"] (spCheckCall K) := by
  have G1 : FnOk P w K mg base CX0 1 T.f_p_check_person T.d_p_check_person ["size", "person"] spCheckPerson := ok_p_check_person T
  refine T.F_p_check_call.ok sc_p_check_call (fun vs H Q E h => ?_) (fun cdv A outer s H vs Q E hr h => ?_)
  · obtain ⟨n, a, b, c, rfl, _⟩ := h
    rfl
  · obtain ⟨n, a, b, c, rfl, hS, ha, hb, q⟩ := h
    refine ⟨_, pss_one (ps_for PassesOwn.never rfl (pi_seq (pv 1)) (pg_name (i := 2) sc_p_check_call.nd rfl (.inl rfl)) (pss_one (ps_expr (pe_call G1 hr (by rfl) T.g_p_check_person T.F_p_check_person.kp T.b_p_check_person .nil pass0 (pa_cons (pv 0) (pa_cons (pv 2) pa_nil)))))), ?_⟩
    refine ⟨.ref c, rfl, c, rfl, for_seq hS (fun i σ H' => H' = H ∧ ∃ y : Option V, σ = [some (.int n), some (.ref c), y]) ⟨rfl, none, rfl⟩ (fun i σ H' h => by rw [h.1]; exact Same.refl _) (fun i x σ H' hx h => ?_) (fun σ H' h => by rw [h.1]; exact q)⟩
    obtain ⟨rfl, y, rfl⟩ := h
    have hx' : ∃ u : Nat, x = .int u ∧ u < n := by
      have hi : i < 2 := get_lt hx
      rcases (show i = 0 ∨ i = 1 by omega) with z | z
      · subst z; exact ⟨a, (Option.some.inj hx).symm, ha⟩
      · subst z; exact ⟨b, (Option.some.inj hx).symm, hb⟩
    obtain ⟨u, rfl, hu⟩ := hx'
    exact ⟨_, rfl, _, rfl, n, u, rfl, hu, rfl, _, rfl⟩
def spCheckWord (K : PySem.W.Frag) : Sp := fun vs H Q _ => ∃ (n : Nat) (wd : Addr) (us : List V) (qs : List (Nat × Nat)), vs = [.int n, .ref wd] ∧ Sq K H wd us ∧ Items K H us qs ∧ Calls n qs ∧ Q .non H
theorem ok_p_check_word (T : Env K mg) : FnOk P w K mg base CX0 3 T.f_p_check_word T.d_p_check_word ["size", "word"] (spCheckWord K) := by
  have G1 : FnOk P w K mg base CX0 2 T.f_p_check_call T.d_p_check_call ["size", "call"] (spCheckCall K) := ok_p_check_call T
  refine T.F_p_check_word.ok sc_p_check_word (fun vs H Q E h => ?_) (fun cdv A outer s H vs Q E hr h => ?_)
  · obtain ⟨n, wd, us, qs, rfl, _⟩ := h
    rfl
  · obtain ⟨n, wd, us, qs, rfl, hS, hI, hc, q⟩ := h
    refine ⟨_, pss_one (ps_for PassesOwn.never rfl (pi_seq (pv 1)) (pg_name (i := 2) sc_p_check_word.nd rfl (.inl rfl)) (pss_one (ps_expr (pe_call G1 hr (by rfl) T.g_p_check_call T.F_p_check_call.kp T.b_p_check_call .nil pass0 (pa_cons (pv 0) (pa_cons (pv 2) pa_nil)))))), ?_⟩
    refine ⟨.ref wd, rfl, wd, rfl, for_seq hS (fun i σ H' => H' = H ∧ ∃ y : Option V, σ = [some (.int n), some (.ref wd), y]) ⟨rfl, none, rfl⟩ (fun i σ H' h => by rw [h.1]; exact Same.refl _) (fun i x σ H' hx h => ?_) (fun σ H' h => by rw [h.1]; exact q)⟩
    obtain ⟨rfl, y, rfl⟩ := h
    obtain ⟨c, p, rfl, hp, hq⟩ := hI.2 i x hx
    have := hc p (List.mem_of_getElem? hp)
    exact ⟨.int n, rfl, .ref c, rfl, n, p.1, p.2, c, rfl, hq, by omega, by omega, rfl, _, rfl⟩
/-! ### join_two -/
def spJoin : Sp := fun vs H Q _ => ∃ (j : Addr) (fs : List Nat) (n a b : Nat), vs = [.ref j, .int a, .int b] ∧ H j = some (.lst (nv fs)) ∧ IsPair n fs ∧ a < n ∧ b < n ∧
  ∀ H' : Hp, H' j = some (.lst (nv (jn fs a b))) → Keep j H H' → Q (.bl (!decide (fs.getD a 0 = b))) H'
theorem ok_p_join_two (T : Env K mg) : FnOk P w K mg base CX0 1 T.f_p_join_two T.d_p_join_two ["joined", "a", "b"] spJoin := by
  refine T.F_p_join_two.ok sc_p_join_two (fun vs H Q E h => ?_) (fun cdv A outer s H vs Q E hr h => ?_)
  · obtain ⟨j, fs, n, a, b, rfl, _⟩ := h
    rfl
  · obtain ⟨j, fs, n, a, b, rfl, hj, hP, ha, hb, q⟩ := h
    refine ⟨_, pss_cons (ps_set (i := 3) sc_p_join_two.nd rfl (.inl rfl) (pe_ix ix_list (pv 0) (pv 1) (fun _ _ => rfl))) <|
      pss_cons (ps_set (i := 4) sc_p_join_two.nd rfl (.inl rfl) (pe_ix ix_list (pv 0) (pv 2) (fun _ _ => rfl))) <|
      pss_cons (ps_if (pt_cmpR op_eq (pv 3) (pv 2) (nomark _)) (pss_one (ps_ret pe_bl)) pss_nil) <|
      pss_cons (ps_asg (pv 2) (pg_sub (pv 0) (pv 1) set_list)) <| pss_cons (ps_asg (pv 1) (pg_sub (pv 0) (pv 2) set_list)) <|
      pss_cons (ps_asg (pv 4) (pg_sub (pv 0) (pv 3) set_list)) <| pss_cons (ps_asg (pv 3) (pg_sub (pv 0) (pv 4) set_list)) <| pss_one (ps_ret pe_bl), ?_⟩
    obtain ⟨c, ea, hc, _⟩ := hP.par a ha
    obtain ⟨d, eb, hd, _⟩ := hP.par b hb
    have hS : SqL K H j (nv fs) := .inl (.inl hj)
    have hl := hP.len
    refine ⟨.ref j, rfl, .int a, rfl, j, _, _, _, rfl, rfl, hS, nv_at ea, ?_⟩
    refine ⟨.ref j, rfl, .int b, rfl, j, _, _, _, rfl, rfl, hS, nv_at eb, ?_⟩
    refine ⟨_, rfl, _, rfl, rfl, _, rfl, ite2 (fun e => ?_) (fun e => ?_)⟩
    · have e1 : c = b := by have := V.int.inj (of_decide_eq_true e); omega
      subst e1
      have := q H (by rw [jn_same ea]; exact hj) (Keep.refl _ _)
      rw [getD_of ea, decide_eq_true rfl] at this
      exact this
    · have e1 : c ≠ b := fun z => e (by rw [z]; exact decide_eq_true rfl)
      have ln : ∀ {l : List V}, l.length = fs.length → ∀ {i : Nat}, i < n → ixN l.length (i : Int) = some i := fun {l} hl2 {i} hi => ixN_nat (by rw [hl2, hl]; exact hi)
      refine ⟨_, rfl, .ref j, rfl, _, rfl, j, _, _, a, rfl, rfl, hj, ln (nv_length _) ha, ?_⟩
      refine ⟨_, rfl, .ref j, rfl, _, rfl, j, _, _, b, rfl, rfl, upd_same, ln (by rw [List.length_set, nv_length]) hb, ?_⟩
      refine ⟨_, rfl, .ref j, rfl, _, rfl, j, _, _, c, rfl, rfl, upd_same, ln (by rw [List.length_set, List.length_set, nv_length]) hc, ?_⟩
      refine ⟨_, rfl, .ref j, rfl, _, rfl, j, _, _, d, rfl, rfl, upd_same, ln (by rw [List.length_set, List.length_set, List.length_set, nv_length]) hd, ?_⟩
      have := q (upd (upd (upd (upd H j (.lst ((nv fs).set a (.int b)))) j (.lst (((nv fs).set a (.int b)).set b (.int a)))) j (.lst ((((nv fs).set a (.int b)).set b (.int a)).set c (.int d)))) j (.lst (((((nv fs).set a (.int b)).set b (.int a)).set c (.int d)).set d (.int c))))
        (by
          rw [upd_same, nv_set, nv_set, nv_set, nv_set]
          unfold jn
          rw [getD_of ea, getD_of eb, if_neg e1])
        (fun x o nx hx => by rw [upd_ne nx, upd_ne nx, upd_ne nx, upd_ne nx]; exact hx)
      rw [getD_of ea, decide_eq_false e1] at this
      exact this
end
end Pc
namespace Pc
open PySem PySem.Spec PyProof.Rows L2 RZ
theorem emp_two (n : Nat) : emp n = ((List.range n).map fun i => n + i) ++ List.range n := by
  refine List.ext_getElem? fun z => ?_
  by_cases h : z < n
  · rw [emp_lo h, List.getElem?_append_left (by rw [List.length_map, List.length_range]; exact h), List.getElem?_map, List.getElem?_range h]
    rfl
  · rw [List.getElem?_append_right (by rw [List.length_map, List.length_range]; omega), List.length_map, List.length_range]
    by_cases h2 : z < 2 * n
    · have := emp_hi (n := n) (e := z - n) (by omega)
      rw [show n + (z - n) = z by omega] at this
      rw [this, List.getElem?_range (by omega)]
    · rw [List.getElem?_eq_none (by rw [emp_len]; omega), List.getElem?_eq_none (by rw [List.length_range]; omega)]
end Pc
namespace Pc
open PySem PySem.Spec PyProof.Rows L2 RZ
section
variable {P : Program} {w : World} {K : PySem.W.Frag} {mg : Str → Option Value} {base : Heap}
/-! ### the empty sheet -/
def spEmpty : Sp := fun vs H Q _ => ∃ n : Nat, vs = [.int n] ∧ n ≤ 1000 ∧ ∀ (H' : Hp) (t : Addr), Same H H' → H t = none → H' t = some (.tup (nv (emp n))) → Q (.ref t) H'
theorem ok_p_empty_sheet (T : Env K mg) : FnOk P w K mg base CX0 1 T.f_p_empty_sheet T.d_p_empty_sheet ["size"] spEmpty := by
  refine T.F_p_empty_sheet.ok sc_p_empty_sheet (fun vs H Q E h => ?_) (fun cdv A outer s H vs Q E hr h => ?_)
  · obtain ⟨n, rfl, _⟩ := h
    rfl
  · obtain ⟨n, rfl, hn, q⟩ := h
    refine ⟨_, pss_one (ps_ret (pe_callTy call_tuple_of (by rfl) T.n_tuple (by decide +kernel) (pa_cons (pe_op op_cat (pe_listRg rfl (by rfl) T.n_list (prg_2 (by rfl) T.n_range (pv 0) (pe_op op_mul pe_int (pv 0)))) (pe_listRg rfl (by rfl) T.n_list (prg_1 (by rfl) T.n_range (pv 0)))) pa_nil))), ?_⟩
    refine ⟨_, rfl, _, rfl, 2, n, rfl, rfl, .inl ⟨by decide, by decide⟩, _, _, rfl, rfl, RgOk.of_le (by omega) (by omega) (by omega) (by omega), fun a na => ?_⟩
    have s1 : Same H _ := same_new (o := .lst (rgV (n : Int) (2 * (n : Int)))) na
    refine ⟨_, rfl, _, rfl, RgOk.of_le (by decide) (by omega) (by decide) (by omega), fun c nc => ?_⟩
    have s2 : Same (upd H a (.lst (rgV (n : Int) (2 * (n : Int))))) _ := same_new (o := .lst (rgV 0 (n : Int))) nc
    refine ⟨a, c, _, _, rfl, rfl, s2 _ _ upd_same, upd_same, ?_, fun d nd => ?_⟩
    · rw [rgV_length, rgV_length]
      exact Nat.le_of_lt (line_big (by omega))
    refine ⟨d, _, rfl, .inl ⟨.inl (.inl upd_same), fun t nt => ?_⟩⟩
    have s3 := (s1.trans s2).trans (same_new (o := .lst (rgV (n : Int) (2 * (n : Int)) ++ rgV 0 (n : Int))) nd)
    refine q _ t (s3.trans (same_new nt)) (s3.free nt) ?_
    rw [upd_same, range_shift, rg_nv, emp_two]
    unfold nv
    rw [List.map_append]
end
end Pc
namespace Pc
open PySem PySem.Spec PyProof.Rows L2 RZ
section
variable {P : Program} {w : World} {K : PySem.W.Frag} {mg : Str → Option Value} {base : Heap}
/-! ### sheets with words added -/
def spWithWord (K : PySem.W.Frag) : Sp := fun vs H Q _ => ∃ (a wd : Addr) (fs : List Nat) (us : List V) (qs : List (Nat × Nat)) (n : Nat), vs = [.ref a, .ref wd] ∧ Sq K H a (nv fs) ∧ IsPair (2 * n) fs ∧ Sq K H wd us ∧ Items K H us qs ∧ Calls n qs ∧ n ≤ 1000 ∧
  ∀ (H' : Hp) (t : Addr), Same H H' → H t = none → H' t = some (.tup (nv (shw n qs fs))) → Q (.ref t) H'
theorem ok_p_with_word (T : Env K mg) : FnOk P w K mg base CX0 4 T.f_p_with_word T.d_p_with_word ["sheet", "word"] (spWithWord K) := by
  have G0 : FnOk P w K mg base CX0 1 T.f_p_people_of T.d_p_people_of ["sheet"] (spPeople K) := ok_p_people_of T
  have G1 : FnOk P w K mg base CX0 3 T.f_p_check_word T.d_p_check_word ["size", "word"] (spCheckWord K) := ok_p_check_word T
  have G2 : FnOk P w K mg base CX0 1 T.f_p_join_two T.d_p_join_two ["joined", "a", "b"] spJoin := ok_p_join_two T
  refine T.F_p_with_word.ok sc_p_with_word (fun vs H Q E h => ?_) (fun cdv A outer s H vs Q E hr h => ?_)
  · obtain ⟨a, wd, fs, us, qs, n, rfl, _⟩ := h
    rfl
  · obtain ⟨a, wd, fs, us, qs, n, rfl, ha, hP, hw, hI, hc, hn, q⟩ := h
    have h1 := hr.mono (show 1 ≤ 3 by decide)
    refine ⟨_, pss_cons (ps_set (i := 2) sc_p_with_word.nd rfl (.inl rfl) (pe_call G0 h1 (by rfl) T.g_p_people_of T.F_p_people_of.kp T.b_p_people_of .nil pass0 (pa_cons (pv 0) pa_nil))) <|
      pss_cons (ps_expr (pe_call G1 hr (by rfl) T.g_p_check_word T.F_p_check_word.kp T.b_p_check_word .nil pass0 (pa_cons (pv 2) (pa_cons (pv 1) pa_nil)))) <|
      pss_cons (ps_set (i := 3) sc_p_with_word.nd rfl (.inl rfl) (pe_callTy call_list_of (by rfl) T.n_list (by decide +kernel) (pa_cons (pv 0) pa_nil))) <|
      pss_cons (ps_for PassesOwn.never rfl (pi_seq (pv 1)) (pg_seq (by rfl) (pgs_cons (pg_name (i := 4) sc_p_with_word.nd rfl (.inl rfl)) (pgs_cons (pg_name (i := 5) sc_p_with_word.nd rfl (.inl rfl)) pgs_nil)))
        (pss_one (ps_expr (pe_call G2 h1 (by rfl) T.g_p_join_two T.F_p_join_two.kp T.b_p_join_two .nil pass0 (pa_cons (pv 3) (pa_cons (pe_op op_add (pv 2) (pv 4)) (pa_cons (pe_op op_add (pv 2) (pv 5)) pa_nil))))))) <|
      pss_one (ps_ret (pe_callTy call_tuple_of (by rfl) T.n_tuple (by decide +kernel) (pa_cons (pv 3) pa_nil))), ?_⟩
    refine ⟨.ref a, rfl, a, fs, n, rfl, ha, hP.len, ?_⟩
    refine ⟨_, rfl, .ref wd, rfl, n, wd, us, qs, rfl, hw, hI, hc, ?_⟩
    refine ⟨.ref a, rfl, a, _, rfl, ha, fun l nl => ?_⟩
    have s0 : Same H (upd H l (.lst (nv fs))) := same_new nl
    refine ⟨.ref wd, rfl, wd, rfl, for_seq hw (fun i σ H' => Same H H' ∧ ∃ (y4 y5 : Option V), σ = [some (.ref a), some (.ref wd), some (.int n), some (.ref l), y4, y5] ∧ H' l = some (.lst (nv (shw n (qs.take i) fs)))) ⟨s0, none, none, rfl, upd_same⟩ (fun i σ H' h => h.1) (fun i x σ H' hx h => ?_) (fun σ H' h => ?_)⟩
    · obtain ⟨sm, y4, y5, rfl, el⟩ := h
      obtain ⟨c, r, rfl, hr', hq⟩ := hI.2 i x hx
      have hcr := hc r (List.mem_of_getElem? hr')
      refine ⟨c, _, rfl, hq.same sm, rfl, _, _, rfl, _, _, rfl, rfl, .ref l, rfl, _, rfl, _, rfl, _, _, rfl, rfl, _, rfl, _, rfl, _, _, rfl, rfl, l, _, 2 * n, n + r.1, n + r.2, ?_, el, shw_pair hP (hc.take i), by omega, by omega, fun H2 e2 k2 => ?_⟩
      · show [V.ref l, V.int ((n : Int) + (r.1 : Int)), V.int ((n : Int) + (r.2 : Int))] = _
        rw [show (n : Int) + (r.1 : Int) = ((n + r.1 : Nat) : Int) by omega, show (n : Int) + (r.2 : Int) = ((n + r.2 : Nat) : Int) by omega]
      · refine ⟨fun b o hb => k2 b o (ne_of_none hb nl) (sm _ _ hb), _, _, rfl, ?_⟩
        rw [shw_take hr']
        exact e2
    · obtain ⟨sm, y4, y5, rfl, el⟩ := h
      rw [hI.1, List.take_length] at el
      exact ⟨.ref l, rfl, l, _, rfl, .inl ⟨.inl (.inl el), fun t nt => q _ t (sm.trans (same_new nt)) (sm.free nt) upd_same⟩⟩
end
end Pc
namespace Pc
open PySem PySem.Spec PyProof.Rows L2 RZ
section
variable {P : Program} {w : World} {K : PySem.W.Frag} {mg : Str → Option Value} {base : Heap}
/-! ### sheets of words -/
def spPSheetOf (K : PySem.W.Frag) : Sp := fun vs H Q _ => ∃ (n : Nat) (wd : Addr) (us : List V) (qs : List (Nat × Nat)), vs = [.int n, .ref wd] ∧ Sq K H wd us ∧ Items K H us qs ∧ Calls n qs ∧ 0 < n ∧ n ≤ 1000 ∧
  ∀ (H' : Hp) (t : Addr), Same H H' → H t = none → H' t = some (.tup (nv (shw n qs (emp n)))) → Q (.ref t) H'
theorem ok_p_sheet_of (T : Env K mg) : FnOk P w K mg base CX0 5 T.f_p_sheet_of T.d_p_sheet_of ["size", "word"] (spPSheetOf K) := by
  have G0 : FnOk P w K mg base CX0 1 T.f_p_empty_sheet T.d_p_empty_sheet ["size"] spEmpty := ok_p_empty_sheet T
  have G1 : FnOk P w K mg base CX0 4 T.f_p_with_word T.d_p_with_word ["sheet", "word"] (spWithWord K) := ok_p_with_word T
  refine T.F_p_sheet_of.ok sc_p_sheet_of (fun vs H Q E h => ?_) (fun cdv A outer s H vs Q E hr h => ?_)
  · obtain ⟨n, wd, us, qs, rfl, _⟩ := h
    rfl
  · obtain ⟨n, wd, us, qs, rfl, hw, hI, hc, h0, hn, q⟩ := h
    refine ⟨_, pss_one (ps_ret (pe_call G1 hr (by rfl) T.g_p_with_word T.F_p_with_word.kp T.b_p_with_word .nil pass0 (pa_cons (pe_call G0 (hr.mono (by decide)) (by rfl) T.g_p_empty_sheet T.F_p_empty_sheet.kp T.b_p_empty_sheet .nil pass0 (pa_cons (pv 0) pa_nil)) (pa_cons (pv 1) pa_nil)))), ?_⟩
    refine ⟨_, rfl, n, rfl, hn, fun H1 t s1 nt et => ?_⟩
    refine ⟨.ref wd, rfl, t, wd, emp n, us, qs, n, rfl, .inr (.inl (.inl et)), emp_pair h0, hw.same s1, hI.same s1, hc, hn, fun H2 t2 s2 nt2 et2 => q H2 t2 (s1.trans s2) (s1.free nt2) et2⟩
end
end Pc
namespace Pc
open PySem PySem.Spec PyProof.Rows L2 RZ
section
variable {P : Program} {w : World} {K : PySem.W.Frag} {mg : Str → Option Value} {base : Heap}
/-! ### pairs of a sheet -/
def spPairs (K : PySem.W.Frag) (g : List Nat → Nat → List (Nat × Nat)) : Sp := fun vs H Q _ => ∃ (a : Addr) (fs : List Nat) (n : Nat), vs = [.ref a] ∧ Sq K H a (nv fs) ∧ IsPair (2 * n) fs ∧ n ≤ 500 ∧
  ∀ (H' : Hp) (p : Addr) (as : List Addr), Same H H' → H p = none → H' p = some (.lst (as.map V.ref)) → Prs H' as (g fs n) → Q (.ref p) H'
theorem at0 {fs : List Nat} {i z : Nat} (e : fs[i]? = some z) : atI (nv fs) ((0 : Int) + (i : Nat)) = some (.int z) := by rw [Int.zero_add]; exact nv_at e
theorem at1 {fs : List Nat} {n i z : Nat} (e : fs[n + i]? = some z) : atI (nv fs) ((n : Int) + ((0 : Int) + (i : Nat))) = some (.int z) := by
  rw [Int.zero_add, show (n : Int) + (i : Int) = ((n + i : Nat) : Int) by omega]; exact nv_at e
end
end Pc
namespace Pc
open PySem PySem.Spec PyProof.Rows L2 RZ
section
variable {P : Program} {w : World} {K : PySem.W.Frag} {mg : Str → Option Value} {base : Heap}
/-! ### upper pairs -/
theorem ok_p_upper_pairs (T : Env K mg) : FnOk P w K mg base CX0 2 T.f_p_upper_pairs T.d_p_upper_pairs ["sheet"] (spPairs K ups) := by
  have G0 : FnOk P w K mg base CX0 1 T.f_p_people_of T.d_p_people_of ["sheet"] (spPeople K) := ok_p_people_of T
  refine T.F_p_upper_pairs.ok sc_p_upper_pairs (fun vs H Q E h => ?_) (fun cdv A outer s H vs Q E hr h => ?_)
  · obtain ⟨a, fs, n, rfl, _⟩ := h
    rfl
  · obtain ⟨a, fs, n, rfl, hS, hP, hn, q⟩ := h
    refine ⟨_, pss_cons (ps_set (i := 1) sc_p_upper_pairs.nd rfl (.inr rfl) (pe_call G0 hr (by rfl) T.g_p_people_of T.F_p_people_of.kp T.b_p_people_of .nil pass0 (pa_cons (pv 0) pa_nil))) <|
      pss_one (ps_ret (pe_lc (own := [("x", 2)]) (g := gName 2) (tt := tTest (tChain (rI0 fun i j => .bl (decide (i < j))) (rI0 fun i j => .bl (decide (i < j))) (tVar 2) (tOp (rIx K) (tVar 0) (tVar 2)) (tVar 1))) (te := tTup (tCons (tVar 2) (tCons (tOp (rIx K) (tVar 0) (tVar 2)) tNil))) rfl sc_p_upper_pairs.nd
        (pi_range1 (by rfl) T.n_range (pa_cons (pv 1) pa_nil)) (blkOk_by (N := N_p_upper_pairs) (sc := defScope s_p_upper_pairs) (by decide +kernel)) (fun _ _ _ _ _ => pg_name (i := 2) sc_p_upper_pairs.nd rfl (.inl rfl))
        (fun _ _ _ _ _ => pts_one (pt_chain op_lt op_lt (pv 2) (pe_ix ix_seq (pv 0) (pv 2) (fun _ _ => rfl)) (pv 1)))
        (fun _ _ _ _ _ => pe_tup (pa_cons (pv 2) (pa_cons (pe_ix ix_seq (pv 0) (pv 2) (fun _ _ => rfl)) pa_nil))))), ?_⟩
    have hl := hP.len
    refine ⟨.ref a, rfl, a, fs, n, rfl, hS, hl, _, rfl, _, rfl, by omega, by omega, fun D nD => ?_⟩
    rw [show ((n : Int)).toNat = n by omega]
    refine lc_range (n := n) (fun i H' => Same H H' ∧ ∃ as : List Addr, H' D = some (.lst (as.map V.ref)) ∧ Prs H' as (selN (upC fs n) (upG fs) i)) ⟨same_new nD, [], upd_same, .nil⟩ (fun i H1 hi hPv => ?_) (fun H1 hPv => ?_)
    · obtain ⟨sm, as, eD, hA⟩ := hPv
      obtain ⟨z, ez, _⟩ := hP.par i (by omega)
      have hS1 := hS.same sm
      refine ⟨rfl, _, rfl, _, rfl, _, rfl, ix_sq hS1 (at0 ez) ⟨_, _, rfl, rfl, _, rfl, ite2 (fun c => ?_) (fun c => ?_)⟩⟩
      · have hz : i < z := by have := of_decide_eq_true c; omega
        refine ⟨_, rfl, _, _, rfl, rfl, _, rfl, ite2 (fun c' => ?_) (fun c' => ?_)⟩
        · have hz2 : z < n := by have := of_decide_eq_true c'; omega
          refine ⟨_, rfl, _, rfl, _, rfl, ix_sq hS1 (at0 ez) ⟨by show 2 ≤ sizeLine; decide, fun u nu => sel_step nD sm eD hA ?_ nu ?_ (by omega)⟩⟩
          · unfold upC; rw [getD_of ez, decide_eq_true hz, decide_eq_true hz2]; rfl
          · unfold upG; rw [getD_of ez, Int.zero_add]
        · refine ⟨sm, as, eD, ?_⟩
          rw [selN_no]
          · exact hA
          · unfold upC; rw [getD_of ez, decide_eq_false (p := z < n) (fun h => c' (decide_eq_true (by omega))), Bool.and_false]
      · refine ⟨_, rfl, iteF ⟨sm, as, eD, ?_⟩⟩
        rw [selN_no]
        · exact hA
        · unfold upC; rw [getD_of ez, decide_eq_false (p := i < z) (fun h => c (decide_eq_true (by omega))), Bool.false_and]
    · obtain ⟨sm, as, eD, hA⟩ := hPv
      exact q H1 D as sm nD eD hA
end
end Pc
namespace Pc
open PySem PySem.Spec PyProof.Rows L2 RZ
section
variable {P : Program} {w : World} {K : PySem.W.Frag} {mg : Str → Option Value} {base : Heap}
/-! ### lower pairs -/
theorem ok_p_lower_pairs (T : Env K mg) : FnOk P w K mg base CX0 2 T.f_p_lower_pairs T.d_p_lower_pairs ["sheet"] (spPairs K los) := by
  have G0 : FnOk P w K mg base CX0 1 T.f_p_people_of T.d_p_people_of ["sheet"] (spPeople K) := ok_p_people_of T
  refine T.F_p_lower_pairs.ok sc_p_lower_pairs (fun vs H Q E h => ?_) (fun cdv A outer s H vs Q E hr h => ?_)
  · obtain ⟨a, fs, n, rfl, _⟩ := h
    rfl
  · obtain ⟨a, fs, n, rfl, hS, hP, hn, q⟩ := h
    refine ⟨_, pss_cons (ps_set (i := 1) sc_p_lower_pairs.nd rfl (.inr rfl) (pe_call G0 hr (by rfl) T.g_p_people_of T.F_p_people_of.kp T.b_p_people_of .nil pass0 (pa_cons (pv 0) pa_nil))) <|
      pss_one (ps_ret (pe_lc (own := [("x", 2)]) (g := gName 2) (tt := tTest (tOp (rI0 fun i j => .bl (decide (j < i))) (tOp (rIx K) (tVar 0) (tOp (rI0 fun i j => .int (i + j)) (tVar 1) (tVar 2))) (tOp (rI0 fun i j => .int (i + j)) (tVar 1) (tVar 2))))
          (te := tTup (tCons (tVar 2) (tCons (tOp (rI0 fun i j => .int (i - j)) (tOp (rIx K) (tVar 0) (tOp (rI0 fun i j => .int (i + j)) (tVar 1) (tVar 2))) (tVar 1)) tNil))) rfl sc_p_lower_pairs.nd
        (pi_range1 (by rfl) T.n_range (pa_cons (pv 1) pa_nil)) (blkOk_by (N := N_p_lower_pairs) (sc := defScope s_p_lower_pairs) (by decide +kernel)) (fun _ _ _ _ _ => pg_name (i := 2) sc_p_lower_pairs.nd rfl (.inl rfl))
        (fun _ _ _ _ _ => pts_one (pt_cmpR op_gt (pe_ix ix_seq (pv 0) (pe_op op_add (pv 1) (pv 2)) (fun _ _ => rfl)) (pe_op op_add (pv 1) (pv 2)) (nomark _)))
        (fun _ _ _ _ _ => pe_tup (pa_cons (pv 2) (pa_cons (pe_op op_sub (pe_ix ix_seq (pv 0) (pe_op op_add (pv 1) (pv 2)) (fun _ _ => rfl)) (pv 1)) pa_nil))))), ?_⟩
    have hl := hP.len
    refine ⟨.ref a, rfl, a, fs, n, rfl, hS, hl, _, rfl, _, rfl, by omega, by omega, fun D nD => ?_⟩
    rw [show ((n : Int)).toNat = n by omega]
    refine lc_range (n := n) (fun i H' => Same H H' ∧ ∃ as : List Addr, H' D = some (.lst (as.map V.ref)) ∧ Prs H' as (selN (loC fs n) (loG fs n) i)) ⟨same_new nD, [], upd_same, .nil⟩ (fun i H1 hi hPv => ?_) (fun H1 hPv => ?_)
    · obtain ⟨sm, as, eD, hA⟩ := hPv
      obtain ⟨z, ez, _⟩ := hP.par (n + i) (by omega)
      have hS1 := hS.same sm
      refine ⟨rfl, _, rfl, _, rfl, _, rfl, _, _, rfl, rfl, ix_sq hS1 (at1 ez) ⟨_, rfl, _, rfl, _, _, rfl, rfl, _, _, rfl, rfl, _, rfl, ite2 (fun c => ?_) (fun c => ?_)⟩⟩
      · have hz : n + i < z := by have := of_decide_eq_true c; omega
        refine ⟨_, rfl, _, rfl, _, rfl, _, rfl, _, _, rfl, rfl, ix_sq hS1 (at1 ez) ⟨_, rfl, _, _, rfl, rfl, by show 2 ≤ sizeLine; decide, fun u nu => sel_step nD sm eD hA ?_ nu ?_ (by omega)⟩⟩
        · unfold loC; rw [getD_of ez, decide_eq_true hz]
        · unfold loG; rw [getD_of ez]
          show [V.int ((0 : Int) + (i : Nat)), V.int ((z : Int) - (n : Int))] = [V.int (i : Int), V.int ((z - n : Nat) : Int)]
          rw [Int.zero_add, show (z : Int) - (n : Int) = ((z - n : Nat) : Int) by omega]
      · refine ⟨sm, as, eD, ?_⟩
        rw [selN_no]
        · exact hA
        · unfold loC; rw [getD_of ez, decide_eq_false (fun h => c (decide_eq_true (by omega)))]
    · obtain ⟨sm, as, eD, hA⟩ := hPv
      exact q H1 D as sm nD eD hA
end
end Pc
namespace Pc
open PySem PySem.Spec PyProof.Rows L2 RZ
section
variable {P : Program} {w : World} {K : PySem.W.Frag} {mg : Str → Option Value} {base : Heap}
/-! ### strands -/
theorem ok_p_strands (T : Env K mg) : FnOk P w K mg base CX0 2 T.f_p_strands T.d_p_strands ["sheet"] (spPairs K sts) := by
  have G0 : FnOk P w K mg base CX0 1 T.f_p_people_of T.d_p_people_of ["sheet"] (spPeople K) := ok_p_people_of T
  refine T.F_p_strands.ok sc_p_strands (fun vs H Q E h => ?_) (fun cdv A outer s H vs Q E hr h => ?_)
  · obtain ⟨a, fs, n, rfl, _⟩ := h
    rfl
  · obtain ⟨a, fs, n, rfl, hS, hP, hn, q⟩ := h
    refine ⟨_, pss_cons (ps_set (i := 1) sc_p_strands.nd rfl (.inr rfl) (pe_call G0 hr (by rfl) T.g_p_people_of T.F_p_people_of.kp T.b_p_people_of .nil pass0 (pa_cons (pv 0) pa_nil))) <|
      pss_one (ps_ret (pe_lc (own := [("x", 2)]) (g := gName 2) (tt := tTest (tOp (rI0 fun i j => .bl (decide (j ≤ i))) (tOp (rIx K) (tVar 0) (tVar 2)) (tVar 1)))
          (te := tTup (tCons (tVar 2) (tCons (tOp (rI0 fun i j => .int (i - j)) (tOp (rIx K) (tVar 0) (tVar 2)) (tVar 1)) tNil))) rfl sc_p_strands.nd
        (pi_range1 (by rfl) T.n_range (pa_cons (pv 1) pa_nil)) (blkOk_by (N := N_p_strands) (sc := defScope s_p_strands) (by decide +kernel)) (fun _ _ _ _ _ => pg_name (i := 2) sc_p_strands.nd rfl (.inl rfl))
        (fun _ _ _ _ _ => pts_one (pt_cmpR op_ge (pe_ix ix_seq (pv 0) (pv 2) (fun _ _ => rfl)) (pv 1) (nomark _)))
        (fun _ _ _ _ _ => pe_tup (pa_cons (pv 2) (pa_cons (pe_op op_sub (pe_ix ix_seq (pv 0) (pv 2) (fun _ _ => rfl)) (pv 1)) pa_nil))))), ?_⟩
    have hl := hP.len
    refine ⟨.ref a, rfl, a, fs, n, rfl, hS, hl, _, rfl, _, rfl, by omega, by omega, fun D nD => ?_⟩
    rw [show ((n : Int)).toNat = n by omega]
    refine lc_range (n := n) (fun i H' => Same H H' ∧ ∃ as : List Addr, H' D = some (.lst (as.map V.ref)) ∧ Prs H' as (selN (stC fs n) (stG fs n) i)) ⟨same_new nD, [], upd_same, .nil⟩ (fun i H1 hi hPv => ?_) (fun H1 hPv => ?_)
    · obtain ⟨sm, as, eD, hA⟩ := hPv
      obtain ⟨z, ez, _⟩ := hP.par i (by omega)
      have hS1 := hS.same sm
      refine ⟨rfl, _, rfl, _, rfl, ix_sq hS1 (at0 ez) ⟨_, rfl, _, _, rfl, rfl, _, rfl, ite2 (fun c => ?_) (fun c => ?_)⟩⟩
      · have hz : n ≤ z := by have := of_decide_eq_true c; omega
        refine ⟨_, rfl, _, rfl, _, rfl, ix_sq hS1 (at0 ez) ⟨_, rfl, _, _, rfl, rfl, by show 2 ≤ sizeLine; decide, fun u nu => sel_step nD sm eD hA ?_ nu ?_ (by omega)⟩⟩
        · unfold stC; rw [getD_of ez, decide_eq_true hz]
        · unfold stG; rw [getD_of ez]
          show [V.int ((0 : Int) + (i : Nat)), V.int ((z : Int) - (n : Int))] = [V.int (i : Int), V.int ((z - n : Nat) : Int)]
          rw [Int.zero_add, show (z : Int) - (n : Int) = ((z - n : Nat) : Int) by omega]
      · refine ⟨sm, as, eD, ?_⟩
        rw [selN_no]
        · exact hA
        · unfold stC; rw [getD_of ez, decide_eq_false (fun h => c (decide_eq_true (by omega)))]
    · obtain ⟨sm, as, eD, hA⟩ := hPv
      exact q H1 D as sm nD eD hA
end
end Pc
namespace Pc
open PySem PySem.Spec PyProof.Rows L2 RZ
section
variable {P : Program} {w : World} {K : PySem.W.Frag} {mg : Str → Option Value} {base : Heap}
/-! ### the people at the lower ends of strands -/
def spLoose (K : PySem.W.Frag) : Sp := fun vs H Q _ => ∃ (a : Addr) (f : List Nat) (n : Nat), vs = [.ref a] ∧ Sq K H a (nv f) ∧ IsPair (2 * n) f ∧ n ≤ 500 ∧
  ∀ (H' : Hp) (t : Addr), Same H H' → H t = none → H' t = some (.lst (nv (lse f n))) → Q (.ref t) H'
theorem lse_step (f : List Nat) (n i : Nat) : (List.range (i + 1)).filter (lsC f n) = (List.range i).filter (lsC f n) ++ (if lsC f n i = true then [i] else []) := by
  rw [List.range_succ, List.filter_append]
  by_cases c : lsC f n i = true
  · rw [if_pos c, List.filter_cons_of_pos c, List.filter_nil]
  · rw [if_neg c, List.filter_cons_of_neg c, List.filter_nil]
theorem ok_p_loose_people (T : Env K mg) : FnOk P w K mg base CX0 2 T.f_p_loose_people T.d_p_loose_people ["sheet"] (spLoose K) := by
  have G0 : FnOk P w K mg base CX0 1 T.f_p_people_of T.d_p_people_of ["sheet"] (spPeople K) := ok_p_people_of T
  refine T.F_p_loose_people.ok sc_p_loose_people (fun vs H Q E h => ?_) (fun cdv A outer s H vs Q E hr h => ?_)
  · obtain ⟨a, f, n, rfl, _⟩ := h
    rfl
  · obtain ⟨a, f, n, rfl, ha, hf, hn, q⟩ := h
    refine ⟨_, pss_cons (ps_set (i := 1) sc_p_loose_people.nd rfl (.inr rfl) (pe_call G0 hr (by rfl) T.g_p_people_of T.F_p_people_of.kp T.b_p_people_of .nil pass0 (pa_cons (pv 0) pa_nil))) <|
      pss_one (ps_ret (pe_lc (own := [("person", 2)]) (g := gName 2) (tt := tTest (tOp (rI0 fun i j => .bl (decide (i < j))) (tOp (rIx K) (tVar 0) (tOp (rI0 fun i j => .int (i + j)) (tVar 1) (tVar 2))) (tVar 1))) (te := tVar 2) rfl sc_p_loose_people.nd
        (pi_range1 (by rfl) T.n_range (pa_cons (pv 1) pa_nil)) (blkOk_by (N := N_p_loose_people) (sc := defScope s_p_loose_people) (by decide +kernel)) (fun _ _ _ _ _ => pg_name (i := 2) sc_p_loose_people.nd rfl (.inl rfl))
        (fun _ _ _ _ _ => pts_one (pt_cmpR op_lt (pe_ix ix_seq (pv 0) (pe_op op_add (pv 1) (pv 2)) (fun _ _ => rfl)) (pv 1) (nomark _)))
        (fun _ _ _ _ _ => pv 2))), ?_⟩
    refine ⟨.ref a, rfl, a, f, n, rfl, ha, hf.len, _, rfl, _, rfl, by omega, by omega, fun D nD => ?_⟩
    rw [show ((n : Int)).toNat = n by omega]
    refine lc_range (n := n) (fun i H' => Same H H' ∧ H' D = some (.lst (nv ((List.range i).filter (lsC f n))))) ⟨same_new nD, upd_same⟩ (fun i H1 hi hPv => ?_) (fun H1 hPv => ?_)
    · obtain ⟨sm, eD⟩ := hPv
      have fi := hf.d (show n + i < 2 * n by omega)
      refine ⟨rfl, _, rfl, _, rfl, _, rfl, _, _, rfl, rfl, ix_sq (ha.same sm) (at1 fi.2.2.2) ⟨_, rfl, _, _, rfl, rfl, _, rfl, ite2 (fun c => ?_) (fun c => ?_)⟩⟩
      · have hc : lsC f n i = true := decide_eq_true (by have := of_decide_eq_true c; omega)
        refine ⟨_, rfl, _, eD, line_big ?_, fun x o hx => ?_, ?_⟩
        · rw [nv_length]
          exact Nat.le_trans (List.length_filter_le _ _) (by rw [List.length_range]; omega)
        · rw [upd_ne (ne_of_none hx nD)]; exact sm _ _ hx
        · rw [upd_same, lse_step, if_pos hc, ← nv_snoc']
          show some (HO.lst (nv ((List.range i).filter (lsC f n)) ++ [V.int ((0 : Int) + (i : Nat))])) = _
          rw [Int.zero_add]
      · refine ⟨sm, ?_⟩
        have hc : ¬ lsC f n i = true := fun z => c (decide_eq_true (by have := of_decide_eq_true z; omega))
        rw [lse_step, if_neg hc, List.append_nil]; exact eD
    · obtain ⟨sm, eD⟩ := hPv
      exact q H1 D sm nD eD
end
end Pc
namespace Pc
open PySem PySem.Spec PyProof.Rows L2 RZ
section
variable {P : Program} {w : World} {K : PySem.W.Frag} {mg : Str → Option Value} {base : Heap}
/-! ### couples -/
def spCouples (K : PySem.W.Frag) : Sp := fun vs H Q _ => ∃ (a : Addr) (ps : List Nat), vs = [.ref a] ∧ Sq K H a (nv ps) ∧ ps.length ≤ 1000 ∧
  ∀ (H' : Hp) (p : Addr) (as : List Addr), Same H H' → H p = none → H' p = some (.lst (as.map V.ref)) → Prs H' as (cpl ps) → Q (.ref p) H'
theorem ok_p_couples (T : Env K mg) : FnOk P w K mg base CX0 1 T.f_p_couples T.d_p_couples ["pairing"] (spCouples K) := by
  refine T.F_p_couples.ok sc_p_couples (fun vs H Q E h => ?_) (fun cdv A outer s H vs Q E hr h => ?_)
  · obtain ⟨a, ps, rfl, _⟩ := h
    rfl
  · obtain ⟨a, ps, rfl, hS, hn, q⟩ := h
    refine ⟨_, pss_one (ps_ret (pe_lc (own := [("x", 1), ("y", 2)]) (g := gTup K 2 (gCons (gName 1) (gCons (gName 2) gNil))) (by rfl) sc_p_couples.nd (pi_enumA (by rfl) T.n_enumerate (pa_cons (pv 0) pa_nil))
      (blkOk_by (N := N_p_couples) (sc := defScope s_p_couples) (by decide +kernel))
      (fun _ _ _ _ _ => pg_tup (by rfl) (pgs_cons (pg_name (i := 1) sc_p_couples.nd rfl (.inl rfl)) (pgs_cons (pg_name (i := 2) sc_p_couples.nd rfl (.inl rfl)) pgs_nil)))
      (fun _ _ _ _ _ => pts_one (pt_cmpR op_lt (pv 1) (pv 2) (nomark _)))
      (fun _ _ _ _ _ => pe_tup (pa_cons (pv 1) (pa_cons (pv 2) pa_nil))))), ?_⟩
    -- one turn, whatever is walked
    have turn : ∀ (D : Addr), H D = none → ∀ (i : Nat) (x : V) (H1 H2 : Hp), i < (nv ps).length → (Same H H1 ∧ ∃ as : List Addr, H1 D = some (.lst (as.map V.ref)) ∧ Prs H1 as (cplN ps i)) → YPair (fun i => some (.int (i : Nat))) (fun i => (nv ps)[i]?) i H1 x H2 →
        gTup K 2 (gCons (gName 1) (gCons (gName 2) gNil)) x (wipe (L2.start ["pairing", "x", "y"] [V.ref a]) [1, 2]) H2 fun σ2 H2 => wipe σ2 [1, 2] = wipe (L2.start ["pairing", "x", "y"] [V.ref a]) [1, 2] ∧ tTest (tOp (rI0 fun i j => .bl (decide (i < j))) (tVar 1) (tVar 2)) σ2 H2 fun b H3 =>
          if b = true then tTup (tCons (tVar 1) (tCons (tVar 2) tNil)) σ2 H3 fun y H4 => ∃ acc, H4 D = some (.lst acc) ∧ acc.length < sizeLine ∧ (Same H (upd H4 D (.lst (acc ++ [y]))) ∧ ∃ as : List Addr, (upd H4 D (.lst (acc ++ [y]))) D = some (.lst (as.map V.ref)) ∧ Prs (upd H4 D (.lst (acc ++ [y]))) as (cplN ps (i + 1)))
          else (Same H H3 ∧ ∃ as : List Addr, H3 D = some (.lst (as.map V.ref)) ∧ Prs H3 as (cplN ps (i + 1))) := by
      intro D nD0 i x H1 H2 hi hP y
      obtain ⟨sm, as, eD, hA⟩ := hP
      obtain ⟨t, v1, v2, rfl, nt, rfl, g1, g2⟩ := y
      have ev1 : v1 = .int (i : Nat) := (Option.some.inj g1).symm
      obtain ⟨z, ez, ev2⟩ := nv_get' g2
      subst ev1 ev2
      have st : Same H1 (upd H1 t (.tup [.int (i : Nat), .int z])) := same_new nt
      have eDt := st _ _ eD
      refine ⟨t, _, rfl, .inl (.inl upd_same), rfl, _, _, rfl, _, _, rfl, rfl, rfl, _, rfl, _, rfl, _, _, rfl, rfl, _, rfl, ite2 (fun c => ?_) (fun c => ?_)⟩
      · have hl : i < z := by have := of_decide_eq_true c; omega
        refine ⟨_, rfl, _, rfl, by show 2 ≤ sizeLine; decide, fun u nu => ⟨_, same_new nu _ _ eDt, ?_, ?_⟩⟩
        · rw [List.length_map, hA.length]
          have := cplN_len ps i
          rw [nv_length] at hi
          exact small1000 (by omega)
        · have su : Same H1 _ := st.trans (same_new (o := .tup [.int (i : Nat), .int z]) nu)
          have nuD : u ≠ D := fun e => by rw [e, eDt] at nu; cases nu
          have sD : ∀ b o, b ≠ D → (upd (upd H1 t (.tup [.int (i : Nat), .int z])) u (.tup [.int (i : Nat), .int z])) b = some o → (upd (upd (upd H1 t (.tup [.int (i : Nat), .int z])) u (.tup [.int (i : Nat), .int z])) D (.lst (as.map V.ref ++ [.ref u]))) b = some o := fun b o nb hb => by rw [upd_ne nb]; exact hb
          refine ⟨fun b o hb => sD b o (ne_of_none hb nD0) (su _ _ (sm _ _ hb)), as ++ [u], ?_, ?_⟩
          · rw [upd_same, List.map_append]; rfl
          · rw [cplN_yes ez hl]
            refine prs_append ?_ (.cons ?_ .nil)
            · exact prs_keep (b := D) (ys := as.map V.ref) keep_upd (same_new nu _ _ eDt) (prs_same su hA)
            · exact sD u _ nuD upd_same
      · have hl : ¬ i < z := fun hl => c (decide_eq_true (by omega))
        refine ⟨sm.trans st, as, eDt, ?_⟩
        rw [cplN_no ez hl]
        exact prs_same st hA
    have fin : ∀ (D : Addr), H D = none → ∀ H' : Hp, (Same H H' ∧ ∃ as : List Addr, H' D = some (.lst (as.map V.ref)) ∧ Prs H' as (cplN ps (nv ps).length)) → Q (.ref D) H' := by
      rintro D nD H' ⟨sm, as, eD, hA⟩
      rw [nv_length] at hA
      exact q H' D as sm nD eD hA
    rcases hS with hS | hS
    · refine ⟨.ref a, rfl, a, nv ps, rfl, .inl ⟨hS, fun D nD => ?_⟩⟩
      exact lc_it walk_enum (fun i H' => Same H H' ∧ ∃ as : List Addr, H' D = some (.lst (as.map V.ref)) ∧ Prs H' as (cplN ps i)) ⟨same_new nD, [], upd_same, .nil⟩ (fun i H' _ h => h.1.seq hS) (turn D nD) (fin D nD)
    · refine ⟨.ref a, rfl, a, nv ps, rfl, .inr ⟨hS, fun D nD => ?_⟩⟩
      exact lc_it walk_enumT (fun i H' => Same H H' ∧ ∃ as : List Addr, H' D = some (.lst (as.map V.ref)) ∧ Prs H' as (cplN ps i)) ⟨same_new nD, [], upd_same, .nil⟩ (fun i H' _ h => same_tup h.1 hS) (turn D nD) (fin D nD)
end
end Pc
namespace Pc
open PySem PySem.Spec PyProof.Rows L2 RZ
section
variable {P : Program} {w : World} {K : PySem.W.Frag} {mg : Str → Option Value} {base : Heap}
/-! ### pairing_of -/
def spPairingOf (K : PySem.W.Frag) : Sp := fun vs H Q _ => ∃ (a : Addr) (us : List V) (qs : List (Nat × Nat)) (ps : List Nat), vs = [.ref a] ∧ Sq K H a us ∧ Items K H us qs ∧ Makes qs ps ∧ ps.length ≤ 1000 ∧
  ∀ (H' : Hp) (t : Addr), Same H H' → H t = none → H' t = some (.tup (nv ps)) → Q (.ref t) H'
theorem ok_p_pairing_of (T : Env K mg) : FnOk P w K mg base CX0 1 T.f_p_pairing_of T.d_p_pairing_of ["couples"] (spPairingOf K) := by
  refine T.F_p_pairing_of.ok sc_p_pairing_of (fun vs H Q E h => ?_) (fun cdv A outer s H vs Q E hr h => ?_)
  · obtain ⟨a, us, qs, ps, rfl, _⟩ := h
    rfl
  · obtain ⟨a, us, qs, ps, rfl, hS, hI, hM, hn, q⟩ := h
    refine ⟨_, pss_cons (ps_set (i := 1) sc_p_pairing_of.nd rfl (.inl rfl) (pe_op op_rep (pe_lst (pa_cons pe_int pa_nil)) (pe_op op_mul pe_int (pe_callB call_len_seq (by rfl) T.n_len PySem.boot_len (pa_cons (pv 0) pa_nil)))))
      (pss_cons (ps_for PassesOwn.never rfl (pi_seq (pv 0)) (pg_seq (by rfl) (pgs_cons (pg_name (i := 2) sc_p_pairing_of.nd rfl (.inl rfl)) (pgs_cons (pg_name (i := 3) sc_p_pairing_of.nd rfl (.inl rfl)) pgs_nil)))
        (pss_cons (ps_asg (pv 3) (pg_sub (pv 1) (pv 2) set_list)) (pss_one (ps_asg (pv 2) (pg_sub (pv 1) (pv 3) set_list)))))
      (pss_one (ps_ret (pe_callTy call_tuple_of (by rfl) T.n_tuple (by decide +kernel) (pa_cons (pv 1) pa_nil))))), ?_⟩
    have hlen : us.length = qs.length := hI.1
    have hhalf := hM.half
    refine ⟨by show 1 ≤ sizeLine; decide, fun e ne => ?_⟩
    have s0 : Same H (upd H e (.lst [.int 0])) := same_new ne
    have hlq : SqL K (upd H e (.lst [.int 0])) a us ∨ SqT K (upd H e (.lst [.int 0])) a us := hS.same s0
    refine ⟨.ref a, rfl, a, us, rfl, hlq, 2, _, rfl, rfl, .inl ⟨by decide, by decide⟩, e, _, [.int 0], rfl, rfl, upd_same, by omega, by omega, ?_, fun f nf => ?_⟩
    · show 1 * Int.toNat (2 * (us.length : Int)) ≤ sizeLine
      exact Nat.le_of_lt (small1000 (by omega))
    have e0 : (List.replicate (2 * (us.length : Int)).toNat [V.int 0]).flatten = nv (List.replicate ps.length 0) := by
      rw [rep_flat, show (2 * (us.length : Int)).toNat = ps.length by omega]
      unfold nv
      rw [List.map_replicate]; rfl
    have s1 : Same H _ := s0.trans (same_new (o := .lst (List.replicate (2 * (us.length : Int)).toNat [V.int 0]).flatten) nf)
    have nf0 : H f = none := s0.free nf
    -- one turn
    have turn : ∀ (i : Nat) (x : V) (σ : L2.St) (H1 : Hp), us[i]? = some x → (Same H H1 ∧ ∃ (y2 y3 : Option V) (fs : List Nat), σ = [some (.ref a), some (.ref f), y2, y3] ∧ H1 f = some (.lst (nv fs)) ∧ CInv ps qs fs i) →
        ∀ N : L2.St → Hp → Prop, (∀ σ' H', (Same H H' ∧ ∃ (y2 y3 : Option V) (fs : List Nat), σ' = [some (.ref a), some (.ref f), y2, y3] ∧ H' f = some (.lst (nv fs)) ∧ CInv ps qs fs (i + 1)) → N σ' H') →
        gSeq K 2 (gCons (gName 2) (gCons (gName 3) gNil)) x σ H1 fun σ2 H2 => ∃ v3, σ2[3]? = some (some v3) ∧ ∃ v1, σ2[1]? = some (some v1) ∧ ∃ v2, σ2[2]? = some (some v2) ∧ rSetL v1 v2 v3 H2 fun H3 => ∃ w2, σ2[2]? = some (some w2) ∧ ∃ w1, σ2[1]? = some (some w1) ∧ ∃ w3, σ2[3]? = some (some w3) ∧ rSetL w1 w3 w2 H3 fun H4 => N σ2 H4 := by
      intro i x σ H1 hx hP N hN
      obtain ⟨sm, y2, y3, fs, rfl, ef, ci⟩ := hP
      obtain ⟨c, p, rfl, hp, hc⟩ := hI.2 i x hx
      obtain ⟨o1, o2⟩ := hM.ok p (List.mem_of_getElem? hp)
      have l1 : p.1 < fs.length := by rw [ci.1]; exact get_lt o1
      have l2 : p.2 < fs.length := by rw [ci.1]; exact get_lt o2
      refine ⟨c, _, rfl, hc.same sm, rfl, _, _, rfl, _, _, rfl, rfl, _, rfl, _, rfl, _, rfl, f, _, _, p.1, rfl, rfl, ef, ixN_nat (by rw [nv_length]; exact l1), _, rfl, _, rfl, _, rfl, f, _, _, p.2, rfl, rfl, upd_same, ?_, hN _ _ ⟨fun b o hb => ?_, _, _, (fs.set p.1 p.2).set p.2 p.1, rfl, ?_, ci.step hM hp⟩⟩
      · rw [List.length_set]; exact ixN_nat (by rw [nv_length]; exact l2)
      · rw [upd_ne (ne_of_none hb nf0), upd_ne (ne_of_none hb nf0)]; exact sm _ _ hb
      · rw [upd_same, nv_set, nv_set]
    have start : Same H (upd (upd H e (.lst [.int 0])) f (.lst (List.replicate (2 * (us.length : Int)).toNat [V.int 0]).flatten)) ∧ ∃ (y2 y3 : Option V) (fs : List Nat), ([some (.ref a), some (.ref f), none, none] : L2.St) = [some (.ref a), some (.ref f), y2, y3] ∧ (upd (upd H e (.lst [.int 0])) f (.lst (List.replicate (2 * (us.length : Int)).toNat [V.int 0]).flatten)) f = some (.lst (nv fs)) ∧ CInv ps qs fs 0 :=
      ⟨s1, none, none, List.replicate ps.length 0, rfl, by rw [upd_same, e0], by rw [List.length_replicate], fun j hj => absurd hj (Nat.not_lt_zero _)⟩
    have fin : ∀ (σ : L2.St) (H' : Hp), (Same H H' ∧ ∃ (y2 y3 : Option V) (fs : List Nat), σ = [some (.ref a), some (.ref f), y2, y3] ∧ H' f = some (.lst (nv fs)) ∧ CInv ps qs fs us.length) → ∃ v, σ[1]? = some (some v) ∧ ∃ (p : Addr) (ys : List V), [v] = [.ref p] ∧ ((SqL K H' p ys ∧ ∀ l, H' l = none → Q (.ref l) (upd H' l (.tup ys))) ∨ (SqT K H' p ys ∧ Q (.ref p) H')) := by
      rintro σ H' ⟨sm, y2, y3, fs, rfl, ef, ci⟩
      rw [hlen] at ci
      have e := ci.done hM
      subst e
      exact ⟨_, rfl, f, _, rfl, .inl ⟨.inl (.inl ef), fun l nl => q _ l (sm.trans (same_new nl)) (sm.free nl) upd_same⟩⟩
    rcases hS with hS | hS
    · refine ⟨.ref a, rfl, a, rfl, .inl ⟨⟨_, s1.seq hS⟩, ?_⟩⟩
      exact for_list (xs := us) _ start (fun i σ H' _ h => h.1.seq hS) (fun i x σ H1 hx hP => turn i x σ H1 hx hP _ fun _ _ z => z) fin
    · refine ⟨.ref a, rfl, a, rfl, .inr ⟨⟨_, same_tup s1 hS⟩, ?_⟩⟩
      exact for_tup (xs := us) _ start (fun i σ H' _ h => same_tup h.1 hS) (fun i x σ H1 hx hP => turn i x σ H1 hx hP _ fun _ _ z => z) fin
end
end Pc
namespace Pc
open PySem PySem.Spec PyProof.Rows L2 RZ
theorem rgc_odd {r : Nat} (h : r ≤ 100000) : RgC 1 ((2 * r : Nat) : Int) 2 r := by
  have e : Builtin.Range.rangeSize 1 ((2 * r : Nat) : Int) 2 = (r : Int) := by
    unfold Builtin.Range.rangeSize
    rw [if_pos (by decide)]
    split <;> omega
  refine ⟨by decide, by decide, ?_, e⟩
  unfold Builtin.Range.small
  rw [e, fits_long (i := 1) (by decide) (by decide), fits_long (i := ((2 * r : Nat) : Int)) (by omega) (by omega), fits_long (i := 2) (by decide) (by decide), fits_long (i := (r : Int)) (by omega) (by omega), if_pos (by decide), fits_long (i := ((2 * r : Nat) : Int) + (2 - 1)) (by omega) (by omega), Bool.or_true]
  rfl
theorem dfac_small {r : Nat} (h : r ≤ 10) : dfac r ≤ 654729075 := by
  have := Nat.le_of_dvd (dfac_pos (r + (10 - r))) (dfac_dvd r (10 - r))
  rw [show r + (10 - r) = 10 by omega] at this
  exact Nat.le_trans this (by decide)
section
variable {P : Program} {w : World} {K : PySem.W.Frag} {mg : Str → Option Value} {base : Heap}
/-! ### how many pairings, how many results -/
def spMany : Sp := fun vs H Q _ => ∃ r : Nat, vs = [.int ((2 * r : Nat) : Int)] ∧ r ≤ 10 ∧ Q (.int (dfac r : Nat)) H
theorem ok_p_pairings_many (T : Env K mg) : FnOk P w K mg base CX0 1 T.f_p_pairings_many T.d_p_pairings_many ["size"] spMany := by
  refine T.F_p_pairings_many.ok sc_p_pairings_many (fun vs H Q E h => ?_) (fun cdv A outer s H vs Q E hr h => ?_)
  · obtain ⟨r, rfl, _⟩ := h
    rfl
  · obtain ⟨r, rfl, hr', q⟩ := h
    refine ⟨_, pss_cons (ps_set (i := 1) sc_p_pairings_many.nd rfl (.inl rfl) pe_int) <|
      pss_cons (ps_for PassesOwn.never rfl (pi_range3 rfl T.n_range (pa_cons pe_int (pa_cons (pv 0) (pa_cons pe_int pa_nil)))) (pg_name (i := 2) sc_p_pairings_many.nd rfl (.inl rfl))
        (pss_one (ps_aug (i := 1) sc_p_pairings_many.nd rfl (.inl rfl) (pv 2) ip_mul))) <|
      pss_one (ps_ret (pv 1)), ?_⟩
    refine ⟨_, rfl, 1, _, 2, r, rfl, rgc_odd (by omega), ?_⟩
    refine for_rangeC (fun t σ H' => H' = H ∧ ∃ y : Option V, σ = [some (.int ((2 * r : Nat) : Int)), some (.int (dfac t : Nat)), y]) ⟨rfl, none, rfl⟩ (fun t σ H' ht h => ?_) (fun σ H' h => ?_)
    · obtain ⟨rfl, y, rfl⟩ := h
      have hd := dfac_small (r := t) (by omega)
      refine ⟨_, rfl, _, rfl, _, _, rfl, rfl, .inl ⟨by omega, by omega⟩, rfl, some (.int (1 + (t : Nat) * 2)), ?_⟩
      show [some (V.int ((2 * r : Nat) : Int)), some (V.int ((dfac t : Int) * (1 + (t : Nat) * 2))), some (V.int (1 + (t : Nat) * 2))] = _
      rw [show ((dfac t : Nat) : Int) * (1 + (t : Nat) * 2) = ((dfac (t + 1) : Nat) : Int) by
        show _ = ((dfac t * (2 * t + 1) : Nat) : Int)
        rw [Int.natCast_mul, show ((2 * t + 1 : Nat) : Int) = 1 + (t : Nat) * 2 by omega]]
    · obtain ⟨rfl, y, rfl⟩ := h
      exact ⟨_, rfl, q⟩
end
end Pc
namespace Pc
open PySem PySem.Spec PyProof.Rows L2 RZ
section
variable {P : Program} {w : World} {K : PySem.W.Frag} {mg : Str → Option Value} {base : Heap}
/-! ### how many results -/
def spResMany (K : PySem.W.Frag) : Sp := fun vs H Q _ => ∃ (a : Addr) (f : List Nat) (n : Nat), vs = [.ref a] ∧ Sq K H a (nv f) ∧ IsPair (2 * n) f ∧ n % 2 = 0 ∧ n ≤ 20 ∧ ∀ H', Same H H' → Q (.int (dfac ((sts f n).length / 2) : Nat)) H'
theorem sts_even {n : Nat} {f : List Nat} (hf : IsPair (2 * n) f) (he : n % 2 = 0) : (sts f n).length % 2 = 0 ∧ (sts f n).length ≤ n := by
  have := sts_ups hf
  omega
theorem ok_p_results_many (T : Env K mg) : FnOk P w K mg base CX0 3 T.f_p_results_many T.d_p_results_many ["sheet"] (spResMany K) := by
  have G1 : FnOk P w K mg base CX0 1 T.f_p_pairings_many T.d_p_pairings_many ["size"] spMany := ok_p_pairings_many T
  have G2 : FnOk P w K mg base CX0 2 T.f_p_loose_people T.d_p_loose_people ["sheet"] (spLoose K) := ok_p_loose_people T
  refine T.F_p_results_many.ok sc_p_results_many (fun vs H Q E h => ?_) (fun cdv A outer s H vs Q E hr h => ?_)
  · obtain ⟨a, f, n, rfl, _⟩ := h
    rfl
  · obtain ⟨a, f, n, rfl, ha, hf, he, hn, q⟩ := h
    refine ⟨_, pss_one (ps_ret (pe_call G1 (hr.mono (by decide)) (by rfl) T.g_p_pairings_many T.F_p_pairings_many.kp T.b_p_pairings_many .nil pass0 (pa_cons (pe_callB call_len_seq (by rfl) T.n_len PySem.boot_len (pa_cons (pe_call G2 hr (by rfl) T.g_p_loose_people T.F_p_loose_people.kp T.b_p_loose_people .nil pass0 (pa_cons (pv 0) pa_nil)) pa_nil)) pa_nil))), ?_⟩
    refine ⟨.ref a, rfl, a, f, n, rfl, ha, hf, by omega, fun H1 t s1 nt et => ⟨t, _, rfl, .inl (.inl (.inl et)), (sts f n).length / 2, ?_, ?_, q H1 s1⟩⟩
    · have := sts_even hf he
      show [V.int (((nv (lse f n)).length : Nat) : Int)] = _
      rw [nv_length, lse_len hf, show 2 * ((sts f n).length / 2) = (sts f n).length by omega]
    · have := sts_even hf he
      omega
end
end Pc
namespace Pc
open PySem PySem.Spec PyProof.Rows L2 RZ
section
variable {P : Program} {w : World} {K : PySem.W.Frag} {mg : Str → Option Value} {base : Heap}
/-! ### numbers of people that are equal -/
def spCheckSizes : Sp := fun vs H Q _ => ∃ n : Nat, vs = [.int n, .int n] ∧ Q .non H
theorem ok_p_check_sizes (T : Env K mg) : FnOk P w K mg base CX0 1 T.f_p_check_sizes T.d_p_check_sizes ["first", "second"] spCheckSizes := by
  refine T.F_p_check_sizes.ok sc_p_check_sizes (fun vs H Q E h => ?_) (fun cdv A outer s H vs Q E hr h => ?_)
  · obtain ⟨n, rfl, _⟩ := h
    rfl
  · obtain ⟨n, rfl, q⟩ := h
    refine ⟨_, pss_one (ps_if (pt_cmpR op_ne (pv 0) (pv 1) (nomark _)) pss_never pss_nil), ?_⟩
    refine ⟨_, rfl, _, rfl, rfl, _, rfl, ite2 (fun c => ?_) (fun _ => q)⟩
    rw [decide_eq_true rfl] at c
    exact absurd c (by decide)
end
end Pc
namespace Pc
open PySem PySem.Spec PyProof.Rows L2 RZ
section
variable {P : Program} {w : World} {K : PySem.W.Frag} {mg : Str → Option Value} {base : Heap}
/-! ### sheets one after another -/
def spFarEnd (K : PySem.W.Frag) : Sp := fun vs H Q _ => ∃ (a b : Addr) (f g : List Nat) (n e : Nat), vs = [.ref a, .ref b, .int e] ∧ Sq K H a (nv f) ∧ Sq K H b (nv g) ∧ IsPair (2 * n) f ∧ IsPair (2 * n) g ∧ e < 2 * n ∧ Q (.int ((fol f g n).getD e 0 : Nat)) H
theorem ok_p_far_end (T : Env K mg) : FnOk P w K mg base CX0 2 T.f_p_far_end T.d_p_far_end ["one", "other", "start"] (spFarEnd K) := by
  have G0 : FnOk P w K mg base CX0 1 T.f_p_people_of T.d_p_people_of ["sheet"] (spPeople K) := ok_p_people_of T
  refine T.F_p_far_end.ok sc_p_far_end (fun vs H Q E h => ?_) (fun cdv A outer s H vs Q E hr h => ?_)
  · obtain ⟨a, b, f, g, n, e, rfl, _⟩ := h
    rfl
  · obtain ⟨a, b, f, g, n, e, rfl, ha, hb, hf, hg, he, q⟩ := h
    refine ⟨_, pss_cons (ps_set (i := 3) sc_p_far_end.nd rfl (.inl rfl) (pe_call G0 hr (by rfl) T.g_p_people_of T.F_p_people_of.kp T.b_p_people_of .nil pass0 (pa_cons (pv 0) pa_nil))) <|
      pss_cons (ps_set (i := 4) sc_p_far_end.nd rfl (.inl rfl) (pe_cmpR op_lt (pv 2) (pv 3) (nomark _))) <|
      pss_cons (ps_set (i := 5) sc_p_far_end.nd rfl (.inl rfl) (pe_ifExp (pt_val (pv 4)) (pe_ix ix_seq (pv 0) (pv 2) (fun _ _ => rfl)) (pe_ix ix_seq (pv 1) (pv 2) (fun _ _ => rfl)))) <|
      pss_cons (ps_while PassesOwn.never (pt_cmpR op_eq (pv 4) (pe_cmpR op_ge (pv 5) (pv 3) (nomark _)) (nomark _))
        (pss_cons (ps_set (i := 5) sc_p_far_end.nd rfl (.inl rfl) (pe_ifExp (pt_val (pv 4)) (pe_ix ix_seq (pv 1) (pe_op op_sub (pv 5) (pv 3)) (fun _ _ => rfl)) (pe_ix ix_seq (pv 0) (pe_op op_add (pv 5) (pv 3)) (fun _ _ => rfl)))) <|
        pss_one (ps_set (i := 4) sc_p_far_end.nd rfl (.inl rfl) (pe_not (pv 4))))) <|
      pss_one (ps_ret (pv 5)), ?_⟩
    have W : Ends (cstep f g n n) (cst n n e) ((fol f g n).getD e 0) := cmp_ends hf.two hg.two (show e < n + n by omega)
    have V0 := (cst_val hf.two hg.two (show e < n + n by omega)).1
    obtain ⟨t, W2⟩ := W.count
    have e0 : cst n n e = (decide (e < n), e) := by
      unfold cst
      by_cases c : e < n
      · rw [if_pos c, decide_eq_true c]
      · rw [if_neg c, decide_eq_false c, show n + (e - n) = e by omega]
    rw [e0] at W2 V0
    clear W e0
    generalize (fol f g n).getD e 0 = y at W2 q
    refine ⟨.ref a, rfl, a, f, n, rfl, ha, hf.len, ?_⟩
    refine ⟨_, rfl, _, rfl, _, _, rfl, rfl, ?_⟩
    have fz : ∀ {z : Nat}, z < n + n → f[z]? = some (f.getD z 0) := fun hz => (hf.d (by omega)).2.2.2
    have gz : ∀ {z : Nat}, z < n + n → g[z]? = some (g.getD z 0) := fun hz => (hg.d (by omega)).2.2.2
    have ci : decide ((e : Int) < (n : Int)) = decide (e < n) := by
      by_cases c : e < n
      · rw [decide_eq_true c, decide_eq_true (by omega)]
      · rw [decide_eq_false c, decide_eq_false (by omega)]
    refine ⟨_, rfl, _, rfl, ite2 (fun c => ?wT) (fun c => ?wF)⟩
    case' wT =>
      have c1 : decide (e < n) = true := by rw [← ci]; exact c
      refine ⟨.ref a, rfl, _, rfl, ix_sq ha (nv_at (fz (by omega))) ?_⟩
      have st : [some (V.ref a), some (.ref b), some (.int e), some (.int n), some (.bl (decide ((e : Int) < (n : Int)))), some (.int ((f.getD e 0 : Nat) : Int))] = [some (V.ref a), some (.ref b), some (.int e), some (.int n), some (.bl (decide (e < n))), some (.int ((if decide (e < n) = true then f.getD e 0 else g.getD e 0 : Nat) : Int))] := by rw [ci, c1, if_pos rfl]
    case' wF =>
      have c1 : decide (e < n) = false := by rw [← ci]; exact Bool.eq_false_iff.mpr c
      refine ⟨.ref b, rfl, _, rfl, ix_sq hb (nv_at (gz (by omega))) ?_⟩
      have st : [some (V.ref a), some (.ref b), some (.int e), some (.int n), some (.bl (decide ((e : Int) < (n : Int)))), some (.int ((g.getD e 0 : Nat) : Int))] = [some (V.ref a), some (.ref b), some (.int e), some (.int n), some (.bl (decide (e < n))), some (.int ((if decide (e < n) = true then f.getD e 0 else g.getD e 0 : Nat) : Int))] := by rw [ci, c1, if_neg Bool.false_ne_true]
    all_goals
      refine ⟨fun m σ Hx => Hx = H ∧ ∃ (c : Bool) (z : Nat), σ = [some (.ref a), some (.ref b), some (.int e), some (.int n), some (.bl c), some (.int ((if c = true then f.getD z 0 else g.getD z 0 : Nat) : Int))] ∧ Val n n n (c, z) ∧ EndsN (cstep f g n n) m (c, z) y, ⟨t, rfl, decide (e < n), e, st, V0, W2⟩, fun m σ Hx hW => ?_⟩
      obtain ⟨rfl, c, z, rfl, vz, wz⟩ := hW
      refine ⟨_, rfl, _, rfl, _, rfl, _, _, rfl, rfl, rfl, _, rfl, ?_⟩
      cases c with
      | true =>
        have hz : z < n + n := vz
        have fl := (hf.d (show z < 2 * n by omega)).1
        by_cases p : f.getD z 0 < n
        · refine iteX (by show decide (V.bl true = V.bl (decide ((n : Int) ≤ ((f.getD z 0 : Nat) : Int)))) = false; rw [bl_dec, decide_eq_false (by omega)]; rfl) ?_
          cases wz with
          | go h _ => rw [cs_tl p] at h; cases h
          | stop h => rw [cs_tl p] at h; cases h; exact ⟨_, rfl, q⟩
        · refine iteY (by show decide (V.bl true = V.bl (decide ((n : Int) ≤ ((f.getD z 0 : Nat) : Int)))) = true; rw [bl_dec, decide_eq_true (by omega)]; rfl) ?_
          cases wz with
          | stop h => rw [cs_tg (by omega)] at h; cases h
          | @go t' _ _ _ h w' =>
            rw [cs_tg (by omega)] at h; cases h
            refine ⟨fun σ' H2 => H2 = Hx ∧ ∃ (c : Bool) (z : Nat), σ' = [some (.ref a), some (.ref b), some (.int e), some (.int n), some (.bl c), some (.int ((if c = true then f.getD z 0 else g.getD z 0 : Nat) : Int))] ∧ Val n n n (c, z) ∧ EndsN (cstep f g n n) t' (c, z) y, fun σ' H2 h2 => ⟨t', Nat.lt_succ_self _, h2⟩, ?_⟩
            refine ⟨_, rfl, _, rfl, iteY rfl ⟨.ref b, rfl, _, rfl, _, rfl, _, _, rfl, rfl, ix_sq hb (v := .int ((g.getD (f.getD z 0 - n) 0 : Nat) : Int)) ?_ ?_⟩⟩
            · show atI (nv g) (((f.getD z 0 : Nat) : Int) - (n : Int)) = _
              rw [show ((f.getD z 0 : Nat) : Int) - (n : Int) = ((f.getD z 0 - n : Nat) : Int) by omega]
              exact nv_at (gz (by omega))
            · exact ⟨_, rfl, _, rfl, rfl, false, f.getD z 0 - n, rfl, show f.getD z 0 - n < n + n by omega, w'⟩
      | false =>
        have hz : z < n + n := vz
        have gl := (hg.d (show z < 2 * n by omega)).1
        by_cases p : g.getD z 0 < n
        · refine iteY (by show decide (V.bl false = V.bl (decide ((n : Int) ≤ ((g.getD z 0 : Nat) : Int)))) = true; rw [bl_dec, decide_eq_false (by omega)]; rfl) ?_
          cases wz with
          | stop h => rw [cs_fl p] at h; cases h
          | @go t' _ _ _ h w' =>
            rw [cs_fl p] at h; cases h
            refine ⟨fun σ' H2 => H2 = Hx ∧ ∃ (c : Bool) (z : Nat), σ' = [some (.ref a), some (.ref b), some (.int e), some (.int n), some (.bl c), some (.int ((if c = true then f.getD z 0 else g.getD z 0 : Nat) : Int))] ∧ Val n n n (c, z) ∧ EndsN (cstep f g n n) t' (c, z) y, fun σ' H2 h2 => ⟨t', Nat.lt_succ_self _, h2⟩, ?_⟩
            refine ⟨_, rfl, _, rfl, iteX rfl ⟨.ref a, rfl, _, rfl, _, rfl, _, _, rfl, rfl, ix_sq ha (v := .int ((f.getD (n + g.getD z 0) 0 : Nat) : Int)) ?_ ?_⟩⟩
            · show atI (nv f) (((g.getD z 0 : Nat) : Int) + (n : Int)) = _
              rw [show ((g.getD z 0 : Nat) : Int) + (n : Int) = ((n + g.getD z 0 : Nat) : Int) by omega]
              exact nv_at (fz (by omega))
            · exact ⟨_, rfl, _, rfl, rfl, true, n + g.getD z 0, rfl, show n + g.getD z 0 < n + n by omega, w'⟩
        · refine iteX (by show decide (V.bl false = V.bl (decide ((n : Int) ≤ ((g.getD z 0 : Nat) : Int)))) = false; rw [bl_dec, decide_eq_true (by omega)]; rfl) ?_
          cases wz with
          | go h _ => rw [cs_fg (by omega)] at h; cases h
          | stop h =>
            rw [cs_fg (by omega), show n + (g.getD z 0 - n) = g.getD z 0 by omega] at h; cases h; exact ⟨_, rfl, q⟩
def spFollowed (K : PySem.W.Frag) : Sp := fun vs H Q _ => ∃ (a b : Addr) (f g : List Nat) (n : Nat), vs = [.ref a, .ref b] ∧ Sq K H a (nv f) ∧ Sq K H b (nv g) ∧ IsPair (2 * n) f ∧ IsPair (2 * n) g ∧ n ≤ 500 ∧
  ∀ (H' : Hp) (t : Addr), Same H H' → H t = none → H' t = some (.tup (nv (fol f g n))) → Q (.ref t) H'
theorem take_d {l : List Nat} {i : Nat} (h : i < l.length) : l.take (i + 1) = l.take i ++ [l.getD i 0] := by
  rw [List.take_add_one, List.getD_eq_getElem?_getD, List.getElem?_eq_getElem h]; rfl
theorem ok_p_followed (T : Env K mg) : FnOk P w K mg base CX0 3 T.f_p_followed T.d_p_followed ["one", "other"] (spFollowed K) := by
  have G0 : FnOk P w K mg base CX0 1 T.f_p_people_of T.d_p_people_of ["sheet"] (spPeople K) := ok_p_people_of T
  have G1 : FnOk P w K mg base CX0 1 T.f_p_check_sizes T.d_p_check_sizes ["first", "second"] spCheckSizes := ok_p_check_sizes T
  have G2 : FnOk P w K mg base CX0 2 T.f_p_far_end T.d_p_far_end ["one", "other", "start"] (spFarEnd K) := ok_p_far_end T
  refine T.F_p_followed.ok sc_p_followed (fun vs H Q E h => ?_) (fun cdv A outer s H vs Q E hr h => ?_)
  · obtain ⟨a, b, f, g, n, rfl, _⟩ := h
    rfl
  · obtain ⟨a, b, f, g, n, rfl, ha, hb, hf, hg, hn, q⟩ := h
    have h1 := hr.mono (show 1 ≤ 2 by decide)
    refine ⟨_, pss_cons (ps_expr (pe_call G1 h1 (by rfl) T.g_p_check_sizes T.F_p_check_sizes.kp T.b_p_check_sizes .nil pass0 (pa_cons (pe_call G0 h1 (by rfl) T.g_p_people_of T.F_p_people_of.kp T.b_p_people_of .nil pass0 (pa_cons (pv 0) pa_nil)) (pa_cons (pe_call G0 h1 (by rfl) T.g_p_people_of T.F_p_people_of.kp T.b_p_people_of .nil pass0 (pa_cons (pv 1) pa_nil)) pa_nil)))) <|
      pss_one (ps_ret (pe_callTy call_tuple_of (by rfl) T.n_tuple (by decide +kernel) (pa_cons
        (pe_lc (own := [("start", 2)]) (g := gName 2) (tt := tYes) (te := tCall (spFarEnd K) [] (fun _ _ _ => False) (tCons (tVar 0) (tCons (tVar 1) (tCons (tVar 2) tNil)))) rfl sc_p_followed.nd
          (pi_range1 (by rfl) T.n_range (pa_cons (pe_callB call_len_seq (by rfl) T.n_len PySem.boot_len (pa_cons (pv 0) pa_nil)) pa_nil)) (blkOk_by (N := N_p_followed) (sc := defScope s_p_followed) (by decide +kernel)) (fun _ _ _ _ _ => pg_name (i := 2) sc_p_followed.nd rfl (.inl rfl)) (fun _ _ _ _ _ => pts_nil)
          (fun _ _ _ _ _ => pe_call G2 hr (by rfl) T.g_p_far_end T.F_p_far_end.kp T.b_p_far_end .nil pass0 (pa_cons (pv 0) (pa_cons (pv 1) (pa_cons (pv 2) pa_nil))))) pa_nil))), ?_⟩
    have hl : ((nv f).length : Int) = ((2 * n : Nat) : Int) := by rw [nv_length, hf.len]
    have fl : (fol f g n).length = 2 * n := (fol_pair hf hg).len
    refine ⟨.ref a, rfl, a, f, n, rfl, ha, hf.len, .ref b, rfl, b, g, n, rfl, hb, hg.len, n, rfl, ?_⟩
    refine ⟨.ref a, rfl, a, _, rfl, ha, _, rfl, by rw [hl]; omega, by rw [hl]; omega, fun D nD => ?_⟩
    rw [show (((nv f).length : Int)).toNat = 2 * n by rw [hl]; omega]
    refine lc_range (n := 2 * n) (fun i H' => Same H H' ∧ H' D = some (.lst (nv ((fol f g n).take i)))) ⟨same_new nD, upd_same⟩ (fun i H1 hi hPv => ?_) (fun H1 hPv => ?_)
    · obtain ⟨sm, eD⟩ := hPv
      refine ⟨rfl, yes_if ⟨.ref a, rfl, .ref b, rfl, _, rfl, a, b, f, g, n, i, ?_, ha.same sm, hb.same sm, hf, hg, hi, _, eD, line_big (by rw [nv_length, List.length_take, fl]; omega), fun x o hx => ?_, ?_⟩⟩
      · show [V.ref a, V.ref b, V.int ((0 : Int) + (i : Nat))] = _
        rw [Int.zero_add]
      · rw [upd_ne (ne_of_none hx nD)]; exact sm _ _ hx
      · rw [upd_same, take_d (by rw [fl]; exact hi), ← nv_snoc']
    · obtain ⟨s1, eD⟩ := hPv
      rw [List.take_of_length_le (Nat.le_of_eq fl)] at eD
      exact ⟨D, _, rfl, .inl ⟨.inl (.inl eD), fun t nt => q _ t (s1.trans (same_new nt)) (s1.free nt) upd_same⟩⟩
end
end Pc
namespace Pc
open PySem PySem.Spec PyProof.Rows L2 RZ
section
variable {P : Program} {w : World} {K : PySem.W.Frag} {mg : Str → Option Value} {base : Heap}
/-! ### many times -/
def spTimes (K : PySem.W.Frag) : Sp := fun vs H Q _ => ∃ (a : Addr) (f : List Nat) (n k : Nat), vs = [.ref a, .int k] ∧ Sq K H a (nv f) ∧ IsPair (2 * n) f ∧ 0 < n ∧ n ≤ 500 ∧
  ∀ (H' : Hp) (t : Addr), Same H H' → H t = none → H' t = some (.tup (nv (pw f n k))) → Q (.ref t) H'
theorem ok_p_times (T : Env K mg) : FnOk P w K mg base CX0 4 T.f_p_times T.d_p_times ["sheet", "many"] (spTimes K) := by
  have G0 : FnOk P w K mg base CX0 1 T.f_p_people_of T.d_p_people_of ["sheet"] (spPeople K) := ok_p_people_of T
  have Ge : FnOk P w K mg base CX0 1 T.f_p_empty_sheet T.d_p_empty_sheet ["size"] spEmpty := ok_p_empty_sheet T
  have GF : FnOk P w K mg base CX0 3 T.f_p_followed T.d_p_followed ["one", "other"] (spFollowed K) := ok_p_followed T
  refine T.F_p_times.ok sc_p_times (fun vs H Q E h => ?_) (fun cdv A outer s H vs Q E hr h => ?_)
  · obtain ⟨a, f, n, k, rfl, _⟩ := h
    rfl
  · obtain ⟨a, f, n, k, rfl, ha, hf, h0, hn, q⟩ := h
    have h1 := hr.mono (show 1 ≤ 3 by decide)
    refine ⟨_, pss_cons (ps_set (i := 2) sc_p_times.nd rfl (.inl rfl) (pe_call Ge h1 (by rfl) T.g_p_empty_sheet T.F_p_empty_sheet.kp T.b_p_empty_sheet .nil pass0 (pa_cons (pe_call G0 h1 (by rfl) T.g_p_people_of T.F_p_people_of.kp T.b_p_people_of .nil pass0 (pa_cons (pv 0) pa_nil)) pa_nil))) <|
      pss_cons (ps_set (i := 3) sc_p_times.nd rfl (.inl rfl) (pe_callTy call_tuple_of (by rfl) T.n_tuple (by decide +kernel) (pa_cons (pv 0) pa_nil))) <|
      pss_cons (ps_set (i := 4) sc_p_times.nd rfl (.inl rfl) (pv 1)) <|
      pss_cons (ps_while PassesOwn.never (pt_cmpR op_gt (pv 4) pe_int (nomark _))
        (pss_cons (ps_if (pt_cmpR op_eq (pe_op op_mod (pv 4) pe_int) pe_int (nomark _)) (pss_one (ps_set (i := 2) sc_p_times.nd rfl (.inl rfl) (pe_call GF hr (by rfl) T.g_p_followed T.F_p_followed.kp T.b_p_followed .nil pass0 (pa_cons (pv 2) (pa_cons (pv 3) pa_nil))))) pss_nil) <|
        pss_cons (ps_set (i := 3) sc_p_times.nd rfl (.inl rfl) (pe_call GF hr (by rfl) T.g_p_followed T.F_p_followed.kp T.b_p_followed .nil pass0 (pa_cons (pv 3) (pa_cons (pv 3) pa_nil)))) <|
        pss_one (ps_aug (i := 4) sc_p_times.nd rfl (.inl rfl) pe_int ip_half))) <|
      pss_one (ps_ret (pv 2)), ?_⟩
    refine ⟨.ref a, rfl, a, f, n, rfl, ha, hf.len, n, rfl, by omega, fun H1 d s1 nd ed => ?_⟩
    refine ⟨.ref a, rfl, a, nv f, rfl, ?_⟩
    have pp := pw_pair h0 hf
    rcases ha with hl | ht
    case' inl =>
      refine .inl ⟨s1.seq hl, fun p np => ?_⟩
      have s2 : Same H (upd H1 p (.tup (nv f))) := s1.trans (same_new np)
      have ep : SqT K (upd H1 p (.tup (nv f))) p (nv f) := .inl (.inl upd_same)
      have ed2 : (upd H1 p (.tup (nv f))) d = some (.tup (nv (emp n))) := same_new np _ _ ed
      revert s2 ep ed2
      generalize upd H1 p (.tup (nv f)) = H2
      intro s2 ep ed2
    case' inr =>
      refine .inr ⟨same_tup s1 ht, ?_⟩
      have ep := same_tup s1 ht
      obtain ⟨H2, rfl⟩ : ∃ H2, H2 = H1 := ⟨H1, rfl⟩
      obtain ⟨p, rfl⟩ : ∃ p, p = a := ⟨a, rfl⟩
      have s2 := s1
      have ed2 := ed
    all_goals
      refine ⟨_, rfl, ?_⟩
      refine ⟨fun m σ H' => ∃ (y0 : Option V) (d p : Addr) (done j : Nat), σ = [y0, some (.int k), some (.ref d), some (.ref p), some (.int (m : Nat))] ∧ Same H H' ∧ H d = none ∧ H' d = some (.tup (nv (pw f n done))) ∧ SqT K H' p (nv (pw f n j)) ∧ done + j * m = k,
        ⟨k, _, d, p, 0, 1, rfl, s2, nd, ed2, by rw [pw_one h0 hf]; exact ep, by omega⟩, fun m σ H' hW => ?_⟩
      obtain ⟨y0, d', p', done, j, rfl, sm, nd', ed', ep', hk⟩ := hW
      refine ⟨_, rfl, _, _, rfl, rfl, _, rfl, ite2 (fun c => ?_) (fun c => ?_)⟩
      · have hm : 0 < m := by have := of_decide_eq_true c; omega
        have half : ((m : Int) / 2) = ((m / 2 : Nat) : Int) := by omega
        refine ⟨fun σ' H2 => ∃ (y0 : Option V) (d p : Addr) (done j : Nat), σ' = [y0, some (.int k), some (.ref d), some (.ref p), some (.int (m / 2 : Nat))] ∧ Same H H2 ∧ H d = none ∧ H2 d = some (.tup (nv (pw f n done))) ∧ SqT K H2 p (nv (pw f n j)) ∧ done + j * (m / 2) = k, fun σ' H2 h2 => ⟨m / 2, by omega, h2⟩, ?_⟩
        refine ⟨_, rfl, _, _, rfl, rfl, (show (0 : Int) < 2 by decide), rfl, _, rfl, ite2 (fun c2 => ?_) (fun c2 => ?_)⟩
        · have h2 : m % 2 = 1 := by have := V.int.inj (of_decide_eq_true c2); omega
          refine ⟨_, rfl, _, rfl, d', p', _, _, n, rfl, .inr (.inl (.inl ed')), .inr ep', pp done, pp j, hn, fun H3 d3 s3 nd3 ed3 => ?_⟩
          have hfo : fol (pw f n done) (pw f n j) n = pw f n (done + j) := pw_add h0 hf done j
          rw [hfo] at ed3
          refine ⟨_, rfl, _, rfl, p', p', _, _, n, rfl, .inr (same_tup s3 ep'), .inr (same_tup s3 ep'), pp j, pp j, hn, fun H4 p4 s4 np4 ep4 => ?_⟩
          have hf2 : fol (pw f n j) (pw f n j) n = pw f n (j + j) := pw_add h0 hf j j
          rw [hf2] at ep4
          refine ⟨_, rfl, _, _, rfl, rfl, ⟨by decide, by decide⟩, y0, d3, p4, done + j, j + j, ?_, sm.trans (s3.trans s4), sm.free nd3, s4 _ _ ed3, .inl (.inl ep4), ?_⟩
          · rw [half]; rfl
          · have e2 : m = 2 * (m / 2) + 1 := by omega
            have e3 : j * m = j * (2 * (m / 2)) + j := by rw [← Nat.mul_succ]; exact congrArg (j * ·) e2
            have e4 : j * (2 * (m / 2)) = (j + j) * (m / 2) := by rw [← Nat.mul_assoc, Nat.mul_two]
            omega
        · have h2 : m % 2 = 0 := by
            by_cases z : m % 2 = 1
            · exact absurd (decide_eq_true (show V.int ((m : Int) % 2) = V.int 1 by rw [show (m : Int) % 2 = 1 by omega])) c2
            · omega
          refine ⟨_, rfl, _, rfl, p', p', _, _, n, rfl, .inr ep', .inr ep', pp j, pp j, hn, fun H4 p4 s4 np4 ep4 => ?_⟩
          have hf2 : fol (pw f n j) (pw f n j) n = pw f n (j + j) := pw_add h0 hf j j
          rw [hf2] at ep4
          refine ⟨_, rfl, _, _, rfl, rfl, ⟨by decide, by decide⟩, y0, d', p4, done, j + j, ?_, sm.trans s4, nd', s4 _ _ ed', .inl (.inl ep4), ?_⟩
          · rw [half]; rfl
          · have e2 : m = 2 * (m / 2) := by omega
            have e3 : j * m = j * (2 * (m / 2)) := congrArg (j * ·) e2
            have e4 : j * (2 * (m / 2)) = (j + j) * (m / 2) := by rw [← Nat.mul_assoc, Nat.mul_two]
            omega
      · have hm : m = 0 := by
          by_cases z : m = 0
          · exact z
          · exact absurd (decide_eq_true (show (0 : Int) < (m : Int) by omega)) c
        subst hm
        rw [Nat.mul_zero, Nat.add_zero] at hk
        subst hk
        exact ⟨_, rfl, q H' d' sm nd' ed'⟩
end
end Pc
namespace Pc
open PySem PySem.Spec PyProof.Rows L2 RZ
/-! ### numbers, sorted (a part of lib44: never both) -/
theorem nv_ints (l : List Nat) : nv l = (l.map fun (i : Nat) => (i : Int)).map V.int := by unfold nv; rw [List.map_map]; rfl
theorem sort_nats {K : PySem.W.Frag} {H : Hp} {a : Addr} {l t : List Nat} {Q : VK} (hS : SqL K H a (nv l)) (hl : l.length < 64) (hp : t.Perm l) (hs : t.Pairwise (· < ·)) (h : ∀ p : Addr, H p = none → Q (.ref p) (upd H p (.lst (nv t)))) : rSorted K [.ref a] H Q := by
  refine ⟨a, l.map fun (i : Nat) => (i : Int), rfl, by rw [← nv_ints]; exact hS, by rw [List.length_map]; exact hl, fun ns' p hpm hso np => ?_⟩
  have e : ns' = t.map fun (i : Nat) => (i : Int) := by
    refine List.Perm.eq_of_pairwise (le := fun a b : Int => a ≤ b) (fun a b _ _ h1 h2 => by omega) hso ?_ (hpm.trans (hp.symm.map _))
    rw [List.pairwise_map]
    exact hs.imp fun {a b} h => by omega
  have := h p np
  rw [nv_ints, ← e] at this
  exact this
theorem sort_natsN {K : PySem.W.Frag} {σ : L2.St} {H : Hp} {a : Addr} {l t : List Nat} {Q : VK} (hS : SqL K H a (nv l)) (hl : l.length < 64) (hp : t.Perm l) (hs : t.Pairwise (· < ·)) (h : ∀ p : Addr, H p = none → Q (.ref p) (upd H p (.lst (nv t)))) : tNil σ H (fun xs H2 => rSorted K (.ref a :: xs) H2 Q) := sort_nats hS hl hp hs h
end Pc
namespace Pc
/-! ### the cycles of two pairings -/
theorem nd_len : ∀ (n : Nat) (l : List Nat), l.Nodup → (∀ y ∈ l, y < n) → l.length ≤ n
  | 0, [], _, _ => Nat.le_refl _
  | 0, y :: _, _, h => absurd (h y List.mem_cons_self) (Nat.not_lt_zero _)
  | n + 1, l, hd, h => by
    have h1 := nd_len n (l.erase n) (hd.erase n) (fun y hy => by
      have h2 := (hd.mem_erase_iff).mp hy
      have h3 := h y h2.2
      have h4 := h2.1
      omega)
    rw [List.length_erase] at h1
    split at h1 <;> omega
theorem nd_all : ∀ (n : Nat) (l : List Nat), l.Nodup → (∀ y ∈ l, y < n) → (∀ y, y < n → y ∈ l) → l.Perm (List.range n) := fun n l hd h1 h2 =>
  (List.perm_ext_iff_of_nodup hd List.nodup_range).mpr fun y => ⟨fun hy => List.mem_range.mpr (h1 y hy), fun hy => h2 y (List.mem_range.mp hy)⟩
inductive LapEnd (a b : List Nat) : List Nat → Nat → List Nat → Prop
  | stop {l : List Nat} {z : Nat} : z ∈ l → LapEnd a b l z l
  | go {l r : List Nat} {z : Nat} : z ∉ l → LapEnd a b (l ++ [z, a.getD z 0]) (b.getD (a.getD z 0) 0) r → LapEnd a b l z r
theorem LapEnd.det {a b l r r' : List Nat} {z : Nat} (h : LapEnd a b l z r) : LapEnd a b l z r' → r = r' := by
  induction h with
  | stop h1 => intro h2; cases h2 with
    | stop _ => rfl
    | go h3 _ => exact absurd h1 h3
  | go h1 _ ih => intro h2; cases h2 with
    | stop h3 => exact absurd h3 h1
    | go _ h4 => exact ih h4
structure LpI (a b : List Nat) (n x : Nat) (l : List Nat) (z : Nat) : Prop where
  nd : l.Nodup
  lt : ∀ y ∈ l, y < n
  zl : z < n
  xl : x < n
  ca : ∀ y ∈ l, a.getD y 0 ∈ l
  st : l ≠ [] → x ∈ l ∧ b.getD z 0 ∈ l ∧ b.getD z 0 ≠ x
  s0 : l = [] → z = x
  cb : ∀ y ∈ l, y ≠ x → y ≠ b.getD z 0 → b.getD y 0 ∈ l ∧ b.getD y 0 ≠ x ∧ b.getD y 0 ≠ b.getD z 0
theorem LpI.start {a b : List Nat} {n x : Nat} (hx : x < n) : LpI a b n x [] x :=
  ⟨List.nodup_nil, fun _ h => absurd h List.not_mem_nil, hx, hx, fun _ h => absurd h List.not_mem_nil, fun h => absurd rfl h, fun _ => rfl, fun _ h => absurd h List.not_mem_nil⟩
theorem LpI.step {a b : List Nat} {n x z : Nat} {l : List Nat} (ha : IsPair n a) (hb : IsPair n b) (h : LpI a b n x l z) (hz : z ∉ l) : LpI a b n x (l ++ [z, a.getD z 0]) (b.getD (a.getD z 0) 0) := by
  obtain ⟨a1, a2, a3, _⟩ := ha.d h.zl
  obtain ⟨b1, b2, b3, _⟩ := hb.d a1
  obtain ⟨c1, c2, c3, _⟩ := hb.d h.zl
  have haz : a.getD z 0 ∉ l := fun hm => hz (by have := h.ca _ hm; rwa [a3] at this)
  have hxz : l ≠ [] → z ≠ x := fun hl e => hz (by rw [e]; exact (h.st hl).1)
  have hnil : ∀ y ∈ l, l ≠ [] := fun y hy e => by rw [e] at hy; exact absurd hy List.not_mem_nil
  refine ⟨?_, ?_, b1, h.xl, ?_, ?_, ?_, ?_⟩
  · refine List.nodup_append.mpr ⟨h.nd, ?_, fun y hy w hw => ?_⟩
    · exact List.nodup_cons.mpr ⟨fun hm => a2 (List.mem_singleton.mp hm).symm, List.nodup_cons.mpr ⟨List.not_mem_nil, List.nodup_nil⟩⟩
    · rcases List.mem_cons.mp hw with e | hw
      · exact fun e2 => hz (by rw [← e, ← e2]; exact hy)
      · exact fun e2 => haz (by rw [← List.mem_singleton.mp hw, ← e2]; exact hy)
  · intro y hy
    rcases List.mem_append.mp hy with hy | hy
    · exact h.lt y hy
    · rcases List.mem_cons.mp hy with e | hy
      · rw [e]; exact h.zl
      · rw [List.mem_singleton.mp hy]; exact a1
  · intro y hy
    refine List.mem_append.mpr ?_
    rcases List.mem_append.mp hy with hy | hy
    · exact .inl (h.ca y hy)
    · rcases List.mem_cons.mp hy with e | hy
      · rw [e]; exact .inr (List.mem_cons_of_mem _ List.mem_cons_self)
      · rw [List.mem_singleton.mp hy, a3]; exact .inr List.mem_cons_self
  · intro _
    rw [b3]
    refine ⟨?_, List.mem_append.mpr (.inr (List.mem_cons_of_mem _ List.mem_cons_self)), ?_⟩
    · by_cases e : l = []
      · rw [h.s0 e]; exact List.mem_append.mpr (.inr List.mem_cons_self)
      · exact List.mem_append.mpr (.inl (h.st e).1)
    · by_cases e : l = []
      · rw [← h.s0 e]; exact a2
      · exact fun e2 => haz (by rw [e2]; exact (h.st e).1)
  · intro e; exact absurd e (by simp)
  · intro y hy hyx hyz
    rw [b3] at hyz ⊢
    rcases List.mem_append.mp hy with hy | hy
    · by_cases e : y = b.getD z 0
      · rw [e, c3]
        exact ⟨List.mem_append.mpr (.inr List.mem_cons_self), hxz (hnil _ hy), fun e => a2 e.symm⟩
      · obtain ⟨h1, h2, _⟩ := h.cb y hy hyx e
        exact ⟨List.mem_append.mpr (.inl h1), h2, fun e2 => haz (by rw [← e2]; exact h1)⟩
    · rcases List.mem_cons.mp hy with e | hy
      · by_cases e2 : l = []
        · exact absurd (e.trans (h.s0 e2)) hyx
        · rw [e]
          obtain ⟨h1, h2, h3⟩ := h.st e2
          exact ⟨List.mem_append.mpr (.inl h2), h3, fun e3 => haz (by rw [← e3]; exact h2)⟩
      · exact absurd (List.mem_singleton.mp hy) hyz
theorem LpI.done {a b : List Nat} {n x z : Nat} {l : List Nat} (hb : IsPair n b) (h : LpI a b n x l z) (hz : z ∈ l) : z = x := by
  by_cases e : z = x
  · exact e
  · exact absurd rfl (h.cb z hz e (fun e2 => (hb.d h.zl).2.1 e2.symm)).2.2
theorem LpI.closed {a b : List Nat} {n x z : Nat} {l : List Nat} (hb : IsPair n b) (h : LpI a b n x l z) (hz : z ∈ l) : ∀ y ∈ l, b.getD y 0 ∈ l := by
  intro y hy
  have hn : l ≠ [] := fun e => by rw [e] at hy; exact absurd hy List.not_mem_nil
  have e := h.done hb hz
  obtain ⟨h1, h2, _⟩ := h.st hn
  by_cases e1 : y = x
  · rw [e1, ← e]; exact h2
  · by_cases e2 : y = b.getD z 0
    · rw [e2, (hb.d h.zl).2.2.1]; exact hz
    · exact (h.cb y hy e1 e2).1
theorem LpI.room {a b : List Nat} {n x z : Nat} {l : List Nat} (ha : IsPair n a) (hb : IsPair n b) (h : LpI a b n x l z) (hz : z ∉ l) : l.length + 2 ≤ n := by
  have h1 := h.step ha hb hz
  have h2 := nd_len n _ h1.nd h1.lt
  rw [List.length_append] at h2
  exact h2
theorem LpI.some {a b : List Nat} {n x : Nat} (ha : IsPair n a) (hb : IsPair n b) : ∀ (k : Nat) (l : List Nat) (z : Nat), n - l.length ≤ k → LpI a b n x l z → ∃ r, LapEnd a b l z r
  | 0, l, z, hk, h => by
    by_cases hz : z ∈ l
    · exact ⟨_, .stop hz⟩
    · have := h.room ha hb hz; omega
  | k + 1, l, z, hk, h => by
    by_cases hz : z ∈ l
    · exact ⟨_, .stop hz⟩
    · have := h.room ha hb hz
      obtain ⟨r, hr⟩ := LpI.some ha hb k _ _ (by rw [List.length_append]; show n - (l.length + 2) ≤ k; omega) (h.step ha hb hz)
      exact ⟨r, .go hz hr⟩
/-- a whole lap -/
structure Lap (a b : List Nat) (n x : Nat) (M r : List Nat) : Prop where
  en : LapEnd a b [] x r
  inv : LpI a b n x r x
  hx : x ∈ r
  out : ∀ y ∈ r, y ∉ M
theorem LapEnd.lap {a b : List Nat} {n x : Nat} (ha : IsPair n a) (hb : IsPair n b) {l r : List Nat} {z : Nat} (h : LapEnd a b l z r) : LpI a b n x l z → LpI a b n x r x ∧ x ∈ r := by
  induction h with
  | stop hz => intro hi; have e := hi.done hb hz; rw [e] at hi hz; exact ⟨hi, hz⟩
  | go hz _ ih => intro hi; exact ih (hi.step ha hb hz)
theorem LapEnd.out {a b : List Nat} {n x : Nat} (ha : IsPair n a) (hb : IsPair n b) {M : List Nat} (ca : ∀ y ∈ M, a.getD y 0 ∈ M) (cb : ∀ y ∈ M, b.getD y 0 ∈ M) {l r : List Nat} {z : Nat} (h : LapEnd a b l z r) :
    LpI a b n x l z → z ∉ M → (∀ y ∈ l, y ∉ M) → ∀ y ∈ r, y ∉ M := by
  induction h with
  | stop _ => intro _ _ h; exact h
  | @go l' r' z' hz _ ih =>
    intro hi hzM hl
    obtain ⟨a1, _, a3, _⟩ := ha.d hi.zl
    obtain ⟨_, _, b3, _⟩ := hb.d a1
    have haM : a.getD z' 0 ∉ M := fun e => hzM (by have := ca _ e; rwa [a3] at this)
    refine ih (hi.step ha hb hz) (fun e => haM (by have := cb _ e; rwa [b3] at this)) fun y hy => ?_
    rcases List.mem_append.mp hy with hy | hy
    · exact hl y hy
    · rcases List.mem_cons.mp hy with e | hy
      · rw [e]; exact hzM
      · rw [List.mem_singleton.mp hy]; exact haM
/-- the cycles found up to a person -/
inductive Rn (a b : List Nat) : Nat → List (List Nat) → Prop
  | zero : Rn a b 0 []
  | skip {i : Nat} {ls : List (List Nat)} : Rn a b i ls → i ∈ ls.flatten → Rn a b (i + 1) ls
  | new {i : Nat} {ls : List (List Nat)} {r : List Nat} : Rn a b i ls → i ∉ ls.flatten → LapEnd a b [] i r → Rn a b (i + 1) (ls ++ [r])
theorem Rn.det {a b : List Nat} {i : Nat} {ls : List (List Nat)} (h : Rn a b i ls) : ∀ {ms : List (List Nat)}, Rn a b i ms → ls = ms := by
  induction h with
  | zero => intro ms h2; cases h2; rfl
  | skip h1 hm ih => intro ms h2; cases h2 with
    | skip h3 _ => exact ih h3
    | new h3 hn _ => rw [← ih h3] at hn; exact absurd hm hn
  | new h1 hn he ih => intro ms h2; cases h2 with
    | skip h3 hm => rw [← ih h3] at hm; exact absurd hm hn
    | new h3 _ he' => rw [ih h3, he.det he']
structure RnI (a b : List Nat) (n i : Nat) (ls : List (List Nat)) : Prop where
  nd : ls.flatten.Nodup
  lt : ∀ y ∈ ls.flatten, y < n
  ca : ∀ y ∈ ls.flatten, a.getD y 0 ∈ ls.flatten
  cb : ∀ y ∈ ls.flatten, b.getD y 0 ∈ ls.flatten
  al : ∀ y, y < i → y ∈ ls.flatten
  ne : ∀ l ∈ ls, l ≠ []
theorem flat_snoc (ls : List (List Nat)) (r : List Nat) : (ls ++ [r]).flatten = ls.flatten ++ r := by
  rw [List.flatten_append]; simp
theorem Rn.inv {a b : List Nat} {n : Nat} (ha : IsPair n a) (hb : IsPair n b) {i : Nat} {ls : List (List Nat)} (h : Rn a b i ls) : i ≤ n → RnI a b n i ls := by
  induction h with
  | zero => intro _; exact ⟨List.nodup_nil, fun _ h => absurd h List.not_mem_nil, fun _ h => absurd h List.not_mem_nil, fun _ h => absurd h List.not_mem_nil, fun _ h => absurd h (Nat.not_lt_zero _), fun _ h => absurd h List.not_mem_nil⟩
  | @skip i ls _ hm ih =>
    intro hi
    have h := ih (by omega)
    exact ⟨h.nd, h.lt, h.ca, h.cb, fun y hy => by by_cases e : y = i; · rw [e]; exact hm
                                                  · exact h.al y (by omega), h.ne⟩
  | @new i ls r _ hn he ih =>
    intro hi
    have h := ih (by omega)
    have s0 : LpI a b n i [] i := LpI.start (by omega)
    obtain ⟨h1, h2⟩ := he.lap ha hb s0
    have h3 := he.out ha hb h.ca h.cb s0 hn (fun _ h => absurd h List.not_mem_nil)
    have h4 := h1.closed hb h2
    refine ⟨?_, ?_, ?_, ?_, ?_, ?_⟩
    · rw [flat_snoc]; exact List.nodup_append.mpr ⟨h.nd, h1.nd, fun y hy w hw e => h3 w hw (by rw [← e]; exact hy)⟩
    · rw [flat_snoc]; intro y hy; rcases List.mem_append.mp hy with hy | hy
      · exact h.lt y hy
      · exact h1.lt y hy
    · rw [flat_snoc]; intro y hy; rcases List.mem_append.mp hy with hy | hy
      · exact List.mem_append.mpr (.inl (h.ca y hy))
      · exact List.mem_append.mpr (.inr (h1.ca y hy))
    · rw [flat_snoc]; intro y hy; rcases List.mem_append.mp hy with hy | hy
      · exact List.mem_append.mpr (.inl (h.cb y hy))
      · exact List.mem_append.mpr (.inr (h4 y hy))
    · rw [flat_snoc]; intro y hy
      by_cases e : y = i
      · rw [e]; exact List.mem_append.mpr (.inr h2)
      · exact List.mem_append.mpr (.inl (h.al y (by omega)))
    · intro l hl; rcases List.mem_append.mp hl with hl | hl
      · exact h.ne l hl
      · rw [List.mem_singleton.mp hl]; intro e; rw [e] at h2; exact absurd h2 List.not_mem_nil
theorem flatL_len : ∀ (ls : List (List Nat)), (∀ l ∈ ls, l ≠ []) → ls.length ≤ ls.flatten.length
  | [], _ => Nat.le_refl _
  | l :: ls, h => by
    have h1 := flatL_len ls (fun m hm => h m (List.mem_cons_of_mem _ hm))
    have h2 : 0 < l.length := List.length_pos_iff.mpr (h l List.mem_cons_self)
    rw [List.flatten_cons, List.length_append, List.length_cons]; omega
theorem flatL_one {ls : List (List Nat)} {l : List Nat} (h : l ∈ ls) : l.length ≤ ls.flatten.length := by
  obtain ⟨s, t, rfl⟩ := List.append_of_mem h
  rw [List.flatten_append, List.flatten_cons, List.length_append, List.length_append]; omega
theorem RnI.len {a b : List Nat} {n i : Nat} {ls : List (List Nat)} (h : RnI a b n i ls) : ls.flatten.length ≤ n := nd_len n _ h.nd h.lt
theorem RnI.len' {a b : List Nat} {n i : Nat} {ls : List (List Nat)} (h : RnI a b n i ls) : ls.length ≤ n := Nat.le_trans (flatL_len ls h.ne) h.len
theorem RnI.perm {a b : List Nat} {n : Nat} {ls : List (List Nat)} (h : RnI a b n n ls) : ls.flatten.Perm (List.range n) := nd_all n _ h.nd h.lt h.al
end Pc
namespace Pc
open PySem PySem.Spec PyProof.Rows L2 RZ
theorem tups_upd {w : World} {g : Addr} {S : Int → Bool} {k : Nat} {H : Hp} {o : HO} (hg : H g = some (SetO w g S k)) : ∀ {as : List Addr} {ls : List (List Nat)}, Tups H as ls → Tups (upd H g o) as ls
  | _, _, .nil => .nil
  | _, _, .cons h r => .cons (by rw [upd_ne (fun z => by rw [z, hg] at h; cases h)]; exact h) (tups_upd hg r)
end Pc
namespace Pc
/-! ### the loops of a closed sheet -/
def upE (f : List Nat) (n p : Nat) : Nat := f.getD p 0 % n
def loE (f : List Nat) (n p : Nat) : Nat := f.getD (n + p) 0 % n
structure LoopL (f : List Nat) (n x : Nat) (ps : List Nat) : Prop where
  mem : x ∈ ps
  nd : ps.Nodup
  lt : ∀ p ∈ ps, p < n
  cl : ∀ p ∈ ps, upE f n p ∈ ps ∧ loE f n p ∈ ps
  mn : ∀ M : List Nat, x ∈ M → (∀ p ∈ M, upE f n p ∈ M ∧ loE f n p ∈ M) → ∀ p ∈ ps, p ∈ M
theorem LoopL.perm {f : List Nat} {n x : Nat} {ps qs : List Nat} (h : LoopL f n x ps) (g : LoopL f n x qs) : ps.Perm qs :=
  (List.perm_ext_iff_of_nodup h.nd g.nd).mpr fun p => ⟨h.mn qs g.mem g.cl p, g.mn ps h.mem h.cl p⟩
theorem sorted_of {l : List Nat} (h : l.Nodup) : ∃ t : List Nat, t.Perm l ∧ t.Pairwise (· < ·) := by
  refine ⟨l.mergeSort (fun a b => decide (a ≤ b)), List.mergeSort_perm _ _, ?_⟩
  have h1 : (l.mergeSort (fun a b => decide (a ≤ b))).Pairwise (fun a b => decide (a ≤ b) = true) := List.pairwise_mergeSort (fun a b c h1 h2 => by
    have := of_decide_eq_true h1; have := of_decide_eq_true h2; exact decide_eq_true (by omega)) (fun a b => by
    rw [Bool.or_eq_true, decide_eq_true_iff, decide_eq_true_iff]; omega) l
  have h2 : (l.mergeSort (fun a b => decide (a ≤ b))).Nodup := (List.mergeSort_perm l _).nodup_iff.mpr h
  have h3 : (l.mergeSort (fun a b => decide (a ≤ b))).Pairwise (· ≠ ·) := h2
  exact (h1.and h3).imp fun {a b} h => by have := of_decide_eq_true h.1; have := h.2; omega
theorem sorted_eq {s t : List Nat} (h : s.Perm t) (hs : s.Pairwise (· < ·)) (ht : t.Pairwise (· < ·)) : s = t :=
  List.Perm.eq_of_pairwise (le := fun a b : Nat => a < b) (fun a b _ _ h1 h2 => by omega) hs ht h
inductive Lo (f : List Nat) (n : Nat) : Nat → List (List Nat) → Prop
  | zero : Lo f n 0 []
  | skip {i : Nat} {ls : List (List Nat)} : Lo f n i ls → i ∈ ls.flatten → Lo f n (i + 1) ls
  | new {i : Nat} {ls : List (List Nat)} {ps t : List Nat} : Lo f n i ls → i ∉ ls.flatten → LoopL f n i ps → t.Perm ps → t.Pairwise (· < ·) → Lo f n (i + 1) (ls ++ [t])
theorem Lo.det {f : List Nat} {n i : Nat} {ls : List (List Nat)} (h : Lo f n i ls) : ∀ {ms : List (List Nat)}, Lo f n i ms → ls = ms := by
  induction h with
  | zero => intro ms h2; cases h2; rfl
  | skip h1 hm ih => intro ms h2; cases h2 with
    | skip h3 _ => exact ih h3
    | new h3 hn _ _ _ => rw [← ih h3] at hn; exact absurd hm hn
  | new h1 hn hL hp hs ih => intro ms h2; cases h2 with
    | skip h3 hm => rw [← ih h3] at hm; exact absurd hm hn
    | new h3 _ hL' hp' hs' => rw [ih h3, sorted_eq ((hp.trans (hL.perm hL')).trans hp'.symm) hs hs']
theorem Lo.bound {f : List Nat} {n i : Nat} {ls : List (List Nat)} (h : Lo f n i ls) : ls.length ≤ i ∧ ∀ t ∈ ls, 0 < t.length ∧ t.length ≤ n ∧ ∀ p ∈ t, p < n := by
  induction h with
  | zero => exact ⟨Nat.le_refl _, fun _ h => absurd h List.not_mem_nil⟩
  | skip _ _ ih => exact ⟨by omega, ih.2⟩
  | @new i ls ps t _ _ hL hp _ ih =>
    refine ⟨by rw [List.length_append, List.length_singleton]; omega, fun u hu => ?_⟩
    rcases List.mem_append.mp hu with hu | hu
    · exact ih.2 u hu
    · rw [List.mem_singleton.mp hu]
      refine ⟨List.length_pos_of_mem (hp.mem_iff.mpr hL.mem), ?_, fun p hp' => hL.lt p (hp.mem_iff.mp hp')⟩
      rw [hp.length_eq]; exact nd_len n ps hL.nd hL.lt
/-! ### the walk along the ends -/
def oth (n y : Nat) : Nat := if y < n then y + n else y - n
theorem oth_emp {n y : Nat} (h : y < 2 * n) : (emp n).getD y 0 = oth n y := by
  unfold oth
  by_cases c : y < n
  · rw [if_pos c, getD_of (emp_lo c), Nat.add_comm]
  · rw [if_neg c]
    have := emp_hi (n := n) (e := y - n) (by omega)
    rw [show n + (y - n) = y by omega] at this
    exact getD_of this
theorem oth_lt {n y : Nat} (h : y < 2 * n) : oth n y < 2 * n := by unfold oth; split <;> omega
theorem oth_oth {n y : Nat} (h : y < 2 * n) : oth n (oth n y) = y := by
  unfold oth
  by_cases c : y < n
  · rw [if_pos c, if_neg (by omega)]; omega
  · rw [if_neg c, if_pos (by omega)]; omega
theorem oth_mod {n y : Nat} (h : y < 2 * n) : oth n y % n = y % n := by
  unfold oth
  by_cases c : y < n
  · rw [if_pos c, Nat.add_mod_right]
  · rw [if_neg c, ← Nat.mod_eq_sub_mod (by omega)]
theorem mod_two {n y z : Nat} (hy : y < 2 * n) (hz : z < 2 * n) (h : y % n = z % n) : y = z ∨ y = oth n z := by
  have e : ∀ w, w < 2 * n → w % n = if w < n then w else w - n := fun w hw => by
    by_cases c : w < n
    · rw [if_pos c, Nat.mod_eq_of_lt c]
    · rw [if_neg c, Nat.mod_eq_sub_mod (by omega), Nat.mod_eq_of_lt (by omega)]
  rw [e y hy, e z hz] at h
  unfold oth
  split at h <;> split at h <;> split <;> omega
inductive Ev (f : List Nat) : List Nat → List Nat → Prop
  | nil : Ev f [] []
  | snoc {l es : List Nat} {z : Nat} : Ev f l es → Ev f (l ++ [z, f.getD z 0]) (es ++ [z])
theorem Ev.sub {f l es : List Nat} (h : Ev f l es) : ∀ y ∈ es, y ∈ l ∧ f.getD y 0 ∈ l := by
  induction h with
  | nil => intro y hy; exact absurd hy List.not_mem_nil
  | snoc _ ih =>
    intro y hy
    rcases List.mem_append.mp hy with hy | hy
    · exact ⟨List.mem_append.mpr (.inl (ih y hy).1), List.mem_append.mpr (.inl (ih y hy).2)⟩
    · rw [List.mem_singleton.mp hy]
      exact ⟨List.mem_append.mpr (.inr List.mem_cons_self), List.mem_append.mpr (.inr (List.mem_cons_of_mem _ List.mem_cons_self))⟩
structure EvI (f : List Nat) (n x : Nat) (l es : List Nat) (z : Nat) : Prop where
  lp : LpI f (emp n) (2 * n) x l z
  ev : Ev f l es
  dj : ∀ e ∈ es, ∀ e' ∈ es, e ≠ f.getD e' 0
  pn : (es.map (· % n)).Nodup
  nx : ∀ e ∈ es, oth n (f.getD e 0) ∈ es ∨ oth n (f.getD e 0) = z
  pv : ∀ e ∈ es, e = x ∨ ∃ e' ∈ es, e = oth n (f.getD e' 0)
  zz : es = [] ∨ ∃ e ∈ es, z = oth n (f.getD e 0)
  xe : es = [] → z = x
  xm : es ≠ [] → x ∈ es
  mn : ∀ M : List Nat, x ∈ M → (∀ p ∈ M, upE f n p ∈ M ∧ loE f n p ∈ M) → z % n ∈ M ∧ ∀ e ∈ es, e % n ∈ M
theorem EvI.start {f : List Nat} {n x : Nat} (hx : x < n) : EvI f n x [] [] x :=
  ⟨LpI.start (by omega), .nil, fun _ h => absurd h List.not_mem_nil, List.nodup_nil, fun _ h => absurd h List.not_mem_nil, fun _ h => absurd h List.not_mem_nil, .inl rfl, fun _ => rfl, fun h => absurd rfl h, fun M hM _ => ⟨by rw [Nat.mod_eq_of_lt hx]; exact hM, fun _ h => absurd h List.not_mem_nil⟩⟩
theorem end_of {f : List Nat} {n e : Nat} (he : e < 2 * n) : f.getD e 0 % n = if e < n then upE f n (e % n) else loE f n (e % n) := by
  unfold upE loE
  by_cases c : e < n
  · rw [if_pos c, Nat.mod_eq_of_lt c]
  · rw [if_neg c, Nat.mod_eq_sub_mod (show n ≤ e by omega), Nat.mod_eq_of_lt (show e - n < n by omega), show n + (e - n) = e by omega]
theorem EvI.step {f : List Nat} {n x z : Nat} {l es : List Nat} (hf : IsPair (2 * n) f) (hn : 0 < n) (h : EvI f n x l es z) (hz : z ∉ l) : EvI f n x (l ++ [z, f.getD z 0]) (es ++ [z]) (oth n (f.getD z 0)) := by
  have hz2 := h.lp.zl
  obtain ⟨a1, a2, a3, _⟩ := hf.d hz2
  have haz : f.getD z 0 ∉ l := fun hm => hz (by have := h.lp.ca _ hm; rwa [a3] at this)
  have hes : ∀ e ∈ es, e < 2 * n := fun e he => h.lp.lt e (h.ev.sub e he).1
  have hlp := h.lp.step hf (emp_pair hn) hz
  rw [oth_emp a1] at hlp
  refine ⟨hlp, .snoc h.ev, ?_, ?_, ?_, ?_, ?_, ?_, ?_, ?_⟩
  · intro e he e' he'
    rcases List.mem_append.mp he with he | he <;> rcases List.mem_append.mp he' with he' | he'
    · exact h.dj e he e' he'
    · rw [List.mem_singleton.mp he']; exact fun e0 => haz (by rw [← e0]; exact (h.ev.sub e he).1)
    · rw [List.mem_singleton.mp he]; exact fun e0 => hz (by rw [e0]; exact (h.ev.sub e' he').2)
    · rw [List.mem_singleton.mp he, List.mem_singleton.mp he']; exact fun e0 => a2 e0.symm
  · rw [List.map_append]
    refine List.nodup_append.mpr ⟨h.pn, List.nodup_cons.mpr ⟨List.not_mem_nil, List.nodup_nil⟩, fun p hp q hq e => ?_⟩
    rw [List.mem_singleton.mp hq] at e
    obtain ⟨y, hy, rfl⟩ := List.mem_map.mp hp
    rcases mod_two (hes y hy) hz2 e with e1 | e1
    · exact hz (by rw [← e1]; exact (h.ev.sub y hy).1)
    · rcases h.zz with e2 | ⟨e', he', e2⟩
      · rw [e2] at hy; exact absurd hy List.not_mem_nil
      · rw [e2, oth_oth (hf.d (hes e' he')).1] at e1
        exact h.dj y hy e' he' e1
  · intro e he
    rcases List.mem_append.mp he with he | he
    · rcases h.nx e he with h1 | h1
      · exact .inl (List.mem_append.mpr (.inl h1))
      · exact .inl (List.mem_append.mpr (.inr (by rw [h1]; exact List.mem_singleton.mpr rfl)))
    · rw [List.mem_singleton.mp he]; exact .inr rfl
  · intro e he
    rcases List.mem_append.mp he with he | he
    · rcases h.pv e he with h1 | ⟨e', h1, h2⟩
      · exact .inl h1
      · exact .inr ⟨e', List.mem_append.mpr (.inl h1), h2⟩
    · rw [List.mem_singleton.mp he]
      rcases h.zz with h1 | ⟨e', h1, h2⟩
      · exact .inl (h.xe h1)
      · exact .inr ⟨e', List.mem_append.mpr (.inl h1), h2⟩
  · exact .inr ⟨z, List.mem_append.mpr (.inr (List.mem_singleton.mpr rfl)), rfl⟩
  · intro e; exact absurd e (by simp)
  · intro _
    by_cases e : es = []
    · rw [h.xe e]; exact List.mem_append.mpr (.inr (List.mem_singleton.mpr rfl))
    · exact List.mem_append.mpr (.inl (h.xm e))
  · intro M hM hc
    obtain ⟨h1, h2⟩ := h.mn M hM hc
    refine ⟨?_, fun e he => ?_⟩
    · rw [oth_mod a1, end_of hz2]
      split
      · exact (hc _ h1).1
      · exact (hc _ h1).2
    · rcases List.mem_append.mp he with he | he
      · exact h2 e he
      · rw [List.mem_singleton.mp he]; exact h1
theorem EvI.loop {f : List Nat} {n x : Nat} {l es : List Nat} (hf : IsPair (2 * n) f) (hx : x < n) (h : EvI f n x l es x) (hne : es ≠ []) : LoopL f n x (es.map (· % n)) := by
  have hes : ∀ e ∈ es, e < 2 * n := fun e he => h.lp.lt e (h.ev.sub e he).1
  have nx : ∀ e ∈ es, oth n (f.getD e 0) ∈ es := fun e he => by
    rcases h.nx e he with h1 | h1
    · exact h1
    · rw [h1]; exact h.xm hne
  have pv : ∀ e ∈ es, ∃ e' ∈ es, e = oth n (f.getD e' 0) := fun e he => by
    rcases h.pv e he with h1 | h1
    · rw [h1]; exact h.zz.resolve_left hne
    · exact h1
  refine ⟨List.mem_map.mpr ⟨x, h.xm hne, Nat.mod_eq_of_lt hx⟩, h.pn, fun p hp => ?_, fun p hp => ?_, fun M hM hc p hp => ?_⟩
  · obtain ⟨e, _, rfl⟩ := List.mem_map.mp hp
    exact Nat.mod_lt _ (by omega)
  · obtain ⟨e, he, rfl⟩ := List.mem_map.mp hp
    have h1 : f.getD e 0 % n ∈ es.map (· % n) := List.mem_map.mpr ⟨_, nx e he, oth_mod (hf.d (hes e he)).1⟩
    obtain ⟨e', he', e1⟩ := pv e he
    have hfe' := hf.d (hes e' he')
    have h2 : f.getD (oth n e) 0 % n ∈ es.map (· % n) := by
      rw [e1, oth_oth hfe'.1, hfe'.2.2.1]
      exact List.mem_map.mpr ⟨e', he', rfl⟩
    rw [end_of (hes e he)] at h1
    rw [end_of (oth_lt (hes e he)), oth_mod (hes e he)] at h2
    have hlt := hes e he
    by_cases c : e < n
    · rw [if_pos c] at h1
      rw [if_neg (by unfold oth; rw [if_pos c]; omega)] at h2
      exact ⟨h1, h2⟩
    · rw [if_neg c] at h1
      rw [if_pos (by unfold oth; rw [if_neg c]; omega)] at h2
      exact ⟨h2, h1⟩
  · obtain ⟨e, he, rfl⟩ := List.mem_map.mp hp
    exact (h.mn M hM hc).2 e he
/-! ### the search -/
structure Bf (f : List Nat) (n x : Nat) (lp fr : List Nat) : Prop where
  mem : x ∈ lp
  nd : lp.Nodup
  lt : ∀ p ∈ lp, p < n
  sub : ∀ p ∈ fr, p ∈ lp
  cl : ∀ p ∈ lp, p ∈ fr ∨ (upE f n p ∈ lp ∧ loE f n p ∈ lp)
  mn : ∀ M : List Nat, x ∈ M → (∀ p ∈ M, upE f n p ∈ M ∧ loE f n p ∈ M) → ∀ p ∈ lp, p ∈ M
theorem Bf.start {f : List Nat} {n x : Nat} (hx : x < n) : Bf f n x [x] [x] :=
  ⟨List.mem_singleton.mpr rfl, List.nodup_cons.mpr ⟨List.not_mem_nil, List.nodup_nil⟩, fun p hp => by rw [List.mem_singleton.mp hp]; exact hx, fun _ h => h, fun _ h => .inl h, fun M hM _ p hp => by rw [List.mem_singleton.mp hp]; exact hM⟩
theorem Bf.done {f : List Nat} {n x : Nat} {lp : List Nat} (h : Bf f n x lp []) : LoopL f n x lp :=
  ⟨h.mem, h.nd, h.lt, fun p hp => (h.cl p hp).resolve_left List.not_mem_nil, h.mn⟩
structure Bm (f : List Nat) (n x : Nat) (lp fr : List Nat) (y i : Nat) : Prop where
  mem : x ∈ lp
  nd : lp.Nodup
  lt : ∀ p ∈ lp, p < n
  sub : ∀ p ∈ fr, p ∈ lp
  hin : y ∈ lp
  cl : ∀ p ∈ lp, p ∈ fr ∨ p = y ∨ (upE f n p ∈ lp ∧ loE f n p ∈ lp)
  d0 : 1 ≤ i → upE f n y ∈ lp
  d1 : 2 ≤ i → loE f n y ∈ lp
  mn : ∀ M : List Nat, x ∈ M → (∀ p ∈ M, upE f n p ∈ M ∧ loE f n p ∈ M) → ∀ p ∈ lp, p ∈ M
theorem Bf.pop {f : List Nat} {n x y : Nat} {lp fr : List Nat} (h : Bf f n x lp (fr ++ [y])) : Bm f n x lp fr y 0 :=
  ⟨h.mem, h.nd, h.lt, fun p hp => h.sub p (List.mem_append.mpr (.inl hp)), h.sub y (List.mem_append.mpr (.inr (List.mem_singleton.mpr rfl))), fun p hp => by
    rcases h.cl p hp with h1 | h1
    · rcases List.mem_append.mp h1 with h1 | h1
      · exact .inl h1
      · exact .inr (.inl (List.mem_singleton.mp h1))
    · exact .inr (.inr h1), fun z => absurd z (by omega), fun z => absurd z (by omega), h.mn⟩
def endE (f : List Nat) (n y i : Nat) : Nat := if i = 0 then upE f n y else loE f n y
theorem Bm.old {f : List Nat} {n x y i : Nat} {lp fr : List Nat} (h : Bm f n x lp fr y i) (hi : i < 2) (hm : endE f n y i ∈ lp) : Bm f n x lp fr y (i + 1) := by
  refine ⟨h.mem, h.nd, h.lt, h.sub, h.hin, h.cl, fun _ => ?_, fun hz => ?_, h.mn⟩
  · by_cases c : i = 0
    · unfold endE at hm; rw [if_pos c] at hm; exact hm
    · exact h.d0 (by omega)
  · unfold endE at hm; rw [if_neg (by omega)] at hm; exact hm
theorem Bm.new {f : List Nat} {n x y i : Nat} {lp fr : List Nat} (h : Bm f n x lp fr y i) (hn : 0 < n) (hi : i < 2) (hm : endE f n y i ∉ lp) : Bm f n x (lp ++ [endE f n y i]) (fr ++ [endE f n y i]) y (i + 1) := by
  have hlt : endE f n y i < n := by unfold endE upE loE; split <;> exact Nat.mod_lt _ hn
  have in1 : ∀ p, p ∈ lp → p ∈ lp ++ [endE f n y i] := fun p hp => List.mem_append.mpr (.inl hp)
  have in2 : endE f n y i ∈ lp ++ [endE f n y i] := List.mem_append.mpr (.inr (List.mem_singleton.mpr rfl))
  refine ⟨in1 _ h.mem, ?_, fun p hp => ?_, fun p hp => ?_, in1 _ h.hin, fun p hp => ?_, fun _ => ?_, fun hz => ?_, fun M hM hc p hp => ?_⟩
  · exact List.nodup_append.mpr ⟨h.nd, List.nodup_cons.mpr ⟨List.not_mem_nil, List.nodup_nil⟩, fun p hp q hq e => hm (by rw [← List.mem_singleton.mp hq, ← e]; exact hp)⟩
  · rcases List.mem_append.mp hp with hp | hp
    · exact h.lt p hp
    · rw [List.mem_singleton.mp hp]; exact hlt
  · rcases List.mem_append.mp hp with hp | hp
    · exact in1 _ (h.sub p hp)
    · rw [List.mem_singleton.mp hp]; exact in2
  · rcases List.mem_append.mp hp with hp | hp
    · rcases h.cl p hp with h1 | h1 | h1
      · exact .inl (List.mem_append.mpr (.inl h1))
      · exact .inr (.inl h1)
      · exact .inr (.inr ⟨in1 _ h1.1, in1 _ h1.2⟩)
    · rw [List.mem_singleton.mp hp]; exact .inl (List.mem_append.mpr (.inr (List.mem_singleton.mpr rfl)))
  · by_cases c : i = 0
    · have : endE f n y i = upE f n y := by unfold endE; rw [if_pos c]
      rw [← this]; exact in2
    · exact in1 _ (h.d0 (by omega))
  · have : endE f n y i = loE f n y := by unfold endE; rw [if_neg (by omega)]
    rw [← this]; exact in2
  · rcases List.mem_append.mp hp with hp | hp
    · exact h.mn M hM hc p hp
    · rw [List.mem_singleton.mp hp]
      have h1 := hc y (h.mn M hM hc y h.hin)
      unfold endE; split
      · exact h1.1
      · exact h1.2
theorem Bm.room {f : List Nat} {n x y i : Nat} {lp fr : List Nat} (h : Bm f n x lp fr y i) (hn : 0 < n) (hi : i < 2) (hm : endE f n y i ∉ lp) : lp.length + 1 ≤ n := by
  have h1 := h.new hn hi hm
  have h2 := nd_len n _ h1.nd h1.lt
  rw [List.length_append, List.length_singleton] at h2; exact h2
theorem Bm.back {f : List Nat} {n x y : Nat} {lp fr : List Nat} (h : Bm f n x lp fr y 2) : Bf f n x lp fr :=
  ⟨h.mem, h.nd, h.lt, h.sub, fun p hp => by
    rcases h.cl p hp with h1 | h1 | h1
    · exact .inl h1
    · rw [h1]; exact .inr ⟨h.d0 (by omega), h.d1 (by omega)⟩
    · exact .inr h1, h.mn⟩
/-! ### pure loops -/
def pureB (f : List Nat) (n : Nat) (l : List Nat) : Bool := decide (1 < l.length) && l.all fun p => decide (n ≤ f.getD p 0)
end Pc
namespace Pc
open PySem PySem.Spec PyProof.Rows L2 RZ
section
variable {P : Program} {w : World} {K : PySem.W.Frag} {mg : Str → Option Value} {base : Heap}
/-! ### loops, by the program -/
def spOthr : Sp := fun vs H Q _ => ∃ n e : Nat, vs = [.int n, .int e] ∧ Q (.int (oth n e : Nat)) H
theorem ok_p_othr (T : Env K mg) : FnOk P w K mg base CX0 1 T.f_p_other_side T.d_p_other_side ["size", "end"] spOthr := by
  refine T.F_p_other_side.ok sc_p_other_side (fun vs H Q E h => ?_) (fun cdv A outer s H vs Q E hr h => ?_)
  · obtain ⟨n, e, rfl, _⟩ := h
    rfl
  · obtain ⟨n, e, rfl, q⟩ := h
    refine ⟨_, pss_one (ps_ret (pe_ifExp (pt_cmpR op_lt (pv 1) (pv 0) (nomark _)) (pe_op op_add (pv 1) (pv 0)) (pe_op op_sub (pv 1) (pv 0)))), ?_⟩
    refine ⟨_, rfl, _, rfl, _, _, rfl, rfl, _, rfl, ite2 (fun c => ?_) (fun c => ?_)⟩
    · have h : e < n := by have := of_decide_eq_true c; omega
      refine ⟨_, rfl, _, rfl, _, _, rfl, rfl, ?_⟩
      have : (((e : Nat) : Int) + (n : Int)) = ((oth n e : Nat) : Int) := by unfold oth; rw [if_pos h]; omega
      show Q (.int (((e : Nat) : Int) + (n : Int))) H
      rw [this]; exact q
    · have h : ¬ e < n := fun z => c (decide_eq_true (by omega))
      refine ⟨_, rfl, _, rfl, _, _, rfl, rfl, ?_⟩
      have : (((e : Nat) : Int) - (n : Int)) = ((oth n e : Nat) : Int) := by unfold oth; rw [if_neg h]; omega
      show Q (.int (((e : Nat) : Int) - (n : Int))) H
      rw [this]; exact q
def spLoopOf (K : PySem.W.Frag) : Sp := fun vs H Q _ => ∃ (a : Addr) (f : List Nat) (n x : Nat), vs = [.ref a, .int x] ∧ Sq K H a (nv f) ∧ IsPair (2 * n) f ∧ x < n ∧ n ≤ 60 ∧
  ∀ (H' : Hp) (t : Addr) (ps ts : List Nat), LoopL f n x ps → ts.Perm ps → ts.Pairwise (· < ·) → Same H H' → H t = none → H' t = some (.tup (nv ts)) → Q (.ref t) H'
theorem ok_p_loop_of (T : Env K mg) : FnOk P w K mg base CX0 2 T.f_p_loop_of T.d_p_loop_of ["sheet", "person"] (spLoopOf K) := by
  have G0 : FnOk P w K mg base CX0 1 T.f_p_people_of T.d_p_people_of ["sheet"] (spPeople K) := ok_p_people_of T
  have GO : FnOk P w K mg base CX0 1 T.f_p_other_side T.d_p_other_side ["size", "end"] spOthr := ok_p_othr T
  refine T.F_p_loop_of.ok sc_p_loop_of (fun vs H Q E h => ?_) (fun cdv A outer s H vs Q E hr h => ?_)
  · obtain ⟨a, f, n, x, rfl, _⟩ := h
    rfl
  · obtain ⟨a, f, n, x, rfl, ha, hf, hx, hn, q⟩ := h
    refine ⟨_, pss_cons (ps_set (i := 2) sc_p_loop_of.nd rfl (.inl rfl) (pe_call G0 hr (by rfl) T.g_p_people_of T.F_p_people_of.kp T.b_p_people_of .nil pass0 (pa_cons (pv 0) pa_nil))) <|
      pss_cons (ps_set (i := 3) sc_p_loop_of.nd rfl (.inl rfl) (pe_lst (pa_cons (pv 1) pa_nil))) <|
      pss_cons (ps_set (i := 4) sc_p_loop_of.nd rfl (.inl rfl) (pe_ix ix_seq (pv 0) (pv 1) (fun _ _ => rfl))) <|
      pss_cons (ps_while PassesOwn.never (pt_cmpR op_ne (pv 4) (pe_op op_add (pv 2) (pv 1)) (nomark _))
        (pss_cons (ps_expr (pe_bm PySem.F.plainAttrs_list PySem.F.slot_list_append PySem.F.type_list_append mt_append (pv 3) (pa_cons (pe_op op_mod (pv 4) (pv 2)) pa_nil))) <|
        pss_one (ps_set (i := 4) sc_p_loop_of.nd rfl (.inl rfl) (pe_ix ix_seq (pv 0) (pe_call GO hr (by rfl) T.g_p_other_side T.F_p_other_side.kp T.b_p_other_side .nil pass0 (pa_cons (pv 2) (pa_cons (pv 4) pa_nil))) (fun _ _ => rfl))))) <|
      pss_one (ps_ret (pe_callTy call_tuple_of (by rfl) T.n_tuple (by decide +kernel) (pa_cons (pe_callB cr_sorted (by rfl) T.n_sorted (by decide +kernel) (pa_cons (pv 3) pa_nil)) pa_nil))), ?_⟩
    have h0 : 0 < n := by omega
    obtain ⟨a1, a2, a3, a4⟩ := hf.d (show x < 2 * n by omega)
    refine ⟨.ref a, rfl, a, f, n, rfl, ha, hf.len, ?_⟩
    refine st_set [some (.ref a), some (.int x), some (.int (n : Nat)), none, none] ?_ rfl
    refine ⟨_, rfl, by show 1 ≤ sizeLine; decide, fun p np => ?_⟩
    have e0 : (upd H p (.lst [.int (x : Int)])) p = some (.lst (nv ([x].map (· % n)))) := by rw [upd_same]; show _ = some (HO.lst [V.int ((x % n : Nat) : Int)]); rw [Nat.mod_eq_of_lt hx]
    have s0 : Same H (upd H p (.lst [.int (x : Int)])) := same_new np
    revert e0 s0
    generalize upd H p (.lst [.int (x : Int)]) = H0
    intro e0 s0
    refine st_set [some (.ref a), some (.int x), some (.int (n : Nat)), some (.ref p), none] ?_ rfl
    refine ⟨_, rfl, _, rfl, ix_sq (ha.same s0) (nv_at a4) ?_⟩
    refine st_set [some (.ref a), some (.int x), some (.int (n : Nat)), some (.ref p), some (.int ((f.getD x 0 : Nat) : Int))] ?_ rfl
    have i0 := (EvI.start (f := f) hx).step hf h0 List.not_mem_nil
    refine ⟨fun m σ H' => ∃ (l es : List Nat) (e : Nat), σ = [some (.ref a), some (.int x), some (.int (n : Nat)), some (.ref p), some (.int ((f.getD e 0 : Nat) : Int))] ∧ Same H H' ∧ H' p = some (.lst (nv (es.map (· % n)))) ∧ EvI f n x l es (oth n (f.getD e 0)) ∧ e ∈ es ∧ 2 * n - l.length = m,
      ⟨_, _, [x], x, rfl, s0, e0, i0, List.mem_singleton.mpr rfl, rfl⟩, fun m σ H' hW => ?_⟩
    obtain ⟨l, es, e, rfl, sm, ee, hi, he, hm⟩ := hW
    have hel : e < 2 * n := hi.lp.lt e (hi.ev.sub e he).1
    obtain ⟨f1, _, f3, _⟩ := hf.d hel
    have hesn : es ≠ [] := fun z => by rw [z] at he; exact absurd he List.not_mem_nil
    have hel2 : (es.map (· % n)).length ≤ n := nd_len n _ hi.pn (fun y hy => by obtain ⟨z, _, rfl⟩ := List.mem_map.mp hy; exact Nat.mod_lt _ h0)
    refine ⟨_, rfl, _, rfl, _, rfl, _, _, rfl, rfl, rfl, _, rfl, ite2 (fun c => ?_) (fun c => ?_)⟩
    · have hne : oth n (f.getD e 0) ≠ x := fun z => by
        have c' : (!decide (V.int ((f.getD e 0 : Nat) : Int) = V.int ((n : Int) + (x : Int)))) = true := c
        have e1 : f.getD e 0 = n + x := by
          have := oth_oth f1
          rw [z] at this
          unfold oth at this; rw [if_pos hx] at this; omega
        rw [e1, decide_eq_true (by rw [show ((n + x : Nat) : Int) = (n : Int) + (x : Int) by omega])] at c'
        exact absurd c' (by decide)
      have hz : oth n (f.getD e 0) ∉ l := fun hm => hne (hi.lp.done (emp_pair h0) hm)
      have hroom := hi.lp.room hf (emp_pair h0) hz
      have hi2 := hi.step hf h0 hz
      obtain ⟨g1, _, _, g4⟩ := hf.d (oth_lt f1)
      refine ⟨fun σ' H2 => ∃ (l es : List Nat) (e : Nat), σ' = [some (.ref a), some (.int x), some (.int (n : Nat)), some (.ref p), some (.int ((f.getD e 0 : Nat) : Int))] ∧ Same H H2 ∧ H2 p = some (.lst (nv (es.map (· % n)))) ∧ EvI f n x l es (oth n (f.getD e 0)) ∧ e ∈ es ∧ 2 * n - l.length < m,
        fun σ' H2 h2 => ?_, ?_⟩
      · obtain ⟨l', es', e', g1, g2, g3, g4, g5, g6⟩ := h2
        exact ⟨_, g6, l', es', e', g1, g2, g3, g4, g5, rfl⟩
      · refine ⟨.ref p, rfl, .inl ⟨rfl, _, .inl (.inl ee)⟩, _, rfl, _, rfl, _, _, rfl, rfl, (by show (0 : Int) < (n : Int); omega), p, _, _, rfl, rfl, ee, line_big (by rw [nv_length]; omega), ?_⟩
        have em : ((f.getD e 0 : Nat) : Int) % (n : Int) = ((oth n (f.getD e 0) % n : Nat) : Int) := by rw [oth_mod f1]; rfl
        have e1 : (upd H' p (.lst (nv (es.map (· % n)) ++ [V.int (((f.getD e 0 : Nat) : Int) % (n : Int))]))) p = some (.lst (nv ((es ++ [oth n (f.getD e 0)]).map (· % n)))) := by rw [upd_same, em, nv_snoc', List.map_append]; rfl
        have s1 : Same H (upd H' p (.lst (nv (es.map (· % n)) ++ [V.int (((f.getD e 0 : Nat) : Int) % (n : Int))]))) := fun b o hb => by rw [upd_ne (ne_of_none hb np)]; exact sm _ _ hb
        revert e1 s1
        generalize upd H' p (.lst (nv (es.map (· % n)) ++ [V.int (((f.getD e 0 : Nat) : Int) % (n : Int))])) = H1
        intro e1 s1
        refine ⟨_, rfl, _, rfl, _, rfl, n, f.getD e 0, rfl, ix_sq (ha.same s1) (nv_at g4) ?_⟩
        refine st_set [some (.ref a), some (.int x), some (.int (n : Nat)), some (.ref p), some (.int ((f.getD (oth n (f.getD e 0)) 0 : Nat) : Int))] ?_ rfl
        exact ⟨_, _, oth n (f.getD e 0), rfl, s1, e1, hi2, List.mem_append.mpr (.inr (List.mem_singleton.mpr rfl)), by rw [List.length_append, ← hm]; show 2 * n - (l.length + 2) < 2 * n - l.length; omega⟩
    · have hzx : oth n (f.getD e 0) = x := by
        have e1 : f.getD e 0 = n + x := by
          by_cases e' : f.getD e 0 = n + x
          · exact e'
          · exact absurd (show (!decide (V.int ((f.getD e 0 : Nat) : Int) = V.int ((n : Int) + (x : Int)))) = true by rw [decide_eq_false (fun z' => e' (by have := V.int.inj z'; omega))]; rfl) c
        unfold oth; rw [e1, if_neg (by omega)]; omega
      rw [hzx] at hi
      have hL := hi.loop hf hx hesn
      obtain ⟨ts, t1, t2⟩ := sorted_of hL.nd
      refine ⟨_, rfl, ?_⟩
      refine sort_natsN (t := ts) (.inl (.inl ee)) (by omega) t1 t2 fun l2 nl2 => ?_
      refine ⟨l2, _, rfl, .inl ⟨.inl (.inl upd_same), fun t nt => ?_⟩⟩
      have s2 := sm.trans (same_new (o := .lst (nv ts)) nl2)
      exact q _ t _ ts hL t1 t2 (s2.trans (same_new nt)) (s2.free nt) upd_same
def spLoops (K : PySem.W.Frag) : Sp := fun vs H Q _ => ∃ (a : Addr) (f : List Nat) (n : Nat), vs = [.ref a] ∧ Sq K H a (nv f) ∧ IsPair (2 * n) f ∧ n ≤ 60 ∧
  ∀ (H' : Hp) (t : Addr) (as : List Addr) (ls : List (List Nat)), Lo f n n ls → Same H H' → H t = none → H' t = some (.lst (as.map V.ref)) → Tups H' as ls → Q (.ref t) H'
theorem ok_p_loops (T : Env K mg) : FnOk P w K mg base CX0 3 T.f_p_loops T.d_p_loops ["sheet"] (spLoops K) := by
  have G0 : FnOk P w K mg base CX0 1 T.f_p_people_of T.d_p_people_of ["sheet"] (spPeople K) := ok_p_people_of T
  have GF : FnOk P w K mg base CX0 2 T.f_p_loop_of T.d_p_loop_of ["sheet", "person"] (spLoopOf K) := ok_p_loop_of T
  refine T.F_p_loops.ok sc_p_loops (fun vs H Q E h => ?_) (fun cdv A outer s H vs Q E hr h => ?_)
  · obtain ⟨a, f, n, rfl, _⟩ := h
    rfl
  · obtain ⟨a, f, n, rfl, ha, hF, hn, q⟩ := h
    have h1 := hr.mono (show 1 ≤ 2 by decide)
    refine ⟨_, pss_cons (ps_set (i := 1) sc_p_loops.nd rfl (.inl rfl) (pe_lst pa_nil)) <|
      pss_cons (ps_set (i := 2) sc_p_loops.nd rfl (.inl rfl) (pe_callTy0 cr_set0 (by rfl) T.n_set (by decide +kernel))) <|
      pss_cons (ps_for PassesOwn.never rfl (pi_range1 (by rfl) T.n_range (pa_cons (pe_call G0 h1 (by rfl) T.g_p_people_of T.F_p_people_of.kp T.b_p_people_of .nil pass0 (pa_cons (pv 0) pa_nil)) pa_nil)) (pg_name (i := 3) sc_p_loops.nd rfl (.inl rfl))
        (pss_one (ps_if (pt_cmpR or_snotin (pv 3) (pv 2) (by rfl))
          (pss_cons (ps_set (i := 4) sc_p_loops.nd rfl (.inl rfl) (pe_call GF hr (by rfl) T.g_p_loop_of T.F_p_loop_of.kp T.b_p_loop_of .nil pass0 (pa_cons (pv 0) (pa_cons (pv 3) pa_nil)))) <|
          pss_cons (ps_expr (pe_bm PySem.F.plainAttrs_list PySem.F.slot_list_append PySem.F.type_list_append mt_append (pv 1) (pa_cons (pv 4) pa_nil))) <|
          pss_one (ps_for PassesOwn.never rfl (pi_tup (pv 4)) (pg_name (i := 5) sc_p_loops.nd rfl (.inl rfl)) (pss_one (ps_expr (pe_sadd (pv 2) (pa_cons (pv 5) pa_nil)))))) pss_nil))) <|
      pss_one (ps_ret (pv 1)), ?_⟩
    refine ⟨by show 0 ≤ sizeLine; decide, fun fo nf => ?_⟩
    have s1 : Same H (upd H fo (.lst [])) := same_new nf
    have e1 : (upd H fo (.lst [])) fo = some (.lst []) := upd_same
    revert s1 e1
    generalize upd H fo (.lst []) = H1
    intro s1 e1
    refine st_set [some (.ref a), some (.ref fo), none, none, none, none] ?_ rfl
    refine ⟨rfl, fun g ng => ?_⟩
    have s2 : Same H1 (upd H1 g (SetO w g (fun _ => false) 0)) := same_new ng
    have e2 : (upd H1 g (SetO w g (fun _ => false) 0)) g = some (SetO w g (fun _ => false) 0) := upd_same
    have fg : fo ≠ g := ne_of_none e1 ng
    have ng0 : H g = none := s1.free ng
    refine st_set [some (.ref a), some (.ref fo), some (.ref g), none, none, none] ?_ rfl
    refine ⟨.ref a, rfl, a, f, n, rfl, ha.same (s1.trans s2), hF.len, ?_⟩
    refine ⟨_, rfl, by omega, by omega, ?_⟩
    rw [show ((n : Nat) : Int).toNat = n by omega]
    refine for_range (n := n) (fun i σ H' => Same H H' ∧ ∃ (y4 y5 y6 : Option V) (as : List Addr) (ls : List (List Nat)) (S : Int → Bool) (k : Nat), σ = [some (.ref a), some (.ref fo), some (.ref g), y4, y5, y6] ∧ Lo f n i ls ∧ H' fo = some (.lst (as.map V.ref)) ∧ Tups H' as ls ∧ H' g = some (SetO w g S k) ∧ (∀ y : Nat, S (y : Int) = decide (y ∈ ls.flatten)) ∧ k ≤ n * i)
      ⟨s1.trans s2, none, none, none, [], [], _, _, rfl, .zero, s2 _ _ e1, .nil, e2, fun y => rfl, Nat.le_refl _⟩ (fun i σ Hi hi hPv => ?_) (fun σ Hi hPv => ?_)
    · obtain ⟨sm, y4, y5, y6, as, ls, S, k, rfl, hR, ef, hT, eg, hS, hk⟩ := hPv
      have hbd := hR.bound
      have hni' : n * i + n ≤ 3600 := by
        have h1 : n * (i + 1) ≤ n * n := Nat.mul_le_mul_left _ (by omega)
        have h2 : n * n ≤ 60 * 60 := Nat.mul_le_mul hn hn
        rw [Nat.mul_succ] at h1; omega
      refine st_set [some (.ref a), some (.ref fo), some (.ref g), some (.int ((0 : Int) + (i : Nat))), y5, y6] ?_ rfl
      rw [show (0 : Int) + (i : Nat) = ((i : Nat) : Int) by omega]
      refine ⟨_, rfl, _, rfl, _, g, S, k, rfl, rfl, eg, _, rfl, ite2 (fun c => ?_) (fun c => ?_)⟩
      · have hni : i ∉ ls.flatten := fun hm => by
          have c' : (!S ((i : Nat) : Int)) = true := c
          rw [hS, decide_eq_true hm] at c'
          exact absurd c' (by decide)
        refine ⟨.ref a, rfl, _, rfl, a, f, n, i, rfl, ha.same sm, hF, hi, hn, fun H3 t ps r hL hp hs s3 nt et => ?_⟩
        have hRn := Lo.new hR hni hL hp hs
        have hrl : r.length ≤ n := by rw [hp.length_eq]; exact nd_len n ps hL.nd hL.lt
        refine st_set [some (.ref a), some (.ref fo), some (.ref g), some (.int ((i : Nat) : Int)), some (.ref t), y6] ?_ rfl
        have ef3 := s3 _ _ ef
        refine ⟨.ref fo, rfl, .inl ⟨rfl, _, .inl (.inl ef3)⟩, _, rfl, fo, _, _, rfl, rfl, ef3, line_big (by rw [List.length_map, hT.length]; omega), ?_⟩
        have tf : t ≠ fo := fun z => by rw [z, ef] at nt; cases nt
        have k4 : Keep fo H3 (upd H3 fo (.lst (as.map V.ref ++ [.ref t]))) := keep_upd
        have ef4 : (upd H3 fo (.lst (as.map V.ref ++ [.ref t]))) fo = some (.lst ((as ++ [t]).map V.ref)) := by rw [upd_same, List.map_append]; rfl
        have et4 := k4 _ _ tf et
        have eg4 := k4 _ _ fg.symm (s3 _ _ eg)
        have hT4 := tups_append (tups_keep k4 ef3 (tups_same s3 hT)) (ls := ls) (ms := [r]) (bs := [t]) (.cons et4 .nil)
        have sm4 : Same H (upd H3 fo (.lst (as.map V.ref ++ [.ref t]))) := fun y o hy => by rw [upd_ne (ne_of_none hy nf)]; exact s3 _ _ (sm _ _ hy)
        revert ef4 et4 eg4 hT4 sm4
        clear k4
        generalize upd H3 fo (.lst (as.map V.ref ++ [.ref t])) = H4
        intro ef4 et4 eg4 hT4 sm4
        refine ⟨.ref t, rfl, t, rfl, ⟨_, .inl (.inl et4)⟩, ?_⟩
        refine for_tup (xs := nv r) (fun j σ H' => Same H H' ∧ H' t = some (.tup (nv r)) ∧ H' fo = some (.lst ((as ++ [t]).map V.ref)) ∧ Tups H' (as ++ [t]) (ls ++ [r]) ∧ ∃ (y6 : Option V) (S : Int → Bool) (k : Nat), σ = [some (.ref a), some (.ref fo), some (.ref g), some (.int ((i : Nat) : Int)), some (.ref t), y6] ∧ H' g = some (SetO w g S k) ∧ (∀ y : Nat, S (y : Int) = decide (y ∈ ls.flatten ++ r.take j)) ∧ k ≤ n * i + j)
          ⟨sm4, et4, ef4, hT4, y6, S, k, rfl, eg4, fun y => by rw [List.take_zero, List.append_nil]; exact hS y, by omega⟩ (fun j σ H' _ h => .inl (.inl h.2.1)) (fun j v σ H' hv h => ?_) (fun σ H' h => ?_)
        · obtain ⟨sm5, et5, ef5, hT5, y6, S5, k5, rfl, eg5, hS5, hk5⟩ := h
          obtain ⟨u, hu, rfl⟩ := nv_get' hv
          have hj := get_lt hu
          refine st_set [some (.ref a), some (.ref fo), some (.ref g), some (.int ((i : Nat) : Int)), some (.ref t), some (.int u)] ?_ rfl
          refine ⟨.ref g, rfl, ⟨g, S5, k5, rfl, eg5⟩, _, rfl, g, u, S5, k5, rfl, rfl, eg5, by show k5 + 1 < 4096; omega, ?_⟩
          have tg : t ≠ g := fun z => by rw [z, eg5] at et5; cases et5
          refine ⟨fun y o hy => by rw [upd_ne (ne_of_none hy ng0)]; exact sm5 _ _ hy, by rw [upd_ne tg]; exact et5, by rw [upd_ne fg]; exact ef5, tups_upd eg5 hT5, _, _, _, rfl, upd_same, fun y => ?_, by split <;> omega⟩
          show (S5 (y : Int) || decide ((y : Int) = (u : Int))) = _
          rw [hS5, List.take_add_one, hu, ← Bool.decide_or]
          refine decide_eq_decide.mpr ?_
          show _ ∨ _ ↔ y ∈ ls.flatten ++ (r.take j ++ [u])
          rw [← List.append_assoc, List.mem_append (s := ls.flatten ++ r.take j), List.mem_singleton]
          exact or_congr Iff.rfl ⟨fun z => by omega, fun z => by omega⟩
        · obtain ⟨sm5, et5, ef5, hT5, y6, S5, k5, rfl, eg5, hS5, hk5⟩ := h
          rw [nv_length] at hS5 hk5
          refine ⟨sm5, _, _, _, _, _, S5, k5, rfl, hRn, ef5, hT5, eg5, fun y => by rw [hS5, List.take_length, flat_snoc], by rw [Nat.mul_succ]; omega⟩
      · have hm : i ∈ ls.flatten := by
          by_cases z : i ∈ ls.flatten
          · exact z
          · exact absurd (show (!S ((i : Nat) : Int)) = true by rw [hS, decide_eq_false z]; rfl) c
        exact ⟨sm, _, _, _, as, ls, S, k, rfl, .skip hR hm, ef, hT, eg, hS, by rw [Nat.mul_succ]; omega⟩
    · obtain ⟨sm, y4, y5, y6, as, ls, S, k, rfl, hR, ef, hT, eg, hS, hk⟩ := hPv
      exact ⟨.ref fo, rfl, q Hi fo as ls hR sm nf ef hT⟩
end
end Pc
namespace Pc
open PySem PySem.Spec PyProof.Rows L2 RZ
section
variable {P : Program} {w : World} {K : PySem.W.Frag} {mg : Str → Option Value} {base : Heap}
/-! ### pure loops, by the program -/
def spIsPure (K : PySem.W.Frag) : Sp := fun vs H Q _ => ∃ (a t : Addr) (f ts : List Nat) (n : Nat), vs = [.ref a, .ref t] ∧ Sq K H a (nv f) ∧ IsPair (2 * n) f ∧ n ≤ 60 ∧ SqT K H t (nv ts) ∧ (∀ p ∈ ts, p < n) ∧ ts.length ≤ 100 ∧ ∀ H', Same H H' → Q (.bl (pureB f n ts)) H'
theorem ok_p_is_pure (T : Env K mg) : FnOk P w K mg base CX0 2 T.f_p_is_pure T.d_p_is_pure ["sheet", "loop"] (spIsPure K) := by
  have G0 : FnOk P w K mg base CX0 1 T.f_p_people_of T.d_p_people_of ["sheet"] (spPeople K) := ok_p_people_of T
  refine T.F_p_is_pure.ok sc_p_is_pure (fun vs H Q E h => ?_) (fun cdv A outer s H vs Q E hr h => ?_)
  · obtain ⟨a, t, f, ts, n, rfl, _⟩ := h
    rfl
  · obtain ⟨a, t, f, ts, n, rfl, ha, hf, hn, ht, hlt, hl, q⟩ := h
    refine ⟨_, pss_one (ps_ret (pe_and (pe_cmpR op_gt (pe_callB call_len_seq (by rfl) T.n_len PySem.boot_len (pa_cons (pv 1) pa_nil)) pe_int (nomark _)) (pe_one (pe_callB (cr_all rfl) (by rfl) T.n_all (by decide +kernel) (pa_cons
      (pe_lc (own := [("person", 2)]) (g := gName 2) (tt := tYes) (te := tOp (rI0 fun i j => .bl (decide (j ≤ i))) (tOp (rIx K) (tVar 0) (tVar 2)) (tCall (spPeople K) [] (fun _ _ _ => False) (tCons (tVar 0) tNil))) rfl sc_p_is_pure.nd (pi_tup (pv 1)) (blkOk_by (N := N_p_is_pure) (sc := defScope s_p_is_pure) (by decide +kernel)) (fun _ _ _ _ _ => pg_name (i := 2) sc_p_is_pure.nd rfl (.inl rfl)) (fun _ _ _ _ _ => pts_nil)
        (fun _ _ _ _ _ => pe_cmpR op_ge (pe_ix ix_seq (pv 0) (pv 2) (fun _ _ => rfl)) (pe_call G0 hr (by rfl) T.g_p_people_of T.F_p_people_of.kp T.b_p_people_of .nil pass0 (pa_cons (pv 0) pa_nil)) (nomark _))) pa_nil))))), ?_⟩
    refine ⟨.ref t, rfl, t, _, rfl, .inr ht, _, _, rfl, rfl, _, rfl, ite2 (fun c => ?_) (fun c => ?_)⟩
    · have hc : 1 < ts.length := by have := of_decide_eq_true c; rw [nv_length] at this; omega
      refine ⟨_, rfl, t, rfl, ⟨_, ht⟩, fun D nD => ?_⟩
      refine lc_tup (xs := nv ts) (fun i H' => Same H H' ∧ H' D = some (.lst ((((ts.take i).map fun p => decide (n ≤ f.getD p 0))).map V.bl))) ⟨same_new nD, upd_same⟩ (fun i H' _ h => same_tup h.1 ht) (fun i v H' hv h => ?_) (fun H' h => ?_)
      · obtain ⟨sm, eD⟩ := h
        obtain ⟨p, hp, rfl⟩ := nv_get' hv
        have hpl := hlt p (List.mem_of_getElem? hp)
        obtain ⟨_, _, _, f4⟩ := hf.d (show p < 2 * n by omega)
        refine ⟨rfl, yes_if ⟨_, rfl, _, rfl, ix_sq (ha.same sm) (nv_at f4) ⟨_, rfl, a, f, n, rfl, ha.same sm, hf.len, _, _, rfl, rfl, _, eD, ?_, fun z o hz => ?_, ?_⟩⟩⟩
        · rw [List.length_map, List.length_map, List.length_take]; exact small1000 (by omega)
        · rw [upd_ne (ne_of_none hz nD)]; exact sm _ _ hz
        · rw [upd_same, List.take_add_one, hp, List.map_append, List.map_append]
          show some (HO.lst (_ ++ [V.bl (decide ((n : Int) ≤ ((f.getD p 0 : Nat) : Int)))])) = some (HO.lst (_ ++ [V.bl (decide (n ≤ f.getD p 0))]))
          rw [show decide ((n : Int) ≤ ((f.getD p 0 : Nat) : Int)) = decide (n ≤ f.getD p 0) from decide_eq_decide.mpr ⟨fun z => by omega, fun z => by omega⟩]
      · obtain ⟨sm, eD⟩ := h
        rw [nv_length, List.take_length] at eD
        refine ⟨D, _, rfl, .inl (.inl eD), ?_⟩
        have e : ((ts.map fun p => decide (n ≤ f.getD p 0)).all id) = pureB f n ts := by
          unfold pureB; rw [decide_eq_true hc, Bool.true_and, List.all_map]; rfl
        rw [e]; exact q H' sm
    · have e : pureB f n ts = false := by
        unfold pureB
        rw [decide_eq_false (fun z => c (decide_eq_true (by rw [nv_length]; omega))), Bool.false_and]
      rw [e] at q
      exact q H (fun _ _ z => z)
def spPureL (K : PySem.W.Frag) : Sp := fun vs H Q _ => ∃ (a : Addr) (f : List Nat) (n : Nat), vs = [.ref a] ∧ Sq K H a (nv f) ∧ IsPair (2 * n) f ∧ n ≤ 60 ∧
  ∀ (H' : Hp) (t : Addr) (as : List Addr) (ls : List (List Nat)), Lo f n n ls → Same H H' → H t = none → H' t = some (.lst (as.map V.ref)) → Tups H' as (ls.filter (pureB f n)) → Q (.ref t) H'
theorem tups_mem {H : Hp} : ∀ {as : List Addr} {ls : List (List Nat)} {i : Nat} {a : Addr}, Tups H as ls → as[i]? = some a → ∃ l, ls[i]? = some l ∧ H a = some (.tup (nv l)) := fun h e => tups_get h e
theorem flt_take {ls : List (List Nat)} {p : List Nat → Bool} {i : Nat} {l : List Nat} (h : ls[i]? = some l) : (ls.take (i + 1)).filter p = (ls.take i).filter p ++ (if p l = true then [l] else []) := by
  rw [List.take_add_one, h, List.filter_append]
  show _ ++ List.filter p [l] = _
  by_cases c : p l = true
  · rw [if_pos c, List.filter_cons_of_pos c]; rfl
  · rw [if_neg c, List.filter_cons_of_neg c]; rfl
theorem ok_p_pure_loops (T : Env K mg) : FnOk P w K mg base CX0 4 T.f_p_pure_loops T.d_p_pure_loops ["sheet"] (spPureL K) := by
  have GL : FnOk P w K mg base CX0 3 T.f_p_loops T.d_p_loops ["sheet"] (spLoops K) := ok_p_loops T
  have GI : FnOk P w K mg base CX0 2 T.f_p_is_pure T.d_p_is_pure ["sheet", "loop"] (spIsPure K) := ok_p_is_pure T
  refine T.F_p_pure_loops.ok sc_p_pure_loops (fun vs H Q E h => ?_) (fun cdv A outer s H vs Q E hr h => ?_)
  · obtain ⟨a, f, n, rfl, _⟩ := h
    rfl
  · obtain ⟨a, f, n, rfl, ha, hf, hn, q⟩ := h
    have h2 := hr.mono (show 2 ≤ 3 by decide)
    refine ⟨_, pss_one (ps_ret (pe_lc (own := [("loop", 1)]) (g := gName 1) (te := tVar 1) rfl sc_p_pure_loops.nd (pi_list (pe_call GL hr (by rfl) T.g_p_loops T.F_p_loops.kp T.b_p_loops .nil pass0 (pa_cons (pv 0) pa_nil))) (blkOk_by (N := N_p_pure_loops) (sc := defScope s_p_pure_loops) (by decide +kernel)) (fun _ _ _ _ _ => pg_name (i := 1) sc_p_pure_loops.nd rfl (.inl rfl))
      (fun _ _ _ _ _ => pts_one (pt_val (pe_call GI h2 (by rfl) T.g_p_is_pure T.F_p_is_pure.kp T.b_p_is_pure .nil pass0 (pa_cons (pv 0) (pa_cons (pv 1) pa_nil))))) (fun _ _ _ _ _ => pv 1))), ?_⟩
    refine ⟨.ref a, rfl, a, f, n, rfl, ha, hf, hn, fun H1 t as ls hL s1 nt et hT => ?_⟩
    have hbd := hL.bound
    refine ⟨t, rfl, ⟨_, .inl (.inl et)⟩, fun D nD => ?_⟩
    refine lc_list (xs := as.map V.ref) (fun i H' => Same H1 H' ∧ ∃ cs : List Addr, H' D = some (.lst (cs.map V.ref)) ∧ Tups H' cs ((ls.take i).filter (pureB f n))) ⟨same_new nD, [], upd_same, .nil⟩ (fun i H' _ h => .inl (.inl (h.1 _ _ et))) (fun i v H' hv h => ?_) (fun H' h => ?_)
    · obtain ⟨sm, cs, eD, hC⟩ := h
      rw [List.getElem?_map] at hv
      obtain ⟨u, hu', rfl⟩ := Option.map_eq_some_iff.mp hv
      obtain ⟨l, el, hu⟩ := tups_get hT hu'
      obtain ⟨b1, b2, b3⟩ := hbd.2 l (List.mem_of_getElem? el)
      refine ⟨rfl, _, rfl, _, rfl, a, u, f, l, n, rfl, (ha.same s1).same sm, hf, hn, .inl (.inl (sm _ _ hu)), b3, by omega, fun H2 s2 => ⟨_, rfl, ite2 (fun c => ?_) (fun c => ?_)⟩⟩
      · have eD2 := s2 _ _ eD
        have uD : u ≠ D := fun z => by rw [z] at hu; rw [hu] at nD; cases nD
        have hcl : cs.length ≤ n := by
          rw [hC.length]
          exact Nat.le_trans (List.length_filter_le _ _) (Nat.le_trans (List.length_take_le' _ _) hbd.1)
        refine ⟨_, rfl, _, eD2, line_big (by rw [List.length_map]; omega), fun y o hy => ?_, cs ++ [u], ?_, ?_⟩
        · rw [upd_ne (ne_of_none hy nD)]; exact s2 _ _ (sm _ _ hy)
        · rw [upd_same, List.map_append]; rfl
        · rw [flt_take el, if_pos c]
          refine tups_append (tups_keep (b := D) keep_upd eD2 (tups_same s2 hC)) (.cons ?_ .nil)
          rw [upd_ne uD]; exact s2 _ _ (sm _ _ hu)
      · refine ⟨sm.trans s2, cs, s2 _ _ eD, ?_⟩
        rw [flt_take el, if_neg c, List.append_nil]; exact tups_same s2 hC
    · obtain ⟨sm, cs, eD, hC⟩ := h
      rw [List.length_map, hT.length, List.take_length] at hC
      exact q H' D cs ls hL (s1.trans sm) (s1.free nD) eD hC
end
end Pc
namespace Pc
open PySem PySem.Spec PyProof.Rows L2 RZ
theorem dn_two {X : PyData} (h : Fi 3 X) : (PyData.list [X, X]).depth < 5 ∧ narrow (.list [X, X]) := by
  refine ⟨?_, ⟨by show 2 ≤ 100000; decide, h.nar, h.nar, trivial⟩⟩
  show PyData.depthAll [X, X] + 1 < 5
  have := all_depth (ds := [X, X]) (k := 3) (fun d hd => by
    rcases List.mem_cons.mp hd with e | hd
    · rw [e]; exact h.depth
    · rw [List.mem_singleton.mp hd]; exact h.depth)
  omega
theorem fi_tups {ls : List (List Nat)} (h : ls.length ≤ 100 ∧ ∀ l ∈ ls, l.length ≤ 100 ∧ ∀ i ∈ l, i < 2 ^ 60) : Fi 2 (.list (ls.map td)) := (fine_tds (n := 100) (m := 100) h.2 h.1 (by decide) (by decide)).mono (Nat.le_refl _) (by decide)
theorem lo_bound {f : List Nat} {n : Nat} {ls : List (List Nat)} (hn : n ≤ 60) (h : Lo f n n ls) : ls.length ≤ 100 ∧ ∀ l ∈ ls, l.length ≤ 100 ∧ ∀ i ∈ l, i < 2 ^ 60 := by
  have hb := h.bound
  exact ⟨by omega, fun l hl => by
    obtain ⟨_, b2, b3⟩ := hb.2 l hl
    exact ⟨by omega, fun i hi => by have := b3 i hi; omega⟩⟩
theorem lo_boundF {f : List Nat} {n : Nat} {ls : List (List Nat)} {p : List Nat → Bool} (hn : n ≤ 60) (h : Lo f n n ls) : (ls.filter p).length ≤ 100 ∧ ∀ l ∈ ls.filter p, l.length ≤ 100 ∧ ∀ i ∈ l, i < 2 ^ 60 := by
  have hb := lo_bound hn h
  exact ⟨Nat.le_trans (List.length_filter_le _ _) hb.1, fun l hl => hb.2 l (List.mem_filter.mp hl).1⟩
theorem keep_freeD {b p : Addr} {k : Nat} {H H' : Hp} (hk : Keep b H H') (hB : Box k H' b) (h : H' p = none) : H p = none := by
  cases e : H p with
  | none => rfl
  | some o => rw [hk p o (hB.ne_new h).symm e] at h; cases h
end Pc
namespace Pc
/-! ### classes: how many there are, and what one more join does -/
inductive Cn (E : Nat → Nat → Prop) : Nat → Nat → Prop
  | refl (x : Nat) : Cn E x x
  | step {x y z : Nat} : Cn E x y → E y z ∨ E z y → Cn E x z
theorem Cn.trans {E : Nat → Nat → Prop} {x y z : Nat} (h : Cn E x y) (g : Cn E y z) : Cn E x z := by
  induction g with
  | refl => exact h
  | step _ e ih => exact .step ih e
theorem Cn.one {E : Nat → Nat → Prop} {x y : Nat} (h : E x y ∨ E y x) : Cn E x y := .step (.refl x) h
theorem Cn.symm {E : Nat → Nat → Prop} {x y : Nat} (h : Cn E x y) : Cn E y x := by
  induction h with
  | refl => exact .refl _
  | step _ e ih => exact (Cn.one e.symm).trans ih
theorem Cn.mono {E F : Nat → Nat → Prop} (h : ∀ x y, E x y → Cn F x y) {x y : Nat} (g : Cn E x y) : Cn F x y := by
  induction g with
  | refl => exact .refl _
  | step _ e ih => exact ih.trans (e.elim (fun z => h _ _ z) (fun z => (h _ _ z).symm))
/-- the joins with one more -/
def Ad (p q : Nat) (E : Nat → Nat → Prop) : Nat → Nat → Prop := fun x y => E x y ∨ (x = p ∧ y = q)
theorem Cn.up {E : Nat → Nat → Prop} {p q x y : Nat} (h : Cn E x y) : Cn (Ad p q E) x y := h.mono fun _ _ e => .one (.inl (.inl e))
theorem cn_ad {E : Nat → Nat → Prop} {p q x y : Nat} (h : Cn (Ad p q E) x y) : Cn E x y ∨ (Cn E x p ∧ Cn E q y) ∨ (Cn E x q ∧ Cn E p y) := by
  induction h with
  | refl => exact .inl (.refl _)
  | step _ e ih =>
    have go : ∀ {u v : Nat}, (Cn E x u ∨ (Cn E x p ∧ Cn E q u) ∨ (Cn E x q ∧ Cn E p u)) → E u v ∨ E v u → Cn E x v ∨ (Cn E x p ∧ Cn E q v) ∨ (Cn E x q ∧ Cn E p v) := fun {u v} h e => by
      rcases h with h | ⟨h1, h2⟩ | ⟨h1, h2⟩
      · exact .inl (.step h e)
      · exact .inr (.inl ⟨h1, .step h2 e⟩)
      · exact .inr (.inr ⟨h1, .step h2 e⟩)
    rcases e with (e | ⟨rfl, rfl⟩) | (e | ⟨rfl, rfl⟩)
    · exact go ih (.inl e)
    · rcases ih with h | ⟨h1, h2⟩ | ⟨h1, h2⟩
      · exact .inr (.inl ⟨h, .refl _⟩)
      · exact .inr (.inl ⟨h1, .refl _⟩)
      · exact .inl h1
    · exact go ih (.inr e)
    · rcases ih with h | ⟨h1, h2⟩ | ⟨h1, h2⟩
      · exact .inr (.inr ⟨h, .refl _⟩)
      · exact .inl h1
      · exact .inr (.inr ⟨h1, .refl _⟩)
/-- the least of its class -/
def Lst1 (E : Nat → Nat → Prop) (x : Nat) : Prop := ∀ y, y < x → ¬ Cn E y x
open Classical in
noncomputable def nc (n : Nat) (E : Nat → Nat → Prop) : Nat := ((List.range n).filter fun x => decide (Lst1 E x)).length
open Classical in
theorem nc_congr {n : Nat} {E F : Nat → Nat → Prop} (h : ∀ x y, Cn E x y ↔ Cn F x y) : nc n E = nc n F := by
  unfold nc
  congr 2
  funext x
  exact decide_eq_decide.mpr ⟨fun g y hy c => g y hy ((h y x).mpr c), fun g y hy c => g y hy ((h y x).mp c)⟩
theorem flt_len_le {p q : Nat → Bool} : ∀ (l : List Nat), (∀ x ∈ l, q x = true → p x = true) → (l.filter q).length ≤ (l.filter p).length
  | [], _ => Nat.le_refl _
  | x :: l, h => by
    have ih := flt_len_le (p := p) (q := q) l (fun y hy => h y (List.mem_cons_of_mem _ hy))
    by_cases c : q x = true
    · rw [List.filter_cons_of_pos c, List.filter_cons_of_pos (h x List.mem_cons_self c), List.length_cons, List.length_cons]; omega
    · rw [List.filter_cons_of_neg c]
      by_cases d : p x = true
      · rw [List.filter_cons_of_pos d, List.length_cons]; omega
      · rw [List.filter_cons_of_neg d]; exact ih
theorem flt_len_one {p q : Nat → Bool} : ∀ (l : List Nat), l.Nodup → (∀ x ∈ l, ∀ y ∈ l, p x = true → ¬ q x = true → p y = true → ¬ q y = true → x = y) → (l.filter p).length ≤ (l.filter q).length + 1
  | [], _, _ => Nat.zero_le _
  | x :: l, hd, h => by
    have hd' := List.nodup_cons.mp hd
    have ih := flt_len_one (p := p) (q := q) l hd'.2 (fun y hy z hz => h y (List.mem_cons_of_mem _ hy) z (List.mem_cons_of_mem _ hz))
    by_cases c : p x = true
    · by_cases d : q x = true
      · rw [List.filter_cons_of_pos c, List.filter_cons_of_pos d, List.length_cons, List.length_cons]; omega
      · have h2 := flt_len_le (p := q) (q := p) l (fun y hy py => by
          by_cases qy : q y = true
          · exact qy
          · have e := h x List.mem_cons_self y (List.mem_cons_of_mem _ hy) c d py qy
            rw [← e] at hy; exact absurd hy hd'.1)
        rw [List.filter_cons_of_pos c, List.filter_cons_of_neg d, List.length_cons]; omega
    · rw [List.filter_cons_of_neg c]
      by_cases d : q x = true
      · rw [List.filter_cons_of_pos d, List.length_cons]; omega
      · rw [List.filter_cons_of_neg d]; exact ih
theorem flt_len_lt {p q : Nat → Bool} : ∀ (l : List Nat), (∀ x ∈ l, q x = true → p x = true) → (∃ x ∈ l, p x = true ∧ ¬ q x = true) → (l.filter q).length < (l.filter p).length
  | [], _, h => by obtain ⟨x, hx, _⟩ := h; exact absurd hx List.not_mem_nil
  | x :: l, h, g => by
    have h' : ∀ y ∈ l, q y = true → p y = true := fun y hy => h y (List.mem_cons_of_mem _ hy)
    have h1 := flt_len_le (p := p) (q := q) l h'
    by_cases c : q x = true
    · obtain ⟨y, hy, py, qy⟩ := g
      have ih := flt_len_lt (p := p) (q := q) l h' ⟨y, (List.mem_cons.mp hy).resolve_left (fun e => qy (by rw [e]; exact c)), py, qy⟩
      rw [List.filter_cons_of_pos c, List.filter_cons_of_pos (h x List.mem_cons_self c), List.length_cons, List.length_cons]; omega
    · rw [List.filter_cons_of_neg c]
      by_cases d : p x = true
      · rw [List.filter_cons_of_pos d, List.length_cons]; omega
      · obtain ⟨y, hy, py, qy⟩ := g
        rw [List.filter_cons_of_neg d]
        exact flt_len_lt (p := p) (q := q) l h' ⟨y, (List.mem_cons.mp hy).resolve_left (fun e => d (by rw [← e]; exact py)), py, qy⟩
theorem lst_of_ad {E : Nat → Nat → Prop} {p q x : Nat} (h : Lst1 (Ad p q E) x) : Lst1 E x := fun y hy c => h y hy c.up
open Classical in
theorem nc_ad_le {n : Nat} {E : Nat → Nat → Prop} {p q : Nat} : nc n (Ad p q E) ≤ nc n E := flt_len_le _ fun _ _ h => decide_eq_true (lst_of_ad (of_decide_eq_true h))
theorem lst_uniq {E : Nat → Nat → Prop} {x y : Nat} (hx : Lst1 E x) (hy : Lst1 E y) (h : Cn E x y) : x = y := by
  rcases Nat.lt_trichotomy x y with c | c | c
  · exact absurd h (hy x c)
  · exact c
  · exact absurd h.symm (hx y c)
/-- who is the least no more -/
theorem lost {E : Nat → Nat → Prop} {p q x : Nat} (hx : Lst1 E x) (hn : ¬ Lst1 (Ad p q E) x) : (Cn E x q ∧ ∃ y, y < x ∧ Cn E y p) ∨ (Cn E x p ∧ ∃ y, y < x ∧ Cn E y q) := by
  obtain ⟨y, hy, c⟩ : ∃ y, y < x ∧ Cn (Ad p q E) y x := by
    rcases Classical.em (∃ y, y < x ∧ Cn (Ad p q E) y x) with h | h
    · exact h
    · exact absurd (fun y hy c => h ⟨y, hy, c⟩) hn
  rcases cn_ad c with h | ⟨h1, h2⟩ | ⟨h1, h2⟩
  · exact absurd h (hx y hy)
  · exact .inl ⟨h2.symm, y, hy, h1⟩
  · exact .inr ⟨h2.symm, y, hy, h1⟩
open Classical in
theorem nc_le_ad {n : Nat} {E : Nat → Nat → Prop} {p q : Nat} : nc n E ≤ nc n (Ad p q E) + 1 := by
  refine flt_len_one _ List.nodup_range fun x _ y _ hx' nx' hy' ny' => ?_
  have hx := of_decide_eq_true hx'
  have hy := of_decide_eq_true hy'
  have nx : ¬ Lst1 (Ad p q E) x := fun z => nx' (decide_eq_true z)
  have ny : ¬ Lst1 (Ad p q E) y := fun z => ny' (decide_eq_true z)
  rcases lost hx nx with ⟨h1, z, hz, h2⟩ | ⟨h1, z, hz, h2⟩ <;> rcases lost hy ny with ⟨g1, w, hw, g2⟩ | ⟨g1, w, hw, g2⟩
  · exact lst_uniq hx hy (h1.trans g1.symm)
  · -- x is the least of q's class, y of p's
    have a1 : ¬ z < y := fun c => hy z c (h2.trans g1.symm)
    have a2 : ¬ w < x := fun c => hx w c (g2.trans h1.symm)
    omega
  · have a1 : ¬ z < y := fun c => hy z c (h2.trans g1.symm)
    have a2 : ¬ w < x := fun c => hx w c (g2.trans h1.symm)
    omega
  · exact lst_uniq hx hy (h1.trans g1.symm)
theorem nc_ad_eq {n : Nat} {E : Nat → Nat → Prop} {p q : Nat} (h : Cn E p q) : nc n (Ad p q E) = nc n E :=
  nc_congr fun x y => ⟨fun c => by
    rcases cn_ad c with c | ⟨h1, h2⟩ | ⟨h1, h2⟩
    · exact c
    · exact (h1.trans h).trans h2
    · exact (h1.trans h.symm).trans h2, fun c => c.up⟩
open Classical in
theorem least_of {E : Nat → Nat → Prop} : ∀ (p : Nat), ∃ x, x ≤ p ∧ Cn E x p ∧ Lst1 E x
  | p => by
    by_cases h : Lst1 E p
    · exact ⟨p, Nat.le_refl _, .refl _, h⟩
    · obtain ⟨y, hy, c⟩ : ∃ y, y < p ∧ Cn E y p := by
        rcases Classical.em (∃ y, y < p ∧ Cn E y p) with g | g
        · exact g
        · exact absurd (fun y hy c => g ⟨y, hy, c⟩) h
      obtain ⟨x, h1, h2, h3⟩ := least_of (E := E) y
      exact ⟨x, by omega, h2.trans c, h3⟩
open Classical in
theorem nc_ad_lt {n : Nat} {E : Nat → Nat → Prop} {p q : Nat} (hp : p < n) (hq : q < n) (h : ¬ Cn E p q) : nc n (Ad p q E) + 1 = nc n E := by
  have h1 := nc_le_ad (n := n) (E := E) (p := p) (q := q)
  have h2 : nc n (Ad p q E) < nc n E := by
    refine flt_len_lt _ (fun _ _ h => decide_eq_true (lst_of_ad (of_decide_eq_true h))) ?_
    obtain ⟨x, x1, x2, x3⟩ := least_of (E := E) p
    obtain ⟨y, y1, y2, y3⟩ := least_of (E := E) q
    have e : Cn (Ad p q E) p q := .one (.inl (.inr ⟨rfl, rfl⟩))
    rcases Nat.lt_trichotomy x y with c | c | c
    · exact ⟨y, List.mem_range.mpr (by omega), decide_eq_true y3, fun g => of_decide_eq_true g x c ((x2.up.trans e).trans y2.up.symm)⟩
    · rw [c] at x2; exact absurd (x2.symm.trans y2) h
    · exact ⟨x, List.mem_range.mpr (by omega), decide_eq_true x3, fun g => of_decide_eq_true g y c ((y2.up.trans e.symm).trans x2.up.symm)⟩
  omega
/-- an involution without a fixed point: an even number -/
theorem even_inv {f : Nat → Nat} : ∀ (k : Nat) (l : List Nat), l.length = k → l.Nodup → (∀ z ∈ l, f z ∈ l ∧ f z ≠ z ∧ f (f z) = z) → k % 2 = 0
  | 0, _, _, _, _ => rfl
  | 1, l, hl, hd, h => by
    obtain ⟨x, rfl⟩ := List.length_eq_one_iff.mp hl
    have := h x List.mem_cons_self
    exact absurd (List.mem_singleton.mp this.1) this.2.1
  | k + 2, l, hl, hd, h => by
    obtain ⟨x, r, rfl⟩ : ∃ x r, l = x :: r := by
      cases l with
      | nil => cases hl
      | cons x r => exact ⟨x, r, rfl⟩
    obtain ⟨x1, x2, x3⟩ := h x List.mem_cons_self
    have hd' := List.nodup_cons.mp hd
    have xr : f x ∈ r := (List.mem_cons.mp x1).resolve_left x2
    have ih := even_inv (f := f) k (r.erase (f x)) (by rw [List.length_erase_of_mem xr]; rw [List.length_cons] at hl; omega) (hd'.2.erase _) (fun z hz => by
      obtain ⟨z1, z2⟩ := (hd'.2.mem_erase_iff).mp hz
      obtain ⟨y1, y2, y3⟩ := h z (List.mem_cons_of_mem _ z2)
      refine ⟨(hd'.2.mem_erase_iff).mpr ⟨fun e => ?_, (List.mem_cons.mp y1).resolve_left (fun e => ?_)⟩, y2, y3⟩
      · have : z = x := by rw [← y3, e, x3]
        exact hd'.1 (by rw [← this]; exact z2)
      · exact z1 (by rw [← y3, e]))
    omega
end Pc
namespace Pc
/-! ### cycles are classes; a call changes their number by one at most -/
def ed (n : Nat) (a b : List Nat) : Nat → Nat → Prop := fun x y => x < n ∧ (y = a.getD x 0 ∨ y = b.getD x 0)
theorem LapEnd.cn {a b : List Nat} {n i : Nat} (ha : IsPair n a) (hb : IsPair n b) {l r : List Nat} {z : Nat} (h : LapEnd a b l z r) : LpI a b n i l z → Cn (ed n a b) i z → (∀ y ∈ l, Cn (ed n a b) i y) → ∀ y ∈ r, Cn (ed n a b) i y := by
  induction h with
  | stop _ => intro _ _ h; exact h
  | @go l' r' z' hz _ ih =>
    intro hi hc hl
    obtain ⟨a1, _, _, _⟩ := ha.d hi.zl
    have c1 : Cn (ed n a b) i (a.getD z' 0) := .step hc (.inl ⟨hi.zl, .inl rfl⟩)
    refine ih (hi.step ha hb hz) (.step c1 (.inl ⟨a1, .inr rfl⟩)) fun y hy => ?_
    rcases List.mem_append.mp hy with hy | hy
    · exact hl y hy
    · rcases List.mem_cons.mp hy with e | hy
      · rw [e]; exact hc
      · rw [List.mem_singleton.mp hy]; exact c1
theorem cn_in {a b : List Nat} {n i : Nat} {r : List Nat} (ha : IsPair n a) (hb : IsPair n b) (hi : i ∈ r) (ca : ∀ y ∈ r, a.getD y 0 ∈ r) (cb : ∀ y ∈ r, b.getD y 0 ∈ r) {y : Nat} (h : Cn (ed n a b) i y) : y ∈ r := by
  induction h with
  | refl => exact hi
  | step _ e ih =>
    rcases e with ⟨_, e | e⟩ | ⟨hz, e | e⟩
    · rw [e]; exact ca _ ih
    · rw [e]; exact cb _ ih
    · have := ca _ ih; rw [e, (ha.d hz).2.2.1] at this; exact this
    · have := cb _ ih; rw [e, (hb.d hz).2.2.1] at this; exact this
theorem lap_cn {a b : List Nat} {n i : Nat} (ha : IsPair n a) (hb : IsPair n b) (hi : i < n) {r : List Nat} (h : LapEnd a b [] i r) (y : Nat) : y ∈ r ↔ Cn (ed n a b) i y := by
  have s0 : LpI a b n i [] i := LpI.start hi
  obtain ⟨h1, h2⟩ := h.lap ha hb s0
  exact ⟨h.cn ha hb s0 (.refl _) (fun _ h => absurd h List.not_mem_nil) y, cn_in ha hb h2 h1.ca (h1.closed hb h2)⟩
theorem flt_pos {p : Nat → Bool} {i : Nat} (h : p i = true) : ((List.range (i + 1)).filter p).length = ((List.range i).filter p).length + 1 := by
  rw [List.range_succ, List.filter_append, List.filter_cons_of_pos h, List.filter_nil, List.length_append]; rfl
theorem flt_neg {p : Nat → Bool} {i : Nat} (h : p i = false) : ((List.range (i + 1)).filter p).length = ((List.range i).filter p).length := by
  rw [List.range_succ, List.filter_append, List.filter_cons_of_neg (by rw [h]; exact Bool.false_ne_true), List.filter_nil, List.append_nil]
open Classical in
theorem Rn.count {a b : List Nat} {n : Nat} (ha : IsPair n a) (hb : IsPair n b) {i : Nat} {ls : List (List Nat)} (h : Rn a b i ls) : i ≤ n → (∀ y, y ∈ ls.flatten ↔ ∃ j, j < i ∧ Cn (ed n a b) j y) ∧ ls.length = ((List.range i).filter fun x => decide (Lst1 (ed n a b) x)).length := by
  induction h with
  | zero => intro _; exact ⟨fun y => ⟨fun h => absurd h List.not_mem_nil, fun ⟨j, hj, _⟩ => absurd hj (Nat.not_lt_zero _)⟩, rfl⟩
  | @skip i ls _ hm ih =>
    intro hi
    obtain ⟨h1, h2⟩ := ih (by omega)
    obtain ⟨j0, hj0, c0⟩ := (h1 i).mp hm
    refine ⟨fun y => ⟨fun h => by obtain ⟨j, hj, c⟩ := (h1 y).mp h; exact ⟨j, by omega, c⟩, fun ⟨j, hj, c⟩ => ?_⟩, ?_⟩
    · by_cases e : j = i
      · exact (h1 y).mpr ⟨j0, hj0, c0.trans (by rw [← e]; exact c)⟩
      · exact (h1 y).mpr ⟨j, by omega, c⟩
    · rw [h2]; exact (flt_neg (p := fun x => decide (Lst1 (ed n a b) x)) (decide_eq_false (fun z => z j0 hj0 c0))).symm
  | @new i ls r _ hn he ih =>
    intro hi
    obtain ⟨h1, h2⟩ := ih (by omega)
    have hl := lap_cn ha hb (show i < n by omega) he
    have hL : Lst1 (ed n a b) i := fun y hy c => hn ((h1 i).mpr ⟨y, hy, c⟩)
    refine ⟨fun y => ?_, ?_⟩
    · rw [flat_snoc, List.mem_append, h1 y, hl y]
      exact ⟨fun h => by
        rcases h with ⟨j, hj, c⟩ | c
        · exact ⟨j, by omega, c⟩
        · exact ⟨i, by omega, c⟩, fun ⟨j, hj, c⟩ => by
        by_cases e : j = i
        · rw [e] at c; exact .inr c
        · exact .inl ⟨j, by omega, c⟩⟩
    · rw [List.length_append, h2]; exact (flt_pos (p := fun x => decide (Lst1 (ed n a b) x)) (decide_eq_true hL)).symm
theorem Rn.nc {a b : List Nat} {n : Nat} (ha : IsPair n a) (hb : IsPair n b) {ls : List (List Nat)} (h : Rn a b n ls) : ls.length = nc n (ed n a b) := (h.count ha hb (Nat.le_refl _)).2
/-- the joins but for those of four people in the first pairing -/
def e0 (n : Nat) (a b : List Nat) (x u y v : Nat) : Nat → Nat → Prop := fun p q => p < n ∧ (q = b.getD p 0 ∨ (q = a.getD p 0 ∧ p ≠ x ∧ p ≠ u ∧ p ≠ y ∧ p ≠ v))
theorem cn_lt {n : Nat} {a b : List Nat} {x u y v w z : Nat} (ha : IsPair n a) (hb : IsPair n b) (hw : w < n) (h : Cn (e0 n a b x u y v) w z) : z < n := by
  induction h with
  | refl => exact hw
  | step _ e ih =>
    rcases e with ⟨_, e | ⟨e, _⟩⟩ | ⟨h1, _⟩
    · rw [e]; exact (hb.d ih).1
    · rw [e]; exact (ha.d ih).1
    · exact h1
open Classical in
/-- one of the four is never alone -/
theorem not_alone {n : Nat} {a b : List Nat} {x u y v w : Nat} (ha : IsPair n a) (hb : IsPair n b) (hx : x < n) (hy : y < n) (hu : u = a.getD x 0) (hv : v = a.getD y 0) (hw : w = x ∨ w = u ∨ w = y ∨ w = v) :
    ∃ w', (w' = x ∨ w' = u ∨ w' = y ∨ w' = v) ∧ w' ≠ w ∧ Cn (e0 n a b x u y v) w w' := by
  have dx := ha.d hx
  have dy := ha.d hy
  have hwn : w < n := by rcases hw with e | e | e | e <;> rw [e]; exact hx; rw [hu]; exact dx.1; exact hy; rw [hv]; exact dy.1
  rcases Classical.em (∃ w', (w' = x ∨ w' = u ∨ w' = y ∨ w' = v) ∧ w' ≠ w ∧ Cn (e0 n a b x u y v) w w') with h | h
  · exact h
  exfalso
  have hno : ∀ w', (w' = x ∨ w' = u ∨ w' = y ∨ w' = v) → w' ≠ w → ¬ Cn (e0 n a b x u y v) w w' := fun w' h1 h2 h3 => h ⟨w', h1, h2, h3⟩
  obtain ⟨S, hS⟩ : ∃ S, S = (List.range n).filter fun z => decide (Cn (e0 n a b x u y v) w z) := ⟨_, rfl⟩
  have nd : S.Nodup := by rw [hS]; exact List.nodup_range.filter _
  have mem : ∀ z, z ∈ S ↔ Cn (e0 n a b x u y v) w z := fun z => by
    rw [hS, List.mem_filter, List.mem_range, decide_eq_true_iff]
    exact ⟨fun h => h.2, fun h => ⟨cn_lt ha hb hwn h, h⟩⟩
  have ev := even_inv (f := fun z => b.getD z 0) S.length S rfl nd (fun z hz => by
    have hzn := cn_lt ha hb hwn ((mem z).mp hz)
    obtain ⟨b1, b2, b3, _⟩ := hb.d hzn
    exact ⟨(mem _).mpr (.step ((mem z).mp hz) (.inl ⟨hzn, .inl rfl⟩)), b2, b3⟩)
  have wS : w ∈ S := (mem w).mpr (.refl _)
  have od := even_inv (f := fun z => a.getD z 0) (S.erase w).length (S.erase w) rfl (nd.erase _) (fun z hz => by
    obtain ⟨z1, z2⟩ := (nd.mem_erase_iff).mp hz
    have hc := (mem z).mp z2
    have hzn := cn_lt ha hb hwn hc
    obtain ⟨a1, a2, a3, _⟩ := ha.d hzn
    have zx : z ≠ x := fun e => hno z (.inl e) z1 hc
    have zu : z ≠ u := fun e => hno z (.inr (.inl e)) z1 hc
    have zy : z ≠ y := fun e => hno z (.inr (.inr (.inl e))) z1 hc
    have zv : z ≠ v := fun e => hno z (.inr (.inr (.inr e))) z1 hc
    refine ⟨(nd.mem_erase_iff).mpr ⟨fun e => ?_, (mem _).mpr (.step hc (.inl ⟨hzn, .inr ⟨rfl, zx, zu, zy, zv⟩⟩))⟩, a2, a3⟩
    have e' : z = a.getD w 0 := by rw [← a3]; exact congrArg (fun t => a.getD t 0) e
    rcases hw with w1 | w1 | w1 | w1
    · exact zu (by rw [e', w1, hu])
    · exact zx (by rw [e', w1, hu, dx.2.2.1])
    · exact zv (by rw [e', w1, hv])
    · exact zy (by rw [e', w1, hv, dy.2.2.1]))
  rw [List.length_erase_of_mem wS] at od
  have := List.length_pos_of_mem wS
  omega
theorem four_bound {n : Nat} {E : Nat → Nat → Prop} {p q r s : Nat} (h : ∀ w, (w = p ∨ w = q ∨ w = r ∨ w = s) → ∃ w', (w' = p ∨ w' = q ∨ w' = r ∨ w' = s) ∧ w' ≠ w ∧ Cn E w w') : nc n E ≤ nc n (Ad p q (Ad r s E)) + 1 := by
  have key : Cn E r s ∨ Cn (Ad r s E) p q := by
    have rs : Cn (Ad r s E) r s := .one (.inl (.inr ⟨rfl, rfl⟩))
    obtain ⟨w, hw, nw, c⟩ := h r (.inr (.inr (.inl rfl)))
    rcases hw with e | e | e | e
    · rw [e] at c
      obtain ⟨w', hw', nw', c'⟩ := h q (.inr (.inl rfl))
      rcases hw' with e' | e' | e' | e'
      · rw [e'] at c'; exact .inr c'.symm.up
      · exact absurd e' nw'
      · rw [e'] at c'; exact .inr (c'.trans c).symm.up
      · rw [e'] at c'; exact .inr ((c.symm.up.trans rs).trans c'.symm.up)
    · rw [e] at c
      obtain ⟨w', hw', nw', c'⟩ := h p (.inl rfl)
      rcases hw' with e' | e' | e' | e'
      · exact absurd e' nw'
      · rw [e'] at c'; exact .inr c'.up
      · rw [e'] at c'; exact .inr (c'.trans c).up
      · rw [e'] at c'; exact .inr ((c'.up.trans rs.symm).trans c.up)
    · exact absurd e nw
    · rw [e] at c; exact .inl c
  rcases key with k | k
  · have h1 := nc_ad_eq (n := n) k
    have h2 := nc_le_ad (n := n) (E := Ad r s E) (p := p) (q := q)
    omega
  · have h1 := nc_ad_eq (n := n) k
    have h2 := nc_le_ad (n := n) (E := E) (p := r) (q := s)
    omega
theorem nc_ad2_le {n : Nat} {E : Nat → Nat → Prop} {p q r s : Nat} : nc n (Ad p q (Ad r s E)) ≤ nc n E := Nat.le_trans nc_ad_le nc_ad_le
/-- one pairing from another by a call of x and y -/
structure Cald (n : Nat) (a a' : List Nat) (x y : Nat) : Prop where
  hx : x < n
  hy : y < n
  xy : x ≠ y
  uy : a.getD x 0 ≠ y
  tx : a'.getD x 0 = y
  ty : a'.getD y 0 = x
  tu : a'.getD (a.getD x 0) 0 = a.getD y 0
  tv : a'.getD (a.getD y 0) 0 = a.getD x 0
  el : ∀ z, z < n → z ≠ x → z ≠ a.getD x 0 → z ≠ y → z ≠ a.getD y 0 → a'.getD z 0 = a.getD z 0
theorem ed_old {n : Nat} {a b : List Nat} {x y : Nat} (ha : IsPair n a) (hx : x < n) (hy : y < n) (p q : Nat) : Cn (ed n a b) p q ↔ Cn (Ad x (a.getD x 0) (Ad y (a.getD y 0) (e0 n a b x (a.getD x 0) y (a.getD y 0)))) p q := by
  have dx := ha.d hx
  have dy := ha.d hy
  have ex : Cn (Ad x (a.getD x 0) (Ad y (a.getD y 0) (e0 n a b x (a.getD x 0) y (a.getD y 0)))) x (a.getD x 0) := .one (.inl (.inr ⟨rfl, rfl⟩))
  have ey : Cn (Ad x (a.getD x 0) (Ad y (a.getD y 0) (e0 n a b x (a.getD x 0) y (a.getD y 0)))) y (a.getD y 0) := .one (.inl (.inl (.inr ⟨rfl, rfl⟩)))
  constructor
  · exact Cn.mono fun s t ⟨hs, h⟩ => by
      rcases h with h | h
      · by_cases c1 : s = x
        · rw [h, c1]; exact ex
        · by_cases c2 : s = a.getD x 0
          · rw [h, c2, dx.2.2.1]; exact ex.symm
          · by_cases c3 : s = y
            · rw [h, c3]; exact ey
            · by_cases c4 : s = a.getD y 0
              · rw [h, c4, dy.2.2.1]; exact ey.symm
              · exact .one (.inl (.inl (.inl ⟨hs, .inr ⟨h, c1, c2, c3, c4⟩⟩)))
      · exact .one (.inl (.inl (.inl ⟨hs, .inl h⟩)))
  · exact Cn.mono fun s t h => by
      rcases h with (⟨hs, h | ⟨h, _⟩⟩ | ⟨h1, h2⟩) | ⟨h1, h2⟩
      · exact .one (.inl ⟨hs, .inr h⟩)
      · exact .one (.inl ⟨hs, .inl h⟩)
      · rw [h1, h2]; exact .one (.inl ⟨hy, .inl rfl⟩)
      · rw [h1, h2]; exact .one (.inl ⟨hx, .inl rfl⟩)
theorem ed_new {n : Nat} {a a' b : List Nat} {x y : Nat} (ha : IsPair n a) (h : Cald n a a' x y) (p q : Nat) : Cn (ed n a' b) p q ↔ Cn (Ad x y (Ad (a.getD x 0) (a.getD y 0) (e0 n a b x (a.getD x 0) y (a.getD y 0)))) p q := by
  have dx := ha.d h.hx
  have dy := ha.d h.hy
  have ex : Cn (Ad x y (Ad (a.getD x 0) (a.getD y 0) (e0 n a b x (a.getD x 0) y (a.getD y 0)))) x y := .one (.inl (.inr ⟨rfl, rfl⟩))
  have ey : Cn (Ad x y (Ad (a.getD x 0) (a.getD y 0) (e0 n a b x (a.getD x 0) y (a.getD y 0)))) (a.getD x 0) (a.getD y 0) := .one (.inl (.inl (.inr ⟨rfl, rfl⟩)))
  constructor
  · exact Cn.mono fun s t ⟨hs, g⟩ => by
      rcases g with g | g
      · by_cases c1 : s = x
        · rw [g, c1, h.tx]; exact ex
        · by_cases c2 : s = a.getD x 0
          · rw [g, c2, h.tu]; exact ey
          · by_cases c3 : s = y
            · rw [g, c3, h.ty]; exact ex.symm
            · by_cases c4 : s = a.getD y 0
              · rw [g, c4, h.tv]; exact ey.symm
              · exact .one (.inl (.inl (.inl ⟨hs, .inr ⟨by rw [g, h.el s hs c1 c2 c3 c4], c1, c2, c3, c4⟩⟩)))
      · exact .one (.inl (.inl (.inl ⟨hs, .inl g⟩)))
  · exact Cn.mono fun s t g => by
      rcases g with (⟨hs, g | ⟨g, c1, c2, c3, c4⟩⟩ | ⟨h1, h2⟩) | ⟨h1, h2⟩
      · exact .one (.inl ⟨hs, .inr g⟩)
      · exact .one (.inl ⟨hs, .inl (by rw [g, h.el s hs c1 c2 c3 c4])⟩)
      · rw [h1, h2]; exact .one (.inl ⟨dx.1, .inl h.tu.symm⟩)
      · rw [h1, h2]; exact .one (.inl ⟨h.hx, .inl h.tx.symm⟩)
/-- a call changes the number of classes by one at most -/
theorem call_nc {n : Nat} {a a' b : List Nat} {x y : Nat} (ha : IsPair n a) (hb : IsPair n b) (h : Cald n a a' x y) : nc n (ed n a b) ≤ nc n (ed n a' b) + 1 ∧ nc n (ed n a' b) ≤ nc n (ed n a b) + 1 := by
  rw [nc_congr (ed_old ha h.hx h.hy), nc_congr (ed_new ha h)]
  have four := fun w hw => not_alone (w := w) ha hb h.hx h.hy rfl rfl hw
  have h1 := four_bound (n := n) (E := e0 n a b x (a.getD x 0) y (a.getD y 0)) (p := x) (q := a.getD x 0) (r := y) (s := a.getD y 0) four
  have h2 := four_bound (n := n) (E := e0 n a b x (a.getD x 0) y (a.getD y 0)) (p := x) (q := y) (r := a.getD x 0) (s := a.getD y 0) (fun w hw => by
    obtain ⟨w', g1, g2, g3⟩ := four w (by rcases hw with e | e | e | e; exact .inl e; exact .inr (.inr (.inl e)); exact .inr (.inl e); exact .inr (.inr (.inr e)))
    exact ⟨w', by rcases g1 with e | e | e | e; exact .inl e; exact .inr (.inr (.inl e)); exact .inr (.inl e); exact .inr (.inr (.inr e)), g2, g3⟩)
  have h3 := nc_ad2_le (n := n) (E := e0 n a b x (a.getD x 0) y (a.getD y 0)) (p := x) (q := a.getD x 0) (r := y) (s := a.getD y 0)
  have h4 := nc_ad2_le (n := n) (E := e0 n a b x (a.getD x 0) y (a.getD y 0)) (p := x) (q := y) (r := a.getD x 0) (s := a.getD y 0)
  omega
end Pc
namespace Pc
/-! ### loops are classes of ends; one call more costs one more at most -/
theorem nd_sub : ∀ (l m : List Nat), l.Nodup → (∀ y ∈ l, y ∈ m) → l.length ≤ m.length
  | [], _, _, _ => Nat.zero_le _
  | x :: l, m, hd, h => by
    have hd' := List.nodup_cons.mp hd
    have h1 := nd_sub l (m.erase x) hd'.2 (fun y hy => (List.mem_erase_of_ne (fun e => hd'.1 (by rw [← e]; exact hy))).mpr (h y (List.mem_cons_of_mem _ hy)))
    have h2 := h x List.mem_cons_self
    rw [List.length_erase_of_mem h2] at h1
    have := List.length_pos_of_mem h2
    rw [List.length_cons]; omega
open Classical in
noncomputable def cnt (n : Nat) (p : Nat → Prop) : Nat := ((List.range n).filter fun x => decide (p x)).length
open Classical in
theorem cnt_pos {p : Nat → Prop} {i : Nat} (h : p i) : cnt (i + 1) p = cnt i p + 1 := flt_pos (p := fun x => decide (p x)) (decide_eq_true h)
open Classical in
theorem cnt_neg {p : Nat → Prop} {i : Nat} (h : ¬ p i) : cnt (i + 1) p = cnt i p := flt_neg (p := fun x => decide (p x)) (decide_eq_false h)
open Classical in
theorem cnt_le {p q : Nat → Prop} {n : Nat} (h : ∀ x, x < n → q x → p x) : cnt n q ≤ cnt n p :=
  flt_len_le (p := fun x => decide (p x)) (q := fun x => decide (q x)) _ fun x hx c => decide_eq_true (h x (List.mem_range.mp hx) (of_decide_eq_true c))
open Classical in
theorem cnt_one {p q : Nat → Prop} {n : Nat} (h : ∀ x y, x < n → y < n → p x → ¬ q x → p y → ¬ q y → x = y) : cnt n p ≤ cnt n q + 1 :=
  flt_len_one (p := fun x => decide (p x)) (q := fun x => decide (q x)) _ List.nodup_range fun x hx y hy a b c d =>
    h x y (List.mem_range.mp hx) (List.mem_range.mp hy) (of_decide_eq_true a) (fun z => b (decide_eq_true z)) (of_decide_eq_true c) (fun z => d (decide_eq_true z))
open Classical in
theorem cnt_lt {p q : Nat → Prop} {n : Nat} (h : ∀ x, x < n → q x → p x) (g : ∃ x, x < n ∧ p x ∧ ¬ q x) : cnt n q < cnt n p :=
  flt_len_lt (p := fun x => decide (p x)) (q := fun x => decide (q x)) _ (fun x hx c => decide_eq_true (h x (List.mem_range.mp hx) (of_decide_eq_true c))) (by
    obtain ⟨x, h1, h2, h3⟩ := g
    exact ⟨x, List.mem_range.mpr h1, decide_eq_true h2, fun c => h3 (of_decide_eq_true c)⟩)
theorem cnt_none {p : Nat → Prop} : ∀ {n : Nat}, (∀ x, x < n → ¬ p x) → cnt n p = 0
  | 0, _ => rfl
  | n + 1, h => by rw [cnt_neg (h n (by omega))]; exact cnt_none fun x hx => h x (by omega)
theorem cnt_ne {p : Nat → Prop} {n : Nat} (h : ∃ x, x < n ∧ p x) : cnt n p ≠ 0 := by
  obtain ⟨x, h1, h2⟩ := h
  have := cnt_lt (n := n) (p := p) (q := fun _ => False) (fun _ _ z => z.elim) ⟨x, h1, h2, id⟩
  omega
theorem cnt_all {p : Nat → Prop} : ∀ {n : Nat}, (∀ x, x < n → p x) → cnt n p = n
  | 0, _ => rfl
  | n + 1, h => by rw [cnt_pos (h n (by omega)), cnt_all fun x hx => h x (by omega)]
theorem cnt_more {p : Nat → Prop} {n : Nat} : ∀ (m : Nat), (∀ x, n ≤ x → x < n + m → ¬ p x) → cnt (n + m) p = cnt n p
  | 0, _ => rfl
  | m + 1, h => by
    have h1 : cnt (n + m + 1) p = cnt (n + m) p := cnt_neg (h (n + m) (by omega) (by omega))
    rw [show n + (m + 1) = n + m + 1 by omega, h1]; exact cnt_more m fun x a b => h x a (by omega)
/-- the joins and ties of the ends -/
abbrev eL (n : Nat) (f : List Nat) : Nat → Nat → Prop := ed (2 * n) f (emp n)
theorem eL_lt {n : Nat} {f : List Nat} {x y : Nat} (hf : IsPair (2 * n) f) (hx : x < 2 * n) (h : Cn (eL n f) x y) : y < 2 * n := by
  induction h with
  | refl => exact hx
  | step _ e ih =>
    rcases e with ⟨_, e | e⟩ | ⟨h1, _⟩
    · rw [e]; exact (hf.d ih).1
    · rw [e, oth_emp ih]; exact oth_lt ih
    · exact h1
theorem eL_tie {n : Nat} {f : List Nat} {x : Nat} (hx : x < 2 * n) : Cn (eL n f) x (oth n x) := .one (.inl ⟨hx, .inr (oth_emp hx).symm⟩)
theorem eL_f {n : Nat} {f : List Nat} {x : Nat} (hx : x < 2 * n) : Cn (eL n f) x (f.getD x 0) := .one (.inl ⟨hx, .inl rfl⟩)
theorem eL_mod {n : Nat} {f : List Nat} {x : Nat} (hx : x < 2 * n) : Cn (eL n f) x (x % n) := by
  by_cases c : x < n
  · rw [Nat.mod_eq_of_lt c]; exact .refl _
  · have : x % n = oth n x := by unfold oth; rw [if_neg c, Nat.mod_eq_sub_mod (by omega), Nat.mod_eq_of_lt (by omega)]
    rw [this]; exact eL_tie hx
open Classical in
theorem loop_cn {n x : Nat} {f ps : List Nat} (hf : IsPair (2 * n) f) (hx : x < n) (hL : LoopL f n x ps) (p : Nat) : p ∈ ps ↔ p < n ∧ Cn (eL n f) x p := by
  constructor
  · intro hp
    have h := hL.mn ((List.range n).filter fun p => decide (Cn (eL n f) x p)) (List.mem_filter.mpr ⟨List.mem_range.mpr hx, decide_eq_true (.refl _)⟩) (fun q hq => by
      obtain ⟨h1, h2⟩ := List.mem_filter.mp hq
      have hqn := List.mem_range.mp h1
      have hc : Cn (eL n f) x q := of_decide_eq_true h2
      refine ⟨List.mem_filter.mpr ⟨List.mem_range.mpr (Nat.mod_lt _ (by omega)), decide_eq_true ?_⟩, List.mem_filter.mpr ⟨List.mem_range.mpr (Nat.mod_lt _ (by omega)), decide_eq_true ?_⟩⟩
      · exact (hc.trans (eL_f (by omega))).trans (eL_mod (hf.d (by omega)).1)
      · have h3 : Cn (eL n f) q (n + q) := by
          have := eL_tie (f := f) (show q < 2 * n by omega)
          unfold oth at this; rw [if_pos hqn, Nat.add_comm] at this; exact this
        exact ((hc.trans h3).trans (eL_f (by omega))).trans (eL_mod (hf.d (by omega)).1)) p hp
    obtain ⟨h1, h2⟩ := List.mem_filter.mp h
    exact ⟨List.mem_range.mp h1, of_decide_eq_true h2⟩
  · intro ⟨hp, hc⟩
    have go : ∀ z, Cn (eL n f) x z → z < 2 * n ∧ z % n ∈ ps := fun z hz => by
      induction hz with
      | refl => exact ⟨by omega, by rw [Nat.mod_eq_of_lt hx]; exact hL.mem⟩
      | @step y z _ e ih =>
        obtain ⟨i1, i2⟩ := ih
        have st : ∀ {u v : Nat}, u < 2 * n → u % n ∈ ps → v = f.getD u 0 → v % n ∈ ps := fun {u v} hu hm ev => by
          rw [ev, end_of hu]
          split
          · exact (hL.cl _ hm).1
          · exact (hL.cl _ hm).2
        rcases e with ⟨_, e | e⟩ | ⟨h1, e | e⟩
        · exact ⟨by rw [e]; exact (hf.d i1).1, st i1 i2 e⟩
        · rw [e, oth_emp i1]; exact ⟨oth_lt i1, by rw [oth_mod i1]; exact i2⟩
        · exact ⟨h1, st i1 i2 (by rw [e, (hf.d h1).2.2.1])⟩
        · rw [oth_emp h1] at e
          exact ⟨h1, by rw [e, oth_mod h1] at i2; exact i2⟩
    have := (go p hc).2
    rwa [Nat.mod_eq_of_lt hp] at this
/-- the class of x is pure -/
def Pu (n : Nat) (f : List Nat) (x : Nat) : Prop := (∃ p, p < n ∧ p ≠ x ∧ Cn (eL n f) x p) ∧ ∀ p, p < n → Cn (eL n f) x p → n ≤ f.getD p 0
noncomputable def LL (n : Nat) (f : List Nat) : Nat := cnt n (Lst1 (eL n f))
noncomputable def PP (n : Nat) (f : List Nat) : Nat := cnt n fun x => Lst1 (eL n f) x ∧ Pu n f x
theorem pureB_iff {n x : Nat} {f ps t : List Nat} (hf : IsPair (2 * n) f) (hx : x < n) (hL : LoopL f n x ps) (ht : t.Perm ps) : pureB f n t = true ↔ Pu n f x := by
  have hm : ∀ p, p ∈ t ↔ p < n ∧ Cn (eL n f) x p := fun p => ht.mem_iff.trans (loop_cn hf hx hL p)
  have hnd : t.Nodup := ht.nodup_iff.mpr hL.nd
  have hxt : x ∈ t := ht.mem_iff.mpr hL.mem
  unfold pureB
  rw [Bool.and_eq_true, decide_eq_true_iff, List.all_eq_true]
  refine and_congr ⟨fun h => ?_, fun h => ?_⟩ ⟨fun h p hp hc => of_decide_eq_true (h p ((hm p).mpr ⟨hp, hc⟩)), fun h p hp => decide_eq_true (h p ((hm p).mp hp).1 ((hm p).mp hp).2)⟩
  · have h1 : (t.erase x).length = t.length - 1 := List.length_erase_of_mem hxt
    have h2 : 0 < (t.erase x).length := by omega
    obtain ⟨p, hp⟩ := List.exists_mem_of_length_pos h2
    obtain ⟨p1, p2⟩ := (hnd.mem_erase_iff).mp hp
    exact ⟨p, ((hm p).mp p2).1, p1, ((hm p).mp p2).2⟩
  · obtain ⟨p, h1, h2, h3⟩ := h
    have h4 : p ∈ t.erase x := (hnd.mem_erase_iff).mpr ⟨h2, (hm p).mpr ⟨h1, h3⟩⟩
    have h5 := List.length_pos_of_mem h4
    rw [List.length_erase_of_mem hxt] at h5; omega
theorem Lo.count {n : Nat} {f : List Nat} (hf : IsPair (2 * n) f) {i : Nat} {ls : List (List Nat)} (h : Lo f n i ls) : i ≤ n → (∀ y, y ∈ ls.flatten ↔ y < n ∧ ∃ j, j < i ∧ Cn (eL n f) j y) ∧ ls.length = cnt i (Lst1 (eL n f)) ∧ (ls.filter (pureB f n)).length = cnt i (fun x => Lst1 (eL n f) x ∧ Pu n f x) := by
  induction h with
  | zero => intro _; exact ⟨fun y => ⟨fun h => absurd h List.not_mem_nil, fun ⟨_, j, hj, _⟩ => absurd hj (Nat.not_lt_zero _)⟩, rfl, rfl⟩
  | @skip i ls _ hm ih =>
    intro hi
    obtain ⟨h1, h2, h3⟩ := ih (by omega)
    obtain ⟨_, j0, hj0, c0⟩ := (h1 i).mp hm
    refine ⟨fun y => ⟨fun h => by obtain ⟨hy, j, hj, c⟩ := (h1 y).mp h; exact ⟨hy, j, by omega, c⟩, fun ⟨hy, j, hj, c⟩ => ?_⟩, ?_, ?_⟩
    · by_cases e : j = i
      · exact (h1 y).mpr ⟨hy, j0, hj0, c0.trans (by rw [← e]; exact c)⟩
      · exact (h1 y).mpr ⟨hy, j, by omega, c⟩
    · rw [cnt_neg (fun z => z j0 hj0 c0)]; exact h2
    · rw [cnt_neg (fun z => z.1 j0 hj0 c0)]; exact h3
  | @new i ls ps t _ hn hL hp _ ih =>
    intro hi
    obtain ⟨h1, h2, h3⟩ := ih (by omega)
    have hin : i < n := by omega
    have hl := loop_cn hf hin hL
    have hLs : Lst1 (eL n f) i := fun y hy c => hn ((h1 i).mpr ⟨hin, y, hy, c⟩)
    refine ⟨fun y => ?_, ?_, ?_⟩
    · rw [flat_snoc, List.mem_append, h1 y, hp.mem_iff, hl y]
      exact ⟨fun h => by
        rcases h with ⟨hy, j, hj, c⟩ | ⟨hy, c⟩
        · exact ⟨hy, j, by omega, c⟩
        · exact ⟨hy, i, by omega, c⟩, fun ⟨hy, j, hj, c⟩ => by
        by_cases e : j = i
        · rw [e] at c; exact .inr ⟨hy, c⟩
        · exact .inl ⟨hy, j, by omega, c⟩⟩
    · rw [List.length_append, h2, cnt_pos hLs]; rfl
    · rw [List.filter_append, List.length_append, h3]
      by_cases c : pureB f n t = true
      · rw [List.filter_cons_of_pos c, List.filter_nil, cnt_pos ⟨hLs, (pureB_iff hf hin hL hp).mp c⟩]; rfl
      · rw [List.filter_cons_of_neg c, List.filter_nil, cnt_neg (fun z => c ((pureB_iff hf hin hL hp).mpr z.2))]; rfl
theorem nc_LL {n : Nat} {f : List Nat} : nc (2 * n) (eL n f) = LL n f := by
  show cnt (2 * n) (Lst1 (eL n f)) = cnt n (Lst1 (eL n f))
  rw [show 2 * n = n + n by omega]
  exact cnt_more n fun x h1 h2 h => h (x - n) (by omega) (by
    have := eL_tie (n := n) (f := f) (x := x) (by omega)
    unfold oth at this; rw [if_neg (by omega)] at this; exact this.symm)
theorem LL_le {n : Nat} {f : List Nat} : LL n f ≤ n := by
  have := cnt_le (n := n) (p := fun _ => True) (q := Lst1 (eL n f)) (fun _ _ _ => trivial)
  rw [cnt_all (fun _ _ => trivial)] at this; exact this
theorem away2 {E : Nat → Nat → Prop} {p q r s z t : Nat} (hp : ¬ Cn E z p) (hq : ¬ Cn E z q) (hr : ¬ Cn E z r) (hs : ¬ Cn E z s) (h : Cn (Ad p q (Ad r s E)) z t) : Cn E z t := by
  have one : ∀ {w}, Cn (Ad r s E) z w → Cn E z w := fun {w} h => by
    rcases cn_ad h with h | ⟨h, _⟩ | ⟨h, _⟩
    · exact h
    · exact absurd h hr
    · exact absurd h hs
  rcases cn_ad h with h | ⟨h, _⟩ | ⟨h, _⟩
  · exact one h
  · exact absurd (one h) hp
  · exact absurd (one h) hq
open Classical in
/-- a class with a lower pair is not pure -/
theorem low_not_pure {n : Nat} {f : List Nat} {p z : Nat} (hf : IsPair (2 * n) f) (hp : p < n) (hz : n ≤ z) (hz2 : z < 2 * n) (hfz : n ≤ f.getD z 0) (hc : Cn (eL n f) p z) : ¬ Pu n f p := by
  intro ⟨_, hP⟩
  obtain ⟨S, hS⟩ : ∃ S, S = (List.range n).filter fun q => decide (Cn (eL n f) p q) := ⟨_, rfl⟩
  have nd : S.Nodup := by rw [hS]; exact List.nodup_range.filter _
  have mem : ∀ q, q ∈ S ↔ q < n ∧ Cn (eL n f) p q := fun q => by rw [hS, List.mem_filter, List.mem_range, decide_eq_true_iff]
  have dn : ∀ {w}, n ≤ w → w < 2 * n → Cn (eL n f) w (w - n) := fun {w} h1 h2 => by
    have := eL_tie (n := n) (f := f) h2
    unfold oth at this; rw [if_neg (by omega)] at this; exact this
  have inj : ∀ q ∈ S, ∀ q' ∈ S, f.getD q 0 - n = f.getD q' 0 - n → q = q' := fun q hq q' hq' e => by
    obtain ⟨a1, a2⟩ := (mem q).mp hq
    obtain ⟨b1, b2⟩ := (mem q').mp hq'
    have x1 := hP q a1 a2
    have x2 := hP q' b1 b2
    have e2 : f.getD q 0 = f.getD q' 0 := by omega
    have := (hf.d (show q < 2 * n by omega)).2.2.1
    rw [e2, (hf.d (show q' < 2 * n by omega)).2.2.1] at this; exact this.symm
  have hz' : z - n ∈ S.map (fun q => f.getD q 0 - n) := by
    rcases Classical.em (z - n ∈ S.map (fun q => f.getD q 0 - n)) with h | h
    · exact h
    · exfalso
      have ndm : ∀ (l : List Nat), l.Nodup → (∀ q ∈ l, ∀ q' ∈ l, f.getD q 0 - n = f.getD q' 0 - n → q = q') → (l.map (fun q => f.getD q 0 - n)).Nodup := fun l => by
        induction l with
        | nil => intro _ _; exact List.nodup_nil
        | cons x l ih =>
          intro hd hi
          have hd' := List.nodup_cons.mp hd
          refine List.nodup_cons.mpr ⟨fun hm => ?_, ih hd'.2 (fun q hq q' hq' => hi q (List.mem_cons_of_mem _ hq) q' (List.mem_cons_of_mem _ hq'))⟩
          obtain ⟨q, hq, e⟩ := List.mem_map.mp hm
          have := hi q (List.mem_cons_of_mem _ hq) x List.mem_cons_self e
          exact hd'.1 (by rw [← this]; exact hq)
      have h1 := nd_sub ((z - n) :: S.map (fun q => f.getD q 0 - n)) S (List.nodup_cons.mpr ⟨h, ndm S nd inj⟩) (fun y hy => by
        rcases List.mem_cons.mp hy with e | hy
        · rw [e]; exact (mem _).mpr ⟨by omega, hc.trans (dn hz hz2)⟩
        · obtain ⟨q, hq, rfl⟩ := List.mem_map.mp hy
          obtain ⟨a1, a2⟩ := (mem q).mp hq
          have x1 := hP q a1 a2
          have x2 := (hf.d (show q < 2 * n by omega)).1
          exact (mem _).mpr ⟨by omega, (a2.trans (eL_f (by omega))).trans (dn x1 x2)⟩)
      rw [List.length_cons, List.length_map] at h1; omega
  obtain ⟨q, hq, e⟩ := List.mem_map.mp hz'
  obtain ⟨a1, a2⟩ := (mem q).mp hq
  have x1 := hP q a1 a2
  have e2 : f.getD q 0 = z := by omega
  have := (hf.d (show q < 2 * n by omega)).2.2.1
  rw [e2] at this; omega
theorem call_fewest {n : Nat} {f f' : List Nat} {x y : Nat} (hf : IsPair (2 * n) f) (hf' : IsPair (2 * n) f') (hn : 0 < n) (hx : n ≤ x) (hy : n ≤ y) (h : Cald (2 * n) f f' x y) : 2 * PP n f' + LL n f ≤ 2 * PP n f + LL n f' + 1 := by
  have hb := emp_pair hn
  have old := ed_old (b := emp n) hf h.hx h.hy
  have new := ed_new (b := emp n) hf h
  have cn := call_nc hf hb h
  rw [nc_LL, nc_LL] at cn
  obtain ⟨E0, hE0⟩ : ∃ E0, E0 = e0 (2 * n) f (emp n) x (f.getD x 0) y (f.getD y 0) := ⟨_, rfl⟩
  have alone := fun w hw => not_alone (w := w) hf hb h.hx h.hy rfl rfl hw
  rw [← hE0] at old new alone
  have toN : ∀ {p q}, Cn E0 p q → Cn (eL n f') p q := fun {p q} c => (new p q).mpr c.up.up
  have xy : Cn (eL n f') x y := (new x y).mpr (.one (.inl (.inr ⟨rfl, rfl⟩)))
  have uv : Cn (eL n f') (f.getD x 0) (f.getD y 0) := (new _ _).mpr (.one (.inl (.inl (.inr ⟨rfl, rfl⟩))))
  -- who is away from the four
  have away : ∀ p, ¬ Cn (eL n f') p x → ¬ Cn (eL n f') p (f.getD x 0) → (∀ q, Cn (eL n f) p q ↔ Cn (eL n f') p q) ∧ ∀ q, Cn (eL n f') p q → q ≠ x ∧ q ≠ f.getD x 0 ∧ q ≠ y ∧ q ≠ f.getD y 0 := fun p n1 n2 => by
    have n3 : ¬ Cn (eL n f') p y := fun c => n1 (c.trans xy.symm)
    have n4 : ¬ Cn (eL n f') p (f.getD y 0) := fun c => n2 (c.trans uv.symm)
    refine ⟨fun q => ⟨fun c => toN (away2 (fun c => n1 (toN c)) (fun c => n2 (toN c)) (fun c => n3 (toN c)) (fun c => n4 (toN c)) ((old p q).mp c)), fun c => (old p q).mpr ((away2 (fun c => n1 (toN c)) (fun c => n3 (toN c)) (fun c => n2 (toN c)) (fun c => n4 (toN c)) ((new p q).mp c)).up.up)⟩, fun q c => ⟨fun e => n1 (by rw [← e]; exact c), fun e => n2 (by rw [← e]; exact c), fun e => n3 (by rw [← e]; exact c), fun e => n4 (by rw [← e]; exact c)⟩⟩
  have notx : ∀ p, p < n → Pu n f' p → ¬ Cn (eL n f') p x := fun p hp hP c => low_not_pure hf' hp hx h.hx (by rw [h.tx]; exact hy) c hP
  have keep : ∀ p, p < n → Lst1 (eL n f') p → Pu n f' p → ¬ Cn (eL n f') p (f.getD x 0) → Lst1 (eL n f) p ∧ Pu n f p := fun p hp hl hP nu => by
    obtain ⟨a1, a2⟩ := away p (notx p hp hP) nu
    refine ⟨fun z hz c => hl z hz ((a1 z).mp c.symm).symm, ?_, fun q hq c => ?_⟩
    · obtain ⟨q, q1, q2, q3⟩ := hP.1
      exact ⟨q, q1, q2, (a1 q).mpr q3⟩
    · have c' := (a1 q).mp c
      obtain ⟨b1, b2, b3, b4⟩ := a2 q c'
      have := hP.2 q hq c'
      rw [h.el q (by omega) b1 b2 b3 b4] at this; exact this
  have le1 : PP n f' ≤ PP n f + 1 := cnt_one fun p q hp hq a b c d => by
    have up : Cn (eL n f') p (f.getD x 0) := Classical.byContradiction fun z => b (keep p hp a.1 a.2 z)
    have uq : Cn (eL n f') q (f.getD x 0) := Classical.byContradiction fun z => d (keep q hq c.1 c.2 z)
    exact lst_uniq a.1 c.1 (up.trans uq.symm)
  rcases Classical.em (∃ p, p < n ∧ (Lst1 (eL n f') p ∧ Pu n f' p) ∧ ¬ (Lst1 (eL n f) p ∧ Pu n f p)) with ⟨p, hp, ⟨p1, p2⟩, p3⟩ | hno
  · have up : Cn (eL n f') p (f.getD x 0) := Classical.byContradiction fun z => p3 (keep p hp p1 p2 z)
    have ux : ¬ Cn (eL n f') x (f.getD x 0) := fun c => notx p hp p2 (up.trans c.symm)
    have c1 : Cn E0 x y := by
      obtain ⟨w', hw, nw, c⟩ := alone x (.inl rfl)
      rcases hw with e | e | e | e
      · exact absurd e nw
      · rw [e] at c; exact absurd (toN c) ux
      · rw [e] at c; exact c
      · rw [e] at c; exact absurd ((toN c).trans uv.symm) ux
    have c2 : Cn E0 (f.getD x 0) (f.getD y 0) := by
      obtain ⟨w', hw, nw, c⟩ := alone (f.getD x 0) (.inr (.inl rfl))
      rcases hw with e | e | e | e
      · rw [e] at c; exact absurd (toN c).symm ux
      · exact absurd e nw
      · rw [e] at c; exact absurd (xy.trans (toN c).symm) ux
      · rw [e] at c; exact c
    have c3 : ¬ Cn E0 y (f.getD y 0) := fun c => ux ((xy.trans (toN c)).trans uv.symm)
    have k1 : nc (2 * n) (eL n f') = nc (2 * n) E0 := by
      rw [nc_congr new, nc_ad_eq c1.up, nc_ad_eq c2]
    have k2 : nc (2 * n) (eL n f) + 1 = nc (2 * n) E0 := by
      have c4 : Cn (Ad y (f.getD y 0) E0) x (f.getD x 0) := (c1.up.trans (.one (.inl (.inr ⟨rfl, rfl⟩)))).trans c2.up.symm
      rw [nc_congr old, nc_ad_eq c4]
      exact nc_ad_lt h.hy (hf.d h.hy).1 c3
    rw [nc_LL] at k1 k2
    omega
  · have le2 : PP n f' ≤ PP n f := cnt_le fun p hp hP => Classical.byContradiction fun z => hno ⟨p, hp, hP, z⟩
    omega
theorem emp_cn {n x z : Nat} (hx : x < 2 * n) (h : Cn (eL n (emp n)) x z) : z < 2 * n ∧ z % n = x % n := by
  induction h with
  | refl => exact ⟨hx, rfl⟩
  | step _ e ih =>
    rcases e with ⟨h1, e | e⟩ | ⟨h1, e | e⟩
    · rw [e, oth_emp h1]; exact ⟨oth_lt h1, by rw [oth_mod h1]; exact ih.2⟩
    · rw [e, oth_emp h1]; exact ⟨oth_lt h1, by rw [oth_mod h1]; exact ih.2⟩
    · rw [oth_emp h1] at e; exact ⟨h1, by rw [← ih.2, e, oth_mod h1]⟩
    · rw [oth_emp h1] at e; exact ⟨h1, by rw [← ih.2, e, oth_mod h1]⟩
theorem LL_emp {n : Nat} : LL n (emp n) = n := cnt_all fun x hx y hy c => by
  have := (emp_cn (by omega) c).2
  rw [Nat.mod_eq_of_lt hx, Nat.mod_eq_of_lt (show y < n by omega)] at this; omega
theorem PP_emp {n : Nat} : PP n (emp n) = 0 := cnt_none fun x hx ⟨_, ⟨p, p1, p2, p3⟩, _⟩ => by
  have := (emp_cn (by omega) p3).2
  rw [Nat.mod_eq_of_lt hx, Nat.mod_eq_of_lt p1] at this; exact p2 this
end Pc
namespace Pc
open PySem PySem.Spec PyProof.Rows L2 RZ
theorem jn_getD {n : Nat} {f : List Nat} (hf : IsPair n f) {a b : Nat} (hab : a ≠ b) (ha : a < n) (hb : b < n) (hc : f.getD a 0 ≠ b) {z : Nat} (hz : z < n) :
    (jn f a b).getD z 0 = if z = a then b else if z = b then a else if z = f.getD a 0 then f.getD b 0 else if z = f.getD b 0 then f.getD a 0 else f.getD z 0 := by
  have e := jn_get hf hab (hf.d ha).2.2.2 (hf.d hb).2.2.2 hc z
  rw [List.getD_eq_getElem?_getD, e]
  split
  · rfl
  · split
    · rfl
    · split
      · rfl
      · split
        · rfl
        · rw [List.getD_eq_getElem?_getD]
theorem jn_cald {n : Nat} {f : List Nat} (hf : IsPair n f) {a b : Nat} (hab : a ≠ b) (ha : a < n) (hb : b < n) (hc : f.getD a 0 ≠ b) : Cald n f (jn f a b) a b := by
  obtain ⟨a1, a2, a3, a4⟩ := hf.d ha
  obtain ⟨b1, b2, b3, b4⟩ := hf.d hb
  obtain ⟨x1, x2, x3, x4, _, _, _, _⟩ := four hf hab a4 b4 hc
  have g := fun {z : Nat} (hz : z < n) => jn_getD hf hab ha hb hc hz
  refine ⟨ha, hb, hab, hc, ?_, ?_, ?_, ?_, fun z hz z1 z2 z3 z4 => ?_⟩
  · rw [g ha, if_pos rfl]
  · rw [g hb, if_neg hab.symm, if_pos rfl]
  · rw [g a1, if_neg x1, if_neg hc, if_pos rfl]
  · rw [g b1, if_neg x3, if_neg x2, if_neg (Ne.symm x4), if_pos rfl]
  · rw [g hz, if_neg z1, if_neg z3, if_neg z2, if_neg z4]
theorem word_fewest {n : Nat} {qs : List (Nat × Nat)} (hn : 0 < n) (h : Calls n qs) : ∀ i, i ≤ qs.length → n + 2 * PP n (shw n (qs.take i) (emp n)) ≤ i + LL n (shw n (qs.take i) (emp n))
  | 0, _ => by
    rw [List.take_zero]
    show n + 2 * PP n (emp n) ≤ 0 + LL n (emp n)
    rw [PP_emp, LL_emp]; omega
  | i + 1, hi => by
    have ih := word_fewest hn h i (by omega)
    obtain ⟨q, hq⟩ : ∃ q, qs[i]? = some q := ⟨_, List.getElem?_eq_getElem (by omega)⟩
    have hc := h q (List.mem_of_getElem? hq)
    have hP := shw_pair (n := n) (emp_pair hn) (fun r hr => h r (List.mem_of_mem_take (i := i) hr))
    rw [shw_take hq]
    revert ih hP
    generalize shw n (qs.take i) (emp n) = f
    intro ih hP
    by_cases e : f.getD (n + q.1) 0 = n + q.2
    · have : jn f (n + q.1) (n + q.2) = f := by unfold jn; rw [if_pos e]
      rw [this]; omega
    · have hab : n + q.1 ≠ n + q.2 := by omega
      have := call_fewest hP (jn_pair hP hab (by omega) (by omega)) hn (by omega) (by omega) (jn_cald hP hab (by omega) (by omega) e)
      omega
theorem word_fewest' {n : Nat} {qs : List (Nat × Nat)} (hn : 0 < n) (h : Calls n qs) : n + 2 * PP n (shw n qs (emp n)) ≤ qs.length + LL n (shw n qs (emp n)) := by
  have := word_fewest hn h qs.length (Nat.le_refl _)
  rwa [List.take_length] at this
/-- a word has a lower pair, or it is empty -/
theorem word_low {n : Nat} {qs : List (Nat × Nat)} (hn : 0 < n) (h : Calls n qs) : qs = [] ∨ ∃ a b, a < b ∧ b < n ∧ (shw n qs (emp n)).getD (n + a) 0 = n + b := by
  by_cases e : qs = []
  · exact .inl e
  · refine .inr ?_
    obtain ⟨q, hq⟩ : ∃ q, qs[qs.length - 1]? = some q := ⟨_, List.getElem?_eq_getElem (by have := List.length_pos_iff.mpr e; omega)⟩
    have hc := h q (List.mem_of_getElem? hq)
    have hl := List.length_pos_iff.mpr e
    have hP := shw_pair (n := n) (emp_pair hn) (fun r hr => h r (List.mem_of_mem_take (i := qs.length - 1) hr))
    have e1 := shw_take (n := n) (fs := emp n) hq
    rw [show qs.length - 1 + 1 = qs.length by omega, List.take_length] at e1
    refine ⟨q.1, q.2, hc.1, hc.2, ?_⟩
    rw [e1]
    by_cases c : (shw n (qs.take (qs.length - 1)) (emp n)).getD (n + q.1) 0 = n + q.2
    · unfold jn; rw [if_pos c]; exact c
    · exact (jn_cald hP (by omega) (by omega) (by omega) c).tx
end Pc
namespace Pc
open PySem PySem.Spec PyProof.Rows L2 RZ
section
variable {P : Program} {w : World} {K : PySem.W.Frag} {mg : Str → Option Value} {base : Heap}
/-! ### which sheets have a word; the fewest calls -/
def hasW (f : List Nat) (n : Nat) : Bool := !(los f n).isEmpty || decide (f = emp n)
theorem eqv_prs0 (qs : List (Nat × Nat)) : PyData.eqv (.list (qs.map pd)) (.list []) = qs.isEmpty := by
  cases qs with
  | nil => simp [PyData.eqv, PyData.eqvAll]
  | cons q r => simp [PyData.eqv, PyData.eqvAll]
theorem eqv_nd : ∀ f g : List Nat, PyData.eqvAll (nd f) (nd g) = decide (f = g)
  | [], [] => by simp [nd, PyData.eqvAll]
  | [], _ :: _ => by simp [nd, PyData.eqvAll]
  | _ :: _, [] => by simp [nd, PyData.eqvAll]
  | x :: f, y :: g => by
    show PyData.eqvAll (.int (x : Int) :: nd f) (.int (y : Int) :: nd g) = _
    rw [PyData.eqvAll, eqv_nd f g, PyData.eqv]
    by_cases c : x = y
    · subst c; by_cases d : f = g
      · subst d; simp
      · simp [d]
    · have : ¬ ((x : Int) = (y : Int)) := fun z => c (by omega)
      simp [c, this]
theorem eqv_td (f g : List Nat) : PyData.eqv (td f) (td g) = decide (f = g) := by
  show PyData.eqv (.tuple (nd f)) (.tuple (nd g)) = _
  rw [PyData.eqv]; exact eqv_nd f g
theorem los_bound {f : List Nat} {n : Nat} (hf : IsPair (2 * n) f) (hn : n ≤ 60) : (los f n).length ≤ 1000 ∧ ∀ p ∈ los f n, p.1 < 2 ^ 60 ∧ p.2 < 2 ^ 60 := by
  refine ⟨?_, fun p hp => by obtain ⟨_, h1, h2⟩ := los_mem hf hp; omega⟩
  unfold los selN
  rw [List.length_map]
  have := List.length_filter_le (loC f n) (List.range n)
  rw [List.length_range] at this; omega
def spHasWord (K : PySem.W.Frag) : Sp := fun vs H Q _ => ∃ (a : Addr) (f : List Nat) (n : Nat), vs = [.ref a] ∧ Sq K H a (nv f) ∧ IsPair (2 * n) f ∧ 0 < n ∧ n ≤ 50 ∧ ∀ H', Same H H' → Q (.bl (hasW f n)) H'
theorem ok_p_has_word (T : Env K mg) : FnOk P w K mg base CX0 3 T.f_p_has_word T.d_p_has_word ["sheet"] (spHasWord K) := by
  have G0 : FnOk P w K mg base CX0 1 T.f_p_people_of T.d_p_people_of ["sheet"] (spPeople K) := ok_p_people_of T
  have GE : FnOk P w K mg base CX0 1 T.f_p_empty_sheet T.d_p_empty_sheet ["size"] spEmpty := ok_p_empty_sheet T
  have GL : FnOk P w K mg base CX0 2 T.f_p_lower_pairs T.d_p_lower_pairs ["sheet"] (spPairs K los) := ok_p_lower_pairs T
  refine T.F_p_has_word.ok sc_p_has_word (fun vs H Q E h => ?_) (fun cdv A outer s H vs Q E hr h => ?_)
  · obtain ⟨a, f, n, rfl, _⟩ := h
    rfl
  · obtain ⟨a, f, n, rfl, ha, hf, h0, hn, q⟩ := h
    have h1 := hr.mono (show 1 ≤ 2 by decide)
    refine ⟨_, pss_one (ps_ret (pe_or (pe_cmpR (op_neD hr.units) (pe_call GL hr (by rfl) T.g_p_lower_pairs T.F_p_lower_pairs.kp T.b_p_lower_pairs .nil pass0 (pa_cons (pv 0) pa_nil)) (pe_lst pa_nil) (nomark _))
      (pe_one (pe_cmpR (op_eqD hr.units) (pe_callTy call_tuple_of (by rfl) T.n_tuple (by decide +kernel) (pa_cons (pv 0) pa_nil)) (pe_call GE h1 (by rfl) T.g_p_empty_sheet T.F_p_empty_sheet.kp T.b_p_empty_sheet .nil pass0 (pa_cons (pe_call G0 h1 (by rfl) T.g_p_people_of T.F_p_people_of.kp T.b_p_people_of .nil pass0 (pa_cons (pv 0) pa_nil)) pa_nil)) (nomark _))))), ?_⟩
    refine ⟨.ref a, rfl, a, f, n, rfl, ha, hf, by omega, fun H1 p as s1 np ep hA => ⟨by show 0 ≤ sizeLine; decide, fun e ne => ?_⟩⟩
    have s2 : Same H1 (upd H1 e (.lst [])) := same_new ne
    have ee : (upd H1 e (.lst [])) e = some (.lst []) := upd_same
    have ep2 := s2 _ _ ep
    have hA2 := prs_same s2 hA
    revert s2 ee ep2 hA2
    generalize upd H1 e (.lst []) = H2
    intro s2 ee ep2 hA2
    have fk : Fi 2 (.list ((los f n).map pd)) := fi_prs (los_bound hf (by omega))
    refine ⟨_, _, .lst (.inl (.inl ep2)) (prs_dp hA2), .lst (.inl (.inl ee)) .nil, fk.sh, rfl, _, rfl, ?_⟩
    rw [eqv_prs0]
    refine ite2 (fun c => ?_) (fun c => ?_)
    · have : hasW f n = (!(los f n).isEmpty) := by unfold hasW; rw [c]; rfl
      show Q (.bl true) H2
      rw [← this.trans c]; exact q _ (s1.trans s2)
    · have hc : (!(los f n).isEmpty) = false := Bool.eq_false_iff.mpr c
      have ehas : hasW f n = decide (f = emp n) := by unfold hasW; rw [hc, Bool.false_or]
      have fin : ∀ {H3 : Hp} {t : Addr}, Same H H3 → SqT K H3 t (nv f) → ∀ (H4 : Hp) (u : Addr), Same H3 H4 → H4 u = some (.tup (nv (emp n))) → ∃ d e, Dp K H4 (.ref t) d ∧ Dp K H4 (.ref u) e ∧ SeqAt.shaped d = true ∧ SeqAt.shaped e = true ∧ Q (.bl (PyData.eqv d e)) H4 := fun {H3 t} s3 ht H4 u s4 eu => by
        refine ⟨_, _, .tup (same_tup s4 ht) (dp_nats _), .tup (.inl (.inl eu)) (dp_nats _), (fi_tup hf (by omega)).sh, (fi_tup (emp_pair h0) (by omega)).sh, ?_⟩
        have e1 : PyData.eqv (.tuple (nd f)) (.tuple (nd (emp n))) = hasW f n := by rw [ehas]; exact eqv_td _ _
        rw [e1]; exact q _ (s3.trans s4)
      have ha2 := ha.same (s1.trans s2)
      refine ⟨_, rfl, a, nv f, rfl, ?_⟩
      rcases ha2 with hL | hT
      · refine .inl ⟨hL, fun t nt => ?_⟩
        have s3 := (s1.trans s2).trans (same_new (o := .tup (nv f)) nt)
        refine ⟨.ref a, rfl, a, f, n, rfl, ha.same s3, hf.len, n, rfl, by omega, fun H4 u s4 nu eu => ?_⟩
        exact fin s3 (.inl (.inl upd_same)) H4 u s4 eu
      · refine .inr ⟨hT, ?_⟩
        refine ⟨.ref a, rfl, a, f, n, rfl, ha.same (s1.trans s2), hf.len, n, rfl, by omega, fun H4 u s4 nu eu => ?_⟩
        exact fin (s1.trans s2) hT H4 u s4 eu
def spFewest (K : PySem.W.Frag) : Sp := fun vs H Q _ => ∃ (a : Addr) (f : List Nat) (n : Nat), vs = [.ref a] ∧ Sq K H a (nv f) ∧ IsPair (2 * n) f ∧ 0 < n ∧ n ≤ 50 ∧ hasW f n = true ∧
  ∀ (H' : Hp) (ls : List (List Nat)), Lo f n n ls → Same H H' → Q (.int ((n : Int) - (ls.length : Nat) + 2 * ((ls.filter (pureB f n)).length : Nat))) H'
theorem ok_p_fewest_calls (T : Env K mg) : FnOk P w K mg base CX0 5 T.f_p_fewest_calls T.d_p_fewest_calls ["sheet"] (spFewest K) := by
  have G0 : FnOk P w K mg base CX0 1 T.f_p_people_of T.d_p_people_of ["sheet"] (spPeople K) := ok_p_people_of T
  have GH : FnOk P w K mg base CX0 3 T.f_p_has_word T.d_p_has_word ["sheet"] (spHasWord K) := ok_p_has_word T
  have GL : FnOk P w K mg base CX0 3 T.f_p_loops T.d_p_loops ["sheet"] (spLoops K) := ok_p_loops T
  have GU : FnOk P w K mg base CX0 4 T.f_p_pure_loops T.d_p_pure_loops ["sheet"] (spPureL K) := ok_p_pure_loops T
  refine T.F_p_fewest_calls.ok sc_p_fewest_calls (fun vs H Q E h => ?_) (fun cdv A outer s H vs Q E hr h => ?_)
  · obtain ⟨a, f, n, rfl, _⟩ := h
    rfl
  · obtain ⟨a, f, n, rfl, ha, hf, h0, hn, hw, q⟩ := h
    have h1 := hr.mono (show 1 ≤ 4 by decide)
    have h3 := hr.mono (show 3 ≤ 4 by decide)
    refine ⟨_, pss_cons (ps_if (pt_not (pt_val (pe_call GH h3 (by rfl) T.g_p_has_word T.F_p_has_word.kp T.b_p_has_word .nil pass0 (pa_cons (pv 0) pa_nil)))) pss_never pss_nil) <|
      pss_one (ps_ret (pe_op op_add (pe_op op_sub (pe_call G0 h1 (by rfl) T.g_p_people_of T.F_p_people_of.kp T.b_p_people_of .nil pass0 (pa_cons (pv 0) pa_nil)) (pe_callB call_len_seq (by rfl) T.n_len PySem.boot_len (pa_cons (pe_call GL h3 (by rfl) T.g_p_loops T.F_p_loops.kp T.b_p_loops .nil pass0 (pa_cons (pv 0) pa_nil)) pa_nil)))
        (pe_op op_mul pe_int (pe_callB call_len_seq (by rfl) T.n_len PySem.boot_len (pa_cons (pe_call GU hr (by rfl) T.g_p_pure_loops T.F_p_pure_loops.kp T.b_p_pure_loops .nil pass0 (pa_cons (pv 0) pa_nil)) pa_nil))))), ?_⟩
    refine ⟨.ref a, rfl, a, f, n, rfl, ha, hf, h0, hn, fun H1 s1 => ⟨true, by rw [hw], iteN ?_⟩⟩
    have ha1 := ha.same s1
    refine ⟨.ref a, rfl, a, f, n, rfl, ha1, hf.len, .ref a, rfl, a, f, n, rfl, ha1, hf, by omega, fun H2 t as ls hL s2 nt et hT => ?_⟩
    refine ⟨t, _, rfl, .inl (.inl (.inl et)), _, _, rfl, rfl, .ref a, rfl, a, f, n, rfl, ha1.same s2, hf, by omega, fun H3 u bs ms hM s3 nu eu hU => ?_⟩
    have hb := hL.bound
    rw [hM.det hL] at hU
    have hbl : (ls.filter (pureB f n)).length ≤ n := Nat.le_trans (List.length_filter_le _ _) hb.1
    refine ⟨u, _, rfl, .inl (.inl (.inl eu)), _, _, rfl, rfl, ?_, _, _, rfl, rfl, ?_⟩
    · rw [List.length_map, hU.length]; exact .inl ⟨by omega, by omega⟩
    · show Q (.int (((n : Int) - ((as.map V.ref).length : Nat)) + 2 * ((bs.map V.ref).length : Nat))) H3
      rw [List.length_map, List.length_map, hT.length, hU.length]
      exact q H3 ls hL ((s1.trans s2).trans s3)
end
end Pc
namespace Pc
/-! ### a sheet again and again: what stays -/
theorem folU {f g : List Nat} {n x : Nat} (hx : x < n) (h : f.getD x 0 < n) : (fol f g n).getD x 0 = f.getD x 0 := by
  have w : Ends (cstep f g n n) (cst n n x) (f.getD x 0) := by unfold cst; rw [if_pos hx]; exact .stop (cs_tl h)
  show (cmp f g n n n).getD x 0 = _
  rw [cmp_d _ _ (by omega), cfar_is w]
theorem folL {f g : List Nat} {n x : Nat} (hx : x < n) (h : n ≤ g.getD (n + x) 0) : (fol f g n).getD (n + x) 0 = g.getD (n + x) 0 := by
  have w : Ends (cstep f g n n) (cst n n (n + x)) (n + (g.getD (n + x) 0 - n)) := by unfold cst; rw [if_neg (by omega), show n + (n + x - n) = n + x by omega]; exact .stop (cs_fg h)
  show (cmp f g n n n).getD (n + x) 0 = _
  rw [cmp_d _ _ (by omega), cfar_is w]; omega
/-- the same lower pairs -/
def SLo (n : Nat) (a b : List Nat) : Prop := ∀ x, x < n → (n ≤ a.getD (n + x) 0 ∨ n ≤ b.getD (n + x) 0) → a.getD (n + x) 0 = b.getD (n + x) 0
theorem SLo.refl {n : Nat} {a : List Nat} : SLo n a a := fun _ _ _ => rfl
theorem SLo.symm {n : Nat} {a b : List Nat} (h : SLo n a b) : SLo n b a := fun x hx c => (h x hx c.symm).symm
theorem SLo.trans {n : Nat} {a b c : List Nat} (h : SLo n a b) (g : SLo n b c) : SLo n a c := fun x hx k => by
  rcases k with k | k
  · have e := h x hx (.inl k)
    rw [e, g x hx (.inl (by rw [← e]; exact k))]
  · have e := g x hx (.inr k)
    rw [h x hx (.inr (by rw [e]; exact k)), e]
theorem slo_ends {a b g : List Nat} {n : Nat} (h : SLo n a b) {s : Bool × Nat} {y : Nat} (w : Ends (cstep a g n n) s y) : (s.1 = true → n ≤ s.2 ∧ s.2 < 2 * n) →
    (n ≤ y → Ends (cstep b g n n) s y) ∧ (y < n → ∃ y', y' < n ∧ Ends (cstep b g n n) s y') := by
  induction w with
  | @stop s y e =>
    intro hs
    obtain ⟨t, z⟩ := s
    cases t with
    | false =>
      by_cases c : g.getD z 0 < n
      · rw [cs_fl c] at e; cases e
      · rw [cs_fg (by omega)] at e
        have ey := Sum.inr.inj e
        exact ⟨fun _ => .stop (by rw [cs_fg (by omega), ey]), fun hy => by omega⟩
    | true =>
      obtain ⟨h1, h2⟩ := hs rfl
      replace h1 : n ≤ z := h1
      replace h2 : z < 2 * n := h2
      by_cases c : a.getD z 0 < n
      · rw [cs_tl c] at e
        have ey := Sum.inr.inj e
        have c' : b.getD z 0 < n := by
          by_cases c' : b.getD z 0 < n
          · exact c'
          · have := h (z - n) (by omega) (.inr (by rw [show n + (z - n) = z by omega]; omega))
            rw [show n + (z - n) = z by omega] at this; omega
        exact ⟨fun hy => by omega, fun _ => ⟨_, c', .stop (cs_tl c')⟩⟩
      · rw [cs_tg (by omega)] at e; cases e
  | @go s t y e _ ih =>
    intro hs
    obtain ⟨u, z⟩ := s
    cases u with
    | false =>
      by_cases c : g.getD z 0 < n
      · rw [cs_fl c] at e
        have et := Sum.inl.inj e
        subst et
        obtain ⟨i1, i2⟩ := ih fun _ => ⟨by show n ≤ n + _; omega, by show n + _ < 2 * n; omega⟩
        exact ⟨fun hy => .go (cs_fl c) (i1 hy), fun hy => by obtain ⟨y', h1, h2⟩ := i2 hy; exact ⟨y', h1, .go (cs_fl c) h2⟩⟩
      · rw [cs_fg (by omega)] at e; cases e
    | true =>
      obtain ⟨h1, h2⟩ := hs rfl
      replace h1 : n ≤ z := h1
      replace h2 : z < 2 * n := h2
      by_cases c : a.getD z 0 < n
      · rw [cs_tl c] at e; cases e
      · rw [cs_tg (by omega)] at e
        have et := Sum.inl.inj e
        subst et
        have ez := h (z - n) (by omega) (.inl (by rw [show n + (z - n) = z by omega]; omega))
        rw [show n + (z - n) = z by omega] at ez
        have e' : cstep b g n n (true, z) = .inl (false, a.getD z 0 - n) := by rw [cs_tg (by rw [← ez]; omega), ez]
        obtain ⟨i1, i2⟩ := ih fun q => absurd q Bool.false_ne_true
        exact ⟨fun hy => .go e' (i1 hy), fun hy => by obtain ⟨y', h1, h2⟩ := i2 hy; exact ⟨y', h1, .go e' h2⟩⟩
theorem fol_lo_ends {a g : List Nat} {n x : Nat} (ha : IsPair (2 * n) a) (hg : IsPair (2 * n) g) (hx : x < n) : Ends (cstep a g n n) (false, n + x) ((fol a g n).getD (n + x) 0) := by
  have w := cmp_ends ha.two hg.two (show n + x < n + n by omega)
  unfold cst at w
  rw [if_neg (by omega), show n + (n + x - n) = n + x by omega] at w
  exact w
theorem fol_up_ends {a g : List Nat} {n x : Nat} (ha : IsPair (2 * n) a) (hg : IsPair (2 * n) g) (hx : x < n) (h : n ≤ a.getD x 0) : Ends (cstep a g n n) (false, a.getD x 0 - n) ((fol a g n).getD x 0) := by
  have w := cmp_ends ha.two hg.two (show x < n + n by omega)
  unfold cst at w
  rw [if_pos hx] at w
  cases w with
  | stop e => rw [cs_tg h] at e; cases e
  | go e w => rw [cs_tg h] at e; rw [← Sum.inl.inj e] at w; exact w
theorem slo_fol {a b g : List Nat} {n : Nat} (ha : IsPair (2 * n) a) (hb : IsPair (2 * n) b) (hg : IsPair (2 * n) g) (h : SLo n a b) : SLo n (fol a g n) (fol b g n) := fun x hx c => by
  have w := fol_lo_ends ha hg hx
  have v := fol_lo_ends hb hg hx
  rcases c with c | c
  · exact ((slo_ends h w (fun q => absurd q Bool.false_ne_true)).1 c).det v
  · exact (((slo_ends h.symm v (fun q => absurd q Bool.false_ne_true)).1 c).det w).symm
section
variable {f : List Nat} {n : Nat} (hn : 0 < n) (hf : IsPair (2 * n) f)
include hn hf
theorem pw_front (k : Nat) : pw f n (k + 1) = fol f (pw f n k) n := by
  rw [show k + 1 = 1 + k by omega, ← pw_add hn hf 1 k, pw_one hn hf]
theorem pw_lo (k j : Nat) {x : Nat} (hx : x < n) (h : n ≤ (pw f n k).getD (n + x) 0) : (pw f n (k + j)).getD (n + x) 0 = (pw f n k).getD (n + x) 0 := by
  induction j with
  | zero => rfl
  | succ j ih => rw [show k + (j + 1) = (k + j) + 1 by omega, pw_front hn hf, folL hx (by rw [ih]; exact h), ih]
theorem pw_up (k j : Nat) {x : Nat} (hx : x < n) (h : (pw f n k).getD x 0 < n) : (pw f n (k + j)).getD x 0 = (pw f n k).getD x 0 := by
  induction j with
  | zero => rfl
  | succ j ih =>
    show (fol (pw f n (k + j)) f n).getD x 0 = _
    rw [folU hx (by rw [ih]; exact h), ih]
theorem lse_sub (k j : Nat) : ∀ x ∈ lse (pw f n (k + j)) n, x ∈ lse (pw f n k) n := fun x hx => by
  have h := List.mem_filter.mp hx
  have hxn := List.mem_range.mp h.1
  refine List.mem_filter.mpr ⟨h.1, decide_eq_true ?_⟩
  have h2 := of_decide_eq_true h.2
  by_cases c : (pw f n k).getD (n + x) 0 < n
  · exact c
  · rw [pw_lo hn hf k j hxn (by omega)] at h2; omega
theorem lse_memW {g : List Nat} {x : Nat} : x ∈ lse g n ↔ x < n ∧ g.getD (n + x) 0 < n := by
  unfold lse
  rw [List.mem_filter, List.mem_range]
  exact ⟨fun h => ⟨h.1, of_decide_eq_true h.2⟩, fun h => ⟨h.1, decide_eq_true h.2⟩⟩
theorem lse_less (k : Nat) : (lse (pw f n (k + 1)) n).length ≤ (lse (pw f n k) n).length ∧ ((lse (pw f n (k + 1)) n).length = (lse (pw f n k) n).length → SLo n (pw f n k) (pw f n (k + 1))) := by
  have sub : ∀ x ∈ List.range n, lsC (pw f n (k + 1)) n x = true → lsC (pw f n k) n x = true := fun x hx h =>
    (List.mem_filter.mp (lse_sub hn hf k 1 x (List.mem_filter.mpr ⟨hx, h⟩))).2
  refine ⟨flt_len_le _ sub, fun e x hx c => ?_⟩
  rcases c with c | c
  · exact (pw_lo hn hf k 1 hx c).symm
  · by_cases d : n ≤ (pw f n k).getD (n + x) 0
    · exact (pw_lo hn hf k 1 hx d).symm
    · have := flt_len_lt (p := lsC (pw f n k) n) (q := lsC (pw f n (k + 1)) n) (List.range n) sub ⟨x, List.mem_range.mpr hx, decide_eq_true (by omega), fun h => by have := of_decide_eq_true h; omega⟩
      exact absurd e (Nat.ne_of_lt this)
theorem slo_from {k : Nat} (h : SLo n (pw f n k) (pw f n (k + 1))) : ∀ j, SLo n (pw f n k) (pw f n (k + j)) ∧ SLo n (pw f n (k + j)) (pw f n (k + j + 1))
  | 0 => ⟨.refl, h⟩
  | j + 1 => by
    obtain ⟨h1, h2⟩ := slo_from h j
    exact ⟨h1.trans h2, slo_fol (pw_pair hn hf _) (pw_pair hn hf _) hf h2⟩
/-- from n repetitions on the lower pairs stay -/
theorem slo_n (j : Nat) : SLo n (pw f n n) (pw f n (n + j)) := by
  have : ∃ k, k ≤ n ∧ (lse (pw f n (k + 1)) n).length = (lse (pw f n k) n).length := by
    apply Classical.byContradiction
    intro hno
    have dec : ∀ k, k ≤ n + 1 → (lse (pw f n k) n).length + k ≤ n := fun k => by
      induction k with
      | zero => intro _; exact Nat.le_trans (List.length_filter_le _ _) (by rw [List.length_range]; exact Nat.le_refl _)
      | succ k ih =>
        intro hk
        have h1 := ih (by omega)
        have h2 := (lse_less hn hf k).1
        have h3 : (lse (pw f n (k + 1)) n).length ≠ (lse (pw f n k) n).length := fun e => hno ⟨k, by omega, e⟩
        omega
    have := dec (n + 1) (Nat.le_refl _)
    omega
  obtain ⟨k, hk, e⟩ := this
  have h := (lse_less hn hf k).2 e
  have h1 := (slo_from hn hf h (n - k)).1
  have h2 := (slo_from hn hf h (n - k + j)).1
  rw [show k + (n - k) = n by omega] at h1
  rw [show k + (n - k + j) = n + j by omega] at h2
  exact h1.symm.trans h2
theorem lse_n (j : Nat) : lse (pw f n (n + j)) n = lse (pw f n n) n := by
  unfold lse
  refine List.filter_congr fun x hx => ?_
  have hx' := List.mem_range.mp hx
  have h := slo_n hn hf j x hx'
  show decide _ = decide _
  refine decide_eq_decide.mpr ⟨fun c => ?_, fun c => ?_⟩
  · by_cases d : (pw f n n).getD (n + x) 0 < n
    · exact d
    · rw [← h (.inl (by omega))] at c; exact c
  · by_cases d : (pw f n (n + j)).getD (n + x) 0 < n
    · exact d
    · rw [h (.inr (by omega))] at c; exact c
/-- the upper ends of strands stay as well -/
theorem up_n (j : Nat) {x : Nat} (hx : x < n) : n ≤ (pw f n (n + j)).getD x 0 ↔ n ≤ (pw f n n).getD x 0 := by
  have sub : ∀ x ∈ List.range n, decide (n ≤ (pw f n (n + j)).getD x 0) = true → decide (n ≤ (pw f n n).getD x 0) = true := fun x hx h => by
    have h' := of_decide_eq_true h
    by_cases c : n ≤ (pw f n n).getD x 0
    · exact decide_eq_true c
    · rw [pw_up hn hf n j (List.mem_range.mp hx) (by omega)] at h'; omega
  have e1 := lse_len (pw_pair hn hf (n + j))
  have e2 := lse_len (pw_pair hn hf n)
  rw [lse_n hn hf j, e2] at e1
  have sl : ∀ g : List Nat, (sts g n).length = ((List.range n).filter fun x => decide (n ≤ g.getD x 0)).length := fun g => by
    unfold sts selN; rw [List.length_map]; rfl
  rw [sl, sl] at e1
  refine ⟨fun h => of_decide_eq_true (sub x (List.mem_range.mpr hx) (decide_eq_true h)), fun h => ?_⟩
  by_cases c : n ≤ (pw f n (n + j)).getD x 0
  · exact c
  · have := flt_len_lt (p := fun x => decide (n ≤ (pw f n n).getD x 0)) (q := fun x => decide (n ≤ (pw f n (n + j)).getD x 0)) (List.range n) sub ⟨x, List.mem_range.mpr hx, decide_eq_true h, fun z => c (of_decide_eq_true z)⟩
    omega
end
/-- where the lower end of a strand goes by one more repetition -/
noncomputable def mvs (f : List Nat) (n z : Nat) : Nat := (pw f n (n + 1)).getD ((pw f n n).getD (n + z) 0) 0 - n
def itn (g : Nat → Nat) : Nat → Nat → Nat
  | 0, z => z
  | k + 1, z => g (itn g k z)
theorem itn_add (g : Nat → Nat) (z i : Nat) : ∀ j, itn g (i + j) z = itn g j (itn g i z)
  | 0 => rfl
  | j + 1 => by show g (itn g (i + j) z) = g _; rw [itn_add g z i j]
section
variable {f : List Nat} {n : Nat} (hn : 0 < n) (hf : IsPair (2 * n) f)
include hn hf
theorem lse_back (j : Nat) {z : Nat} (hz : z ∈ lse (pw f n n) n) : z < n ∧ (pw f n (n + j)).getD (n + z) 0 < n ∧ (pw f n (n + j)).getD ((pw f n (n + j)).getD (n + z) 0) 0 = n + z := by
  rw [← lse_n hn hf j] at hz
  have h := (lse_memW hn hf).mp hz
  exact ⟨h.1, h.2, ((pw_pair hn hf (n + j)).d (show n + z < 2 * n by omega)).2.2.1⟩
theorem up_mem (j : Nat) {x : Nat} (hx : x < n) (h : n ≤ (pw f n n).getD x 0) : (pw f n (n + j)).getD x 0 - n ∈ lse (pw f n n) n := by
  have h1 := (up_n hn hf j hx).mpr h
  have d := (pw_pair hn hf (n + j)).d (show x < 2 * n by omega)
  rw [← lse_n hn hf j]
  exact (lse_memW hn hf).mpr ⟨by omega, by rw [show n + ((pw f n (n + j)).getD x 0 - n) = (pw f n (n + j)).getD x 0 by omega, d.2.2.1]; exact hx⟩
theorem mvs_step (j : Nat) {x : Nat} (hx : x < n) (h : n ≤ (pw f n n).getD x 0) : (pw f n (n + j + 1)).getD x 0 = n + mvs f n ((pw f n (n + j)).getD x 0 - n) := by
  have h1 := (up_n hn hf j hx).mpr h
  have h2 := (up_n hn hf (j + 1) hx).mpr h
  have hz := up_mem hn hf j hx h
  obtain ⟨z, ez⟩ : ∃ z, z = (pw f n (n + j)).getD x 0 - n := ⟨_, rfl⟩
  rw [← ez] at hz ⊢
  obtain ⟨b1, b2, b3⟩ := lse_back hn hf 0 hz
  have w := fol_up_ends (pw_pair hn hf (n + j)) hf hx h1
  rw [← ez] at w
  have w2 := (slo_ends (slo_n hn hf j).symm w (fun q => absurd q Bool.false_ne_true)).1 h2
  have v := fol_up_ends (pw_pair hn hf n) hf b2 (by rw [show pw f n (n + 0) = pw f n n from rfl] at b3; rw [show pw f n (n + 0) = pw f n n from rfl, b3]; omega)
  rw [show pw f n (n + 0) = pw f n n from rfl] at b3 v b2
  rw [b3, show n + z - n = z by omega] at v
  have e : (pw f n (n + j + 1)).getD x 0 = (pw f n (n + 1)).getD ((pw f n n).getD (n + z) 0) 0 := w2.det v
  have g := (up_n hn hf 1 b2).mpr (by rw [b3]; omega)
  unfold mvs
  rw [e]; omega
theorem mvs_mem {z : Nat} (hz : z ∈ lse (pw f n n) n) : mvs f n z ∈ lse (pw f n n) n := by
  obtain ⟨b1, b2, b3⟩ := lse_back hn hf 0 hz
  rw [show pw f n (n + 0) = pw f n n from rfl] at b2 b3
  exact up_mem hn hf 1 b2 (by rw [b3]; omega)
theorem mvs_inj {z y : Nat} (hz : z ∈ lse (pw f n n) n) (hy : y ∈ lse (pw f n n) n) (e : mvs f n z = mvs f n y) : z = y := by
  obtain ⟨b1, b2, b3⟩ := lse_back hn hf 0 hz
  obtain ⟨c1, c2, c3⟩ := lse_back hn hf 0 hy
  rw [show pw f n (n + 0) = pw f n n from rfl] at b2 b3 c2 c3
  have g1 := (up_n hn hf 1 b2).mpr (by rw [b3]; omega)
  have g2 := (up_n hn hf 1 c2).mpr (by rw [c3]; omega)
  unfold mvs at e
  have := (pw_pair hn hf (n + 1)).inj (show (pw f n n).getD (n + z) 0 < 2 * n by omega) (show (pw f n n).getD (n + y) 0 < 2 * n by omega) (by omega)
  rw [this] at b3
  omega
theorem itn_mem {z : Nat} (hz : z ∈ lse (pw f n n) n) : ∀ k, itn (mvs f n) k z ∈ lse (pw f n n) n
  | 0 => hz
  | k + 1 => mvs_mem hn hf (itn_mem hz k)
theorem mvs_it {x : Nat} (hx : x < n) (h : n ≤ (pw f n n).getD x 0) : ∀ j, (pw f n (n + j)).getD x 0 = n + itn (mvs f n) j ((pw f n n).getD x 0 - n)
  | 0 => by show (pw f n n).getD x 0 = n + ((pw f n n).getD x 0 - n); omega
  | j + 1 => by
    rw [show n + (j + 1) = n + j + 1 by omega, mvs_step hn hf j hx h, mvs_it hx h j, show n + itn (mvs f n) j ((pw f n n).getD x 0 - n) - n = itn (mvs f n) j ((pw f n n).getD x 0 - n) by omega]
    rfl
/-- when sheets recur -/
theorem pw_same (i j : Nat) : pw f n (n + i) = pw f n (n + j) ↔ ∀ z ∈ lse (pw f n n) n, itn (mvs f n) i z = itn (mvs f n) j z := by
  constructor
  · intro e z hz
    obtain ⟨b1, b2, b3⟩ := lse_back hn hf 0 hz
    rw [show pw f n (n + 0) = pw f n n from rfl] at b2 b3
    have h : n ≤ (pw f n n).getD ((pw f n n).getD (n + z) 0) 0 := by rw [b3]; omega
    have e1 := mvs_it hn hf b2 h i
    have e2 := mvs_it hn hf b2 h j
    rw [b3, show n + z - n = z by omega] at e1 e2
    rw [e] at e1
    omega
  · intro h
    have pi := pw_pair hn hf (n + i)
    have pj := pw_pair hn hf (n + j)
    have up : ∀ x, x < n → (pw f n (n + i)).getD x 0 = (pw f n (n + j)).getD x 0 := fun x hx => by
      by_cases c : n ≤ (pw f n n).getD x 0
      · rw [mvs_it hn hf hx c i, mvs_it hn hf hx c j, h _ (show (pw f n n).getD x 0 - n ∈ _ from up_mem hn hf 0 hx c)]
      · rw [pw_up hn hf n i hx (by omega), pw_up hn hf n j hx (by omega)]
    have lo : ∀ x, x < n → (pw f n (n + i)).getD (n + x) 0 = (pw f n (n + j)).getD (n + x) 0 := fun x hx => by
      by_cases c : x ∈ lse (pw f n n) n
      · obtain ⟨_, b2, b3⟩ := lse_back hn hf i c
        obtain ⟨_, c2, c3⟩ := lse_back hn hf j c
        rw [up _ b2] at b3
        exact pj.inj (by omega) (by omega) (b3.trans c3.symm)
      · have h1 : n ≤ (pw f n n).getD (n + x) 0 := by
          by_cases d : n ≤ (pw f n n).getD (n + x) 0
          · exact d
          · exact absurd ((lse_memW hn hf).mpr ⟨hx, by omega⟩) c
        rw [pw_lo hn hf n i hx h1, pw_lo hn hf n j hx h1]
    refine List.ext_getElem? fun z => ?_
    by_cases c : z < 2 * n
    · rw [(pi.d c).2.2.2, (pj.d c).2.2.2]
      by_cases d : z < n
      · rw [up z d]
      · have := lo (z - n) (by omega)
        rw [show n + (z - n) = z by omega] at this
        rw [this]
    · rw [List.getElem?_eq_none (by rw [pi.len]; omega), List.getElem?_eq_none (by rw [pj.len]; omega)]
end
end Pc
namespace Pc
/-! ### cycles of a permutation, and when a sequence recurs -/
theorem nd_subL : ∀ (l m : List Nat), l.Nodup → (∀ y ∈ l, y ∈ m) → l.length ≤ m.length
  | [], _, _, _ => Nat.zero_le _
  | a :: l, m, hd, h => by
    have hd' := List.nodup_cons.mp hd
    have ha := h a List.mem_cons_self
    have h1 := nd_subL l (m.erase a) hd'.2 fun y hy => (List.mem_erase_of_ne (fun e => hd'.1 (by rw [← e]; exact hy))).mpr (h y (List.mem_cons_of_mem _ hy))
    have h2 := List.length_erase_of_mem ha
    have h3 := List.length_pos_of_mem ha
    rw [List.length_cons]; omega
section
variable {g : Nat → Nat} {B : List Nat} (cl : ∀ z ∈ B, g z ∈ B) (inj : ∀ z ∈ B, ∀ y ∈ B, g z = g y → z = y)
include cl
theorem it_mem {z : Nat} (hz : z ∈ B) : ∀ k, itn g k z ∈ B
  | 0 => hz
  | k + 1 => cl _ (it_mem hz k)
include inj
theorem it_inj {z y : Nat} (hz : z ∈ B) (hy : y ∈ B) : ∀ k, itn g k z = itn g k y → z = y
  | 0, e => e
  | k + 1, e => it_inj hz hy k (inj _ (it_mem cl hz k) _ (it_mem cl hy k) e)
theorem cyc_ex {z : Nat} (hz : z ∈ B) : ∃ m, 1 ≤ m ∧ m ≤ B.length ∧ itn g m z = z := by
  apply Classical.byContradiction
  intro hno
  have hd : ((List.range (B.length + 1)).map fun i => itn g i z).Nodup := by
    rw [List.nodup_iff_pairwise_ne, List.pairwise_map]
    refine List.Pairwise.imp_of_mem ?_ List.pairwise_lt_range
    intro i j hi hj hij e
    have hj' := List.mem_range.mp hj
    rw [show j = (j - i) + i by omega, itn_add] at e
    have := it_inj cl inj hz (it_mem cl hz (j - i)) i e
    exact hno ⟨j - i, by omega, by omega, this.symm⟩
  have := nd_subL _ B hd fun y hy => by
    obtain ⟨i, _, rfl⟩ := List.mem_map.mp hy
    exact it_mem cl hz i
  rw [List.length_map, List.length_range] at this
  omega
end
def IsLen (g : Nat → Nat) (z L : Nat) : Prop := 1 ≤ L ∧ itn g L z = z ∧ ∀ m, 1 ≤ m → m < L → itn g m z ≠ z
theorem itn_mul {g : Nat → Nat} {z L : Nat} (h : itn g L z = z) : ∀ k, itn g (L * k) z = z
  | 0 => rfl
  | k + 1 => by rw [Nat.mul_succ, itn_add, itn_mul h k, h]
theorem IsLen.dvd {g : Nat → Nat} {z L : Nat} (h : IsLen g z L) (q : Nat) : itn g q z = z ↔ L ∣ q := by
  constructor
  · intro e
    obtain ⟨h1, h2, h3⟩ := h
    have hr : q % L < L := Nat.mod_lt _ (by omega)
    have e2 : itn g (q % L) z = z := by
      have := e
      rw [show q = L * (q / L) + q % L from (Nat.div_add_mod _ _).symm, itn_add, itn_mul h2] at this
      exact this
    rcases Nat.eq_zero_or_pos (q % L) with c | c
    · exact Nat.dvd_of_mod_eq_zero c
    · exact absurd e2 (h3 _ c hr)
  · rintro ⟨k, rfl⟩
    exact itn_mul h.2.1 k
/-- greater than one, and it divides one of two whose product it divides -/
def Pri (r : Nat) : Prop := 2 ≤ r ∧ ∀ a b, r ∣ a * b → r ∣ a ∨ r ∣ b
theorem pri_ex : ∀ (m t : Nat), 2 ≤ t → t ≤ m → ∃ r, Pri r ∧ r ∣ t ∧ r ≤ t
  | 0, t, h, h2 => by omega
  | m + 1, t, h, h2 => by
    by_cases c : ∃ d, 2 ≤ d ∧ d < t ∧ d ∣ t
    · obtain ⟨d, h3, h4, h5⟩ := c
      obtain ⟨r, h6, h7, h8⟩ := pri_ex m d h3 (by omega)
      exact ⟨r, h6, Nat.dvd_trans h7 h5, by omega⟩
    · refine ⟨t, ⟨h, fun a b hab => ?_⟩, Nat.dvd_refl _, Nat.le_refl _⟩
      have hg : Nat.gcd t a ∣ t := Nat.gcd_dvd_left _ _
      have hp : 0 < Nat.gcd t a := Nat.gcd_pos_of_pos_left _ (by omega)
      rcases Nat.lt_or_ge (Nat.gcd t a) 2 with d | d
      · have e1 : Nat.gcd t a = 1 := by omega
        exact .inr (Nat.Coprime.dvd_of_dvd_mul_left e1 hab)
      · have hle := Nat.le_of_dvd (by omega) hg
        rcases Nat.lt_or_ge (Nat.gcd t a) t with k | k
        · exact absurd ⟨_, d, k, hg⟩ c
        · have : Nat.gcd t a = t := by omega
          rw [← this]
          exact .inl (Nat.gcd_dvd_right _ _)
/-- the period of some of them: p; it divides M, its prime factors are n at most -/
structure PerI (g : Nat → Nat) (ds : List Nat) (n M p : Nat) : Prop where
  pos : 1 ≤ p
  dv : p ∣ M
  per : ∀ q, (∀ z ∈ ds, itn g q z = z) ↔ p ∣ q
  few : ∀ r, Pri r → r ∣ p → r ≤ n
theorem PerI.nil {g : Nat → Nat} {n M : Nat} : PerI g [] n M 1 :=
  ⟨Nat.le_refl _, Nat.one_dvd _, fun q => ⟨fun _ => Nat.one_dvd _, fun _ z hz => absurd hz List.not_mem_nil⟩, fun r h d => by have := Nat.le_of_dvd (by decide) d; have := h.1; omega⟩
theorem PerI.step {g : Nat → Nat} {ds : List Nat} {n M p z L : Nat} (h : PerI g ds n M p) (hL : IsLen g z L) (hn : L ≤ n) (hM : L ∣ M) : PerI g (ds ++ [z]) n M (Nat.lcm p L) := by
  refine ⟨Nat.lcm_pos h.pos hL.1, Nat.lcm_dvd h.dv hM, fun q => ⟨fun k => ?_, fun d y hy => ?_⟩, fun r hr d => ?_⟩
  · exact Nat.lcm_dvd ((h.per q).mp fun y hy => k y (List.mem_append.mpr (.inl hy))) ((hL.dvd q).mp (k z (List.mem_append.mpr (.inr (List.mem_singleton.mpr rfl)))))
  · rcases List.mem_append.mp hy with hy | hy
    · exact (h.per q).mpr (Nat.dvd_trans (Nat.dvd_lcm_left _ _) d) y hy
    · rw [List.mem_singleton.mp hy]; exact (hL.dvd q).mpr (Nat.dvd_trans (Nat.dvd_lcm_right _ _) d)
  · have d2 : r ∣ p * L := Nat.dvd_trans d (by unfold Nat.lcm; exact Nat.div_dvd_of_dvd (Nat.dvd_trans (Nat.gcd_dvd_left _ _) (Nat.dvd_mul_right _ _)))
    rcases hr.2 _ _ d2 with k | k
    · exact h.few r hr k
    · exact Nat.le_trans (Nat.le_of_dvd hL.1 k) hn
theorem PerI.det {g : Nat → Nat} {ds : List Nat} {n M p q : Nat} (h : PerI g ds n M p) (k : PerI g ds n M q) : p = q :=
  Nat.dvd_antisymm ((h.per q).mp ((k.per q).mpr (Nat.dvd_refl _))) ((k.per p).mp ((h.per p).mpr (Nat.dvd_refl _)))
section
variable {f : List Nat} {n : Nat} (hn : 0 < n) (hf : IsPair (2 * n) f)
include hn hf
theorem pw_per {M p : Nat} (hp : PerI (mvs f n) (lse (pw f n n) n) n M p) (k q : Nat) : pw f n (n + k + q) = pw f n (n + k) ↔ p ∣ q := by
  have cl := fun z hz => mvs_mem hn hf (z := z) hz
  have inj := fun z hz y hy e => mvs_inj hn hf (z := z) (y := y) hz hy e
  rw [show n + k + q = n + (k + q) by omega, pw_same hn hf, ← hp.per q]
  constructor
  · intro h z hz
    have e := h z hz
    rw [show k + q = q + k by omega, itn_add] at e
    exact it_inj cl inj (it_mem cl hz q) hz k e
  · intro h z hz
    rw [show k + q = q + k by omega, itn_add, h z hz]
theorem pw_dvd {M p : Nat} (hp : PerI (mvs f n) (lse (pw f n n) n) n M p) {b q : Nat} (h : pw f n (b + q) = pw f n b) : p ∣ q := by
  refine (pw_per hn hf hp b q).mp ?_
  rw [show n + b + q = (b + q) + n by omega, show n + b = b + n by omega, ← pw_add hn hf (b + q) n, ← pw_add hn hf b n, h]
end
/-- the index at which a sequence that steps recurs -/
theorem rho {α : Type} {x : Nat → α} {F : α → α} (hF : ∀ k, x (k + 1) = F (x k)) {L a : Nat} (ha : a < L) (hL : x L = x a) (inj : ∀ i j, i < L → j < L → x i = x j → i = j) {b q : Nat} (hq : 0 < q) :
    x (b + q) = x b ↔ a ≤ b ∧ (L - a) ∣ q := by
  have rep : ∀ k, x (a + k) = x (a + k % (L - a)) := by
    intro k
    induction k with
    | zero => rw [Nat.zero_mod]
    | succ k ih =>
      have e : x (a + (k + 1)) = x (a + (k % (L - a) + 1)) := by
        rw [show a + (k + 1) = (a + k) + 1 by omega, hF, ih, ← hF]; rfl
      rw [e]
      have hlt : k % (L - a) < L - a := Nat.mod_lt _ (by omega)
      rcases Nat.lt_or_ge (k % (L - a) + 1) (L - a) with c | c
      · rw [show (k + 1) % (L - a) = k % (L - a) + 1 by rw [Nat.add_mod, Nat.mod_eq_of_lt (show 1 < L - a by omega), Nat.mod_eq_of_lt c]]
      · have e2 : k % (L - a) + 1 = L - a := by omega
        have e3 : (k + 1) % (L - a) = 0 := by
          rw [show k + 1 = (L - a) * (k / (L - a)) + (L - a) by have := Nat.div_add_mod k (L - a); omega, ← Nat.mul_succ, Nat.mul_mod_right]
        rw [e2, e3, show a + (L - a) = L by omega]; exact hL
  have cut : ∀ i, ∃ i', i' < L ∧ x i = x i' ∧ (a ≤ i → a ≤ i' ∧ i' = a + (i - a) % (L - a)) ∧ (i < a → i' = i) := fun i => by
    rcases Nat.lt_or_ge i a with c | c
    · exact ⟨i, by omega, rfl, fun h => by omega, fun _ => rfl⟩
    · have hlt : (i - a) % (L - a) < L - a := Nat.mod_lt _ (by omega)
      refine ⟨a + (i - a) % (L - a), by omega, ?_, fun _ => ⟨by omega, rfl⟩, fun h => by omega⟩
      have := rep (i - a)
      rw [show a + (i - a) = i by omega] at this
      exact this
  constructor
  · intro e
    obtain ⟨i, h1, h2, h3, h4⟩ := cut (b + q)
    obtain ⟨j, k1, k2, k3, k4⟩ := cut b
    have hij := inj i j h1 k1 (h2.symm.trans (e.trans k2))
    rcases Nat.lt_or_ge b a with c | c
    · have ej := k4 c
      rcases Nat.lt_or_ge (b + q) a with d | d
      · have := h4 d; omega
      · have := h3 d; omega
    · refine ⟨c, ?_⟩
      have e1 := (h3 (by omega)).2
      have e2 := (k3 c).2
      have e3 : (b + q - a) % (L - a) = (b - a) % (L - a) := by omega
      have := (Nat.sub_mod_eq_zero_of_mod_eq e3)
      rw [show b + q - a - (b - a) = q by omega] at this
      exact Nat.dvd_of_mod_eq_zero this
  · rintro ⟨hab, t, rfl⟩
    have e1 := rep (b + (L - a) * t - a)
    have e2 := rep (b - a)
    rw [show a + (b + (L - a) * t - a) = b + (L - a) * t by omega] at e1
    rw [show a + (b - a) = b by omega] at e2
    rw [e1, e2, show b + (L - a) * t - a = b - a + (L - a) * t by omega, Nat.add_mul_mod_self_left]
/-- the last of the reduced periods is the least one -/
theorem last_per {n M p q l : Nat} {g : Nat → Nat} {ds : List Nat} (hp : PerI g ds n M p) (hq : q ∣ p) (hl : l ∣ q) (h : ∀ e, 2 ≤ e → e ≤ n → e ∣ q → ¬ l ∣ q / e) : q = l := by
  obtain ⟨t, rfl⟩ := hl
  have hpos : 0 < l * t := Nat.pos_of_dvd_of_pos hq hp.pos
  rcases Nat.lt_or_ge t 2 with c | c
  · have : t ≠ 0 := fun e => by rw [e] at hpos; omega
    have : t = 1 := by omega
    rw [this, Nat.mul_one]
  · obtain ⟨r, h1, ⟨u, rfl⟩, h3⟩ := pri_ex t t c (Nat.le_refl _)
    have hrp : r ∣ p := Nat.dvd_trans ⟨l * u, by rw [Nat.mul_left_comm]⟩ hq
    refine absurd ⟨u, ?_⟩ (h r h1.1 (hp.few r h1 hrp) ⟨l * u, by rw [Nat.mul_left_comm]⟩)
    rw [Nat.mul_left_comm, Nat.mul_div_cancel_left _ (by have := h1.1; omega)]
end Pc
namespace Pc
/-! ### how many pairings there are; sheets that recur -/
theorem part_len {α : Type} (g : α → Nat) (B : Nat) : ∀ (T : List Nat) (L : List α), (∀ p ∈ L, g p ∈ T) → (∀ t ∈ T, (L.filter fun p => decide (g p = t)).length ≤ B) → L.length ≤ T.length * B
  | [], L, h, _ => by
    cases L with
    | nil => exact Nat.zero_le _
    | cons p L => exact absurd (h p List.mem_cons_self) List.not_mem_nil
  | t :: T, L, h, hb => by
    have h1 := hb t List.mem_cons_self
    have sp := filter_split (fun p => decide (g p = t)) L
    have ih := part_len g B T (L.filter fun p => !decide (g p = t)) (fun p hp => by
      rw [List.mem_filter] at hp
      rcases List.mem_cons.mp (h p hp.1) with e | e
      · rw [e] at hp; simp at hp
      · exact e) (fun u hu => by
      refine Nat.le_trans ?_ (hb u (List.mem_cons_of_mem _ hu))
      rw [List.filter_filter, ← List.countP_eq_length_filter, ← List.countP_eq_length_filter]
      exact List.countP_mono_left fun x _ h => (Bool.and_eq_true_iff.mp h).1)
    rw [List.length_cons, Nat.succ_mul]
    omega
theorem nodup_one {L : List (List Nat)} (hn : L.Nodup) (h : ∀ p ∈ L, ∀ q ∈ L, p = q) : L.length ≤ 1 := by
  match L, hn with
  | [], _ => exact Nat.zero_le _
  | [_], _ => exact Nat.le_refl _
  | p :: q :: _, hn =>
    have := h p List.mem_cons_self q (List.mem_cons_of_mem _ List.mem_cons_self)
    rw [List.nodup_cons] at hn
    exact absurd (this ▸ List.mem_cons_self) hn.1
/-- pairings that agree outside F -/
theorem many_pairs {n : Nat} : ∀ (r : Nat) (F : List Nat) (L : List (List Nat)), F.length = 2 * r → F.Nodup → L.Nodup → (∀ p ∈ L, IsPair n p) → (∀ z ∈ F, z < n) → (∀ p ∈ L, ∀ z ∈ F, p.getD z 0 ∈ F) → (∀ p ∈ L, ∀ q ∈ L, ∀ z, z < n → z ∉ F → p.getD z 0 = q.getD z 0) → L.length ≤ dfac r
  | 0, F, L, hF, _, hL, hP, _, _, ha => by
    have e : F = [] := List.length_eq_zero_iff.mp hF
    subst e
    refine nodup_one hL fun p hp q hq => list_d (by rw [(hP p hp).len, (hP q hq).len]) fun i hi => ha p hp q hq i (by rw [← (hP p hp).len]; exact hi) List.not_mem_nil
  | r + 1, [], L, hF, _, _, _, _, _, _ => by simp at hF
  | r + 1, s :: F, L, hF, hn, hL, hP, hl, hc, ha => by
    rw [List.nodup_cons] at hn
    have hs := hl s List.mem_cons_self
    have hlen : F.length = 2 * r + 1 := by rw [List.length_cons] at hF; omega
    have key := part_len (fun p : List Nat => p.getD s 0) (dfac r) F L (fun p hp => by
      rcases List.mem_cons.mp (hc p hp s List.mem_cons_self) with e | e
      · exact absurd e ((hP p hp).d hs).2.1
      · exact e) (fun t ht => by
      have htn := hl t (List.mem_cons_of_mem _ ht)
      have tl : (F.erase t).length = 2 * r := by rw [List.length_erase_of_mem ht]; omega
      refine many_pairs r (F.erase t) _ tl (hn.2.erase t) (hL.filter _) (fun p hp => hP p (List.mem_filter.mp hp).1) (fun z hz => hl z (List.mem_cons_of_mem _ (List.mem_of_mem_erase hz))) (fun p hp z hz => ?_) (fun p hp q hq z hz hzF => ?_)
      · rw [List.mem_filter] at hp
        have hps : p.getD s 0 = t := of_decide_eq_true hp.2
        have hzF := (hn.2.mem_erase_iff).mp hz
        have dz := (hP p hp.1).d (hl z (List.mem_cons_of_mem _ hzF.2))
        have ds := (hP p hp.1).d hs
        rw [hn.2.mem_erase_iff]
        refine ⟨fun e => ?_, ?_⟩
        · have := dz.2.2.1
          rw [e, ← hps, ds.2.2.1] at this
          exact hn.1 (this ▸ hzF.2)
        · rcases List.mem_cons.mp (hc p hp.1 z (List.mem_cons_of_mem _ hzF.2)) with e | e
          · have := dz.2.2.1
            rw [e, hps] at this
            exact absurd this.symm hzF.1
          · exact e
      · rw [List.mem_filter] at hp hq
        have hps : p.getD s 0 = t := of_decide_eq_true hp.2
        have hqs : q.getD s 0 = t := of_decide_eq_true hq.2
        by_cases c1 : z = s
        · rw [c1, hps, hqs]
        · by_cases c2 : z = t
          · rw [c2, ← hps, ((hP p hp.1).d hs).2.2.1, hps, ← hqs, ((hP q hq.1).d hs).2.2.1]
          · refine ha p hp.1 q hq.1 z hz fun m => ?_
            rcases List.mem_cons.mp m with e | e
            · exact c1 e
            · exact hzF (hn.2.mem_erase_iff.mpr ⟨c2, e⟩))
    rw [hlen] at key
    show L.length ≤ dfac r * (2 * r + 1)
    rw [Nat.mul_comm]; exact key
end Pc
namespace Pc
open PySem PySem.Spec PyProof.Rows L2 RZ
/-! ### tuples in a list; the first of a sequence -/
theorem lay_nd : ∀ l : List Nat, PyData.canLayAll0 (nd l) = true
  | [] => rfl
  | x :: l => by show (true && PyData.canLayAll0 (nd l)) = true; rw [lay_nd l]; rfl
theorem lay_tds : ∀ ls : List (List Nat), PyData.canLayAll0 (ls.map td) = true
  | [] => rfl
  | l :: ls => by show (PyData.canLayAll0 (nd l) && PyData.canLayAll0 (ls.map td)) = true; rw [lay_nd l, lay_tds ls]; rfl
theorem dep_nd : ∀ l : List Nat, PyData.depthAll (nd l) = 0
  | [] => rfl
  | x :: l => by show max 0 (PyData.depthAll (nd l)) = 0; rw [dep_nd l]; rfl
theorem dep_tds : ∀ ls : List (List Nat), PyData.depthAll (ls.map td) ≤ 1
  | [] => Nat.zero_le _
  | l :: ls => by
    show max (PyData.depthAll (nd l) + 1) (PyData.depthAll (ls.map td)) ≤ 1
    rw [dep_nd l]
    have := dep_tds ls
    omega
theorem sh_td (l : List Nat) : PySem.SeqAt.shaped (td l) = true := by
  show (PyData.canLayAll0 (nd l) && decide (PyData.depthAll (nd l) + 1 ≤ 64)) = true
  rw [lay_nd, dep_nd]; rfl
theorem sh_tds (ls : List (List Nat)) : PySem.SeqAt.shaped (.list (ls.map td)) = true := by
  show (PyData.canLayAll0 (ls.map td) && decide (PyData.depthAll (ls.map td) + 1 ≤ 64)) = true
  rw [lay_tds, decide_eq_true (by have := dep_tds ls; omega)]; rfl
theorem any_td (ls : List (List Nat)) (l : List Nat) : ((ls.map td).any fun z => PyData.eqv z (td l)) = decide (l ∈ ls) := by
  rw [List.any_map]
  rw [Bool.eq_iff_iff, List.any_eq_true, decide_eq_true_iff]
  constructor
  · rintro ⟨x, hx, e⟩
    have e' : PyData.eqv (td x) (td l) = true := e
    rw [eqv_td] at e'
    rw [← of_decide_eq_true e']; exact hx
  · intro h
    exact ⟨l, h, by show PyData.eqv (td l) (td l) = true; rw [eqv_td]; exact decide_eq_true rfl⟩
def sqs (x : Nat → List Nat) (k : Nat) : List (List Nat) := (List.range k).map x
theorem sqs_len (x : Nat → List Nat) (k : Nat) : (sqs x k).length = k := by unfold sqs; rw [List.length_map, List.length_range]
theorem sqs_get {x : Nat → List Nat} {k i : Nat} (h : i < k) : (sqs x k)[i]? = some (x i) := by unfold sqs; rw [List.getElem?_map, List.getElem?_range h]; rfl
theorem sqs_mem {x : Nat → List Nat} {k : Nat} {l : List Nat} : l ∈ sqs x k ↔ ∃ i, i < k ∧ x i = l := by
  unfold sqs
  rw [List.mem_map]
  exact ⟨fun ⟨i, hi, e⟩ => ⟨i, List.mem_range.mp hi, e⟩, fun ⟨i, hi, e⟩ => ⟨i, List.mem_range.mpr hi, e⟩⟩
theorem sqs_succ (x : Nat → List Nat) (k : Nat) : sqs x (k + 1) = sqs x k ++ [x k] := by unfold sqs; rw [List.range_succ, List.map_append]; rfl
def rns (qs : List (Nat × Nat)) (ps : List Nat) : Nat → List Nat
  | 0 => ps
  | k + 1 => runs qs (rns qs ps k)
theorem rns_pair {n : Nat} {qs : List (Nat × Nat)} {ps : List Nat} (hp : IsPair n ps) (hc : Calls n qs) : ∀ k, IsPair n (rns qs ps k)
  | 0 => hp
  | k + 1 => runs_pair qs (rns_pair hp hc k) hc
theorem rns_rd {n : Nat} {qs : List (Nat × Nat)} {ps : List Nat} (hn : 0 < n) (hp : IsPair n ps) (hc : Calls n qs) : ∀ k, rns qs ps k = rd (pw (shw n qs (emp n)) n k) ps n
  | 0 => (rd_emp hn hp).symm
  | k + 1 => by
    show runs qs (rns qs ps k) = rd (fol (pw (shw n qs (emp n)) n k) (shw n qs (emp n)) n) ps n
    have hS := shw_pair (emp_pair hn) hc
    rw [rd_fol (pw_pair hn hS k) hS hp, ← rns_rd hn hp hc k, rd_word hn (rns_pair hp hc k) hc]
theorem seq_few {n k : Nat} {x : Nat → List Nat} (hn : n ≤ 14) (he : n % 2 = 0) (hp : ∀ i, IsPair n (x i)) (hd : ∀ i j, i < k → j < k → x i = x j → i = j) : k ≤ 135135 := by
  have hnd : (sqs x k).Nodup := by
    unfold sqs
    rw [List.nodup_iff_pairwise_ne, List.pairwise_map]
    refine List.Pairwise.imp_of_mem ?_ List.pairwise_lt_range
    intro i j hi hj hij e
    have := hd i j (List.mem_range.mp hi) (List.mem_range.mp hj) e
    omega
  have h := many_pairs (n := n) (n / 2) (List.range n) (sqs x k) (by rw [List.length_range]; omega) List.nodup_range hnd (fun p h => by obtain ⟨i, _, rfl⟩ := sqs_mem.mp h; exact hp i)
    (fun z hz => List.mem_range.mp hz) (fun p h z hz => by obtain ⟨i, _, rfl⟩ := sqs_mem.mp h; exact List.mem_range.mpr ((hp i).d (List.mem_range.mp hz)).1)
    (fun p _ q _ z hz hz2 => absurd (List.mem_range.mpr hz) hz2)
  rw [sqs_len] at h
  have h7 : ∀ r, r ≤ 7 → dfac r ≤ 135135 := by decide
  exact Nat.le_trans h (h7 _ (by omega))
/-- a sequence recurs at L for the first time, as at a -/
structure Crs (x : Nat → List Nat) (L a : Nat) : Prop where
  lt : a < L
  rec_ : x L = x a
  inj : ∀ i j, i < L → j < L → x i = x j → i = j
  few : L ≤ 135135
/-- what all numbers up to n divide -/
def lcmTo (n : Nat) : Nat := if n ≤ 12 then 27720 else if n ≤ 16 then 720720 else 232792560
theorem len_dv {n L : Nat} (hn : n ≤ 20) (h : L ≤ n) (h1 : 1 ≤ L) : L ∣ lcmTo n := by
  have a : ∀ L, L ≤ 12 → 1 ≤ L → L ∣ 27720 := by decide
  have b : ∀ L, L ≤ 16 → 1 ≤ L → L ∣ 720720 := by decide
  have c : ∀ L, L ≤ 20 → 1 ≤ L → L ∣ 232792560 := by decide
  unfold lcmTo
  split
  · exact a L (by omega) h1
  · split
    · exact b L (by omega) h1
    · exact c L (by omega) h1
theorem lcmTo_pos (n : Nat) : 0 < lcmTo n ∧ lcmTo n ≤ 232792560 := by
  unfold lcmTo
  split
  · decide
  · split <;> decide
theorem PerI.le {g : Nat → Nat} {ds : List Nat} {n p : Nat} (h : PerI g ds n (lcmTo n) p) (hn : n ≤ 20) : p ≤ 232792560 := Nat.le_trans (Nat.le_of_dvd (lcmTo_pos n).1 h.dv) (lcmTo_pos n).2
/-- what settles tells -/
structure Stl (f : List Nat) (n : Nat) (x : Nat → List Nat) (b q p : Nat) : Prop where
  per : PerI (mvs f n) (lse (pw f n n) n) n (lcmTo n) p
  pos : 1 ≤ q
  dv : q ∣ p
  rec_ : x (b + q) = x b
  fst : ∀ c, c < b → x (c + p) ≠ x c
  mn : ∀ e, 2 ≤ e → e ≤ n → e ∣ q → x (b + q / e) ≠ x b
theorem Stl.crs {f : List Nat} {n : Nat} {x : Nat → List Nat} {b q p : Nat} {F : List Nat → List Nat} (hF : ∀ k, x (k + 1) = F (x k)) (h : Stl f n x b q p) {L j : Nat} (hc : Crs x L j) : b = j ∧ q = L - j := by
  have r := fun {b q : Nat} (hq : 0 < q) => rho hF hc.lt hc.rec_ hc.inj (b := b) (q := q) hq
  obtain ⟨h1, h2⟩ := (r h.pos).mp h.rec_
  have hb : b = j := by
    rcases Nat.lt_or_ge j b with c | c
    · exact absurd ((r h.per.pos).mpr ⟨Nat.le_refl _, Nat.dvd_trans h2 h.dv⟩) (h.fst j c)
    · omega
  refine ⟨hb, last_per h.per h.dv h2 fun e e1 e2 e3 e4 => ?_⟩
  have hp : 0 < q / e := Nat.div_pos (Nat.le_of_dvd h.pos e3) (by omega)
  exact h.mn e e1 e2 e3 ((r hp).mpr ⟨h1, e4⟩)
theorem rep_mul {x : Nat → List Nat} {F : List Nat → List Nat} (hF : ∀ k, x (k + 1) = F (x k)) {b r : Nat} (h : x (b + r) = x b) : ∀ m, x (b + m * r) = x b
  | 0 => by rw [Nat.zero_mul]; rfl
  | m + 1 => by
    have st : ∀ k, x (b + r + k) = x (b + k) := fun k => by
      induction k with
      | zero => exact h
      | succ k ih => rw [show b + r + (k + 1) = (b + r + k) + 1 by omega, hF, ih, ← hF]; rfl
    rw [Nat.succ_mul, show b + (m * r + r) = b + r + m * r by omega, st, rep_mul hF h m]
end Pc
namespace Pc
open PySem PySem.Spec PyProof.Rows L2 RZ
/-! ### lists of two for pairs; sequences further on -/
def Lss (H : Hp) (gs : List Addr) (qs : List (Nat × Nat)) : Prop := gs.length = qs.length ∧ ∀ (j : Nat) (g : Addr) (p : Nat × Nat), gs[j]? = some g → qs[j]? = some p → H g = some (.lst [.int p.1, .int p.2])
theorem lss_items {K : PySem.W.Frag} {H : Hp} {gs : List Addr} {qs : List (Nat × Nat)} (h : Lss H gs qs) : Items K H (gs.map V.ref) qs := ⟨by rw [List.length_map]; exact h.1, fun i v hv => by
  rw [List.getElem?_map] at hv
  cases e' : gs[i]? with
  | none => rw [e'] at hv; cases hv
  | some g =>
    rw [e'] at hv
    obtain ⟨p, hp⟩ := get_some (l := qs) (i := i) (by have := get_lt e'; rw [h.1] at this; exact this)
    exact ⟨g, p, (Option.some.inj hv).symm, hp, .inl (.inl (.inl (h.2 i g p e' hp)))⟩⟩
theorem lss_same {H H' : Hp} {gs : List Addr} {qs : List (Nat × Nat)} (h : Lss H gs qs) (e : Same H H') : Lss H' gs qs := ⟨h.1, fun j g p a b => e _ _ (h.2 j g p a b)⟩
theorem lss_snoc {H H2 : Hp} {gs : List Addr} {qs : List (Nat × Nat)} {i : Nat} {p : Nat × Nat} {D g : Addr} {o : HO} (hg : Lss H gs (qs.take i)) (hp : qs[i]? = some p) (eD : H D = some (.lst (gs.map V.ref))) (s2 : Same H H2) (gD : g ≠ D) (eg : H2 g = some (.lst [.int p.1, .int p.2])) : Lss (upd H2 D o) (gs ++ [g]) (qs.take (i + 1)) := by
  have hi := get_lt hp
  have hgl : gs.length = i := by rw [hg.1, List.length_take]; omega
  refine ⟨?_, fun j g' p' hg' hp' => ?_⟩
  · rw [List.length_append, hgl, List.length_take]
    show i + 1 = _
    omega
  · have hj := get_lt hg'
    rw [List.length_append, hgl, List.length_singleton] at hj
    rw [List.getElem?_take_of_lt hj] at hp'
    by_cases ej : j < i
    · rw [List.getElem?_append_left (by omega)] at hg'
      have hq := hg.2 j g' p' hg' (by rw [List.getElem?_take_of_lt ej]; exact hp')
      have gD' : g' ≠ D := fun zz => by
        rw [zz, eD] at hq
        cases gs with
        | nil => simp at hg'
        | cons a0 r0 => injection (HO.lst.inj (Option.some.inj hq)) with z1; cases z1
      rw [upd_ne gD']; exact s2 _ _ hq
    · have ej2 : j = i := by omega
      subst ej2
      rw [List.getElem?_append_right (by omega), hgl, Nat.sub_self] at hg'
      cases Option.some.inj hg'
      cases Option.some.inj (hp'.symm.trans hp)
      rw [upd_ne gD]; exact eg
theorem crs_none (ps : List Nat) : Crs (rns [] ps) 1 0 := ⟨by decide, rfl, fun i j hi hj _ => by omega, by decide⟩
theorem rns_shift (qs : List (Nat × Nat)) (ps : List Nat) (j : Nat) : ∀ k, rns qs (rns qs ps j) k = rns qs ps (j + k)
  | 0 => rfl
  | k + 1 => by show runs qs (rns qs (rns qs ps j) k) = runs qs (rns qs ps (j + k)); rw [rns_shift qs ps j k]
theorem crs_shift {qs : List (Nat × Nat)} {ps : List Nat} {L j : Nat} (h : Crs (rns qs ps) L j) : Crs (rns qs (rns qs ps j)) (L - j) 0 := by
  have h1 := h.lt
  refine ⟨by omega, ?_, fun a b ha hb e => ?_, Nat.le_trans (Nat.sub_le _ _) h.few⟩
  · rw [rns_shift, rns_shift, show j + (L - j) = L by omega]; exact h.rec_
  · rw [rns_shift, rns_shift] at e
    have := h.inj _ _ (by omega) (by omega) e
    omega
theorem tups_at {H : Hp} {as : List Addr} {ls : List (List Nat)} {j : Nat} {l : List Nat} (h : Tups H as ls) (e : ls[j]? = some l) : ∃ a, as[j]? = some a ∧ H a = some (.tup (nv l)) := by
  have hj := get_lt e
  have hl := h.length
  obtain ⟨a, ha⟩ := get_some (l := as) (i := j) (by omega)
  obtain ⟨l', e', eh⟩ := tups_get h ha
  rw [e] at e'
  cases e'
  exact ⟨a, ha, eh⟩
end Pc
namespace Pc
open PySem PySem.Spec PyProof.Rows L2 RZ
section
variable {P : Program} {w : World} {K : PySem.W.Frag} {mg : Str → Option Value} {base : Heap}
/-! ### the least common multiple -/
def spCommon : Sp := fun vs H Q _ => ∃ (a b : Nat), vs = [.int a, .int b] ∧ 1 ≤ a ∧ 1 ≤ b ∧ a ≤ 1000000000 ∧ b ≤ 1000 ∧ Q (.int ((Nat.lcm a b : Nat) : Int)) H
theorem lcm_way {a b : Nat} (ha : 1 ≤ a) : a / Nat.gcd a b * b = Nat.lcm a b := by
  unfold Nat.lcm
  obtain ⟨k, hk⟩ := Nat.gcd_dvd_left a b
  have hp : 0 < Nat.gcd a b := Nat.gcd_pos_of_pos_left _ ha
  generalize Nat.gcd a b = g at hk hp
  subst hk
  rw [Nat.mul_div_cancel_left _ hp, Nat.mul_assoc, Nat.mul_div_cancel_left _ hp]
theorem ok_p_common_multiple (T : Env K mg) : FnOk P w K mg base CX0 1 T.f_p_common_multiple T.d_p_common_multiple ["one", "other"] spCommon := by
  refine T.F_p_common_multiple.ok sc_p_common_multiple (fun vs H Q E h => ?_) (fun cdv A outer s H vs Q E hr h => ?_)
  · obtain ⟨a, b, rfl, _⟩ := h
    rfl
  · obtain ⟨a, b, rfl, ha, hb, ha2, hb2, q⟩ := h
    refine ⟨_, pss_cons (ps_set (i := 2) sc_p_common_multiple.nd rfl (.inl rfl) (pv 0)) <|
      pss_cons (ps_set (i := 3) sc_p_common_multiple.nd rfl (.inl rfl) (pv 1)) <|
      pss_cons (ps_while PassesOwn.never (pt_cmpR op_gt (pv 3) pe_int (nomark _))
        (pss_one (ps_par (i := 2) (j := 3) (by rfl) sc_p_common_multiple.nd rfl rfl (by decide) rfl rfl (pa_cons (pv 3) (pa_cons (pe_op op_mod (pv 2) (pv 3)) pa_nil)) (by rfl)))) <|
      pss_one (ps_ret (pe_op op_mul (pe_op op_fdiv (pv 0) (pv 2)) (pv 1))), ?_⟩
    refine ⟨_, rfl, ?_⟩
    refine st_set [some (.int a), some (.int b), some (.int a), none] ?_ rfl
    refine ⟨_, rfl, ?_⟩
    refine st_set [some (.int a), some (.int b), some (.int a), some (.int b)] ?_ rfl
    refine ⟨fun m σ H' => ∃ u : Nat, σ = [some (.int a), some (.int b), some (.int u), some (.int (m : Nat))] ∧ H' = H ∧ Nat.gcd u m = Nat.gcd a b, ⟨b, a, rfl, rfl, rfl⟩, fun m σ H' hW => ?_⟩
    obtain ⟨u, rfl, rfl, hg⟩ := hW
    refine ⟨_, rfl, _, _, rfl, rfl, _, rfl, ite2 (fun c => ?_) (fun c => ?_)⟩
    · have hm : 0 < m := by have := of_decide_eq_true c; omega
      refine ⟨fun σ' H2 => ∃ v : Nat, σ' = [some (.int a), some (.int b), some (.int v), some (.int (u % m : Nat))] ∧ H2 = H' ∧ Nat.gcd v (u % m) = Nat.gcd a b, fun σ' H2 h2 => ⟨u % m, Nat.mod_lt _ hm, h2⟩, ?_⟩
      refine ⟨_, rfl, _, rfl, _, rfl, _, _, rfl, rfl, (show (0 : Int) < (m : Nat) by omega), ⟨_, _, rfl, ?_⟩⟩
      refine ⟨m, ?_, rfl, ?_⟩
      · rw [show (fun i j => V.int (i % j)) (u : Int) (m : Int) = V.int ((u % m : Nat) : Int) from congrArg V.int (by omega)]; rfl
      · rw [← hg, Nat.gcd_comm u m, Nat.gcd_rec m u, Nat.gcd_comm]
    · have hm : m = 0 := by
        by_cases z : m = 0
        · exact z
        · exact absurd (decide_eq_true (show (0 : Int) < (m : Int) by omega)) c
      subst hm
      rw [Nat.gcd_zero_right] at hg
      have hgp : 0 < Nat.gcd a b := Nat.gcd_pos_of_pos_left _ ha
      have hgl : Nat.gcd a b ≤ a := Nat.gcd_le_left _ ha
      have hle : a / Nat.gcd a b ≤ a := Nat.div_le_self _ _
      subst hg
      refine ⟨_, rfl, _, rfl, _, _, rfl, rfl, ⟨by omega, by omega⟩, _, rfl, _, _, rfl, rfl, .inr ⟨by omega, by omega⟩, ?_⟩
      show Q (.int ((a : Int) / (Nat.gcd a b : Nat) * (b : Nat))) H'
      rw [show ((a : Int) / (Nat.gcd a b : Nat) * (b : Nat)) = ((a / Nat.gcd a b * b : Nat) : Int) by rw [Int.natCast_mul, Int.natCast_ediv], lcm_way ha]
      exact q
theorem sq_same {K : PySem.W.Frag} {H H' : Hp} {a : Addr} {xs : List V} (s : Same H H') (h : Sq K H a xs) : Sq K H' a xs := h.elim (fun h => .inl (s.seq h)) (fun h => .inr (same_tup s h))
theorem units1 {k : Nat} {A : Around} (r : Room k A) : A.units + 1 < cLine := by have := r.units; omega
/-! ### where strands go -/
theorem valV_none {kvs : List (Key × V)} {k : Key} (h : ∀ p ∈ kvs, p.1 ≠ k) : valV kvs k = none := by
  induction kvs with
  | nil => rfl
  | cons p r ih => rw [valV_neg (h p List.mem_cons_self)]; exact ih fun q hq => h q (List.mem_cons_of_mem _ hq)
theorem valV_of {us : List Nat} {F : Nat → Key} {G : Nat → V} (inj : ∀ x ∈ us, ∀ y ∈ us, F x = F y → x = y) {x : Nat} (hx : x ∈ us) : valV (us.map fun x => (F x, G x)) (F x) = some (G x) := by
  induction us with
  | nil => exact absurd hx List.not_mem_nil
  | cons u r ih =>
    by_cases e : F u = F x
    · have : u = x := inj u List.mem_cons_self x hx e
      subst this
      exact valV_pos rfl
    · rw [List.map_cons, valV_neg e]
      refine ih (fun a ha b hb => inj a (List.mem_cons_of_mem _ ha) b (List.mem_cons_of_mem _ hb)) ?_
      rcases List.mem_cons.mp hx with h | h
      · exact absurd (by rw [h]) e
      · exact h
theorem dc_range {lo : Int} {n : Nat} {g : TG} {tt : TT} {tk tv : TE} {vs : List Nat} {σ : L2.St} {H1 : Hp} {D : Addr} {Qd : Hp → Prop} (Pv : Nat → Hp → Prop) (h0 : Pv 0 (upd H1 D (.dK [])))
    (hs : ∀ i H, i < n → Pv i H → g (.int (lo + i)) (wipe σ vs) H fun σ2 H2 => wipe σ2 vs = wipe σ vs ∧ tt σ2 H2 fun b H3 =>
      if b = true then tk σ2 H3 fun y H4 => tv σ2 H4 fun z H5 => ∃ kvs k, y = kV k ∧ H5 D = some (.dK kvs) ∧ kvs.length < sizeLine ∧ Pv (i + 1) (upd H5 D (.dK (putK kvs k z))) else Pv (i + 1) H3) (hd : ∀ H, Pv n H → Qd H) :
    ∃ W : Nat → Nat → Hp → Prop, (∃ m, W 0 m (upd H1 D (.dK []))) ∧ ∀ i m H, W i m H →
      ((Itr lo n).stop i H ∧ Qd H) ∨ ((Itr lo n).go i H ∧ ∃ Nx : Hp → Prop, (∀ H', Nx H' → ∃ m', m' < m ∧ W (i + 1) m' H') ∧ ∀ x H', (Itr lo n).yld i H x H' → g x (wipe σ vs) H' fun σ2 H2 => wipe σ2 vs = wipe σ vs ∧ tt σ2 H2 fun b H3 =>
        if b = true then tk σ2 H3 fun y H4 => tv σ2 H4 fun z H5 => ∃ kvs k, y = kV k ∧ H5 D = some (.dK kvs) ∧ kvs.length < sizeLine ∧ Nx (upd H5 D (.dK (putK kvs k z))) else Nx H3) := by
  refine ⟨fun i m H => m = n - i ∧ i ≤ n ∧ Pv i H, ⟨n, by simp, Nat.zero_le _, h0⟩, ?_⟩
  rintro i m H ⟨rfl, hi, p⟩
  by_cases hlt : i < n
  · refine .inr ⟨hlt, Pv (i + 1), fun H' p' => ⟨n - (i + 1), by omega, rfl, hlt, p'⟩, fun x H' y => ?_⟩
    obtain ⟨e, y⟩ := y
    subst e y
    exact hs i _ hlt p
  · have e : i = n := by omega
    subst e
    exact .inl ⟨Nat.le_refl _, hd H p⟩
noncomputable def uls (f : List Nat) (n i : Nat) : List Nat := (List.range i).filter fun x => decide (n ≤ (pw f n n).getD x 0)
noncomputable def mkv (f : List Nat) (n i : Nat) : List (Key × V) := (uls f n i).map fun x => ((.inl (((pw f n n).getD x 0 : Nat) : Int) : Key), V.int (((pw f n (n + 1)).getD x 0 : Nat) : Int))
theorem uls_mem {f : List Nat} {n i x : Nat} : x ∈ uls f n i ↔ x < i ∧ n ≤ (pw f n n).getD x 0 := by
  unfold uls
  rw [List.mem_filter, List.mem_range, decide_eq_true_iff]
theorem uls_step (f : List Nat) (n i : Nat) : uls f n (i + 1) = uls f n i ++ if n ≤ (pw f n n).getD i 0 then [i] else [] := by
  unfold uls
  rw [List.range_succ, List.filter_append]
  congr 1
  by_cases c : n ≤ (pw f n n).getD i 0
  · rw [if_pos c, List.filter_cons_of_pos (by exact decide_eq_true c)]; rfl
  · rw [if_neg c, List.filter_cons_of_neg (by rw [decide_eq_true_iff]; exact c)]; rfl
def spMoves (K : PySem.W.Frag) : Sp := fun vs H Q _ => ∃ (a : Addr) (f : List Nat) (n : Nat), vs = [.ref a] ∧ Sq K H a (nv f) ∧ IsPair (2 * n) f ∧ 0 < n ∧ n ≤ 100 ∧
  ∀ (H' : Hp) (D : Addr), Same H H' → H D = none → H' D = some (.dK (mkv f n n)) → Q (.ref D) H'
theorem ok_p_moves_of_strands (T : Env K mg) : FnOk P w K mg base CX0 5 T.f_p_moves_of_strands T.d_p_moves_of_strands ["sheet"] (spMoves K) := by
  have G0 : FnOk P w K mg base CX0 1 T.f_p_people_of T.d_p_people_of ["sheet"] (spPeople K) := ok_p_people_of T
  have GF : FnOk P w K mg base CX0 3 T.f_p_followed T.d_p_followed ["one", "other"] (spFollowed K) := ok_p_followed T
  have GX : FnOk P w K mg base CX0 4 T.f_p_times T.d_p_times ["sheet", "many"] (spTimes K) := ok_p_times T
  refine T.F_p_moves_of_strands.ok sc_p_moves_of_strands (fun vs H Q E h => ?_) (fun cdv A outer s H vs Q E hr h => ?_)
  · obtain ⟨a, f, n, rfl, _⟩ := h
    rfl
  · obtain ⟨a, f, n, rfl, ha, hf, h0, hn, q⟩ := h
    have h1 := hr.mono (show 1 ≤ 4 by decide)
    have h3 := hr.mono (show 3 ≤ 4 by decide)
    refine ⟨_, pss_cons (ps_set (i := 1) sc_p_moves_of_strands.nd rfl (.inr rfl) (pe_call G0 h1 (by rfl) T.g_p_people_of T.F_p_people_of.kp T.b_p_people_of .nil pass0 (pa_cons (pv 0) pa_nil))) <|
      pss_cons (ps_set (i := 2) sc_p_moves_of_strands.nd rfl (.inr rfl) (pe_call GX hr (by rfl) T.g_p_times T.F_p_times.kp T.b_p_times .nil pass0 (pa_cons (pv 0) (pa_cons (pv 1) pa_nil)))) <|
      pss_cons (ps_set (i := 3) sc_p_moves_of_strands.nd rfl (.inr rfl) (pe_call GF h3 (by rfl) T.g_p_followed T.F_p_followed.kp T.b_p_followed .nil pass0 (pa_cons (pv 2) (pa_cons (pv 0) pa_nil)))) <|
      pss_one (ps_ret (pe_dc (own := [("x", 4)]) (g := gName 4) (tt := tTest (tOp (rI0 fun i j => .bl (decide (j ≤ i))) (tOp (rIxT K) (tVar 2) (tVar 4)) (tVar 1))) (tk := tOp (rIxT K) (tVar 2) (tVar 4)) (tv := tOp (rIxT K) (tVar 3) (tVar 4)) (by rfl) sc_p_moves_of_strands.nd (pi_range1 (by rfl) T.n_range (pa_cons (pv 1) pa_nil)) (blkOk_by (N := N_p_moves_of_strands) (sc := defScope s_p_moves_of_strands) (by decide +kernel))
          (fun _ _ _ _ _ => pg_name (i := 4) sc_p_moves_of_strands.nd rfl (.inl rfl)) (fun _ _ _ _ _ => pts_one (pt_cmpR op_ge (pe_ix ix_tup (pv 2) (pv 4) (fun _ _ => rfl)) (pv 1) (nomark _))) (fun _ _ _ _ _ => pe_ix ix_tup (pv 2) (pv 4) (fun _ _ => rfl)) (fun _ _ _ _ _ => pe_ix ix_tup (pv 3) (pv 4) (fun _ _ => rfl)))), ?_⟩
    refine ⟨.ref a, rfl, a, f, n, rfl, ha, hf.len, ?_⟩
    refine st_set [some (.ref a), some (.int (n : Nat)), none, none, none] ?_ rfl
    refine ⟨.ref a, rfl, _, rfl, a, f, n, n, rfl, ha, hf, h0, by omega, fun H1 t1 s1 n1 e1 => ?_⟩
    refine st_set [some (.ref a), some (.int (n : Nat)), some (.ref t1), none, none] ?_ rfl
    have pn := pw_pair h0 hf n
    have pm := pw_pair h0 hf (n + 1)
    refine ⟨_, rfl, _, rfl, t1, a, _, f, n, rfl, .inr (.inl (.inl e1)), sq_same s1 ha, pn, hf, by omega, fun H2 t2 s2 n2 e2 => ?_⟩
    replace e2 : H2 t2 = some (.tup (nv (pw f n (n + 1)))) := e2
    refine st_set [some (.ref a), some (.int (n : Nat)), some (.ref t1), some (.ref t2), none] ?_ rfl
    refine ⟨_, rfl, _, rfl, by omega, by omega, fun D nD => ?_⟩
    rw [show ((n : Nat) : Int).toNat = n from rfl]
    refine dc_range (n := n) (fun i H' => Same H2 H' ∧ H' D = some (.dK (mkv f n i))) ⟨same_new nD, upd_same⟩ (fun i H' hi h => ?_) (fun H' h => ?_)
    · obtain ⟨sm, eD⟩ := h
      have d1 := pn.d (show i < 2 * n by omega)
      have d2 := pm.d (show i < 2 * n by omega)
      have g1 : atI (nv (pw f n n)) ((0 : Int) + (i : Nat)) = some (.int ((pw f n n).getD i 0 : Nat)) := by rw [Int.zero_add]; exact nv_at d1.2.2.2
      have g2 : atI (nv (pw f n (n + 1))) ((0 : Int) + (i : Nat)) = some (.int ((pw f n (n + 1)).getD i 0 : Nat)) := by rw [Int.zero_add]; exact nv_at d2.2.2.2
      have h1' : SqT K H' t1 (nv (pw f n n)) := .inl (.inl (sm _ _ (s2 _ _ e1)))
      have h2' : SqT K H' t2 (nv (pw f n (n + 1))) := .inl (.inl (sm _ _ e2))
      refine ⟨rfl, _, rfl, _, rfl, t1, _, _, _, rfl, rfl, h1', g1, _, rfl, _, _, rfl, rfl, _, rfl, ?_⟩
      by_cases c : n ≤ (pw f n n).getD i 0
      · rw [decide_eq_true (show (n : Int) ≤ (((pw f n n).getD i 0 : Nat) : Int) by omega)]
        refine iteT ⟨_, rfl, _, rfl, t1, _, _, _, rfl, rfl, h1', g1, _, rfl, _, rfl, t2, _, _, _, rfl, rfl, h2', g2, _, (.inl (((pw f n n).getD i 0 : Nat) : Int) : Key), rfl, eD, ?_, fun y o hy => ?_, ?_⟩
        · unfold mkv; rw [List.length_map]; exact line_big (Nat.le_trans (Nat.le_trans (List.length_filter_le _ _) (by rw [List.length_range]; exact Nat.le_refl _)) (by omega : i ≤ 100000))
        · rw [upd_ne (ne_of_none hy nD)]; exact sm _ _ hy
        · have hno : valV (mkv f n i) (.inl (((pw f n n).getD i 0 : Nat) : Int) : Key) = none := valV_none fun p hp => by
            obtain ⟨x, hx, rfl⟩ := List.mem_map.mp hp
            intro e
            have e' : (((pw f n n).getD x 0 : Nat) : Int) = (((pw f n n).getD i 0 : Nat) : Int) := Sum.inl.inj e
            have hx' := (uls_mem.mp hx).1
            have := pn.inj (show x < 2 * n by omega) (show i < 2 * n by omega) (by omega)
            omega
          rw [upd_same, putK_new _ hno]
          unfold mkv
          rw [uls_step, if_pos c, List.map_append]; rfl
      · rw [decide_eq_false (show ¬ (n : Int) ≤ (((pw f n n).getD i 0 : Nat) : Int) by omega)]
        refine iteF ⟨sm, ?_⟩
        rw [eD]
        unfold mkv
        rw [uls_step, if_neg c, List.append_nil]
    · obtain ⟨sm, eD⟩ := h
      exact q H' D ((s1.trans s2).trans sm) ((s1.trans s2).free nD) eD
/-! ### the period of a sheet -/
theorem PerI.perm {g : Nat → Nat} {ds es : List Nat} {n M p : Nat} (h : PerI g ds n M p) (e : ∀ z, z ∈ ds ↔ z ∈ es) : PerI g es n M p :=
  ⟨h.pos, h.dv, fun q => by rw [← h.per q]; exact ⟨fun k z hz => k z ((e z).mp hz), fun k z hz => k z ((e z).mpr hz)⟩, h.few⟩
def spPeriod (K : PySem.W.Frag) : Sp := fun vs H Q _ => ∃ (a : Addr) (f : List Nat) (n : Nat), vs = [.ref a] ∧ Sq K H a (nv f) ∧ IsPair (2 * n) f ∧ 0 < n ∧ n ≤ 20 ∧
  ∀ (H' : Hp) (p : Nat), PerI (mvs f n) (lse (pw f n n) n) n (lcmTo n) p → Same H H' → Q (.int (p : Nat)) H'
theorem ok_p_period_of_sheet (T : Env K mg) : FnOk P w K mg base CX0 6 T.f_p_period_of_sheet T.d_p_period_of_sheet ["sheet"] (spPeriod K) := by
  have GC : FnOk P w K mg base CX0 1 T.f_p_common_multiple T.d_p_common_multiple ["one", "other"] spCommon := ok_p_common_multiple T
  have GM : FnOk P w K mg base CX0 5 T.f_p_moves_of_strands T.d_p_moves_of_strands ["sheet"] (spMoves K) := ok_p_moves_of_strands T
  refine T.F_p_period_of_sheet.ok sc_p_period_of_sheet (fun vs H Q E h => ?_) (fun cdv A outer s H vs Q E hr h => ?_)
  · obtain ⟨a, f, n, rfl, _⟩ := h
    rfl
  · obtain ⟨a, f, n, rfl, ha, hf, h0, hn, q⟩ := h
    have h1 := hr.mono (show 1 ≤ 5 by decide)
    refine ⟨_, pss_cons (ps_set (i := 1) sc_p_period_of_sheet.nd rfl (.inl rfl) (pe_call GM hr (by rfl) T.g_p_moves_of_strands T.F_p_moves_of_strands.kp T.b_p_moves_of_strands .nil pass0 (pa_cons (pv 0) pa_nil))) <|
      pss_cons (ps_set (i := 2) sc_p_period_of_sheet.nd rfl (.inl rfl) pe_int) <|
      pss_cons (ps_lock (ps_for PassesOwn.never rfl (pi_keys (pv 1)) (pg_name (i := 3) sc_p_period_of_sheet.nd rfl (.inl rfl))
        (pss_cons (ps_set (i := 4) sc_p_period_of_sheet.nd rfl (.inl rfl) pe_int) <|
        pss_cons (ps_set (i := 5) sc_p_period_of_sheet.nd rfl (.inl rfl) (pe_dget (units1 hr) (pv 1) (pv 3) (fun _ _ => rfl))) <|
        pss_cons (ps_while PassesOwn.never (pt_cmpR op_ne (pv 5) (pv 3) (nomark _))
          (pss_cons (ps_aug (i := 4) sc_p_period_of_sheet.nd rfl (.inl rfl) pe_int ip_add) <|
          pss_one (ps_set (i := 5) sc_p_period_of_sheet.nd rfl (.inl rfl) (pe_dget (units1 hr) (pv 1) (pv 5) (fun _ _ => rfl))))) <|
        pss_one (ps_set (i := 2) sc_p_period_of_sheet.nd rfl (.inl rfl) (pe_call GC h1 (by rfl) T.g_p_common_multiple T.F_p_common_multiple.kp T.b_p_common_multiple .nil pass0 (pa_cons (pv 2) (pa_cons (pv 4) pa_nil))))))) <|
      pss_one (ps_ret (pv 2)), ?_⟩
    have pn := pw_pair h0 hf n
    have cl := fun z hz => mvs_mem h0 hf (z := z) hz
    have inj := fun z hz y hy e => mvs_inj h0 hf (z := z) (y := y) hz hy e
    have Bn : (lse (pw f n n) n).length ≤ n := Nat.le_trans (List.length_filter_le _ _) (by rw [List.length_range]; exact Nat.le_refl _)
    refine ⟨.ref a, rfl, a, f, n, rfl, ha, hf, h0, by omega, fun H1 D s1 nD eD => ?_⟩
    refine st_set [some (.ref a), some (.ref D), none, none, none, none] ?_ rfl
    refine ⟨D, _, eD, trivial, fun od => ?_⟩
    have eL : upd H1 D (.frz od (.dK (mkv f n n))) D = some (.frz od (.dK (mkv f n n))) := upd_same
    have back : upd (upd H1 D (.frz od (.dK (mkv f n n)))) D (.dK (mkv f n n)) = H1 := by
      funext b
      by_cases e : b = D
      · rw [e, upd_same, eD]
      · rw [upd_ne e, upd_ne e]
    revert eL back; generalize upd H1 D (.frz od (.dK (mkv f n n))) = HL; intro eL back
    have get : ∀ z, z ∈ lse (pw f n n) n → DGet HL D (.int ((n + z : Nat) : Int)) (some (.int ((n + mvs f n z : Nat) : Int))) := fun z hz => by
      obtain ⟨b1, b2, b3⟩ := lse_back h0 hf 0 hz
      rw [show pw f n (n + 0) = pw f n n from rfl] at b2 b3
      have hst := mvs_step h0 hf 0 b2 (by rw [b3]; omega)
      rw [show pw f n (n + 0) = pw f n n from rfl, show n + 0 + 1 = n + 1 from rfl, b3, show n + z - n = z by omega] at hst
      have e := valV_of (us := uls f n n) (F := fun x => (.inl (((pw f n n).getD x 0 : Nat) : Int) : Key)) (G := fun x => V.int (((pw f n (n + 1)).getD x 0 : Nat) : Int)) (fun x hx y hy e => by
        have e' : (((pw f n n).getD x 0 : Nat) : Int) = (((pw f n n).getD y 0 : Nat) : Int) := Sum.inl.inj e
        have hx' := (uls_mem.mp hx).1
        have hy' := (uls_mem.mp hy).1
        exact pn.inj (show x < 2 * n by omega) (show y < 2 * n by omega) (by omega)) (x := (pw f n n).getD (n + z) 0) (uls_mem.mpr ⟨b2, by rw [b3]; omega⟩)
      rw [b3, hst] at e
      exact .inl ⟨mkv f n n, (.inl ((n + z : Nat) : Int) : Key), .inr ⟨od, eL⟩, rfl, e.symm⟩
    refine ⟨_, rfl, D, od, rfl, .inl ⟨mkv f n n, eL, ?_⟩⟩
    refine for_it walk_keys (fun i σ H' => H' = HL ∧ ∃ (p : Nat) (y3 y4 y5 : Option V), σ = [some (.ref a), some (.ref D), some (.int (p : Nat)), y3, y4, y5] ∧ PerI (mvs f n) (((uls f n n).take i).map fun x => (pw f n n).getD x 0 - n) n (lcmTo n) p) ⟨rfl, 1, none, none, none, rfl, .nil⟩ (fun i σ H' _ h => by rw [h.1]; exact eL) (fun i x σ H' H'' hi h y => ?_) (fun σ H' h => ?_)
    · obtain ⟨rfl, p, y3, y4, y5, rfl, hP⟩ := h
      obtain ⟨rfl, k, v, ek, rfl⟩ := y
      unfold mkv at ek
      rw [List.getElem?_map] at ek
      obtain ⟨u, hu, ek⟩ := Option.map_eq_some_iff.mp ek
      obtain ⟨rfl, rfl⟩ := Prod.mk.inj ek
      have hum := uls_mem.mp (List.mem_of_getElem? hu)
      obtain ⟨z, ez⟩ : ∃ z, z = (pw f n n).getD u 0 - n := ⟨_, rfl⟩
      have hz : z ∈ lse (pw f n n) n := by rw [ez]; exact up_mem h0 hf 0 hum.1 hum.2
      have ekz : (((pw f n n).getD u 0 : Nat) : Int) = ((n + z : Nat) : Int) := by omega
      refine st_set [some (.ref a), some (.ref D), some (.int (p : Nat)), some (.int ((n + z : Nat) : Int)), y4, y5] ?_ (by rw [← ekz]; rfl)
      refine ⟨_, rfl, _, rfl, D, _, rfl, get z hz, ?_⟩
      refine st_set [some (.ref a), some (.ref D), some (.int (p : Nat)), some (.int ((n + z : Nat) : Int)), some (.int (1 : Nat)), some (.int ((n + mvs f n z : Nat) : Int))] ?_ rfl
      obtain ⟨m0, c1, c2, c3⟩ := cyc_ex cl inj hz
      refine ⟨fun m σ H2 => ∃ L : Nat, m = n - L ∧ 1 ≤ L ∧ L ≤ n ∧ H2 = H'' ∧ σ = [some (.ref a), some (.ref D), some (.int (p : Nat)), some (.int ((n + z : Nat) : Int)), some (.int (L : Nat)), some (.int ((n + itn (mvs f n) L z : Nat) : Int))] ∧ ∀ m, 1 ≤ m → m < L → itn (mvs f n) m z ≠ z,
        ⟨n - 1, 1, rfl, Nat.le_refl _, h0, rfl, rfl, fun m h1 h2 => by omega⟩, fun m σ H2 hW => ?_⟩
      obtain ⟨L, rfl, hL1, hLn, rfl, rfl, hL⟩ := hW
      refine ⟨_, rfl, _, rfl, rfl, _, rfl, ite2 (fun c => ?_) (fun c => ?_)⟩
      · have hne : itn (mvs f n) L z ≠ z := fun e => by rw [e, decide_eq_true rfl] at c; exact absurd c (by decide)
        have hlt : L < n := by
          rcases Nat.lt_or_ge L n with d | d
          · exact d
          · rcases Nat.lt_or_ge m0 L with d2 | d2
            · exact absurd c3 (hL m0 c1 d2)
            · exact absurd (by rw [show L = m0 by omega]; exact c3) hne
        refine ⟨fun σ' H3 => H3 = H2 ∧ σ' = [some (.ref a), some (.ref D), some (.int (p : Nat)), some (.int ((n + z : Nat) : Int)), some (.int ((L + 1 : Nat) : Int)), some (.int ((n + itn (mvs f n) (L + 1) z : Nat) : Int))], fun σ' H3 h3 => ⟨n - (L + 1), by omega, L + 1, rfl, by omega, hlt, h3.1, h3.2, fun m h1 h2 => ?_⟩, ?_⟩
        · rcases Nat.lt_or_ge m L with d | d
          · exact hL m h1 d
          · rw [show m = L by omega]; exact hne
        · refine ⟨_, rfl, _, _, rfl, rfl, ?_⟩
          refine st_eq [some (.ref a), some (.ref D), some (.int (p : Nat)), some (.int ((n + z : Nat) : Int)), some (.int ((L + 1 : Nat) : Int)), some (.int ((n + itn (mvs f n) L z : Nat) : Int))] ?_ rfl
          exact ⟨_, rfl, _, rfl, D, _, rfl, get _ (it_mem cl hz L), rfl, rfl⟩
      · have he : itn (mvs f n) L z = z := by
          by_cases d : itn (mvs f n) L z = z
          · exact d
          · exact absurd (by rw [decide_eq_false (fun e => d (by have := V.int.inj e; omega))]; rfl) c
        refine ⟨_, rfl, _, rfl, p, L, rfl, hP.pos, hL1, ?_, by omega, ?_⟩
        · exact Nat.le_trans (hP.le hn) (by decide)
        refine ⟨rfl, Nat.lcm p L, _, _, _, rfl, ?_⟩
        rw [List.take_add_one, hu, List.map_append]
        exact hP.step (by show IsLen (mvs f n) ((pw f n n).getD u 0 - n) L; rw [← ez]; exact ⟨hL1, he, hL⟩) hLn (len_dv hn hLn hL1)
    · obtain ⟨rfl, p, y3, y4, y5, rfl, hP⟩ := h
      refine ⟨eL, ?_⟩
      rw [back]
      refine ⟨_, rfl, q _ p (hP.perm fun z => ?_) s1⟩
      have hl : (mkv f n n).length = (uls f n n).length := by unfold mkv; rw [List.length_map]
      rw [hl, List.take_length, List.mem_map]
      constructor
      · rintro ⟨x, hx, rfl⟩
        have hum := uls_mem.mp hx
        exact up_mem h0 hf 0 hum.1 hum.2
      · intro hz
        obtain ⟨b1, b2, b3⟩ := lse_back h0 hf 0 hz
        rw [show pw f n (n + 0) = pw f n n from rfl] at b2 b3
        exact ⟨_, uls_mem.mpr ⟨b2, by rw [b3]; omega⟩, by rw [b3]; omega⟩
end
end Pc
namespace Pc
open PySem PySem.Spec PyProof.Rows L2 RZ
section
variable {P : Program} {w : World} {K : PySem.W.Frag} {mg : Str → Option Value} {base : Heap}
/-! ### when sheets recur -/
structure SStl (f : List Nat) (n b p : Nat) : Prop where
  per : PerI (mvs f n) (lse (pw f n n) n) n (lcmTo n) p
  rec_ : pw f n (b + p) = pw f n b
  fst : ∀ c, c < b → pw f n (c + p) ≠ pw f n c
theorem SStl.crs {f : List Nat} {n b p : Nat} (hn : 0 < n) (hf : IsPair (2 * n) f) (h : SStl f n b p) {L j : Nat} (h1 : j < L) (h2 : pw f n L = pw f n j) (h3 : ∀ i k, i < L → k < L → pw f n i = pw f n k → i = k) : b = j ∧ p = L - j := by
  have hF : ∀ k, pw f n (k + 1) = fol (pw f n k) f n := fun _ => rfl
  have r := fun {b q : Nat} (hq : 0 < q) => rho (F := fun z => fol z f n) hF h1 h2 h3 (b := b) (q := q) hq
  have hp := h.per.pos
  obtain ⟨g1, g2⟩ := (r hp).mp h.rec_
  have g3 : p ∣ L - j := pw_dvd hn hf h.per (b := j) (by rw [show j + (L - j) = L by omega]; exact h2)
  have hpe := Nat.dvd_antisymm g3 g2
  refine ⟨?_, hpe⟩
  rcases Nat.lt_or_ge j b with c | c
  · exact absurd ((r hp).mpr ⟨Nat.le_refl _, g2⟩) (h.fst j c)
  · omega
def spSSettles (K : PySem.W.Frag) : Sp := fun vs H Q _ => ∃ (n : Nat) (wd : Addr) (us : List V) (qs : List (Nat × Nat)), vs = [.int n, .ref wd] ∧ 0 < n ∧ n ≤ 20 ∧ Sq K H wd us ∧ Items K H us qs ∧ Calls n qs ∧
  ∀ (H' : Hp) (t : Addr) (b p : Nat), SStl (shw n qs (emp n)) n b p → Same H H' → H t = none → H' t = some (.tup [.int (b : Nat), .int (p : Nat)]) → Q (.ref t) H'
theorem ok_p_sheet_settles (T : Env K mg) : FnOk P w K mg base CX0 7 T.f_p_sheet_settles T.d_p_sheet_settles ["size", "word"] (spSSettles K) := by
  have GS : FnOk P w K mg base CX0 5 T.f_p_sheet_of T.d_p_sheet_of ["size", "word"] (spPSheetOf K) := ok_p_sheet_of T
  have GP : FnOk P w K mg base CX0 6 T.f_p_period_of_sheet T.d_p_period_of_sheet ["sheet"] (spPeriod K) := ok_p_period_of_sheet T
  have GX : FnOk P w K mg base CX0 4 T.f_p_times T.d_p_times ["sheet", "many"] (spTimes K) := ok_p_times T
  have Ge : FnOk P w K mg base CX0 1 T.f_p_empty_sheet T.d_p_empty_sheet ["size"] spEmpty := ok_p_empty_sheet T
  have GF : FnOk P w K mg base CX0 3 T.f_p_followed T.d_p_followed ["one", "other"] (spFollowed K) := ok_p_followed T
  refine T.F_p_sheet_settles.ok sc_p_sheet_settles (fun vs H Q E h => ?_) (fun cdv A outer s H vs Q E hr h => ?_)
  · obtain ⟨n, wd, us, qs, rfl, _⟩ := h
    rfl
  · obtain ⟨n, wd, us, qs, rfl, h0, hn, hw, hI, hc, q⟩ := h
    have h1 := hr.mono (show 1 ≤ 6 by decide)
    have h3 := hr.mono (show 3 ≤ 6 by decide)
    have h4 := hr.mono (show 4 ≤ 6 by decide)
    have h5 := hr.mono (show 5 ≤ 6 by decide)
    refine ⟨_, pss_cons (ps_set (i := 2) sc_p_sheet_settles.nd rfl (.inl rfl) (pe_call GS h5 (by rfl) T.g_p_sheet_of T.F_p_sheet_of.kp T.b_p_sheet_of .nil pass0 (pa_cons (pv 0) (pa_cons (pv 1) pa_nil)))) <|
      pss_cons (ps_set (i := 3) sc_p_sheet_settles.nd rfl (.inl rfl) (pe_call GP hr (by rfl) T.g_p_period_of_sheet T.F_p_period_of_sheet.kp T.b_p_period_of_sheet .nil pass0 (pa_cons (pv 2) pa_nil))) <|
      pss_cons (ps_set (i := 4) sc_p_sheet_settles.nd rfl (.inl rfl) (pe_call GX h4 (by rfl) T.g_p_times T.F_p_times.kp T.b_p_times .nil pass0 (pa_cons (pv 2) (pa_cons (pv 3) pa_nil)))) <|
      pss_cons (ps_set (i := 5) sc_p_sheet_settles.nd rfl (.inl rfl) (pe_call Ge h1 (by rfl) T.g_p_empty_sheet T.F_p_empty_sheet.kp T.b_p_empty_sheet .nil pass0 (pa_cons (pv 0) pa_nil))) <|
      pss_cons (ps_set (i := 6) sc_p_sheet_settles.nd rfl (.inl rfl) pe_int) <|
      pss_cons (ps_while PassesOwn.never (pt_cmpR (op_neD hr.units) (pe_call GF h3 (by rfl) T.g_p_followed T.F_p_followed.kp T.b_p_followed .nil pass0 (pa_cons (pv 5) (pa_cons (pv 4) pa_nil))) (pv 5) (nomark _))
        (pss_cons (ps_set (i := 5) sc_p_sheet_settles.nd rfl (.inl rfl) (pe_call GF h3 (by rfl) T.g_p_followed T.F_p_followed.kp T.b_p_followed .nil pass0 (pa_cons (pv 5) (pa_cons (pv 2) pa_nil)))) <|
        pss_one (ps_aug (i := 6) sc_p_sheet_settles.nd rfl (.inl rfl) pe_int ip_add))) <|
      pss_one (ps_ret (pe_tup (pa_cons (pv 6) (pa_cons (pv 3) pa_nil)))), ?_⟩
    obtain ⟨f, hfe⟩ : ∃ f, f = shw n qs (emp n) := ⟨_, rfl⟩
    have hf : IsPair (2 * n) f := by rw [hfe]; exact shw_pair (emp_pair h0) hc
    refine ⟨_, rfl, _, rfl, n, wd, us, qs, rfl, hw, hI, hc, h0, by omega, fun H1 t1 s1 n1 e1 => ?_⟩
    rw [← hfe] at e1
    refine st_set [some (.int n), some (.ref wd), some (.ref t1), none, none, none, none] ?_ rfl
    refine ⟨_, rfl, t1, f, n, rfl, .inr (.inl (.inl e1)), hf, h0, hn, fun H2 p hP s2 => ?_⟩
    refine st_set [some (.int n), some (.ref wd), some (.ref t1), some (.int (p : Nat)), none, none, none] ?_ rfl
    replace e1 := s2 _ _ e1
    refine ⟨_, rfl, _, rfl, t1, f, n, p, rfl, .inr (.inl (.inl e1)), hf, h0, by omega, fun H3 t3 s3 n3 e3 => ?_⟩
    refine st_set [some (.int n), some (.ref wd), some (.ref t1), some (.int (p : Nat)), some (.ref t3), none, none] ?_ rfl
    replace e1 := s3 _ _ e1
    refine ⟨_, rfl, n, rfl, by omega, fun H4 t4 s4 n4 e4 => ?_⟩
    refine st_set [some (.int n), some (.ref wd), some (.ref t1), some (.int (p : Nat)), some (.ref t3), some (.ref t4), none] ?_ rfl
    replace e1 := s4 _ _ e1
    replace e3 := s4 _ _ e3
    have s14 := ((s1.trans s2).trans s3).trans s4
    have pf := pw_pair h0 hf
    refine ⟨fun m σ H' => ∃ (k : Nat) (pr : Addr), m = n - k ∧ k ≤ n ∧ σ = [some (.int n), some (.ref wd), some (.ref t1), some (.int (p : Nat)), some (.ref t3), some (.ref pr), some (.int (k : Nat))] ∧ Same H4 H' ∧ H' pr = some (.tup (nv (pw f n k))) ∧ ∀ c, c < k → pw f n (c + p) ≠ pw f n c,
      ⟨n - 0, 0, t4, rfl, Nat.zero_le _, rfl, Same.refl _, e4, fun c hc => absurd hc (Nat.not_lt_zero _)⟩, fun m σ H' hW => ?_⟩
    obtain ⟨k, pr, rfl, hkn, rfl, sm, ep, hfst⟩ := hW
    refine ⟨_, rfl, _, rfl, pr, t3, pw f n k, pw f n p, n, rfl, .inr (.inl (.inl ep)), .inr (.inl (.inl (sm _ _ e3))), pf k, pf p, by omega, fun H5 t5 s5 n5 e5 => ?_⟩
    rw [pw_add h0 hf k p] at e5
    refine ⟨_, rfl, td (pw f n (k + p)), td (pw f n k), .tup (.inl (.inl e5)) (dp_nats _), .tup (.inl (.inl (s5 _ _ ep))) (dp_nats _), sh_td _, sh_td _, _, rfl, ite2 (fun c => ?_) (fun c => ?_)⟩
    · have hne : pw f n (k + p) ≠ pw f n k := fun e => by
        rw [eqv_td, e, decide_eq_true rfl] at c; exact absurd c (by decide)
      have hlt : k < n := by
        rcases Nat.lt_or_ge k n with d | d
        · exact d
        · refine absurd ?_ hne
          rw [show k = n + (k - n) by omega, (pw_per h0 hf hP (k - n) p).mpr (Nat.dvd_refl _)]
      refine ⟨fun σ' H6 => ∃ pr : Addr, σ' = [some (.int n), some (.ref wd), some (.ref t1), some (.int (p : Nat)), some (.ref t3), some (.ref pr), some (.int ((k + 1 : Nat) : Int))] ∧ Same H4 H6 ∧ H6 pr = some (.tup (nv (pw f n (k + 1)))), fun σ' H6 h6 => ?_, ?_⟩
      · obtain ⟨pr', r1, r2, r3⟩ := h6
        refine ⟨n - (k + 1), by omega, k + 1, pr', rfl, hlt, r1, r2, r3, fun c hc => ?_⟩
        rcases Nat.lt_or_ge c k with d | d
        · exact hfst c d
        · rw [show c = k by omega]; exact hne
      · refine ⟨_, rfl, _, rfl, pr, t1, pw f n k, f, n, rfl, .inr (.inl (.inl (s5 _ _ ep))), .inr (.inl (.inl (s5 _ _ (sm _ _ e1)))), pf k, hf, by omega, fun H6 t6 s6 n6 e6 => ?_⟩
        refine st_set [some (.int n), some (.ref wd), some (.ref t1), some (.int (p : Nat)), some (.ref t3), some (.ref t6), some (.int (k : Nat))] ?_ rfl
        exact ⟨_, rfl, _, _, rfl, rfl, t6, rfl, (sm.trans s5).trans s6, e6⟩
    · have heq : pw f n (k + p) = pw f n k := by
        by_cases d : pw f n (k + p) = pw f n k
        · exact d
        · exact absurd (by rw [eqv_td, decide_eq_false d]; rfl) c
      refine ⟨_, rfl, _, rfl, by show 2 ≤ sizeLine; decide, fun t nt => ?_⟩
      have sA := (s14.trans sm).trans s5
      refine q _ t k p ?_ (sA.trans (same_new nt)) (sA.free nt) upd_same
      rw [← hfe]
      exact ⟨hP, heq, hfst⟩
end
end Pc
namespace Pc
/-! ### how soon sheets recur -/
theorem pw_lcm {f : List Nat} {n : Nat} (hn : 0 < n) (h20 : n ≤ 20) (hf : IsPair (2 * n) f) : pw f n (n + lcmTo n) = pw f n n := by
  have cl := fun z hz => mvs_mem hn hf (z := z) hz
  have inj := fun z hz y hy e => mvs_inj hn hf (z := z) (y := y) hz hy e
  refine (pw_same hn hf (lcmTo n) 0).mpr fun z hz => ?_
  obtain ⟨m, m1, m2, m3⟩ := cyc_ex cl inj hz
  have hm : m ≤ n := Nat.le_trans m2 (Nat.le_trans (List.length_filter_le _ _) (by rw [List.length_range]; exact Nat.le_refl _))
  obtain ⟨t, ht⟩ := len_dv h20 hm m1
  rw [ht]
  exact itn_mul m3 t
theorem pw_few {f : List Nat} {n k : Nat} (hn : 0 < n) (h12 : n ≤ 16) (hf : IsPair (2 * n) f) (hd : ∀ i j, i < k → j < k → pw f n i = pw f n j → i = j) : k ≤ 720740 := by
  have hl : lcmTo n ≤ 720720 ∧ 0 < lcmTo n := by
    refine ⟨?_, (lcmTo_pos n).1⟩
    unfold lcmTo
    split
    · decide
    · exact Nat.le_refl _
  rcases Nat.lt_or_ge (n + lcmTo n) k with c | c
  · have := hd (n + lcmTo n) n c (by omega) (pw_lcm hn (by omega) hf)
    omega
  · omega
theorem pw_emp {n : Nat} (hn : 0 < n) : pw (emp n) n 1 = pw (emp n) n 0 := by
  show fol (emp n) (emp n) n = emp n
  exact fol_emp hn (emp_pair hn)
theorem pw_add1 {n : Nat} {qs : List (Nat × Nat)} (hn : 0 < n) (hc : Calls n qs) (k : Nat) : shw n qs (pw (shw n qs (emp n)) n k) = pw (shw n qs (emp n)) n (k + 1) :=
  (fol_word hn (pw_pair hn (shw_pair (emp_pair hn) hc) k) hc).symm
end Pc
namespace Pc
open PySem PySem.Spec PyProof.Rows L2 RZ
/-- a comprehension over a list or a tuple that stays as it is -/
theorem lc_seq' {K : PySem.W.Frag} {a : Addr} {xs : List V} {g : TG} {tt : TT} {te : TE} {vs : List Nat} {σ : L2.St} {H0 H1 : Hp} {Qd : Addr → Hp → Prop} (hS : Sq K H0 a xs) (s0 : Same H0 H1)
    (step : ∀ D, H1 D = none → ∃ Pv : Nat → Hp → Prop, Pv 0 (upd H1 D (.lst [])) ∧ (∀ i H', Pv i H' → Same H0 H') ∧ (∀ i x H', xs[i]? = some x → Pv i H' → g x (wipe σ vs) H' fun σ2 H2 => wipe σ2 vs = wipe σ vs ∧ tt σ2 H2 fun b H3 =>
      if b = true then te σ2 H3 fun y H4 => ∃ acc, H4 D = some (.lst acc) ∧ acc.length < sizeLine ∧ Pv (i + 1) (upd H4 D (.lst (acc ++ [y]))) else Pv (i + 1) H3) ∧ ∀ H', Pv xs.length H' → Qd D H') :
    ((∃ ys, SqL K H1 a ys) ∧ ∀ D, H1 D = none → ∃ W : Nat → Nat → Hp → Prop, (∃ m, W 0 m (upd H1 D (.lst []))) ∧ ∀ i m H, W i m H → ((Itl K a).stop i H ∧ Qd D H) ∨ ((Itl K a).go i H ∧ ∃ Nx : Hp → Prop, (∀ H', Nx H' → ∃ m', m' < m ∧ W (i + 1) m' H') ∧ ∀ x H', (Itl K a).yld i H x H' → g x (wipe σ vs) H' fun σ2 H2 => wipe σ2 vs = wipe σ vs ∧ tt σ2 H2 fun b H3 =>
        if b = true then te σ2 H3 fun y H4 => ∃ acc, H4 D = some (.lst acc) ∧ acc.length < sizeLine ∧ Nx (upd H4 D (.lst (acc ++ [y]))) else Nx H3)) ∨
    ((∃ ys, SqT K H1 a ys) ∧ ∀ D, H1 D = none → ∃ W : Nat → Nat → Hp → Prop, (∃ m, W 0 m (upd H1 D (.lst []))) ∧ ∀ i m H, W i m H → ((Itt K a).stop i H ∧ Qd D H) ∨ ((Itt K a).go i H ∧ ∃ Nx : Hp → Prop, (∀ H', Nx H' → ∃ m', m' < m ∧ W (i + 1) m' H') ∧ ∀ x H', (Itt K a).yld i H x H' → g x (wipe σ vs) H' fun σ2 H2 => wipe σ2 vs = wipe σ vs ∧ tt σ2 H2 fun b H3 =>
        if b = true then te σ2 H3 fun y H4 => ∃ acc, H4 D = some (.lst acc) ∧ acc.length < sizeLine ∧ Nx (upd H4 D (.lst (acc ++ [y]))) else Nx H3)) := by
  rcases hS with h | h
  · refine .inl ⟨⟨_, s0.seq h⟩, fun D nD => ?_⟩
    obtain ⟨Pv, h0, hst, hs, hd⟩ := step D nD
    exact lc_list Pv h0 (fun i H' _ p => (hst i H' p).seq h) hs hd
  · refine .inr ⟨⟨_, same_tup s0 h⟩, fun D nD => ?_⟩
    obtain ⟨Pv, h0, hst, hs, hd⟩ := step D nD
    exact lc_tup Pv h0 (fun i H' _ p => same_tup (hst i H' p) h) hs hd
end Pc
namespace Pc
open PySem PySem.Spec PyProof.Rows L2 RZ
/-! ### moved lists -/
structure Mvd (n : Nat) (js pl r : List Nat) : Prop where
  len : r.length = n
  at_ : ∀ i, i < n → r.getD (pl.getD i 0) 0 = pl.getD (js.getD i 0) 0
theorem pm_len {n : Nat} {pl : List Nat} (hp : pl.Perm (List.range n)) : pl.length = n := by rw [hp.length_eq, List.length_range]
theorem getD_some {l : List Nat} {i : Nat} (h : i < l.length) : l[i]? = some (l.getD i 0) := by rw [List.getD_eq_getElem?_getD, List.getElem?_eq_getElem h]; rfl
theorem pm_lt {n : Nat} {pl : List Nat} (hp : pl.Perm (List.range n)) {i : Nat} (hi : i < n) : pl.getD i 0 < n := by
  have := List.mem_of_getElem? (getD_some (l := pl) (i := i) (by rw [pm_len hp]; exact hi))
  exact List.mem_range.mp (hp.mem_iff.mp this)
theorem pm_inj {n : Nat} {pl : List Nat} (hp : pl.Perm (List.range n)) {i j : Nat} (hi : i < n) (hj : j < n) (e : pl.getD i 0 = pl.getD j 0) : i = j := by
  have hl := pm_len hp
  have a := getD_some (l := pl) (i := i) (by omega)
  have b := getD_some (l := pl) (i := j) (by omega)
  rw [e] at a
  exact nd_ix (hp.nodup_iff.mpr List.nodup_range) a b
theorem pm_sur {n : Nat} {pl : List Nat} (hp : pl.Perm (List.range n)) {y : Nat} (hy : y < n) : ∃ i, i < n ∧ pl.getD i 0 = y := by
  obtain ⟨i, hi, e⟩ := List.mem_iff_getElem.mp (hp.mem_iff.mpr (List.mem_range.mpr hy))
  refine ⟨i, by rw [← pm_len hp]; exact hi, ?_⟩
  rw [List.getD_eq_getElem?_getD, List.getElem?_eq_getElem hi, e]; rfl
theorem Mvd.det {n : Nat} {js pl r r' : List Nat} (hp : pl.Perm (List.range n)) (h : Mvd n js pl r) (g : Mvd n js pl r') : r = r' := by
  refine list_d (by rw [h.len, g.len]) fun y hy => ?_
  rw [h.len] at hy
  obtain ⟨i, hi, rfl⟩ := pm_sur hp hy
  rw [h.at_ i hi, g.at_ i hi]
theorem Mvd.pair {n : Nat} {js pl r : List Nat} (hp : pl.Perm (List.range n)) (hj : IsPair n js) (h : Mvd n js pl r) : IsPair n r := by
  refine ⟨h.len, fun x hx => ?_⟩
  obtain ⟨i, hi, rfl⟩ := pm_sur hp hx
  obtain ⟨j1, j2, j3, _⟩ := hj.d hi
  have hlt := pm_lt hp j1
  refine ⟨pl.getD (js.getD i 0) 0, ?_, hlt, fun e => j2 (pm_inj hp j1 hi e), ?_⟩
  · rw [getD_some (by rw [h.len]; exact hx), h.at_ i hi]
  · rw [getD_some (by rw [h.len]; exact hlt), h.at_ _ j1, j3]
theorem getD_set (fs : List Nat) {a z v : Nat} (ha : a < fs.length) : (fs.set a v).getD z 0 = if z = a then v else fs.getD z 0 := by
  rw [List.getD_eq_getElem?_getD, List.getElem?_set]
  by_cases c : z = a
  · rw [if_pos c, if_pos c.symm, if_pos ha]; rfl
  · rw [if_neg c, if_neg (Ne.symm c), ← List.getD_eq_getElem?_getD]
def MvI (n : Nat) (js pl fs : List Nat) (i : Nat) : Prop := fs.length = n ∧ ∀ j, j < i → fs.getD (pl.getD j 0) 0 = pl.getD (js.getD j 0) 0
theorem MvI.step {n i : Nat} {js pl fs : List Nat} (hp : pl.Perm (List.range n)) (hi : i < n) (h : MvI n js pl fs i) : MvI n js pl (fs.set (pl.getD i 0) (pl.getD (js.getD i 0) 0)) (i + 1) := by
  refine ⟨by rw [List.length_set]; exact h.1, fun j hj => ?_⟩
  rw [getD_set fs (by rw [h.1]; exact pm_lt hp hi)]
  by_cases c : j = i
  · subst c; rw [if_pos rfl]
  · rw [if_neg (fun e => c (pm_inj hp (by omega) hi e))]
    exact h.2 j (by omega)
/-- the new places of the ends -/
def pl2 (n : Nat) (pl : List Nat) : List Nat := pl ++ pl.map (n + ·)
theorem pl2_lo {n e : Nat} {pl : List Nat} (hl : pl.length = n) (he : e < n) : (pl2 n pl).getD e 0 = pl.getD e 0 := by
  unfold pl2
  rw [List.getD_eq_getElem?_getD, List.getElem?_append_left (by omega), ← List.getD_eq_getElem?_getD]
theorem pl2_hi {n e : Nat} {pl : List Nat} (hl : pl.length = n) (he : e < n) : (pl2 n pl).getD (n + e) 0 = n + pl.getD e 0 := by
  unfold pl2
  rw [List.getD_eq_getElem?_getD, List.getElem?_append_right (by omega), hl, show n + e - n = e by omega, List.getElem?_map, getD_some (by omega)]; rfl
theorem pl2_perm {n : Nat} {pl : List Nat} (hp : pl.Perm (List.range n)) : (pl2 n pl).Perm (List.range (2 * n)) := by
  have e : List.range (2 * n) = List.range n ++ (List.range n).map (n + ·) := by rw [show 2 * n = n + n by omega, List.range_add]
  rw [e]
  exact hp.append (hp.map _)
/-- two groups, one behind the other -/
def jnd (a b : List Nat) : List Nat := a ++ b.map (a.length + ·)
theorem jnd_lo {a b : List Nat} {e : Nat} (he : e < a.length) : (jnd a b).getD e 0 = a.getD e 0 := by
  unfold jnd
  rw [List.getD_eq_getElem?_getD, List.getElem?_append_left he, ← List.getD_eq_getElem?_getD]
theorem jnd_hi {a b : List Nat} {e : Nat} (he : e < b.length) : (jnd a b).getD (a.length + e) 0 = a.length + b.getD e 0 := by
  unfold jnd
  rw [List.getD_eq_getElem?_getD, List.getElem?_append_right (by omega), show a.length + e - a.length = e by omega, List.getElem?_map, getD_some he]; rfl
theorem jnd_len (a b : List Nat) : (jnd a b).length = a.length + b.length := by unfold jnd; rw [List.length_append, List.length_map]
theorem jnd_pair {n m : Nat} {a b : List Nat} (ha : IsPair n a) (hb : IsPair m b) : IsPair (n + m) (jnd a b) := by
  have la := ha.len
  have lb := hb.len
  refine ⟨by rw [jnd_len, la, lb], fun x hx => ?_⟩
  by_cases c : x < n
  · obtain ⟨h1, h2, h3, _⟩ := ha.d c
    refine ⟨a.getD x 0, ?_, by omega, h2, ?_⟩
    · rw [getD_some (by rw [jnd_len]; omega), jnd_lo (by omega)]
    · rw [getD_some (by rw [jnd_len]; omega), jnd_lo (by omega), h3]
  · obtain ⟨y, rfl⟩ : ∃ y, x = a.length + y := ⟨x - n, by omega⟩
    obtain ⟨h1, h2, h3, _⟩ := hb.d (show y < m by omega)
    refine ⟨a.length + b.getD y 0, ?_, by omega, by omega, ?_⟩
    · rw [getD_some (by rw [jnd_len]; omega), jnd_hi (by omega)]
    · rw [getD_some (by rw [jnd_len]; omega), jnd_hi (by omega), h3]
/-- where the ends of two sheets side by side go -/
def plj (n m : Nat) : List Nat := List.range n ++ (List.range n).map (n + m + ·) ++ (List.range m).map (n + ·) ++ (List.range m).map (n + m + n + ·)
end Pc
namespace Pc
open PySem PySem.Spec PyProof.Rows L2 RZ
theorem cut_tk (vs : List V) (i : Nat) : cutV vs none (some (i : Int)) = vs.take i := by
  unfold cutV
  rw [HT.sIx_none, HT.sIx_nat, List.drop_zero, Nat.sub_zero]
  by_cases h : i ≤ vs.length
  · rw [Nat.min_eq_left h]
  · rw [Nat.min_eq_right (by omega), List.take_of_length_le (Nat.le_refl _), List.take_of_length_le (by omega)]
theorem cut_dr (vs : List V) (i : Nat) : cutV vs (some (i : Int)) none = vs.drop i := by
  unfold cutV
  rw [HT.sIx_none, HT.sIx_nat]
  by_cases h : i ≤ vs.length
  · rw [Nat.min_eq_left h, List.take_of_length_le (by rw [List.length_drop]; omega)]
  · rw [Nat.min_eq_right (by omega), List.drop_of_length_le (Nat.le_refl _), List.drop_of_length_le (by omega), List.take_nil]
theorem rng_take (n m : Nat) : (List.range (n + m)).take n = List.range n := by
  rw [List.range_add, List.take_append_of_le_length (by rw [List.length_range]; exact Nat.le_refl _), List.take_of_length_le (by rw [List.length_range]; exact Nat.le_refl _)]
theorem rng_drop (n m : Nat) : (List.range (n + m)).drop n = (List.range m).map (n + ·) := by
  rw [List.range_add, List.drop_append_of_le_length (by rw [List.length_range]; exact Nat.le_refl _), List.drop_of_length_le (by rw [List.length_range]; exact Nat.le_refl _), List.nil_append]
theorem nv_take (l : List Nat) (k : Nat) : (nv l).take k = nv (l.take k) := by unfold nv; rw [List.map_take]
theorem nv_drop (l : List Nat) (k : Nat) : (nv l).drop k = nv (l.drop k) := by unfold nv; rw [List.map_drop]
theorem nv_app (l m : List Nat) : nv l ++ nv m = nv (l ++ m) := by unfold nv; rw [List.map_append]
theorem plj_perm (n m : Nat) : (plj n m).Perm (List.range (2 * (n + m))) := by
  have e : List.range (2 * (n + m)) = List.range n ++ ((List.range m).map (n + ·) ++ ((List.range n).map (n + m + ·) ++ (List.range m).map (n + m + n + ·))) := by
    rw [show 2 * (n + m) = (n + m) + (n + m) by omega, List.range_add, List.range_add (n := n), List.map_append, List.map_map, List.append_assoc]
    refine congrArg (fun z => List.range n ++ (List.map (fun x => n + x) (List.range m) ++ (List.map (fun x => n + m + x) (List.range n) ++ z))) (List.map_congr_left fun x _ => ?_)
    show n + m + (n + x) = _
    omega
  rw [e]
  unfold plj
  rw [List.append_assoc, List.append_assoc]
  refine List.Perm.append_left _ ?_
  rw [← List.append_assoc, ← List.append_assoc]
  exact List.Perm.append_right _ List.perm_append_comm
theorem plj_len (n m : Nat) : (plj n m).length = 2 * (n + m) := by rw [(plj_perm n m).length_eq, List.length_range]
theorem getD_app1 {a b : List Nat} {e : Nat} (h : e < a.length) : (a ++ b).getD e 0 = a.getD e 0 := by rw [List.getD_eq_getElem?_getD, List.getElem?_append_left h, ← List.getD_eq_getElem?_getD]
theorem getD_app2 {a b : List Nat} {e k : Nat} (h : a.length = k) : (a ++ b).getD (k + e) 0 = b.getD e 0 := by rw [List.getD_eq_getElem?_getD, List.getElem?_append_right (by omega), h, show k + e - k = e by omega, ← List.getD_eq_getElem?_getD]
theorem getD_shift {k n e : Nat} (h : e < n) : ((List.range n).map (k + ·)).getD e 0 = k + e := by
  rw [List.getD_eq_getElem?_getD, List.getElem?_map, List.getElem?_range h]; rfl
/-- the first sheet's ends -/
def p1 (n m e : Nat) : Nat := if e < n then e else m + e
/-- the second sheet's ends -/
def p2 (n m e : Nat) : Nat := if e < m then n + e else n + n + e
theorem plj_1 {n m e : Nat} (h : e < 2 * n) : (plj n m).getD e 0 = p1 n m e := by
  unfold plj p1
  rw [getD_app1 (by simp; omega), getD_app1 (by simp; omega)]
  by_cases c : e < n
  · rw [getD_app1 (by simpa using c), if_pos c, List.getD_eq_getElem?_getD, List.getElem?_range c]; rfl
  · obtain ⟨z, rfl⟩ : ∃ z, e = n + z := ⟨e - n, by omega⟩
    rw [getD_app2 (by simp), getD_shift (by omega), if_neg c]; omega
theorem plj_2 {n m e : Nat} (h : e < 2 * m) : (plj n m).getD (2 * n + e) 0 = p2 n m e := by
  unfold plj p2
  by_cases c : e < m
  · rw [getD_app1 (by simp; omega), getD_app2 (by simp; omega), getD_shift c, if_pos c]
  · obtain ⟨z, rfl⟩ : ∃ z, e = m + z := ⟨e - m, by omega⟩
    rw [show 2 * n + (m + z) = (2 * n + m) + z by omega, getD_app2 (by simp; omega), getD_shift (by omega), if_neg c]; omega
end Pc
namespace Pc
open PySem PySem.Spec PyProof.Rows L2 RZ
theorem prs_take' {H : Hp} : ∀ {as : List Addr} {qs : List (Nat × Nat)} (i : Nat), Prs H as qs → Prs H (as.take i) (qs.take i)
  | _, _, 0, _ => .nil
  | _, _, _ + 1, .nil => .nil
  | _, _, i + 1, .cons h r => .cons h (prs_take' i r)
theorem rgc_pairs {m : Nat} (h : m ≤ 100000) : RgC 0 ((m : Int) - 2) 2 ((m - 1) / 2) := by
  have e : Builtin.Range.rangeSize 0 ((m : Int) - 2) 2 = (((m - 1) / 2 : Nat) : Int) := by
    unfold Builtin.Range.rangeSize
    rw [if_pos (by decide)]
    split <;> omega
  refine ⟨by decide, by decide, ?_, e⟩
  unfold Builtin.Range.small
  rw [e, fits_long (i := 0) (by decide) (by decide), fits_long (i := (m : Int) - 2) (by omega) (by omega), fits_long (i := 2) (by decide) (by decide), fits_long (i := (((m - 1) / 2 : Nat) : Int)) (by omega) (by omega), if_pos (by decide), fits_long (i := (m : Int) - 2 + (2 - 1)) (by omega) (by omega), Bool.or_true]
  rfl
section
variable {P : Program} {w : World} {K : PySem.W.Frag} {mg : Str → Option Value} {base : Heap}
/-! ### settling -/
def spWord (K : PySem.W.Frag) : Sp := fun vs H Q _ => ∃ (a : Addr) (f : List Nat) (n : Nat), vs = [.ref a] ∧ Sq K H a (nv f) ∧ IsPair (2 * n) f ∧ n ≤ 500 ∧
  ∀ (H' : Hp) (p : Addr) (as : List Addr), Same H H' → H p = none → H' p = some (.lst (as.map V.ref)) → Prs H' as (sw (lse f n)) → Q (.ref p) H'
theorem ok_p_word_to_settle (T : Env K mg) : FnOk P w K mg base CX0 3 T.f_p_word_to_settle T.d_p_word_to_settle ["sheet"] (spWord K) := by
  have G0 : FnOk P w K mg base CX0 2 T.f_p_loose_people T.d_p_loose_people ["sheet"] (spLoose K) := ok_p_loose_people T
  refine T.F_p_word_to_settle.ok sc_p_word_to_settle (fun vs H Q E h => ?_) (fun cdv A outer s H vs Q E hr h => ?_)
  · obtain ⟨a, f, n, rfl, _⟩ := h
    rfl
  · obtain ⟨a, f, n, rfl, ha, hf, hn, q⟩ := h
    refine ⟨_, pss_cons (ps_set (i := 1) sc_p_word_to_settle.nd rfl (.inr rfl) (pe_call G0 hr (by rfl) T.g_p_loose_people T.F_p_loose_people.kp T.b_p_loose_people .nil pass0 (pa_cons (pv 0) pa_nil))) <|
      pss_one (ps_ret (pe_lc (own := [("at", 2)]) (g := gName 2) (tt := tYes) (te := tTup (tCons (tOp (rIxL K) (tVar 1) (tVar 2)) (tCons (tOp (rIxL K) (tVar 1) (tOp (rI0 fun i j => .int (i + j)) (tVar 2) (tC (.int 1)))) tNil))) rfl sc_p_word_to_settle.nd
        (pi_range3 (by rfl) T.n_range (pa_cons pe_int (pa_cons (pe_op op_sub (pe_callB call_len_seq (by rfl) T.n_len PySem.boot_len (pa_cons (pv 1) pa_nil)) pe_int) (pa_cons pe_int pa_nil)))) (blkOk_by (N := N_p_word_to_settle) (sc := defScope s_p_word_to_settle) (by decide +kernel)) (fun _ _ _ _ _ => pg_name (i := 2) sc_p_word_to_settle.nd rfl (.inl rfl)) (fun _ _ _ _ _ => pts_nil)
        (fun _ _ _ _ _ => pe_tup (pa_cons (pe_ix ix_list (pv 1) (pv 2) (fun _ _ => rfl)) (pa_cons (pe_ix ix_list (pv 1) (pe_op op_add (pv 2) pe_int) (fun _ _ => rfl)) pa_nil))))), ?_⟩
    refine ⟨.ref a, rfl, a, f, n, rfl, ha, hf, hn, fun H1 l s1 nl el => ?_⟩
    have hle := lse_le f n
    refine ⟨_, rfl, l, _, rfl, .inl (.inl (.inl el)), _, 2, rfl, rfl, 0, _, 2, ((lse f n).length - 1) / 2, rfl, ?_, fun D nD => ?_⟩
    · show RgC 0 (((nv (lse f n)).length : Int) - 2) 2 _
      rw [nv_length]; exact rgc_pairs (by omega)
    refine lc_it (walk_rangeC (n := ((lse f n).length - 1) / 2)) (fun i H' => Same H1 H' ∧ ∃ as : List Addr, H' D = some (.lst (as.map V.ref)) ∧ Prs H' as ((sw (lse f n)).take i)) ⟨same_new nD, [], upd_same, .nil⟩ (fun _ _ _ _ => trivial) (fun i x H2 H3 hi hPv yy => ?_) (fun H' hPv => ?_)
    · obtain ⟨sm, as, eD, hA⟩ := hPv
      obtain ⟨rfl, rfl⟩ := yy
      have g1 : (lse f n)[2 * i]? = some ((lse f n).getD (2 * i) 0) := by rw [List.getD_eq_getElem?_getD, List.getElem?_eq_getElem (by omega)]; rfl
      have g2 : (lse f n)[2 * i + 1]? = some ((lse f n).getD (2 * i + 1) 0) := by rw [List.getD_eq_getElem?_getD, List.getElem?_eq_getElem (by omega)]; rfl
      have ea : atI (nv (lse f n)) ((0 : Int) + (i : Nat) * 2) = some (.int (((lse f n).getD (2 * i) 0 : Nat) : Int)) := by
        rw [show (0 : Int) + (i : Nat) * 2 = ((2 * i : Nat) : Int) by omega]; exact nv_at g1
      have eb : atI (nv (lse f n)) ((0 : Int) + (i : Nat) * 2 + 1) = some (.int (((lse f n).getD (2 * i + 1) 0 : Nat) : Int)) := by
        rw [show (0 : Int) + (i : Nat) * 2 + 1 = ((2 * i + 1 : Nat) : Int) by omega]; exact nv_at g2
      have hl : SqL K H3 l (nv (lse f n)) := .inl (.inl (sm _ _ el))
      refine ⟨rfl, yes_if ⟨_, rfl, _, rfl, l, _, _, _, rfl, rfl, hl, ea, _, rfl, _, rfl, _, 1, rfl, rfl, l, _, _, _, rfl, rfl, hl, eb, by show 2 ≤ sizeLine; decide, fun u nu => ⟨_, same_new nu _ _ eD, ?_, fun z o hz => ?_, as ++ [u], ?_, ?_⟩⟩⟩
      · rw [List.length_map, hA.length, List.length_take]; exact small1000 (by omega)
      · rw [upd_ne (ne_of_none hz nD)]; exact same_new nu _ _ (sm _ _ hz)
      · rw [upd_same, List.map_append]; rfl
      · have uD : u ≠ D := fun z => by rw [z, eD] at nu; cases nu
        have ej : (sw (lse f n))[i]? = some ((lse f n).getD (2 * i) 0, (lse f n).getD (2 * i + 1) 0) := by rw [sw_eq, List.getElem?_map, List.getElem?_range hi]; rfl
        rw [List.take_add_one, ej]
        refine prs_append (prs_keep (b := D) keep_upd (same_new nu _ _ eD) (prs_same (same_new nu) hA)) (.cons ?_ .nil)
        rw [upd_ne uD, upd_same]
    · obtain ⟨sm, as, eD, hA⟩ := hPv
      rw [← sw_len, List.take_length] at hA
      exact q H' D as (s1.trans sm) (s1.free nD) eD hA
def spFewSet (K : PySem.W.Frag) : Sp := fun vs H Q _ => ∃ (a : Addr) (f : List Nat) (n : Nat), vs = [.ref a] ∧ Sq K H a (nv f) ∧ IsPair (2 * n) f ∧ n ≤ 500 ∧ ∀ H', Same H H' → Q (.int (((lse f n).length - 1) / 2 : Nat)) H'
theorem ok_p_fewest_to_settle (T : Env K mg) : FnOk P w K mg base CX0 4 T.f_p_fewest_to_settle T.d_p_fewest_to_settle ["sheet"] (spFewSet K) := by
  have G0 : FnOk P w K mg base CX0 3 T.f_p_word_to_settle T.d_p_word_to_settle ["sheet"] (spWord K) := ok_p_word_to_settle T
  refine T.F_p_fewest_to_settle.ok sc_p_fewest_to_settle (fun vs H Q E h => ?_) (fun cdv A outer s H vs Q E hr h => ?_)
  · obtain ⟨a, f, n, rfl, _⟩ := h
    rfl
  · obtain ⟨a, f, n, rfl, ha, hf, hn, q⟩ := h
    refine ⟨_, pss_one (ps_ret (pe_callB call_len_seq (by rfl) T.n_len PySem.boot_len (pa_cons (pe_call G0 hr (by rfl) T.g_p_word_to_settle T.F_p_word_to_settle.kp T.b_p_word_to_settle .nil pass0 (pa_cons (pv 0) pa_nil)) pa_nil))), ?_⟩
    refine ⟨.ref a, rfl, a, f, n, rfl, ha, hf, hn, fun H1 l as s1 nl el hA => ⟨l, _, rfl, .inl (.inl (.inl el)), ?_⟩⟩
    have := q H1 s1
    rw [← sw_len, ← hA.length, ← List.length_map (f := V.ref)] at this
    exact this
end
end Pc
namespace Pc
open PySem PySem.Spec PyProof.Rows L2 RZ
theorem cut_last (vs : List V) : cutV vs none (some (-1)) = vs.dropLast := by
  unfold cutV
  rw [HT.sIx_none, List.drop_zero, Nat.sub_zero, List.dropLast_eq_take]
  cases vs with
  | nil => rfl
  | cons v r =>
    congr 1
    unfold HT.sIx
    simp
    omega
section
variable {P : Program} {w : World} {K : PySem.W.Frag} {mg : Str → Option Value} {base : Heap}
def spSettle (K : PySem.W.Frag) : Sp := fun vs H Q _ => ∃ (a : Addr) (ps : List Nat), vs = [.ref a] ∧ Sq K H a (nv ps) ∧ ps.length ≤ 1000 ∧
  ∀ (H' : Hp) (p : Addr) (as : List Addr), Same H H' → H p = none → H' p = some (.lst (as.map V.ref)) → Prs H' as (cpl ps).dropLast → Q (.ref p) H'
theorem prs_drop {H : Hp} {as : List Addr} {qs : List (Nat × Nat)} (h : Prs H as qs) : Prs H as.dropLast qs.dropLast := by
  rw [List.dropLast_eq_take, List.dropLast_eq_take, h.length]
  exact prs_take' _ h
theorem ok_p_settle_word (T : Env K mg) : FnOk P w K mg base CX0 2 T.f_p_settle_word T.d_p_settle_word ["pairing"] (spSettle K) := by
  have G0 : FnOk P w K mg base CX0 1 T.f_p_couples T.d_p_couples ["pairing"] (spCouples K) := ok_p_couples T
  refine T.F_p_settle_word.ok sc_p_settle_word (fun vs H Q E h => ?_) (fun cdv A outer s H vs Q E hr h => ?_)
  · obtain ⟨a, ps, rfl, _⟩ := h
    rfl
  · obtain ⟨a, ps, rfl, ha, hn, q⟩ := h
    refine ⟨_, pss_one (ps_ret (pe_slice sl_list (pe_call G0 hr (by rfl) T.g_p_couples T.F_p_couples.kp T.b_p_couples .nil pass0 (pa_cons (pv 0) pa_nil)) po_none (po_some (pe_un un_neg pe_int)))), ?_⟩
    refine ⟨.ref a, rfl, a, ps, rfl, ha, hn, fun H1 l as s1 nl el hA => ?_⟩
    refine ⟨1, rfl, -1, rfl, l, _, rfl, .inl (.inl el), fun p np => ?_⟩
    rw [cut_last, show (as.map V.ref).dropLast = as.dropLast.map V.ref from List.map_dropLast.symm]
    exact q _ p as.dropLast (s1.trans (same_new np)) (s1.free np) upd_same (prs_same (same_new np) (prs_drop hA))
end
end Pc
namespace Pc
open PySem PySem.Spec PyProof.Rows L2 RZ
theorem nv_erase : ∀ (l : List Nat) (k : Nat), (nv l).eraseIdx k = nv (l.eraseIdx k)
  | [], _ => rfl
  | _ :: _, 0 => rfl
  | x :: l, k + 1 => congrArg (V.int (x : Int) :: ·) (nv_erase l k)
section
variable {P : Program} {w : World} {K : PySem.W.Frag} {mg : Str → Option Value} {base : Heap}
/-! ### the pairing with a number -/
def spPairingAt : Sp := fun vs H Q _ => ∃ r k : Nat, vs = [.int ((2 * r : Nat) : Int), .int k] ∧ r ≤ 10 ∧ k < dfac r ∧
  ∀ (H' : Hp) (t : Addr), Same H H' → H t = none → H' t = some (.tup (nv (pat r k))) → Q (.ref t) H'
theorem ok_p_pairing_at (T : Env K mg) : FnOk P w K mg base CX0 2 T.f_p_pairing_at T.d_p_pairing_at ["size", "number"] spPairingAt := by
  have G1 : FnOk P w K mg base CX0 1 T.f_p_pairings_many T.d_p_pairings_many ["size"] spMany := ok_p_pairings_many T
  have G2 : FnOk P w K mg base CX0 1 T.f_p_pairing_of T.d_p_pairing_of ["couples"] (spPairingOf K) := ok_p_pairing_of T
  refine T.F_p_pairing_at.ok sc_p_pairing_at (fun vs H Q E h => ?_) (fun cdv A outer s H vs Q E hr h => ?_)
  · obtain ⟨r, k, rfl, _⟩ := h
    rfl
  · obtain ⟨r, k0, rfl, hr10, hk0, q⟩ := h
    refine ⟨_, pss_cons (ps_set (i := 2) sc_p_pairing_at.nd rfl (.inl rfl) (pe_call G1 hr (by rfl) T.g_p_pairings_many T.F_p_pairings_many.kp T.b_p_pairings_many .nil pass0 (pa_cons (pv 0) pa_nil))) <|
      pss_cons (ps_if (pt_not (pt_chain op_le op_lt pe_int (pv 1) (pv 2))) pss_never pss_nil) <|
      pss_cons (ps_set (i := 3) sc_p_pairing_at.nd rfl (.inl rfl) (pe_lst pa_nil)) <|
      pss_cons (ps_set (i := 4) sc_p_pairing_at.nd rfl (.inl rfl) (pe_listRg rfl (by rfl) T.n_list (prg_1 (by rfl) T.n_range (pv 0)))) <|
      pss_cons (ps_set (i := 5) sc_p_pairing_at.nd rfl (.inl rfl) (pv 1)) <|
      pss_cons (ps_while PassesOwn.never (pt_truth (pv 4) (by intro _; rfl))
        (pss_cons (ps_set (i := 6) sc_p_pairing_at.nd rfl (.inl rfl) (pe_bm PySem.F.plainAttrs_list PySem.F.slot_list_pop PySem.F.type_list_pop mt_popAt (pv 4) (pa_cons pe_int pa_nil))) <|
        pss_cons (ps_aug (i := 2) sc_p_pairing_at.nd rfl (.inl rfl) (pe_callB call_len_seq (by rfl) T.n_len PySem.boot_len (pa_cons (pv 4) pa_nil)) ip_half) <|
        pss_cons (ps_asg (pe_callB call_divmod (by rfl) T.n_divmod (by decide +kernel) (pa_cons (pv 5) (pa_cons (pv 2) pa_nil))) (pg_tup rfl (pgs_cons (pg_name (i := 7) sc_p_pairing_at.nd rfl (.inl rfl)) (pgs_cons (pg_name (i := 5) sc_p_pairing_at.nd rfl (.inl rfl)) pgs_nil)))) <|
        pss_one (ps_expr (pe_bm PySem.F.plainAttrs_list PySem.F.slot_list_append PySem.F.type_list_append mt_append (pv 3) (pa_cons
          (pe_tup (pa_cons (pv 6) (pa_cons (pe_bm PySem.F.plainAttrs_list PySem.F.slot_list_pop PySem.F.type_list_pop mt_popAt (pv 4) (pa_cons (pv 7) pa_nil)) pa_nil))) pa_nil))))) <|
      pss_one (ps_ret (pe_call G2 hr (by rfl) T.g_p_pairing_of T.F_p_pairing_of.kp T.b_p_pairing_of .nil pass0 (pa_cons (pv 3) pa_nil))), ?_⟩
    refine ⟨_, rfl, r, rfl, hr10, ?_⟩
    refine ⟨_, rfl, 0, k0, rfl, rfl, _, rfl, ?_⟩
    rw [decide_eq_true (show (0 : Int) ≤ (k0 : Int) by omega)]
    refine iteT ⟨_, rfl, k0, (dfac r : Nat), rfl, rfl, _, rfl, ?_⟩
    rw [decide_eq_true (show (k0 : Int) < ((dfac r : Nat) : Int) by omega)]
    refine iteN ⟨Nat.zero_le _, fun f nf => ?_⟩
    refine ⟨_, rfl, _, rfl, RgOk.of_le (by decide) (by omega) (by decide) (by omega), fun l nl => ?_⟩
    rw [rg_nv]
    have lf : l ≠ f := fun e => by rw [e, upd_same] at nl; cases nl
    have nl0 : H l = none := (same_new nf).free nl
    have s0 : Same H (upd (upd H f (.lst [])) l (.lst (nv (List.range (2 * r))))) := (same_new nf).trans (same_new nl)
    refine ⟨_, rfl, ?_⟩
    have hd10 : dfac 10 = 654729075 := by decide
    refine ⟨fun m σ Hx => ∃ (fr : List Nat) (k : Nat) (as : List Addr) (dn : List (Nat × Nat)) (y6 y7 : Option V), σ = [some (.int ((2 * r : Nat) : Int)), some (.int (k0 : Nat)), some (.int (dfac m : Nat)), some (.ref f), some (.ref l), some (.int (k : Nat)), y6, y7] ∧ Hx l = some (.lst (nv fr)) ∧ Hx f = some (.lst (as.map V.ref)) ∧ Prs Hx as dn ∧
        fr.length = 2 * m ∧ k < dfac m ∧ m ≤ r ∧ dn.length + m = r ∧ dn ++ una m fr k = una r (List.range (2 * r)) k0 ∧ Same H Hx,
      ⟨r, List.range (2 * r), k0, [], [], none, none, rfl, upd_same, by rw [upd_ne (Ne.symm lf), upd_same]; rfl, .nil, by rw [List.length_range], hk0, Nat.le_refl _, by simp, rfl, s0⟩, fun m σ Hx hW => ?_⟩
    obtain ⟨fr, k, as, dn, y6, y7, rfl, el, ef, hA, hfr, hk, hmr, hdn, hun, sm⟩ := hW
    refine ⟨_, rfl, _, .inl ⟨_, .inl (.inl el), rfl⟩, ite2 (fun c => ?_) (fun c => ?_)⟩
    · cases m with
      | zero =>
        have : fr = [] := List.length_eq_zero_iff.mp (by omega)
        subst this
        exact absurd c (by decide)
      | succ j =>
        cases fr with
        | nil => simp at hfr
        | cons x t =>
          have ht : t.length = 2 * j + 1 := by rw [List.length_cons] at hfr; omega
          have hc := choice_lt hk
          have hdj := dfac_small (r := j) (by omega)
          have hdp := dfac_pos j
          refine ⟨fun σ' H2 => ∃ (fr : List Nat) (k : Nat) (as : List Addr) (dn : List (Nat × Nat)) (y6 y7 : Option V), σ' = [some (.int ((2 * r : Nat) : Int)), some (.int (k0 : Nat)), some (.int (dfac j : Nat)), some (.ref f), some (.ref l), some (.int (k : Nat)), y6, y7] ∧ H2 l = some (.lst (nv fr)) ∧ H2 f = some (.lst (as.map V.ref)) ∧ Prs H2 as dn ∧
            fr.length = 2 * j ∧ k < dfac j ∧ j ≤ r ∧ dn.length + j = r ∧ dn ++ una j fr k = una r (List.range (2 * r)) k0 ∧ Same H H2, fun σ' H2 h2 => ⟨j, Nat.lt_succ_self _, h2⟩, ?_⟩
          refine ⟨_, rfl, .inl ⟨rfl, _, .inl (.inl el)⟩, l, _, 0, 0, .int (x : Nat), rfl, rfl, el, by decide, by decide, seq_ix (by decide) (by rw [nv_length, List.length_cons]; omega), rfl, ?_⟩
          have el1 : (upd Hx l (.lst (nv t))) l = some (.lst (nv t)) := upd_same
          have ef1 : (upd Hx l (.lst (nv t))) f = some (.lst (as.map V.ref)) := by rw [upd_ne (Ne.symm lf)]; exact ef
          have k1 : Keep l Hx (upd Hx l (.lst (nv t))) := keep_upd
          have hA1 : Prs (upd Hx l (.lst (nv t))) as dn := prs_keep k1 el hA
          have sm1 : Same H (upd Hx l (.lst (nv t))) := fun z o hz => by rw [upd_ne (ne_of_none hz nl0)]; exact sm _ _ hz
          rw [show (nv (x :: t)).eraseIdx 0 = nv t from rfl]
          revert el1 ef1 hA1 sm1
          generalize upd Hx l (.lst (nv t)) = H1
          intro el1 ef1 hA1 sm1
          refine ⟨_, rfl, _, rfl, l, _, rfl, .inl (.inl (.inl el1)), _, _, rfl, rfl, ⟨by rw [nv_length]; omega, by rw [nv_length]; omega⟩, ?_⟩
          rw [show ((dfac (j + 1) : Nat) : Int) / ((nv t).length : Int) = ((dfac j : Nat) : Int) by
            rw [nv_length, ht]
            show ((dfac j * (2 * j + 1) : Nat) : Int) / ((2 * j + 1 : Nat) : Int) = _
            rw [← Int.natCast_ediv, Nat.mul_div_cancel _ (by omega)]]
          refine ⟨_, rfl, _, rfl, _, _, rfl, ⟨by omega, by omega⟩, fun d nd => ?_⟩
          rw [show ((k : Nat) : Int) / ((dfac j : Nat) : Int) = ((k / dfac j : Nat) : Int) from (Int.natCast_ediv _ _).symm, show ((k : Nat) : Int) % ((dfac j : Nat) : Int) = ((k % dfac j : Nat) : Int) from (Int.natCast_emod _ _).symm]
          refine ⟨d, _, rfl, .inl (.inl upd_same), rfl, _, _, rfl, _, _, rfl, rfl, ?_⟩
          have s2 : Same H1 (upd H1 d (.tup [.int ((k / dfac j : Nat) : Int), .int ((k % dfac j : Nat) : Int)])) := same_new nd
          revert s2
          generalize upd H1 d (.tup [.int ((k / dfac j : Nat) : Int), .int ((k % dfac j : Nat) : Int)]) = H2
          intro s2
          have el2 := s2 _ _ el1
          have ef2 := s2 _ _ ef1
          have hA2 := prs_same s2 hA1
          have sm2 := sm1.trans s2
          have hct : k / dfac j < t.length := by omega
          have hnn : (0 : Int) ≤ ((k / dfac j : Nat) : Int) := Int.natCast_nonneg _
          have eg : t[k / dfac j]? = some (t.getD (k / dfac j) 0) := by rw [List.getD_eq_getElem?_getD, List.getElem?_eq_getElem hct]; rfl
          refine ⟨_, rfl, .inl ⟨rfl, _, .inl (.inl ef2)⟩, _, rfl, _, rfl, .inl ⟨rfl, _, .inl (.inl el2)⟩, _, rfl, l, _, _, k / dfac j, .int ((t.getD (k / dfac j) 0 : Nat) : Int), rfl, rfl, el2, by omega, by omega, ?_, ?_, ?_⟩
          · have := seq_ix (i := ((k / dfac j : Nat) : Int)) (n := (nv t).length) (by omega) (by rw [nv_length]; omega)
            rw [Int.toNat_natCast] at this
            exact this
          · unfold nv
            rw [List.getElem?_map, eg]; rfl
          have el3 : (upd H2 l (.lst (nv (t.eraseIdx (k / dfac j))))) l = some (.lst (nv (t.eraseIdx (k / dfac j)))) := upd_same
          have ef3 : (upd H2 l (.lst (nv (t.eraseIdx (k / dfac j))))) f = some (.lst (as.map V.ref)) := by rw [upd_ne (Ne.symm lf)]; exact ef2
          have hA3 : Prs (upd H2 l (.lst (nv (t.eraseIdx (k / dfac j))))) as dn := prs_keep (b := l) keep_upd el2 hA2
          have sm3 : Same H (upd H2 l (.lst (nv (t.eraseIdx (k / dfac j))))) := fun z o hz => by rw [upd_ne (ne_of_none hz nl0)]; exact sm2 _ _ hz
          rw [nv_erase]
          revert el3 ef3 hA3 sm3
          generalize upd H2 l (.lst (nv (t.eraseIdx (k / dfac j)))) = H3
          intro el3 ef3 hA3 sm3
          refine ⟨by show 2 ≤ sizeLine; decide, fun u nu => ⟨f, _, _, rfl, rfl, same_new nu _ _ ef3, ?_, ?_⟩⟩
          · rw [List.length_map, hA3.length]; exact small1000 (by omega)
          have uf : u ≠ f := (ne_of_none ef3 nu).symm
          refine ⟨t.eraseIdx (k / dfac j), k % dfac j, as ++ [u], dn ++ [(x, t.getD (k / dfac j) 0)], _, _, rfl, ?_, ?_, ?_, ?_, Nat.mod_lt _ hdp, by omega, ?_, ?_, ?_⟩
          · rw [upd_ne lf]; exact same_new nu _ _ el3
          · rw [upd_same, List.map_append]; rfl
          · refine prs_append (prs_keep (b := f) keep_upd (same_new nu _ _ ef3) (prs_same (same_new nu) hA3)) (.cons ?_ .nil)
            rw [upd_ne uf, upd_same]
          · rw [List.length_eraseIdx, if_pos hct]; omega
          · rw [List.length_append, List.length_singleton]; omega
          · rw [← hun, List.append_assoc]; rfl
          · intro z o hz
            rw [upd_ne (ne_of_none hz nf)]
            exact same_new nu _ _ (sm3 _ _ hz)
    · have hm0 : m = 0 := by
        cases fr with
        | nil => simp at hfr; omega
        | cons x t => exact absurd rfl c
      subst hm0
      have hu : dn = una r (List.range (2 * r)) k0 := by rw [← hun]; exact (List.append_nil _).symm
      subst hu
      exact ⟨_, rfl, f, _, _, _, rfl, .inl (.inl (.inl ef)), items_of hA, pat_makes hk0, by rw [(pat_pair hk0).len]; omega, fun H' t s' nt et => q H' t (sm.trans s') (sm.free nt) et⟩
end
end Pc
namespace Pc
open PySem PySem.Spec PyProof.Rows L2 RZ
section
variable {P : Program} {w : World} {K : PySem.W.Frag} {mg : Str → Option Value} {base : Heap}
/-! ### the result with a number -/
theorem cpl_lt {n : Nat} {ps : List Nat} (h : IsPair n ps) {p : Nat × Nat} (hp : p ∈ cpl ps) : p.1 < n ∧ p.2 < n := by
  obtain ⟨b1, b2, b3, _⟩ := h.back ((mem_cpl h).mp hp).1
  exact ⟨b3, b2⟩
def spResultAt (K : PySem.W.Frag) : Sp := fun vs H Q _ => ∃ (a : Addr) (f : List Nat) (n k : Nat), vs = [.ref a, .int k] ∧ Sq K H a (nv f) ∧ IsPair (2 * n) f ∧ n % 2 = 0 ∧ n ≤ 20 ∧ k < dfac ((lse f n).length / 2) ∧
  ∀ (H' : Hp) (t : Addr), Same H H' → H t = none → H' t = some (.tup (nv (rat f n k))) → Q (.ref t) H'
theorem ok_p_result_at (T : Env K mg) : FnOk P w K mg base CX0 3 T.f_p_result_at T.d_p_result_at ["sheet", "number"] (spResultAt K) := by
  have G1 : FnOk P w K mg base CX0 2 T.f_p_loose_people T.d_p_loose_people ["sheet"] (spLoose K) := ok_p_loose_people T
  have G2 : FnOk P w K mg base CX0 2 T.f_p_pairing_at T.d_p_pairing_at ["size", "number"] spPairingAt := ok_p_pairing_at T
  have G3 : FnOk P w K mg base CX0 1 T.f_p_couples T.d_p_couples ["pairing"] (spCouples K) := ok_p_couples T
  have G4 : FnOk P w K mg base CX0 2 T.f_p_lower_pairs T.d_p_lower_pairs ["sheet"] (spPairs K los) := ok_p_lower_pairs T
  have G5 : FnOk P w K mg base CX0 1 T.f_p_pairing_of T.d_p_pairing_of ["couples"] (spPairingOf K) := ok_p_pairing_of T
  refine T.F_p_result_at.ok sc_p_result_at (fun vs H Q E h => ?_) (fun cdv A outer s H vs Q E hr h => ?_)
  · obtain ⟨a, f, n, k, rfl, _⟩ := h
    rfl
  · obtain ⟨a, f, n, k, rfl, ha, hf, he, hn, hk, q⟩ := h
    have h1 := hr.mono (show 1 ≤ 2 by decide)
    refine ⟨_, pss_cons (ps_set (i := 2) sc_p_result_at.nd rfl (.inr rfl) (pe_call G1 hr (by rfl) T.g_p_loose_people T.F_p_loose_people.kp T.b_p_loose_people .nil pass0 (pa_cons (pv 0) pa_nil))) <|
      pss_cons (ps_set (i := 3) sc_p_result_at.nd rfl (.inl rfl) (pe_call G3 h1 (by rfl) T.g_p_couples T.F_p_couples.kp T.b_p_couples .nil pass0 (pa_cons (pe_call G2 hr (by rfl) T.g_p_pairing_at T.F_p_pairing_at.kp T.b_p_pairing_at .nil pass0 (pa_cons (pe_callB call_len_seq (by rfl) T.n_len PySem.boot_len (pa_cons (pv 2) pa_nil)) (pa_cons (pv 1) pa_nil))) pa_nil))) <|
      pss_one (ps_ret (pe_call G5 h1 (by rfl) T.g_p_pairing_of T.F_p_pairing_of.kp T.b_p_pairing_of .nil pass0 (pa_cons (pe_op op_cat (pe_call G4 hr (by rfl) T.g_p_lower_pairs T.F_p_lower_pairs.kp T.b_p_lower_pairs .nil pass0 (pa_cons (pv 0) pa_nil))
        (pe_lc (own := [("x", 4), ("y", 5)]) (g := gTup K 2 (gCons (gName 4) (gCons (gName 5) gNil))) (tt := tYes) (te := tTup (tCons (tOp (rIxL K) (tVar 2) (tVar 4)) (tCons (tOp (rIxL K) (tVar 2) (tVar 5)) tNil))) (by rfl) sc_p_result_at.nd (pi_list (pv 3)) (blkOk_by (N := N_p_result_at) (sc := defScope s_p_result_at) (by decide +kernel))
          (fun _ _ _ _ _ => pg_tup (by rfl) (pgs_cons (pg_name (i := 4) sc_p_result_at.nd rfl (.inl rfl)) (pgs_cons (pg_name (i := 5) sc_p_result_at.nd rfl (.inl rfl)) pgs_nil))) (fun _ _ _ _ _ => pts_nil)
          (fun _ _ _ _ _ => pe_tup (pa_cons (pe_ix ix_list (pv 2) (pv 4) (fun _ _ => rfl)) (pa_cons (pe_ix ix_list (pv 2) (pv 5) (fun _ _ => rfl)) pa_nil))))) pa_nil))), ?_⟩
    have hle := lse_even hf he
    obtain ⟨l, hl⟩ : ∃ l, l = lse f n := ⟨_, rfl⟩
    obtain ⟨r, hrr⟩ : ∃ r, r = (lse f n).length / 2 := ⟨_, rfl⟩
    have hlr : l.length = 2 * r := by rw [hl]; omega
    have hP : IsPair (2 * r) (pat r k) := pat_pair (by rw [hrr]; exact hk)
    refine ⟨_, rfl, a, f, n, rfl, ha, hf, by omega, fun H1 p s1 np ep => ?_⟩
    rw [← hl] at ep
    refine ⟨_, rfl, p, _, rfl, .inl (.inl (.inl ep)), _, rfl, r, k, ?_, by omega, by rw [hrr]; exact hk, fun H2 t s2 nt et => ?_⟩
    · show [V.int ((nv l).length : Int), V.int (k : Nat)] = _
      rw [nv_length, hlr]
    refine ⟨t, _, rfl, .inr (.inl (.inl et)), by rw [hP.len]; omega, fun H3 c as s3 nc ec hA => ?_⟩
    have s13 := s1.trans (s2.trans s3)
    refine ⟨_, rfl, a, f, n, rfl, ha.same s13, hf, by omega, fun H4 d bs s4 nd ed hB => ?_⟩
    have ep4 := s4 _ _ (s3 _ _ (s2 _ _ ep))
    have ec4 := s4 _ _ ec
    have hA4 := prs_same s4 hA
    refine ⟨_, rfl, c, rfl, ⟨_, .inl (.inl ec4)⟩, fun D nD => ?_⟩
    refine lc_list (xs := as.map V.ref) (fun i H' => Same H4 H' ∧ ∃ es : List Addr, H' D = some (.lst (es.map V.ref)) ∧ Prs H' es ((rel l (cpl (pat r k))).take i)) ⟨same_new nD, [], upd_same, .nil⟩ (fun i H' _ h => .inl (.inl (h.1 _ _ ec4))) (fun i v H' hv h => ?_) (fun H5 h => ?_)
    · obtain ⟨sm, es, eD, hE⟩ := h
      rw [List.getElem?_map] at hv
      obtain ⟨u, hu, rfl⟩ := Option.map_eq_some_iff.mp hv
      obtain ⟨x, hx, exu⟩ := prs_get hA4 hu
      have hxl := cpl_lt hP (List.mem_of_getElem? hx)
      have g1 : l[x.1]? = some (l.getD x.1 0) := by rw [List.getD_eq_getElem?_getD, List.getElem?_eq_getElem (by omega)]; rfl
      have g2 : l[x.2]? = some (l.getD x.2 0) := by rw [List.getD_eq_getElem?_getD, List.getElem?_eq_getElem (by omega)]; rfl
      have hpl : SqL K H' p (nv l) := .inl (.inl (sm _ _ ep4))
      refine ⟨u, _, rfl, .inl (.inl (sm _ _ exu)), rfl, _, _, rfl, _, _, rfl, rfl, rfl, yes_if ⟨_, rfl, _, rfl, p, _, _, _, rfl, rfl, hpl, nv_at g1, _, rfl, _, rfl, p, _, _, _, rfl, rfl, hpl, nv_at g2, by show 2 ≤ sizeLine; decide, fun z nz => ⟨_, same_new nz _ _ eD, ?_, fun y o hy => ?_, es ++ [z], ?_, ?_⟩⟩⟩
      · rw [List.length_map, hE.length, List.length_take]
        have := cpl_half hP
        exact small1000 (by unfold rel; rw [List.length_map]; omega)
      · rw [upd_ne (ne_of_none hy nD)]; exact same_new nz _ _ (sm _ _ hy)
      · rw [upd_same, List.map_append]; rfl
      · have zD : z ≠ D := fun e => by rw [e, eD] at nz; cases nz
        have ej : (rel l (cpl (pat r k)))[i]? = some (l.getD x.1 0, l.getD x.2 0) := by unfold rel; rw [List.getElem?_map, hx]; rfl
        rw [List.take_add_one, ej]
        refine prs_append (prs_keep (b := D) keep_upd (same_new nz _ _ eD) (prs_same (same_new nz) hE)) (.cons ?_ .nil)
        rw [upd_ne zD, upd_same]
    · obtain ⟨sm, es, eD, hE⟩ := h
      have hlen : (as.map V.ref).length = (rel l (cpl (pat r k))).length := by rw [List.length_map, hA.length]; unfold rel; rw [List.length_map]
      rw [hlen, List.take_length] at hE
      have ed5 := sm _ _ ed
      have hB5 := prs_same sm hB
      have hll := rpr_len hf he hk
      have lB : bs.length = (los f n).length := hB.length
      have lE : es.length = (rel l (cpl (pat r k))).length := hE.length
      have hlen2 : (los f n).length + (rel l (cpl (pat r k))).length = (rpr f n k).length := by unfold rpr; rw [List.length_append, hl, hrr]
      refine ⟨d, D, _, _, rfl, rfl, ed5, eD, ?_, fun c2 nc2 => ?_⟩
      · rw [List.length_map, List.length_map]; exact Nat.le_of_lt (small1000 (by omega))
      rw [← List.map_append]
      have s6 : Same H5 (upd H5 c2 (.lst ((bs ++ es).map V.ref))) := same_new nc2
      have hI : Items K (upd H5 c2 (.lst ((bs ++ es).map V.ref))) ((bs ++ es).map V.ref) (rpr f n k) := by
        have := items_of (K := K) (prs_same s6 (prs_append hB5 hE))
        unfold rpr
        rw [← hrr, ← hl]
        exact this
      refine ⟨c2, _, _, _, rfl, .inl (.inl (.inl upd_same)), hI, rat_makes hf he hk, by rw [(rat_pair hf he hk).len]; omega, fun H7 t7 s7 n7 e7 => ?_⟩
      exact q H7 t7 (s13.trans (s4.trans (sm.trans (s6.trans s7)))) ((s13.trans (s4.trans (sm.trans s6))).free n7) e7
end
end Pc
namespace Pc
open PySem PySem.Spec PyProof.Rows L2 RZ
section
variable {P : Program} {w : World} {K : PySem.W.Frag} {mg : Str → Option Value} {base : Heap}
/-! ### settled sheets -/
theorem nv_at2 {fs : List Nat} {n i z : Nat} (e : fs[n + i]? = some z) : atI (nv fs) ((n : Int) + (i : Int)) = some (.int z) := by
  rw [show (n : Int) + (i : Int) = ((n + i : Nat) : Int) by omega]; exact nv_at e
theorem set_dec {f : List Nat} {n : Nat} (hf : IsPair (2 * n) f) (he : n % 2 = 0) : decide (V.int ((dfac ((sts f n).length / 2) : Nat) : Int) = V.int 1) = decide ((lse f n).length ≤ 2) := by
  have h1 := lse_even hf he
  rw [← lse_len hf]
  by_cases c : (lse f n).length ≤ 2
  · rw [decide_eq_true c]
    have : dfac ((lse f n).length / 2) = 1 := dfac_one.mpr (by omega)
    rw [this]; exact decide_eq_true rfl
  · rw [decide_eq_false c]
    refine decide_eq_false fun z => ?_
    have z1 := V.int.inj z
    have z2 : dfac ((lse f n).length / 2) = 1 := by omega
    have := dfac_one.mp z2
    omega
def spIsSettled (K : PySem.W.Frag) : Sp := fun vs H Q _ => ∃ (a : Addr) (f : List Nat) (n : Nat), vs = [.ref a] ∧ Sq K H a (nv f) ∧ IsPair (2 * n) f ∧ n % 2 = 0 ∧ n ≤ 20 ∧ ∀ H', Same H H' → Q (.bl (decide ((lse f n).length ≤ 2))) H'
theorem ok_p_is_settled (T : Env K mg) : FnOk P w K mg base CX0 4 T.f_p_is_settled T.d_p_is_settled ["sheet"] (spIsSettled K) := by
  have G1 : FnOk P w K mg base CX0 3 T.f_p_results_many T.d_p_results_many ["sheet"] (spResMany K) := ok_p_results_many T
  refine T.F_p_is_settled.ok sc_p_is_settled (fun vs H Q E h => ?_) (fun cdv A outer s H vs Q E hr h => ?_)
  · obtain ⟨a, f, n, rfl, _⟩ := h
    rfl
  · obtain ⟨a, f, n, rfl, ha, hf, he, hn, q⟩ := h
    refine ⟨_, pss_one (ps_ret (pe_cmpR op_eq (pe_call G1 hr (by rfl) T.g_p_results_many T.F_p_results_many.kp T.b_p_results_many .nil pass0 (pa_cons (pv 0) pa_nil)) pe_int (nomark _))), ?_⟩
    refine ⟨_, rfl, a, f, n, rfl, ha, hf, he, hn, fun H1 s1 => ⟨rfl, ?_⟩⟩
    have := q H1 s1
    rw [← set_dec hf he] at this
    exact this
end
end Pc
namespace Pc
open PySem PySem.Spec PyProof.Rows L2 RZ
section
variable {P : Program} {w : World} {K : PySem.W.Frag} {mg : Str → Option Value} {base : Heap}
def spSettledP (K : PySem.W.Frag) : Sp := fun vs H Q _ => ∃ (a : Addr) (f : List Nat) (n : Nat), vs = [.ref a] ∧ Sq K H a (nv f) ∧ IsPair (2 * n) f ∧ n % 2 = 0 ∧ n ≤ 20 ∧ (lse f n).length ≤ 2 ∧
  ∀ (H' : Hp) (t : Addr), Same H H' → H t = none → H' t = some (.tup (nv (rat f n 0))) → Q (.ref t) H'
theorem ok_p_settled_pairing (T : Env K mg) : FnOk P w K mg base CX0 4 T.f_p_settled_pairing T.d_p_settled_pairing ["sheet"] (spSettledP K) := by
  have G1 : FnOk P w K mg base CX0 3 T.f_p_results_many T.d_p_results_many ["sheet"] (spResMany K) := ok_p_results_many T
  have G2 : FnOk P w K mg base CX0 3 T.f_p_result_at T.d_p_result_at ["sheet", "number"] (spResultAt K) := ok_p_result_at T
  refine T.F_p_settled_pairing.ok sc_p_settled_pairing (fun vs H Q E h => ?_) (fun cdv A outer s H vs Q E hr h => ?_)
  · obtain ⟨a, f, n, rfl, _⟩ := h
    rfl
  · obtain ⟨a, f, n, rfl, ha, hf, he, hn, hl, q⟩ := h
    refine ⟨_, pss_cons (ps_set (i := 1) sc_p_settled_pairing.nd rfl (.inl rfl) (pe_call G1 hr (by rfl) T.g_p_results_many T.F_p_results_many.kp T.b_p_results_many .nil pass0 (pa_cons (pv 0) pa_nil))) <|
      pss_cons (ps_if (pt_cmpR op_ne (pv 1) pe_int (nomark _)) pss_never pss_nil) <|
      pss_one (ps_ret (pe_call G2 hr (by rfl) T.g_p_result_at T.F_p_result_at.kp T.b_p_result_at .nil pass0 (pa_cons (pv 0) (pa_cons pe_int pa_nil)))), ?_⟩
    refine ⟨_, rfl, a, f, n, rfl, ha, hf, he, hn, fun H1 s1 => ?_⟩
    refine ⟨_, rfl, rfl, _, rfl, iteX (by show (!decide (V.int _ = V.int 1)) = false; rw [set_dec hf he, decide_eq_true hl]; rfl) ?_⟩
    exact ⟨_, rfl, a, f, n, 0, rfl, ha.same s1, hf, he, hn, dfac_pos _, fun H2 t s2 nt et => q H2 t (s1.trans s2) (s1.free nt) et⟩
end
end Pc
namespace Pc
open PySem PySem.Spec PyProof.Rows L2 RZ
/-! ### loops by computing -/
/-- those that are reached, at most so many turns -/
def flood (f : List Nat) (n : Nat) : Nat → List Nat → List Nat → List Nat
  | 0, _, ps => ps
  | _ + 1, [], ps => ps
  | k + 1, x :: r, ps =>
    let u := upE f n x; let v := loE f n x
    let p1 := if u ∈ ps then ps else ps ++ [u]
    let r1 := if u ∈ ps then r else r ++ [u]
    let p2 := if v ∈ p1 then p1 else p1 ++ [v]
    let r2 := if v ∈ p1 then r1 else r1 ++ [v]
    flood f n k r2 p2
theorem flood_mn {f : List Nat} {n : Nat} {M : List Nat} (hM : ∀ p ∈ M, upE f n p ∈ M ∧ loE f n p ∈ M) : ∀ (k : Nat) (r ps : List Nat), (∀ p ∈ r, p ∈ M) → (∀ p ∈ ps, p ∈ M) → ∀ p ∈ flood f n k r ps, p ∈ M
  | 0, _, ps, _, h => h
  | _ + 1, [], ps, _, h => h
  | k + 1, x :: r, ps, hr, h => by
    unfold flood
    obtain ⟨a, b⟩ := hM x (hr x (List.mem_cons_self ..))
    have e1 : ∀ (y : Nat) (l : List Nat) (c : Prop) [Decidable c], y ∈ M → (∀ p ∈ l, p ∈ M) → ∀ p ∈ (if c then l else l ++ [y]), p ∈ M := fun y l c _ hy hl p hp => by
      split at hp
      · exact hl p hp
      · rcases List.mem_append.mp hp with z | z
        · exact hl p z
        · rw [List.mem_singleton.mp z]; exact hy
    have hr' : ∀ p ∈ r, p ∈ M := fun p hp => hr p (List.mem_cons_of_mem _ hp)
    exact flood_mn hM k _ _ (e1 _ _ _ b (e1 _ _ _ a hr')) (e1 _ _ _ b (e1 _ _ _ a h))
def insL (x : Nat) : List Nat → List Nat
  | [] => [x]
  | y :: r => if x ≤ y then x :: y :: r else y :: insL x r
theorem insL_perm (x : Nat) : ∀ l : List Nat, (insL x l).Perm (x :: l)
  | [] => .refl _
  | y :: r => by
    unfold insL
    split
    · exact .refl _
    · exact ((insL_perm x r).cons y).trans (.swap x y r)
def srtL : List Nat → List Nat
  | [] => []
  | x :: r => insL x (srtL r)
theorem srtL_perm : ∀ l : List Nat, (srtL l).Perm l
  | [] => .refl _
  | x :: r => (insL_perm x _).trans ((srtL_perm r).cons x)
def lpC (f : List Nat) (n x : Nat) : List Nat := srtL (flood f n (2 * n) [x] [x])
def lpB (f : List Nat) (n x : Nat) (ps : List Nat) : Bool := decide (x ∈ ps) && decide (ps.Nodup) && ps.all (fun p => decide (p < n) && decide (upE f n p ∈ ps) && decide (loE f n p ∈ ps)) && decide (ps.Pairwise (· < ·))
theorem lpB_of {f : List Nat} {n x : Nat} (h : lpB f n x (lpC f n x) = true) : LoopL f n x (lpC f n x) ∧ (lpC f n x).Pairwise (· < ·) := by
  unfold lpB at h
  rw [Bool.and_eq_true, Bool.and_eq_true, Bool.and_eq_true] at h
  obtain ⟨⟨⟨h1, h2⟩, h3⟩, h4⟩ := h
  rw [List.all_eq_true] at h3
  have h3' : ∀ p ∈ lpC f n x, p < n ∧ upE f n p ∈ lpC f n x ∧ loE f n p ∈ lpC f n x := fun p hp => by
    have := h3 p hp
    rw [Bool.and_eq_true, Bool.and_eq_true] at this
    exact ⟨of_decide_eq_true this.1.1, of_decide_eq_true this.1.2, of_decide_eq_true this.2⟩
  refine ⟨⟨of_decide_eq_true h1, of_decide_eq_true h2, fun p hp => (h3' p hp).1, fun p hp => (h3' p hp).2, fun M hx hM p hp => ?_⟩, of_decide_eq_true h4⟩
  have hp' := (srtL_perm _).mem_iff.mp hp
  exact flood_mn hM _ _ _ (fun z hz => by rw [List.mem_singleton.mp hz]; exact hx) (fun z hz => by rw [List.mem_singleton.mp hz]; exact hx) p hp'
def loopsC (f : List Nat) (n : Nat) : Nat → List (List Nat)
  | 0 => []
  | i + 1 => if i ∈ (loopsC f n i).flatten then loopsC f n i else loopsC f n i ++ [lpC f n i]
theorem loopsC_of {f : List Nat} {n : Nat} (h : ∀ x, x < n → lpB f n x (lpC f n x) = true) : ∀ i, i ≤ n → Lo f n i (loopsC f n i)
  | 0, _ => .zero
  | i + 1, hi => by
    have ih := loopsC_of h i (by omega)
    unfold loopsC
    split
    · rename_i c; exact .skip ih c
    · rename_i c
      obtain ⟨a, b⟩ := lpB_of (h i (by omega))
      exact .new ih c a (.refl _) b
/-- a sheet whose loops come out so: so many, the pure ones these -/
def lopB (f : List Nat) (n k : Nat) (ps : List (List Nat)) : Bool := (List.range n).all (fun x => lpB f n x (lpC f n x)) && decide ((loopsC f n n).length = k) && decide ((loopsC f n n).filter (pureB f n) = ps)
theorem lop_of {f : List Nat} {n k : Nat} {ps ls : List (List Nat)} (h : lopB f n k ps = true) (hL : Lo f n n ls) : ls.length = k ∧ ls.filter (pureB f n) = ps := by
  unfold lopB at h
  rw [Bool.and_eq_true, Bool.and_eq_true] at h
  obtain ⟨⟨h1, h2⟩, h3⟩ := h
  rw [List.all_eq_true] at h1
  have := hL.det (loopsC_of (fun x hx => h1 x (List.mem_range.mpr hx)) n (Nat.le_refl _))
  rw [this]
  exact ⟨of_decide_eq_true h2, of_decide_eq_true h3⟩
/-! ### the sheets of this law -/
def jed1 (fs : List Nat) (q : Nat × Nat) : List Nat := (fs.set q.1 q.2).set q.2 q.1
def jed (n : Nat) (qs : List (Nat × Nat)) : List Nat := qs.foldl jed1 (List.replicate (2 * n) 0)
def cplC (n : Nat) : List (Nat × Nat) := [(0, 1), (n, n + 1)]
def nrQ (m : Nat) : List (Nat × Nat) := (List.range m).map fun a => (2 * a, 2 * a + 1)
def onQ (n : Nat) : List (Nat × Nat) := (List.range (n - 2)).map fun a => (2 + a, n + 2 + (a + 1) % (n - 2))
def swQ (n s : Nat) : List (Nat × Nat) := (List.range (2 * s)).map fun a => (2 + a, n + (2 + a) + 1 - 2 * ((2 + a) % 2))
def rsQ (n s : Nat) : List (Nat × Nat) := (List.range (n - (2 + 2 * s))).map fun a => (2 + 2 * s + a, n + (2 + 2 * s + a))
def lwQ (n : Nat) : List (Nat × Nat) := (List.range (n / 2)).map fun a => (n + 2 * a + 1, n + (2 * a + 2) % n)
def onF (n : Nat) : List Nat := jed n (cplC n ++ onQ n)
def swF (n s : Nat) : List Nat := jed n (cplC n ++ swQ n s ++ rsQ n s)
def tnF (n : Nat) : List Nat := jed n (nrQ (n / 2) ++ lwQ n)
def Ns : List Nat := [4, 6, 8, 10, 12, 14, 16, 18, 20]
theorem mem_Ns {n : Nat} (h : 4 ≤ n) (k : n ≤ 20) (e : n % 2 = 0) : n ∈ Ns := by
  have : ∀ m, m ≤ 20 → 4 ≤ m → m % 2 = 0 → m ∈ Ns := by decide
  exact this n k h e
def pairB (n : Nat) (l : List Nat) : Bool := decide (l.length = n ∧ ∀ x, x < n → l[x]? = some (l.getD x 0) ∧ l.getD x 0 < n ∧ l.getD x 0 ≠ x ∧ l[l.getD x 0]? = some x)
theorem pairB_of {n : Nat} {l : List Nat} (h : pairB n l = true) : IsPair n l := by
  obtain ⟨h1, h2⟩ := of_decide_eq_true h
  exact ⟨h1, fun x hx => by obtain ⟨a, b, c, d⟩ := h2 x hx; exact ⟨_, a, b, c, d⟩⟩
end Pc
namespace Pc
open PySem PySem.Spec PyProof.Rows L2 RZ
/-! ### sheets known by hand: chains, couples, rounds -/
def lopG (f : List Nat) (n : Nat) : Nat → List (List Nat) × Bool
  | 0 => ([], true)
  | i + 1 => if i ∈ (lopG f n i).1.flatten then lopG f n i else ((lopG f n i).1 ++ [lpC f n i], (lopG f n i).2 && lpB f n i (lpC f n i))
theorem lopG_of {f : List Nat} {n : Nat} : ∀ i, (lopG f n i).2 = true → Lo f n i (lopG f n i).1
  | 0, _ => .zero
  | i + 1, h => by
    unfold lopG at h ⊢
    split at h
    · rename_i c
      rw [if_pos c]
      exact .skip (lopG_of i h) c
    · rename_i c
      rw [if_neg c]
      rw [Bool.and_eq_true] at h
      obtain ⟨a, b⟩ := lpB_of h.2
      exact .new (lopG_of i h.1) c a (.refl _) b
def lopX (f : List Nat) (n : Nat) (ls ps : List (List Nat)) : Bool := decide (lopG f n n = (ls, true)) && decide (ls.filter (pureB f n) = ps)
theorem lopX_of {f : List Nat} {n : Nat} {ls ps ms : List (List Nat)} (h : lopX f n ls ps = true) (hL : Lo f n n ms) : ms = ls ∧ ms.filter (pureB f n) = ps := by
  unfold lopX at h
  rw [Bool.and_eq_true] at h
  obtain ⟨h1, h2⟩ := h
  have e := of_decide_eq_true h1
  have := hL.det (lopG_of n (by rw [e]))
  rw [e] at this
  rw [this]
  exact ⟨rfl, of_decide_eq_true h2⟩
def chQ (k : Nat) : List (Nat × Nat) := (List.range k).map fun a => (a, a + 1)
def chS1 (k : Nat) : List (Nat × Nat) := (List.range (k - 1)).map fun a => (2 + a, a)
def chS2 (n k : Nat) : List (Nat × Nat) := (List.range (n - (k + 1))).map fun a => (k + 1 + a, k + 1 + a)
def chL (k : Nat) : List Nat := List.range (k + 1)
def chL2 (n k : Nat) : List (List Nat) := (List.range (n - (k + 1))).map fun a => [k + 1 + a]
def chE (n k : Nat) : List Nat := [1, 0] ++ (List.range (k - 1)).map (n + ·) ++ (List.range (n - (k + 1))).map (fun a => n + (k + 1 + a)) ++ (List.range (k - 1)).map (2 + ·) ++ [n + k, n + k - 1] ++ (List.range (n - (k + 1))).map (fun a => k + 1 + a)
theorem ch_calls : ∀ n ∈ Ns, ∀ k, k ≤ n - 1 → ∀ q ∈ chQ k, q.1 < q.2 ∧ q.2 < n := by decide +kernel
theorem ch_eq : ∀ n ∈ Ns, ∀ k, k ≤ n - 1 → 1 ≤ k → shw n (chQ k) (emp n) = chE n k := by decide +kernel
theorem ch_pairs : ∀ n ∈ Ns, ∀ k, k ≤ n - 1 → 1 ≤ k → ups (chE n k) n = [(0, 1)] ∧ los (chE n k) n = [(k - 1, k)] ∧ sts (chE n k) n = chS1 k ++ chS2 n k ∧ (lse (chE n k) n).length = n - 2 ∧ hasW (chE n k) n = true := by decide +kernel
theorem ch_lop : ∀ n ∈ Ns, ∀ k, k ≤ n - 1 → 1 ≤ k → lopX (chE n k) n (chL k :: chL2 n k) [] = true := by decide +kernel
theorem ch_back : ∀ n ∈ Ns, ∀ k, k ≤ n - 1 → 1 ≤ k → shw n (chQ k).reverse (chE n k) = shw n [(0, 1)] (emp n) := by decide +kernel
def nrQ2 (n : Nat) : List (Nat × Nat) := (List.range (n / 2)).map fun a => (2 * a, 2 * a + 1)
def fuF (n : Nat) : List Nat := shw n (nrQ2 n) (emp n)
def shF (n : Nat) : List Nat := shw n ((nrQ2 n).drop 1) (emp n)
theorem cu_calls : ∀ n ∈ Ns, ∀ q ∈ nrQ2 n, q.1 < q.2 ∧ q.2 < n := by decide +kernel
theorem cu_fu : ∀ n ∈ Ns, sts (fuF n) n = [] ∧ (lse (fuF n) n).length = 0 ∧ hasW (fuF n) n = true ∧ lopX (fuF n) n ((List.range (n / 2)).map fun a => [2 * a, 2 * a + 1]) [] = true := by decide +kernel
theorem cu_sh : ∀ n ∈ Ns, sts (shF n) n = [(0, 0), (1, 1)] ∧ (lse (shF n) n).length = 2 ∧ hasW (shF n) n = true ∧ lopX (shF n) n ([0] :: [1] :: ((List.range (n / 2 - 1)).map fun a => [2 + 2 * a, 3 + 2 * a])) [] = true ∧ fuF n ≠ shF n := by decide +kernel
theorem cu_rat : ∀ n ∈ Ns, rat (fuF n) n 0 = rat (shF n) n 0 := by decide +kernel
theorem cu_two : ∀ n ∈ Ns, shw n (nrQ2 n) (fuF n) = fuF n := by decide +kernel
def rdF (n : Nat) : List Nat := [1, 0, n + 3, n + 2] ++ (List.range (n - 4)).map (fun a => n + (4 + a)) ++ ([n + 1, n, 3, 2] ++ (List.range (n - 4)).map (4 + ·))
def rdQ : List (Nat × Nat) := [(0, 1), (1, 2), (1, 3), (0, 1)]
theorem rd_ok : ∀ n ∈ Ns, (∀ q ∈ rdQ, q.1 < q.2 ∧ q.2 < n) ∧ shw n rdQ (emp n) = rdF n ∧ hasW (rdF n) n = true ∧ lopX (rdF n) n ([0, 1] :: [2, 3] :: ((List.range (n - 4)).map fun a => [4 + a])) [[2, 3]] = true := by decide +kernel
theorem rd_pw : ∀ n ∈ Ns, shw n rdQ (shw n rdQ (rdF n)) = rdF n ∧ shw n rdQ (rdF n) ≠ rdF n ∧ (emp n).getD 0 0 = n ∧ (rdF n).getD 0 0 = 1 ∧ (shw n rdQ (rdF n)).getD 0 0 = 1 := by decide +kernel
theorem rd_one : ∀ n ∈ Ns, shw n [(0, 1)] (shw n [(0, 1)] (emp n)) = shw n [(0, 1)] (emp n) ∧ (shw n [(0, 1)] (emp n)).getD 0 0 = 1 := by decide +kernel
end Pc
namespace Pc
open PySem PySem.Spec PyProof.Rows L2 RZ
theorem Ns_b {n : Nat} (h : n ∈ Ns) : 4 ≤ n ∧ n ≤ 20 ∧ n % 2 = 0 := by
  have : ∀ m ∈ Ns, 4 ≤ m ∧ m ≤ 20 ∧ m % 2 = 0 := by decide
  exact this n h
theorem prs_drop1 {H : Hp} : ∀ {as : List Addr} {qs : List (Nat × Nat)}, Prs H as qs → Prs H (as.drop 1) (qs.drop 1)
  | _, _, .nil => .nil
  | _, _, .cons _ r => r
theorem prs_take1 {H : Hp} : ∀ {as : List Addr} {qs : List (Nat × Nat)}, Prs H as qs → Prs H (as.take 1) (qs.take 1)
  | _, _, .nil => .nil
  | _, _, .cons h _ => .cons h .nil
theorem nrQ2_len (n : Nat) : (nrQ2 n).length = n / 2 := by unfold nrQ2; rw [List.length_map, List.length_range]
theorem nrQ2_get {n j : Nat} (h : j < n / 2) : (nrQ2 n)[j]? = some (2 * j, 2 * j + 1) := by unfold nrQ2; rw [List.getElem?_map, List.getElem?_range h]; rfl
theorem chQ_len (k : Nat) : (chQ k).length = k := by unfold chQ; rw [List.length_map, List.length_range]
theorem chQ_get {k j : Nat} (h : j < k) : (chQ k)[j]? = some (j, j + 1) := by unfold chQ; rw [List.getElem?_map, List.getElem?_range h]; rfl
theorem cut_one (as : List Addr) : cutV (as.map V.ref) (some 1) none = (as.drop 1).map V.ref := by
  rw [show (1 : Int) = ((1 : Nat) : Int) from rfl, cut_dr, List.map_drop]
theorem cut_to1 (as : List Addr) : cutV (as.map V.ref) none (some 1) = (as.take 1).map V.ref := by
  rw [show (1 : Int) = ((1 : Nat) : Int) from rfl, cut_tk, List.map_take]
theorem cut_to2 (as : List Addr) : cutV (as.map V.ref) none (some 2) = (as.take 2).map V.ref := by
  rw [show (2 : Int) = ((2 : Nat) : Int) from rfl, cut_tk, List.map_take]
theorem pw_fu {n : Nat} (hn : n ∈ Ns) : ∀ k, pw (fuF n) n (k + 1) = fuF n
  | 0 => by
    have hb := Ns_b hn
    rw [show fuF n = shw n (nrQ2 n) (emp n) from rfl, ← pw_add1 (by omega) (cu_calls n hn) 0]; rfl
  | k + 1 => by
    have hb := Ns_b hn
    have ih := pw_fu hn k
    rw [show fuF n = shw n (nrQ2 n) (emp n) from rfl] at ih ⊢
    rw [← pw_add1 (by omega) (cu_calls n hn) (k + 1), ih]
    exact cu_two n hn
theorem cu_calls1 : ∀ n ∈ Ns, ∀ q ∈ (nrQ2 n).drop 1, q.1 < q.2 ∧ q.2 < n := fun n hn q hq => cu_calls n hn q (List.mem_of_mem_drop hq)
theorem fu_pair {n : Nat} (hn : n ∈ Ns) : IsPair (2 * n) (fuF n) := shw_pair (emp_pair (by have := Ns_b hn; omega)) (cu_calls n hn)
theorem sh_pair {n : Nat} (hn : n ∈ Ns) : IsPair (2 * n) (shF n) := shw_pair (emp_pair (by have := Ns_b hn; omega)) (cu_calls1 n hn)
end Pc
namespace Pc
open PySem PySem.Spec PyProof.Rows L2 RZ
section
variable {P : Program} {w : World} {K : PySem.W.Frag} {mg : Str → Option Value} {base : Heap}
/-! ### a shortest word that does the same as a settled sheet -/
def spWSame (K : PySem.W.Frag) : Sp := fun vs H Q _ => ∃ (a : Addr) (f : List Nat) (n : Nat), vs = [.ref a] ∧ Sq K H a (nv f) ∧ IsPair (2 * n) f ∧ n % 2 = 0 ∧ n ≤ 20 ∧ (lse f n).length ≤ 2 ∧
  ∀ (H' : Hp) (p : Addr) (as : List Addr), Same H H' → H p = none → H' p = some (.lst (as.map V.ref)) → as.length = n / 2 - 1 → Q (.ref p) H'
theorem ok_p_word_same (T : Env K mg) : FnOk P w K mg base CX0 5 T.f_p_word_same T.d_p_word_same ["sheet"] (spWSame K) := by
  have G1 : FnOk P w K mg base CX0 4 T.f_p_is_settled T.d_p_is_settled ["sheet"] (spIsSettled K) := ok_p_is_settled T
  have G2 : FnOk P w K mg base CX0 4 T.f_p_settled_pairing T.d_p_settled_pairing ["sheet"] (spSettledP K) := ok_p_settled_pairing T
  have G3 : FnOk P w K mg base CX0 2 T.f_p_settle_word T.d_p_settle_word ["pairing"] (spSettle K) := ok_p_settle_word T
  refine T.F_p_word_same.ok sc_p_word_same (fun vs H Q E h => ?_) (fun cdv A outer s H vs Q E hr h => ?_)
  · obtain ⟨a, f, n, rfl, _⟩ := h
    rfl
  · obtain ⟨a, f, n, rfl, ha, hf, he, hn, hl, q⟩ := h
    have h2 := hr.mono (show 2 ≤ 4 by decide)
    refine ⟨_, pss_cons (ps_if (pt_val (pe_call G1 hr (by rfl) T.g_p_is_settled T.F_p_is_settled.kp T.b_p_is_settled .nil pass0 (pa_cons (pv 0) pa_nil)))
        (pss_one (ps_ret (pe_call G3 h2 (by rfl) T.g_p_settle_word T.F_p_settle_word.kp T.b_p_settle_word .nil pass0 (pa_cons (pe_call G2 hr (by rfl) T.g_p_settled_pairing T.F_p_settled_pairing.kp T.b_p_settled_pairing .nil pass0 (pa_cons (pv 0) pa_nil)) pa_nil)))) pss_nil) <|
      pss_never, ?_⟩
    refine ⟨_, rfl, a, f, n, rfl, ha, hf, he, hn, fun H1 s1 => ?_⟩
    rw [decide_eq_true hl]
    refine ⟨true, rfl, iteT ?_⟩
    refine ⟨_, rfl, a, f, n, rfl, ha.same s1, hf, he, hn, hl, fun H2 t s2 nt et => ?_⟩
    have hp : IsPair n (rat f n 0) := rat_pair hf he (dfac_pos _)
    refine ⟨t, _, rfl, .inr (.inl (.inl et)), by rw [hp.len]; omega, fun H3 p as s3 np ep hA => ?_⟩
    have s13 := (s1.trans s2).trans s3
    refine q H3 p as s13 ((s1.trans s2).free np) ep ?_
    have := cpl_half hp
    rw [hA.length, List.length_dropLast]
    omega
def spFSame (K : PySem.W.Frag) : Sp := fun vs H Q _ => ∃ (a : Addr) (f : List Nat) (n : Nat), vs = [.ref a] ∧ Sq K H a (nv f) ∧ IsPair (2 * n) f ∧ n % 2 = 0 ∧ n ≤ 20 ∧ (lse f n).length ≤ 2 ∧
  ∀ (H' : Hp), Same H H' → Q (.int ((n / 2 - 1 : Nat) : Int)) H'
theorem ok_p_fewest_same (T : Env K mg) : FnOk P w K mg base CX0 6 T.f_p_fewest_same T.d_p_fewest_same ["sheet"] (spFSame K) := by
  have G0 : FnOk P w K mg base CX0 5 T.f_p_word_same T.d_p_word_same ["sheet"] (spWSame K) := ok_p_word_same T
  refine T.F_p_fewest_same.ok sc_p_fewest_same (fun vs H Q E h => ?_) (fun cdv A outer s H vs Q E hr h => ?_)
  · obtain ⟨a, f, n, rfl, _⟩ := h
    rfl
  · obtain ⟨a, f, n, rfl, ha, hf, he, hn, hl, q⟩ := h
    refine ⟨_, pss_one (ps_ret (pe_callB call_len_seq (by rfl) T.n_len PySem.boot_len (pa_cons (pe_call G0 hr (by rfl) T.g_p_word_same T.F_p_word_same.kp T.b_p_word_same .nil pass0 (pa_cons (pv 0) pa_nil)) pa_nil))), ?_⟩
    refine ⟨.ref a, rfl, a, f, n, rfl, ha, hf, he, hn, hl, fun H1 l as s1 nl el hA => ⟨l, _, rfl, .inl (.inl (.inl el)), ?_⟩⟩
    have := q H1 s1
    rw [← hA, ← List.length_map (f := V.ref)] at this
    exact this
end
end Pc
namespace Pc
open PySem PySem.Spec PyProof.Rows L2 RZ
section
variable {P : Program} {w : World} {K : PySem.W.Frag} {mg : Str → Option Value} {base : Heap}
/-! ### whether two settled sheets do the same -/
def spSame2 (K : PySem.W.Frag) : Sp := fun vs H Q _ => ∃ (a b : Addr) (f g : List Nat) (n : Nat), vs = [.ref a, .ref b] ∧ SqT K H a (nv f) ∧ SqT K H b (nv g) ∧ IsPair (2 * n) f ∧ IsPair (2 * n) g ∧ n % 2 = 0 ∧ n ≤ 20 ∧ f ≠ g ∧
  (sts f n).length ≤ 2 ∧ (sts g n).length ≤ 2 ∧ (lse f n).length ≤ 2 ∧ (lse g n).length ≤ 2 ∧ ∀ H', Same H H' → Q (.bl (decide (rat f n 0 = rat g n 0))) H'
theorem ok_p_do_same (T : Env K mg) : FnOk P w K mg base CX0 4 T.f_p_do_same T.d_p_do_same ["one", "other"] (spSame2 K) := by
  have G0 : FnOk P w K mg base CX0 1 T.f_p_people_of T.d_p_people_of ["sheet"] (spPeople K) := ok_p_people_of T
  have G1 : FnOk P w K mg base CX0 1 T.f_p_check_sizes T.d_p_check_sizes ["first", "second"] spCheckSizes := ok_p_check_sizes T
  have GS : FnOk P w K mg base CX0 2 T.f_p_strands T.d_p_strands ["sheet"] (spPairs K sts) := ok_p_strands T
  have GA : FnOk P w K mg base CX0 3 T.f_p_result_at T.d_p_result_at ["sheet", "number"] (spResultAt K) := ok_p_result_at T
  refine T.F_p_do_same.ok sc_p_do_same (fun vs H Q E h => ?_) (fun cdv A outer s H vs Q E hr h => ?_)
  · obtain ⟨a, b, f, g, n, rfl, _⟩ := h
    rfl
  · obtain ⟨a, b, f, g, n, rfl, ha, hb, hf, hg, he, hn, hne, hs1, hs2, hl1, hl2, q⟩ := h
    have h1 := hr.mono (show 1 ≤ 3 by decide)
    have h2 := hr.mono (show 2 ≤ 3 by decide)
    refine ⟨_, pss_cons (ps_expr (pe_call G1 h1 (by rfl) T.g_p_check_sizes T.F_p_check_sizes.kp T.b_p_check_sizes .nil pass0 (pa_cons (pe_call G0 h1 (by rfl) T.g_p_people_of T.F_p_people_of.kp T.b_p_people_of .nil pass0 (pa_cons (pv 0) pa_nil)) (pa_cons (pe_call G0 h1 (by rfl) T.g_p_people_of T.F_p_people_of.kp T.b_p_people_of .nil pass0 (pa_cons (pv 1) pa_nil)) pa_nil)))) <|
      pss_cons (ps_if (pt_cmpR (op_eqD hr.units) (pe_callTy call_tuple_of (by rfl) T.n_tuple (by decide +kernel) (pa_cons (pv 0) pa_nil)) (pe_callTy call_tuple_of (by rfl) T.n_tuple (by decide +kernel) (pa_cons (pv 1) pa_nil)) (nomark _)) (pss_one (ps_ret pe_bl)) pss_nil) <|
      pss_cons (ps_set (i := 2) sc_p_do_same.nd rfl (.inl rfl) (pe_callB call_len_seq (by rfl) T.n_len PySem.boot_len (pa_cons (pe_call GS h2 (by rfl) T.g_p_strands T.F_p_strands.kp T.b_p_strands .nil pass0 (pa_cons (pv 0) pa_nil)) pa_nil))) <|
      pss_cons (ps_set (i := 3) sc_p_do_same.nd rfl (.inl rfl) (pe_callB call_len_seq (by rfl) T.n_len PySem.boot_len (pa_cons (pe_call GS h2 (by rfl) T.g_p_strands T.F_p_strands.kp T.b_p_strands .nil pass0 (pa_cons (pv 1) pa_nil)) pa_nil))) <|
      pss_cons (ps_if (PW.pt (pw_and (pt_cmpR op_le (pv 2) pe_int (nomark _)) (pw_and1 (pt_cmpR op_le (pv 3) pe_int (nomark _)))))
        (pss_one (ps_ret (pe_cmpR (op_eqD hr.units) (pe_call GA hr (by rfl) T.g_p_result_at T.F_p_result_at.kp T.b_p_result_at .nil pass0 (pa_cons (pv 0) (pa_cons pe_int pa_nil))) (pe_call GA hr (by rfl) T.g_p_result_at T.F_p_result_at.kp T.b_p_result_at .nil pass0 (pa_cons (pv 1) (pa_cons pe_int pa_nil))) (nomark _)))) pss_nil) pss_never, ?_⟩
    refine ⟨.ref a, rfl, a, f, n, rfl, .inr ha, hf.len, .ref b, rfl, b, g, n, rfl, .inr hb, hg.len, n, rfl, ?_⟩
    refine ⟨.ref a, rfl, a, nv f, rfl, .inr ⟨ha, ?_⟩⟩
    refine ⟨.ref b, rfl, b, nv g, rfl, .inr ⟨hb, ?_⟩⟩
    refine ⟨_, _, .tup ha (dp_nats _), .tup hb (dp_nats _), (fi_tup hf (by omega)).sh, (fi_tup hg (by omega)).sh, ?_⟩
    have e1 : PyData.eqv (.tuple (nd f)) (.tuple (nd g)) = decide (f = g) := eqv_td f g
    refine ⟨_, rfl, ?_⟩
    rw [e1, decide_eq_false hne]
    refine iteF ?_
    refine ⟨.ref a, rfl, a, f, n, rfl, .inr ha, hf, by omega, fun H1 p as s1 np ep hA => ⟨p, _, rfl, .inl (.inl (.inl ep)), ?_⟩⟩
    refine ⟨.ref b, rfl, b, g, n, rfl, (Sq.same (.inr hb) s1), hg, by omega, fun H2 p2 bs s2 np2 ep2 hB => ⟨p2, _, rfl, .inl (.inl (.inl ep2)), ?_⟩⟩
    have s12 := s1.trans s2
    rw [show ((as.map V.ref).length : Int) = ((sts f n).length : Nat) by rw [List.length_map, hA.length], show ((bs.map V.ref).length : Int) = ((sts g n).length : Nat) by rw [List.length_map, hB.length]]
    refine ⟨_, rfl, _, _, rfl, rfl, _, rfl, ?_⟩
    rw [decide_eq_true (show ((sts f n).length : Int) ≤ 2 by omega)]
    refine iteT ⟨_, rfl, _, _, rfl, rfl, _, rfl, ?_⟩
    rw [decide_eq_true (show ((sts g n).length : Int) ≤ 2 by omega)]
    refine iteT ?_
    have r1 : IsPair n (rat f n 0) := rat_pair hf he (dfac_pos _)
    have r2 : IsPair n (rat g n 0) := rat_pair hg he (dfac_pos _)
    refine ⟨.ref a, rfl, a, f, n, 0, rfl, Sq.same (.inr ha) s12, hf, he, hn, dfac_pos _, fun H3 t s3 nt et => ?_⟩
    refine ⟨.ref b, rfl, b, g, n, 0, rfl, Sq.same (.inr hb) (s12.trans s3), hg, he, hn, dfac_pos _, fun H4 u s4 nu eu => ?_⟩
    refine ⟨_, _, .tup (.inl (.inl (s4 _ _ et))) (dp_nats _), .tup (.inl (.inl eu)) (dp_nats _), (fi_tup r1 (by omega)).sh, (fi_tup r2 (by omega)).sh, ?_⟩
    rw [show PyData.eqv (.tuple (nd (rat f n 0))) (.tuple (nd (rat g n 0))) = decide (rat f n 0 = rat g n 0) from eqv_td _ _]
    exact q H4 ((s12.trans s3).trans s4)
end
end Pc
namespace Pc
open PySem PySem.Spec PyProof.Rows L2 RZ
theorem rdF_pair {n : Nat} (hn : n ∈ Ns) : IsPair (2 * n) (rdF n) := by
  rw [← (rd_ok n hn).2.1]; exact shw_pair (emp_pair (by have := Ns_b hn; omega)) (rd_ok n hn).1
theorem rd1_calls : ∀ n ∈ Ns, ∀ q ∈ [((0 : Nat), (1 : Nat))], q.1 < q.2 ∧ q.2 < n := by decide
theorem tups_take2 {H : Hp} {as : List Addr} {a b : List Nat} {r : List (List Nat)} (h : Tups H as (a :: b :: r)) : Tups H (as.take 2) [a, b] := by
  cases h with
  | cons h1 h2 => cases h2 with
    | cons h3 _ => exact .cons h1 (.cons h3 .nil)
theorem rg_four_nv {n : Nat} (h : 4 ≤ n) : rgV 4 (n : Int) = nv ((List.range (n - 4)).map (4 + ·)) := by
  unfold rgV nv
  rw [show ((n : Int) - 4).toNat = n - 4 by omega, List.map_map]
  rfl
theorem nv_takeS {L : List Nat} {j v : Nat} {x : V} (h : L[j]? = some v) (e : x = .int (v : Nat)) : nv (L.take j) ++ [x] = nv (L.take (j + 1)) := by
  rw [List.take_add_one, h, e]
  unfold nv
  rw [List.map_append]; rfl
theorem sstl_rd {n : Nat} (hn : n ∈ Ns) {b p : Nat} (h : SStl (shw n rdQ (emp n)) n b p) : b = 1 ∧ p = 2 := by
  have hb := Ns_b hn
  have h0 : 0 < n := by omega
  have hc : Calls n rdQ := (rd_ok n hn).1
  have e1 := (rd_ok n hn).2.1
  obtain ⟨a1, a2, a3, a4, a5⟩ := rd_pw n hn
  have p1 : pw (shw n rdQ (emp n)) n 1 = rdF n := by rw [← pw_add1 h0 hc 0]; exact e1
  have p2 : pw (shw n rdQ (emp n)) n 2 = shw n rdQ (rdF n) := by rw [← pw_add1 h0 hc 1, p1]
  have p3 : pw (shw n rdQ (emp n)) n 3 = rdF n := by rw [← pw_add1 h0 hc 2, p2, a1]
  have n1 : pw (shw n rdQ (emp n)) n 0 ≠ rdF n := fun q => by rw [show pw (shw n rdQ (emp n)) n 0 = emp n from rfl] at q; rw [← q, a3] at a4; omega
  have n2 : pw (shw n rdQ (emp n)) n 0 ≠ shw n rdQ (rdF n) := fun q => by rw [show pw (shw n rdQ (emp n)) n 0 = emp n from rfl] at q; rw [← q, a3] at a5; omega
  have := h.crs h0 (shw_pair (emp_pair h0) hc) (L := 3) (j := 1) (by decide) (by rw [p3, p1]) (fun i j hi hj h => by
    rcases (show i = 0 ∨ i = 1 ∨ i = 2 by omega) with rfl | rfl | rfl <;> rcases (show j = 0 ∨ j = 1 ∨ j = 2 by omega) with rfl | rfl | rfl
    · rfl
    · rw [p1] at h; exact absurd h n1
    · rw [p2] at h; exact absurd h n2
    · rw [p1] at h; exact absurd h.symm n1
    · rfl
    · rw [p1, p2] at h; exact absurd h.symm a2
    · rw [p2] at h; exact absurd h.symm n2
    · rw [p1, p2] at h; exact absurd h a2
    · rfl)
  exact this
theorem sstl_one {n : Nat} (hn : n ∈ Ns) {b p : Nat} (h : SStl (shw n [(0, 1)] (emp n)) n b p) : b = 1 ∧ p = 1 := by
  have hb := Ns_b hn
  have h0 : 0 < n := by omega
  have hc : Calls n [(0, 1)] := rd1_calls n hn
  obtain ⟨a1, a2⟩ := rd_one n hn
  have a3 := (rd_pw n hn).2.2.1
  have p1 : pw (shw n [(0, 1)] (emp n)) n 1 = shw n [(0, 1)] (emp n) := by rw [← pw_add1 h0 hc 0]; rfl
  have p2 : pw (shw n [(0, 1)] (emp n)) n 2 = pw (shw n [(0, 1)] (emp n)) n 1 := by rw [← pw_add1 h0 hc 1, p1, a1]
  have n1 : pw (shw n [(0, 1)] (emp n)) n 0 ≠ pw (shw n [(0, 1)] (emp n)) n 1 := fun q => by
    rw [p1, show pw (shw n [(0, 1)] (emp n)) n 0 = emp n from rfl] at q; rw [← q, a3] at a2; omega
  exact h.crs h0 (shw_pair (emp_pair h0) hc) (L := 2) (j := 1) (by decide) p2 (fun i j hi hj h => by
    rcases (show i = 0 ∨ i = 1 by omega) with rfl | rfl <;> rcases (show j = 0 ∨ j = 1 by omega) with rfl | rfl
    · rfl
    · exact absurd h n1
    · exact absurd h.symm n1
    · rfl)
end Pc
namespace Pc
open PySem PySem.Spec PyProof.Rows L2 RZ
/-! ### xs[::-1] of a list -/
def backV {α : Type} (xs : List α) : List α := (sliceRange ((xs.length : Int) - 1) (-1) (-1)).filterMap (xs[·]?)
theorem pick_vals {xs : List V} {its : List Value} (r : Vals xs its) : ∀ l : List Nat, Vals (l.filterMap (xs[·]?)) (l.filterMap (its[·]?))
  | [] => .nil
  | i :: l => by
    cases e : xs[i]? with
    | none =>
      have h := List.getElem?_eq_none_iff.mp e
      have e2 : its[i]? = none := List.getElem?_eq_none_iff.mpr (by rw [← r.length]; exact h)
      rw [List.filterMap_cons_none e, List.filterMap_cons_none e2]
      exact pick_vals r l
    | some v =>
      obtain ⟨u, hu, ru⟩ := r.get e
      rw [List.filterMap_cons_some e, List.filterMap_cons_some hu]
      exact .cons ru (pick_vals r l)
theorem back_len {α : Type} (xs : List α) : (backV xs).length ≤ xs.length := by
  unfold backV
  exact Nat.le_trans (List.length_filterMap_le _ _) (sliceRange_length_le _ _ _ _ (fun h => absurd h (by decide)) (fun _ => ⟨Int.le_refl _, Int.le_refl _⟩))
theorem back_mem {α : Type} {xs : List α} {x : α} (h : x ∈ backV xs) : x ∈ xs := by
  obtain ⟨i, _, e⟩ := List.mem_filterMap.mp h
  exact List.mem_of_getElem? e
theorem back_nv (l : List Nat) : backV (nv l) = nv (backV l) := by
  unfold backV nv
  rw [List.length_map, List.map_filterMap]
  refine congrArg (fun f => List.filterMap f _) (funext fun i => ?_)
  rw [List.getElem?_map]
theorem slice_back (its : List Value) : slicePick its.toArray none none (some (-1)) = (backV its).toArray := by
  unfold slicePick backV
  simp [sliceBounds]
def tRevL (K : PySem.W.Frag) (te : TE) : TE := fun σ H Q => te σ H fun x H1 => ∃ a xs, x = .ref a ∧ SqL K H1 a xs ∧ ∀ p, H1 p = none → Q (.ref p) (upd H1 p (.lst (backV xs)))
theorem pe_revL {X : Cx} {e : Expr} {te : TE} {k : Nat} {p1 p2 p3 pos : Pos} (he : PE X e te) : PE X (.Subscript e (.Slice none none (some (.UnaryOp .USub (.Constant (.int 1) k p1) p2)) p3) pos) (tRevL X.K te) := by
  constructor
  intro pins s σ H Q I h
  refine Subscript_ (thn (he.run pins s σ H _ I h) fun v s1 r => ?_)
  obtain ⟨x, H1, I1, r1, a, xs, ex, hx, q⟩ := r
  subst ex
  cases r1
  have hst : PO X (some (.UnaryOp .USub (.Constant (.int 1) k p1) p2)) (tPart (tUn (rU fun i => .int (-i)) (tC (.int 1)))) := po_some (pe_un un_neg pe_int)
  refine wpAny_Slice (thn (po_none.run pins s1 σ H1 (fun o H2 => o = none ∧ H2 = H1) I1 ⟨rfl, rfl⟩) fun vl s2 ⟨l, H2, I2, pl, el, e2⟩ => ?_)
  subst el e2
  refine thn (po_none.run pins s2 σ H2 (fun o H3 => o = none ∧ H3 = H2) I2 ⟨rfl, rfl⟩) fun vu s3 ⟨u, H3, I3, pu, eu, e3⟩ => ?_
  subst eu e3
  refine thn (hst.run pins s3 σ H3 (fun o H4 => o = some (-1) ∧ H4 = H3) I3 ⟨1, rfl, -1, rfl, rfl, rfl⟩) fun vs s4 ⟨o, H4, I4, ps, eo, e4⟩ => ?_
  subst eo e4
  cases pl
  cases pu
  have I5 : Inv X pins σ H4 { s4 with heap := s4.heap.push { cls := .type "slice", data := .fields #[.none, .none, vs] } } := I4.kept (t' := s4.toks) fun b ob q => Heap.get?_push_of_some _ q
  obtain ⟨its, r, ht, hz⟩ := I5.list hx
  have hlen := r.length
  show wpAny (model X.prog X.w) X.A (subscriptTail e (.Slice none none (some (.UnaryOp .USub (.Constant (.int 1) k p1) p2)) p3) (.ref a) (.ref s4.heap.objs.size)) (EP X pins σ Q) X.xe _
  refine tail_any (ops := [.ref a, .ref s4.heap.objs.size]) ht.isList.typeIs PySem.F.slot_list_getitem.lookup ?_ (by with_unfolding_all rfl)
  refine wpAny_getItem_list_slice ht.isList (Heap.IsSliceOf.new _ .none .none vs) .none .none ps (by simp) ?_ (by rw [List.size_toArray] <;> omega)
  rw [slice_back]
  refine ⟨.ref _, _, I5.laid (t' := s4.toks) (o := .lst (backV xs)) (fun b ob q => Heap.get?_push_of_some _ q) (Nat.le_refl _) ?_, rfl, q _ (I5.hok.fresh (Nat.le_refl _))⟩
  refine ⟨Nat.le_trans (back_len xs) hz, _, 0, ?_, Heap.get?_push_size _ rfl⟩
  unfold backV
  rw [hlen]
  exact pick_vals r _
end Pc
namespace Pc
open PySem PySem.Spec PyProof.Rows L2 RZ
theorem pick_take {α : Type} (ys : List α) : ∀ n, n ≤ ys.length → (List.range n).filterMap (ys[·]?) = ys.take n
  | 0, _ => rfl
  | n + 1, h => by
    rw [List.range_succ, List.filterMap_append, pick_take ys n (by omega), List.take_add_one]
    have : ys[n]? = some ys[n] := List.getElem?_eq_getElem (by omega)
    rw [List.filterMap_cons_some this, List.filterMap_nil, this]; rfl
theorem fm_congr {α β : Type} {f g : α → Option β} : ∀ (l : List α), (∀ k ∈ l, f k = g k) → l.filterMap f = l.filterMap g
  | [], _ => rfl
  | k :: l, h => by
    rw [List.filterMap_cons, List.filterMap_cons, h k List.mem_cons_self, fm_congr l fun x hx => h x (List.mem_cons_of_mem _ hx)]
theorem back_rev {α : Type} (xs : List α) : backV xs = xs.reverse := by
  have e : sliceRange ((xs.length : Int) - 1) (-1) (-1) = (List.range xs.length).map fun k => xs.length - 1 - k := by
    unfold sliceRange
    have hc : (if (-1 : Int) > 0 then (if (xs.length : Int) - 1 < -1 then (-1 - ((xs.length : Int) - 1) + -1 - 1) / -1 else 0) else (if (xs.length : Int) - 1 > -1 then ((xs.length : Int) - 1 - -1 - -1 - 1) / (- -1) else 0)).toNat = xs.length := by
      rw [if_neg (by decide)]
      rw [show (- -1 : Int) = 1 from rfl, Int.ediv_one]
      split
      · omega
      · omega
    show (List.range (if (-1 : Int) > 0 then (if (xs.length : Int) - 1 < -1 then (-1 - ((xs.length : Int) - 1) + -1 - 1) / -1 else 0) else (if (xs.length : Int) - 1 > -1 then ((xs.length : Int) - 1 - -1 - -1 - 1) / (- -1) else 0)).toNat).map (fun (k : Nat) => ((xs.length : Int) - 1 + -1 * (k : Int)).toNat) = _
    rw [hc]
    exact List.map_congr_left fun k _ => by omega
  unfold backV
  rw [e, List.filterMap_map]
  have h1 : (List.range xs.length).filterMap ((fun x => xs[x]?) ∘ fun k => xs.length - 1 - k) = (List.range xs.length).filterMap (xs.reverse[·]?) := by
    refine fm_congr _ fun k hk => ?_
    have := List.mem_range.mp hk
    rw [List.getElem?_reverse (by omega)]; rfl
  rw [h1]
  have h2 := pick_take xs.reverse xs.length (by rw [List.length_reverse]; exact Nat.le_refl _)
  rw [h2, List.take_of_length_le (by rw [List.length_reverse]; exact Nat.le_refl _)]
theorem prs_rev {H : Hp} : ∀ {as : List Addr} {qs : List (Nat × Nat)}, Prs H as qs → Prs H as.reverse qs.reverse
  | _, _, .nil => .nil
  | _, _, .cons (a := a) (b := q) h r => by
    rw [List.reverse_cons, List.reverse_cons]
    exact prs_append (prs_rev r) (.cons h .nil)
end Pc
namespace Pc
open PySem PySem.Spec PyProof.Rows L2 RZ
theorem chS1_len (k : Nat) : (chS1 k).length = k - 1 := by unfold chS1; rw [List.length_map, List.length_range]
theorem chS1_get {k j : Nat} (h : j < k - 1) : (chS1 k)[j]? = some (2 + j, j) := by unfold chS1; rw [List.getElem?_map, List.getElem?_range h]; rfl
theorem chS2_len (n k : Nat) : (chS2 n k).length = n - (k + 1) := by unfold chS2; rw [List.length_map, List.length_range]
theorem chS2_get {n k j : Nat} (h : j < n - (k + 1)) : (chS2 n k)[j]? = some (k + 1 + j, k + 1 + j) := by unfold chS2; rw [List.getElem?_map, List.getElem?_range h]; rfl
theorem chL2_len (n k : Nat) : (chL2 n k).length = n - (k + 1) := by unfold chL2; rw [List.length_map, List.length_range]
theorem chL2_get {n k j : Nat} (h : j < n - (k + 1)) : (chL2 n k)[j]? = some [k + 1 + j] := by unfold chL2; rw [List.getElem?_map, List.getElem?_range h]; rfl
theorem shw_cat (n : Nat) (a b : List (Nat × Nat)) (f : List Nat) : shw n (a ++ b) f = shw n b (shw n a f) := by
  unfold shw runs low; rw [List.map_append, List.foldl_append]
theorem laps_b0 : ∀ n ∈ Ns, ∀ k, k ≤ n - 1 → ([chL k] ++ chL2 n k).length ≤ 100 ∧ ∀ l ∈ [chL k] ++ chL2 n k, l.length ≤ 100 ∧ ∀ i ∈ l, i < 2 ^ 60 := by decide +kernel
theorem laps_b {n k : Nat} (hn : n ∈ Ns) (hk : k ≤ n - 1) : ([chL k] ++ chL2 n k).length ≤ 100 ∧ ∀ l ∈ [chL k] ++ chL2 n k, l.length ≤ 100 ∧ ∀ i ∈ l, i < 2 ^ 60 := laps_b0 n hn k hk
theorem rgc_oddN {n : Nat} (h : 4 ≤ n) (k : n ≤ 20) (e : n % 2 = 0) : RgC 3 ((n : Int) - 2) 2 ((n - 4) / 2) := by
  have e : Builtin.Range.rangeSize 3 ((n : Int) - 2) 2 = (((n - 4) / 2 : Nat) : Int) := by
    unfold Builtin.Range.rangeSize
    rw [if_pos (by decide)]
    split <;> omega
  refine ⟨by decide, by decide, ?_, e⟩
  unfold Builtin.Range.small
  rw [e, fits_long (i := 3) (by decide) (by decide), fits_long (i := (n : Int) - 2) (by omega) (by omega), fits_long (i := 2) (by decide) (by decide), fits_long (i := (((n - 4) / 2 : Nat) : Int)) (by omega) (by omega), if_pos (by decide), fits_long (i := (n : Int) - 2 + (2 - 1)) (by omega) (by omega), Bool.or_true]
  rfl
theorem dfac_few {n : Nat} (h : n ≤ 20) : dfac ((n - 4) / 2 + 1) ≤ 34459425 := by
  have : ∀ m, m ≤ 9 → dfac m ≤ 34459425 := by decide
  exact this _ (by omega)
theorem max_half {n : Nat} (h : 4 ≤ n) : V.int (if (n : Int) / 2 - 2 > 0 then (n : Int) / 2 - 2 else 0) = V.int ((n / 2 - 2 : Nat) : Int) := by
  refine congrArg V.int ?_
  split <;> omega
end Pc
namespace Pc
open PySem PySem.Spec PyProof.Rows L2 RZ
theorem due_b0 : ∀ n ∈ Ns, ∀ k, k ≤ n - 1 → (chS1 k ++ chS2 n k).length ≤ 1000 ∧ ∀ p ∈ chS1 k ++ chS2 n k, p.1 < 2 ^ 60 ∧ p.2 < 2 ^ 60 := by decide +kernel
end Pc
namespace Pc
open PySem PySem.Spec PyProof.Rows L2 RZ
section
variable {P : Program} {w : World} {K : PySem.W.Frag} {mg : Str → Option Value} {base : Heap}
def spChainR : Sp := fun vs H Q _ => ∃ N k : Nat, vs = [.int N, .int k] ∧ N ∈ Ns ∧ 1 ≤ k ∧ k ≤ N - 1 ∧ ∀ H', Same H H' → Q (.bl true) H'
theorem ok_chain_right (T : Env K mg) : FnOk P w K mg base CX0 8 T.f_chain_right T.d_chain_right ["_law_crowd", "_law_far"] spChainR := by
  have GE : FnOk P w K mg base CX0 5 T.f_same T.d_same ["_law_found", "_law_due"] (spSame K 5) := (ok_same T 5).mono (by decide)
  have Gs : FnOk P w K mg base CX0 2 T.f_p_strands T.d_p_strands ["sheet"] (spPairs K sts) := ok_p_strands T
  have GM : FnOk P w K mg base CX0 3 T.f_p_results_many T.d_p_results_many ["sheet"] (spResMany K) := ok_p_results_many T
  have GS : FnOk P w K mg base CX0 5 T.f_p_sheet_of T.d_p_sheet_of ["size", "word"] (spPSheetOf K) := ok_p_sheet_of T
  have Gf : FnOk P w K mg base CX0 5 T.f_p_fewest_calls T.d_p_fewest_calls ["sheet"] (spFewest K) := ok_p_fewest_calls T
  have GF : FnOk P w K mg base CX0 3 T.f_p_followed T.d_p_followed ["one", "other"] (spFollowed K) := ok_p_followed T
  have Gu : FnOk P w K mg base CX0 2 T.f_p_upper_pairs T.d_p_upper_pairs ["sheet"] (spPairs K ups) := ok_p_upper_pairs T
  have Glo : FnOk P w K mg base CX0 2 T.f_p_lower_pairs T.d_p_lower_pairs ["sheet"] (spPairs K los) := ok_p_lower_pairs T
  have GL : FnOk P w K mg base CX0 3 T.f_p_loops T.d_p_loops ["sheet"] (spLoops K) := ok_p_loops T
  have GU : FnOk P w K mg base CX0 4 T.f_p_pure_loops T.d_p_pure_loops ["sheet"] (spPureL K) := ok_p_pure_loops T
  have GY : FnOk P w K mg base CX0 4 T.f_p_fewest_to_settle T.d_p_fewest_to_settle ["sheet"] (spFewSet K) := ok_p_fewest_to_settle T
  refine T.F_chain_right.ok sc_chain_right (fun vs H Q E h => ?_) (fun cdv A outer s H vs Q E hr h => ?_)
  · obtain ⟨N, k, rfl, _⟩ := h
    rfl
  · obtain ⟨N, k, rfl, hNs, hk1, hk2, q⟩ := h
    have h1 := hr.mono (show 1 ≤ 7 by decide)
    have h2 := hr.mono (show 2 ≤ 7 by decide)
    have h3 := hr.mono (show 3 ≤ 7 by decide)
    have h4 := hr.mono (show 4 ≤ 7 by decide)
    have h5 := hr.mono (show 5 ≤ 7 by decide)
    have h6 := hr.mono (show 6 ≤ 7 by decide)
    have sH : Same H H := Same.refl _
    obtain ⟨hn2, hn, hev⟩ := Ns_b hNs
    have hE : IsPair (2 * N) (chE N k) := by rw [← ch_eq N hNs k hk2 hk1]; exact shw_pair (emp_pair (by omega)) (ch_calls N hNs k hk2)
    refine ⟨_, pss_cons (ps_setLc (i := 2) (own := [("_law_spot", 9)]) (g := gName 9) (tt := tYes) rfl sc_chain_right.nd rfl rfl (sw_true rfl rfl rfl (by decide +kernel)) (pi_range1 (by rfl) T.n_range (pa_cons (pv 1) pa_nil)) (blkOk_by (N := N_chain_right) (sc := defScope s_chain_right) (by decide +kernel)) (fun _ _ _ _ _ => pg_name (i := 9) sc_chain_right.nd rfl (.inl rfl)) (fun _ _ _ _ _ => pts_nil) (fun _ _ _ _ _ => pe_tup (pa_cons (pv 9) (pa_cons (pe_op op_add (pv 9) pe_int) pa_nil)))) <|
      pss_cons (ps_set (i := 3) sc_chain_right.nd rfl (.inl rfl) (pe_call GS h5 (by rfl) T.g_p_sheet_of T.F_p_sheet_of.kp T.b_p_sheet_of .nil pass0 (pa_cons (pv 0) (pa_cons (pv 2) pa_nil)))) <|
      pss_cons (ps_if (pt_not (pt_val (pe_call GE h5 (by rfl) T.g_same T.F_same.kp T.b_same .nil pass0 (pa_cons (pe_lst (pa_cons (pe_call Gu h2 (by rfl) T.g_p_upper_pairs T.F_p_upper_pairs.kp T.b_p_upper_pairs .nil pass0 (pa_cons (pv 3) pa_nil)) (pa_cons (pe_call Glo h2 (by rfl) T.g_p_lower_pairs T.F_p_lower_pairs.kp T.b_p_lower_pairs .nil pass0 (pa_cons (pv 3) pa_nil)) pa_nil))) (pa_cons (pe_lst (pa_cons (pe_lst (pa_cons (pe_tup (pa_cons pe_int (pa_cons pe_int pa_nil))) pa_nil)) (pa_cons (pe_lst (pa_cons (pe_tup (pa_cons (pe_op op_sub (pv 1) pe_int) (pa_cons (pv 1) pa_nil))) pa_nil)) pa_nil))) pa_nil))))) (pss_one (ps_ret pe_bl)) pss_nil) <|
      pss_cons (ps_set (i := 4) sc_chain_right.nd rfl (.inl rfl) (pe_op op_cat (pe_lc (own := [("_law_spot", 9)]) (g := gName 9) (tt := tYes) rfl sc_chain_right.nd (pi_range2 (by rfl) T.n_range (pa_cons pe_int (pa_cons (pe_op op_add (pv 1) pe_int) pa_nil))) (blkOk_by (N := N_chain_right) (sc := defScope s_chain_right) (by decide +kernel)) (fun _ _ _ _ _ => pg_name (i := 9) sc_chain_right.nd rfl (.inl rfl)) (fun _ _ _ _ _ => pts_nil) (fun _ _ _ _ _ => pe_tup (pa_cons (pv 9) (pa_cons (pe_op op_sub (pv 9) pe_int) pa_nil)))) (pe_lc (own := [("_law_spot", 9)]) (g := gName 9) (tt := tYes) rfl sc_chain_right.nd (pi_range2 (by rfl) T.n_range (pa_cons (pe_op op_add (pv 1) pe_int) (pa_cons (pv 0) pa_nil))) (blkOk_by (N := N_chain_right) (sc := defScope s_chain_right) (by decide +kernel)) (fun _ _ _ _ _ => pg_name (i := 9) sc_chain_right.nd rfl (.inl rfl)) (fun _ _ _ _ _ => pts_nil) (fun _ _ _ _ _ => pe_tup (pa_cons (pv 9) (pa_cons (pv 9) pa_nil)))))) <|
      pss_cons (ps_if (pt_not (pt_val (pe_call GE h5 (by rfl) T.g_same T.F_same.kp T.b_same .nil pass0 (pa_cons (pe_call Gs h2 (by rfl) T.g_p_strands T.F_p_strands.kp T.b_p_strands .nil pass0 (pa_cons (pv 3) pa_nil)) (pa_cons (pv 4) pa_nil))))) (pss_one (ps_ret pe_bl)) pss_nil) <|
      pss_cons (ps_set (i := 5) sc_chain_right.nd rfl (.inl rfl) (pe_op op_cat (pe_lst (pa_cons (pe_tupRg rfl (by rfl) T.n_tuple (prg_1 (by rfl) T.n_range (pe_op op_add (pv 1) pe_int))) pa_nil)) (pe_lc (own := [("_law_spot", 9)]) (g := gName 9) (tt := tYes) rfl sc_chain_right.nd (pi_range2 (by rfl) T.n_range (pa_cons (pe_op op_add (pv 1) pe_int) (pa_cons (pv 0) pa_nil))) (blkOk_by (N := N_chain_right) (sc := defScope s_chain_right) (by decide +kernel)) (fun _ _ _ _ _ => pg_name (i := 9) sc_chain_right.nd rfl (.inl rfl)) (fun _ _ _ _ _ => pts_nil) (fun _ _ _ _ _ => pe_tup (pa_cons (pv 9) pa_nil))))) <|
      pss_cons (ps_if (pt_not (pt_val (pe_call GE h5 (by rfl) T.g_same T.F_same.kp T.b_same .nil pass0 (pa_cons (pe_lst (pa_cons (pe_call GL h3 (by rfl) T.g_p_loops T.F_p_loops.kp T.b_p_loops .nil pass0 (pa_cons (pv 3) pa_nil)) (pa_cons (pe_call GU h4 (by rfl) T.g_p_pure_loops T.F_p_pure_loops.kp T.b_p_pure_loops .nil pass0 (pa_cons (pv 3) pa_nil)) (pa_cons (pe_call Gf h5 (by rfl) T.g_p_fewest_calls T.F_p_fewest_calls.kp T.b_p_fewest_calls .nil pass0 (pa_cons (pv 3) pa_nil)) pa_nil)))) (pa_cons (pe_lst (pa_cons (pv 5) (pa_cons (pe_lst pa_nil) (pa_cons (pv 1) pa_nil)))) pa_nil))))) (pss_one (ps_ret pe_bl)) pss_nil) <|
      pss_cons (ps_set (i := 6) sc_chain_right.nd rfl (.inl rfl) (pe_call GF h3 (by rfl) T.g_p_followed T.F_p_followed.kp T.b_p_followed .nil pass0 (pa_cons (pv 3) (pa_cons (pe_call GS h5 (by rfl) T.g_p_sheet_of T.F_p_sheet_of.kp T.b_p_sheet_of .nil pass0 (pa_cons (pv 0) (pa_cons (pe_revL (pv 2)) pa_nil))) pa_nil)))) <|
      pss_cons (ps_if (PW.pt (pw_or (pt_cmpR (op_neD hr.units) (pv 6) (pe_call GS h5 (by rfl) T.g_p_sheet_of T.F_p_sheet_of.kp T.b_p_sheet_of .nil pass0 (pa_cons (pv 0) (pa_cons (pe_op op_cat (pv 2) (pe_revL (pv 2))) pa_nil))) (nomark _)) (pw_or1 (pt_cmpR (op_neD hr.units) (pv 6) (pe_call GS h5 (by rfl) T.g_p_sheet_of T.F_p_sheet_of.kp T.b_p_sheet_of .nil pass0 (pa_cons (pv 0) (pa_cons (pe_lst (pa_cons (pe_tup (pa_cons pe_int (pa_cons pe_int pa_nil))) pa_nil)) pa_nil))) (nomark _))))) (pss_one (ps_ret pe_bl)) pss_nil) <|
      pss_cons (ps_set (i := 7) sc_chain_right.nd rfl (.inl rfl) pe_int) <|
      pss_cons (ps_for PassesOwn.never rfl (pi_range3 (by rfl) T.n_range (pa_cons pe_int (pa_cons (pe_op op_sub (pv 0) pe_int) (pa_cons pe_int pa_nil)))) (pg_name (i := 8) sc_chain_right.nd rfl (.inl rfl)) (pss_one (ps_set (i := 7) sc_chain_right.nd rfl (.inl rfl) (pe_op op_mul (pv 7) (pv 8))))) <|
      pss_one (ps_ret (pe_call GE h5 (by rfl) T.g_same T.F_same.kp T.b_same .nil pass0 (pa_cons (pe_lst (pa_cons (pe_call GM h3 (by rfl) T.g_p_results_many T.F_p_results_many.kp T.b_p_results_many .nil pass0 (pa_cons (pv 3) pa_nil)) (pa_cons (pe_call GY h4 (by rfl) T.g_p_fewest_to_settle T.F_p_fewest_to_settle.kp T.b_p_fewest_to_settle .nil pass0 (pa_cons (pv 3) pa_nil)) pa_nil))) (pa_cons (pe_lst (pa_cons (pv 7) (pa_cons (pe_callB (call_max2 rfl) (by rfl) T.n_max (by decide +kernel) (pa_cons pe_int (pa_cons (pe_op op_sub (pe_op op_fdiv (pv 0) pe_int) pe_int) pa_nil))) pa_nil))) pa_nil)))), ?_⟩
    refine ⟨_, rfl, _, rfl, by omega, by omega, fun D1 nD1 => ?_⟩
    rw [show ((k : Int)).toNat = k by omega]
    refine lc_range (n := k) (fun j H' => Same H H' ∧ ∃ bs : List Addr, H' D1 = some (.lst (bs.map V.ref)) ∧ Prs H' bs (((chQ k)).take j)) ⟨same_new nD1, [], upd_same, .nil⟩ (fun j H' hj h => ?_) (fun H' h => ?_)
    · obtain ⟨sm, bs, eD, hBs⟩ := h
      refine ⟨rfl, yes_if ⟨_, rfl, _, rfl, _, _, rfl, rfl, by show 2 ≤ sizeLine; decide, fun u nu => ⟨_, same_new nu _ _ eD, ?_, fun x o hx => ?_, bs ++ [u], ?_, ?_⟩⟩⟩
      · rw [List.length_map, hBs.length]; exact small1000 (Nat.le_trans (List.length_take_le' _ _) (by rw [chQ_len]; omega))
      · rw [upd_ne (ne_of_none hx nD1)]; exact same_new nu _ _ (sm _ _ hx)
      · rw [upd_same, List.map_append]; rfl
      · have uD : u ≠ D1 := fun z => by rw [z, eD] at nu; cases nu
        rw [List.take_add_one, chQ_get hj]
        refine prs_append (prs_keep (b := D1) keep_upd (same_new nu _ _ eD) (prs_same (same_new nu) hBs)) (.cons ?_ .nil)
        rw [upd_ne uD, upd_same]
        show some (HO.tup [V.int ((0 : Int) + (j : Nat)), V.int ((0 : Int) + (j : Nat) + 1)]) = some (HO.tup [V.int (j : Nat), V.int ((j + 1 : Nat) : Int)])
        rw [Int.zero_add]; rfl
    obtain ⟨s2, es4, e_D1, hA_D1⟩ := h
    rw [show List.take (k) ((chQ k)) = (chQ k) from List.take_of_length_le (by rw [chQ_len]; omega)] at hA_D1
    revert s2 e_D1 hA_D1; generalize H' = H3; intro s2 e_D1 hA_D1
    replace sH := sH.trans s2
    first | refine st_set [some (.int (N : Nat)), some (.int (k : Nat)), some (.ref D1), none, none, none, none, none, none, none] ?_ rfl | refine st_eq [some (.int (N : Nat)), some (.int (k : Nat)), some (.ref D1), none, none, none, none, none, none, none] ?_ rfl | refine st_eq (t := tSeq _ _) [some (.int (N : Nat)), some (.int (k : Nat)), some (.ref D1), none, none, none, none, none, none, none] ?_ rfl
    refine ⟨_, rfl, _, rfl, N, D1, _, (chQ k), rfl, .inl (.inl (.inl e_D1)), items_of hA_D1, (ch_calls N hNs k hk2), by omega, by omega, fun H5 t6 s7 n8 e_t6 => ?_⟩
    rw [ch_eq N hNs k hk2 hk1] at e_t6
    replace e_D1 := s7 _ _ e_D1
    replace hA_D1 := prs_same s7 hA_D1
    replace sH := sH.trans s7
    first | refine st_set [some (.int (N : Nat)), some (.int (k : Nat)), some (.ref D1), some (.ref t6), none, none, none, none, none, none] ?_ rfl | refine st_eq [some (.int (N : Nat)), some (.int (k : Nat)), some (.ref D1), some (.ref t6), none, none, none, none, none, none] ?_ rfl | refine st_eq (t := tSeq _ _) [some (.int (N : Nat)), some (.int (k : Nat)), some (.ref D1), some (.ref t6), none, none, none, none, none, none] ?_ rfl
    refine ⟨_, rfl, t6, (chE N k), N, rfl, .inr (.inl (.inl e_t6)), hE, by omega, fun H9 t10 as11 s12 n13 e_t10 hA_t10 => ?_⟩
    replace e_D1 := s12 _ _ e_D1
    replace hA_D1 := prs_same s12 hA_D1
    replace e_t6 := s12 _ _ e_t6
    replace sH := sH.trans s12
    rw [(ch_pairs N hNs k hk2 hk1).1] at hA_t10
    refine ⟨_, rfl, t6, (chE N k), N, rfl, .inr (.inl (.inl e_t6)), hE, by omega, fun H14 t15 as16 s17 n18 e_t15 hA_t15 => ?_⟩
    replace e_D1 := s17 _ _ e_D1
    replace hA_D1 := prs_same s17 hA_D1
    replace e_t6 := s17 _ _ e_t6
    replace e_t10 := s17 _ _ e_t10
    replace hA_t10 := prs_same s17 hA_t10
    replace sH := sH.trans s17
    rw [(ch_pairs N hNs k hk2 hk1).2.1] at hA_t15
    refine ⟨(by show 2 ≤ sizeLine; decide), fun l19 nl19 => ?_⟩
    have s20 : Same H14 (upd H14 l19 (.lst [.ref t10, .ref t15])) := same_new nl19
    have e_l19 : upd H14 l19 (.lst [.ref t10, .ref t15]) l19 = some (.lst [.ref t10, .ref t15]) := upd_same
    revert s20 e_l19; generalize upd H14 l19 (.lst [.ref t10, .ref t15]) = H21; intro s20 e_l19
    replace e_D1 := s20 _ _ e_D1
    replace hA_D1 := prs_same s20 hA_D1
    replace e_t6 := s20 _ _ e_t6
    replace e_t10 := s20 _ _ e_t10
    replace hA_t10 := prs_same s20 hA_t10
    replace e_t15 := s20 _ _ e_t15
    replace hA_t15 := prs_same s20 hA_t15
    replace sH := sH.trans s20
    refine ⟨(by show 2 ≤ sizeLine; decide), fun l22 nl22 => ?_⟩
    have s23 : Same H21 (upd H21 l22 (.tup [.int (0 : Nat), .int (1 : Nat)])) := same_new nl22
    have e_l22 : upd H21 l22 (.tup [.int (0 : Nat), .int (1 : Nat)]) l22 = some (.tup [.int (0 : Nat), .int (1 : Nat)]) := upd_same
    revert s23 e_l22; generalize upd H21 l22 (.tup [.int (0 : Nat), .int (1 : Nat)]) = H24; intro s23 e_l22
    replace e_D1 := s23 _ _ e_D1
    replace hA_D1 := prs_same s23 hA_D1
    replace e_t6 := s23 _ _ e_t6
    replace e_t10 := s23 _ _ e_t10
    replace hA_t10 := prs_same s23 hA_t10
    replace e_t15 := s23 _ _ e_t15
    replace hA_t15 := prs_same s23 hA_t15
    replace e_l19 := s23 _ _ e_l19
    replace sH := sH.trans s23
    refine ⟨(by show 1 ≤ sizeLine; decide), fun l25 nl25 => ?_⟩
    have s26 : Same H24 (upd H24 l25 (.lst [.ref l22])) := same_new nl25
    have e_l25 : upd H24 l25 (.lst [.ref l22]) l25 = some (.lst [.ref l22]) := upd_same
    revert s26 e_l25; generalize upd H24 l25 (.lst [.ref l22]) = H27; intro s26 e_l25
    replace e_D1 := s26 _ _ e_D1
    replace hA_D1 := prs_same s26 hA_D1
    replace e_t6 := s26 _ _ e_t6
    replace e_t10 := s26 _ _ e_t10
    replace hA_t10 := prs_same s26 hA_t10
    replace e_t15 := s26 _ _ e_t15
    replace hA_t15 := prs_same s26 hA_t15
    replace e_l19 := s26 _ _ e_l19
    replace e_l22 := s26 _ _ e_l22
    replace sH := sH.trans s26
    refine ⟨_, rfl, _, _, rfl, rfl, ?_⟩
    rw [show (fun i j => V.int (i - j)) (k : Int) 1 = V.int ((k - 1 : Nat) : Int) from congrArg V.int (show (k : Int) - 1 = _ by omega)]
    refine ⟨_, rfl, (by show 2 ≤ sizeLine; decide), fun l28 nl28 => ?_⟩
    have s29 : Same H27 (upd H27 l28 (.tup [.int ((k - 1) : Nat), .int (k : Nat)])) := same_new nl28
    have e_l28 : upd H27 l28 (.tup [.int ((k - 1) : Nat), .int (k : Nat)]) l28 = some (.tup [.int ((k - 1) : Nat), .int (k : Nat)]) := upd_same
    revert s29 e_l28; generalize upd H27 l28 (.tup [.int ((k - 1) : Nat), .int (k : Nat)]) = H30; intro s29 e_l28
    replace e_D1 := s29 _ _ e_D1
    replace hA_D1 := prs_same s29 hA_D1
    replace e_t6 := s29 _ _ e_t6
    replace e_t10 := s29 _ _ e_t10
    replace hA_t10 := prs_same s29 hA_t10
    replace e_t15 := s29 _ _ e_t15
    replace hA_t15 := prs_same s29 hA_t15
    replace e_l19 := s29 _ _ e_l19
    replace e_l22 := s29 _ _ e_l22
    replace e_l25 := s29 _ _ e_l25
    replace sH := sH.trans s29
    refine ⟨(by show 1 ≤ sizeLine; decide), fun l31 nl31 => ?_⟩
    have s32 : Same H30 (upd H30 l31 (.lst [.ref l28])) := same_new nl31
    have e_l31 : upd H30 l31 (.lst [.ref l28]) l31 = some (.lst [.ref l28]) := upd_same
    revert s32 e_l31; generalize upd H30 l31 (.lst [.ref l28]) = H33; intro s32 e_l31
    replace e_D1 := s32 _ _ e_D1
    replace hA_D1 := prs_same s32 hA_D1
    replace e_t6 := s32 _ _ e_t6
    replace e_t10 := s32 _ _ e_t10
    replace hA_t10 := prs_same s32 hA_t10
    replace e_t15 := s32 _ _ e_t15
    replace hA_t15 := prs_same s32 hA_t15
    replace e_l19 := s32 _ _ e_l19
    replace e_l22 := s32 _ _ e_l22
    replace e_l25 := s32 _ _ e_l25
    replace e_l28 := s32 _ _ e_l28
    replace sH := sH.trans s32
    refine ⟨(by show 2 ≤ sizeLine; decide), fun l34 nl34 => ?_⟩
    have s35 : Same H33 (upd H33 l34 (.lst [.ref l25, .ref l31])) := same_new nl34
    have e_l34 : upd H33 l34 (.lst [.ref l25, .ref l31]) l34 = some (.lst [.ref l25, .ref l31]) := upd_same
    revert s35 e_l34; generalize upd H33 l34 (.lst [.ref l25, .ref l31]) = H36; intro s35 e_l34
    replace e_D1 := s35 _ _ e_D1
    replace hA_D1 := prs_same s35 hA_D1
    replace e_t6 := s35 _ _ e_t6
    replace e_t10 := s35 _ _ e_t10
    replace hA_t10 := prs_same s35 hA_t10
    replace e_t15 := s35 _ _ e_t15
    replace hA_t15 := prs_same s35 hA_t15
    replace e_l19 := s35 _ _ e_l19
    replace e_l22 := s35 _ _ e_l22
    replace e_l25 := s35 _ _ e_l25
    replace e_l28 := s35 _ _ e_l28
    replace e_l31 := s35 _ _ e_l31
    replace sH := sH.trans s35
    have fk37 : Fi 3 (.list [.list [.tuple [.int ((0 : Nat)), .int ((1 : Nat))]], .list [.tuple [.int (((k - 1) : Nat)), .int ((k : Nat))]]]) := fi_list (j := 2) (n := 2) (fa_cons (fi_list (j := 1) (n := 1) (fa_cons (fi_tuple (j := 0) (n := 2) (fa_cons (fi_int (by omega)) (fa_cons (fi_int (by omega)) fa_nil)) rfl (by decide)) fa_nil) rfl (by decide)) (fa_cons (fi_list (j := 1) (n := 1) (fa_cons (fi_tuple (j := 0) (n := 2) (fa_cons (fi_int (by omega)) (fa_cons (fi_int (by omega)) fa_nil)) rfl (by decide)) fa_nil) rfl (by decide)) fa_nil)) rfl (by decide)
    refine ⟨_, _, _, rfl, .lst (.inl (.inl e_l19)) (.cons (.lst (.inl (.inl e_t10)) (prs_dp hA_t10)) (.cons (.lst (.inl (.inl e_t15)) (prs_dp hA_t15)) .nil)), .lst (.inl (.inl e_l34)) (.cons (.lst (.inl (.inl e_l25)) (.cons (.tup (.inl (.inl e_l22)) (.cons (.int _) (.cons (.int _) .nil))) .nil)) (.cons (.lst (.inl (.inl e_l31)) (.cons (.tup (.inl (.inl e_l28)) (.cons (.int _) (.cons (.int _) .nil))) .nil)) .nil)), Nat.lt_succ_of_le (Nat.le_trans fk37.depth (by decide)), fk37.nar, fun H38 s39 => ?_⟩
    replace e_D1 := s39 _ _ e_D1
    replace hA_D1 := prs_same s39 hA_D1
    replace e_t6 := s39 _ _ e_t6
    replace e_t10 := s39 _ _ e_t10
    replace hA_t10 := prs_same s39 hA_t10
    replace e_t15 := s39 _ _ e_t15
    replace hA_t15 := prs_same s39 hA_t15
    replace e_l19 := s39 _ _ e_l19
    replace e_l22 := s39 _ _ e_l22
    replace e_l25 := s39 _ _ e_l25
    replace e_l28 := s39 _ _ e_l28
    replace e_l31 := s39 _ _ e_l31
    replace e_l34 := s39 _ _ e_l34
    replace sH := sH.trans s39
    refine ⟨true, rfl, iteN ?_⟩
    refine ⟨_, rfl, _, _, rfl, rfl, _, _, rfl, ⟨by omega, by omega, by omega, by omega⟩, fun D40 nD40 => ?_⟩
    rw [show ((k : Int) + 1 - 2).toNat = (k - 1) by omega]
    refine lc_range (n := (k - 1)) (fun j H' => Same H38 H' ∧ ∃ bs : List Addr, H' D40 = some (.lst (bs.map V.ref)) ∧ Prs H' bs (((chS1 k)).take j)) ⟨same_new nD40, [], upd_same, .nil⟩ (fun j H' hj h => ?_) (fun H' h => ?_)
    · obtain ⟨sm, bs, eD, hBs⟩ := h
      refine ⟨rfl, yes_if ⟨_, rfl, _, rfl, _, _, rfl, rfl, by show 2 ≤ sizeLine; decide, fun u nu => ⟨_, same_new nu _ _ eD, ?_, fun x o hx => ?_, bs ++ [u], ?_, ?_⟩⟩⟩
      · rw [List.length_map, hBs.length]; exact small1000 (Nat.le_trans (List.length_take_le' _ _) (by rw [chS1_len]; omega))
      · rw [upd_ne (ne_of_none hx nD40)]; exact same_new nu _ _ (sm _ _ hx)
      · rw [upd_same, List.map_append]; rfl
      · have uD : u ≠ D40 := fun z => by rw [z, eD] at nu; cases nu
        rw [List.take_add_one, chS1_get hj]
        refine prs_append (prs_keep (b := D40) keep_upd (same_new nu _ _ eD) (prs_same (same_new nu) hBs)) (.cons ?_ .nil)
        rw [upd_ne uD, upd_same]
        show some (HO.tup [V.int ((2 : Int) + (j : Nat)), V.int ((2 : Int) + (j : Nat) - 2)]) = some (HO.tup [V.int ((2 + j : Nat) : Int), V.int (j : Nat)])
        rw [show (2 : Int) + (j : Nat) - 2 = (j : Nat) by omega]; rfl
    obtain ⟨s41, es43, e_D40, hA_D40⟩ := h
    rw [show List.take ((k - 1)) ((chS1 k)) = (chS1 k) from List.take_of_length_le (by rw [chS1_len]; omega)] at hA_D40
    revert s41 e_D40 hA_D40; generalize H' = H42; intro s41 e_D40 hA_D40
    replace e_D1 := s41 _ _ e_D1
    replace hA_D1 := prs_same s41 hA_D1
    replace e_t6 := s41 _ _ e_t6
    replace sH := sH.trans s41
    refine ⟨_, rfl, _, _, rfl, rfl, _, rfl, _, _, rfl, ⟨by omega, by omega, by omega, by omega⟩, fun D44 nD44 => ?_⟩
    rw [show ((N : Int) - ((k : Int) + 1)).toNat = (N - (k + 1)) by omega]
    refine lc_range (n := (N - (k + 1))) (fun j H' => Same H42 H' ∧ ∃ bs : List Addr, H' D44 = some (.lst (bs.map V.ref)) ∧ Prs H' bs (((chS2 N k)).take j)) ⟨same_new nD44, [], upd_same, .nil⟩ (fun j H' hj h => ?_) (fun H' h => ?_)
    · obtain ⟨sm, bs, eD, hBs⟩ := h
      refine ⟨rfl, yes_if ⟨_, rfl, _, rfl, by show 2 ≤ sizeLine; decide, fun u nu => ⟨_, same_new nu _ _ eD, ?_, fun x o hx => ?_, bs ++ [u], ?_, ?_⟩⟩⟩
      · rw [List.length_map, hBs.length]; exact small1000 (Nat.le_trans (List.length_take_le' _ _) (by rw [chS2_len]; omega))
      · rw [upd_ne (ne_of_none hx nD44)]; exact same_new nu _ _ (sm _ _ hx)
      · rw [upd_same, List.map_append]; rfl
      · have uD : u ≠ D44 := fun z => by rw [z, eD] at nu; cases nu
        rw [List.take_add_one, chS2_get hj]
        refine prs_append (prs_keep (b := D44) keep_upd (same_new nu _ _ eD) (prs_same (same_new nu) hBs)) (.cons ?_ .nil)
        rw [upd_ne uD, upd_same]
        rfl
    obtain ⟨s45, es47, e_D44, hA_D44⟩ := h
    rw [show List.take ((N - (k + 1))) ((chS2 N k)) = (chS2 N k) from List.take_of_length_le (by rw [chS2_len]; omega)] at hA_D44
    revert s45 e_D44 hA_D44; generalize H' = H46; intro s45 e_D44 hA_D44
    replace e_D1 := s45 _ _ e_D1
    replace hA_D1 := prs_same s45 hA_D1
    replace e_t6 := s45 _ _ e_t6
    replace e_D40 := s45 _ _ e_D40
    replace hA_D40 := prs_same s45 hA_D40
    replace sH := sH.trans s45
    refine ⟨D40, D44, _, _, rfl, rfl, e_D40, e_D44, by simp only [List.length_map]; rw [hA_D40.length, hA_D44.length, chS1_len, chS2_len]; exact Nat.le_of_lt (line_big (by omega)), fun l48 nl48 => ?_⟩
    rw [← List.map_append]
    have s49 : Same H46 (upd H46 l48 (.lst ((es43 ++ es47).map V.ref))) := same_new nl48
    have e_l48 : upd H46 l48 (.lst ((es43 ++ es47).map V.ref)) l48 = some (.lst ((es43 ++ es47).map V.ref)) := upd_same
    revert s49 e_l48; generalize upd H46 l48 (.lst ((es43 ++ es47).map V.ref)) = H50; intro s49 e_l48
    replace e_D1 := s49 _ _ e_D1
    replace hA_D1 := prs_same s49 hA_D1
    replace e_t6 := s49 _ _ e_t6
    replace e_D40 := s49 _ _ e_D40
    replace hA_D40 := prs_same s49 hA_D40
    replace e_D44 := s49 _ _ e_D44
    replace hA_D44 := prs_same s49 hA_D44
    replace sH := sH.trans s49
    have hA_l48 := prs_append hA_D40 hA_D44
    first | refine st_set [some (.int (N : Nat)), some (.int (k : Nat)), some (.ref D1), some (.ref t6), some (.ref l48), none, none, none, none, none] ?_ rfl | refine st_eq [some (.int (N : Nat)), some (.int (k : Nat)), some (.ref D1), some (.ref t6), some (.ref l48), none, none, none, none, none] ?_ rfl | refine st_eq (t := tSeq _ _) [some (.int (N : Nat)), some (.int (k : Nat)), some (.ref D1), some (.ref t6), some (.ref l48), none, none, none, none, none] ?_ rfl
    refine ⟨_, rfl, t6, (chE N k), N, rfl, .inr (.inl (.inl e_t6)), hE, by omega, fun H51 t52 as53 s54 n55 e_t52 hA_t52 => ?_⟩
    replace e_D1 := s54 _ _ e_D1
    replace hA_D1 := prs_same s54 hA_D1
    replace e_t6 := s54 _ _ e_t6
    replace e_l48 := s54 _ _ e_l48
    replace hA_l48 := prs_same s54 hA_l48
    replace sH := sH.trans s54
    rw [(ch_pairs N hNs k hk2 hk1).2.2.1] at hA_t52
    have fk56 : Fi 2 (.list ((((chS1 k) ++ (chS2 N k))).map pd)) := fi_prs (due_b0 N hNs k hk2)
    refine ⟨_, rfl, _, _, _, rfl, .lst (.inl (.inl e_t52)) (prs_dp hA_t52), .lst (.inl (.inl e_l48)) (prs_dp hA_l48), Nat.lt_succ_of_le (Nat.le_trans fk56.depth (by decide)), fk56.nar, fun H57 s58 => ?_⟩
    replace e_D1 := s58 _ _ e_D1
    replace hA_D1 := prs_same s58 hA_D1
    replace e_t6 := s58 _ _ e_t6
    replace e_l48 := s58 _ _ e_l48
    replace hA_l48 := prs_same s58 hA_l48
    replace e_t52 := s58 _ _ e_t52
    replace hA_t52 := prs_same s58 hA_t52
    replace sH := sH.trans s58
    refine ⟨true, rfl, iteN ?_⟩
    refine ⟨_, rfl, _, _, rfl, rfl, _, rfl, RgOk.of_le (by decide) (by omega) (by decide) (by omega), fun l59 nl59 => ?_⟩
    rw [show rgV 0 ((k : Int) + 1) = nv (chL k) from rg_nv (k + 1)]
    have s60 : Same H57 (upd H57 l59 (.tup (nv ((chL k))))) := same_new nl59
    have e_l59 : upd H57 l59 (.tup (nv ((chL k)))) l59 = some (.tup (nv ((chL k)))) := upd_same
    revert s60 e_l59; generalize upd H57 l59 (.tup (nv ((chL k)))) = H61; intro s60 e_l59
    replace e_D1 := s60 _ _ e_D1
    replace hA_D1 := prs_same s60 hA_D1
    replace e_t6 := s60 _ _ e_t6
    replace sH := sH.trans s60
    refine ⟨(by show 1 ≤ sizeLine; decide), fun l62 nl62 => ?_⟩
    have s63 : Same H61 (upd H61 l62 (.lst [.ref l59])) := same_new nl62
    have e_l62 : upd H61 l62 (.lst [.ref l59]) l62 = some (.lst [.ref l59]) := upd_same
    revert s63 e_l62; generalize upd H61 l62 (.lst [.ref l59]) = H64; intro s63 e_l62
    replace e_D1 := s63 _ _ e_D1
    replace hA_D1 := prs_same s63 hA_D1
    replace e_t6 := s63 _ _ e_t6
    replace e_l59 := s63 _ _ e_l59
    replace sH := sH.trans s63
    obtain ⟨ca, eca⟩ : ∃ z, z = [l59] := ⟨_, rfl⟩
    have hA_l62 : Tups H64 ca [chL k] := by rw [eca]; exact .cons e_l59 .nil
    replace e_l62 : H64 l62 = some (.lst (ca.map V.ref)) := by rw [eca]; exact e_l62
    refine ⟨_, rfl, _, _, rfl, rfl, _, rfl, _, _, rfl, ⟨by omega, by omega, by omega, by omega⟩, fun D65 nD65 => ?_⟩
    rw [show ((N : Int) - ((k : Int) + 1)).toNat = (N - (k + 1)) by omega]
    refine lc_range (n := (N - (k + 1))) (fun j H' => Same H64 H' ∧ ∃ bs : List Addr, H' D65 = some (.lst (bs.map V.ref)) ∧ Tups H' bs (((chL2 N k)).take j)) ⟨same_new nD65, [], upd_same, .nil⟩ (fun j H' hj h => ?_) (fun H' h => ?_)
    · obtain ⟨sm, bs, eD, hBs⟩ := h
      refine ⟨rfl, yes_if ⟨_, rfl, by show 1 ≤ sizeLine; decide, fun u nu => ⟨_, same_new nu _ _ eD, ?_, fun x o hx => ?_, bs ++ [u], ?_, ?_⟩⟩⟩
      · rw [List.length_map, hBs.length]; exact small1000 (Nat.le_trans (List.length_take_le' _ _) (by rw [chL2_len]; omega))
      · rw [upd_ne (ne_of_none hx nD65)]; exact same_new nu _ _ (sm _ _ hx)
      · rw [upd_same, List.map_append]; rfl
      · have uD : u ≠ D65 := fun z => by rw [z, eD] at nu; cases nu
        rw [List.take_add_one, chL2_get hj]
        refine tups_append (tups_keep (b := D65) keep_upd (same_new nu _ _ eD) (tups_same (same_new nu) hBs)) (.cons ?_ .nil)
        rw [upd_ne uD, upd_same]
        rfl
    obtain ⟨s66, es68, e_D65, hA_D65⟩ := h
    rw [show List.take ((N - (k + 1))) ((chL2 N k)) = (chL2 N k) from List.take_of_length_le (by rw [chL2_len]; omega)] at hA_D65
    revert s66 e_D65 hA_D65; generalize H' = H67; intro s66 e_D65 hA_D65
    replace e_D1 := s66 _ _ e_D1
    replace hA_D1 := prs_same s66 hA_D1
    replace e_t6 := s66 _ _ e_t6
    replace e_l62 := s66 _ _ e_l62
    replace hA_l62 := tups_same s66 hA_l62
    replace sH := sH.trans s66
    refine ⟨l62, D65, _, _, rfl, rfl, e_l62, e_D65, by simp only [List.length_map]; rw [hA_l62.length, hA_D65.length, show ([chL k] : List (List Nat)).length = 1 from rfl, chL2_len]; exact Nat.le_of_lt (line_big (by omega)), fun l69 nl69 => ?_⟩
    rw [← List.map_append]
    have s70 : Same H67 (upd H67 l69 (.lst ((ca ++ es68).map V.ref))) := same_new nl69
    have e_l69 : upd H67 l69 (.lst ((ca ++ es68).map V.ref)) l69 = some (.lst ((ca ++ es68).map V.ref)) := upd_same
    revert s70 e_l69; generalize upd H67 l69 (.lst ((ca ++ es68).map V.ref)) = H71; intro s70 e_l69
    replace e_D1 := s70 _ _ e_D1
    replace hA_D1 := prs_same s70 hA_D1
    replace e_t6 := s70 _ _ e_t6
    replace e_l62 := s70 _ _ e_l62
    replace hA_l62 := tups_same s70 hA_l62
    replace e_D65 := s70 _ _ e_D65
    replace hA_D65 := tups_same s70 hA_D65
    replace sH := sH.trans s70
    have hA_l69 := tups_append hA_l62 hA_D65
    first | refine st_set [some (.int (N : Nat)), some (.int (k : Nat)), some (.ref D1), some (.ref t6), some (.ref l48), some (.ref l69), none, none, none, none] ?_ rfl | refine st_eq [some (.int (N : Nat)), some (.int (k : Nat)), some (.ref D1), some (.ref t6), some (.ref l48), some (.ref l69), none, none, none, none] ?_ rfl | refine st_eq (t := tSeq _ _) [some (.int (N : Nat)), some (.int (k : Nat)), some (.ref D1), some (.ref t6), some (.ref l48), some (.ref l69), none, none, none, none] ?_ rfl
    refine ⟨_, rfl, t6, (chE N k), N, rfl, .inr (.inl (.inl e_t6)), hE, by omega, fun H72 t73 as74 ls75 hL76 s77 n78 e_t73 hA_t73 => ?_⟩
    replace e_D1 := s77 _ _ e_D1
    replace hA_D1 := prs_same s77 hA_D1
    replace e_t6 := s77 _ _ e_t6
    replace e_l69 := s77 _ _ e_l69
    replace hA_l69 := tups_same s77 hA_l69
    replace sH := sH.trans s77
    rw [(lopX_of (ch_lop N hNs k hk2 hk1) hL76).1] at hA_t73
    refine ⟨_, rfl, t6, (chE N k), N, rfl, .inr (.inl (.inl e_t6)), hE, by omega, fun H79 t80 as81 ls82 hL83 s84 n85 e_t80 hA_t80 => ?_⟩
    replace e_D1 := s84 _ _ e_D1
    replace hA_D1 := prs_same s84 hA_D1
    replace e_t6 := s84 _ _ e_t6
    replace e_l69 := s84 _ _ e_l69
    replace hA_l69 := tups_same s84 hA_l69
    replace e_t73 := s84 _ _ e_t73
    replace hA_t73 := tups_same s84 hA_t73
    replace sH := sH.trans s84
    rw [(lopX_of (ch_lop N hNs k hk2 hk1) hL83).2] at hA_t80
    refine ⟨_, rfl, t6, (chE N k), N, rfl, .inr (.inl (.inl e_t6)), hE, by omega, by omega, (ch_pairs N hNs k hk2 hk1).2.2.2.2, fun H86 ls87 hL88 s89 => ?_⟩
    rw [show ((N : Int) - (ls87.length : Nat) + 2 * ((ls87.filter (pureB (chE N k) N)).length : Nat)) = (k : Int) by obtain ⟨k1, k2⟩ := lopX_of (ch_lop N hNs k hk2 hk1) hL88; rw [k2, k1]; simp only [List.length_cons, List.length_nil, List.length_map, List.length_range, chL2_len]; omega]
    replace e_D1 := s89 _ _ e_D1
    replace hA_D1 := prs_same s89 hA_D1
    replace e_t6 := s89 _ _ e_t6
    replace e_l69 := s89 _ _ e_l69
    replace hA_l69 := tups_same s89 hA_l69
    replace e_t73 := s89 _ _ e_t73
    replace hA_t73 := tups_same s89 hA_t73
    replace e_t80 := s89 _ _ e_t80
    replace hA_t80 := tups_same s89 hA_t80
    replace sH := sH.trans s89
    refine ⟨(by show 3 ≤ sizeLine; decide), fun l90 nl90 => ?_⟩
    have s91 : Same H86 (upd H86 l90 (.lst [.ref t73, .ref t80, .int ((k : Int))])) := same_new nl90
    have e_l90 : upd H86 l90 (.lst [.ref t73, .ref t80, .int ((k : Int))]) l90 = some (.lst [.ref t73, .ref t80, .int ((k : Int))]) := upd_same
    revert s91 e_l90; generalize upd H86 l90 (.lst [.ref t73, .ref t80, .int ((k : Int))]) = H92; intro s91 e_l90
    replace e_D1 := s91 _ _ e_D1
    replace hA_D1 := prs_same s91 hA_D1
    replace e_t6 := s91 _ _ e_t6
    replace e_l69 := s91 _ _ e_l69
    replace hA_l69 := tups_same s91 hA_l69
    replace e_t73 := s91 _ _ e_t73
    replace hA_t73 := tups_same s91 hA_t73
    replace e_t80 := s91 _ _ e_t80
    replace hA_t80 := tups_same s91 hA_t80
    replace sH := sH.trans s91
    refine ⟨_, rfl, (by show 0 ≤ sizeLine; decide), fun l93 nl93 => ?_⟩
    have s94 : Same H92 (upd H92 l93 (.lst [])) := same_new nl93
    have e_l93 : upd H92 l93 (.lst []) l93 = some (.lst []) := upd_same
    revert s94 e_l93; generalize upd H92 l93 (.lst []) = H95; intro s94 e_l93
    replace e_D1 := s94 _ _ e_D1
    replace hA_D1 := prs_same s94 hA_D1
    replace e_t6 := s94 _ _ e_t6
    replace e_l69 := s94 _ _ e_l69
    replace hA_l69 := tups_same s94 hA_l69
    replace e_t73 := s94 _ _ e_t73
    replace hA_t73 := tups_same s94 hA_t73
    replace e_t80 := s94 _ _ e_t80
    replace hA_t80 := tups_same s94 hA_t80
    replace e_l90 := s94 _ _ e_l90
    replace sH := sH.trans s94
    refine ⟨_, rfl, (by show 3 ≤ sizeLine; decide), fun l96 nl96 => ?_⟩
    have s97 : Same H95 (upd H95 l96 (.lst [.ref l69, .ref l93, .int (k : Nat)])) := same_new nl96
    have e_l96 : upd H95 l96 (.lst [.ref l69, .ref l93, .int (k : Nat)]) l96 = some (.lst [.ref l69, .ref l93, .int (k : Nat)]) := upd_same
    revert s97 e_l96; generalize upd H95 l96 (.lst [.ref l69, .ref l93, .int (k : Nat)]) = H98; intro s97 e_l96
    replace e_D1 := s97 _ _ e_D1
    replace hA_D1 := prs_same s97 hA_D1
    replace e_t6 := s97 _ _ e_t6
    replace e_l69 := s97 _ _ e_l69
    replace hA_l69 := tups_same s97 hA_l69
    replace e_t73 := s97 _ _ e_t73
    replace hA_t73 := tups_same s97 hA_t73
    replace e_t80 := s97 _ _ e_t80
    replace hA_t80 := tups_same s97 hA_t80
    replace e_l90 := s97 _ _ e_l90
    replace e_l93 := s97 _ _ e_l93
    replace sH := sH.trans s97
    have fk99 : Fi 3 (.list [.list ((([chL k] ++ (chL2 N k))).map td), .list [], .int ((k : Nat))]) := fi_list (j := 2) (n := 3) (fa_cons (fi_tups (laps_b hNs hk2)) (fa_cons ((fi_list (j := 0) (n := 0) fa_nil rfl (by decide)).up) (fa_cons (((fi_int (by omega)).up).up) fa_nil))) rfl (by decide)
    refine ⟨_, _, _, rfl, .lst (.inl (.inl e_l90)) (.cons (.lst (.inl (.inl e_t73)) (tups_dp hA_t73)) (.cons (.lst (.inl (.inl e_t80)) (tups_dp hA_t80)) (.cons (.int _) .nil))), .lst (.inl (.inl e_l96)) (.cons (.lst (.inl (.inl e_l69)) (tups_dp hA_l69)) (.cons (.lst (.inl (.inl e_l93)) .nil) (.cons (.int _) .nil))), Nat.lt_succ_of_le (Nat.le_trans fk99.depth (by decide)), fk99.nar, fun H100 s101 => ?_⟩
    replace e_D1 := s101 _ _ e_D1
    replace hA_D1 := prs_same s101 hA_D1
    replace e_t6 := s101 _ _ e_t6
    replace e_l69 := s101 _ _ e_l69
    replace hA_l69 := tups_same s101 hA_l69
    replace e_t73 := s101 _ _ e_t73
    replace hA_t73 := tups_same s101 hA_t73
    replace e_t80 := s101 _ _ e_t80
    replace hA_t80 := tups_same s101 hA_t80
    replace e_l90 := s101 _ _ e_l90
    replace e_l93 := s101 _ _ e_l93
    replace e_l96 := s101 _ _ e_l96
    replace sH := sH.trans s101
    refine ⟨true, rfl, iteN ?_⟩
    refine ⟨_, rfl, _, rfl, _, rfl, D1, _, rfl, .inl (.inl e_D1), fun l102 nl102 => ?_⟩
    rw [back_rev, ← List.map_reverse]
    have s103 : Same H100 (upd H100 l102 (.lst (es4.reverse.map V.ref))) := same_new nl102
    have e_l102 : upd H100 l102 (.lst (es4.reverse.map V.ref)) l102 = some (.lst (es4.reverse.map V.ref)) := upd_same
    revert s103 e_l102; generalize upd H100 l102 (.lst (es4.reverse.map V.ref)) = H104; intro s103 e_l102
    replace e_D1 := s103 _ _ e_D1
    replace hA_D1 := prs_same s103 hA_D1
    replace e_t6 := s103 _ _ e_t6
    replace sH := sH.trans s103
    have hA_l102 := prs_rev hA_D1
    refine ⟨N, l102, _, (chQ k).reverse, rfl, .inl (.inl (.inl e_l102)), items_of hA_l102, (fun q hq => (ch_calls N hNs k hk2) q (List.mem_reverse.mp hq)), by omega, by omega, fun H105 t106 s107 n108 e_t106 => ?_⟩
    replace e_D1 := s107 _ _ e_D1
    replace hA_D1 := prs_same s107 hA_D1
    replace e_t6 := s107 _ _ e_t6
    replace e_l102 := s107 _ _ e_l102
    replace hA_l102 := prs_same s107 hA_l102
    replace sH := sH.trans s107
    refine ⟨t6, t106, (chE N k), (shw N (chQ k).reverse (emp N)), N, rfl, .inr (.inl (.inl e_t6)), .inr (.inl (.inl e_t106)), hE, (shw_pair (emp_pair (by omega)) (fun q hq => (ch_calls N hNs k hk2) q (List.mem_reverse.mp hq))), by omega, fun H109 t110 s111 n112 e_t110 => ?_⟩
    rw [fol_shw (by omega) hE _ (emp_pair (by omega)) (fun q hq => (ch_calls N hNs k hk2) q (List.mem_reverse.mp hq)), fol_emp (by omega) hE, ch_back N hNs k hk2 hk1] at e_t110
    replace e_D1 := s111 _ _ e_D1
    replace hA_D1 := prs_same s111 hA_D1
    replace e_t6 := s111 _ _ e_t6
    replace e_l102 := s111 _ _ e_l102
    replace hA_l102 := prs_same s111 hA_l102
    replace e_t106 := s111 _ _ e_t106
    replace sH := sH.trans s111
    first | refine st_set [some (.int (N : Nat)), some (.int (k : Nat)), some (.ref D1), some (.ref t6), some (.ref l48), some (.ref l69), some (.ref t110), none, none, none] ?_ rfl | refine st_eq [some (.int (N : Nat)), some (.int (k : Nat)), some (.ref D1), some (.ref t6), some (.ref l48), some (.ref l69), some (.ref t110), none, none, none] ?_ rfl | refine st_eq (t := tSeq _ _) [some (.int (N : Nat)), some (.int (k : Nat)), some (.ref D1), some (.ref t6), some (.ref l48), some (.ref l69), some (.ref t110), none, none, none] ?_ rfl
    refine ⟨_, rfl, _, rfl, _, rfl, _, rfl, D1, _, rfl, .inl (.inl e_D1), fun l113 nl113 => ?_⟩
    rw [back_rev, ← List.map_reverse]
    have s114 : Same H109 (upd H109 l113 (.lst (es4.reverse.map V.ref))) := same_new nl113
    have e_l113 : upd H109 l113 (.lst (es4.reverse.map V.ref)) l113 = some (.lst (es4.reverse.map V.ref)) := upd_same
    revert s114 e_l113; generalize upd H109 l113 (.lst (es4.reverse.map V.ref)) = H115; intro s114 e_l113
    replace e_D1 := s114 _ _ e_D1
    replace hA_D1 := prs_same s114 hA_D1
    replace e_t6 := s114 _ _ e_t6
    replace e_t110 := s114 _ _ e_t110
    replace sH := sH.trans s114
    have hA_l113 := prs_rev hA_D1
    refine ⟨D1, l113, _, _, rfl, rfl, e_D1, e_l113, by simp only [List.length_map]; rw [hA_D1.length, hA_l113.length, chQ_len, List.length_reverse, chQ_len]; exact Nat.le_of_lt (line_big (by omega)), fun l116 nl116 => ?_⟩
    rw [← List.map_append]
    have s117 : Same H115 (upd H115 l116 (.lst ((es4 ++ es4.reverse).map V.ref))) := same_new nl116
    have e_l116 : upd H115 l116 (.lst ((es4 ++ es4.reverse).map V.ref)) l116 = some (.lst ((es4 ++ es4.reverse).map V.ref)) := upd_same
    revert s117 e_l116; generalize upd H115 l116 (.lst ((es4 ++ es4.reverse).map V.ref)) = H118; intro s117 e_l116
    replace e_D1 := s117 _ _ e_D1
    replace hA_D1 := prs_same s117 hA_D1
    replace e_t6 := s117 _ _ e_t6
    replace e_t110 := s117 _ _ e_t110
    replace e_l113 := s117 _ _ e_l113
    replace hA_l113 := prs_same s117 hA_l113
    replace sH := sH.trans s117
    have hA_l116 := prs_append hA_D1 hA_l113
    refine ⟨N, l116, _, ((chQ k) ++ (chQ k).reverse), rfl, .inl (.inl (.inl e_l116)), items_of hA_l116, (calls_app (ch_calls N hNs k hk2) (fun q hq => (ch_calls N hNs k hk2) q (List.mem_reverse.mp hq))), by omega, by omega, fun H119 t120 s121 n122 e_t120 => ?_⟩
    rw [shw_cat, ch_eq N hNs k hk2 hk1, ch_back N hNs k hk2 hk1] at e_t120
    replace e_D1 := s121 _ _ e_D1
    replace hA_D1 := prs_same s121 hA_D1
    replace e_t6 := s121 _ _ e_t6
    replace e_t110 := s121 _ _ e_t110
    replace e_l113 := s121 _ _ e_l113
    replace hA_l113 := prs_same s121 hA_l113
    replace e_l116 := s121 _ _ e_l116
    replace hA_l116 := prs_same s121 hA_l116
    replace sH := sH.trans s121
    have fk123 : Fi 1 (td ((shw N [(0, 1)] (emp N)))) := fi_tup (shw_pair (emp_pair (by omega)) (rd1_calls N hNs)) (by omega)
    refine ⟨_, _, .tup (.inl (.inl e_t110)) (dp_nats _), .tup (.inl (.inl e_t120)) (dp_nats _), fk123.sh, fk123.sh, _, rfl, iteX (fi_ne fk123) ?_⟩
    refine ⟨_, rfl, _, rfl, (by show 2 ≤ sizeLine; decide), fun l124 nl124 => ?_⟩
    have s125 : Same H119 (upd H119 l124 (.tup [.int (0 : Nat), .int (1 : Nat)])) := same_new nl124
    have e_l124 : upd H119 l124 (.tup [.int (0 : Nat), .int (1 : Nat)]) l124 = some (.tup [.int (0 : Nat), .int (1 : Nat)]) := upd_same
    revert s125 e_l124; generalize upd H119 l124 (.tup [.int (0 : Nat), .int (1 : Nat)]) = H126; intro s125 e_l124
    replace e_t6 := s125 _ _ e_t6
    replace e_t110 := s125 _ _ e_t110
    replace sH := sH.trans s125
    refine ⟨(by show 1 ≤ sizeLine; decide), fun l127 nl127 => ?_⟩
    have s128 : Same H126 (upd H126 l127 (.lst [.ref l124])) := same_new nl127
    have e_l127 : upd H126 l127 (.lst [.ref l124]) l127 = some (.lst [.ref l124]) := upd_same
    revert s128 e_l127; generalize upd H126 l127 (.lst [.ref l124]) = H129; intro s128 e_l127
    replace e_t6 := s128 _ _ e_t6
    replace e_t110 := s128 _ _ e_t110
    replace e_l124 := s128 _ _ e_l124
    replace sH := sH.trans s128
    have hA_l127 : Prs H129 [l124] [(0, 1)] := .cons e_l124 .nil
    refine ⟨N, l127, _, [(0, 1)], rfl, .inl (.inl (.inl e_l127)), items_of hA_l127, (rd1_calls N hNs), by omega, by omega, fun H130 t131 s132 n133 e_t131 => ?_⟩
    replace e_t6 := s132 _ _ e_t6
    replace e_t110 := s132 _ _ e_t110
    replace e_l127 := s132 _ _ e_l127
    replace hA_l127 := prs_same s132 hA_l127
    replace sH := sH.trans s132
    have fk134 : Fi 1 (td ((shw N [(0, 1)] (emp N)))) := fi_tup (shw_pair (emp_pair (by omega)) (rd1_calls N hNs)) (by omega)
    refine ⟨_, _, .tup (.inl (.inl e_t110)) (dp_nats _), .tup (.inl (.inl e_t131)) (dp_nats _), fk134.sh, fk134.sh, _, rfl, iteX (fi_ne fk134) ?_⟩
    refine ⟨_, rfl, _, _, rfl, rfl, 3, _, 2, (N - 4) / 2, rfl, rgc_oddN hn2 hn hev, ?_⟩
    refine for_it walk_rangeC (fun j σ H' => H' = H130 ∧ ∃ y_f : Option V, σ = [some (.int (N : Nat)), some (.int (k : Nat)), some (.ref D1), some (.ref t6), some (.ref l48), some (.ref l69), some (.ref t110), some (.int (((dfac (j + 1) : Nat) : Int))), y_f, none]) ⟨rfl, _, rfl⟩ (fun _ _ _ _ _ => trivial) (fun j v σ H2' H3' hj h yy => ?_) (fun σ H' h => ?_)
    · obtain ⟨rfl, y_f, rfl⟩ := h
      obtain ⟨rfl, rfl⟩ := yy
      refine st_set [some (.int (N : Nat)), some (.int (k : Nat)), some (.ref D1), some (.ref t6), some (.ref l48), some (.ref l69), some (.ref t110), some (.int (((dfac (j + 1) : Nat) : Int))), some (.int (((3 : Int) + (j : Nat) * 2))), none] ?_ rfl
      refine ⟨_, rfl, _, rfl, _, _, rfl, rfl, .inr ⟨by omega, by omega⟩, ?_⟩
      refine st_set [some (.int (N : Nat)), some (.int (k : Nat)), some (.ref D1), some (.ref t6), some (.ref l48), some (.ref l69), some (.ref t110), some (.int (((dfac (j + 1 + 1) : Nat) : Int))), some (.int (((3 : Int) + (j : Nat) * 2))), none] ?_ (by rw [show ((dfac (j + 1 + 1) : Nat) : Int) = ((dfac (j + 1) : Nat) : Int) * ((3 : Int) + (j : Nat) * 2) by rw [show dfac (j + 1 + 1) = dfac (j + 1) * (2 * (j + 1) + 1) from rfl, Int.natCast_mul]; congr 1; omega]; rfl)
      exact ⟨rfl, _, rfl⟩
    obtain ⟨rfl, y_f, rfl⟩ := h
    have hdf := dfac_few hn
    refine ⟨_, rfl, t6, (chE N k), N, rfl, .inr (.inl (.inl e_t6)), hE, hev, by omega, fun H135 s136 => ?_⟩
    rw [show (sts (chE N k) N).length / 2 = (N - 4) / 2 + 1 by rw [← lse_len hE, (ch_pairs N hNs k hk2 hk1).2.2.2.1]; omega]
    replace e_t6 := s136 _ _ e_t6
    replace sH := sH.trans s136
    refine ⟨_, rfl, t6, (chE N k), N, rfl, .inr (.inl (.inl e_t6)), hE, by omega, fun H137 s138 => ?_⟩
    rw [show (((lse (chE N k) N).length - 1) / 2 : Nat) = N / 2 - 2 by rw [(ch_pairs N hNs k hk2 hk1).2.2.2.1]; omega]
    replace e_t6 := s138 _ _ e_t6
    replace sH := sH.trans s138
    refine ⟨(by show 2 ≤ sizeLine; decide), fun l139 nl139 => ?_⟩
    have s140 : Same H137 (upd H137 l139 (.lst [.int ((dfac ((N - 4) / 2 + 1)) : Nat), .int ((N / 2 - 2) : Nat)])) := same_new nl139
    have e_l139 : upd H137 l139 (.lst [.int ((dfac ((N - 4) / 2 + 1)) : Nat), .int ((N / 2 - 2) : Nat)]) l139 = some (.lst [.int ((dfac ((N - 4) / 2 + 1)) : Nat), .int ((N / 2 - 2) : Nat)]) := upd_same
    revert s140 e_l139; generalize upd H137 l139 (.lst [.int ((dfac ((N - 4) / 2 + 1)) : Nat), .int ((N / 2 - 2) : Nat)]) = H141; intro s140 e_l139
    replace e_t6 := s140 _ _ e_t6
    replace sH := sH.trans s140
    refine ⟨_, rfl, _, rfl, _, 2, rfl, rfl, ⟨by decide, by decide⟩, _, _, rfl, rfl, _, _, rfl, (by show 2 ≤ sizeLine; decide), fun l142 nl142 => ?_⟩
    rw [max_half hn2]
    have s143 : Same H141 (upd H141 l142 (.lst [.int ((dfac ((N - 4) / 2 + 1)) : Nat), .int ((N / 2 - 2) : Nat)])) := same_new nl142
    have e_l142 : upd H141 l142 (.lst [.int ((dfac ((N - 4) / 2 + 1)) : Nat), .int ((N / 2 - 2) : Nat)]) l142 = some (.lst [.int ((dfac ((N - 4) / 2 + 1)) : Nat), .int ((N / 2 - 2) : Nat)]) := upd_same
    revert s143 e_l142; generalize upd H141 l142 (.lst [.int ((dfac ((N - 4) / 2 + 1)) : Nat), .int ((N / 2 - 2) : Nat)]) = H144; intro s143 e_l142
    replace e_t6 := s143 _ _ e_t6
    replace e_l139 := s143 _ _ e_l139
    replace sH := sH.trans s143
    have fk145 : Fi 1 (.list [.int (((dfac ((N - 4) / 2 + 1)) : Nat)), .int (((N / 2 - 2) : Nat))]) := fi_list (j := 0) (n := 2) (fa_cons (fi_int (by omega)) (fa_cons (fi_int (by omega)) fa_nil)) rfl (by decide)
    refine ⟨_, _, _, rfl, .lst (.inl (.inl e_l139)) (.cons (.int _) (.cons (.int _) .nil)), .lst (.inl (.inl e_l142)) (.cons (.int _) (.cons (.int _) .nil)), Nat.lt_succ_of_le (Nat.le_trans fk145.depth (by decide)), fk145.nar, fun H146 s147 => ?_⟩
    replace e_t6 := s147 _ _ e_t6
    replace e_l139 := s147 _ _ e_l139
    replace e_l142 := s147 _ _ e_l142
    replace sH := sH.trans s147
    exact q _ sH
end
end Pc
namespace Pc
open PySem PySem.Spec PyProof.Rows L2 RZ
section
variable {P : Program} {w : World} {K : PySem.W.Frag} {mg : Str → Option Value} {base : Heap}
def spCouR : Sp := fun vs H Q _ => ∃ N : Nat, vs = [.int N] ∧ N ∈ Ns ∧ ∀ H', Same H H' → Q (.bl true) H'
theorem ok_couples_right (T : Env K mg) : FnOk P w K mg base CX0 8 T.f_couples_right T.d_couples_right ["_law_crowd"] spCouR := by
  have GE : FnOk P w K mg base CX0 5 T.f_same T.d_same ["_law_found", "_law_due"] (spSame K 5) := (ok_same T 5).mono (by decide)
  have GX : FnOk P w K mg base CX0 4 T.f_p_times T.d_p_times ["sheet", "many"] (spTimes K) := ok_p_times T
  have Gs : FnOk P w K mg base CX0 2 T.f_p_strands T.d_p_strands ["sheet"] (spPairs K sts) := ok_p_strands T
  have GM : FnOk P w K mg base CX0 3 T.f_p_results_many T.d_p_results_many ["sheet"] (spResMany K) := ok_p_results_many T
  have GS : FnOk P w K mg base CX0 5 T.f_p_sheet_of T.d_p_sheet_of ["size", "word"] (spPSheetOf K) := ok_p_sheet_of T
  have Gf : FnOk P w K mg base CX0 5 T.f_p_fewest_calls T.d_p_fewest_calls ["sheet"] (spFewest K) := ok_p_fewest_calls T
  have GV : FnOk P w K mg base CX0 6 T.f_p_fewest_same T.d_p_fewest_same ["sheet"] (spFSame K) := ok_p_fewest_same T
  have GD : FnOk P w K mg base CX0 4 T.f_p_do_same T.d_p_do_same ["one", "other"] (spSame2 K) := ok_p_do_same T
  have GI2 : FnOk P w K mg base CX0 4 T.f_p_is_settled T.d_p_is_settled ["sheet"] (spIsSettled K) := ok_p_is_settled T
  refine T.F_couples_right.ok sc_couples_right (fun vs H Q E h => ?_) (fun cdv A outer s H vs Q E hr h => ?_)
  · obtain ⟨N, rfl, _⟩ := h
    rfl
  · obtain ⟨N, rfl, hNs, q⟩ := h
    have h1 := hr.mono (show 1 ≤ 7 by decide)
    have h2 := hr.mono (show 2 ≤ 7 by decide)
    have h3 := hr.mono (show 3 ≤ 7 by decide)
    have h4 := hr.mono (show 4 ≤ 7 by decide)
    have h5 := hr.mono (show 5 ≤ 7 by decide)
    have h6 := hr.mono (show 6 ≤ 7 by decide)
    have sH : Same H H := Same.refl _
    obtain ⟨hn2, hn, hev⟩ := Ns_b hNs
    refine ⟨_, pss_cons (ps_setLc (i := 1) (own := [("_law_spot", 5)]) (g := gName 5) (tt := tYes) rfl sc_couples_right.nd rfl rfl (sw_true rfl rfl rfl (by decide +kernel)) (pi_range3 (by rfl) T.n_range (pa_cons pe_int (pa_cons (pv 0) (pa_cons pe_int pa_nil)))) (blkOk_by (N := N_couples_right) (sc := defScope s_couples_right) (by decide +kernel)) (fun _ _ _ _ _ => pg_name (i := 5) sc_couples_right.nd rfl (.inl rfl)) (fun _ _ _ _ _ => pts_nil) (fun _ _ _ _ _ => pe_tup (pa_cons (pv 5) (pa_cons (pe_op op_add (pv 5) pe_int) pa_nil)))) <|
      pss_cons (ps_par (i := 2) (j := 3) (by rfl) sc_couples_right.nd rfl rfl (by decide) rfl rfl (pa_cons (pe_call GS h5 (by rfl) T.g_p_sheet_of T.F_p_sheet_of.kp T.b_p_sheet_of .nil pass0 (pa_cons (pv 0) (pa_cons (pv 1) pa_nil))) (pa_cons (pe_call GS h5 (by rfl) T.g_p_sheet_of T.F_p_sheet_of.kp T.b_p_sheet_of .nil pass0 (pa_cons (pv 0) (pa_cons (pe_slice sl_list (pv 1) (po_some pe_int) po_none) pa_nil))) pa_nil)) (by rfl)) <|
      pss_cons (ps_if (pt_not (pt_val (pe_call GE h5 (by rfl) T.g_same T.F_same.kp T.b_same .nil pass0 (pa_cons (pe_lst (pa_cons (pe_call Gs h2 (by rfl) T.g_p_strands T.F_p_strands.kp T.b_p_strands .nil pass0 (pa_cons (pv 2) pa_nil)) (pa_cons (pe_call Gs h2 (by rfl) T.g_p_strands T.F_p_strands.kp T.b_p_strands .nil pass0 (pa_cons (pv 3) pa_nil)) pa_nil))) (pa_cons (pe_lst (pa_cons (pe_lst pa_nil) (pa_cons (pe_lst (pa_cons (pe_tup (pa_cons pe_int (pa_cons pe_int pa_nil))) (pa_cons (pe_tup (pa_cons pe_int (pa_cons pe_int pa_nil))) pa_nil))) pa_nil))) pa_nil))))) (pss_one (ps_ret pe_bl)) pss_nil) <|
      pss_cons (ps_set (i := 4) sc_couples_right.nd rfl (.inl rfl) (pe_lst (pa_cons (pe_call Gf h5 (by rfl) T.g_p_fewest_calls T.F_p_fewest_calls.kp T.b_p_fewest_calls .nil pass0 (pa_cons (pv 2) pa_nil)) (pa_cons (pe_call Gf h5 (by rfl) T.g_p_fewest_calls T.F_p_fewest_calls.kp T.b_p_fewest_calls .nil pass0 (pa_cons (pv 3) pa_nil)) (pa_cons (pe_call GV h6 (by rfl) T.g_p_fewest_same T.F_p_fewest_same.kp T.b_p_fewest_same .nil pass0 (pa_cons (pv 2) pa_nil)) (pa_cons (pe_call GV h6 (by rfl) T.g_p_fewest_same T.F_p_fewest_same.kp T.b_p_fewest_same .nil pass0 (pa_cons (pv 3) pa_nil)) pa_nil)))))) <|
      pss_cons (ps_if (pt_not (pt_val (pe_call GE h5 (by rfl) T.g_same T.F_same.kp T.b_same .nil pass0 (pa_cons (pv 4) (pa_cons (pe_lst (pa_cons (pe_op op_fdiv (pv 0) pe_int) (pa_cons (pe_op op_sub (pe_op op_fdiv (pv 0) pe_int) pe_int) (pa_cons (pe_op op_sub (pe_op op_fdiv (pv 0) pe_int) pe_int) (pa_cons (pe_op op_sub (pe_op op_fdiv (pv 0) pe_int) pe_int) pa_nil))))) pa_nil))))) (pss_one (ps_ret pe_bl)) pss_nil) <|
      pss_cons (ps_set (i := 4) sc_couples_right.nd rfl (.inl rfl) (pe_lst (pa_cons (pe_call GD h4 (by rfl) T.g_p_do_same T.F_p_do_same.kp T.b_p_do_same .nil pass0 (pa_cons (pv 2) (pa_cons (pv 3) pa_nil))) (pa_cons (pe_call GI2 h4 (by rfl) T.g_p_is_settled T.F_p_is_settled.kp T.b_p_is_settled .nil pass0 (pa_cons (pv 2) pa_nil)) (pa_cons (pe_call GI2 h4 (by rfl) T.g_p_is_settled T.F_p_is_settled.kp T.b_p_is_settled .nil pass0 (pa_cons (pv 3) pa_nil)) (pa_cons (pe_call GM h3 (by rfl) T.g_p_results_many T.F_p_results_many.kp T.b_p_results_many .nil pass0 (pa_cons (pv 2) pa_nil)) pa_nil)))))) <|
      pss_one (ps_ret (pe_and (pe_call GE h5 (by rfl) T.g_same T.F_same.kp T.b_same .nil pass0 (pa_cons (pv 4) (pa_cons (pe_lst (pa_cons pe_bl (pa_cons pe_bl (pa_cons pe_bl (pa_cons pe_int pa_nil))))) pa_nil))) (pe_one (pe_cmpR (op_eqD hr.units) (pe_call GX h4 (by rfl) T.g_p_times T.F_p_times.kp T.b_p_times .nil pass0 (pa_cons (pv 2) (pa_cons (pe_op op_pow pe_int pe_int) pa_nil))) (pv 2) (nomark _))))), ?_⟩
    refine ⟨_, rfl, 0, _, 2, (N / 2), rfl, (by rw [show N / 2 = (N + 1) / 2 by omega]; exact rgc_two (by omega)), fun D1 nD1 => ?_⟩
    refine lc_it (walk_rangeC (n := N / 2)) (fun i H' => Same H H' ∧ ∃ bs : List Addr, H' D1 = some (.lst (bs.map V.ref)) ∧ Prs H' bs ((nrQ2 N).take i)) ⟨same_new nD1, [], upd_same, .nil⟩ (fun _ _ _ _ => trivial) (fun j v H2' H3' hj h yy => ?_) (fun H' h => ?_)
    · obtain ⟨sm, bs, eD, hBs⟩ := h
      obtain ⟨rfl, rfl⟩ := yy
      refine ⟨rfl, yes_if ⟨_, rfl, _, rfl, _, _, rfl, rfl, by show 2 ≤ sizeLine; decide, fun u nu => ⟨_, same_new nu _ _ eD, ?_, fun x o hx => ?_, bs ++ [u], ?_, ?_⟩⟩⟩
      · rw [List.length_map, hBs.length]; exact small1000 (Nat.le_trans (List.length_take_le' _ _) (by rw [nrQ2_len]; omega))
      · rw [upd_ne (ne_of_none hx nD1)]; exact same_new nu _ _ (sm _ _ hx)
      · rw [upd_same, List.map_append]; rfl
      · have uD : u ≠ D1 := fun z => by rw [z, eD] at nu; cases nu
        rw [List.take_add_one, nrQ2_get hj]
        refine prs_append (prs_keep (b := D1) keep_upd (same_new nu _ _ eD) (prs_same (same_new nu) hBs)) (.cons ?_ .nil)
        rw [upd_ne uD, upd_same]
        show some (HO.tup [V.int ((0 : Int) + (j : Nat) * 2), V.int ((0 : Int) + (j : Nat) * 2 + 1)]) = some (HO.tup [V.int ((2 * j : Nat) : Int), V.int ((2 * j + 1 : Nat) : Int)])
        rw [show (0 : Int) + (j : Nat) * 2 = ((2 * j : Nat) : Int) by omega]; rfl
    obtain ⟨s2, es4, e_D1, hA_D1⟩ := h
    rw [show List.take (N / 2) (nrQ2 N) = nrQ2 N from List.take_of_length_le (by rw [nrQ2_len]; omega)] at hA_D1
    revert s2 e_D1 hA_D1; generalize H' = H3; intro s2 e_D1 hA_D1
    replace sH := sH.trans s2
    first | refine st_set [some (.int (N : Nat)), some (.ref D1), none, none, none, none] ?_ rfl | refine st_eq [some (.int (N : Nat)), some (.ref D1), none, none, none, none] ?_ rfl | refine st_eq (t := tSeq _ _) [some (.int (N : Nat)), some (.ref D1), none, none, none, none] ?_ rfl
    refine ⟨_, rfl, _, rfl, N, D1, _, (nrQ2 N), rfl, .inl (.inl (.inl e_D1)), items_of hA_D1, (cu_calls N hNs), by omega, by omega, fun H5 t6 s7 n8 e_t6 => ?_⟩
    replace e_t6 : H5 t6 = some (.tup (nv (fuF N))) := e_t6
    replace e_D1 := s7 _ _ e_D1
    replace hA_D1 := prs_same s7 hA_D1
    replace sH := sH.trans s7
    refine ⟨_, rfl, _, rfl, 1, rfl, D1, _, rfl, .inl (.inl e_D1), fun l9 nl9 => ?_⟩
    rw [cut_one]
    have s10 : Same H5 (upd H5 l9 (.lst ((es4.drop 1).map V.ref))) := same_new nl9
    have e_l9 : upd H5 l9 (.lst ((es4.drop 1).map V.ref)) l9 = some (.lst ((es4.drop 1).map V.ref)) := upd_same
    revert s10 e_l9; generalize upd H5 l9 (.lst ((es4.drop 1).map V.ref)) = H11; intro s10 e_l9
    replace e_D1 := s10 _ _ e_D1
    replace hA_D1 := prs_same s10 hA_D1
    replace e_t6 := s10 _ _ e_t6
    replace sH := sH.trans s10
    have hA_l9 := prs_drop1 hA_D1
    refine ⟨N, l9, _, ((nrQ2 N).drop 1), rfl, .inl (.inl (.inl e_l9)), items_of hA_l9, (cu_calls1 N hNs), by omega, by omega, fun H12 t13 s14 n15 e_t13 => ?_⟩
    replace e_t13 : H12 t13 = some (.tup (nv (shF N))) := e_t13
    replace e_D1 := s14 _ _ e_D1
    replace hA_D1 := prs_same s14 hA_D1
    replace e_t6 := s14 _ _ e_t6
    replace e_l9 := s14 _ _ e_l9
    replace hA_l9 := prs_same s14 hA_l9
    replace sH := sH.trans s14
    refine ⟨_, _, rfl, ?_⟩
    first | refine st_set [some (.int (N : Nat)), some (.ref D1), some (.ref t6), some (.ref t13), none, none] ?_ rfl | refine st_eq [some (.int (N : Nat)), some (.ref D1), some (.ref t6), some (.ref t13), none, none] ?_ rfl | refine st_eq (t := tSeq _ _) [some (.int (N : Nat)), some (.ref D1), some (.ref t6), some (.ref t13), none, none] ?_ rfl
    refine ⟨_, rfl, t6, (fuF N), N, rfl, .inr (.inl (.inl e_t6)), (fu_pair hNs), by omega, fun H16 t17 as18 s19 n20 e_t17 hA_t17 => ?_⟩
    replace e_t6 := s19 _ _ e_t6
    replace e_t13 := s19 _ _ e_t13
    replace sH := sH.trans s19
    rw [(cu_fu N hNs).1] at hA_t17
    refine ⟨_, rfl, t13, (shF N), N, rfl, .inr (.inl (.inl e_t13)), (sh_pair hNs), by omega, fun H21 t22 as23 s24 n25 e_t22 hA_t22 => ?_⟩
    replace e_t6 := s24 _ _ e_t6
    replace e_t13 := s24 _ _ e_t13
    replace e_t17 := s24 _ _ e_t17
    replace hA_t17 := prs_same s24 hA_t17
    replace sH := sH.trans s24
    rw [(cu_sh N hNs).1] at hA_t22
    refine ⟨(by show 2 ≤ sizeLine; decide), fun l26 nl26 => ?_⟩
    have s27 : Same H21 (upd H21 l26 (.lst [.ref t17, .ref t22])) := same_new nl26
    have e_l26 : upd H21 l26 (.lst [.ref t17, .ref t22]) l26 = some (.lst [.ref t17, .ref t22]) := upd_same
    revert s27 e_l26; generalize upd H21 l26 (.lst [.ref t17, .ref t22]) = H28; intro s27 e_l26
    replace e_t6 := s27 _ _ e_t6
    replace e_t13 := s27 _ _ e_t13
    replace e_t17 := s27 _ _ e_t17
    replace hA_t17 := prs_same s27 hA_t17
    replace e_t22 := s27 _ _ e_t22
    replace hA_t22 := prs_same s27 hA_t22
    replace sH := sH.trans s27
    refine ⟨(by show 0 ≤ sizeLine; decide), fun l29 nl29 => ?_⟩
    have s30 : Same H28 (upd H28 l29 (.lst [])) := same_new nl29
    have e_l29 : upd H28 l29 (.lst []) l29 = some (.lst []) := upd_same
    revert s30 e_l29; generalize upd H28 l29 (.lst []) = H31; intro s30 e_l29
    replace e_t6 := s30 _ _ e_t6
    replace e_t13 := s30 _ _ e_t13
    replace e_t17 := s30 _ _ e_t17
    replace hA_t17 := prs_same s30 hA_t17
    replace e_t22 := s30 _ _ e_t22
    replace hA_t22 := prs_same s30 hA_t22
    replace e_l26 := s30 _ _ e_l26
    replace sH := sH.trans s30
    refine ⟨(by show 2 ≤ sizeLine; decide), fun l32 nl32 => ?_⟩
    have s33 : Same H31 (upd H31 l32 (.tup [.int (0 : Nat), .int (0 : Nat)])) := same_new nl32
    have e_l32 : upd H31 l32 (.tup [.int (0 : Nat), .int (0 : Nat)]) l32 = some (.tup [.int (0 : Nat), .int (0 : Nat)]) := upd_same
    revert s33 e_l32; generalize upd H31 l32 (.tup [.int (0 : Nat), .int (0 : Nat)]) = H34; intro s33 e_l32
    replace e_t6 := s33 _ _ e_t6
    replace e_t13 := s33 _ _ e_t13
    replace e_t17 := s33 _ _ e_t17
    replace hA_t17 := prs_same s33 hA_t17
    replace e_t22 := s33 _ _ e_t22
    replace hA_t22 := prs_same s33 hA_t22
    replace e_l26 := s33 _ _ e_l26
    replace e_l29 := s33 _ _ e_l29
    replace sH := sH.trans s33
    refine ⟨(by show 2 ≤ sizeLine; decide), fun l35 nl35 => ?_⟩
    have s36 : Same H34 (upd H34 l35 (.tup [.int (1 : Nat), .int (1 : Nat)])) := same_new nl35
    have e_l35 : upd H34 l35 (.tup [.int (1 : Nat), .int (1 : Nat)]) l35 = some (.tup [.int (1 : Nat), .int (1 : Nat)]) := upd_same
    revert s36 e_l35; generalize upd H34 l35 (.tup [.int (1 : Nat), .int (1 : Nat)]) = H37; intro s36 e_l35
    replace e_t6 := s36 _ _ e_t6
    replace e_t13 := s36 _ _ e_t13
    replace e_t17 := s36 _ _ e_t17
    replace hA_t17 := prs_same s36 hA_t17
    replace e_t22 := s36 _ _ e_t22
    replace hA_t22 := prs_same s36 hA_t22
    replace e_l26 := s36 _ _ e_l26
    replace e_l29 := s36 _ _ e_l29
    replace e_l32 := s36 _ _ e_l32
    replace sH := sH.trans s36
    refine ⟨(by show 2 ≤ sizeLine; decide), fun l38 nl38 => ?_⟩
    have s39 : Same H37 (upd H37 l38 (.lst [.ref l32, .ref l35])) := same_new nl38
    have e_l38 : upd H37 l38 (.lst [.ref l32, .ref l35]) l38 = some (.lst [.ref l32, .ref l35]) := upd_same
    revert s39 e_l38; generalize upd H37 l38 (.lst [.ref l32, .ref l35]) = H40; intro s39 e_l38
    replace e_t6 := s39 _ _ e_t6
    replace e_t13 := s39 _ _ e_t13
    replace e_t17 := s39 _ _ e_t17
    replace hA_t17 := prs_same s39 hA_t17
    replace e_t22 := s39 _ _ e_t22
    replace hA_t22 := prs_same s39 hA_t22
    replace e_l26 := s39 _ _ e_l26
    replace e_l29 := s39 _ _ e_l29
    replace e_l32 := s39 _ _ e_l32
    replace e_l35 := s39 _ _ e_l35
    replace sH := sH.trans s39
    refine ⟨(by show 2 ≤ sizeLine; decide), fun l41 nl41 => ?_⟩
    have s42 : Same H40 (upd H40 l41 (.lst [.ref l29, .ref l38])) := same_new nl41
    have e_l41 : upd H40 l41 (.lst [.ref l29, .ref l38]) l41 = some (.lst [.ref l29, .ref l38]) := upd_same
    revert s42 e_l41; generalize upd H40 l41 (.lst [.ref l29, .ref l38]) = H43; intro s42 e_l41
    replace e_t6 := s42 _ _ e_t6
    replace e_t13 := s42 _ _ e_t13
    replace e_t17 := s42 _ _ e_t17
    replace hA_t17 := prs_same s42 hA_t17
    replace e_t22 := s42 _ _ e_t22
    replace hA_t22 := prs_same s42 hA_t22
    replace e_l26 := s42 _ _ e_l26
    replace e_l29 := s42 _ _ e_l29
    replace e_l32 := s42 _ _ e_l32
    replace e_l35 := s42 _ _ e_l35
    replace e_l38 := s42 _ _ e_l38
    replace sH := sH.trans s42
    have fk44 : Fi 3 (.list [.list [], .list [.tuple [.int ((0 : Nat)), .int ((0 : Nat))], .tuple [.int ((1 : Nat)), .int ((1 : Nat))]]]) := fi_list (j := 2) (n := 2) (fa_cons ((fi_list (j := 0) (n := 0) fa_nil rfl (by decide)).up) (fa_cons (fi_list (j := 1) (n := 2) (fa_cons (fi_tuple (j := 0) (n := 2) (fa_cons (fi_int (by omega)) (fa_cons (fi_int (by omega)) fa_nil)) rfl (by decide)) (fa_cons (fi_tuple (j := 0) (n := 2) (fa_cons (fi_int (by omega)) (fa_cons (fi_int (by omega)) fa_nil)) rfl (by decide)) fa_nil)) rfl (by decide)) fa_nil)) rfl (by decide)
    refine ⟨_, _, _, rfl, .lst (.inl (.inl e_l26)) (.cons (.lst (.inl (.inl e_t17)) (prs_dp hA_t17)) (.cons (.lst (.inl (.inl e_t22)) (prs_dp hA_t22)) .nil)), .lst (.inl (.inl e_l41)) (.cons (.lst (.inl (.inl e_l29)) .nil) (.cons (.lst (.inl (.inl e_l38)) (.cons (.tup (.inl (.inl e_l32)) (.cons (.int _) (.cons (.int _) .nil))) (.cons (.tup (.inl (.inl e_l35)) (.cons (.int _) (.cons (.int _) .nil))) .nil))) .nil)), Nat.lt_succ_of_le (Nat.le_trans fk44.depth (by decide)), fk44.nar, fun H45 s46 => ?_⟩
    replace e_t6 := s46 _ _ e_t6
    replace e_t13 := s46 _ _ e_t13
    replace e_t17 := s46 _ _ e_t17
    replace hA_t17 := prs_same s46 hA_t17
    replace e_t22 := s46 _ _ e_t22
    replace hA_t22 := prs_same s46 hA_t22
    replace e_l26 := s46 _ _ e_l26
    replace e_l29 := s46 _ _ e_l29
    replace e_l32 := s46 _ _ e_l32
    replace e_l35 := s46 _ _ e_l35
    replace e_l38 := s46 _ _ e_l38
    replace e_l41 := s46 _ _ e_l41
    replace sH := sH.trans s46
    refine ⟨true, rfl, iteN ?_⟩
    refine ⟨_, rfl, t6, (fuF N), N, rfl, .inr (.inl (.inl e_t6)), (fu_pair hNs), by omega, by omega, (cu_fu N hNs).2.2.1, fun H47 ls48 hL49 s50 => ?_⟩
    rw [show ((N : Int) - (ls48.length : Nat) + 2 * ((ls48.filter (pureB (fuF N) N)).length : Nat)) = ((N : Int) / 2) by obtain ⟨k1, k2⟩ := lopX_of (cu_fu N hNs).2.2.2 hL49; rw [k2, k1]; simp only [List.length_cons, List.length_nil, List.length_map, List.length_range]; omega]
    replace e_t6 := s50 _ _ e_t6
    replace e_t13 := s50 _ _ e_t13
    replace sH := sH.trans s50
    refine ⟨_, rfl, t13, (shF N), N, rfl, .inr (.inl (.inl e_t13)), (sh_pair hNs), by omega, by omega, (cu_sh N hNs).2.2.1, fun H51 ls52 hL53 s54 => ?_⟩
    rw [show ((N : Int) - (ls52.length : Nat) + 2 * ((ls52.filter (pureB (shF N) N)).length : Nat)) = ((N : Int) / 2 - 1) by obtain ⟨k1, k2⟩ := lopX_of (cu_sh N hNs).2.2.2.1 hL53; rw [k2, k1]; simp only [List.length_cons, List.length_nil, List.length_map, List.length_range]; omega]
    replace e_t6 := s54 _ _ e_t6
    replace e_t13 := s54 _ _ e_t13
    replace sH := sH.trans s54
    refine ⟨_, rfl, t6, (fuF N), N, rfl, .inr (.inl (.inl e_t6)), (fu_pair hNs), hev, by omega, (by rw [(cu_fu N hNs).2.1]; decide), fun H55 s56 => ?_⟩
    replace e_t6 := s56 _ _ e_t6
    replace e_t13 := s56 _ _ e_t13
    replace sH := sH.trans s56
    rw [show ((N / 2 - 1 : Nat) : Int) = (N : Int) / 2 - 1 by omega]
    refine ⟨_, rfl, t13, (shF N), N, rfl, .inr (.inl (.inl e_t13)), (sh_pair hNs), hev, by omega, (by rw [(cu_sh N hNs).2.1]; decide), fun H57 s58 => ?_⟩
    replace e_t6 := s58 _ _ e_t6
    replace e_t13 := s58 _ _ e_t13
    replace sH := sH.trans s58
    rw [show ((N / 2 - 1 : Nat) : Int) = (N : Int) / 2 - 1 by omega]
    refine ⟨(by show 4 ≤ sizeLine; decide), fun l59 nl59 => ?_⟩
    have s60 : Same H57 (upd H57 l59 (.lst [.int (((N : Int) / 2)), .int (((N : Int) / 2 - 1)), .int (((N : Int) / 2 - 1)), .int (((N : Int) / 2 - 1))])) := same_new nl59
    have e_l59 : upd H57 l59 (.lst [.int (((N : Int) / 2)), .int (((N : Int) / 2 - 1)), .int (((N : Int) / 2 - 1)), .int (((N : Int) / 2 - 1))]) l59 = some (.lst [.int (((N : Int) / 2)), .int (((N : Int) / 2 - 1)), .int (((N : Int) / 2 - 1)), .int (((N : Int) / 2 - 1))]) := upd_same
    revert s60 e_l59; generalize upd H57 l59 (.lst [.int (((N : Int) / 2)), .int (((N : Int) / 2 - 1)), .int (((N : Int) / 2 - 1)), .int (((N : Int) / 2 - 1))]) = H61; intro s60 e_l59
    replace e_t6 := s60 _ _ e_t6
    replace e_t13 := s60 _ _ e_t13
    replace sH := sH.trans s60
    first | refine st_set [some (.int (N : Nat)), some (.ref D1), some (.ref t6), some (.ref t13), some (.ref l59), none] ?_ rfl | refine st_eq [some (.int (N : Nat)), some (.ref D1), some (.ref t6), some (.ref t13), some (.ref l59), none] ?_ rfl | refine st_eq (t := tSeq _ _) [some (.int (N : Nat)), some (.ref D1), some (.ref t6), some (.ref t13), some (.ref l59), none] ?_ rfl
    refine ⟨_, rfl, _, rfl, _, 2, rfl, rfl, ⟨by decide, by decide⟩, _, rfl, _, 2, rfl, rfl, ⟨by decide, by decide⟩, _, _, rfl, rfl, _, rfl, _, 2, rfl, rfl, ⟨by decide, by decide⟩, _, _, rfl, rfl, _, rfl, _, 2, rfl, rfl, ⟨by decide, by decide⟩, _, _, rfl, rfl, (by show 4 ≤ sizeLine; decide), fun l62 nl62 => ?_⟩
    have s63 : Same H61 (upd H61 l62 (.lst [.int (((N : Int) / 2)), .int ((((N : Int) / 2) - 1)), .int ((((N : Int) / 2) - 1)), .int ((((N : Int) / 2) - 1))])) := same_new nl62
    have e_l62 : upd H61 l62 (.lst [.int (((N : Int) / 2)), .int ((((N : Int) / 2) - 1)), .int ((((N : Int) / 2) - 1)), .int ((((N : Int) / 2) - 1))]) l62 = some (.lst [.int (((N : Int) / 2)), .int ((((N : Int) / 2) - 1)), .int ((((N : Int) / 2) - 1)), .int ((((N : Int) / 2) - 1))]) := upd_same
    revert s63 e_l62; generalize upd H61 l62 (.lst [.int (((N : Int) / 2)), .int ((((N : Int) / 2) - 1)), .int ((((N : Int) / 2) - 1)), .int ((((N : Int) / 2) - 1))]) = H64; intro s63 e_l62
    replace e_t6 := s63 _ _ e_t6
    replace e_t13 := s63 _ _ e_t13
    replace e_l59 := s63 _ _ e_l59
    replace sH := sH.trans s63
    have fk65 : Fi 1 (.list [.int (((N : Int) / 2)), .int ((((N : Int) / 2) - 1)), .int ((((N : Int) / 2) - 1)), .int ((((N : Int) / 2) - 1))]) := fi_list (j := 0) (n := 4) (fa_cons (fi_int (by omega)) (fa_cons (fi_int (by omega)) (fa_cons (fi_int (by omega)) (fa_cons (fi_int (by omega)) fa_nil)))) rfl (by decide)
    refine ⟨_, _, _, rfl, .lst (.inl (.inl e_l59)) (.cons (.int _) (.cons (.int _) (.cons (.int _) (.cons (.int _) .nil)))), .lst (.inl (.inl e_l62)) (.cons (.int _) (.cons (.int _) (.cons (.int _) (.cons (.int _) .nil)))), Nat.lt_succ_of_le (Nat.le_trans fk65.depth (by decide)), fk65.nar, fun H66 s67 => ?_⟩
    replace e_t6 := s67 _ _ e_t6
    replace e_t13 := s67 _ _ e_t13
    replace e_l59 := s67 _ _ e_l59
    replace e_l62 := s67 _ _ e_l62
    replace sH := sH.trans s67
    refine ⟨true, rfl, iteN ?_⟩
    refine ⟨_, rfl, _, rfl, t6, t13, (fuF N), (shF N), N, rfl, .inl (.inl e_t6), .inl (.inl e_t13), (fu_pair hNs), (sh_pair hNs), hev, by omega, (cu_sh N hNs).2.2.2.2, (by rw [(cu_fu N hNs).1]; decide), (by rw [(cu_sh N hNs).1]; decide), (by rw [(cu_fu N hNs).2.1]; decide), (by rw [(cu_sh N hNs).2.1]; decide), fun H68 s69 => ?_⟩
    rw [decide_eq_true (cu_rat N hNs)]
    replace e_t6 := s69 _ _ e_t6
    replace e_t13 := s69 _ _ e_t13
    replace sH := sH.trans s69
    refine ⟨_, rfl, t6, (fuF N), N, rfl, .inr (.inl (.inl e_t6)), (fu_pair hNs), hev, by omega, fun H70 s71 => ?_⟩
    rw [decide_eq_true (show (lse (fuF N) N).length ≤ 2 by rw [(cu_fu N hNs).2.1]; decide)]
    replace e_t6 := s71 _ _ e_t6
    replace e_t13 := s71 _ _ e_t13
    replace sH := sH.trans s71
    refine ⟨_, rfl, t13, (shF N), N, rfl, .inr (.inl (.inl e_t13)), (sh_pair hNs), hev, by omega, fun H72 s73 => ?_⟩
    rw [decide_eq_true (show (lse (shF N) N).length ≤ 2 by rw [(cu_sh N hNs).2.1]; decide)]
    replace e_t6 := s73 _ _ e_t6
    replace e_t13 := s73 _ _ e_t13
    replace sH := sH.trans s73
    refine ⟨_, rfl, t6, (fuF N), N, rfl, .inr (.inl (.inl e_t6)), (fu_pair hNs), hev, by omega, fun H74 s75 => ?_⟩
    rw [show dfac ((sts (fuF N) N).length / 2) = 1 by rw [(cu_fu N hNs).1]; rfl]
    replace e_t6 := s75 _ _ e_t6
    replace e_t13 := s75 _ _ e_t13
    replace sH := sH.trans s75
    refine ⟨(by show 4 ≤ sizeLine; decide), fun l76 nl76 => ?_⟩
    have s77 : Same H74 (upd H74 l76 (.lst [.bl (true), .bl (true), .bl (true), .int (1 : Nat)])) := same_new nl76
    have e_l76 : upd H74 l76 (.lst [.bl (true), .bl (true), .bl (true), .int (1 : Nat)]) l76 = some (.lst [.bl (true), .bl (true), .bl (true), .int (1 : Nat)]) := upd_same
    revert s77 e_l76; generalize upd H74 l76 (.lst [.bl (true), .bl (true), .bl (true), .int (1 : Nat)]) = H78; intro s77 e_l76
    replace e_t6 := s77 _ _ e_t6
    replace e_t13 := s77 _ _ e_t13
    replace sH := sH.trans s77
    first | refine st_set [some (.int ((N : Int))), some (.ref D1), some (.ref t6), some (.ref t13), some (.ref l76), none] ?_ rfl | refine st_eq [some (.int ((N : Int))), some (.ref D1), some (.ref t6), some (.ref t13), some (.ref l76), none] ?_ rfl | refine st_eq (t := tSeq _ _) [some (.int ((N : Int))), some (.ref D1), some (.ref t6), some (.ref t13), some (.ref l76), none] ?_ rfl
    refine ⟨_, rfl, (by show 4 ≤ sizeLine; decide), fun l79 nl79 => ?_⟩
    have s80 : Same H78 (upd H78 l79 (.lst [.bl (true), .bl (true), .bl (true), .int (1 : Nat)])) := same_new nl79
    have e_l79 : upd H78 l79 (.lst [.bl (true), .bl (true), .bl (true), .int (1 : Nat)]) l79 = some (.lst [.bl (true), .bl (true), .bl (true), .int (1 : Nat)]) := upd_same
    revert s80 e_l79; generalize upd H78 l79 (.lst [.bl (true), .bl (true), .bl (true), .int (1 : Nat)]) = H81; intro s80 e_l79
    replace e_t6 := s80 _ _ e_t6
    replace e_t13 := s80 _ _ e_t13
    replace e_l76 := s80 _ _ e_l76
    replace sH := sH.trans s80
    have fk82 : Fi 1 (.list [.bool (true), .bool (true), .bool (true), .int ((1 : Nat))]) := fi_list (j := 0) (n := 4) (fa_cons (fi_bl) (fa_cons (fi_bl) (fa_cons (fi_bl) (fa_cons (fi_int (by omega)) fa_nil)))) rfl (by decide)
    refine ⟨_, _, _, rfl, .lst (.inl (.inl e_l76)) (.cons (.bl _) (.cons (.bl _) (.cons (.bl _) (.cons (.int _) .nil)))), .lst (.inl (.inl e_l79)) (.cons (.bl _) (.cons (.bl _) (.cons (.bl _) (.cons (.int _) .nil)))), Nat.lt_succ_of_le (Nat.le_trans fk82.depth (by decide)), fk82.nar, fun H83 s84 => ?_⟩
    replace e_t6 := s84 _ _ e_t6
    replace e_t13 := s84 _ _ e_t13
    replace e_l76 := s84 _ _ e_l76
    replace e_l79 := s84 _ _ e_l79
    replace sH := sH.trans s84
    refine ⟨_, rfl, iteT ?_⟩
    refine ⟨_, rfl, 10, 12, rfl, rfl, ⟨by decide, by decide, by decide⟩, t6, (fuF N), N, 1000000000000, rfl, .inr (.inl (.inl e_t6)), (fu_pair hNs), by omega, by omega, fun H85 t86 s87 n88 e_t86 => ?_⟩
    rw [show (1000000000000 : Nat) = 999999999999 + 1 from rfl, pw_fu hNs] at e_t86
    replace e_t6 := s87 _ _ e_t6
    replace sH := sH.trans s87
    have fke : Fi 1 (td (fuF N)) := fi_tup (fu_pair hNs) (by omega)
    refine ⟨_, rfl, _, _, .tup (.inl (.inl e_t86)) (dp_nats _), .tup (.inl (.inl e_t6)) (dp_nats _), fke.sh, fke.sh, ?_⟩
    rw [show (PyData.tuple (nd (fuF N))).eqv (PyData.tuple (nd (fuF N))) = true from fi_eq fke]
    exact q _ sH
end
end Pc
namespace Pc
open PySem PySem.Spec PyProof.Rows L2 RZ
section
variable {P : Program} {w : World} {K : PySem.W.Frag} {mg : Str → Option Value} {base : Heap}
def spRoundR : Sp := fun vs H Q _ => ∃ N : Nat, vs = [.int N] ∧ N ∈ Ns ∧ ∀ H', Same H H' → Q (.bl true) H'
theorem ok_round_right (T : Env K mg) : FnOk P w K mg base CX0 8 T.f_round_right T.d_round_right ["_law_crowd"] spRoundR := by
  have GE : FnOk P w K mg base CX0 5 T.f_same T.d_same ["_law_found", "_law_due"] (spSame K 5) := (ok_same T 5).mono (by decide)
  have GS : FnOk P w K mg base CX0 5 T.f_p_sheet_of T.d_p_sheet_of ["size", "word"] (spPSheetOf K) := ok_p_sheet_of T
  have Gf : FnOk P w K mg base CX0 5 T.f_p_fewest_calls T.d_p_fewest_calls ["sheet"] (spFewest K) := ok_p_fewest_calls T
  have GL : FnOk P w K mg base CX0 3 T.f_p_loops T.d_p_loops ["sheet"] (spLoops K) := ok_p_loops T
  have GU : FnOk P w K mg base CX0 4 T.f_p_pure_loops T.d_p_pure_loops ["sheet"] (spPureL K) := ok_p_pure_loops T
  have GSS : FnOk P w K mg base CX0 7 T.f_p_sheet_settles T.d_p_sheet_settles ["size", "word"] (spSSettles K) := ok_p_sheet_settles T
  refine T.F_round_right.ok sc_round_right (fun vs H Q E h => ?_) (fun cdv A outer s H vs Q E hr h => ?_)
  · obtain ⟨N, rfl, _⟩ := h
    rfl
  · obtain ⟨N, rfl, hNs, q⟩ := h
    have h1 := hr.mono (show 1 ≤ 7 by decide)
    have h2 := hr.mono (show 2 ≤ 7 by decide)
    have h3 := hr.mono (show 3 ≤ 7 by decide)
    have h4 := hr.mono (show 4 ≤ 7 by decide)
    have h5 := hr.mono (show 5 ≤ 7 by decide)
    have h6 := hr.mono (show 6 ≤ 7 by decide)
    have sH : Same H H := Same.refl _
    obtain ⟨hn2, hn, hev⟩ := Ns_b hNs
    refine ⟨_, pss_cons (ps_set (i := 1) sc_round_right.nd rfl (.inl rfl) (pe_listRg rfl (by rfl) T.n_list (prg_2 (by rfl) T.n_range pe_int (pv 0)))) <|
      pss_cons (ps_set (i := 2) sc_round_right.nd rfl (.inl rfl) (pe_op op_cat (pe_lst (pa_cons pe_int (pa_cons pe_int (pa_cons (pe_op op_add (pv 0) pe_int) (pa_cons (pe_op op_add (pv 0) pe_int) pa_nil))))) (pe_lc (own := [("_law_spot", 5)]) (g := gName 5) (tt := tYes) rfl sc_round_right.nd (pi_list (pv 1)) (blkOk_by (N := N_round_right) (sc := defScope s_round_right) (by decide +kernel)) (fun _ _ _ _ _ => pg_name (i := 5) sc_round_right.nd rfl (.inl rfl)) (fun _ _ _ _ _ => pts_nil) (fun _ _ _ _ _ => pe_op op_add (pv 0) (pv 5))))) <|
      pss_cons (ps_set (i := 3) sc_round_right.nd rfl (.inl rfl) (pe_callTy call_tuple_of (by rfl) T.n_tuple (by decide +kernel) (pa_cons (pe_op op_cat (pe_op op_cat (pv 2) (pe_lst (pa_cons (pe_op op_add (pv 0) pe_int) (pa_cons (pv 0) (pa_cons pe_int (pa_cons pe_int pa_nil)))))) (pv 1)) pa_nil))) <|
      pss_cons (ps_if (pt_not (pt_val (pe_call GE h5 (by rfl) T.g_same T.F_same.kp T.b_same .nil pass0 (pa_cons (pe_lst (pa_cons (pe_slice sl_list (pe_call GL h3 (by rfl) T.g_p_loops T.F_p_loops.kp T.b_p_loops .nil pass0 (pa_cons (pv 3) pa_nil)) po_none (po_some pe_int)) (pa_cons (pe_call GU h4 (by rfl) T.g_p_pure_loops T.F_p_pure_loops.kp T.b_p_pure_loops .nil pass0 (pa_cons (pv 3) pa_nil)) (pa_cons (pe_call Gf h5 (by rfl) T.g_p_fewest_calls T.F_p_fewest_calls.kp T.b_p_fewest_calls .nil pass0 (pa_cons (pv 3) pa_nil)) pa_nil)))) (pa_cons (pe_lst (pa_cons (pe_lst (pa_cons (pe_tup (pa_cons pe_int (pa_cons pe_int pa_nil))) (pa_cons (pe_tup (pa_cons pe_int (pa_cons pe_int pa_nil))) pa_nil))) (pa_cons (pe_lst (pa_cons (pe_tup (pa_cons pe_int (pa_cons pe_int pa_nil))) pa_nil)) (pa_cons pe_int pa_nil)))) pa_nil))))) (pss_one (ps_ret pe_bl)) pss_nil) <|
      pss_cons (ps_set (i := 4) sc_round_right.nd rfl (.inl rfl) (pe_lst (pa_cons (pe_tup (pa_cons pe_int (pa_cons pe_int pa_nil))) (pa_cons (pe_tup (pa_cons pe_int (pa_cons pe_int pa_nil))) (pa_cons (pe_tup (pa_cons pe_int (pa_cons pe_int pa_nil))) (pa_cons (pe_tup (pa_cons pe_int (pa_cons pe_int pa_nil))) pa_nil)))))) <|
      pss_cons (ps_if (pt_cmpR (op_neD hr.units) (pe_call GS h5 (by rfl) T.g_p_sheet_of T.F_p_sheet_of.kp T.b_p_sheet_of .nil pass0 (pa_cons (pv 0) (pa_cons (pv 4) pa_nil))) (pv 3) (nomark _)) (pss_one (ps_ret pe_bl)) pss_nil) <|
      pss_one (ps_ret (pe_call GE h5 (by rfl) T.g_same T.F_same.kp T.b_same .nil pass0 (pa_cons (pe_lst (pa_cons (pe_call GSS hr (by rfl) T.g_p_sheet_settles T.F_p_sheet_settles.kp T.b_p_sheet_settles .nil pass0 (pa_cons (pv 0) (pa_cons (pv 4) pa_nil))) (pa_cons (pe_call GSS hr (by rfl) T.g_p_sheet_settles T.F_p_sheet_settles.kp T.b_p_sheet_settles .nil pass0 (pa_cons (pv 0) (pa_cons (pe_slice sl_list (pv 4) po_none (po_some pe_int)) pa_nil))) pa_nil))) (pa_cons (pe_lst (pa_cons (pe_tup (pa_cons pe_int (pa_cons pe_int pa_nil))) (pa_cons (pe_tup (pa_cons pe_int (pa_cons pe_int pa_nil))) pa_nil))) pa_nil)))), ?_⟩
    refine ⟨_, rfl, _, _, rfl, rfl, RgOk.of_le (by decide) (by omega) (by decide) (by omega), fun l1 nl1 => ?_⟩
    rw [rg_four_nv (by omega)]
    have s2 : Same H (upd H l1 (.lst (nv (((List.range (N - 4)).map (4 + ·)))))) := same_new nl1
    have e_l1 : upd H l1 (.lst (nv (((List.range (N - 4)).map (4 + ·))))) l1 = some (.lst (nv (((List.range (N - 4)).map (4 + ·))))) := upd_same
    revert s2 e_l1; generalize upd H l1 (.lst (nv (((List.range (N - 4)).map (4 + ·))))) = H3; intro s2 e_l1
    replace sH := sH.trans s2
    first | refine st_set [some (.int ((N : Int))), some (.ref l1), none, none, none, none] ?_ rfl | refine st_eq [some (.int ((N : Int))), some (.ref l1), none, none, none, none] ?_ rfl | refine st_eq (t := tSeq _ _) [some (.int ((N : Int))), some (.ref l1), none, none, none, none] ?_ rfl
    refine ⟨_, rfl, _, _, rfl, rfl, _, rfl, _, _, rfl, rfl, (by show 4 ≤ sizeLine; decide), fun l4 nl4 => ?_⟩
    have s5 : Same H3 (upd H3 l4 (.lst [.int (1 : Nat), .int (0 : Nat), .int (((N : Int) + 3)), .int (((N : Int) + 2))])) := same_new nl4
    have e_l4 : upd H3 l4 (.lst [.int (1 : Nat), .int (0 : Nat), .int (((N : Int) + 3)), .int (((N : Int) + 2))]) l4 = some (.lst [.int (1 : Nat), .int (0 : Nat), .int (((N : Int) + 3)), .int (((N : Int) + 2))]) := upd_same
    revert s5 e_l4; generalize upd H3 l4 (.lst [.int (1 : Nat), .int (0 : Nat), .int (((N : Int) + 3)), .int (((N : Int) + 2))]) = H6; intro s5 e_l4
    replace e_l1 := s5 _ _ e_l1
    replace sH := sH.trans s5
    replace e_l4 : H6 l4 = some (.lst (nv [1, 0, N + 3, N + 2])) := e_l4
    refine ⟨_, rfl, l1, rfl, ⟨_, .inl (.inl e_l1)⟩, fun D7 nD7 => ?_⟩
    refine lc_list (xs := nv ((List.range (N - 4)).map (4 + ·))) (fun j H' => Same H6 H' ∧ H' D7 = some (.lst (nv (((List.range (N - 4)).map (fun a => N + (4 + a))).take j)))) ⟨same_new nD7, upd_same⟩ (fun j H' _ h => .inl (.inl (h.1 _ _ e_l1))) (fun j v H' hv h => ?_) (fun H' h => ?_)
    · obtain ⟨sm, eD⟩ := h
      obtain ⟨z, ez, rfl⟩ := nv_get' hv
      have hj : j < N - 4 := by have := get_lt ez; rw [List.length_map, List.length_range] at this; exact this
      rw [List.getElem?_map, List.getElem?_range hj] at ez
      obtain rfl : 4 + j = z := Option.some.inj ez
      refine ⟨rfl, yes_if ⟨_, rfl, _, rfl, _, _, rfl, rfl, _, eD, ?_, fun y o hy => ?_, ?_⟩⟩
      · rw [nv_length]; exact small1000 (Nat.le_trans (List.length_take_le' _ _) (by rw [List.length_map, List.length_range]; omega))
      · rw [upd_ne (ne_of_none hy nD7)]; exact sm _ _ hy
      · rw [upd_same]; exact congrArg (fun l => some (HO.lst l)) (nv_takeS (v := N + (4 + j)) (by rw [List.getElem?_map, List.getElem?_range hj]; rfl) rfl)
    obtain ⟨s8, e_D7⟩ := h
    rw [nv_length, show ((List.range (N - 4)).map (4 + ·)).length = ((List.range (N - 4)).map (fun a => N + (4 + a))).length by rw [List.length_map, List.length_map], List.take_length] at e_D7
    revert s8 e_D7; generalize H' = H9; intro s8 e_D7
    replace e_l1 := s8 _ _ e_l1
    replace e_l4 := s8 _ _ e_l4
    replace sH := sH.trans s8
    refine ⟨l4, D7, _, _, rfl, rfl, e_l4, e_D7, ?_, fun l10 nl10 => ?_⟩
    · rw [nv_length, nv_length]; simp only [List.length_append, List.length_map, List.length_range, List.length_cons, List.length_nil]; exact Nat.le_of_lt (small1000 (by omega))
    rw [nv_app]
    have s11 : Same H9 (upd H9 l10 (.lst (nv (([1, 0, N + 3, N + 2] ++ ((List.range (N - 4)).map (fun a => N + (4 + a)))))))) := same_new nl10
    have e_l10 : upd H9 l10 (.lst (nv (([1, 0, N + 3, N + 2] ++ ((List.range (N - 4)).map (fun a => N + (4 + a))))))) l10 = some (.lst (nv (([1, 0, N + 3, N + 2] ++ ((List.range (N - 4)).map (fun a => N + (4 + a))))))) := upd_same
    revert s11 e_l10; generalize upd H9 l10 (.lst (nv (([1, 0, N + 3, N + 2] ++ ((List.range (N - 4)).map (fun a => N + (4 + a))))))) = H12; intro s11 e_l10
    replace e_l1 := s11 _ _ e_l1
    replace e_l4 := s11 _ _ e_l4
    replace e_D7 := s11 _ _ e_D7
    replace sH := sH.trans s11
    first | refine st_set [some (.int ((N : Int))), some (.ref l1), some (.ref l10), none, none, none] ?_ rfl | refine st_eq [some (.int ((N : Int))), some (.ref l1), some (.ref l10), none, none, none] ?_ rfl | refine st_eq (t := tSeq _ _) [some (.int ((N : Int))), some (.ref l1), some (.ref l10), none, none, none] ?_ rfl
    refine ⟨_, rfl, _, rfl, _, _, rfl, rfl, _, rfl, (by show 4 ≤ sizeLine; decide), fun l13 nl13 => ?_⟩
    have s14 : Same H12 (upd H12 l13 (.lst [.int (((N : Int) + 1)), .int ((N : Int)), .int (3 : Nat), .int (2 : Nat)])) := same_new nl13
    have e_l13 : upd H12 l13 (.lst [.int (((N : Int) + 1)), .int ((N : Int)), .int (3 : Nat), .int (2 : Nat)]) l13 = some (.lst [.int (((N : Int) + 1)), .int ((N : Int)), .int (3 : Nat), .int (2 : Nat)]) := upd_same
    revert s14 e_l13; generalize upd H12 l13 (.lst [.int (((N : Int) + 1)), .int ((N : Int)), .int (3 : Nat), .int (2 : Nat)]) = H15; intro s14 e_l13
    replace e_l1 := s14 _ _ e_l1
    replace e_l10 := s14 _ _ e_l10
    replace sH := sH.trans s14
    replace e_l13 : H15 l13 = some (.lst (nv [N + 1, N, 3, 2])) := e_l13
    refine ⟨l10, l13, _, _, rfl, rfl, e_l10, e_l13, ?_, fun l16 nl16 => ?_⟩
    · rw [nv_length, nv_length]; simp only [List.length_append, List.length_map, List.length_range, List.length_cons, List.length_nil]; exact Nat.le_of_lt (small1000 (by omega))
    rw [nv_app]
    have s17 : Same H15 (upd H15 l16 (.lst (nv ((([1, 0, N + 3, N + 2] ++ ((List.range (N - 4)).map (fun a => N + (4 + a)))) ++ [N + 1, N, 3, 2]))))) := same_new nl16
    have e_l16 : upd H15 l16 (.lst (nv ((([1, 0, N + 3, N + 2] ++ ((List.range (N - 4)).map (fun a => N + (4 + a)))) ++ [N + 1, N, 3, 2])))) l16 = some (.lst (nv ((([1, 0, N + 3, N + 2] ++ ((List.range (N - 4)).map (fun a => N + (4 + a)))) ++ [N + 1, N, 3, 2])))) := upd_same
    revert s17 e_l16; generalize upd H15 l16 (.lst (nv ((([1, 0, N + 3, N + 2] ++ ((List.range (N - 4)).map (fun a => N + (4 + a)))) ++ [N + 1, N, 3, 2])))) = H18; intro s17 e_l16
    replace e_l1 := s17 _ _ e_l1
    replace e_l10 := s17 _ _ e_l10
    replace e_l13 := s17 _ _ e_l13
    replace sH := sH.trans s17
    refine ⟨_, rfl, l16, l1, _, _, rfl, rfl, e_l16, e_l1, ?_, fun l19 nl19 => ?_⟩
    · rw [nv_length, nv_length]; simp only [List.length_append, List.length_map, List.length_range, List.length_cons, List.length_nil]; exact Nat.le_of_lt (small1000 (by omega))
    rw [nv_app]
    have s20 : Same H18 (upd H18 l19 (.lst (nv (((([1, 0, N + 3, N + 2] ++ ((List.range (N - 4)).map (fun a => N + (4 + a)))) ++ [N + 1, N, 3, 2]) ++ ((List.range (N - 4)).map (4 + ·))))))) := same_new nl19
    have e_l19 : upd H18 l19 (.lst (nv (((([1, 0, N + 3, N + 2] ++ ((List.range (N - 4)).map (fun a => N + (4 + a)))) ++ [N + 1, N, 3, 2]) ++ ((List.range (N - 4)).map (4 + ·)))))) l19 = some (.lst (nv (((([1, 0, N + 3, N + 2] ++ ((List.range (N - 4)).map (fun a => N + (4 + a)))) ++ [N + 1, N, 3, 2]) ++ ((List.range (N - 4)).map (4 + ·)))))) := upd_same
    revert s20 e_l19; generalize upd H18 l19 (.lst (nv (((([1, 0, N + 3, N + 2] ++ ((List.range (N - 4)).map (fun a => N + (4 + a)))) ++ [N + 1, N, 3, 2]) ++ ((List.range (N - 4)).map (4 + ·)))))) = H21; intro s20 e_l19
    replace e_l1 := s20 _ _ e_l1
    replace e_l10 := s20 _ _ e_l10
    replace e_l13 := s20 _ _ e_l13
    replace e_l16 := s20 _ _ e_l16
    replace sH := sH.trans s20
    refine ⟨l19, _, rfl, .inl ⟨.inl (.inl e_l19), fun l22 nl22 => ?_⟩⟩
    have s23 : Same H21 (upd H21 l22 (.tup (nv (((([1, 0, N + 3, N + 2] ++ ((List.range (N - 4)).map (fun a => N + (4 + a)))) ++ [N + 1, N, 3, 2]) ++ ((List.range (N - 4)).map (4 + ·))))))) := same_new nl22
    have e_l22 : upd H21 l22 (.tup (nv (((([1, 0, N + 3, N + 2] ++ ((List.range (N - 4)).map (fun a => N + (4 + a)))) ++ [N + 1, N, 3, 2]) ++ ((List.range (N - 4)).map (4 + ·)))))) l22 = some (.tup (nv (((([1, 0, N + 3, N + 2] ++ ((List.range (N - 4)).map (fun a => N + (4 + a)))) ++ [N + 1, N, 3, 2]) ++ ((List.range (N - 4)).map (4 + ·)))))) := upd_same
    revert s23 e_l22; generalize upd H21 l22 (.tup (nv (((([1, 0, N + 3, N + 2] ++ ((List.range (N - 4)).map (fun a => N + (4 + a)))) ++ [N + 1, N, 3, 2]) ++ ((List.range (N - 4)).map (4 + ·)))))) = H24; intro s23 e_l22
    replace e_l1 := s23 _ _ e_l1
    replace e_l10 := s23 _ _ e_l10
    replace e_l13 := s23 _ _ e_l13
    replace e_l16 := s23 _ _ e_l16
    replace e_l19 := s23 _ _ e_l19
    replace sH := sH.trans s23
    replace e_l22 : H24 l22 = some (.tup (nv (rdF N))) := by rw [e_l22, List.append_assoc]; rfl
    first | refine st_set [some (.int ((N : Int))), some (.ref l1), some (.ref l10), some (.ref l22), none, none] ?_ rfl | refine st_eq [some (.int ((N : Int))), some (.ref l1), some (.ref l10), some (.ref l22), none, none] ?_ rfl | refine st_eq (t := tSeq _ _) [some (.int ((N : Int))), some (.ref l1), some (.ref l10), some (.ref l22), none, none] ?_ rfl
    refine ⟨_, rfl, l22, (rdF N), N, rfl, .inr (.inl (.inl e_l22)), (rdF_pair hNs), by omega, fun H25 t26 as27 ls28 hL29 s30 n31 e_t26 hA_t26 => ?_⟩
    replace e_l22 := s30 _ _ e_l22
    replace sH := sH.trans s30
    rw [(lopX_of (rd_ok N hNs).2.2.2 hL29).1] at hA_t26
    refine ⟨2, rfl, t26, _, rfl, .inl (.inl e_t26), fun l32 nl32 => ?_⟩
    rw [cut_to2]
    have s33 : Same H25 (upd H25 l32 (.lst ((as27.take 2).map V.ref))) := same_new nl32
    have e_l32 : upd H25 l32 (.lst ((as27.take 2).map V.ref)) l32 = some (.lst ((as27.take 2).map V.ref)) := upd_same
    revert s33 e_l32; generalize upd H25 l32 (.lst ((as27.take 2).map V.ref)) = H34; intro s33 e_l32
    replace e_l22 := s33 _ _ e_l22
    replace e_t26 := s33 _ _ e_t26
    replace hA_t26 := tups_same s33 hA_t26
    replace sH := sH.trans s33
    have hA_l32 := tups_take2 hA_t26
    refine ⟨_, rfl, l22, (rdF N), N, rfl, .inr (.inl (.inl e_l22)), (rdF_pair hNs), by omega, fun H35 t36 as37 ls38 hL39 s40 n41 e_t36 hA_t36 => ?_⟩
    replace e_l22 := s40 _ _ e_l22
    replace e_t26 := s40 _ _ e_t26
    replace hA_t26 := tups_same s40 hA_t26
    replace e_l32 := s40 _ _ e_l32
    replace hA_l32 := tups_same s40 hA_l32
    replace sH := sH.trans s40
    rw [(lopX_of (rd_ok N hNs).2.2.2 hL39).2] at hA_t36
    refine ⟨_, rfl, l22, (rdF N), N, rfl, .inr (.inl (.inl e_l22)), (rdF_pair hNs), by omega, by omega, (rd_ok N hNs).2.2.1, fun H42 ls43 hL44 s45 => ?_⟩
    rw [show ((N : Int) - (ls43.length : Nat) + 2 * ((ls43.filter (pureB (rdF N) N)).length : Nat)) = ((4 : Nat) : Int) by obtain ⟨k1, k2⟩ := lopX_of (rd_ok N hNs).2.2.2 hL44; rw [k2, k1]; simp only [List.length_cons, List.length_nil, List.length_map, List.length_range]; omega]
    replace e_l22 := s45 _ _ e_l22
    replace e_t26 := s45 _ _ e_t26
    replace hA_t26 := tups_same s45 hA_t26
    replace e_l32 := s45 _ _ e_l32
    replace hA_l32 := tups_same s45 hA_l32
    replace e_t36 := s45 _ _ e_t36
    replace hA_t36 := tups_same s45 hA_t36
    replace sH := sH.trans s45
    refine ⟨(by show 3 ≤ sizeLine; decide), fun l46 nl46 => ?_⟩
    have s47 : Same H42 (upd H42 l46 (.lst [.ref l32, .ref t36, .int (((4 : Nat) : Int))])) := same_new nl46
    have e_l46 : upd H42 l46 (.lst [.ref l32, .ref t36, .int (((4 : Nat) : Int))]) l46 = some (.lst [.ref l32, .ref t36, .int (((4 : Nat) : Int))]) := upd_same
    revert s47 e_l46; generalize upd H42 l46 (.lst [.ref l32, .ref t36, .int (((4 : Nat) : Int))]) = H48; intro s47 e_l46
    replace e_l22 := s47 _ _ e_l22
    replace e_t26 := s47 _ _ e_t26
    replace hA_t26 := tups_same s47 hA_t26
    replace e_l32 := s47 _ _ e_l32
    replace hA_l32 := tups_same s47 hA_l32
    replace e_t36 := s47 _ _ e_t36
    replace hA_t36 := tups_same s47 hA_t36
    replace sH := sH.trans s47
    refine ⟨(by show 2 ≤ sizeLine; decide), fun l49 nl49 => ?_⟩
    have s50 : Same H48 (upd H48 l49 (.tup [.int (0 : Nat), .int (1 : Nat)])) := same_new nl49
    have e_l49 : upd H48 l49 (.tup [.int (0 : Nat), .int (1 : Nat)]) l49 = some (.tup [.int (0 : Nat), .int (1 : Nat)]) := upd_same
    revert s50 e_l49; generalize upd H48 l49 (.tup [.int (0 : Nat), .int (1 : Nat)]) = H51; intro s50 e_l49
    replace e_l22 := s50 _ _ e_l22
    replace e_t26 := s50 _ _ e_t26
    replace hA_t26 := tups_same s50 hA_t26
    replace e_l32 := s50 _ _ e_l32
    replace hA_l32 := tups_same s50 hA_l32
    replace e_t36 := s50 _ _ e_t36
    replace hA_t36 := tups_same s50 hA_t36
    replace e_l46 := s50 _ _ e_l46
    replace sH := sH.trans s50
    refine ⟨(by show 2 ≤ sizeLine; decide), fun l52 nl52 => ?_⟩
    have s53 : Same H51 (upd H51 l52 (.tup [.int (2 : Nat), .int (3 : Nat)])) := same_new nl52
    have e_l52 : upd H51 l52 (.tup [.int (2 : Nat), .int (3 : Nat)]) l52 = some (.tup [.int (2 : Nat), .int (3 : Nat)]) := upd_same
    revert s53 e_l52; generalize upd H51 l52 (.tup [.int (2 : Nat), .int (3 : Nat)]) = H54; intro s53 e_l52
    replace e_l22 := s53 _ _ e_l22
    replace e_t26 := s53 _ _ e_t26
    replace hA_t26 := tups_same s53 hA_t26
    replace e_l32 := s53 _ _ e_l32
    replace hA_l32 := tups_same s53 hA_l32
    replace e_t36 := s53 _ _ e_t36
    replace hA_t36 := tups_same s53 hA_t36
    replace e_l46 := s53 _ _ e_l46
    replace e_l49 := s53 _ _ e_l49
    replace sH := sH.trans s53
    refine ⟨(by show 2 ≤ sizeLine; decide), fun l55 nl55 => ?_⟩
    have s56 : Same H54 (upd H54 l55 (.lst [.ref l49, .ref l52])) := same_new nl55
    have e_l55 : upd H54 l55 (.lst [.ref l49, .ref l52]) l55 = some (.lst [.ref l49, .ref l52]) := upd_same
    revert s56 e_l55; generalize upd H54 l55 (.lst [.ref l49, .ref l52]) = H57; intro s56 e_l55
    replace e_l22 := s56 _ _ e_l22
    replace e_t26 := s56 _ _ e_t26
    replace hA_t26 := tups_same s56 hA_t26
    replace e_l32 := s56 _ _ e_l32
    replace hA_l32 := tups_same s56 hA_l32
    replace e_t36 := s56 _ _ e_t36
    replace hA_t36 := tups_same s56 hA_t36
    replace e_l46 := s56 _ _ e_l46
    replace e_l49 := s56 _ _ e_l49
    replace e_l52 := s56 _ _ e_l52
    replace sH := sH.trans s56
    refine ⟨(by show 2 ≤ sizeLine; decide), fun l58 nl58 => ?_⟩
    have s59 : Same H57 (upd H57 l58 (.tup [.int (2 : Nat), .int (3 : Nat)])) := same_new nl58
    have e_l58 : upd H57 l58 (.tup [.int (2 : Nat), .int (3 : Nat)]) l58 = some (.tup [.int (2 : Nat), .int (3 : Nat)]) := upd_same
    revert s59 e_l58; generalize upd H57 l58 (.tup [.int (2 : Nat), .int (3 : Nat)]) = H60; intro s59 e_l58
    replace e_l22 := s59 _ _ e_l22
    replace e_t26 := s59 _ _ e_t26
    replace hA_t26 := tups_same s59 hA_t26
    replace e_l32 := s59 _ _ e_l32
    replace hA_l32 := tups_same s59 hA_l32
    replace e_t36 := s59 _ _ e_t36
    replace hA_t36 := tups_same s59 hA_t36
    replace e_l46 := s59 _ _ e_l46
    replace e_l49 := s59 _ _ e_l49
    replace e_l52 := s59 _ _ e_l52
    replace e_l55 := s59 _ _ e_l55
    replace sH := sH.trans s59
    refine ⟨(by show 1 ≤ sizeLine; decide), fun l61 nl61 => ?_⟩
    have s62 : Same H60 (upd H60 l61 (.lst [.ref l58])) := same_new nl61
    have e_l61 : upd H60 l61 (.lst [.ref l58]) l61 = some (.lst [.ref l58]) := upd_same
    revert s62 e_l61; generalize upd H60 l61 (.lst [.ref l58]) = H63; intro s62 e_l61
    replace e_l22 := s62 _ _ e_l22
    replace e_t26 := s62 _ _ e_t26
    replace hA_t26 := tups_same s62 hA_t26
    replace e_l32 := s62 _ _ e_l32
    replace hA_l32 := tups_same s62 hA_l32
    replace e_t36 := s62 _ _ e_t36
    replace hA_t36 := tups_same s62 hA_t36
    replace e_l46 := s62 _ _ e_l46
    replace e_l49 := s62 _ _ e_l49
    replace e_l52 := s62 _ _ e_l52
    replace e_l55 := s62 _ _ e_l55
    replace e_l58 := s62 _ _ e_l58
    replace sH := sH.trans s62
    refine ⟨(by show 3 ≤ sizeLine; decide), fun l64 nl64 => ?_⟩
    have s65 : Same H63 (upd H63 l64 (.lst [.ref l55, .ref l61, .int (4 : Nat)])) := same_new nl64
    have e_l64 : upd H63 l64 (.lst [.ref l55, .ref l61, .int (4 : Nat)]) l64 = some (.lst [.ref l55, .ref l61, .int (4 : Nat)]) := upd_same
    revert s65 e_l64; generalize upd H63 l64 (.lst [.ref l55, .ref l61, .int (4 : Nat)]) = H66; intro s65 e_l64
    replace e_l22 := s65 _ _ e_l22
    replace e_t26 := s65 _ _ e_t26
    replace hA_t26 := tups_same s65 hA_t26
    replace e_l32 := s65 _ _ e_l32
    replace hA_l32 := tups_same s65 hA_l32
    replace e_t36 := s65 _ _ e_t36
    replace hA_t36 := tups_same s65 hA_t36
    replace e_l46 := s65 _ _ e_l46
    replace e_l49 := s65 _ _ e_l49
    replace e_l52 := s65 _ _ e_l52
    replace e_l55 := s65 _ _ e_l55
    replace e_l58 := s65 _ _ e_l58
    replace e_l61 := s65 _ _ e_l61
    replace sH := sH.trans s65
    have fk67 : Fi 3 (.list [.list [.tuple [.int ((0 : Nat)), .int ((1 : Nat))], .tuple [.int ((2 : Nat)), .int ((3 : Nat))]], .list [.tuple [.int ((2 : Nat)), .int ((3 : Nat))]], .int ((4 : Nat))]) := fi_list (j := 2) (n := 3) (fa_cons (fi_list (j := 1) (n := 2) (fa_cons (fi_tuple (j := 0) (n := 2) (fa_cons (fi_int (by omega)) (fa_cons (fi_int (by omega)) fa_nil)) rfl (by decide)) (fa_cons (fi_tuple (j := 0) (n := 2) (fa_cons (fi_int (by omega)) (fa_cons (fi_int (by omega)) fa_nil)) rfl (by decide)) fa_nil)) rfl (by decide)) (fa_cons (fi_list (j := 1) (n := 1) (fa_cons (fi_tuple (j := 0) (n := 2) (fa_cons (fi_int (by omega)) (fa_cons (fi_int (by omega)) fa_nil)) rfl (by decide)) fa_nil) rfl (by decide)) (fa_cons (((fi_int (by omega)).up).up) fa_nil))) rfl (by decide)
    refine ⟨_, _, _, rfl, .lst (.inl (.inl e_l46)) (.cons (.lst (.inl (.inl e_l32)) (tups_dp hA_l32)) (.cons (.lst (.inl (.inl e_t36)) (tups_dp hA_t36)) (.cons (.int _) .nil))), .lst (.inl (.inl e_l64)) (.cons (.lst (.inl (.inl e_l55)) (.cons (.tup (.inl (.inl e_l49)) (.cons (.int _) (.cons (.int _) .nil))) (.cons (.tup (.inl (.inl e_l52)) (.cons (.int _) (.cons (.int _) .nil))) .nil))) (.cons (.lst (.inl (.inl e_l61)) (.cons (.tup (.inl (.inl e_l58)) (.cons (.int _) (.cons (.int _) .nil))) .nil)) (.cons (.int _) .nil))), Nat.lt_succ_of_le (Nat.le_trans fk67.depth (by decide)), fk67.nar, fun H68 s69 => ?_⟩
    replace e_l22 := s69 _ _ e_l22
    replace e_t26 := s69 _ _ e_t26
    replace hA_t26 := tups_same s69 hA_t26
    replace e_l32 := s69 _ _ e_l32
    replace hA_l32 := tups_same s69 hA_l32
    replace e_t36 := s69 _ _ e_t36
    replace hA_t36 := tups_same s69 hA_t36
    replace e_l46 := s69 _ _ e_l46
    replace e_l49 := s69 _ _ e_l49
    replace e_l52 := s69 _ _ e_l52
    replace e_l55 := s69 _ _ e_l55
    replace e_l58 := s69 _ _ e_l58
    replace e_l61 := s69 _ _ e_l61
    replace e_l64 := s69 _ _ e_l64
    replace sH := sH.trans s69
    refine ⟨true, rfl, iteN ?_⟩
    refine ⟨(by show 2 ≤ sizeLine; decide), fun l70 nl70 => ?_⟩
    have s71 : Same H68 (upd H68 l70 (.tup [.int (0 : Nat), .int (1 : Nat)])) := same_new nl70
    have e_l70 : upd H68 l70 (.tup [.int (0 : Nat), .int (1 : Nat)]) l70 = some (.tup [.int (0 : Nat), .int (1 : Nat)]) := upd_same
    revert s71 e_l70; generalize upd H68 l70 (.tup [.int (0 : Nat), .int (1 : Nat)]) = H72; intro s71 e_l70
    replace e_l22 := s71 _ _ e_l22
    replace sH := sH.trans s71
    refine ⟨(by show 2 ≤ sizeLine; decide), fun l73 nl73 => ?_⟩
    have s74 : Same H72 (upd H72 l73 (.tup [.int (1 : Nat), .int (2 : Nat)])) := same_new nl73
    have e_l73 : upd H72 l73 (.tup [.int (1 : Nat), .int (2 : Nat)]) l73 = some (.tup [.int (1 : Nat), .int (2 : Nat)]) := upd_same
    revert s74 e_l73; generalize upd H72 l73 (.tup [.int (1 : Nat), .int (2 : Nat)]) = H75; intro s74 e_l73
    replace e_l22 := s74 _ _ e_l22
    replace e_l70 := s74 _ _ e_l70
    replace sH := sH.trans s74
    refine ⟨(by show 2 ≤ sizeLine; decide), fun l76 nl76 => ?_⟩
    have s77 : Same H75 (upd H75 l76 (.tup [.int (1 : Nat), .int (3 : Nat)])) := same_new nl76
    have e_l76 : upd H75 l76 (.tup [.int (1 : Nat), .int (3 : Nat)]) l76 = some (.tup [.int (1 : Nat), .int (3 : Nat)]) := upd_same
    revert s77 e_l76; generalize upd H75 l76 (.tup [.int (1 : Nat), .int (3 : Nat)]) = H78; intro s77 e_l76
    replace e_l22 := s77 _ _ e_l22
    replace e_l70 := s77 _ _ e_l70
    replace e_l73 := s77 _ _ e_l73
    replace sH := sH.trans s77
    refine ⟨(by show 2 ≤ sizeLine; decide), fun l79 nl79 => ?_⟩
    have s80 : Same H78 (upd H78 l79 (.tup [.int (0 : Nat), .int (1 : Nat)])) := same_new nl79
    have e_l79 : upd H78 l79 (.tup [.int (0 : Nat), .int (1 : Nat)]) l79 = some (.tup [.int (0 : Nat), .int (1 : Nat)]) := upd_same
    revert s80 e_l79; generalize upd H78 l79 (.tup [.int (0 : Nat), .int (1 : Nat)]) = H81; intro s80 e_l79
    replace e_l22 := s80 _ _ e_l22
    replace e_l70 := s80 _ _ e_l70
    replace e_l73 := s80 _ _ e_l73
    replace e_l76 := s80 _ _ e_l76
    replace sH := sH.trans s80
    refine ⟨(by show 4 ≤ sizeLine; decide), fun l82 nl82 => ?_⟩
    have s83 : Same H81 (upd H81 l82 (.lst [.ref l70, .ref l73, .ref l76, .ref l79])) := same_new nl82
    have e_l82 : upd H81 l82 (.lst [.ref l70, .ref l73, .ref l76, .ref l79]) l82 = some (.lst [.ref l70, .ref l73, .ref l76, .ref l79]) := upd_same
    revert s83 e_l82; generalize upd H81 l82 (.lst [.ref l70, .ref l73, .ref l76, .ref l79]) = H84; intro s83 e_l82
    replace e_l22 := s83 _ _ e_l22
    replace e_l70 := s83 _ _ e_l70
    replace e_l73 := s83 _ _ e_l73
    replace e_l76 := s83 _ _ e_l76
    replace e_l79 := s83 _ _ e_l79
    replace sH := sH.trans s83
    have hA_l82 : Prs H84 [l70, l73, l76, l79] rdQ := .cons e_l70 (.cons e_l73 (.cons e_l76 (.cons e_l79 .nil)))
    obtain ⟨ca, eca⟩ : ∃ z, z = [l70, l73, l76, l79] := ⟨_, rfl⟩
    replace e_l82 : H84 l82 = some (.lst (ca.map V.ref)) := by rw [eca]; exact e_l82
    rw [← eca] at hA_l82
    first | refine st_set [some (.int (N : Nat)), some (.ref l1), some (.ref l10), some (.ref l22), some (.ref l82), none] ?_ rfl | refine st_eq [some (.int (N : Nat)), some (.ref l1), some (.ref l10), some (.ref l22), some (.ref l82), none] ?_ rfl | refine st_eq (t := tSeq _ _) [some (.int (N : Nat)), some (.ref l1), some (.ref l10), some (.ref l22), some (.ref l82), none] ?_ rfl
    refine ⟨_, rfl, _, rfl, N, l82, _, rdQ, rfl, .inl (.inl (.inl e_l82)), items_of hA_l82, (rd_ok N hNs).1, by omega, by omega, fun H85 t86 s87 n88 e_t86 => ?_⟩
    rw [(rd_ok N hNs).2.1] at e_t86
    replace e_l22 := s87 _ _ e_l22
    replace e_l82 := s87 _ _ e_l82
    replace hA_l82 := prs_same s87 hA_l82
    replace sH := sH.trans s87
    have fk89 : Fi 1 (td ((rdF N))) := fi_tup (rdF_pair hNs) (by omega)
    refine ⟨_, rfl, _, _, .tup (.inl (.inl e_t86)) (dp_nats _), .tup (.inl (.inl e_l22)) (dp_nats _), fk89.sh, fk89.sh, _, rfl, iteX (fi_ne fk89) ?_⟩
    refine ⟨_, rfl, _, rfl, N, l82, _, rdQ, rfl, by omega, by omega, .inl (.inl (.inl e_l82)), items_of hA_l82, (rd_ok N hNs).1, fun H90 t91 wb92 wp93 hS94 s95 n96 e_t91 => ?_⟩
    replace e_l82 := s95 _ _ e_l82
    replace hA_l82 := prs_same s95 hA_l82
    replace sH := sH.trans s95
    obtain ⟨rfl, rfl⟩ := sstl_rd hNs hS94
    refine ⟨_, rfl, _, rfl, 1, rfl, l82, _, rfl, .inl (.inl e_l82), fun l97 nl97 => ?_⟩
    rw [cut_to1]
    have s98 : Same H90 (upd H90 l97 (.lst ((ca.take 1).map V.ref))) := same_new nl97
    have e_l97 : upd H90 l97 (.lst ((ca.take 1).map V.ref)) l97 = some (.lst ((ca.take 1).map V.ref)) := upd_same
    revert s98 e_l97; generalize upd H90 l97 (.lst ((ca.take 1).map V.ref)) = H99; intro s98 e_l97
    replace e_l82 := s98 _ _ e_l82
    replace hA_l82 := prs_same s98 hA_l82
    replace e_t91 := s98 _ _ e_t91
    replace sH := sH.trans s98
    have hA_l97 := prs_take1 hA_l82
    refine ⟨N, l97, _, [(0, 1)], rfl, by omega, by omega, .inl (.inl (.inl e_l97)), items_of hA_l97, (rd1_calls N hNs), fun H100 t101 wb102 wp103 hS104 s105 n106 e_t101 => ?_⟩
    replace e_l82 := s105 _ _ e_l82
    replace hA_l82 := prs_same s105 hA_l82
    replace e_t91 := s105 _ _ e_t91
    replace e_l97 := s105 _ _ e_l97
    replace hA_l97 := prs_same s105 hA_l97
    replace sH := sH.trans s105
    obtain ⟨rfl, rfl⟩ := sstl_one hNs hS104
    refine ⟨(by show 2 ≤ sizeLine; decide), fun l107 nl107 => ?_⟩
    have s108 : Same H100 (upd H100 l107 (.lst [.ref t91, .ref t101])) := same_new nl107
    have e_l107 : upd H100 l107 (.lst [.ref t91, .ref t101]) l107 = some (.lst [.ref t91, .ref t101]) := upd_same
    revert s108 e_l107; generalize upd H100 l107 (.lst [.ref t91, .ref t101]) = H109; intro s108 e_l107
    replace e_l82 := s108 _ _ e_l82
    replace hA_l82 := prs_same s108 hA_l82
    replace e_t91 := s108 _ _ e_t91
    replace e_l97 := s108 _ _ e_l97
    replace hA_l97 := prs_same s108 hA_l97
    replace e_t101 := s108 _ _ e_t101
    replace sH := sH.trans s108
    refine ⟨(by show 2 ≤ sizeLine; decide), fun l110 nl110 => ?_⟩
    have s111 : Same H109 (upd H109 l110 (.tup [.int (1 : Nat), .int (2 : Nat)])) := same_new nl110
    have e_l110 : upd H109 l110 (.tup [.int (1 : Nat), .int (2 : Nat)]) l110 = some (.tup [.int (1 : Nat), .int (2 : Nat)]) := upd_same
    revert s111 e_l110; generalize upd H109 l110 (.tup [.int (1 : Nat), .int (2 : Nat)]) = H112; intro s111 e_l110
    replace e_l82 := s111 _ _ e_l82
    replace hA_l82 := prs_same s111 hA_l82
    replace e_t91 := s111 _ _ e_t91
    replace e_l97 := s111 _ _ e_l97
    replace hA_l97 := prs_same s111 hA_l97
    replace e_t101 := s111 _ _ e_t101
    replace e_l107 := s111 _ _ e_l107
    replace sH := sH.trans s111
    refine ⟨(by show 2 ≤ sizeLine; decide), fun l113 nl113 => ?_⟩
    have s114 : Same H112 (upd H112 l113 (.tup [.int (1 : Nat), .int (1 : Nat)])) := same_new nl113
    have e_l113 : upd H112 l113 (.tup [.int (1 : Nat), .int (1 : Nat)]) l113 = some (.tup [.int (1 : Nat), .int (1 : Nat)]) := upd_same
    revert s114 e_l113; generalize upd H112 l113 (.tup [.int (1 : Nat), .int (1 : Nat)]) = H115; intro s114 e_l113
    replace e_l82 := s114 _ _ e_l82
    replace hA_l82 := prs_same s114 hA_l82
    replace e_t91 := s114 _ _ e_t91
    replace e_l97 := s114 _ _ e_l97
    replace hA_l97 := prs_same s114 hA_l97
    replace e_t101 := s114 _ _ e_t101
    replace e_l107 := s114 _ _ e_l107
    replace e_l110 := s114 _ _ e_l110
    replace sH := sH.trans s114
    refine ⟨(by show 2 ≤ sizeLine; decide), fun l116 nl116 => ?_⟩
    have s117 : Same H115 (upd H115 l116 (.lst [.ref l110, .ref l113])) := same_new nl116
    have e_l116 : upd H115 l116 (.lst [.ref l110, .ref l113]) l116 = some (.lst [.ref l110, .ref l113]) := upd_same
    revert s117 e_l116; generalize upd H115 l116 (.lst [.ref l110, .ref l113]) = H118; intro s117 e_l116
    replace e_l82 := s117 _ _ e_l82
    replace hA_l82 := prs_same s117 hA_l82
    replace e_t91 := s117 _ _ e_t91
    replace e_l97 := s117 _ _ e_l97
    replace hA_l97 := prs_same s117 hA_l97
    replace e_t101 := s117 _ _ e_t101
    replace e_l107 := s117 _ _ e_l107
    replace e_l110 := s117 _ _ e_l110
    replace e_l113 := s117 _ _ e_l113
    replace sH := sH.trans s117
    have fk119 : Fi 2 (.list [.tuple [.int ((1 : Nat)), .int ((2 : Nat))], .tuple [.int ((1 : Nat)), .int ((1 : Nat))]]) := fi_list (j := 1) (n := 2) (fa_cons (fi_tuple (j := 0) (n := 2) (fa_cons (fi_int (by omega)) (fa_cons (fi_int (by omega)) fa_nil)) rfl (by decide)) (fa_cons (fi_tuple (j := 0) (n := 2) (fa_cons (fi_int (by omega)) (fa_cons (fi_int (by omega)) fa_nil)) rfl (by decide)) fa_nil)) rfl (by decide)
    refine ⟨_, _, _, rfl, .lst (.inl (.inl e_l107)) (.cons (.tup (.inl (.inl e_t91)) (.cons (.int _) (.cons (.int _) .nil))) (.cons (.tup (.inl (.inl e_t101)) (.cons (.int _) (.cons (.int _) .nil))) .nil)), .lst (.inl (.inl e_l116)) (.cons (.tup (.inl (.inl e_l110)) (.cons (.int _) (.cons (.int _) .nil))) (.cons (.tup (.inl (.inl e_l113)) (.cons (.int _) (.cons (.int _) .nil))) .nil)), Nat.lt_succ_of_le (Nat.le_trans fk119.depth (by decide)), fk119.nar, fun H120 s121 => ?_⟩
    replace e_l82 := s121 _ _ e_l82
    replace hA_l82 := prs_same s121 hA_l82
    replace e_t91 := s121 _ _ e_t91
    replace e_l97 := s121 _ _ e_l97
    replace hA_l97 := prs_same s121 hA_l97
    replace e_t101 := s121 _ _ e_t101
    replace e_l107 := s121 _ _ e_l107
    replace e_l110 := s121 _ _ e_l110
    replace e_l113 := s121 _ _ e_l113
    replace e_l116 := s121 _ _ e_l116
    replace sH := sH.trans s121
    exact q _ sH
end
end Pc
namespace Pc
open PySem PySem.Spec PyProof.Rows L2 RZ
section
variable {P : Program} {w : World} {K : PySem.W.Frag} {mg : Str → Option Value} {base : Heap}
def spRight : Sp := fun vs H Q _ => ∃ (b : Addr) (n : Nat), vs = [.ref b] ∧ Box (n + 1000) H b ∧ ∀ H', Keep b H H' → Box n H' b → Q (.bl true) H'
theorem ok_right (T : Env K mg) : FnOk P w K mg base CX0 9 T.f_right T.d_right ["_law_source"] spRight := by
  have GT : FnOk P w K mg base CX0 1 T.f_draw T.d_draw ["_law_source", "_law_bound"] spTake := ok_take T
  have GA : FnOk P w K mg base CX0 8 T.f_chain_right T.d_chain_right ["_law_crowd", "_law_far"] spChainR := ok_chain_right T
  have GC : FnOk P w K mg base CX0 8 T.f_couples_right T.d_couples_right ["_law_crowd"] spCouR := ok_couples_right T
  have GO : FnOk P w K mg base CX0 8 T.f_round_right T.d_round_right ["_law_crowd"] spRoundR := ok_round_right T
  refine T.F_right.ok sc_right (fun vs H Q E h => ?_) (fun cdv A outer s H vs Q E hr h => ?_)
  · obtain ⟨b, n, rfl, _⟩ := h
    rfl
  · obtain ⟨b, n, rfl, hB, q⟩ := h
    have h1 := hr.mono (show 1 ≤ 8 by decide)
    have h2 := hr.mono (show 2 ≤ 8 by decide)
    have h3 := hr.mono (show 3 ≤ 8 by decide)
    have h4 := hr.mono (show 4 ≤ 8 by decide)
    have h5 := hr.mono (show 5 ≤ 8 by decide)
    have h6 := hr.mono (show 6 ≤ 8 by decide)
    have h7 := hr.mono (show 7 ≤ 8 by decide)
    have kH : Keep b H H := Keep.refl _ _
    refine ⟨_, pss_cons (ps_set (i := 1) sc_right.nd rfl (.inl rfl) (pe_op op_add pe_int (pe_op op_mul pe_int (pe_call GT h1 (by rfl) T.g_draw T.F_draw.kp T.b_draw .nil pass0 (pa_cons (pv 0) (pa_cons pe_int pa_nil)))))) <|
      pss_cons (ps_set (i := 2) sc_right.nd rfl (.inl rfl) (pe_op op_add pe_int (pe_call GT h1 (by rfl) T.g_draw T.F_draw.kp T.b_draw .nil pass0 (pa_cons (pv 0) (pa_cons (pe_op op_sub (pv 1) pe_int) pa_nil))))) <|
      pss_one (ps_ret (pe_and (pe_call GA hr (by rfl) T.g_chain_right T.F_chain_right.kp T.b_chain_right .nil pass0 (pa_cons (pv 1) (pa_cons (pv 2) pa_nil))) (pe_and (pe_call GC hr (by rfl) T.g_couples_right T.F_couples_right.kp T.b_couples_right .nil pass0 (pa_cons (pv 1) pa_nil)) (pe_one (pe_call GO hr (by rfl) T.g_round_right T.F_round_right.kp T.b_round_right .nil pass0 (pa_cons (pv 1) pa_nil)))))), ?_⟩
    refine ⟨_, rfl, b, n + 999, 9, rfl, hB.mono (by omega), by decide, by decide, fun r1 H2 ra3 rb4 hB5 k6 => ?_⟩
    obtain ⟨y_hy7, hy7⟩ := hB.lst
    clear hB
    have hB := hB5
    replace kH := kH.trans k6
    refine ⟨_, _, rfl, rfl, .inl ⟨by omega, by omega⟩, _, _, rfl, rfl, ?_⟩
    have hn : 4 + 2 * r1.toNat ≤ 20 := by omega
    have hn2 : 4 ≤ 4 + 2 * r1.toNat := by omega
    have hev : (4 + 2 * r1.toNat) % 2 = 0 := by omega
    rw [show (fun i j => V.int (i + j)) 4 ((fun i j => i * j) 2 r1) = V.int ((4 + 2 * r1.toNat : Nat) : Int) from congrArg V.int (show (4 + 2 * r1 : Int) = _ by omega)]
    revert hn hn2 hev; generalize 4 + 2 * r1.toNat = N; intro hn hn2 hev
    first | refine st_set [some (.ref b), some (.int (N : Nat)), none] ?_ rfl | refine st_eq [some (.ref b), some (.int (N : Nat)), none] ?_ rfl | refine st_eq (t := tSeq _ _) [some (.ref b), some (.int (N : Nat)), none] ?_ rfl
    have hNs := mem_Ns hn2 hn hev
    refine ⟨_, rfl, _, rfl, _, _, rfl, rfl, b, n + 998, (N : Int) - 1, rfl, hB.mono (by omega), by omega, by omega, fun r8 H9 ra10 rb11 hB12 k13 => ?_⟩
    obtain ⟨y_hy14, hy14⟩ := hB.lst
    clear hB
    have hB := hB12
    replace kH := kH.trans k13
    obtain ⟨R, rfl⟩ : ∃ z : Nat, r8 = (z : Int) := ⟨r8.toNat, by omega⟩
    refine ⟨_, _, rfl, rfl, ?_⟩
    rw [show (fun i j => V.int (i + j)) 1 (R : Int) = V.int ((R + 1 : Nat) : Int) from congrArg V.int (show (1 : Int) + (R : Int) = _ by omega)]
    first | refine st_set [some (.ref b), some (.int (N : Nat)), some (.int ((R + 1) : Nat))] ?_ rfl | refine st_eq [some (.ref b), some (.int (N : Nat)), some (.int ((R + 1) : Nat))] ?_ rfl | refine st_eq (t := tSeq _ _) [some (.ref b), some (.int (N : Nat)), some (.int ((R + 1) : Nat))] ?_ rfl
    refine ⟨_, rfl, _, rfl, N, R + 1, rfl, hNs, by omega, by omega, fun H5 s5 => ⟨_, rfl, iteT ?_⟩⟩
    refine ⟨_, rfl, N, rfl, hNs, fun H6 s6 => ⟨_, rfl, iteT ?_⟩⟩
    refine ⟨_, rfl, N, rfl, hNs, fun H7 s7 => ?_⟩
    have s57 := (s5.trans s6).trans s7
    exact q _ (kH.trans (Keep.of_same s57)) ((hB.same s57).mono (by omega))
end
end Pc
namespace Pc
open PySem PySem.Spec PyProof.Rows L2 RZ
section
variable {P : Program} {w : World} {K : PySem.W.Frag} {mg : Str → Option Value} {base : Heap}
/-! ### the law -/
def spLaw (K : PySem.W.Frag) : Sp := fun vs H Q _ => ∃ (a : Addr) (ns : List Int), vs = [.ref a] ∧ SqL K H a (ns.map V.int) ∧ ns.length ≤ 63 ∧ ∀ H', Q (.bl true) H'
theorem ok_law (T : Env K mg) {f : Addr} {fd : FuncData} (F : Fun K "law" "law" s_law f fd) : FnOk P w K mg base CX0 10 f fd ["_law_script"] (spLaw K) := by
  have GC : FnOk P w K mg base CX0 1 T.f_folded T.d_folded ["_law_script", "_law_most"] (spCells K) := ok_cells T
  have GB : FnOk P w K mg base CX0 1 T.f_stream T.d_stream ["_law_script", "_law_k"] (spBox K) := ok_box T
  have GR : FnOk P w K mg base CX0 9 T.f_right T.d_right ["_law_source"] spRight := ok_right T
  refine F.ok sc_law (fun vs H Q E h => ?_) (fun cdv A outer s H vs Q E hr h => ?_)
  · obtain ⟨a, ns, rfl, _⟩ := h
    rfl
  · obtain ⟨a, ns, rfl, hS, hn, q⟩ := h
    have h1 := hr.mono (show 1 ≤ 9 by decide)
    refine ⟨_, pss_cons (ps_set (i := 1) sc_law.nd rfl (.inl rfl) (pe_call GC h1 (by rfl) T.g_folded T.F_folded.kp T.b_folded .nil pass0 (pa_cons (pv 0) (pa_cons pe_int pa_nil)))) <|
      pss_cons (ps_for PassesOwn.never rfl (pi_range1 (by rfl) T.n_range (pa_cons (pe_callB call_len_seq (by rfl) T.n_len PySem.boot_len (pa_cons (pv 1) pa_nil)) pa_nil)) (pg_name (i := 2) sc_law.nd rfl (.inl rfl))
        (pss_cons (ps_set (i := 3) sc_law.nd rfl (.inr rfl) (pe_call GB h1 (by rfl) T.g_stream T.F_stream.kp T.b_stream .nil pass0 (pa_cons (pv 1) (pa_cons (pv 2) pa_nil))))
        (pss_one (ps_if (pt_not (pt_val (pe_callB (cr_all rfl) (by rfl) T.n_all (by decide +kernel) (pa_cons
          (pe_lc (own := [("_law_turn", 4)]) (g := gName 4) (tt := tYes) rfl sc_law.nd (pi_range1 (by rfl) T.n_range (pa_cons pe_int pa_nil)) (blkOk_by (N := N_law) (sc := defScope s_law) (by decide +kernel))
            (fun _ _ _ _ _ => pg_name (i := 4) sc_law.nd rfl (.inl rfl)) (fun _ _ _ _ _ => pts_nil)
            (fun _ _ _ _ _ => pe_call GR hr (by rfl) T.g_right T.F_right.kp T.b_right .nil pass0 (pa_cons (pv 3) pa_nil))) pa_nil)))) (pss_one (ps_ret pe_bl)) pss_nil)))) <|
      pss_one (ps_ret pe_bl), ?_⟩
    refine ⟨.ref a, rfl, a, ns, 3, rfl, hS, hn, by decide, by decide, fun Hc p cs sc np ep hc1 hc2 => ?_⟩
    have hlen : (cs.map V.int).length = cs.length := List.length_map _
    refine ⟨.ref p, rfl, p, _, rfl, .inl (.inl (.inl ep)), _, rfl, by omega, by omega, ?_⟩
    have hj : ((cs.map V.int).length : Int).toNat = cs.length := by rw [hlen]; rfl
    rw [hj]
    refine for_range (fun i σ H' => H' p = some (.lst (cs.map V.int)) ∧ ∃ (y2 y3 y4 : Option V), σ = [some (.ref a), some (.ref p), y2, y3, y4]) ⟨ep, none, none, none, rfl⟩ (fun i σ H1 hi hPv => ?_) (fun σ H' hPv => q _)
    obtain ⟨ep1, y2, y3, y4, rfl⟩ := hPv
    refine ⟨.ref p, rfl, _, rfl, p, cs, i, ?_, .inl (.inl ep1), by omega, fun Hb b sb nb hBb => ?_⟩
    · show [V.ref p, V.int ((0 : Int) + (i : Nat))] = _
      rw [Int.zero_add]
    have epb := sb _ _ ep1
    have pb : p ≠ b := ne_of_none ep1 nb
    refine ⟨2, rfl, by decide, by decide, fun D nD => ?_⟩
    have bD : b ≠ D := hBb.ne_new nD
    have pD : p ≠ D := ne_of_none epb nD
    refine lc_range (n := 2) (fun j H' => H' p = some (.lst (cs.map V.int)) ∧ Box (1000 * (2 - j)) H' b ∧ H' D = some (.lst (List.replicate j (.bl true))))
      ⟨same_new nD _ _ epb, (hBb.same (same_new nD)).mono (by decide), upd_same⟩ (fun j H' hj hPv => ?_) (fun H' hPv => ?_)
    · obtain ⟨ep', hB', eD⟩ := hPv
      refine ⟨rfl, yes_if ⟨_, rfl, b, 1000 * (2 - (j + 1)), rfl, hB'.mono (by omega), fun H2 k2 hB2 => ⟨_, k2 _ _ bD.symm eD, ?_, ?_, ?_, ?_⟩⟩⟩
      · rw [List.length_replicate]; exact small1000 (by omega)
      · rw [upd_ne pD]; exact k2 _ _ pb ep'
      · exact hB2.keep (c := D) keep_upd bD
      · rw [upd_same, List.replicate_succ']
    · obtain ⟨ep', hB', eD⟩ := hPv
      refine ⟨D, List.replicate 2 true, rfl, by rw [List.map_replicate]; exact .inl (.inl eD), _, rfl, ?_⟩
      rw [all_rep]
      exact iteN ⟨ep', _, _, _, rfl⟩
end
end Pc
namespace Pc
open PySem PySem.Spec PyProof.Rows L2 RZ
theorem all_mk {l : PySem.W.OpenLaw} {w : World} {K : PySem.W.Frag} {h : Heap} {mg : Str → Option Value} {fa f_p_couples f_p_pairing_of f_p_pairings_many f_p_pairing_at f_p_check_person f_p_check_call f_p_check_word f_p_join_two f_p_people_of f_p_check_sizes f_p_empty_sheet f_p_with_word f_p_sheet_of f_p_upper_pairs f_p_lower_pairs f_p_strands f_p_far_end f_p_followed f_p_times f_p_other_side f_p_loose_people f_p_results_many f_p_result_at f_p_crossings f_p_do_same f_p_is_settled f_p_settled_pairing f_p_word_to_settle f_p_fewest_to_settle f_p_settle_word f_p_loop_of f_p_loops f_p_is_pure f_p_pure_loops f_p_has_word f_p_fewest_calls f_p_undone_calls f_p_word_for f_p_word_same f_p_fewest_same f_p_common_multiple f_p_moves_of_strands f_p_period_of_sheet f_p_sheet_settles f_stream f_draw f_folded f_same f_chain_right f_couples_right f_round_right f_right f_law : Addr} (X : K.In h) (G : h.Ns mainGlobals mg) (hfa : mg "law" = some (.ref fa))
    {od_p_couples an_p_couples : Option Addr} {sl_p_couples : Array (Option Value)} {oc_p_couples kV_p_couples dc_p_couples pm_p_couples cd_p_couples ct_p_couples : Value}
    {od_p_pairing_of an_p_pairing_of : Option Addr} {sl_p_pairing_of : Array (Option Value)} {oc_p_pairing_of kV_p_pairing_of dc_p_pairing_of pm_p_pairing_of cd_p_pairing_of ct_p_pairing_of : Value}
    {od_p_pairings_many an_p_pairings_many : Option Addr} {sl_p_pairings_many : Array (Option Value)} {oc_p_pairings_many kV_p_pairings_many dc_p_pairings_many pm_p_pairings_many cd_p_pairings_many ct_p_pairings_many : Value}
    {od_p_pairing_at an_p_pairing_at : Option Addr} {sl_p_pairing_at : Array (Option Value)} {oc_p_pairing_at kV_p_pairing_at dc_p_pairing_at pm_p_pairing_at cd_p_pairing_at ct_p_pairing_at : Value}
    {od_p_check_person an_p_check_person : Option Addr} {sl_p_check_person : Array (Option Value)} {oc_p_check_person kV_p_check_person dc_p_check_person pm_p_check_person cd_p_check_person ct_p_check_person : Value}
    {od_p_check_call an_p_check_call : Option Addr} {sl_p_check_call : Array (Option Value)} {oc_p_check_call kV_p_check_call dc_p_check_call pm_p_check_call cd_p_check_call ct_p_check_call : Value}
    {od_p_check_word an_p_check_word : Option Addr} {sl_p_check_word : Array (Option Value)} {oc_p_check_word kV_p_check_word dc_p_check_word pm_p_check_word cd_p_check_word ct_p_check_word : Value}
    {od_p_join_two an_p_join_two : Option Addr} {sl_p_join_two : Array (Option Value)} {oc_p_join_two kV_p_join_two dc_p_join_two pm_p_join_two cd_p_join_two ct_p_join_two : Value}
    {od_p_people_of an_p_people_of : Option Addr} {sl_p_people_of : Array (Option Value)} {oc_p_people_of kV_p_people_of dc_p_people_of pm_p_people_of cd_p_people_of ct_p_people_of : Value}
    {od_p_check_sizes an_p_check_sizes : Option Addr} {sl_p_check_sizes : Array (Option Value)} {oc_p_check_sizes kV_p_check_sizes dc_p_check_sizes pm_p_check_sizes cd_p_check_sizes ct_p_check_sizes : Value}
    {od_p_empty_sheet an_p_empty_sheet : Option Addr} {sl_p_empty_sheet : Array (Option Value)} {oc_p_empty_sheet kV_p_empty_sheet dc_p_empty_sheet pm_p_empty_sheet cd_p_empty_sheet ct_p_empty_sheet : Value}
    {od_p_with_word an_p_with_word : Option Addr} {sl_p_with_word : Array (Option Value)} {oc_p_with_word kV_p_with_word dc_p_with_word pm_p_with_word cd_p_with_word ct_p_with_word : Value}
    {od_p_sheet_of an_p_sheet_of : Option Addr} {sl_p_sheet_of : Array (Option Value)} {oc_p_sheet_of kV_p_sheet_of dc_p_sheet_of pm_p_sheet_of cd_p_sheet_of ct_p_sheet_of : Value}
    {od_p_upper_pairs an_p_upper_pairs : Option Addr} {sl_p_upper_pairs : Array (Option Value)} {oc_p_upper_pairs kV_p_upper_pairs dc_p_upper_pairs pm_p_upper_pairs cd_p_upper_pairs ct_p_upper_pairs : Value}
    {od_p_lower_pairs an_p_lower_pairs : Option Addr} {sl_p_lower_pairs : Array (Option Value)} {oc_p_lower_pairs kV_p_lower_pairs dc_p_lower_pairs pm_p_lower_pairs cd_p_lower_pairs ct_p_lower_pairs : Value}
    {od_p_strands an_p_strands : Option Addr} {sl_p_strands : Array (Option Value)} {oc_p_strands kV_p_strands dc_p_strands pm_p_strands cd_p_strands ct_p_strands : Value}
    {od_p_far_end an_p_far_end : Option Addr} {sl_p_far_end : Array (Option Value)} {oc_p_far_end kV_p_far_end dc_p_far_end pm_p_far_end cd_p_far_end ct_p_far_end : Value}
    {od_p_followed an_p_followed : Option Addr} {sl_p_followed : Array (Option Value)} {oc_p_followed kV_p_followed dc_p_followed pm_p_followed cd_p_followed ct_p_followed : Value}
    {od_p_times an_p_times : Option Addr} {sl_p_times : Array (Option Value)} {oc_p_times kV_p_times dc_p_times pm_p_times cd_p_times ct_p_times : Value}
    {od_p_other_side an_p_other_side : Option Addr} {sl_p_other_side : Array (Option Value)} {oc_p_other_side kV_p_other_side dc_p_other_side pm_p_other_side cd_p_other_side ct_p_other_side : Value}
    {od_p_loose_people an_p_loose_people : Option Addr} {sl_p_loose_people : Array (Option Value)} {oc_p_loose_people kV_p_loose_people dc_p_loose_people pm_p_loose_people cd_p_loose_people ct_p_loose_people : Value}
    {od_p_results_many an_p_results_many : Option Addr} {sl_p_results_many : Array (Option Value)} {oc_p_results_many kV_p_results_many dc_p_results_many pm_p_results_many cd_p_results_many ct_p_results_many : Value}
    {od_p_result_at an_p_result_at : Option Addr} {sl_p_result_at : Array (Option Value)} {oc_p_result_at kV_p_result_at dc_p_result_at pm_p_result_at cd_p_result_at ct_p_result_at : Value}
    {od_p_crossings an_p_crossings : Option Addr} {sl_p_crossings : Array (Option Value)} {oc_p_crossings kV_p_crossings dc_p_crossings pm_p_crossings cd_p_crossings ct_p_crossings : Value}
    {od_p_do_same an_p_do_same : Option Addr} {sl_p_do_same : Array (Option Value)} {oc_p_do_same kV_p_do_same dc_p_do_same pm_p_do_same cd_p_do_same ct_p_do_same : Value}
    {od_p_is_settled an_p_is_settled : Option Addr} {sl_p_is_settled : Array (Option Value)} {oc_p_is_settled kV_p_is_settled dc_p_is_settled pm_p_is_settled cd_p_is_settled ct_p_is_settled : Value}
    {od_p_settled_pairing an_p_settled_pairing : Option Addr} {sl_p_settled_pairing : Array (Option Value)} {oc_p_settled_pairing kV_p_settled_pairing dc_p_settled_pairing pm_p_settled_pairing cd_p_settled_pairing ct_p_settled_pairing : Value}
    {od_p_word_to_settle an_p_word_to_settle : Option Addr} {sl_p_word_to_settle : Array (Option Value)} {oc_p_word_to_settle kV_p_word_to_settle dc_p_word_to_settle pm_p_word_to_settle cd_p_word_to_settle ct_p_word_to_settle : Value}
    {od_p_fewest_to_settle an_p_fewest_to_settle : Option Addr} {sl_p_fewest_to_settle : Array (Option Value)} {oc_p_fewest_to_settle kV_p_fewest_to_settle dc_p_fewest_to_settle pm_p_fewest_to_settle cd_p_fewest_to_settle ct_p_fewest_to_settle : Value}
    {od_p_settle_word an_p_settle_word : Option Addr} {sl_p_settle_word : Array (Option Value)} {oc_p_settle_word kV_p_settle_word dc_p_settle_word pm_p_settle_word cd_p_settle_word ct_p_settle_word : Value}
    {od_p_loop_of an_p_loop_of : Option Addr} {sl_p_loop_of : Array (Option Value)} {oc_p_loop_of kV_p_loop_of dc_p_loop_of pm_p_loop_of cd_p_loop_of ct_p_loop_of : Value}
    {od_p_loops an_p_loops : Option Addr} {sl_p_loops : Array (Option Value)} {oc_p_loops kV_p_loops dc_p_loops pm_p_loops cd_p_loops ct_p_loops : Value}
    {od_p_is_pure an_p_is_pure : Option Addr} {sl_p_is_pure : Array (Option Value)} {oc_p_is_pure kV_p_is_pure dc_p_is_pure pm_p_is_pure cd_p_is_pure ct_p_is_pure : Value}
    {od_p_pure_loops an_p_pure_loops : Option Addr} {sl_p_pure_loops : Array (Option Value)} {oc_p_pure_loops kV_p_pure_loops dc_p_pure_loops pm_p_pure_loops cd_p_pure_loops ct_p_pure_loops : Value}
    {od_p_has_word an_p_has_word : Option Addr} {sl_p_has_word : Array (Option Value)} {oc_p_has_word kV_p_has_word dc_p_has_word pm_p_has_word cd_p_has_word ct_p_has_word : Value}
    {od_p_fewest_calls an_p_fewest_calls : Option Addr} {sl_p_fewest_calls : Array (Option Value)} {oc_p_fewest_calls kV_p_fewest_calls dc_p_fewest_calls pm_p_fewest_calls cd_p_fewest_calls ct_p_fewest_calls : Value}
    {od_p_undone_calls an_p_undone_calls : Option Addr} {sl_p_undone_calls : Array (Option Value)} {oc_p_undone_calls kV_p_undone_calls dc_p_undone_calls pm_p_undone_calls cd_p_undone_calls ct_p_undone_calls : Value}
    {od_p_word_for an_p_word_for : Option Addr} {sl_p_word_for : Array (Option Value)} {oc_p_word_for kV_p_word_for dc_p_word_for pm_p_word_for cd_p_word_for ct_p_word_for : Value}
    {od_p_word_same an_p_word_same : Option Addr} {sl_p_word_same : Array (Option Value)} {oc_p_word_same kV_p_word_same dc_p_word_same pm_p_word_same cd_p_word_same ct_p_word_same : Value}
    {od_p_fewest_same an_p_fewest_same : Option Addr} {sl_p_fewest_same : Array (Option Value)} {oc_p_fewest_same kV_p_fewest_same dc_p_fewest_same pm_p_fewest_same cd_p_fewest_same ct_p_fewest_same : Value}
    {od_p_common_multiple an_p_common_multiple : Option Addr} {sl_p_common_multiple : Array (Option Value)} {oc_p_common_multiple kV_p_common_multiple dc_p_common_multiple pm_p_common_multiple cd_p_common_multiple ct_p_common_multiple : Value}
    {od_p_moves_of_strands an_p_moves_of_strands : Option Addr} {sl_p_moves_of_strands : Array (Option Value)} {oc_p_moves_of_strands kV_p_moves_of_strands dc_p_moves_of_strands pm_p_moves_of_strands cd_p_moves_of_strands ct_p_moves_of_strands : Value}
    {od_p_period_of_sheet an_p_period_of_sheet : Option Addr} {sl_p_period_of_sheet : Array (Option Value)} {oc_p_period_of_sheet kV_p_period_of_sheet dc_p_period_of_sheet pm_p_period_of_sheet cd_p_period_of_sheet ct_p_period_of_sheet : Value}
    {od_p_sheet_settles an_p_sheet_settles : Option Addr} {sl_p_sheet_settles : Array (Option Value)} {oc_p_sheet_settles kV_p_sheet_settles dc_p_sheet_settles pm_p_sheet_settles cd_p_sheet_settles ct_p_sheet_settles : Value}
    {od_stream an_stream : Option Addr} {sl_stream : Array (Option Value)} {oc_stream kV_stream dc_stream pm_stream cd_stream ct_stream : Value}
    {od_draw an_draw : Option Addr} {sl_draw : Array (Option Value)} {oc_draw kV_draw dc_draw pm_draw cd_draw ct_draw : Value}
    {od_folded an_folded : Option Addr} {sl_folded : Array (Option Value)} {oc_folded kV_folded dc_folded pm_folded cd_folded ct_folded : Value}
    {od_same an_same : Option Addr} {sl_same : Array (Option Value)} {oc_same kV_same dc_same pm_same cd_same ct_same : Value}
    {od_chain_right an_chain_right : Option Addr} {sl_chain_right : Array (Option Value)} {oc_chain_right kV_chain_right dc_chain_right pm_chain_right cd_chain_right ct_chain_right : Value}
    {od_couples_right an_couples_right : Option Addr} {sl_couples_right : Array (Option Value)} {oc_couples_right kV_couples_right dc_couples_right pm_couples_right cd_couples_right ct_couples_right : Value}
    {od_round_right an_round_right : Option Addr} {sl_round_right : Array (Option Value)} {oc_round_right kV_round_right dc_round_right pm_round_right cd_round_right ct_round_right : Value}
    {od_right an_right : Option Addr} {sl_right : Array (Option Value)} {oc_right kV_right dc_right pm_right cd_right ct_right : Value}
    {od_law an_law : Option Addr} {sl_law : Array (Option Value)} {oc_law kV_law dc_law pm_law cd_law ct_law : Value}
    (a_p_couples : PySem.W.nsIn K mainGlobals "couples" = some (some (.ref f_p_couples))) (l_p_couples : K.lookup f_p_couples = some ⟨oc_p_couples, od_p_couples, .func (PySem.W.fnOf "couples" "couples" (defArgs s_p_couples) (defBody s_p_couples) (defScope s_p_couples) .none kV_p_couples dc_p_couples pm_p_couples an_p_couples cd_p_couples ct_p_couples), sl_p_couples⟩) (c_p_couples : PySem.W.codeIn K cd_p_couples "couples" = true) (k_p_couples : PySem.W.keepIn K (.ref f_p_couples) = true)
    (a_p_pairing_of : PySem.W.nsIn K mainGlobals "pairing_of" = some (some (.ref f_p_pairing_of))) (l_p_pairing_of : K.lookup f_p_pairing_of = some ⟨oc_p_pairing_of, od_p_pairing_of, .func (PySem.W.fnOf "pairing_of" "pairing_of" (defArgs s_p_pairing_of) (defBody s_p_pairing_of) (defScope s_p_pairing_of) .none kV_p_pairing_of dc_p_pairing_of pm_p_pairing_of an_p_pairing_of cd_p_pairing_of ct_p_pairing_of), sl_p_pairing_of⟩) (c_p_pairing_of : PySem.W.codeIn K cd_p_pairing_of "pairing_of" = true) (k_p_pairing_of : PySem.W.keepIn K (.ref f_p_pairing_of) = true)
    (a_p_pairings_many : PySem.W.nsIn K mainGlobals "pairings_many" = some (some (.ref f_p_pairings_many))) (l_p_pairings_many : K.lookup f_p_pairings_many = some ⟨oc_p_pairings_many, od_p_pairings_many, .func (PySem.W.fnOf "pairings_many" "pairings_many" (defArgs s_p_pairings_many) (defBody s_p_pairings_many) (defScope s_p_pairings_many) .none kV_p_pairings_many dc_p_pairings_many pm_p_pairings_many an_p_pairings_many cd_p_pairings_many ct_p_pairings_many), sl_p_pairings_many⟩) (c_p_pairings_many : PySem.W.codeIn K cd_p_pairings_many "pairings_many" = true) (k_p_pairings_many : PySem.W.keepIn K (.ref f_p_pairings_many) = true)
    (a_p_pairing_at : PySem.W.nsIn K mainGlobals "pairing_at" = some (some (.ref f_p_pairing_at))) (l_p_pairing_at : K.lookup f_p_pairing_at = some ⟨oc_p_pairing_at, od_p_pairing_at, .func (PySem.W.fnOf "pairing_at" "pairing_at" (defArgs s_p_pairing_at) (defBody s_p_pairing_at) (defScope s_p_pairing_at) .none kV_p_pairing_at dc_p_pairing_at pm_p_pairing_at an_p_pairing_at cd_p_pairing_at ct_p_pairing_at), sl_p_pairing_at⟩) (c_p_pairing_at : PySem.W.codeIn K cd_p_pairing_at "pairing_at" = true) (k_p_pairing_at : PySem.W.keepIn K (.ref f_p_pairing_at) = true)
    (a_p_check_person : PySem.W.nsIn K mainGlobals "check_person" = some (some (.ref f_p_check_person))) (l_p_check_person : K.lookup f_p_check_person = some ⟨oc_p_check_person, od_p_check_person, .func (PySem.W.fnOf "check_person" "check_person" (defArgs s_p_check_person) (defBody s_p_check_person) (defScope s_p_check_person) .none kV_p_check_person dc_p_check_person pm_p_check_person an_p_check_person cd_p_check_person ct_p_check_person), sl_p_check_person⟩) (c_p_check_person : PySem.W.codeIn K cd_p_check_person "check_person" = true) (k_p_check_person : PySem.W.keepIn K (.ref f_p_check_person) = true)
    (a_p_check_call : PySem.W.nsIn K mainGlobals "check_call" = some (some (.ref f_p_check_call))) (l_p_check_call : K.lookup f_p_check_call = some ⟨oc_p_check_call, od_p_check_call, .func (PySem.W.fnOf "check_call" "check_call" (defArgs s_p_check_call) (defBody s_p_check_call) (defScope s_p_check_call) .none kV_p_check_call dc_p_check_call pm_p_check_call an_p_check_call cd_p_check_call ct_p_check_call), sl_p_check_call⟩) (c_p_check_call : PySem.W.codeIn K cd_p_check_call "check_call" = true) (k_p_check_call : PySem.W.keepIn K (.ref f_p_check_call) = true)
    (a_p_check_word : PySem.W.nsIn K mainGlobals "check_word" = some (some (.ref f_p_check_word))) (l_p_check_word : K.lookup f_p_check_word = some ⟨oc_p_check_word, od_p_check_word, .func (PySem.W.fnOf "check_word" "check_word" (defArgs s_p_check_word) (defBody s_p_check_word) (defScope s_p_check_word) .none kV_p_check_word dc_p_check_word pm_p_check_word an_p_check_word cd_p_check_word ct_p_check_word), sl_p_check_word⟩) (c_p_check_word : PySem.W.codeIn K cd_p_check_word "check_word" = true) (k_p_check_word : PySem.W.keepIn K (.ref f_p_check_word) = true)
    (a_p_join_two : PySem.W.nsIn K mainGlobals "join_two" = some (some (.ref f_p_join_two))) (l_p_join_two : K.lookup f_p_join_two = some ⟨oc_p_join_two, od_p_join_two, .func (PySem.W.fnOf "join_two" "join_two" (defArgs s_p_join_two) (defBody s_p_join_two) (defScope s_p_join_two) .none kV_p_join_two dc_p_join_two pm_p_join_two an_p_join_two cd_p_join_two ct_p_join_two), sl_p_join_two⟩) (c_p_join_two : PySem.W.codeIn K cd_p_join_two "join_two" = true) (k_p_join_two : PySem.W.keepIn K (.ref f_p_join_two) = true)
    (a_p_people_of : PySem.W.nsIn K mainGlobals "people_of" = some (some (.ref f_p_people_of))) (l_p_people_of : K.lookup f_p_people_of = some ⟨oc_p_people_of, od_p_people_of, .func (PySem.W.fnOf "people_of" "people_of" (defArgs s_p_people_of) (defBody s_p_people_of) (defScope s_p_people_of) .none kV_p_people_of dc_p_people_of pm_p_people_of an_p_people_of cd_p_people_of ct_p_people_of), sl_p_people_of⟩) (c_p_people_of : PySem.W.codeIn K cd_p_people_of "people_of" = true) (k_p_people_of : PySem.W.keepIn K (.ref f_p_people_of) = true)
    (a_p_check_sizes : PySem.W.nsIn K mainGlobals "check_sizes" = some (some (.ref f_p_check_sizes))) (l_p_check_sizes : K.lookup f_p_check_sizes = some ⟨oc_p_check_sizes, od_p_check_sizes, .func (PySem.W.fnOf "check_sizes" "check_sizes" (defArgs s_p_check_sizes) (defBody s_p_check_sizes) (defScope s_p_check_sizes) .none kV_p_check_sizes dc_p_check_sizes pm_p_check_sizes an_p_check_sizes cd_p_check_sizes ct_p_check_sizes), sl_p_check_sizes⟩) (c_p_check_sizes : PySem.W.codeIn K cd_p_check_sizes "check_sizes" = true) (k_p_check_sizes : PySem.W.keepIn K (.ref f_p_check_sizes) = true)
    (a_p_empty_sheet : PySem.W.nsIn K mainGlobals "empty_sheet" = some (some (.ref f_p_empty_sheet))) (l_p_empty_sheet : K.lookup f_p_empty_sheet = some ⟨oc_p_empty_sheet, od_p_empty_sheet, .func (PySem.W.fnOf "empty_sheet" "empty_sheet" (defArgs s_p_empty_sheet) (defBody s_p_empty_sheet) (defScope s_p_empty_sheet) .none kV_p_empty_sheet dc_p_empty_sheet pm_p_empty_sheet an_p_empty_sheet cd_p_empty_sheet ct_p_empty_sheet), sl_p_empty_sheet⟩) (c_p_empty_sheet : PySem.W.codeIn K cd_p_empty_sheet "empty_sheet" = true) (k_p_empty_sheet : PySem.W.keepIn K (.ref f_p_empty_sheet) = true)
    (a_p_with_word : PySem.W.nsIn K mainGlobals "with_word" = some (some (.ref f_p_with_word))) (l_p_with_word : K.lookup f_p_with_word = some ⟨oc_p_with_word, od_p_with_word, .func (PySem.W.fnOf "with_word" "with_word" (defArgs s_p_with_word) (defBody s_p_with_word) (defScope s_p_with_word) .none kV_p_with_word dc_p_with_word pm_p_with_word an_p_with_word cd_p_with_word ct_p_with_word), sl_p_with_word⟩) (c_p_with_word : PySem.W.codeIn K cd_p_with_word "with_word" = true) (k_p_with_word : PySem.W.keepIn K (.ref f_p_with_word) = true)
    (a_p_sheet_of : PySem.W.nsIn K mainGlobals "sheet_of" = some (some (.ref f_p_sheet_of))) (l_p_sheet_of : K.lookup f_p_sheet_of = some ⟨oc_p_sheet_of, od_p_sheet_of, .func (PySem.W.fnOf "sheet_of" "sheet_of" (defArgs s_p_sheet_of) (defBody s_p_sheet_of) (defScope s_p_sheet_of) .none kV_p_sheet_of dc_p_sheet_of pm_p_sheet_of an_p_sheet_of cd_p_sheet_of ct_p_sheet_of), sl_p_sheet_of⟩) (c_p_sheet_of : PySem.W.codeIn K cd_p_sheet_of "sheet_of" = true) (k_p_sheet_of : PySem.W.keepIn K (.ref f_p_sheet_of) = true)
    (a_p_upper_pairs : PySem.W.nsIn K mainGlobals "upper_pairs" = some (some (.ref f_p_upper_pairs))) (l_p_upper_pairs : K.lookup f_p_upper_pairs = some ⟨oc_p_upper_pairs, od_p_upper_pairs, .func (PySem.W.fnOf "upper_pairs" "upper_pairs" (defArgs s_p_upper_pairs) (defBody s_p_upper_pairs) (defScope s_p_upper_pairs) .none kV_p_upper_pairs dc_p_upper_pairs pm_p_upper_pairs an_p_upper_pairs cd_p_upper_pairs ct_p_upper_pairs), sl_p_upper_pairs⟩) (c_p_upper_pairs : PySem.W.codeIn K cd_p_upper_pairs "upper_pairs" = true) (k_p_upper_pairs : PySem.W.keepIn K (.ref f_p_upper_pairs) = true)
    (a_p_lower_pairs : PySem.W.nsIn K mainGlobals "lower_pairs" = some (some (.ref f_p_lower_pairs))) (l_p_lower_pairs : K.lookup f_p_lower_pairs = some ⟨oc_p_lower_pairs, od_p_lower_pairs, .func (PySem.W.fnOf "lower_pairs" "lower_pairs" (defArgs s_p_lower_pairs) (defBody s_p_lower_pairs) (defScope s_p_lower_pairs) .none kV_p_lower_pairs dc_p_lower_pairs pm_p_lower_pairs an_p_lower_pairs cd_p_lower_pairs ct_p_lower_pairs), sl_p_lower_pairs⟩) (c_p_lower_pairs : PySem.W.codeIn K cd_p_lower_pairs "lower_pairs" = true) (k_p_lower_pairs : PySem.W.keepIn K (.ref f_p_lower_pairs) = true)
    (a_p_strands : PySem.W.nsIn K mainGlobals "strands" = some (some (.ref f_p_strands))) (l_p_strands : K.lookup f_p_strands = some ⟨oc_p_strands, od_p_strands, .func (PySem.W.fnOf "strands" "strands" (defArgs s_p_strands) (defBody s_p_strands) (defScope s_p_strands) .none kV_p_strands dc_p_strands pm_p_strands an_p_strands cd_p_strands ct_p_strands), sl_p_strands⟩) (c_p_strands : PySem.W.codeIn K cd_p_strands "strands" = true) (k_p_strands : PySem.W.keepIn K (.ref f_p_strands) = true)
    (a_p_far_end : PySem.W.nsIn K mainGlobals "far_end" = some (some (.ref f_p_far_end))) (l_p_far_end : K.lookup f_p_far_end = some ⟨oc_p_far_end, od_p_far_end, .func (PySem.W.fnOf "far_end" "far_end" (defArgs s_p_far_end) (defBody s_p_far_end) (defScope s_p_far_end) .none kV_p_far_end dc_p_far_end pm_p_far_end an_p_far_end cd_p_far_end ct_p_far_end), sl_p_far_end⟩) (c_p_far_end : PySem.W.codeIn K cd_p_far_end "far_end" = true) (k_p_far_end : PySem.W.keepIn K (.ref f_p_far_end) = true)
    (a_p_followed : PySem.W.nsIn K mainGlobals "followed" = some (some (.ref f_p_followed))) (l_p_followed : K.lookup f_p_followed = some ⟨oc_p_followed, od_p_followed, .func (PySem.W.fnOf "followed" "followed" (defArgs s_p_followed) (defBody s_p_followed) (defScope s_p_followed) .none kV_p_followed dc_p_followed pm_p_followed an_p_followed cd_p_followed ct_p_followed), sl_p_followed⟩) (c_p_followed : PySem.W.codeIn K cd_p_followed "followed" = true) (k_p_followed : PySem.W.keepIn K (.ref f_p_followed) = true)
    (a_p_times : PySem.W.nsIn K mainGlobals "times" = some (some (.ref f_p_times))) (l_p_times : K.lookup f_p_times = some ⟨oc_p_times, od_p_times, .func (PySem.W.fnOf "times" "times" (defArgs s_p_times) (defBody s_p_times) (defScope s_p_times) .none kV_p_times dc_p_times pm_p_times an_p_times cd_p_times ct_p_times), sl_p_times⟩) (c_p_times : PySem.W.codeIn K cd_p_times "times" = true) (k_p_times : PySem.W.keepIn K (.ref f_p_times) = true)
    (a_p_other_side : PySem.W.nsIn K mainGlobals "other_side" = some (some (.ref f_p_other_side))) (l_p_other_side : K.lookup f_p_other_side = some ⟨oc_p_other_side, od_p_other_side, .func (PySem.W.fnOf "other_side" "other_side" (defArgs s_p_other_side) (defBody s_p_other_side) (defScope s_p_other_side) .none kV_p_other_side dc_p_other_side pm_p_other_side an_p_other_side cd_p_other_side ct_p_other_side), sl_p_other_side⟩) (c_p_other_side : PySem.W.codeIn K cd_p_other_side "other_side" = true) (k_p_other_side : PySem.W.keepIn K (.ref f_p_other_side) = true)
    (a_p_loose_people : PySem.W.nsIn K mainGlobals "loose_people" = some (some (.ref f_p_loose_people))) (l_p_loose_people : K.lookup f_p_loose_people = some ⟨oc_p_loose_people, od_p_loose_people, .func (PySem.W.fnOf "loose_people" "loose_people" (defArgs s_p_loose_people) (defBody s_p_loose_people) (defScope s_p_loose_people) .none kV_p_loose_people dc_p_loose_people pm_p_loose_people an_p_loose_people cd_p_loose_people ct_p_loose_people), sl_p_loose_people⟩) (c_p_loose_people : PySem.W.codeIn K cd_p_loose_people "loose_people" = true) (k_p_loose_people : PySem.W.keepIn K (.ref f_p_loose_people) = true)
    (a_p_results_many : PySem.W.nsIn K mainGlobals "results_many" = some (some (.ref f_p_results_many))) (l_p_results_many : K.lookup f_p_results_many = some ⟨oc_p_results_many, od_p_results_many, .func (PySem.W.fnOf "results_many" "results_many" (defArgs s_p_results_many) (defBody s_p_results_many) (defScope s_p_results_many) .none kV_p_results_many dc_p_results_many pm_p_results_many an_p_results_many cd_p_results_many ct_p_results_many), sl_p_results_many⟩) (c_p_results_many : PySem.W.codeIn K cd_p_results_many "results_many" = true) (k_p_results_many : PySem.W.keepIn K (.ref f_p_results_many) = true)
    (a_p_result_at : PySem.W.nsIn K mainGlobals "result_at" = some (some (.ref f_p_result_at))) (l_p_result_at : K.lookup f_p_result_at = some ⟨oc_p_result_at, od_p_result_at, .func (PySem.W.fnOf "result_at" "result_at" (defArgs s_p_result_at) (defBody s_p_result_at) (defScope s_p_result_at) .none kV_p_result_at dc_p_result_at pm_p_result_at an_p_result_at cd_p_result_at ct_p_result_at), sl_p_result_at⟩) (c_p_result_at : PySem.W.codeIn K cd_p_result_at "result_at" = true) (k_p_result_at : PySem.W.keepIn K (.ref f_p_result_at) = true)
    (a_p_crossings : PySem.W.nsIn K mainGlobals "crossings" = some (some (.ref f_p_crossings))) (l_p_crossings : K.lookup f_p_crossings = some ⟨oc_p_crossings, od_p_crossings, .func (PySem.W.fnOf "crossings" "crossings" (defArgs s_p_crossings) (defBody s_p_crossings) (defScope s_p_crossings) .none kV_p_crossings dc_p_crossings pm_p_crossings an_p_crossings cd_p_crossings ct_p_crossings), sl_p_crossings⟩) (c_p_crossings : PySem.W.codeIn K cd_p_crossings "crossings" = true) (k_p_crossings : PySem.W.keepIn K (.ref f_p_crossings) = true)
    (a_p_do_same : PySem.W.nsIn K mainGlobals "do_same" = some (some (.ref f_p_do_same))) (l_p_do_same : K.lookup f_p_do_same = some ⟨oc_p_do_same, od_p_do_same, .func (PySem.W.fnOf "do_same" "do_same" (defArgs s_p_do_same) (defBody s_p_do_same) (defScope s_p_do_same) .none kV_p_do_same dc_p_do_same pm_p_do_same an_p_do_same cd_p_do_same ct_p_do_same), sl_p_do_same⟩) (c_p_do_same : PySem.W.codeIn K cd_p_do_same "do_same" = true) (k_p_do_same : PySem.W.keepIn K (.ref f_p_do_same) = true)
    (a_p_is_settled : PySem.W.nsIn K mainGlobals "is_settled" = some (some (.ref f_p_is_settled))) (l_p_is_settled : K.lookup f_p_is_settled = some ⟨oc_p_is_settled, od_p_is_settled, .func (PySem.W.fnOf "is_settled" "is_settled" (defArgs s_p_is_settled) (defBody s_p_is_settled) (defScope s_p_is_settled) .none kV_p_is_settled dc_p_is_settled pm_p_is_settled an_p_is_settled cd_p_is_settled ct_p_is_settled), sl_p_is_settled⟩) (c_p_is_settled : PySem.W.codeIn K cd_p_is_settled "is_settled" = true) (k_p_is_settled : PySem.W.keepIn K (.ref f_p_is_settled) = true)
    (a_p_settled_pairing : PySem.W.nsIn K mainGlobals "settled_pairing" = some (some (.ref f_p_settled_pairing))) (l_p_settled_pairing : K.lookup f_p_settled_pairing = some ⟨oc_p_settled_pairing, od_p_settled_pairing, .func (PySem.W.fnOf "settled_pairing" "settled_pairing" (defArgs s_p_settled_pairing) (defBody s_p_settled_pairing) (defScope s_p_settled_pairing) .none kV_p_settled_pairing dc_p_settled_pairing pm_p_settled_pairing an_p_settled_pairing cd_p_settled_pairing ct_p_settled_pairing), sl_p_settled_pairing⟩) (c_p_settled_pairing : PySem.W.codeIn K cd_p_settled_pairing "settled_pairing" = true) (k_p_settled_pairing : PySem.W.keepIn K (.ref f_p_settled_pairing) = true)
    (a_p_word_to_settle : PySem.W.nsIn K mainGlobals "word_to_settle" = some (some (.ref f_p_word_to_settle))) (l_p_word_to_settle : K.lookup f_p_word_to_settle = some ⟨oc_p_word_to_settle, od_p_word_to_settle, .func (PySem.W.fnOf "word_to_settle" "word_to_settle" (defArgs s_p_word_to_settle) (defBody s_p_word_to_settle) (defScope s_p_word_to_settle) .none kV_p_word_to_settle dc_p_word_to_settle pm_p_word_to_settle an_p_word_to_settle cd_p_word_to_settle ct_p_word_to_settle), sl_p_word_to_settle⟩) (c_p_word_to_settle : PySem.W.codeIn K cd_p_word_to_settle "word_to_settle" = true) (k_p_word_to_settle : PySem.W.keepIn K (.ref f_p_word_to_settle) = true)
    (a_p_fewest_to_settle : PySem.W.nsIn K mainGlobals "fewest_to_settle" = some (some (.ref f_p_fewest_to_settle))) (l_p_fewest_to_settle : K.lookup f_p_fewest_to_settle = some ⟨oc_p_fewest_to_settle, od_p_fewest_to_settle, .func (PySem.W.fnOf "fewest_to_settle" "fewest_to_settle" (defArgs s_p_fewest_to_settle) (defBody s_p_fewest_to_settle) (defScope s_p_fewest_to_settle) .none kV_p_fewest_to_settle dc_p_fewest_to_settle pm_p_fewest_to_settle an_p_fewest_to_settle cd_p_fewest_to_settle ct_p_fewest_to_settle), sl_p_fewest_to_settle⟩) (c_p_fewest_to_settle : PySem.W.codeIn K cd_p_fewest_to_settle "fewest_to_settle" = true) (k_p_fewest_to_settle : PySem.W.keepIn K (.ref f_p_fewest_to_settle) = true)
    (a_p_settle_word : PySem.W.nsIn K mainGlobals "settle_word" = some (some (.ref f_p_settle_word))) (l_p_settle_word : K.lookup f_p_settle_word = some ⟨oc_p_settle_word, od_p_settle_word, .func (PySem.W.fnOf "settle_word" "settle_word" (defArgs s_p_settle_word) (defBody s_p_settle_word) (defScope s_p_settle_word) .none kV_p_settle_word dc_p_settle_word pm_p_settle_word an_p_settle_word cd_p_settle_word ct_p_settle_word), sl_p_settle_word⟩) (c_p_settle_word : PySem.W.codeIn K cd_p_settle_word "settle_word" = true) (k_p_settle_word : PySem.W.keepIn K (.ref f_p_settle_word) = true)
    (a_p_loop_of : PySem.W.nsIn K mainGlobals "loop_of" = some (some (.ref f_p_loop_of))) (l_p_loop_of : K.lookup f_p_loop_of = some ⟨oc_p_loop_of, od_p_loop_of, .func (PySem.W.fnOf "loop_of" "loop_of" (defArgs s_p_loop_of) (defBody s_p_loop_of) (defScope s_p_loop_of) .none kV_p_loop_of dc_p_loop_of pm_p_loop_of an_p_loop_of cd_p_loop_of ct_p_loop_of), sl_p_loop_of⟩) (c_p_loop_of : PySem.W.codeIn K cd_p_loop_of "loop_of" = true) (k_p_loop_of : PySem.W.keepIn K (.ref f_p_loop_of) = true)
    (a_p_loops : PySem.W.nsIn K mainGlobals "loops" = some (some (.ref f_p_loops))) (l_p_loops : K.lookup f_p_loops = some ⟨oc_p_loops, od_p_loops, .func (PySem.W.fnOf "loops" "loops" (defArgs s_p_loops) (defBody s_p_loops) (defScope s_p_loops) .none kV_p_loops dc_p_loops pm_p_loops an_p_loops cd_p_loops ct_p_loops), sl_p_loops⟩) (c_p_loops : PySem.W.codeIn K cd_p_loops "loops" = true) (k_p_loops : PySem.W.keepIn K (.ref f_p_loops) = true)
    (a_p_is_pure : PySem.W.nsIn K mainGlobals "is_pure" = some (some (.ref f_p_is_pure))) (l_p_is_pure : K.lookup f_p_is_pure = some ⟨oc_p_is_pure, od_p_is_pure, .func (PySem.W.fnOf "is_pure" "is_pure" (defArgs s_p_is_pure) (defBody s_p_is_pure) (defScope s_p_is_pure) .none kV_p_is_pure dc_p_is_pure pm_p_is_pure an_p_is_pure cd_p_is_pure ct_p_is_pure), sl_p_is_pure⟩) (c_p_is_pure : PySem.W.codeIn K cd_p_is_pure "is_pure" = true) (k_p_is_pure : PySem.W.keepIn K (.ref f_p_is_pure) = true)
    (a_p_pure_loops : PySem.W.nsIn K mainGlobals "pure_loops" = some (some (.ref f_p_pure_loops))) (l_p_pure_loops : K.lookup f_p_pure_loops = some ⟨oc_p_pure_loops, od_p_pure_loops, .func (PySem.W.fnOf "pure_loops" "pure_loops" (defArgs s_p_pure_loops) (defBody s_p_pure_loops) (defScope s_p_pure_loops) .none kV_p_pure_loops dc_p_pure_loops pm_p_pure_loops an_p_pure_loops cd_p_pure_loops ct_p_pure_loops), sl_p_pure_loops⟩) (c_p_pure_loops : PySem.W.codeIn K cd_p_pure_loops "pure_loops" = true) (k_p_pure_loops : PySem.W.keepIn K (.ref f_p_pure_loops) = true)
    (a_p_has_word : PySem.W.nsIn K mainGlobals "has_word" = some (some (.ref f_p_has_word))) (l_p_has_word : K.lookup f_p_has_word = some ⟨oc_p_has_word, od_p_has_word, .func (PySem.W.fnOf "has_word" "has_word" (defArgs s_p_has_word) (defBody s_p_has_word) (defScope s_p_has_word) .none kV_p_has_word dc_p_has_word pm_p_has_word an_p_has_word cd_p_has_word ct_p_has_word), sl_p_has_word⟩) (c_p_has_word : PySem.W.codeIn K cd_p_has_word "has_word" = true) (k_p_has_word : PySem.W.keepIn K (.ref f_p_has_word) = true)
    (a_p_fewest_calls : PySem.W.nsIn K mainGlobals "fewest_calls" = some (some (.ref f_p_fewest_calls))) (l_p_fewest_calls : K.lookup f_p_fewest_calls = some ⟨oc_p_fewest_calls, od_p_fewest_calls, .func (PySem.W.fnOf "fewest_calls" "fewest_calls" (defArgs s_p_fewest_calls) (defBody s_p_fewest_calls) (defScope s_p_fewest_calls) .none kV_p_fewest_calls dc_p_fewest_calls pm_p_fewest_calls an_p_fewest_calls cd_p_fewest_calls ct_p_fewest_calls), sl_p_fewest_calls⟩) (c_p_fewest_calls : PySem.W.codeIn K cd_p_fewest_calls "fewest_calls" = true) (k_p_fewest_calls : PySem.W.keepIn K (.ref f_p_fewest_calls) = true)
    (a_p_undone_calls : PySem.W.nsIn K mainGlobals "undone_calls" = some (some (.ref f_p_undone_calls))) (l_p_undone_calls : K.lookup f_p_undone_calls = some ⟨oc_p_undone_calls, od_p_undone_calls, .func (PySem.W.fnOf "undone_calls" "undone_calls" (defArgs s_p_undone_calls) (defBody s_p_undone_calls) (defScope s_p_undone_calls) .none kV_p_undone_calls dc_p_undone_calls pm_p_undone_calls an_p_undone_calls cd_p_undone_calls ct_p_undone_calls), sl_p_undone_calls⟩) (c_p_undone_calls : PySem.W.codeIn K cd_p_undone_calls "undone_calls" = true) (k_p_undone_calls : PySem.W.keepIn K (.ref f_p_undone_calls) = true)
    (a_p_word_for : PySem.W.nsIn K mainGlobals "word_for" = some (some (.ref f_p_word_for))) (l_p_word_for : K.lookup f_p_word_for = some ⟨oc_p_word_for, od_p_word_for, .func (PySem.W.fnOf "word_for" "word_for" (defArgs s_p_word_for) (defBody s_p_word_for) (defScope s_p_word_for) .none kV_p_word_for dc_p_word_for pm_p_word_for an_p_word_for cd_p_word_for ct_p_word_for), sl_p_word_for⟩) (c_p_word_for : PySem.W.codeIn K cd_p_word_for "word_for" = true) (k_p_word_for : PySem.W.keepIn K (.ref f_p_word_for) = true)
    (a_p_word_same : PySem.W.nsIn K mainGlobals "word_same" = some (some (.ref f_p_word_same))) (l_p_word_same : K.lookup f_p_word_same = some ⟨oc_p_word_same, od_p_word_same, .func (PySem.W.fnOf "word_same" "word_same" (defArgs s_p_word_same) (defBody s_p_word_same) (defScope s_p_word_same) .none kV_p_word_same dc_p_word_same pm_p_word_same an_p_word_same cd_p_word_same ct_p_word_same), sl_p_word_same⟩) (c_p_word_same : PySem.W.codeIn K cd_p_word_same "word_same" = true) (k_p_word_same : PySem.W.keepIn K (.ref f_p_word_same) = true)
    (a_p_fewest_same : PySem.W.nsIn K mainGlobals "fewest_same" = some (some (.ref f_p_fewest_same))) (l_p_fewest_same : K.lookup f_p_fewest_same = some ⟨oc_p_fewest_same, od_p_fewest_same, .func (PySem.W.fnOf "fewest_same" "fewest_same" (defArgs s_p_fewest_same) (defBody s_p_fewest_same) (defScope s_p_fewest_same) .none kV_p_fewest_same dc_p_fewest_same pm_p_fewest_same an_p_fewest_same cd_p_fewest_same ct_p_fewest_same), sl_p_fewest_same⟩) (c_p_fewest_same : PySem.W.codeIn K cd_p_fewest_same "fewest_same" = true) (k_p_fewest_same : PySem.W.keepIn K (.ref f_p_fewest_same) = true)
    (a_p_common_multiple : PySem.W.nsIn K mainGlobals "common_multiple" = some (some (.ref f_p_common_multiple))) (l_p_common_multiple : K.lookup f_p_common_multiple = some ⟨oc_p_common_multiple, od_p_common_multiple, .func (PySem.W.fnOf "common_multiple" "common_multiple" (defArgs s_p_common_multiple) (defBody s_p_common_multiple) (defScope s_p_common_multiple) .none kV_p_common_multiple dc_p_common_multiple pm_p_common_multiple an_p_common_multiple cd_p_common_multiple ct_p_common_multiple), sl_p_common_multiple⟩) (c_p_common_multiple : PySem.W.codeIn K cd_p_common_multiple "common_multiple" = true) (k_p_common_multiple : PySem.W.keepIn K (.ref f_p_common_multiple) = true)
    (a_p_moves_of_strands : PySem.W.nsIn K mainGlobals "moves_of_strands" = some (some (.ref f_p_moves_of_strands))) (l_p_moves_of_strands : K.lookup f_p_moves_of_strands = some ⟨oc_p_moves_of_strands, od_p_moves_of_strands, .func (PySem.W.fnOf "moves_of_strands" "moves_of_strands" (defArgs s_p_moves_of_strands) (defBody s_p_moves_of_strands) (defScope s_p_moves_of_strands) .none kV_p_moves_of_strands dc_p_moves_of_strands pm_p_moves_of_strands an_p_moves_of_strands cd_p_moves_of_strands ct_p_moves_of_strands), sl_p_moves_of_strands⟩) (c_p_moves_of_strands : PySem.W.codeIn K cd_p_moves_of_strands "moves_of_strands" = true) (k_p_moves_of_strands : PySem.W.keepIn K (.ref f_p_moves_of_strands) = true)
    (a_p_period_of_sheet : PySem.W.nsIn K mainGlobals "period_of_sheet" = some (some (.ref f_p_period_of_sheet))) (l_p_period_of_sheet : K.lookup f_p_period_of_sheet = some ⟨oc_p_period_of_sheet, od_p_period_of_sheet, .func (PySem.W.fnOf "period_of_sheet" "period_of_sheet" (defArgs s_p_period_of_sheet) (defBody s_p_period_of_sheet) (defScope s_p_period_of_sheet) .none kV_p_period_of_sheet dc_p_period_of_sheet pm_p_period_of_sheet an_p_period_of_sheet cd_p_period_of_sheet ct_p_period_of_sheet), sl_p_period_of_sheet⟩) (c_p_period_of_sheet : PySem.W.codeIn K cd_p_period_of_sheet "period_of_sheet" = true) (k_p_period_of_sheet : PySem.W.keepIn K (.ref f_p_period_of_sheet) = true)
    (a_p_sheet_settles : PySem.W.nsIn K mainGlobals "sheet_settles" = some (some (.ref f_p_sheet_settles))) (l_p_sheet_settles : K.lookup f_p_sheet_settles = some ⟨oc_p_sheet_settles, od_p_sheet_settles, .func (PySem.W.fnOf "sheet_settles" "sheet_settles" (defArgs s_p_sheet_settles) (defBody s_p_sheet_settles) (defScope s_p_sheet_settles) .none kV_p_sheet_settles dc_p_sheet_settles pm_p_sheet_settles an_p_sheet_settles cd_p_sheet_settles ct_p_sheet_settles), sl_p_sheet_settles⟩) (c_p_sheet_settles : PySem.W.codeIn K cd_p_sheet_settles "sheet_settles" = true) (k_p_sheet_settles : PySem.W.keepIn K (.ref f_p_sheet_settles) = true)
    (a_stream : PySem.W.nsIn K mainGlobals "_law_stream" = some (some (.ref f_stream))) (l_stream : K.lookup f_stream = some ⟨oc_stream, od_stream, .func (PySem.W.fnOf "_law_stream" "_law_stream" (defArgs s_stream) (defBody s_stream) (defScope s_stream) .none kV_stream dc_stream pm_stream an_stream cd_stream ct_stream), sl_stream⟩) (c_stream : PySem.W.codeIn K cd_stream "_law_stream" = true) (k_stream : PySem.W.keepIn K (.ref f_stream) = true)
    (a_draw : PySem.W.nsIn K mainGlobals "_law_draw" = some (some (.ref f_draw))) (l_draw : K.lookup f_draw = some ⟨oc_draw, od_draw, .func (PySem.W.fnOf "_law_draw" "_law_draw" (defArgs s_draw) (defBody s_draw) (defScope s_draw) .none kV_draw dc_draw pm_draw an_draw cd_draw ct_draw), sl_draw⟩) (c_draw : PySem.W.codeIn K cd_draw "_law_draw" = true) (k_draw : PySem.W.keepIn K (.ref f_draw) = true)
    (a_folded : PySem.W.nsIn K mainGlobals "_law_folded" = some (some (.ref f_folded))) (l_folded : K.lookup f_folded = some ⟨oc_folded, od_folded, .func (PySem.W.fnOf "_law_folded" "_law_folded" (defArgs s_folded) (defBody s_folded) (defScope s_folded) .none kV_folded dc_folded pm_folded an_folded cd_folded ct_folded), sl_folded⟩) (c_folded : PySem.W.codeIn K cd_folded "_law_folded" = true) (k_folded : PySem.W.keepIn K (.ref f_folded) = true)
    (a_same : PySem.W.nsIn K mainGlobals "_law_same" = some (some (.ref f_same))) (l_same : K.lookup f_same = some ⟨oc_same, od_same, .func (PySem.W.fnOf "_law_same" "_law_same" (defArgs s_same) (defBody s_same) (defScope s_same) .none kV_same dc_same pm_same an_same cd_same ct_same), sl_same⟩) (c_same : PySem.W.codeIn K cd_same "_law_same" = true) (k_same : PySem.W.keepIn K (.ref f_same) = true)
    (a_chain_right : PySem.W.nsIn K mainGlobals "_law_chain_right" = some (some (.ref f_chain_right))) (l_chain_right : K.lookup f_chain_right = some ⟨oc_chain_right, od_chain_right, .func (PySem.W.fnOf "_law_chain_right" "_law_chain_right" (defArgs s_chain_right) (defBody s_chain_right) (defScope s_chain_right) .none kV_chain_right dc_chain_right pm_chain_right an_chain_right cd_chain_right ct_chain_right), sl_chain_right⟩) (c_chain_right : PySem.W.codeIn K cd_chain_right "_law_chain_right" = true) (k_chain_right : PySem.W.keepIn K (.ref f_chain_right) = true)
    (a_couples_right : PySem.W.nsIn K mainGlobals "_law_couples_right" = some (some (.ref f_couples_right))) (l_couples_right : K.lookup f_couples_right = some ⟨oc_couples_right, od_couples_right, .func (PySem.W.fnOf "_law_couples_right" "_law_couples_right" (defArgs s_couples_right) (defBody s_couples_right) (defScope s_couples_right) .none kV_couples_right dc_couples_right pm_couples_right an_couples_right cd_couples_right ct_couples_right), sl_couples_right⟩) (c_couples_right : PySem.W.codeIn K cd_couples_right "_law_couples_right" = true) (k_couples_right : PySem.W.keepIn K (.ref f_couples_right) = true)
    (a_round_right : PySem.W.nsIn K mainGlobals "_law_round_right" = some (some (.ref f_round_right))) (l_round_right : K.lookup f_round_right = some ⟨oc_round_right, od_round_right, .func (PySem.W.fnOf "_law_round_right" "_law_round_right" (defArgs s_round_right) (defBody s_round_right) (defScope s_round_right) .none kV_round_right dc_round_right pm_round_right an_round_right cd_round_right ct_round_right), sl_round_right⟩) (c_round_right : PySem.W.codeIn K cd_round_right "_law_round_right" = true) (k_round_right : PySem.W.keepIn K (.ref f_round_right) = true)
    (a_right : PySem.W.nsIn K mainGlobals "_law_right" = some (some (.ref f_right))) (l_right : K.lookup f_right = some ⟨oc_right, od_right, .func (PySem.W.fnOf "_law_right" "_law_right" (defArgs s_right) (defBody s_right) (defScope s_right) .none kV_right dc_right pm_right an_right cd_right ct_right), sl_right⟩) (c_right : PySem.W.codeIn K cd_right "_law_right" = true) (k_right : PySem.W.keepIn K (.ref f_right) = true)
    (a_law : PySem.W.nsIn K mainGlobals "law" = some (some (.ref f_law))) (l_law : K.lookup f_law = some ⟨oc_law, od_law, .func (PySem.W.fnOf "law" "law" (defArgs s_law) (defBody s_law) (defScope s_law) .none kV_law dc_law pm_law an_law cd_law ct_law), sl_law⟩) (c_law : PySem.W.codeIn K cd_law "law" = true) (k_law : PySem.W.keepIn K (.ref f_law) = true)
    (z_enumerate : PySem.W.nsIn K mainGlobals "enumerate" = some none) (z_len : PySem.W.nsIn K mainGlobals "len" = some none) (z_tuple : PySem.W.nsIn K mainGlobals "tuple" = some none) (z_range : PySem.W.nsIn K mainGlobals "range" = some none) (z_list : PySem.W.nsIn K mainGlobals "list" = some none) (z_divmod : PySem.W.nsIn K mainGlobals "divmod" = some none) (z_sorted : PySem.W.nsIn K mainGlobals "sorted" = some none) (z_set : PySem.W.nsIn K mainGlobals "set" = some none) (z_all : PySem.W.nsIn K mainGlobals "all" = some none) (z_min : PySem.W.nsIn K mainGlobals "min" = some none) (z_abs : PySem.W.nsIn K mainGlobals "abs" = some none) (z_int : PySem.W.nsIn K mainGlobals "int" = some none) (z_isinstance : PySem.W.nsIn K mainGlobals "isinstance" = some none) (z_zip : PySem.W.nsIn K mainGlobals "zip" = some none) (z_bool : PySem.W.nsIn K mainGlobals "bool" = some none) (z_str : PySem.W.nsIn K mainGlobals "str" = some none) (z_max : PySem.W.nsIn K mainGlobals "max" = some none) :
    ∃ fd : FuncData, (∀ (s : Shared) (v : Value), BindsTo s fd ⟨[v], []⟩ [("_law_script", v)]) ∧ ∀ base : Heap, K.In base → base.Ns mainGlobals mg → FnOk l.prog w K mg base CX0 10 fa fd ["_law_script"] (spLaw K) := by
  have e := hfa.symm.trans (PySem.W.mg_of X G a_law)
  cases e
  let T : Env K mg := {
    n_enumerate := PySem.W.mg_none_of X G z_enumerate,
    n_len := PySem.W.mg_none_of X G z_len,
    n_tuple := PySem.W.mg_none_of X G z_tuple,
    n_range := PySem.W.mg_none_of X G z_range,
    n_list := PySem.W.mg_none_of X G z_list,
    n_divmod := PySem.W.mg_none_of X G z_divmod,
    n_sorted := PySem.W.mg_none_of X G z_sorted,
    n_set := PySem.W.mg_none_of X G z_set,
    n_all := PySem.W.mg_none_of X G z_all,
    n_min := PySem.W.mg_none_of X G z_min,
    n_abs := PySem.W.mg_none_of X G z_abs,
    n_int := PySem.W.mg_none_of X G z_int,
    n_isinstance := PySem.W.mg_none_of X G z_isinstance,
    n_zip := PySem.W.mg_none_of X G z_zip,
    n_bool := PySem.W.mg_none_of X G z_bool,
    n_str := PySem.W.mg_none_of X G z_str,
    n_max := PySem.W.mg_none_of X G z_max,
    f_p_couples := f_p_couples, d_p_couples := _, F_p_couples := fun_mk (st := s_p_couples) l_p_couples c_p_couples k_p_couples, g_p_couples := PySem.W.mg_of X G a_p_couples,
    f_p_pairing_of := f_p_pairing_of, d_p_pairing_of := _, F_p_pairing_of := fun_mk (st := s_p_pairing_of) l_p_pairing_of c_p_pairing_of k_p_pairing_of, g_p_pairing_of := PySem.W.mg_of X G a_p_pairing_of,
    f_p_pairings_many := f_p_pairings_many, d_p_pairings_many := _, F_p_pairings_many := fun_mk (st := s_p_pairings_many) l_p_pairings_many c_p_pairings_many k_p_pairings_many, g_p_pairings_many := PySem.W.mg_of X G a_p_pairings_many,
    f_p_pairing_at := f_p_pairing_at, d_p_pairing_at := _, F_p_pairing_at := fun_mk (st := s_p_pairing_at) l_p_pairing_at c_p_pairing_at k_p_pairing_at, g_p_pairing_at := PySem.W.mg_of X G a_p_pairing_at,
    f_p_check_person := f_p_check_person, d_p_check_person := _, F_p_check_person := fun_mk (st := s_p_check_person) l_p_check_person c_p_check_person k_p_check_person, g_p_check_person := PySem.W.mg_of X G a_p_check_person,
    f_p_check_call := f_p_check_call, d_p_check_call := _, F_p_check_call := fun_mk (st := s_p_check_call) l_p_check_call c_p_check_call k_p_check_call, g_p_check_call := PySem.W.mg_of X G a_p_check_call,
    f_p_check_word := f_p_check_word, d_p_check_word := _, F_p_check_word := fun_mk (st := s_p_check_word) l_p_check_word c_p_check_word k_p_check_word, g_p_check_word := PySem.W.mg_of X G a_p_check_word,
    f_p_join_two := f_p_join_two, d_p_join_two := _, F_p_join_two := fun_mk (st := s_p_join_two) l_p_join_two c_p_join_two k_p_join_two, g_p_join_two := PySem.W.mg_of X G a_p_join_two,
    f_p_people_of := f_p_people_of, d_p_people_of := _, F_p_people_of := fun_mk (st := s_p_people_of) l_p_people_of c_p_people_of k_p_people_of, g_p_people_of := PySem.W.mg_of X G a_p_people_of,
    f_p_check_sizes := f_p_check_sizes, d_p_check_sizes := _, F_p_check_sizes := fun_mk (st := s_p_check_sizes) l_p_check_sizes c_p_check_sizes k_p_check_sizes, g_p_check_sizes := PySem.W.mg_of X G a_p_check_sizes,
    f_p_empty_sheet := f_p_empty_sheet, d_p_empty_sheet := _, F_p_empty_sheet := fun_mk (st := s_p_empty_sheet) l_p_empty_sheet c_p_empty_sheet k_p_empty_sheet, g_p_empty_sheet := PySem.W.mg_of X G a_p_empty_sheet,
    f_p_with_word := f_p_with_word, d_p_with_word := _, F_p_with_word := fun_mk (st := s_p_with_word) l_p_with_word c_p_with_word k_p_with_word, g_p_with_word := PySem.W.mg_of X G a_p_with_word,
    f_p_sheet_of := f_p_sheet_of, d_p_sheet_of := _, F_p_sheet_of := fun_mk (st := s_p_sheet_of) l_p_sheet_of c_p_sheet_of k_p_sheet_of, g_p_sheet_of := PySem.W.mg_of X G a_p_sheet_of,
    f_p_upper_pairs := f_p_upper_pairs, d_p_upper_pairs := _, F_p_upper_pairs := fun_mk (st := s_p_upper_pairs) l_p_upper_pairs c_p_upper_pairs k_p_upper_pairs, g_p_upper_pairs := PySem.W.mg_of X G a_p_upper_pairs,
    f_p_lower_pairs := f_p_lower_pairs, d_p_lower_pairs := _, F_p_lower_pairs := fun_mk (st := s_p_lower_pairs) l_p_lower_pairs c_p_lower_pairs k_p_lower_pairs, g_p_lower_pairs := PySem.W.mg_of X G a_p_lower_pairs,
    f_p_strands := f_p_strands, d_p_strands := _, F_p_strands := fun_mk (st := s_p_strands) l_p_strands c_p_strands k_p_strands, g_p_strands := PySem.W.mg_of X G a_p_strands,
    f_p_far_end := f_p_far_end, d_p_far_end := _, F_p_far_end := fun_mk (st := s_p_far_end) l_p_far_end c_p_far_end k_p_far_end, g_p_far_end := PySem.W.mg_of X G a_p_far_end,
    f_p_followed := f_p_followed, d_p_followed := _, F_p_followed := fun_mk (st := s_p_followed) l_p_followed c_p_followed k_p_followed, g_p_followed := PySem.W.mg_of X G a_p_followed,
    f_p_times := f_p_times, d_p_times := _, F_p_times := fun_mk (st := s_p_times) l_p_times c_p_times k_p_times, g_p_times := PySem.W.mg_of X G a_p_times,
    f_p_other_side := f_p_other_side, d_p_other_side := _, F_p_other_side := fun_mk (st := s_p_other_side) l_p_other_side c_p_other_side k_p_other_side, g_p_other_side := PySem.W.mg_of X G a_p_other_side,
    f_p_loose_people := f_p_loose_people, d_p_loose_people := _, F_p_loose_people := fun_mk (st := s_p_loose_people) l_p_loose_people c_p_loose_people k_p_loose_people, g_p_loose_people := PySem.W.mg_of X G a_p_loose_people,
    f_p_results_many := f_p_results_many, d_p_results_many := _, F_p_results_many := fun_mk (st := s_p_results_many) l_p_results_many c_p_results_many k_p_results_many, g_p_results_many := PySem.W.mg_of X G a_p_results_many,
    f_p_result_at := f_p_result_at, d_p_result_at := _, F_p_result_at := fun_mk (st := s_p_result_at) l_p_result_at c_p_result_at k_p_result_at, g_p_result_at := PySem.W.mg_of X G a_p_result_at,
    f_p_crossings := f_p_crossings, d_p_crossings := _, F_p_crossings := fun_mk (st := s_p_crossings) l_p_crossings c_p_crossings k_p_crossings, g_p_crossings := PySem.W.mg_of X G a_p_crossings,
    f_p_do_same := f_p_do_same, d_p_do_same := _, F_p_do_same := fun_mk (st := s_p_do_same) l_p_do_same c_p_do_same k_p_do_same, g_p_do_same := PySem.W.mg_of X G a_p_do_same,
    f_p_is_settled := f_p_is_settled, d_p_is_settled := _, F_p_is_settled := fun_mk (st := s_p_is_settled) l_p_is_settled c_p_is_settled k_p_is_settled, g_p_is_settled := PySem.W.mg_of X G a_p_is_settled,
    f_p_settled_pairing := f_p_settled_pairing, d_p_settled_pairing := _, F_p_settled_pairing := fun_mk (st := s_p_settled_pairing) l_p_settled_pairing c_p_settled_pairing k_p_settled_pairing, g_p_settled_pairing := PySem.W.mg_of X G a_p_settled_pairing,
    f_p_word_to_settle := f_p_word_to_settle, d_p_word_to_settle := _, F_p_word_to_settle := fun_mk (st := s_p_word_to_settle) l_p_word_to_settle c_p_word_to_settle k_p_word_to_settle, g_p_word_to_settle := PySem.W.mg_of X G a_p_word_to_settle,
    f_p_fewest_to_settle := f_p_fewest_to_settle, d_p_fewest_to_settle := _, F_p_fewest_to_settle := fun_mk (st := s_p_fewest_to_settle) l_p_fewest_to_settle c_p_fewest_to_settle k_p_fewest_to_settle, g_p_fewest_to_settle := PySem.W.mg_of X G a_p_fewest_to_settle,
    f_p_settle_word := f_p_settle_word, d_p_settle_word := _, F_p_settle_word := fun_mk (st := s_p_settle_word) l_p_settle_word c_p_settle_word k_p_settle_word, g_p_settle_word := PySem.W.mg_of X G a_p_settle_word,
    f_p_loop_of := f_p_loop_of, d_p_loop_of := _, F_p_loop_of := fun_mk (st := s_p_loop_of) l_p_loop_of c_p_loop_of k_p_loop_of, g_p_loop_of := PySem.W.mg_of X G a_p_loop_of,
    f_p_loops := f_p_loops, d_p_loops := _, F_p_loops := fun_mk (st := s_p_loops) l_p_loops c_p_loops k_p_loops, g_p_loops := PySem.W.mg_of X G a_p_loops,
    f_p_is_pure := f_p_is_pure, d_p_is_pure := _, F_p_is_pure := fun_mk (st := s_p_is_pure) l_p_is_pure c_p_is_pure k_p_is_pure, g_p_is_pure := PySem.W.mg_of X G a_p_is_pure,
    f_p_pure_loops := f_p_pure_loops, d_p_pure_loops := _, F_p_pure_loops := fun_mk (st := s_p_pure_loops) l_p_pure_loops c_p_pure_loops k_p_pure_loops, g_p_pure_loops := PySem.W.mg_of X G a_p_pure_loops,
    f_p_has_word := f_p_has_word, d_p_has_word := _, F_p_has_word := fun_mk (st := s_p_has_word) l_p_has_word c_p_has_word k_p_has_word, g_p_has_word := PySem.W.mg_of X G a_p_has_word,
    f_p_fewest_calls := f_p_fewest_calls, d_p_fewest_calls := _, F_p_fewest_calls := fun_mk (st := s_p_fewest_calls) l_p_fewest_calls c_p_fewest_calls k_p_fewest_calls, g_p_fewest_calls := PySem.W.mg_of X G a_p_fewest_calls,
    f_p_undone_calls := f_p_undone_calls, d_p_undone_calls := _, F_p_undone_calls := fun_mk (st := s_p_undone_calls) l_p_undone_calls c_p_undone_calls k_p_undone_calls, g_p_undone_calls := PySem.W.mg_of X G a_p_undone_calls,
    f_p_word_for := f_p_word_for, d_p_word_for := _, F_p_word_for := fun_mk (st := s_p_word_for) l_p_word_for c_p_word_for k_p_word_for, g_p_word_for := PySem.W.mg_of X G a_p_word_for,
    f_p_word_same := f_p_word_same, d_p_word_same := _, F_p_word_same := fun_mk (st := s_p_word_same) l_p_word_same c_p_word_same k_p_word_same, g_p_word_same := PySem.W.mg_of X G a_p_word_same,
    f_p_fewest_same := f_p_fewest_same, d_p_fewest_same := _, F_p_fewest_same := fun_mk (st := s_p_fewest_same) l_p_fewest_same c_p_fewest_same k_p_fewest_same, g_p_fewest_same := PySem.W.mg_of X G a_p_fewest_same,
    f_p_common_multiple := f_p_common_multiple, d_p_common_multiple := _, F_p_common_multiple := fun_mk (st := s_p_common_multiple) l_p_common_multiple c_p_common_multiple k_p_common_multiple, g_p_common_multiple := PySem.W.mg_of X G a_p_common_multiple,
    f_p_moves_of_strands := f_p_moves_of_strands, d_p_moves_of_strands := _, F_p_moves_of_strands := fun_mk (st := s_p_moves_of_strands) l_p_moves_of_strands c_p_moves_of_strands k_p_moves_of_strands, g_p_moves_of_strands := PySem.W.mg_of X G a_p_moves_of_strands,
    f_p_period_of_sheet := f_p_period_of_sheet, d_p_period_of_sheet := _, F_p_period_of_sheet := fun_mk (st := s_p_period_of_sheet) l_p_period_of_sheet c_p_period_of_sheet k_p_period_of_sheet, g_p_period_of_sheet := PySem.W.mg_of X G a_p_period_of_sheet,
    f_p_sheet_settles := f_p_sheet_settles, d_p_sheet_settles := _, F_p_sheet_settles := fun_mk (st := s_p_sheet_settles) l_p_sheet_settles c_p_sheet_settles k_p_sheet_settles, g_p_sheet_settles := PySem.W.mg_of X G a_p_sheet_settles,
    f_stream := f_stream, d_stream := _, F_stream := fun_mk (st := s_stream) l_stream c_stream k_stream, g_stream := PySem.W.mg_of X G a_stream,
    f_draw := f_draw, d_draw := _, F_draw := fun_mk (st := s_draw) l_draw c_draw k_draw, g_draw := PySem.W.mg_of X G a_draw,
    f_folded := f_folded, d_folded := _, F_folded := fun_mk (st := s_folded) l_folded c_folded k_folded, g_folded := PySem.W.mg_of X G a_folded,
    f_same := f_same, d_same := _, F_same := fun_mk (st := s_same) l_same c_same k_same, g_same := PySem.W.mg_of X G a_same,
    f_chain_right := f_chain_right, d_chain_right := _, F_chain_right := fun_mk (st := s_chain_right) l_chain_right c_chain_right k_chain_right, g_chain_right := PySem.W.mg_of X G a_chain_right,
    f_couples_right := f_couples_right, d_couples_right := _, F_couples_right := fun_mk (st := s_couples_right) l_couples_right c_couples_right k_couples_right, g_couples_right := PySem.W.mg_of X G a_couples_right,
    f_round_right := f_round_right, d_round_right := _, F_round_right := fun_mk (st := s_round_right) l_round_right c_round_right k_round_right, g_round_right := PySem.W.mg_of X G a_round_right,
    f_right := f_right, d_right := _, F_right := fun_mk (st := s_right) l_right c_right k_right, g_right := PySem.W.mg_of X G a_right }
  exact ⟨PySem.W.fnOf "law" "law" (defArgs s_law) (defBody s_law) (defScope s_law) .none kV_law dc_law pm_law an_law cd_law ct_law, fun s v => .of_eq rfl, fun base _ _ => ok_law T (fun_mk (st := s_law) l_law c_law k_law)⟩
end Pc
open PySem PySem.W PyProof.Rows
set_option maxHeartbeats 0 in
theorem PySem.Challenge.cw_partnercall_k88_known_sheets_and_rounds_holds : PySem.Challenge.rw_partnercall_k88_known_sheets_and_rounds.Holds := by
  w_on; o_law; k_head; (case hw => w_witness2)
  k_fill
  refine L2.walk_of (l := PySem.Challenge.rw_partnercall_k88_known_sheets_and_rounds) (n := 63) (k := 10) (x := "_law_script") (CX := fun _ => L2.CX0) (sp := fun w => Pc.spLaw _) rfl (by decide) rfl ⟨rfl, by decide, by decide⟩ (fun w h Y => PySem.W.kIn_of Y) ?F (fun _ _ a ns hl _ hS => ⟨a, ns, rfl, hS, hl, fun _ => rfl⟩) (fun _ _ _ _ _ h => h)
  case F =>
    intro w mg fa h KX G hmg
    refine' Pc.all_mk KX G hmg ?a_p_couples ?l_p_couples ?c_p_couples ?k_p_couples ?a_p_pairing_of ?l_p_pairing_of ?c_p_pairing_of ?k_p_pairing_of ?a_p_pairings_many ?l_p_pairings_many ?c_p_pairings_many ?k_p_pairings_many ?a_p_pairing_at ?l_p_pairing_at ?c_p_pairing_at ?k_p_pairing_at ?a_p_check_person ?l_p_check_person ?c_p_check_person ?k_p_check_person ?a_p_check_call ?l_p_check_call ?c_p_check_call ?k_p_check_call ?a_p_check_word ?l_p_check_word ?c_p_check_word ?k_p_check_word ?a_p_join_two ?l_p_join_two ?c_p_join_two ?k_p_join_two ?a_p_people_of ?l_p_people_of ?c_p_people_of ?k_p_people_of ?a_p_check_sizes ?l_p_check_sizes ?c_p_check_sizes ?k_p_check_sizes ?a_p_empty_sheet ?l_p_empty_sheet ?c_p_empty_sheet ?k_p_empty_sheet ?a_p_with_word ?l_p_with_word ?c_p_with_word ?k_p_with_word ?a_p_sheet_of ?l_p_sheet_of ?c_p_sheet_of ?k_p_sheet_of ?a_p_upper_pairs ?l_p_upper_pairs ?c_p_upper_pairs ?k_p_upper_pairs ?a_p_lower_pairs ?l_p_lower_pairs ?c_p_lower_pairs ?k_p_lower_pairs ?a_p_strands ?l_p_strands ?c_p_strands ?k_p_strands ?a_p_far_end ?l_p_far_end ?c_p_far_end ?k_p_far_end ?a_p_followed ?l_p_followed ?c_p_followed ?k_p_followed ?a_p_times ?l_p_times ?c_p_times ?k_p_times ?a_p_other_side ?l_p_other_side ?c_p_other_side ?k_p_other_side ?a_p_loose_people ?l_p_loose_people ?c_p_loose_people ?k_p_loose_people ?a_p_results_many ?l_p_results_many ?c_p_results_many ?k_p_results_many ?a_p_result_at ?l_p_result_at ?c_p_result_at ?k_p_result_at ?a_p_crossings ?l_p_crossings ?c_p_crossings ?k_p_crossings ?a_p_do_same ?l_p_do_same ?c_p_do_same ?k_p_do_same ?a_p_is_settled ?l_p_is_settled ?c_p_is_settled ?k_p_is_settled ?a_p_settled_pairing ?l_p_settled_pairing ?c_p_settled_pairing ?k_p_settled_pairing ?a_p_word_to_settle ?l_p_word_to_settle ?c_p_word_to_settle ?k_p_word_to_settle ?a_p_fewest_to_settle ?l_p_fewest_to_settle ?c_p_fewest_to_settle ?k_p_fewest_to_settle ?a_p_settle_word ?l_p_settle_word ?c_p_settle_word ?k_p_settle_word ?a_p_loop_of ?l_p_loop_of ?c_p_loop_of ?k_p_loop_of ?a_p_loops ?l_p_loops ?c_p_loops ?k_p_loops ?a_p_is_pure ?l_p_is_pure ?c_p_is_pure ?k_p_is_pure ?a_p_pure_loops ?l_p_pure_loops ?c_p_pure_loops ?k_p_pure_loops ?a_p_has_word ?l_p_has_word ?c_p_has_word ?k_p_has_word ?a_p_fewest_calls ?l_p_fewest_calls ?c_p_fewest_calls ?k_p_fewest_calls ?a_p_undone_calls ?l_p_undone_calls ?c_p_undone_calls ?k_p_undone_calls ?a_p_word_for ?l_p_word_for ?c_p_word_for ?k_p_word_for ?a_p_word_same ?l_p_word_same ?c_p_word_same ?k_p_word_same ?a_p_fewest_same ?l_p_fewest_same ?c_p_fewest_same ?k_p_fewest_same ?a_p_common_multiple ?l_p_common_multiple ?c_p_common_multiple ?k_p_common_multiple ?a_p_moves_of_strands ?l_p_moves_of_strands ?c_p_moves_of_strands ?k_p_moves_of_strands ?a_p_period_of_sheet ?l_p_period_of_sheet ?c_p_period_of_sheet ?k_p_period_of_sheet ?a_p_sheet_settles ?l_p_sheet_settles ?c_p_sheet_settles ?k_p_sheet_settles ?a_stream ?l_stream ?c_stream ?k_stream ?a_draw ?l_draw ?c_draw ?k_draw ?a_folded ?l_folded ?c_folded ?k_folded ?a_same ?l_same ?c_same ?k_same ?a_chain_right ?l_chain_right ?c_chain_right ?k_chain_right ?a_couples_right ?l_couples_right ?c_couples_right ?k_couples_right ?a_round_right ?l_round_right ?c_round_right ?k_round_right ?a_right ?l_right ?c_right ?k_right ?a_law ?l_law ?c_law ?k_law ?z_enumerate ?z_len ?z_tuple ?z_range ?z_list ?z_divmod ?z_sorted ?z_set ?z_all ?z_min ?z_abs ?z_int ?z_isinstance ?z_zip ?z_bool ?z_str ?z_max
    (case a_p_couples => k_is); (case l_p_couples => k_is); (case c_p_couples => k_is); (case k_p_couples => k_is); (case a_p_pairing_of => k_is); (case l_p_pairing_of => k_is); (case c_p_pairing_of => k_is); (case k_p_pairing_of => k_is); (case a_p_pairings_many => k_is); (case l_p_pairings_many => k_is); (case c_p_pairings_many => k_is); (case k_p_pairings_many => k_is); (case a_p_pairing_at => k_is); (case l_p_pairing_at => k_is); (case c_p_pairing_at => k_is); (case k_p_pairing_at => k_is); (case a_p_check_person => k_is); (case l_p_check_person => k_is); (case c_p_check_person => k_is); (case k_p_check_person => k_is); (case a_p_check_call => k_is); (case l_p_check_call => k_is); (case c_p_check_call => k_is); (case k_p_check_call => k_is); (case a_p_check_word => k_is); (case l_p_check_word => k_is); (case c_p_check_word => k_is); (case k_p_check_word => k_is); (case a_p_join_two => k_is); (case l_p_join_two => k_is); (case c_p_join_two => k_is); (case k_p_join_two => k_is); (case a_p_people_of => k_is); (case l_p_people_of => k_is); (case c_p_people_of => k_is); (case k_p_people_of => k_is); (case a_p_check_sizes => k_is); (case l_p_check_sizes => k_is); (case c_p_check_sizes => k_is); (case k_p_check_sizes => k_is); (case a_p_empty_sheet => k_is); (case l_p_empty_sheet => k_is); (case c_p_empty_sheet => k_is); (case k_p_empty_sheet => k_is); (case a_p_with_word => k_is); (case l_p_with_word => k_is); (case c_p_with_word => k_is); (case k_p_with_word => k_is); (case a_p_sheet_of => k_is); (case l_p_sheet_of => k_is); (case c_p_sheet_of => k_is); (case k_p_sheet_of => k_is); (case a_p_upper_pairs => k_is); (case l_p_upper_pairs => k_is); (case c_p_upper_pairs => k_is); (case k_p_upper_pairs => k_is); (case a_p_lower_pairs => k_is); (case l_p_lower_pairs => k_is); (case c_p_lower_pairs => k_is); (case k_p_lower_pairs => k_is); (case a_p_strands => k_is); (case l_p_strands => k_is); (case c_p_strands => k_is); (case k_p_strands => k_is); (case a_p_far_end => k_is); (case l_p_far_end => k_is); (case c_p_far_end => k_is); (case k_p_far_end => k_is); (case a_p_followed => k_is); (case l_p_followed => k_is); (case c_p_followed => k_is); (case k_p_followed => k_is); (case a_p_times => k_is); (case l_p_times => k_is); (case c_p_times => k_is); (case k_p_times => k_is); (case a_p_other_side => k_is); (case l_p_other_side => k_is); (case c_p_other_side => k_is); (case k_p_other_side => k_is); (case a_p_loose_people => k_is); (case l_p_loose_people => k_is); (case c_p_loose_people => k_is); (case k_p_loose_people => k_is); (case a_p_results_many => k_is); (case l_p_results_many => k_is); (case c_p_results_many => k_is); (case k_p_results_many => k_is); (case a_p_result_at => k_is); (case l_p_result_at => k_is); (case c_p_result_at => k_is); (case k_p_result_at => k_is); (case a_p_crossings => k_is); (case l_p_crossings => k_is); (case c_p_crossings => k_is); (case k_p_crossings => k_is); (case a_p_do_same => k_is); (case l_p_do_same => k_is); (case c_p_do_same => k_is); (case k_p_do_same => k_is); (case a_p_is_settled => k_is); (case l_p_is_settled => k_is); (case c_p_is_settled => k_is); (case k_p_is_settled => k_is); (case a_p_settled_pairing => k_is); (case l_p_settled_pairing => k_is); (case c_p_settled_pairing => k_is); (case k_p_settled_pairing => k_is); (case a_p_word_to_settle => k_is); (case l_p_word_to_settle => k_is); (case c_p_word_to_settle => k_is); (case k_p_word_to_settle => k_is); (case a_p_fewest_to_settle => k_is); (case l_p_fewest_to_settle => k_is); (case c_p_fewest_to_settle => k_is); (case k_p_fewest_to_settle => k_is); (case a_p_settle_word => k_is); (case l_p_settle_word => k_is); (case c_p_settle_word => k_is); (case k_p_settle_word => k_is); (case a_p_loop_of => k_is); (case l_p_loop_of => k_is); (case c_p_loop_of => k_is); (case k_p_loop_of => k_is); (case a_p_loops => k_is); (case l_p_loops => k_is); (case c_p_loops => k_is); (case k_p_loops => k_is); (case a_p_is_pure => k_is); (case l_p_is_pure => k_is); (case c_p_is_pure => k_is); (case k_p_is_pure => k_is); (case a_p_pure_loops => k_is); (case l_p_pure_loops => k_is); (case c_p_pure_loops => k_is); (case k_p_pure_loops => k_is); (case a_p_has_word => k_is); (case l_p_has_word => k_is); (case c_p_has_word => k_is); (case k_p_has_word => k_is); (case a_p_fewest_calls => k_is); (case l_p_fewest_calls => k_is); (case c_p_fewest_calls => k_is); (case k_p_fewest_calls => k_is); (case a_p_undone_calls => k_is); (case l_p_undone_calls => k_is); (case c_p_undone_calls => k_is); (case k_p_undone_calls => k_is); (case a_p_word_for => k_is); (case l_p_word_for => k_is); (case c_p_word_for => k_is); (case k_p_word_for => k_is); (case a_p_word_same => k_is); (case l_p_word_same => k_is); (case c_p_word_same => k_is); (case k_p_word_same => k_is); (case a_p_fewest_same => k_is); (case l_p_fewest_same => k_is); (case c_p_fewest_same => k_is); (case k_p_fewest_same => k_is); (case a_p_common_multiple => k_is); (case l_p_common_multiple => k_is); (case c_p_common_multiple => k_is); (case k_p_common_multiple => k_is); (case a_p_moves_of_strands => k_is); (case l_p_moves_of_strands => k_is); (case c_p_moves_of_strands => k_is); (case k_p_moves_of_strands => k_is); (case a_p_period_of_sheet => k_is); (case l_p_period_of_sheet => k_is); (case c_p_period_of_sheet => k_is); (case k_p_period_of_sheet => k_is); (case a_p_sheet_settles => k_is); (case l_p_sheet_settles => k_is); (case c_p_sheet_settles => k_is); (case k_p_sheet_settles => k_is); (case a_stream => k_is); (case l_stream => k_is); (case c_stream => k_is); (case k_stream => k_is); (case a_draw => k_is); (case l_draw => k_is); (case c_draw => k_is); (case k_draw => k_is); (case a_folded => k_is); (case l_folded => k_is); (case c_folded => k_is); (case k_folded => k_is); (case a_same => k_is); (case l_same => k_is); (case c_same => k_is); (case k_same => k_is); (case a_chain_right => k_is); (case l_chain_right => k_is); (case c_chain_right => k_is); (case k_chain_right => k_is); (case a_couples_right => k_is); (case l_couples_right => k_is); (case c_couples_right => k_is); (case k_couples_right => k_is); (case a_round_right => k_is); (case l_round_right => k_is); (case c_round_right => k_is); (case k_round_right => k_is); (case a_right => k_is); (case l_right => k_is); (case c_right => k_is); (case k_right => k_is); (case a_law => k_is); (case l_law => k_is); (case c_law => k_is); (case k_law => k_is); (case z_enumerate => k_is); (case z_len => k_is); (case z_tuple => k_is); (case z_range => k_is); (case z_list => k_is); (case z_divmod => k_is); (case z_sorted => k_is); (case z_set => k_is); (case z_all => k_is); (case z_min => k_is); (case z_abs => k_is); (case z_int => k_is); (case z_isinstance => k_is); (case z_zip => k_is); (case z_bool => k_is); (case z_str => k_is); (case z_max => k_is)
