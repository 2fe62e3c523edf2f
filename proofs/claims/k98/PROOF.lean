import PyProof.Rows.All
import Wide.All
import OpenK.AllK
import Wide.FinOn
import HandS.ForMost
import HandS.IsInst
import HandS.Zip
import HandS.Style
import HandS.Walk
import HandS.Flow
import HandS.Conv
import HandS.RaiseMore
import HandS.NoneIn
import HandS.WordsList
import HandS.Deep
import HandS.Exc
import HandS.ExcOwn
import HandS.WordsExc
import HandS.ExcInit
import HandS.ExcIs
import KE.KExcIs
import KE.KExcInit
import KE.KTryMore
import HandS.SortRule
import HandS.SortInts
import HandS.Strs
import PySem.Challenge.RW_partnercall_k98_people_who_are_not_there
set_option Elab.async false
set_option linter.all false
set_option maxRecDepth 100000
set_option maxHeartbeats 4000000
namespace RZ
end RZ
namespace Pc
open PySem PySem.Spec PyProof.Rows L2 RZ
/-! ### heaps -/
/-- all that was tracked, but for b, is as it was -/
def Keep (b : Addr) (H H' : Hp) : Prop := ∀ a o, a ≠ b → H a = some o → H' a = some o
theorem Keep.refl (b : Addr) (H : Hp) : Keep b H H := fun _ _ _ h => h
theorem Keep.trans {b : Addr} {H H1 H2 : Hp} (p : Keep b H H1) (q : Keep b H1 H2) : Keep b H H2 := fun a o n h => q a o n (p a o n h)
theorem Keep.of_same {b : Addr} {H H' : Hp} (s : Same H H') : Keep b H H' := fun a o _ h => s a o h
theorem same_new {H : Hp} {p : Addr} {o : HO} (h : H p = none) : Same H (upd H p o) := fun b x e => by
  rw [upd_ne (ne_of_none e h)]; exact e
theorem keep_upd {H : Hp} {b : Addr} {o : HO} : Keep b H (upd H b o) := fun a x n e => by
  rw [upd_ne n]; exact e
/-- a list, a tuple under Keep -/
theorem Keep.tup {b : Addr} {H H' : Hp} (k : Keep b H H') {a : Addr} {xs ys : List V} (hb : H b = some (.lst ys)) (h : H a = some (.tup xs)) : H' a = some (.tup xs) :=
  k a _ (fun e => by rw [e, hb] at h; cases h) h
/-! ### small numbers -/
theorem one0 (c : Prop) [Decidable c] : (0 : Int) ≤ (if c then 1 else 0) ∧ (if c then (1 : Int) else 0) ≤ 1 := by
  split <;> decide
theorem in64 {i : Int} (h : 0 ≤ i ∧ i ≤ 1) : -(2 ^ 64) < i ∧ i < 2 ^ 64 := ⟨by omega, by omega⟩
/-! ### the source of draws -/
/-- at b a source that serves n more draws -/
def Box (n : Nat) (H : Hp) (b : Addr) : Prop := ∃ x y z : Int, H b = some (.lst [.int x, .int y, .int z]) ∧ 0 ≤ x ∧ 0 ≤ y ∧ y < 2 ^ 62 ∧ 0 ≤ z ∧ z + n ≤ 1000000000
theorem Box.lst {n : Nat} {H : Hp} {b : Addr} (h : Box n H b) : ∃ ys, H b = some (.lst ys) := let ⟨_, _, _, e, _⟩ := h; ⟨_, e⟩
theorem Box.mono {n m : Nat} {H : Hp} {b : Addr} (h : Box n H b) (l : m ≤ n) : Box m H b := by
  obtain ⟨x, y, z, e, h1, h2, h3, h4, h5⟩ := h
  exact ⟨x, y, z, e, h1, h2, h3, h4, by omega⟩
theorem Box.same {n : Nat} {H H' : Hp} {b : Addr} (h : Box n H b) (s : Same H H') : Box n H' b := by
  obtain ⟨x, y, z, e, r⟩ := h
  exact ⟨x, y, z, s _ _ e, r⟩
theorem Box.keep {n : Nat} {H H' : Hp} {b c : Addr} (h : Box n H b) (k : Keep c H H') (d : b ≠ c) : Box n H' b := by
  obtain ⟨x, y, z, e, r⟩ := h
  exact ⟨x, y, z, k _ _ d e, r⟩
theorem Box.ne_new {n : Nat} {H : Hp} {b p : Addr} (h : Box n H b) (np : H p = none) : b ≠ p := by
  obtain ⟨x, y, z, e, r⟩ := h
  exact ne_of_none e np
theorem Box.ne_tup {n : Nat} {H : Hp} {b p : Addr} {xs : List V} (h : Box n H b) (e2 : H p = some (.tup xs)) : p ≠ b := by
  obtain ⟨x, y, z, e, r⟩ := h
  intro q; rw [q, e] at e2; cases e2
end Pc
namespace Pc
open PySem PySem.Spec PyProof.Rows L2 RZ
/-! ### errors of the program: made -/
section
open PySem.W Builtin Builtin.ObjectAttr
variable {prog : Program} {w : World} {A : Around} {R : Result → Shared → Prop} {hp : Heap} {g : Array GenState} {d : Drawn} {t : Nat} {os : OsState} {B : String} {bmB : List Value}
/-- the first field of an error that has no dict yet -/
theorem osa_first {K : Frag} {f : Str} {tk : Tok} {v : Value} {x C : Addr} {fv : Array Value} {cd : ClassData} (SF : StoreFacts B bmB "object.__setattr__" "object") (X : K.In hp)
    (hx : hp.get? x = some { cls := .ref C, data := .fields fv }) (hcd : clsIn K C = some cd) (ho : excOver K C bmB = true) (hh : cd.hasDict = true) (hf : takerIn K C f = some none)
    (hq : ∀ h' tk' dx, (∀ b o, b ≠ x → hp.get? b = some o → h'.get? b = some o) → hp.objs.size ≤ dx → dx ≠ x →
      h'.get? x = some { cls := .ref C, dict := some dx, data := .fields fv } → h'.Ns1 dx (fun y => if y = f then some v else none) → R (.ok (.ret .none)) ⟨h', g, d, tk', os⟩) :
    codeAny (model prog w) A (.call (.builtin "object.__setattr__") ⟨[.ref x, .str f tk, v], []⟩) R ⟨hp, g, d, t, os⟩ := by
  have hne : x ≠ hp.objs.size := fun e => absurd (Heap.lt_size hx) (by rw [← e]; exact Nat.lt_irrefl x)
  have LC : Looks (model prog w) hp (classData C) cd := looks_clsIn X hcd
  refine osa_openX (s := ⟨hp, g, d, t, os⟩) (od := none) SF X ⟨hx, rfl, rfl, trivial⟩ ho hf fun b => ?_
  obtain ⟨c1, c2, c3, c4, c5, c6, c7, c8, c9, c10, c11⟩ := cd
  dsimp only at hh; subst hh
  dsimp only
  unfold storeInOwnDict ownDictForStores
  repeat (first | with_reducible refine HandSPX.store_in_new ?_ ?_ | with_reducible refine wpAny_loadPart_at hx ?_ | with_reducible refine LC.at ?_ | wp_step)
  · exact ⟨_, #[], _, (Heap.get?_update_ne _ _ _ _ hne.symm).trans (Heap.get?_push_at rfl rfl), rfl, fun e he => absurd he (by simp), fun _ => rfl⟩
  · intro h' tk' n1 n2
    refine hq h' tk' hp.objs.size (fun b o q r => ?_) (Nat.le_refl _) hne.symm ?_ n1
    · exact (n2.2 b (Nat.ne_of_lt (Heap.lt_size r))).trans ((Heap.get?_update_ne _ _ _ _ q).trans (Heap.get?_push_of_some _ r))
    · exact (n2.2 x hne).trans (Heap.get?_update_self _ (Heap.get?_push_of_some _ hx) rfl)
end
/-- what is known of a built-in error class -/
structure Bs (B newId initId : String) (bmB : List Value) : Prop where
  fb : ExcBaseFacts B newId initId bmB
  sf : StoreFacts B bmB "object.__setattr__" "object"
theorem bsV : Bs "ValueError" "ValueError.__new__" "ValueError.__init__" [.type "ValueError", .type "Exception", .type "BaseException", .type "object"] := ⟨F.excBase_ValueError, F.store_ValueError⟩
theorem bsL : Bs "LookupError" "LookupError.__new__" "LookupError.__init__" [.type "LookupError", .type "Exception", .type "BaseException", .type "object"] := ⟨F.excBase_LookupError, F.store_LookupError⟩
theorem bsR : Bs "RuntimeError" "RuntimeError.__new__" "RuntimeError.__init__" [.type "RuntimeError", .type "Exception", .type "BaseException", .type "object"] := ⟨F.excBase_RuntimeError, F.store_RuntimeError⟩
theorem bsO : Bs "OverflowError" "OverflowError.__new__" "OverflowError.__init__" [.type "OverflowError", .type "ArithmeticError", .type "Exception", .type "BaseException", .type "object"] := ⟨F.excBase_OverflowError, F.store_OverflowError⟩
/-- an error class of the program, straight over a built-in one -/
structure Own (K : PySem.W.Frag) (newId : String) (bmB : List Value) (C : Addr) : Prop where
  cls : ∃ nm q N bs sn sub ab col dd k0 k1 k2 k3 k5, K.lookup C = some (excClassObj nm q C N bs bmB true sn sub ab col dd k0 k1 k2 k3 k5 newId)
  over : PySem.W.excOver K C bmB = true
  sa : PySem.W.findIn K (.ref C) "__setattr__" = some (some (.builtin "object.__setattr__"))
  ga : PySem.W.findIn K (.ref C) "__getattribute__" = some (some (.builtin "BaseException.__getattribute__"))
  gg : PySem.W.findIn K (.ref C) "__getattr__" = some none
  exC : PySem.W.subIn K (.ref C) (.type "BaseException") = some true
  tyC : PySem.W.typeIn K (.ref C) = some (.type "type")
  kC : PySem.W.keepIn K (.ref C) = true
  hdC : PySem.W.hasDictIn K C = true
  clC : PySem.W.findIn K (.ref C) "__class__" = some (some (.builtin "object.__class__"))
  mrO : PySem.W.mroIn K C (.type "object") = some true
theorem Own.data {K : PySem.W.Frag} {newId : String} {bmB : List Value} {C : Addr} (T : Own K newId bmB C) : ∃ cd, PySem.W.clsIn K C = some cd ∧ cd.hasDict = true := by
  obtain ⟨nm, q, N, bs, sn, sub, ab, col, dd, k0, k1, k2, k3, k5, e⟩ := T.cls
  refine ⟨{ name := nm, bases := bs, mro := .ref C :: bmB, ns := N, qualname := q, hasDict := true, slotNames := sn, subclasses := sub, abstract := ab, collection := col, hasDel := false }, ?_, rfl⟩
  unfold PySem.W.clsIn
  rw [e] <;> rfl
theorem taker_of {K : PySem.W.Frag} {C : Addr} {f : Str} (h : PySem.W.findIn K (.ref C) f = some none) : PySem.W.takerIn K C f = some none := by
  unfold PySem.W.takerIn
  rw [h]; rfl
section
variable {X : Cx} {pins : List (Addr × Obj)} {σ : L2.St} {H H1 H2 : Hp} {s : Shared} {a C dx : Addr} {f : Str} {newId initId B : String} {bmB : List Value}
/-- an object that stands in the heap, untracked and not of the entry, is tracked from now on -/
theorem adopt {o : HO} (I : Inv X pins σ H s) (hn : H a = none) (n0 : X.s_0.heap.get? a = none) (nL : a ≠ X.env.locals) (nC : ∀ x c, X.env.cells.lookup x = some c → c ≠ a) (nP : ∀ p ∈ X.pn ++ pins, p.1 ≠ a)
    (new : ObjOk X.prog X.w (upd H a o) s.heap a o) : Inv X pins σ (upd H a o) s := by
  have up : ∀ {b : Addr} {u : HO}, H b = some u → upd H a o b = some u := fun {b u} e => by rw [upd_ne (ne_of_none e hn)]; exact e
  refine ⟨I.ok, I.os, I.bare, ⟨I.base.keep, I.base.slot, fun b q e n x => ?_, I.base.there, fun b xs e => up (I.base.tups b xs e), fun b q u e => up (I.base.frzs b q u e), fun b ps e => ?_⟩, I.loc, I.cell, ?_, fun x c e => ?_, fun p hp => ?_, fun b u e => ?_, I.len⟩
  · rw [upd_ne (fun z => by rw [z, n0] at e; cases e)]
    exact I.base.free b q e n x
  · obtain ⟨m, z⟩ := I.base.tbls b ps e
    exact ⟨m, up z⟩
  · rw [upd_ne (Ne.symm nL)]; exact I.free
  · rw [upd_ne (nC x c e)]; exact I.freeC x c e
  · obtain ⟨e, n, r⟩ := I.pin p hp
    exact ⟨e, by rw [upd_ne (nP p hp)]; exact n, r⟩
  · by_cases hb : b = a
    · subst hb
      rw [upd_same] at e; cases e
      exact new
    · rw [upd_ne hb] at e
      exact (I.hok b u e).stay (fun _ _ _ z => z) (fun c z => up z) (fun c xs z => up z)
theorem low_ne {n : Nat} {b a : Addr} (h : b < n) (h' : n ≤ a) : b ≠ a := Nat.ne_of_lt (Nat.lt_of_lt_of_le h h')
theorem get_lt_size {h : Heap} {b : Addr} {o : Obj} (e : h.get? b = some o) : b < h.objs.size := Heap.lt_size e
/-- self.f = y -/
theorem ost_one {y : V} {u : Value} {Q : Unit → Shared → Prop} {E : Value → Shared → Prop} {A : Around} (T : Own X.K newId bmB C) (SF : StoreFacts B bmB "object.__setattr__" "object") (I : Inv X pins σ H s) (e : H a = some (exo a C none)) (hno : PySem.W.findIn X.K (.ref C) f = some none) (ry : RelV y u)
    (h : ∀ dx s', H dx = none → dx ≠ a → Inv X pins σ (upd (upd H a (exo a C (some dx))) dx (exd dx [(f, y)])) s' → Q () s') : wpAny (model X.prog X.w) A (setAttr (.ref a) f u) Q E s := by
  obtain ⟨cd, hcd, hh⟩ := T.data
  obtain ⟨t1, ho⟩ := exo_at I.hok e
  obtain ⟨hp, g, d, t, os⟩ := s
  refine PySem.W.set_plain I.kIn (ox := { cls := .ref C, dict := none, data := .fields #[.ref t1, .none, .none, .none, .bool false, .none] }) (od := none) ⟨ho, rfl, rfl, trivial⟩ T.sa ?_
  refine osa_first SF I.kIn ho hcd T.over hh (taker_of hno) fun h' tk' dx k dn dne hx hns => ?_
  have hnd : H dx = none := I.hok.fresh dn
  have J := I.write (t' := tk') (x := a) (e := a) (o := exo a C (some dx)) (by rw [e]; exact True.intro) (.inl rfl) k ⟨_, hx⟩ (exo_ok hx)
  refine h dx _ hnd dne (adopt J (by rw [upd_ne dne]; exact hnd) ?_ ?_ ?_ ?_ (exd_ok hns (relO_put (fs := []) ry fun _ => True.intro)))
  · cases z : X.s_0.heap.get? dx with
    | none => rfl
    | some o => exact absurd rfl (low_ne (Nat.lt_of_lt_of_le (Heap.lt_size z) I.sz) dn)
  · exact Ne.symm (low_ne I.lt dn)
  · intro x c ec
    obtain ⟨v, ob, eo, _⟩ := I.cell x c ec
    exact low_ne (Heap.lt_size eo) dn
  · intro p hp'
    exact low_ne (Heap.lt_size (I.pin p hp').1) dn
/-- B.__init__(self, ..) -/
theorem oinit_any {us : List Value} {Q : Value → Shared → Prop} {E : Value → Shared → Prop} {A : Around} (T : Own X.K newId bmB C) (F : ExcBaseFacts B newId initId bmB) (I : Inv X pins σ H s) (e : H a = some (exo a C none)) (hl : us.length ≤ sizeLine) (h : ∀ s', Inv X pins σ H s' → Q .none s') :
    wpAny (model X.prog X.w) A (call (.builtin initId) (.ref a :: us)) Q E s := by
  obtain ⟨nm, q, N, bs, sn, sub, ab, col, dd, k0, k1, k2, k3, k5, hC⟩ := T.cls
  obtain ⟨t1, ho⟩ := exo_at I.hok e
  obtain ⟨hp, g, d, t, os⟩ := s
  refine wpAny_call (HandSPX.init_base F (fun _ => rfl) (I.kIn _ _ hC) ho hl fun h' t2 k hx => ?_)
  have J := I.write (t' := t) (x := a) (e := a) (o := exo a C none) (by rw [e]; exact True.intro) (.inl rfl) k ⟨_, hx⟩ (exo_ok hx)
  have eu : upd H a (exo a C none) = H := by
    funext b
    unfold upd
    split
    · rename_i z; rw [z, e]
    · rfl
  rw [eu] at J
  exact h _ J
def tBi (K : PySem.W.Frag) (newId : String) (bmB : List Value) (ta : TA) : TE := fun σ H Q => ta σ H fun vs H1 => ∃ (a C : Addr) (ws : List V), vs = .ref a :: ws ∧ ws.length ≤ 1000 ∧ Own K newId bmB C ∧ H1 a = some (exo a C none) ∧ Q .non H1
def tOs (K : PySem.W.Frag) (newId : String) (bmB : List Value) (f : Str) (to te : TE) : TS := fun D σ H => te σ H fun y H1 => to σ H1 fun x H2 => ∃ a C : Addr, x = .ref a ∧ Own K newId bmB C ∧ PySem.W.findIn K (.ref C) f = some none ∧ H2 a = some (exo a C none) ∧
  ∀ dx, H2 dx = none → dx ≠ a → D.nx σ (upd (upd H2 a (exo a C (some dx))) dx (exd dx [(f, y)]))
theorem pe_binit {n : Str} {o e : Expr} {es : List Expr} {ta : TA} {p1 p2 pos : Pos} {pl : Sem Bool} (F : ExcBaseFacts B newId initId bmB) (hg : Gl X n) (hm : X.mg n = none) (hv : bootBuiltins n = some (.type B)) (hn : n ≠ "__name__") (hdb : (n == ("__debug__" : Str)) = false)
    (hty : typeOf (.type B) = pure (.type "type")) (hst : Manifest.isStub B = false) (hha : PySem.W.handedIn (.builtin initId) = true) (vV : PySem.W.findCls X.K (.type B) (.type "type") "__init__" = some (.val (.builtin initId))) (ha : PA X (e :: es) ta)
    (hc : eval (.Call (.Attribute (.Name n p1) "__init__" p2) (e :: es) [] pos) X.env = (do
      let ov ← eval (.Name n p1) X.env
      standAt p2.atName
      let (f, first) ← holding [ov] (getMethod ov "__init__" pl)
      callWith pos f first (backTo pos (starEach (e :: es) X.env)) (backToKw pos (keywordEach [] X.env))) := by rfl)
    (he : starEach (e :: es) X.env = (false, eval e X.env) :: starEach es X.env := by rfl) (hpl : (backTo pos (starEach es X.env)).any (·.1) = false := by rfl) :
    PE X (.Call (.Attribute (.Name n p1) "__init__" p2) (e :: es) [] pos) (tBi X.K newId bmB ta) := by
  refine ⟨fun pins s σ H Q I h => PySem.W.methodCall_KW (ld_blt I hg hm hv ?_ hn hdb) hc⟩
  obtain ⟨m, fr⟩ := I.fr
  refine PySem.W.method_type fr I.ok.mod.kin hty hst vV hha ?_
  show wpAny _ _ (callWith pos (Value.builtin initId) [] (backTo pos (starEach (e :: es) X.env)) []) _ _ _
  refine PyProof.Rows.callWith_method1 (thn (ha.run pos pins _ σ H _ (I.tok _) h) fun us s1 ⟨vs, H1, I1, r1, a, C, ws, ev, hl, T, ea, q⟩ => ?_) he hpl
  subst ev
  cases r1 with
  | @cons _ u0 _ ur ra rr =>
    obtain rfl : u0 = Value.ref a := ra
    exact oinit_any T F I1 ea (by rw [← Paired.length rr, sizeLine_eq]; omega) fun s' J => ⟨.non, H1, J, rfl, q⟩
theorem ps_os {o e : Expr} {to te : TE} {p' pos : Pos} (SF : StoreFacts B bmB "object.__setattr__" "object") (ho : PE X o to) (he : PE X e te) (hs : swapsWith e (some (.Attribute o f p')) pos.line X.env = pure false := by rfl) : PS X (.Assign [.Attribute o f p'] e pos) (tOs X.K newId bmB f to te) := by
  refine ⟨fun pins s σ H D I h => plainObj_wpAny_Assign_Attribute (thn (he.run pins s σ H _ I h) fun v s1 ⟨y, H1, I1, r1, q1⟩ => thn (ho.run pins s1 σ H1 _ I1 q1) fun u s2 ⟨x, H2, I2, r2, a, C, ex, T, hno, ea, q⟩ => ?_) hs⟩
  subst ex
  obtain rfl : u = Value.ref a := r2
  exact ost_one T SF I2 ea hno r1 fun dx s' n ne J => ⟨σ, _, J, q dx n ne⟩
/-- the new error is let go: the heap without it -/
theorem mk_gone {hp hp2 h2 : Heap} {g1 g2 : Array GenState} {d1 d2 : Drawn} {t1 t2 : Nat} {os1 os2 : OsState} {dv : Option Addr} (I1 : Inv X pins σ H1 ⟨hp, g1, d1, t1, os1⟩)
    (ha : hp.objs.size ≤ a) (k : ∀ b o, hp.get? b = some o → hp2.get? b = some o) (un : Un (frs X.stack) [] (upd H1 a (exo a C none)) H2 hp2 h2) (hok : HOk X.prog X.w H2 h2) (ho : os2 = os1) (hb : AllBare g2) (ea : H2 a = some (exo a C dv)) :
    ∃ (t0 : Addr) (G : Heap), Inv X pins σ (del H2 a) ⟨G, g2, d2, t2, os2⟩ ∧ (∀ b o, G.get? b = some o → h2.get? b = some o) ∧ G.get? a = none ∧
      h2.get? a = some ({ cls := .ref C, dict := dv, data := .fields #[.ref t0, .none, .none, .none, .bool false, .none] } : Obj) := by
  obtain ⟨t0, hoe⟩ := exo_at hok ea
  have hn : H1 a = none := I1.hok.fresh ha
  obtain ⟨G, g1', g2'⟩ := restrict h2 fun b => decide (b ≠ a)
  have gk : ∀ b, b ≠ a → G.get? b = h2.get? b := fun b q => g1' b (decide_eq_true q)
  have ga : G.get? a = none := g2' a (decide_eq_false (fun z => z rfl))
  have na : ∀ {b : Addr} {o : Obj}, hp.get? b = some o → b ≠ a := fun q => low_ne (Heap.lt_size q) ha
  have up : ∀ {b : Addr}, b ≠ a → H1 b = none → upd H1 a (exo a C none) b = none := fun q n => by rw [upd_ne q]; exact n
  have tr : ∀ {b : Addr} {u : HO}, H1 b = some u → upd H1 a (exo a C none) b = some u ∧ b ≠ a := fun q => ⟨by rw [upd_ne (ne_of_none q hn)]; exact q, ne_of_none q hn⟩
  have U : Un (frs X.stack) [] H1 (del H2 a) hp G := {
    keep := fun b o z n hf hx => by rw [gk b (na z)]; exact un.keep b o (k b o z) (up (na z) n) hf hx
    slot := fun b o z n hf hx => by rw [gk b (na z)]; exact un.slot b o (k b o z) (up (na z) n) hf hx
    free := fun b o z n hx => by rw [del_ne (na z)]; exact un.free b o (k b o z) (up (na z) n) hx
    there := fun b o z hx => by rw [gk b (na z)]; exact un.there b o (k b o z) hx
    tups := fun b xs z => by rw [del_ne (tr z).2]; exact un.tups b xs (tr z).1
    frzs := fun b o v z => by rw [del_ne (tr z).2]; exact un.frzs b o v (tr z).1
    tbls := fun b ps z => by rw [del_ne (tr z).2]; exact un.tbls b ps (tr z).1 }
  have hok3 : HOk X.prog X.w (del H2 a) G := fun b o z => by
    have hba : b ≠ a := fun e => by rw [e, del_same] at z; cases z
    rw [del_ne hba] at z
    have noa : ∀ {c : Addr}, H2 c = some (.own b) → c ≠ a := fun hc => at_ne ea hc exo_own
    refine (hok b o z).stay (fun c v hc y => ?_) (fun c hc => by rw [del_ne (noa hc)]; exact hc) (fun c xs hc => by rw [del_ne (at_ne ea hc exo_tup)]; exact hc)
    have hca : c ≠ a := hc.elim (fun q => by rw [q]; exact hba) noa
    rw [gk c hca]; exact y
  have J : Inv X pins σ (del H2 a) ⟨G, g2, d2, t2, os2⟩ := I1.call' (ch := []) ho U hok3 hb (fun b z => absurd z (by simp))
  refine ⟨t0, G, J, fun b o z => ?_, ga, hoe⟩
  by_cases hba : b = a
  · rw [hba, ga] at z; cases z
  · exact (gk b hba).symm.trans z
/-- C(e, ..), C's own __init__ keeping sp -/
def tMkE (C : Addr) (sp : Sp) (ta : TA) : L2.St → Hp → XK → Prop := fun σ H Q => ta σ H fun vs H1 => vs.length ≤ 1000 ∧ ∀ a, H1 a = none → sp (.ref a :: vs) (upd H1 a (exo a C none))
  (fun v H2 => v = .non ∧ ((H2 a = some (exo a C none) ∧ Q (.ref C) none (del H2 a)) ∨ ∃ (d : Addr) (fs : List (Str × V)), H2 a = some (exo a C (some d)) ∧ H2 d = some (exd d fs) ∧ Q (.ref C) (some d) (upd (del H2 a) d (.xd fs)))) (fun _ _ _ => False)
/-- what such a call leaves -/
theorem made_run {vs : List V} {us : List Value} {fI : Addr} {k : Nat} {fd : FuncData} {ps : List Str} {sp : Sp} {Q : XK} {CX : CXT} (T : Own X.K newId bmB C) (F : ExcBaseFacts B newId initId bmB) (iC : PySem.W.findIn X.K (.ref C) "__init__" = some (some (.ref fI))) (tI : PySem.W.typeIn X.K (.ref fI) = some (.type "function"))
    (F1 : FnOk X.prog X.w X.K X.mg X.base CX k fI fd ps sp) (hr : Room (k + 1) X.A) (hb : Binds X.K fd ps []) (hx : Passes CX X (fun _ _ _ => False)) (I1 : Inv X pins σ H1 s) (r1 : Vals vs us) (hz : vs.length ≤ 1000)
    (q1 : ∀ a, H1 a = none → sp (.ref a :: vs) (upd H1 a (exo a C none)) (fun v H2 => v = .non ∧ ((H2 a = some (exo a C none) ∧ Q (.ref C) none (del H2 a)) ∨ ∃ (d : Addr) (fs : List (Str × V)), H2 a = some (exo a C (some d)) ∧ H2 d = some (exd d fs) ∧ Q (.ref C) (some d) (upd (del H2 a) d (.xd fs)))) (fun _ _ _ => False)) :
    wpAny (model X.prog X.w) X.A (call (.ref C) us) (MkP X pins σ Q) X.xe s := by
  obtain ⟨nm, q, N, bs, sn, sub, ab, col, dd, k0, k1, k2, k3, k5, hC⟩ := T.cls
  obtain ⟨hp, g, dr, tk, os⟩ := s
  have hsz : hp.objs.size ≤ hp.objs.size + 1 := Nat.le_succ _
  have hq := q1 (hp.objs.size + 1) (I1.hok.fresh hsz)
  obtain ⟨hp2, ehp⟩ : ∃ hp2, hp2 = (hp.push (PySem.W.kdv_tup us)).push (HandSPX.excO C hp.objs.size) := ⟨_, rfl⟩
  have kk : ∀ b o, hp.get? b = some o → hp2.get? b = some o := fun b o e => by rw [ehp]; exact Heap.get?_push_of_some _ (Heap.get?_push_of_some _ e)
  have hget : hp2.get? (hp.objs.size + 1) = some (HandSPX.excO C hp.objs.size) := by rw [ehp]; heap_get
  have I2 : Inv X pins σ (upd H1 (hp.objs.size + 1) (exo (hp.objs.size + 1) C none)) ⟨hp2, g, dr, tk, os⟩ := I1.laid (t' := tk) kk hsz (exo_ok hget)
  have r2 : Vals (V.ref (hp.objs.size + 1) :: vs) (Value.ref (hp.objs.size + 1) :: us) := .cons rfl r1
  have hl : (Value.ref (hp.objs.size + 1) :: us ++ []).length = ps.length := by
    rw [List.append_nil, ← r2.length]; exact F1.len _ _ _ _ hq
  have hus : us.length ≤ sizeLine := by rw [← Paired.length r1, sizeLine_eq]; omega
  refine wpAny_call (HandSPX.call_own F (fun _ => rfl) (I1.kIn _ _ hC) (PySem.W.looks_findIn I1.kIn iC) (fun self => PySem.W.bind_fn I1.kIn self tI) hus ?_)
  rw [← ehp]
  refine codeAny_mono (F1.run _ X.stack _ _ ⟨Value.ref (hp.objs.size + 1) :: us, []⟩ (Value.ref (hp.objs.size + 1) :: us) _ _ (fun _ _ _ => False) (hr.make C us []) (I2.env0.make C us []) ?_ r2 hq) fun r s' hq' => ?_
  · have z := hb ⟨hp2, g, dr, tk, os⟩ (Value.ref (hp.objs.size + 1) :: us) I2.kIn hl
    rw [List.append_nil] at z; exact z
  cases r with
  | error er => exact hx pins σ _ _ er s' I2 hq'
  | ok fl =>
    cases fl with
    | ret u =>
      obtain ⟨v, H2, os2, bare2, un2, hok2, rv, ev, alt⟩ := hq'
      subst ev
      obtain ⟨h2, g2, d2, t2, os'⟩ := s'
      refine ⟨rv, ?_⟩
      rcases alt with ⟨ea, q2⟩ | ⟨d, fs, ea, ed, q2⟩
      · obtain ⟨t0, G, J, kG, ge, hoe⟩ := mk_gone (d2 := d2) (t2 := t2) I1 hsz kk un2 hok2 os2 bare2 ea
        exact ⟨_, _, _, ⟨G, g2, d2, t2, os'⟩, _, .ref C, none, rfl, J, kG, ge, hoe, ⟨rfl, rfl⟩, rfl, rfl, del_same, rfl, bare2, raises_own T.exC T.tyC, q2⟩
      · obtain ⟨t0, G, J, kG, ge, hoe⟩ := mk_gone (d2 := d2) (t2 := t2) I1 hsz kk un2 hok2 os2 bare2 ea
        have hda : d ≠ hp.objs.size + 1 := fun z => by
          rw [z] at ed
          obtain ⟨mA, ⟨ob, es, ep, e1, e2, _⟩, _⟩ := exd_at hok2 ed
          rw [hoe] at e1
          have z2 := Option.some.inj e1
          subst z2
          cases e2
        have ed' : del H2 (hp.objs.size + 1) d = some (exd d fs) := by rw [del_ne hda]; exact ed
        obtain ⟨mA, ns, rel⟩ := exd_at J.hok ed'
        have J2 := J.write (t' := t2) (h' := G) (x := d) (e := d) (o := .xd fs) (by rw [ed']; exact True.intro) (.inl rfl) (fun _ _ _ z => z) (by obtain ⟨ob, _, _, e1, _⟩ := ns; exact ⟨ob, e1⟩) ⟨mA, ns, rel⟩
        exact ⟨_, _, _, ⟨G, g2, d2, t2, os'⟩, _, .ref C, some d, rfl, J2, kG, ge, hoe, ⟨rfl, rfl⟩, rfl, rfl, by rw [upd_ne (Ne.symm hda)]; exact del_same, rfl, bare2, raises_own T.exC T.tyC, q2⟩
    | next => exact False.elim hq'
    | brk => exact False.elim hq'
    | cont => exact False.elim hq'
theorem pmk_e {x : Str} {fI : Addr} {k : Nat} {fd : FuncData} {ps : List Str} {sp : Sp} {CX : CXT} {e : Expr} {es : List Expr} {ta : TA} {p pos : Pos} (T : Own X.K newId bmB C) (F : ExcBaseFacts B newId initId bmB) (iC : PySem.W.findIn X.K (.ref C) "__init__" = some (some (.ref fI))) (tI : PySem.W.typeIn X.K (.ref fI) = some (.type "function"))
    (F1 : FnOk X.prog X.w X.K X.mg X.base CX k fI fd ps sp) (hr : Room (k + 1) X.A) (hb : Binds X.K fd ps []) (hx : Passes CX X (fun _ _ _ => False)) (hg : Gl X x) (hm : X.mg x = some (.ref C)) (ha : PA X (e :: es) ta)
    (hdb : (x == ("__debug__" : Str)) = false := by decide) (he : starEach (e :: es) X.env = (false, eval e X.env) :: starEach es X.env := by rfl) (hpl : (backTo pos (starEach es X.env)).any (·.1) = false := by rfl) :
    PMk X (.Call (.Name x p) (e :: es) [] pos) (tMkE C sp ta) := by
  intro pins s σ H Q I h
  refine wpAny_Call_Name_kw (ld_glob I hg hm ?_ hdb)
  exact PySem.W.callWith_K (h₀ := X.base) I.ok.mod.kin T.kC (thn (ha.run pos pins s σ H _ I h) fun us s1 ⟨vs, H1, I1, r1, hz, q1⟩ => ⟨I1.kIn, made_run T F iC tI F1 hr hb hx I1 r1 hz q1⟩) he hpl
end
end Pc
namespace Pc
open PySem PySem.Spec PyProof.Rows L2 RZ
/-! ### errors of the program: caught, kept, looked at -/
section
open PySem.W
variable {M : Model} {K : Frag} {h : Heap}
theorem Looks.bind' {α β : Type} {x : Sem α} {f : α → Sem β} {a : α} {b : β} (hx : Looks M h x a) (hf : Looks M h (f a) b) : Looks M h (x >>= f) b := fun A Q E s k q =>
  wpAny_bind (hx A _ E s k (hf A Q E s k q))
theorem loop_all {α β : Type} {f : α → β → Sem (ForInStep β)} {b : β} : ∀ cs : List α, (∀ c ∈ cs, Looks M h (f c b) (.yield b)) → Looks M h (forIn cs b f) b
  | [], _ => by rw [List.forIn_nil]; exact .now
  | c :: cs, hc => by
    rw [List.forIn_cons]
    exact Looks.bind' (hc c List.mem_cons_self) (loop_all cs fun c' h' => hc c' (List.mem_cons_of_mem _ h'))
theorem loop_any {α β : Type} {f : α → β → Sem (ForInStep β)} {b b1 : β} : ∀ (bs : List Bool) (cs : List α), bs.length = cs.length → bs.any id = true → (∀ (i : Nat) (c : α) (y : Bool), cs[i]? = some c → bs[i]? = some y → Looks M h (f c b) (if y = true then .done b1 else .yield b)) → Looks M h (forIn cs b f) b1
  | [], [], _, e, _ => absurd e (by decide)
  | y :: bs, c :: cs, hl, e, hc => by
    rw [List.forIn_cons]
    have h0 := hc 0 c y rfl rfl
    cases y with
    | true => exact Looks.bind' h0 .now
    | false => exact Looks.bind' h0 (loop_any bs cs (Nat.succ.inj hl) e fun i c' y' h1 h2 => hc (i + 1) c' y' h1 h2)
/-- an except clause with several classes, of which one is the error's -/
theorem exm_some {cls : Value} {cs : List Value} {tp e : Addr} {o : Obj} {n : Nat} (X : K.In h) (LT : Looks M h (typeOf (.ref e)) cls) (hp : h.get? tp = some o) (hc : o.cls = .type "tuple") (hd : o.data = .seq cs.toArray n) (bs : List Bool) (hl : bs.length = cs.length) (hb : bs.any id = true)
    (hx : ∀ (i : Nat) (c : Value) (y : Bool), cs[i]? = some c → bs[i]? = some y → exmOne K cls c = some y) : Looks M h (excMatches (.ref e) (.ref tp)) true := by
  have at_ : ∀ c ∈ cs, ∃ y, exmOne K cls c = some y := fun c hm => by
    obtain ⟨i, hi, rfl⟩ := List.getElem_of_mem hm
    exact ⟨bs[i]'(by omega), hx i _ _ (List.getElem?_eq_getElem hi) (List.getElem?_eq_getElem _)⟩
  have L0 : Looks M h (isInstance (.ref tp) (.type "tuple")) true := fun A Q E s k q => by
    refine wpAny_bind (wpAny_typeOf_ref (k _ _ hp) ?_)
    rw [hc]
    exact (Looks.of_pure isSubtype_tuple_tuple) A Q E s k q
  unfold excMatches
  refine Looks.bind' L0 ?_
  dsimp only
  rw [if_pos rfl]
  refine Looks.bind' (a := some cs.toArray) (fun A Q E s k q => wpAny_seqItems (k _ _ hp) hd q) ?_
  refine Looks.bind' (a := cs) .now ?_
  refine Looks.bind' (a := PUnit.unit) (loop_all cs fun c hm => ?_) ?_
  · obtain ⟨y, hy⟩ := at_ c hm
    refine Looks.bind' (exm_cls X hy).1 ?_
    exact .now
  refine Looks.bind' LT ?_
  refine Looks.bind' (loop_any (b1 := (some true, ())) bs cs hl hb fun i c y h1 h2 => Looks.bind' (exm_cls X (hx i c y h1 h2)).2 ?_) ?_
  · cases y <;> exact .now
  · exact .now
end
end Pc
namespace Pc
open PySem PySem.Spec PyProof.Rows L2 RZ
/-- an error that was caught and is kept: its class, its dict -/
def exk (a : Addr) (cls : Value) (d : Option Addr) : HO := .ext fun h => ∃ (oe : Obj) (vs : Array Value), h.get? a = some oe ∧ Zc cls d oe ∧ oe.data = .fields vs
theorem exk_ok {P : Program} {w : World} {H : Hp} {h : Heap} {a : Addr} {cls : Value} {d : Option Addr} {oe : Obj} {vs : Array Value} (e : h.get? a = some oe) (z : Zc cls d oe) (q : oe.data = .fields vs) : ObjOk P w H h a (exk a cls d) :=
  ⟨⟨oe, vs, e, z, q⟩, ⟨oe, e⟩, fun _ _ ⟨o, v, r, r'⟩ k => ⟨o, v, k o r, r'⟩⟩
theorem exk_at {P : Program} {w : World} {H : Hp} {h : Heap} {a : Addr} {cls : Value} {d : Option Addr} (hok : HOk P w H h) (e : H a = some (exk a cls d)) : ∃ (oe : Obj) (vs : Array Value), h.get? a = some oe ∧ Zc cls d oe ∧ oe.data = .fields vs := by
  have x : ObjOk P w H h a (.ext fun h => ∃ (oe : Obj) (vs : Array Value), h.get? a = some oe ∧ Zc cls d oe ∧ oe.data = .fields vs) := hok a _ e
  exact x.1
theorem fly_keeps {B h h' : Heap} {l : List PySem.Env} {e : Addr} {Z : Obj → Prop} (R : HandSPX.FlyingZ B l e Z h) (k : ∀ b o, h.get? b = some o → h'.get? b = some o) : HandSPX.FlyingZ B l e Z h' := by
  obtain ⟨f1, f2, f3, oe, ws, T, oT, ts, r1, r2, r3, r4, r5, r6, r7, r8⟩ := R
  exact ⟨fun b o q => k b o (f1 b o q), f2, f3.of_keeps fun b o q _ => ⟨o, k b o q, rfl⟩, oe, ws, T, oT, ts, k _ _ r1, r2, r3, r4, r5, r6, k _ _ r7, r8⟩
/-- names of classes, one by one -/
def NamesAll (X : Cx) (es : List Expr) (cs : List Value) : Prop := Paired (fun (e : Expr) c => ∃ (x : Str) (p : Pos), e = .Name x p ∧ Names X x c) es cs
theorem names_run {X : Cx} {pins : List (Addr × Obj)} {σ : L2.St} {H : Hp} {s : Shared} {E : Value → Shared → Prop} {pos : Pos} (I : Inv X pins σ H s) :
    ∀ {es : List Expr} {cs : List Value} {Q : List Value → Shared → Prop}, NamesAll X es cs → Q cs s → wpAny (model X.prog X.w) X.A (spliced (backTo pos (starEach es X.env))) Q E s
  | _, _, _, .nil, q => wpAny_items_nil q
  | _, _, _, .cons ⟨x, p, rfl, hg, hdb, hm⟩ r, q => by
    refine wpAny_items_cons ?_
    rcases hm with hm | ⟨hm, hv, hn⟩
    · exact ld_glob I hg hm (names_run I r q) hdb
    · exact ld_blt I hg hm hv (names_run I r q) hn hdb
/-- of which classes the error is -/
def Hits (K : PySem.W.Frag) (cls : Value) (cs : List Value) : Prop := ∃ bs : List Bool, bs.length = cs.length ∧ bs.any id = true ∧ ∀ (i : Nat) (c : Value) (y : Bool), cs[i]? = some c → bs[i]? = some y → PySem.W.exmOne K cls c = some y
/-- what 'except (..) as n: suite' wishes of an error of the body (slot i is n's): the error is kept -/
def wKept (K : PySem.W.Frag) (cs : List Value) (i : Nat) (ts : Addr → TS) (D : Ends) : WX := fun cls d σ H => Hits K cls cs ∧ ∀ a, H a = none →
  ts a { nx := fun σ' H' => D.nx (σ'.set i none) (upd H' a (exk a cls d)), rt := fun _ _ => False } (σ.set i (some (.ref a))) H
section
variable {X : Cx} {n : Str} {i : Nat} {body suite : List Stmt} {b₀ : Stmt} {es : List Expr} {cs : List Value} {kk : Nat} {tpos pos pos' : Pos} {tb : WX → TS} {ts : Addr → TS}
theorem ps_try_kept (hex : X.ex = []) (hs : X.stack = X.env :: X.outer) (hf : X.env.frame = some X.env.locals) (hN : X.N.Nodup) (hi : X.N[i]? = some n) (hln : X.env.kindOf n = some .local) (hc : NamesAll X es cs) (hcl : cs.length ≤ 1000)
    (hb : ∀ (W : WX) (pn : List (Addr × Obj)) (xe : Value → Shared → Prop), Takes (X.tr pn xe) W → PassesOwn (model X.prog X.w) X.A X.env xe → PSs (X.tr pn xe) body (tb W))
    (hsu : ∀ (a : Addr) (oe : Obj) (pn : List (Addr × Obj)), PSs (X.suite a ((a, oe) :: pn)) (b₀ :: suite) (ts a)) :
    PS X (.Try body [.ExceptHandler (some (.Tuple es kk tpos)) (some n) (b₀ :: suite) pos'] [] [] pos) (fun D σ H => tb (wKept X.K cs i ts D) D σ H) := by
  refine ⟨fun pins s σ H D I h => ?_⟩
  have ok := I.ok
  have hfr : X.A.frames = some (X.env :: X.outer) := by rw [ok.frames, hs]
  refine wpAny_Try_except (wpAny_mono ((hb (wKept X.K cs i ts D) (X.pn ++ pins) (fun e s₁ => wpAny (model X.prog X.w) X.A (noteFrame e X.env) (fun _ s₂ => wpAny (model X.prog X.w) X.A (setFlight e none) (fun _ s₃ =>
    wpAny (model X.prog X.w) X.A (handleBy e X.env [.ExceptHandler (some (.Tuple es kk tpos)) (some n) (b₀ :: suite) pos']) (SP X pins D) X.xe s₃) X.xe s₂) X.xe s₁) (fun u s' xx => ?_) PassesOwn.looking).run [] s σ H D (I.toTry _) h) (fun f s1 hsp => ?_) (fun e s1 he => he))
  · obtain ⟨a, B, sI, pins', σ', H', cls, d, rfl, J', nb, up, sky, na, os, ag, ⟨bs, hbl, hba, hbx⟩, hyes⟩ := xx
    have J : Inv X pins σ' H' sI := J'.ofTry ok
    rw [hs] at sky
    show wpAny (model X.prog X.w) X.A (noteFrame (.ref a) X.env) _ _ _
    refine Sky.land Zc.steady hfr hf sky fun h3 fl3 up3 => ?_
    obtain ⟨oe3, vs3, he3, hz3, hd3⟩ := fl3.there
    have nfr : a ∉ frs (X.env :: X.outer) := fun hm => by
      obtain ⟨_, o', e', hnf⟩ := fl3.2.2.1.mem hm
      rw [he3] at e'; cases e'
      exact hnf _ hd3
    have nL : a ≠ X.env.locals := fun z => nfr (List.mem_filterMap.mpr ⟨X.env, List.mem_cons_self, by rw [hf, z]⟩)
    have nF : a ∉ X.fs := fun hm => by
      obtain ⟨e, he, q⟩ := List.mem_filterMap.mp hm
      exact nfr (List.mem_filterMap.mpr ⟨e, List.mem_cons_of_mem _ he, q⟩)
    have nI : sI.heap.get? a = none := by
      cases z : sI.heap.get? a with
      | none => rfl
      | some o =>
        have y := nb a o z (by rw [hs]; exact nfr)
        rw [fl3.2.1] at y; cases y
    have J3 : Inv X pins σ' H' { s' with heap := h3 } := J.landed nb fl3.1 (up.trans up3) os ag
    have S3 := J3.suite he3 hd3 na nL nF
    refine wpAny_handleBy_cons (codeAny_handlers_test (wpAny_Tuple_spliced (names_run (X := X.suite a ((a, oe3) :: (X.pn ++ pins))) (cs := cs) S3 (L2.Paired.mapP hc fun _ _ z => z) ⟨by rw [sizeLine_eq]; omega, ?_⟩))) (by intro q; cases q)
    dsimp only
    have kp : ∀ b o, h3.get? b = some o → (h3.push { cls := .type "tuple", data := .seq cs.toArray }).get? b = some o := fun _ _ z => Heap.get?_push_of_some _ z
    have LT : PySem.W.Looks (model X.prog X.w) (h3.push { cls := .type "tuple", data := .seq cs.toArray }) (typeOf (.ref a)) cls := fun A Q E s k q => wpAny_typeOf_ref (k _ _ (kp _ _ he3)) (by rw [hz3.1]; exact q)
    refine (exm_some (J3.kIn.keeps kp) LT (Heap.get?_push_size h3 rfl) rfl rfl bs hbl hba hbx).here ?_
    refine codeAny_handlers_suite_as (HandSPX.lands_againZ (fly_keeps fl3 kp) fun h4 fl4 up4 => ?_)
    have J4 : Inv X pins σ' H' { s' with heap := h4 } := J.landed nb fl4.1 (((up.trans up3).trans (Heap.UpToSlots.of_keeps kp)).trans up4) os ag
    obtain ⟨oe4, vs4, he4, hz4, hd4⟩ := fl4.there
    have S4 := J4.suite he4 hd4 na nL nF
    refine store_ok (X := X.suite a ((a, oe4) :: (X.pn ++ pins))) (v := .ref a) S4 hN hi (.inl hln) rfl (fun s5 S5 => ?_) (.inr hln)
    refine wpAny_mono ((hsu a oe4 (X.pn ++ pins)).run [] s5 _ H' _ S5 (hyes a na)) (fun f s6 hsp => ?_) (fun _ _ z => False.elim z)
    cases f with
    | next =>
      obtain ⟨σ6, H6, S6, q6⟩ := hsp
      refine gone_ok (X := X.suite a ((a, oe4) :: (X.pn ++ pins))) S6 hN hi hln fun s7 S7 => ⟨_, _, adopt (S7.unsuite ok) ?_ ?_ nL ?_ ?_ ?_, q6⟩
      · exact (S7.pin (a, oe4) (List.mem_append_left _ List.mem_cons_self)).2.1
      · cases z : X.s_0.heap.get? a with
        | none => rfl
        | some o =>
          obtain ⟨o', y⟩ := J.base.there a o z (by rw [hex]; exact fun q => nomatch q)
          rw [nI] at y; cases y
      · intro x c ec z
        obtain ⟨v, ob, eo, _⟩ := J.cell x c ec
        rw [z, nI] at eo; cases eo
      · intro p hp z
        have y := (J.pin p hp).1
        rw [z, nI] at y; cases y
      · exact exk_ok (S7.pin (a, oe4) (List.mem_append_left _ List.mem_cons_self)).1 hz4 hd4
    | brk => obtain ⟨σ6, H6, S6, q6⟩ := hsp; exact q6.elim
    | cont => obtain ⟨σ6, H6, S6, q6⟩ := hsp; exact q6.elim
    | ret u => obtain ⟨v6, σ6, H6, S6, r6, q6⟩ := hsp; exact q6.elim
  · cases f with
    | next => obtain ⟨σ', H', J', q⟩ := hsp; exact wpAny_execs_nil ⟨σ', H', J'.ofTry ok, q⟩
    | brk => obtain ⟨σ', H', J', q⟩ := hsp; exact ⟨σ', H', J'.ofTry ok, q⟩
    | cont => obtain ⟨σ', H', J', q⟩ := hsp; exact ⟨σ', H', J'.ofTry ok, q⟩
    | ret u => obtain ⟨v, σ', H', J', r, q⟩ := hsp; exact ⟨v, σ', H', J'.ofTry ok, r, q⟩
end
end Pc
namespace Pc
open PySem PySem.Spec PyProof.Rows L2 RZ
/-- what isinstance asks of the class of a kept error -/
structure KeptC (K : PySem.W.Frag) (C : Addr) : Prop where
  ga : PySem.W.findIn K (.ref C) "__getattribute__" = some (some (.builtin "BaseException.__getattribute__"))
  gg : PySem.W.findIn K (.ref C) "__getattr__" = some none
  exC : PySem.W.subIn K (.ref C) (.type "BaseException") = some true
  hdC : PySem.W.hasDictIn K C = true
  clC : PySem.W.findIn K (.ref C) "__class__" = some (some (.builtin "object.__class__"))
  mrO : PySem.W.mroIn K C (.type "object") = some true
  sp : PySem.W.specialIn K (.builtin "object.__class__") "__get__" = some (some (.builtin "getset_descriptor.__get__"))
  tk : PySem.W.takesIn K (.builtin "object.__class__") = some true
/-- a kept error with its dict -/
def Kept (H : Hp) (a C : Addr) (d : Option Addr) : Prop := H a = some (exk a (.ref C) d) ∧ (d = none ∨ ∃ dd fs, d = some dd ∧ H dd = some (.xd fs))
section
variable {X : Cx} {pins : List (Addr × Obj)} {σ : L2.St} {H : Hp} {s : Shared} {a C : Addr} {d : Option Addr}
theorem kept_inst (I : Inv X pins σ H s) (h : Kept H a C d) : ∃ (oe : Obj) (od : Option Obj), PySem.W.InstAt s.heap a oe C od := by
  obtain ⟨e, hd⟩ := h
  obtain ⟨oe, vs, ho, hz, hv⟩ := exk_at I.hok e
  have nc : PySem.W.notCls oe = true := by unfold PySem.W.notCls; rw [hv] <;> rfl
  rcases hd with rfl | ⟨dd, fs, rfl, ed⟩
  · exact ⟨oe, none, ho, hz.1, nc, by rw [hz.2]; trivial⟩
  · obtain ⟨mA, ⟨od, es, ep, q, _⟩, _⟩ := (show ObjOk X.prog X.w H s.heap dd (.xd fs) from I.hok dd _ ed)
    exact ⟨oe, some od, ho, hz.1, nc, by rw [hz.2]; exact q⟩
theorem kept_kit (T : KeptC X.K C) {oe : Obj} {od : Option Obj} : PySem.W.KitX X.K (.ref a) (.ref C) (fun h => PySem.W.InstAt h a oe C od) :=
  PySem.W.kitx_exc (by obtain ⟨cd, hc, _⟩ := PySem.W.any_some T.hdC; rw [hc]; rfl) T.ga T.gg T.exC T.clC T.sp T.tk T.mrO
/-- isinstance(e, c), e a kept error -/
def rIsk (K : PySem.W.Frag) : List V → Hp → VK → Prop := fun xs H Q => ∃ (a C : Addr) (d : Option Addr) (c : V) (u : Value) (b : Bool), xs = [.ref a, c] ∧ Kept H a C d ∧ KeptC K C ∧ ClsV c u ∧ PySem.W.kitOne K (.ref C) u = some b ∧ Q (.bl b) H
theorem call_isk : CallR X (.builtin "isinstance") (rIsk X.K) := by
  intro pins s σ H xs us Q I r h
  obtain ⟨a, C, d, c, u, b, rfl, hk, T, k, e, q⟩ := h
  obtain ⟨u1, u2, rfl, r1, r2⟩ := vals2 r
  cases (show u1 = Value.ref a from r1)
  have e2 := k.eq r2
  subst e2
  obtain ⟨oe, od, J⟩ := kept_inst I hk
  exact PySem.W.kia_one (kept_kit T) I.kIn J e (fun z => nomatch z) fun tk => ⟨.bl b, H, I.tok tk, rfl, q⟩
/-- isinstance(e, (c, ..)) -/
def rIskT (K : PySem.W.Frag) : List V → Hp → VK → Prop := fun xs H Q => ∃ (a C : Addr) (d : Option Addr) (tp : Addr) (cs : List V) (us : List Value) (b : Bool), xs = [.ref a, .ref tp] ∧ Kept H a C d ∧ KeptC K C ∧ H tp = some (.tup cs) ∧ Paired ClsV cs us ∧ PySem.W.kitAny K (.ref C) us = some b ∧ Q (.bl b) H
theorem call_iskT : CallR X (.builtin "isinstance") (rIskT X.K) := by
  intro pins s σ H xs us Q I r h
  obtain ⟨a, C, d, tp, cs, ws, b, rfl, hk, T, hT, k, e, q⟩ := h
  obtain ⟨u1, u2, rfl, r1, r2⟩ := vals2 r
  cases (show u1 = Value.ref a from r1)
  cases (show u2 = Value.ref tp from r2)
  obtain ⟨oe, od, J⟩ := kept_inst I hk
  obtain ⟨_, its, rv, o, h1, h2, n, h3⟩ := (show ObjOk X.prog X.w H s.heap tp (.tup cs) from I.hok tp _ hT)
  have e3 := ClsV.all k rv
  subst e3
  obtain ⟨oc, od', dt, sl⟩ := o
  simp only at h2 h3
  subst h2 h3
  exact PySem.W.kia_tup (kept_kit T) I.kIn J h1 e (fun z => nomatch z) fun tk => ⟨.bl b, H, I.tok tk, rfl, q⟩
/-- e.f, e a kept error -/
def tKf (K : PySem.W.Frag) (f : Str) (te : TE) : TE := fun σ H Q => te σ H fun x H1 => ∃ (a C dd : Addr) (fs : List (Str × V)) (v : V), x = .ref a ∧ H1 a = some (exk a (.ref C) (some dd)) ∧ KeptC K C ∧ PySem.W.findIn K (.ref C) f = some none ∧ H1 dd = some (.xd fs) ∧ fs.lookup f = some v ∧ Q v H1
theorem pe_kf {e : Expr} {te : TE} {f : Str} {pos : Pos} (he : PE X e te) (hb : attributeBase e f X.env (eval e X.env) = eval e X.env := by rfl) : PE X (.Attribute e f pos) (tKf X.K f te) := by
  refine ⟨fun pins s σ H Q I h => attr_of hb (thn (he.run pins s σ H _ I h) fun u s1 hh => ?_)⟩
  obtain ⟨x, H1, I1, rx, a, C, dd, fs, v, ex, ea, T, hno, ed, l, q⟩ := hh
  subst ex
  obtain rfl : u = Value.ref a := rx
  obtain ⟨oe, vs, ho, hz, hv⟩ := exk_at I1.hok ea
  obtain ⟨mA, hns, hr⟩ := (show ObjOk X.prog X.w H1 s1.heap dd (.xd fs) from I1.hok dd _ ed)
  obtain ⟨od, hod, hl⟩ := lookIn_ns hns
  obtain ⟨w', hw, rw'⟩ := RelO.some_of (v := v) (o := mA f) (by rw [← l]; exact hr f)
  have J : PySem.W.InstAt s1.heap a oe C (some od) := ⟨ho, hz.1, by unfold PySem.W.notCls; rw [hv] <;> rfl, by rw [hz.2]; exact hod⟩
  exact HandSPX.exc_get I1.kIn J T.ga T.gg T.exC (PySem.W.findObj_own T.hdC hno rfl (by rw [hl, hw])) (handed_of rw') ⟨v, H1, I1.tok _, rw', q⟩
end
end Pc
namespace Pc
open PySem PySem.Spec PyProof.Rows L2 RZ
/-! ### errors with one field: made, flying -/
/-- an error of the class at C with the field f flies, from the heap H on -/
def Flies (C : Addr) (f : Str) (v : V) (H : Hp) (E : XK) : Prop := ∀ d H', Same H H' → H d = none → H' d = some (.xd [(f, v)]) → E (.ref C) (some d) H'
theorem Flies.same {C : Addr} {f : Str} {v : V} {H H1 : Hp} {E : XK} (h : Flies C f v H E) (s : Same H H1) : Flies C f v H1 E := fun d H' s' n e => h d H' (s.trans s') (s.free n) e
def spInit1 (C : Addr) (f : Str) : Sp := fun vs H Q _ => ∃ (a : Addr) (v : V), vs = [.ref a, v] ∧ H a = some (exo a C none) ∧ ∀ dx, H dx = none → dx ≠ a → Q .non (upd (upd H a (exo a C (some dx))) dx (exd dx [(f, v)]))
theorem raised1 {C : Addr} {f : Str} {v : V} {H1 : Hp} {Q : XK} (h : Flies C f v H1 Q) : [v].length ≤ 1000 ∧ ∀ a, H1 a = none → spInit1 C f (.ref a :: [v]) (upd H1 a (exo a C none))
    (fun v' H2 => v' = .non ∧ ((H2 a = some (exo a C none) ∧ Q (.ref C) none (del H2 a)) ∨ ∃ (d : Addr) (fs : List (Str × V)), H2 a = some (exo a C (some d)) ∧ H2 d = some (exd d fs) ∧ Q (.ref C) (some d) (upd (del H2 a) d (.xd fs)))) (fun _ _ _ => False) := by
  refine ⟨(by show 1 ≤ 1000; decide), fun a na => ⟨a, v, rfl, upd_same, fun dx nd ne => ⟨rfl, .inr ⟨dx, [(f, v)], ?_, upd_same, h dx _ ?_ ?_ upd_same⟩⟩⟩⟩
  · rw [upd_ne (Ne.symm ne), upd_same]
  · intro b o hb
    have nd' : H1 dx = none := by rw [upd_ne ne] at nd; exact nd
    have hbd := ne_of_none hb nd'
    have hba := ne_of_none hb na
    rw [upd_ne hbd, del_ne hba, upd_ne hbd, upd_ne hba, upd_ne hba]
    exact hb
  · rw [upd_ne ne] at nd; exact nd
/-- the try's wish of such an error -/
theorem kept1 {K : PySem.W.Frag} {C : Addr} {f : Str} {v : V} {cs : List Value} {i : Nat} {ts : Addr → TS} {D : Ends} {σ : L2.St} {H : Hp} (hh : Hits K (.ref C) cs)
    (h : ∀ d H' a, Same H H' → H d = none → H' d = some (.xd [(f, v)]) → H' a = none → a ≠ d → ts a { nx := fun σ' H'' => D.nx (σ'.set i none) (upd H'' a (exk a (.ref C) (some d))), rt := fun _ _ => False } (σ.set i (some (.ref a))) H') :
    Flies C f v H (fun cls d H' => wKept K cs i ts D cls d σ H') := fun d H' s n e => ⟨hh, fun a na => h d H' a s n e na (fun z => by rw [z, e] at na; cases na)⟩
theorem Kept.mk1 {H' : Hp} {a d C : Addr} {fs : List (Str × V)} (e : H' d = some (.xd fs)) (n : H' a = none) : Kept (upd H' a (exk a (.ref C) (some d))) a C (some d) :=
  ⟨upd_same, .inr ⟨d, fs, rfl, by rw [upd_ne (ne_of_none e n)]; exact e⟩⟩
theorem Kept.same {H H' : Hp} {a C : Addr} {d : Option Addr} (h : Kept H a C d) (s : Same H H') : Kept H' a C d :=
  ⟨s _ _ h.1, h.2.imp id fun ⟨dd, fs, e, z⟩ => ⟨dd, fs, e, s _ _ z⟩⟩
theorem over_of {K : PySem.W.Frag} {C : Addr} {bmB : List Value} {newId : String} {nm q : Str} {N : Addr} {bs : List Value} {sn : List Str} {sub : List Value} {ab : Bool} {col : Option Bool} {dd : Option Addr} {k0 k1 k2 k3 k5 : Option Value}
    (h : K.lookup C = some (excClassObj nm q C N bs bmB true sn sub ab col dd k0 k1 k2 k3 k5 newId)) (ht : PySem.W.excTail bmB bmB = true) : PySem.W.excOver K C bmB = true := by
  have e : PySem.W.clsIn K C = some { name := nm, bases := bs, mro := .ref C :: bmB, ns := N, qualname := q, hasDict := true, slotNames := sn, subclasses := sub, abstract := ab, collection := col, hasDel := false } := by
    unfold PySem.W.clsIn
    rw [h] <;> rfl
  unfold PySem.W.excOver
  rw [e]
  show ((C == C) && PySem.W.excTail bmB bmB) = true
  rw [ht, beq_self_eq_true]; rfl
theorem kcls_of {K : PySem.W.Frag} {t : Value} {D : Addr} {b : Bool} (h2 : PySem.W.isClsIn K D = true) (h3 : PySem.W.typeIn K (.ref D) = some (.type "type")) (h4 : PySem.W.subIn K t (.ref D) = some b) : PySem.W.kitCls K t (.ref D) = some b := by
  have e2 : ((PySem.W.clsIn K D).isSome && PySem.W.typeIn K (.ref D) == some (.type "type")) = true := by
    have h2' : (PySem.W.clsIn K D).isSome = true := h2
    rw [h2', h3] <;> rfl
  show (if ((PySem.W.clsIn K D).isSome && PySem.W.typeIn K (.ref D) == some (.type "type")) = true then PySem.W.subIn K t (.ref D) else none) = some b
  rw [if_pos e2]
  exact h4
theorem exm_of' {K : PySem.W.Frag} {t : Value} {D : Addr} {b : Bool} (h1 : PySem.W.subIn K (.ref D) (.type "BaseException") = some true) (h2 : PySem.W.isClsIn K D = true) (h3 : PySem.W.typeIn K (.ref D) = some (.type "type")) (h4 : PySem.W.subIn K t (.ref D) = some b) : PySem.W.exmOne K t (.ref D) = some b := by
  have e1 : (PySem.W.subIn K (.ref D) (.type "BaseException") == some true) = true := by rw [h1] <;> rfl
  show (if (PySem.W.subIn K (.ref D) (.type "BaseException") == some true) = true then PySem.W.kitCls K t (.ref D) else none) = some b
  rw [if_pos e1]
  exact kcls_of h2 h3 h4
theorem kit_own {K : PySem.W.Frag} {C D : Addr} {b : Bool} (h0 : PySem.W.subIn K (.ref C) (.ref C) = some true) (h2 : PySem.W.isClsIn K D = true) (h3 : PySem.W.typeIn K (.ref D) = some (.type "type")) (h4 : PySem.W.subIn K (.ref C) (.ref D) = some b) : PySem.W.kitOne K (.ref C) (.ref D) = some b := by
  by_cases e : C = D
  · subst e
    rw [h0] at h4
    rw [← h4]
    show (if ((Value.ref C) == (Value.ref C)) = true then some true else _) = some true
    rw [if_pos (beq_self_eq_true _)]
  · have n : ((Value.ref C) == (Value.ref D)) = false := beq_false_of_ne (fun z => e (Value.ref.inj z))
    show (if ((Value.ref C) == (Value.ref D)) = true then some true else PySem.W.kitCls K (.ref C) (.ref D)) = some b
    rw [if_neg (by rw [n]; exact Bool.false_ne_true)]
    exact kcls_of h2 h3 h4
theorem kit_blt {K : PySem.W.Frag} {C : Addr} {T : String} {b : Bool} (hm : PySem.W.kitMeta T = true) (h4 : PySem.W.subIn K (.ref C) (.type T) = some b) : PySem.W.kitOne K (.ref C) (.type T) = some b := by
  have n : ((Value.ref C) == (Value.type T)) = false := beq_false_of_ne (fun z => nomatch z)
  show (if ((Value.ref C) == (Value.type T)) = true then some true else (if PySem.W.kitMeta T = true then PySem.W.subIn K (.ref C) (.type T) else none)) = some b
  rw [if_neg (by rw [n]; exact Bool.false_ne_true), if_pos hm]
  exact h4
theorem kit_all {K : PySem.W.Frag} {t : Value} : ∀ {us : List Value}, (∀ u ∈ us, PySem.W.kitOne K t u = some false) → PySem.W.kitAny K t us = some false
  | [], _ => rfl
  | u :: us, h => by
    show (match PySem.W.kitOne K t u with | some true => some true | some false => PySem.W.kitAny K t us | none => none) = some false
    rw [h u List.mem_cons_self]
    exact kit_all fun x hx => h x (List.mem_cons_of_mem _ hx)
end Pc
namespace Pc
open PySem PySem.Spec PyProof.Rows L2 RZ
theorem kit_nil {K : PySem.W.Frag} {t : Value} : PySem.W.kitAny K t [] = some false := rfl
theorem kit_cons {K : PySem.W.Frag} {t u : Value} {us : List Value} (h : PySem.W.kitOne K t u = some false) (r : PySem.W.kitAny K t us = some false) : PySem.W.kitAny K t (u :: us) = some false := by
  show (match PySem.W.kitOne K t u with | some true => some true | some false => PySem.W.kitAny K t us | none => none) = some false
  rw [h]
  exact r
theorem hits_of {K : PySem.W.Frag} {cls : Value} {cs : List Value} (bs : List Bool) (hb : bs.any id = true) (h : Paired (fun c b => PySem.W.exmOne K cls c = some b) cs bs) : Hits K cls cs :=
  ⟨bs, h.length.symm, hb, fun i c y hc hy => by
    obtain ⟨y', e, z⟩ := paired_get h hc
    rw [hy] at e; cases e
    exact z⟩
end Pc
namespace Pc
open PySem PySem.Spec PyProof.Rows L2 RZ
/-- two promises of one def -/
theorem FnOk.or {P : Program} {w : World} {K : PySem.W.Frag} {mg : Str → Option Value} {base : Heap} {CX : CXT} {k : Nat} {f : Addr} {fd : FuncData} {ps : List Str} {sp sp' : Sp} (F : FnOk P w K mg base CX k f fd ps sp) (G : FnOk P w K mg base CX k f fd ps sp') :
    FnOk P w K mg base CX k f fd ps (fun vs H Q E => sp vs H Q E ∨ sp' vs H Q E) where
  len vs H Q E h := h.elim (F.len vs H Q E) (G.len vs H Q E)
  run A outer s H args us vs Q E hr e0 hb r h := h.elim (F.run A outer s H args us vs Q E hr e0 hb r) (G.run A outer s H args us vs Q E hr e0 hb r)
end Pc
namespace Pc
open PySem PySem.Spec PyProof.Rows L2 RZ
def topS (i : Nat) : Stmt := PySem.Challenge.pw_partnercall_k98_people_who_are_not_there.main.body.getD i (.Pass ⟨0, 0, 0, 0⟩)
abbrev s_p_check_person : Stmt := topS 12
abbrev N_p_check_person : List Str := ["size", "person"]
theorem sc_p_check_person : FnScope ["size", "person"] ["size", "person"] (defScope s_p_check_person) := ⟨rfl, rfl, rfl, by decide +kernel, rfl, by decide +kernel, by decide +kernel⟩
abbrev s_p_check_call : Stmt := topS 13
abbrev N_p_check_call : List Str := ["size", "call", "person"]
theorem sc_p_check_call : FnScope ["size", "call", "person"] ["size", "call"] (defScope s_p_check_call) := ⟨rfl, rfl, rfl, by decide +kernel, rfl, by decide +kernel, by decide +kernel⟩
abbrev s_p_check_word : Stmt := topS 14
abbrev N_p_check_word : List Str := ["size", "word", "call"]
theorem sc_p_check_word : FnScope ["size", "word", "call"] ["size", "word"] (defScope s_p_check_word) := ⟨rfl, rfl, rfl, by decide +kernel, rfl, by decide +kernel, by decide +kernel⟩
abbrev s_p_join_two : Stmt := topS 15
abbrev N_p_join_two : List Str := ["joined", "a", "b", "left", "right"]
theorem sc_p_join_two : FnScope ["joined", "a", "b", "left", "right"] ["joined", "a", "b"] (defScope s_p_join_two) := ⟨rfl, rfl, rfl, by decide +kernel, rfl, by decide +kernel, by decide +kernel⟩
abbrev s_p_called : Stmt := topS 16
abbrev N_p_called : List Str := ["pairing", "call"]
theorem sc_p_called : FnScope ["pairing", "call"] ["pairing", "call"] (defScope s_p_called) := ⟨rfl, rfl, rfl, by decide +kernel, rfl, by decide +kernel, by decide +kernel⟩
abbrev s_p_called_all : Stmt := topS 17
abbrev N_p_called_all : List Str := ["pairing", "word", "partners", "a", "b"]
theorem sc_p_called_all : FnScope ["pairing", "word", "partners", "a", "b"] ["pairing", "word"] (defScope s_p_called_all) := ⟨rfl, rfl, rfl, by decide +kernel, rfl, by decide +kernel, by decide +kernel⟩
abbrev s_p_pairings_along : Stmt := topS 18
abbrev N_p_pairings_along : List Str := ["pairing", "word", "partners", "along", "a", "b"]
theorem sc_p_pairings_along : FnScope ["pairing", "word", "partners", "along", "a", "b"] ["pairing", "word"] (defScope s_p_pairings_along) := ⟨rfl, rfl, rfl, by decide +kernel, rfl, by decide +kernel, by decide +kernel⟩
abbrev s_p_idle_calls : Stmt := topS 19
abbrev N_p_idle_calls : List Str := ["pairing", "word", "partners", "idle", "at", "a", "b"]
theorem sc_p_idle_calls : FnScope ["pairing", "word", "partners", "idle", "at", "a", "b"] ["pairing", "word"] (defScope s_p_idle_calls) := ⟨rfl, rfl, rfl, by decide +kernel, rfl, by decide +kernel, by decide +kernel⟩
abbrev s_p_people_of : Stmt := topS 21
abbrev N_p_people_of : List Str := ["sheet"]
theorem sc_p_people_of : FnScope ["sheet"] ["sheet"] (defScope s_p_people_of) := ⟨rfl, rfl, rfl, by decide +kernel, rfl, by decide +kernel, by decide +kernel⟩
abbrev s_p_check_sizes : Stmt := topS 22
abbrev N_p_check_sizes : List Str := ["first", "second"]
theorem sc_p_check_sizes : FnScope ["first", "second"] ["first", "second"] (defScope s_p_check_sizes) := ⟨rfl, rfl, rfl, by decide +kernel, rfl, by decide +kernel, by decide +kernel⟩
abbrev s_p_empty_sheet : Stmt := topS 23
abbrev N_p_empty_sheet : List Str := ["size"]
theorem sc_p_empty_sheet : FnScope ["size"] ["size"] (defScope s_p_empty_sheet) := ⟨rfl, rfl, rfl, by decide +kernel, rfl, by decide +kernel, by decide +kernel⟩
abbrev s_p_with_word : Stmt := topS 24
abbrev N_p_with_word : List Str := ["sheet", "word", "size", "ends", "a", "b"]
theorem sc_p_with_word : FnScope ["sheet", "word", "size", "ends", "a", "b"] ["sheet", "word"] (defScope s_p_with_word) := ⟨rfl, rfl, rfl, by decide +kernel, rfl, by decide +kernel, by decide +kernel⟩
abbrev s_p_sheet_of : Stmt := topS 25
abbrev N_p_sheet_of : List Str := ["size", "word"]
theorem sc_p_sheet_of : FnScope ["size", "word"] ["size", "word"] (defScope s_p_sheet_of) := ⟨rfl, rfl, rfl, by decide +kernel, rfl, by decide +kernel, by decide +kernel⟩
abbrev s_p_with_call : Stmt := topS 26
abbrev N_p_with_call : List Str := ["sheet", "call"]
theorem sc_p_with_call : FnScope ["sheet", "call"] ["sheet", "call"] (defScope s_p_with_call) := ⟨rfl, rfl, rfl, by decide +kernel, rfl, by decide +kernel, by decide +kernel⟩
abbrev s_p_far_end : Stmt := topS 27
abbrev N_p_far_end : List Str := ["one", "other", "start", "size", "inside_one", "end"]
theorem sc_p_far_end : FnScope ["one", "other", "start", "size", "inside_one", "end"] ["one", "other", "start"] (defScope s_p_far_end) := ⟨rfl, rfl, rfl, by decide +kernel, rfl, by decide +kernel, by decide +kernel⟩
abbrev s_p_followed : Stmt := topS 28
abbrev N_p_followed : List Str := ["one", "other", "start"]
theorem sc_p_followed : FnScope ["one", "other", "start"] ["one", "other"] (defScope s_p_followed) := ⟨rfl, rfl, rfl, by decide +kernel, rfl, by decide +kernel, by decide +kernel⟩
abbrev s_p_times : Stmt := topS 29
abbrev N_p_times : List Str := ["sheet", "many", "done", "power", "left"]
theorem sc_p_times : FnScope ["sheet", "many", "done", "power", "left"] ["sheet", "many"] (defScope s_p_times) := ⟨rfl, rfl, rfl, by decide +kernel, rfl, by decide +kernel, by decide +kernel⟩
abbrev s_p_followed_path : Stmt := topS 31
abbrev N_p_followed_path : List Str := ["sheet", "pairing", "person", "size", "ends", "partner"]
theorem sc_p_followed_path : FnScope ["sheet", "pairing", "person", "size", "ends", "partner"] ["sheet", "pairing", "person"] (defScope s_p_followed_path) := ⟨rfl, rfl, rfl, by decide +kernel, rfl, by decide +kernel, by decide +kernel⟩
abbrev s_p_result : Stmt := topS 32
abbrev N_p_result : List Str := ["sheet", "pairing", "size", "person"]
theorem sc_p_result : FnScope ["sheet", "pairing", "size", "person"] ["sheet", "pairing"] (defScope s_p_result) := ⟨rfl, rfl, rfl, by decide +kernel, rfl, by decide +kernel, by decide +kernel⟩
abbrev s_p_path : Stmt := topS 33
abbrev N_p_path : List Str := ["sheet", "pairing", "person"]
theorem sc_p_path : FnScope ["sheet", "pairing", "person"] ["sheet", "pairing", "person"] (defScope s_p_path) := ⟨rfl, rfl, rfl, by decide +kernel, rfl, by decide +kernel, by decide +kernel⟩
abbrev s_p_shows_path : Stmt := topS 34
abbrev N_p_shows_path : List Str := ["sheet", "pairing", "person", "value", "ends", "end"]
theorem sc_p_shows_path : FnScope ["sheet", "pairing", "person", "value", "ends", "end"] ["sheet", "pairing", "person", "value"] (defScope s_p_shows_path) := ⟨rfl, rfl, rfl, by decide +kernel, rfl, by decide +kernel, by decide +kernel⟩
abbrev s_p_couples_on : Stmt := topS 35
abbrev N_p_couples_on : List Str := ["sheet", "pairing", "person", "ends", "steps", "at", "x", "y"]
theorem sc_p_couples_on : FnScope ["sheet", "pairing", "person", "ends", "steps", "at", "x", "y"] ["sheet", "pairing", "person"] (defScope s_p_couples_on) := ⟨rfl, rfl, rfl, by decide +kernel, rfl, by decide +kernel, by decide +kernel⟩
abbrev s_p_cycle_from : Stmt := topS 40
abbrev N_p_cycle_from : List Str := ["one", "other", "person", "people", "following"]
theorem sc_p_cycle_from : FnScope ["one", "other", "person", "people", "following"] ["one", "other", "person"] (defScope s_p_cycle_from) := ⟨rfl, rfl, rfl, by decide +kernel, rfl, by decide +kernel, by decide +kernel⟩
abbrev s_p_cycles : Stmt := topS 41
abbrev N_p_cycles : List Str := ["one", "other", "found", "seen", "person", "cycle", "member"]
theorem sc_p_cycles : FnScope ["one", "other", "found", "seen", "person", "cycle", "member"] ["one", "other"] (defScope s_p_cycles) := ⟨rfl, rfl, rfl, by decide +kernel, rfl, by decide +kernel, by decide +kernel⟩
abbrev s_p_distance : Stmt := topS 42
abbrev N_p_distance : List Str := ["one", "other"]
theorem sc_p_distance : FnScope ["one", "other"] ["one", "other"] (defScope s_p_distance) := ⟨rfl, rfl, rfl, by decide +kernel, rfl, by decide +kernel, by decide +kernel⟩
abbrev s_p_word_number : Stmt := topS 48
abbrev N_p_word_number : List Str := ["one", "other", "word", "fewest", "present", "number", "a", "b", "choices", "call", "many"]
theorem sc_p_word_number : FnScope ["one", "other", "word", "fewest", "present", "number", "a", "b", "choices", "call", "many"] ["one", "other", "word"] (defScope s_p_word_number) := ⟨rfl, rfl, rfl, by decide +kernel, rfl, by decide +kernel, by decide +kernel⟩
abbrev s_p_word_renumbered : Stmt := topS 50
abbrev N_p_word_renumbered : List Str := ["word", "numbers", "a", "b"]
theorem sc_p_word_renumbered : FnScope ["word", "numbers", "a", "b"] ["word", "numbers"] (defScope s_p_word_renumbered) := ⟨rfl, rfl, rfl, by decide +kernel, rfl, by decide +kernel, by decide +kernel⟩
abbrev s_p_without : Stmt := topS 52
abbrev N_p_without : List Str := ["pairing", "person", "others", "x"]
theorem sc_p_without : FnScope ["pairing", "person", "others", "x"] ["pairing", "person"] (defScope s_p_without) := ⟨rfl, rfl, rfl, by decide +kernel, rfl, by decide +kernel, by decide +kernel⟩
abbrev s_p_repeated : Stmt := topS 54
abbrev N_p_repeated : List Str := ["pairing", "word", "many"]
theorem sc_p_repeated : FnScope ["pairing", "word", "many"] ["pairing", "word", "many"] (defScope s_p_repeated) := ⟨rfl, rfl, rfl, by decide +kernel, rfl, by decide +kernel, by decide +kernel⟩
abbrev s_p_sheet_settles : Stmt := topS 58
abbrev N_p_sheet_settles : List Str := ["size", "word", "sheet", "period", "around", "present", "begin"]
theorem sc_p_sheet_settles : FnScope ["size", "word", "sheet", "period", "around", "present", "begin"] ["size", "word"] (defScope s_p_sheet_settles) := ⟨rfl, rfl, rfl, by decide +kernel, rfl, by decide +kernel, by decide +kernel⟩
abbrev s_p_settles : Stmt := topS 59
abbrev N_p_settles : List Str := ["pairing", "word", "sheet", "period", "around", "present", "begin", "divisor"]
theorem sc_p_settles : FnScope ["pairing", "word", "sheet", "period", "around", "present", "begin", "divisor"] ["pairing", "word"] (defScope s_p_settles) := ⟨rfl, rfl, rfl, by decide +kernel, rfl, by decide +kernel, by decide +kernel⟩
abbrev s_p_first_time : Stmt := topS 60
abbrev N_p_first_time : List Str := ["pairing", "word", "person", "partner", "size", "sheet", "present", "many"]
theorem sc_p_first_time : FnScope ["pairing", "word", "person", "partner", "size", "sheet", "present", "many"] ["pairing", "word", "person", "partner"] (defScope s_p_first_time) := ⟨rfl, rfl, rfl, by decide +kernel, rfl, by decide +kernel, by decide +kernel⟩
abbrev s_p_partners_of : Stmt := topS 67
abbrev N_p_partners_of : List Str := ["sheet", "person", "size", "people", "partner"]
theorem sc_p_partners_of : FnScope ["sheet", "person", "size", "people", "partner"] ["sheet", "person"] (defScope s_p_partners_of) := ⟨rfl, rfl, rfl, by decide +kernel, rfl, by decide +kernel, by decide +kernel⟩
abbrev s_stream : Stmt := topS 69
abbrev N_stream : List Str := ["_law_script", "_law_k", "_law_cell"]
theorem sc_stream : FnScope ["_law_script", "_law_k", "_law_cell"] ["_law_script", "_law_k"] (defScope s_stream) := ⟨rfl, rfl, rfl, by decide +kernel, rfl, by decide +kernel, by decide +kernel⟩
abbrev s_draw : Stmt := topS 70
abbrev N_draw : List Str := ["_law_source", "_law_bound", "_law_found", "_law_once", "_law_twice"]
theorem sc_draw : FnScope ["_law_source", "_law_bound", "_law_found", "_law_once", "_law_twice"] ["_law_source", "_law_bound"] (defScope s_draw) := ⟨rfl, rfl, rfl, by decide +kernel, rfl, by decide +kernel, by decide +kernel⟩
abbrev s_folded : Stmt := topS 71
abbrev N_folded : List Str := ["_law_script", "_law_most", "_law_cells", "_law_k", "_law_cell"]
theorem sc_folded : FnScope ["_law_script", "_law_most", "_law_cells", "_law_k", "_law_cell"] ["_law_script", "_law_most"] (defScope s_folded) := ⟨rfl, rfl, rfl, by decide +kernel, rfl, by decide +kernel, by decide +kernel⟩
abbrev s_same : Stmt := topS 72
abbrev N_same : List Str := ["_law_found", "_law_due", "_law_mine", "_law_its"]
theorem sc_same : FnScope ["_law_found", "_law_due", "_law_mine", "_law_its"] ["_law_found", "_law_due"] (defScope s_same) := ⟨rfl, rfl, rfl, by decide +kernel, rfl, by decide +kernel, by decide +kernel⟩
abbrev s_shuffled : Stmt := topS 73
abbrev N_shuffled : List Str := ["_law_source", "_law_some", "_law_left", "_law_found"]
theorem sc_shuffled : FnScope ["_law_source", "_law_some", "_law_left", "_law_found"] ["_law_source", "_law_some"] (defScope s_shuffled) := ⟨rfl, rfl, rfl, by decide +kernel, rfl, by decide +kernel, by decide +kernel⟩
abbrev s_random_pairing : Stmt := topS 74
abbrev N_random_pairing : List Str := ["_law_source", "_law_crowd", "_law_row", "_law_found", "_law_at"]
theorem sc_random_pairing : FnScope ["_law_source", "_law_crowd", "_law_row", "_law_found", "_law_at"] ["_law_source", "_law_crowd"] (defScope s_random_pairing) := ⟨rfl, rfl, rfl, by decide +kernel, rfl, by decide +kernel, by decide +kernel⟩
abbrev s_person : Stmt := topS 75
abbrev N_person : List Str := ["_law_door", "_law_start", "_law_page", "_law_odd"]
theorem sc_person : FnScope ["_law_door", "_law_start", "_law_page", "_law_odd"] ["_law_door", "_law_start", "_law_page", "_law_odd"] (defScope s_person) := ⟨rfl, rfl, rfl, by decide +kernel, rfl, by decide +kernel, by decide +kernel⟩
abbrev s_by_word : Stmt := topS 76
abbrev N_by_word : List Str := ["_law_door", "_law_start", "_law_page", "_law_row"]
theorem sc_by_word : FnScope ["_law_door", "_law_start", "_law_page", "_law_row"] ["_law_door", "_law_start", "_law_page", "_law_row"] (defScope s_by_word) := ⟨rfl, rfl, rfl, by decide +kernel, rfl, by decide +kernel, by decide +kernel⟩
abbrev s_hall : Stmt := topS 77
abbrev N_hall : List Str := ["_law_door", "_law_hall_here", "_law_odd", "_law_row"]
theorem sc_hall : FnScope ["_law_door", "_law_hall_here", "_law_odd", "_law_row"] ["_law_door", "_law_hall_here", "_law_odd", "_law_row"] (defScope s_hall) := ⟨rfl, rfl, rfl, by decide +kernel, rfl, by decide +kernel, by decide +kernel⟩
abbrev s_refused : Stmt := topS 78
abbrev N_refused : List Str := ["_law_kind", "_law_door", "_law_start", "_law_thing", "_law_odd", "_law_row", "_law_caught", "error"]
theorem sc_refused : FnScope ["_law_kind", "_law_door", "_law_start", "_law_thing", "_law_odd", "_law_row", "_law_caught", "error"] ["_law_kind", "_law_door", "_law_start", "_law_thing", "_law_odd", "_law_row"] (defScope s_refused) := ⟨rfl, rfl, rfl, by decide +kernel, rfl, by decide +kernel, by decide +kernel⟩
abbrev s_right : Stmt := topS 79
abbrev N_right : List Str := ["_law_source", "_law_crowd", "_law_start", "_law_page", "_law_odd", "_law_row", "_law_more", "_law_hall_here", "_law_found", "_law_door"]
theorem sc_right : FnScope ["_law_source", "_law_crowd", "_law_start", "_law_page", "_law_odd", "_law_row", "_law_more", "_law_hall_here", "_law_found", "_law_door"] ["_law_source"] (defScope s_right) := ⟨rfl, rfl, rfl, by decide +kernel, rfl, by decide +kernel, by decide +kernel⟩
abbrev s_law : Stmt := topS 80
abbrev N_law : List Str := ["_law_script", "_law_cells", "_law_k", "_law_source", "_law_turn"]
theorem sc_law : FnScope ["_law_script", "_law_cells", "_law_k", "_law_source", "_law_turn"] ["_law_script"] (defScope s_law) := ⟨rfl, rfl, rfl, by decide +kernel, rfl, by decide +kernel, by decide +kernel⟩
abbrev s_i_NoPerson : Stmt := inClass (topS 2) 0
abbrev N_i_NoPerson : List Str := ["self", "person"]
theorem sc_i_NoPerson : FnScope ["self", "person"] ["self", "person"] (defScope s_i_NoPerson) := ⟨rfl, rfl, rfl, by decide +kernel, rfl, by decide +kernel, by decide +kernel⟩
abbrev s_m_Hall_init : Stmt := inClass (topS 65) 0
abbrev N_m_Hall_init : List Str := ["self", "pairing"]
theorem sc_m_Hall_init : FnScope ["self", "pairing"] ["self", "pairing"] (defScope s_m_Hall_init) := ⟨rfl, rfl, rfl, by decide +kernel, rfl, by decide +kernel, by decide +kernel⟩
abbrev s_m_Hall_pairing : Stmt := inClass (topS 65) 12
abbrev N_m_Hall_pairing : List Str := ["self"]
theorem sc_m_Hall_pairing : FnScope ["self"] ["self"] (defScope s_m_Hall_pairing) := ⟨rfl, rfl, rfl, by decide +kernel, rfl, by decide +kernel, by decide +kernel⟩
abbrev s_m_Hall_deeds : Stmt := inClass (topS 65) 17
abbrev N_m_Hall_deeds : List Str := ["self"]
theorem sc_m_Hall_deeds : FnScope ["self"] ["self"] (defScope s_m_Hall_deeds) := ⟨rfl, rfl, rfl, by decide +kernel, rfl, by decide +kernel, by decide +kernel⟩
abbrev s_m_Hall_keep : Stmt := inClass (topS 65) 1
abbrev N_m_Hall_keep : List Str := ["self", "after", "added"]
theorem sc_m_Hall_keep : FnScope ["self", "after", "added"] ["self", "after", "added"] (defScope s_m_Hall_keep) := ⟨rfl, rfl, rfl, by decide +kernel, rfl, by decide +kernel, by decide +kernel⟩
abbrev s_m_Hall_call : Stmt := inClass (topS 65) 2
abbrev N_m_Hall_call : List Str := ["self", "a", "b", "before"]
theorem sc_m_Hall_call : FnScope ["self", "a", "b", "before"] ["self", "a", "b"] (defScope s_m_Hall_call) := ⟨rfl, rfl, rfl, by decide +kernel, rfl, by decide +kernel, by decide +kernel⟩
abbrev s_m_Hall_run : Stmt := inClass (topS 65) 3
abbrev N_m_Hall_run : List Str := ["self", "word", "before", "idle", "a", "b"]
theorem sc_m_Hall_run : FnScope ["self", "word", "before", "idle", "a", "b"] ["self", "word"] (defScope s_m_Hall_run) := ⟨rfl, rfl, rfl, by decide +kernel, rfl, by decide +kernel, by decide +kernel⟩
abbrev s_m_Hall_repeat : Stmt := inClass (topS 65) 4
abbrev N_m_Hall_repeat : List Str := ["self", "word", "many", "before", "after", "x"]
theorem sc_m_Hall_repeat : FnScope ["self", "word", "many", "before", "after", "x"] ["self", "word", "many"] (defScope s_m_Hall_repeat) := ⟨rfl, rfl, rfl, by decide +kernel, rfl, by decide +kernel, by decide +kernel⟩
abbrev s_m_Hall_leave : Stmt := inClass (topS 65) 7
abbrev N_m_Hall_leave : List Str := ["self", "person", "before"]
theorem sc_m_Hall_leave : FnScope ["self", "person", "before"] ["self", "person"] (defScope s_m_Hall_leave) := ⟨rfl, rfl, rfl, by decide +kernel, rfl, by decide +kernel, by decide +kernel⟩
/-- what the top has left: the built-ins' names are free, each def stands at its name -/
structure Env (K : PySem.W.Frag) (mg : Str → Option Value) where
  n_isinstance : mg "isinstance" = none
  n_int : mg "int" = none
  n_bool : mg "bool" = none
  n_len : mg "len" = none
  n_list : mg "list" = none
  n_tuple : mg "tuple" = none
  n_enumerate : mg "enumerate" = none
  n_range : mg "range" = none
  n_all : mg "all" = none
  n_min : mg "min" = none
  n_max : mg "max" = none
  n_set : mg "set" = none
  n_str : mg "str" = none
  n_abs : mg "abs" = none
  n_zip : mg "zip" = none
  n_LookupError : mg "LookupError" = none
  f_p_check_person : Addr
  d_p_check_person : FuncData
  F_p_check_person : Fun K "check_person" "check_person" s_p_check_person f_p_check_person d_p_check_person
  g_p_check_person : mg "check_person" = some (.ref f_p_check_person)
  f_p_check_call : Addr
  d_p_check_call : FuncData
  F_p_check_call : Fun K "check_call" "check_call" s_p_check_call f_p_check_call d_p_check_call
  g_p_check_call : mg "check_call" = some (.ref f_p_check_call)
  f_p_check_word : Addr
  d_p_check_word : FuncData
  F_p_check_word : Fun K "check_word" "check_word" s_p_check_word f_p_check_word d_p_check_word
  g_p_check_word : mg "check_word" = some (.ref f_p_check_word)
  f_p_join_two : Addr
  d_p_join_two : FuncData
  F_p_join_two : Fun K "join_two" "join_two" s_p_join_two f_p_join_two d_p_join_two
  g_p_join_two : mg "join_two" = some (.ref f_p_join_two)
  f_p_called : Addr
  d_p_called : FuncData
  F_p_called : Fun K "called" "called" s_p_called f_p_called d_p_called
  g_p_called : mg "called" = some (.ref f_p_called)
  f_p_called_all : Addr
  d_p_called_all : FuncData
  F_p_called_all : Fun K "called_all" "called_all" s_p_called_all f_p_called_all d_p_called_all
  g_p_called_all : mg "called_all" = some (.ref f_p_called_all)
  f_p_pairings_along : Addr
  d_p_pairings_along : FuncData
  F_p_pairings_along : Fun K "pairings_along" "pairings_along" s_p_pairings_along f_p_pairings_along d_p_pairings_along
  g_p_pairings_along : mg "pairings_along" = some (.ref f_p_pairings_along)
  f_p_idle_calls : Addr
  d_p_idle_calls : FuncData
  F_p_idle_calls : Fun K "idle_calls" "idle_calls" s_p_idle_calls f_p_idle_calls d_p_idle_calls
  g_p_idle_calls : mg "idle_calls" = some (.ref f_p_idle_calls)
  f_p_people_of : Addr
  d_p_people_of : FuncData
  F_p_people_of : Fun K "people_of" "people_of" s_p_people_of f_p_people_of d_p_people_of
  g_p_people_of : mg "people_of" = some (.ref f_p_people_of)
  f_p_check_sizes : Addr
  d_p_check_sizes : FuncData
  F_p_check_sizes : Fun K "check_sizes" "check_sizes" s_p_check_sizes f_p_check_sizes d_p_check_sizes
  g_p_check_sizes : mg "check_sizes" = some (.ref f_p_check_sizes)
  f_p_empty_sheet : Addr
  d_p_empty_sheet : FuncData
  F_p_empty_sheet : Fun K "empty_sheet" "empty_sheet" s_p_empty_sheet f_p_empty_sheet d_p_empty_sheet
  g_p_empty_sheet : mg "empty_sheet" = some (.ref f_p_empty_sheet)
  f_p_with_word : Addr
  d_p_with_word : FuncData
  F_p_with_word : Fun K "with_word" "with_word" s_p_with_word f_p_with_word d_p_with_word
  g_p_with_word : mg "with_word" = some (.ref f_p_with_word)
  f_p_sheet_of : Addr
  d_p_sheet_of : FuncData
  F_p_sheet_of : Fun K "sheet_of" "sheet_of" s_p_sheet_of f_p_sheet_of d_p_sheet_of
  g_p_sheet_of : mg "sheet_of" = some (.ref f_p_sheet_of)
  f_p_with_call : Addr
  d_p_with_call : FuncData
  F_p_with_call : Fun K "with_call" "with_call" s_p_with_call f_p_with_call d_p_with_call
  g_p_with_call : mg "with_call" = some (.ref f_p_with_call)
  f_p_far_end : Addr
  d_p_far_end : FuncData
  F_p_far_end : Fun K "far_end" "far_end" s_p_far_end f_p_far_end d_p_far_end
  g_p_far_end : mg "far_end" = some (.ref f_p_far_end)
  f_p_followed : Addr
  d_p_followed : FuncData
  F_p_followed : Fun K "followed" "followed" s_p_followed f_p_followed d_p_followed
  g_p_followed : mg "followed" = some (.ref f_p_followed)
  f_p_times : Addr
  d_p_times : FuncData
  F_p_times : Fun K "times" "times" s_p_times f_p_times d_p_times
  g_p_times : mg "times" = some (.ref f_p_times)
  f_p_followed_path : Addr
  d_p_followed_path : FuncData
  F_p_followed_path : Fun K "followed_path" "followed_path" s_p_followed_path f_p_followed_path d_p_followed_path
  g_p_followed_path : mg "followed_path" = some (.ref f_p_followed_path)
  f_p_result : Addr
  d_p_result : FuncData
  F_p_result : Fun K "result" "result" s_p_result f_p_result d_p_result
  g_p_result : mg "result" = some (.ref f_p_result)
  f_p_path : Addr
  d_p_path : FuncData
  F_p_path : Fun K "path" "path" s_p_path f_p_path d_p_path
  g_p_path : mg "path" = some (.ref f_p_path)
  f_p_shows_path : Addr
  d_p_shows_path : FuncData
  F_p_shows_path : Fun K "shows_path" "shows_path" s_p_shows_path f_p_shows_path d_p_shows_path
  g_p_shows_path : mg "shows_path" = some (.ref f_p_shows_path)
  f_p_couples_on : Addr
  d_p_couples_on : FuncData
  F_p_couples_on : Fun K "couples_on" "couples_on" s_p_couples_on f_p_couples_on d_p_couples_on
  g_p_couples_on : mg "couples_on" = some (.ref f_p_couples_on)
  f_p_cycle_from : Addr
  d_p_cycle_from : FuncData
  F_p_cycle_from : Fun K "cycle_from" "cycle_from" s_p_cycle_from f_p_cycle_from d_p_cycle_from
  g_p_cycle_from : mg "cycle_from" = some (.ref f_p_cycle_from)
  f_p_cycles : Addr
  d_p_cycles : FuncData
  F_p_cycles : Fun K "cycles" "cycles" s_p_cycles f_p_cycles d_p_cycles
  g_p_cycles : mg "cycles" = some (.ref f_p_cycles)
  f_p_distance : Addr
  d_p_distance : FuncData
  F_p_distance : Fun K "distance" "distance" s_p_distance f_p_distance d_p_distance
  g_p_distance : mg "distance" = some (.ref f_p_distance)
  f_p_word_number : Addr
  d_p_word_number : FuncData
  F_p_word_number : Fun K "word_number" "word_number" s_p_word_number f_p_word_number d_p_word_number
  g_p_word_number : mg "word_number" = some (.ref f_p_word_number)
  f_p_word_renumbered : Addr
  d_p_word_renumbered : FuncData
  F_p_word_renumbered : Fun K "word_renumbered" "word_renumbered" s_p_word_renumbered f_p_word_renumbered d_p_word_renumbered
  g_p_word_renumbered : mg "word_renumbered" = some (.ref f_p_word_renumbered)
  f_p_without : Addr
  d_p_without : FuncData
  F_p_without : Fun K "without" "without" s_p_without f_p_without d_p_without
  g_p_without : mg "without" = some (.ref f_p_without)
  f_p_repeated : Addr
  d_p_repeated : FuncData
  F_p_repeated : Fun K "repeated" "repeated" s_p_repeated f_p_repeated d_p_repeated
  g_p_repeated : mg "repeated" = some (.ref f_p_repeated)
  f_p_sheet_settles : Addr
  d_p_sheet_settles : FuncData
  F_p_sheet_settles : Fun K "sheet_settles" "sheet_settles" s_p_sheet_settles f_p_sheet_settles d_p_sheet_settles
  g_p_sheet_settles : mg "sheet_settles" = some (.ref f_p_sheet_settles)
  f_p_settles : Addr
  d_p_settles : FuncData
  F_p_settles : Fun K "settles" "settles" s_p_settles f_p_settles d_p_settles
  g_p_settles : mg "settles" = some (.ref f_p_settles)
  f_p_first_time : Addr
  d_p_first_time : FuncData
  F_p_first_time : Fun K "first_time" "first_time" s_p_first_time f_p_first_time d_p_first_time
  g_p_first_time : mg "first_time" = some (.ref f_p_first_time)
  f_p_partners_of : Addr
  d_p_partners_of : FuncData
  F_p_partners_of : Fun K "partners_of" "partners_of" s_p_partners_of f_p_partners_of d_p_partners_of
  g_p_partners_of : mg "partners_of" = some (.ref f_p_partners_of)
  f_stream : Addr
  d_stream : FuncData
  F_stream : Fun K "_law_stream" "_law_stream" s_stream f_stream d_stream
  g_stream : mg "_law_stream" = some (.ref f_stream)
  f_draw : Addr
  d_draw : FuncData
  F_draw : Fun K "_law_draw" "_law_draw" s_draw f_draw d_draw
  g_draw : mg "_law_draw" = some (.ref f_draw)
  f_folded : Addr
  d_folded : FuncData
  F_folded : Fun K "_law_folded" "_law_folded" s_folded f_folded d_folded
  g_folded : mg "_law_folded" = some (.ref f_folded)
  f_same : Addr
  d_same : FuncData
  F_same : Fun K "_law_same" "_law_same" s_same f_same d_same
  g_same : mg "_law_same" = some (.ref f_same)
  f_shuffled : Addr
  d_shuffled : FuncData
  F_shuffled : Fun K "_law_shuffled" "_law_shuffled" s_shuffled f_shuffled d_shuffled
  g_shuffled : mg "_law_shuffled" = some (.ref f_shuffled)
  f_random_pairing : Addr
  d_random_pairing : FuncData
  F_random_pairing : Fun K "_law_random_pairing" "_law_random_pairing" s_random_pairing f_random_pairing d_random_pairing
  g_random_pairing : mg "_law_random_pairing" = some (.ref f_random_pairing)
  f_person : Addr
  d_person : FuncData
  F_person : Fun K "_law_person" "_law_person" s_person f_person d_person
  g_person : mg "_law_person" = some (.ref f_person)
  f_by_word : Addr
  d_by_word : FuncData
  F_by_word : Fun K "_law_by_word" "_law_by_word" s_by_word f_by_word d_by_word
  g_by_word : mg "_law_by_word" = some (.ref f_by_word)
  f_hall : Addr
  d_hall : FuncData
  F_hall : Fun K "_law_hall" "_law_hall" s_hall f_hall d_hall
  g_hall : mg "_law_hall" = some (.ref f_hall)
  f_refused : Addr
  d_refused : FuncData
  F_refused : Fun K "_law_refused" "_law_refused" s_refused f_refused d_refused
  g_refused : mg "_law_refused" = some (.ref f_refused)
  f_right : Addr
  d_right : FuncData
  F_right : Fun K "_law_right" "_law_right" s_right f_right d_right
  g_right : mg "_law_right" = some (.ref f_right)
  C_NoPerson : Addr
  gC_NoPerson : mg "NoPerson" = some (.ref C_NoPerson)
  C_Last : Addr
  gC_Last : mg "Last" = some (.ref C_Last)
  C_NoDeed : Addr
  gC_NoDeed : mg "NoDeed" = some (.ref C_NoDeed)
  C_NoNumber : Addr
  gC_NoNumber : mg "NoNumber" = some (.ref C_NoNumber)
  C_NotShortest : Addr
  gC_NotShortest : mg "NotShortest" = some (.ref C_NotShortest)
  C_OtherSize : Addr
  gC_OtherSize : mg "OtherSize" = some (.ref C_OtherSize)
  own_NoPerson : Own K "LookupError.__new__" [.type "LookupError", .type "Exception", .type "BaseException", .type "object"] C_NoPerson
  kpt_NoPerson : KeptC K C_NoPerson
  no_NoPerson : PySem.W.findIn K (.ref C_NoPerson) "person" = some none
  f_i_NoPerson : Addr
  d_i_NoPerson : FuncData
  F_i_NoPerson : Fun K "__init__" "NoPerson.__init__" s_i_NoPerson f_i_NoPerson d_i_NoPerson
  iC_NoPerson : PySem.W.findIn K (.ref C_NoPerson) "__init__" = some (some (.ref f_i_NoPerson))
  tI_NoPerson : PySem.W.typeIn K (.ref f_i_NoPerson) = some (.type "function")
  ee_NoPerson : PySem.W.exmOne K (.ref C_NoPerson) (.ref C_NoPerson) = some true
  kk_NoPerson : PySem.W.kitOne K (.ref C_NoPerson) (.ref C_NoPerson) = some true
  ex_NoPerson_Last : PySem.W.exmOne K (.ref C_NoPerson) (.ref C_Last) = some false
  ki_NoPerson_Last : PySem.W.kitOne K (.ref C_NoPerson) (.ref C_Last) = some false
  ex_NoPerson_NoDeed : PySem.W.exmOne K (.ref C_NoPerson) (.ref C_NoDeed) = some false
  ki_NoPerson_NoDeed : PySem.W.kitOne K (.ref C_NoPerson) (.ref C_NoDeed) = some false
  ex_NoPerson_NoNumber : PySem.W.exmOne K (.ref C_NoPerson) (.ref C_NoNumber) = some false
  ki_NoPerson_NoNumber : PySem.W.kitOne K (.ref C_NoPerson) (.ref C_NoNumber) = some false
  ex_NoPerson_NotShortest : PySem.W.exmOne K (.ref C_NoPerson) (.ref C_NotShortest) = some false
  ki_NoPerson_NotShortest : PySem.W.kitOne K (.ref C_NoPerson) (.ref C_NotShortest) = some false
  ex_NoPerson_OtherSize : PySem.W.exmOne K (.ref C_NoPerson) (.ref C_OtherSize) = some false
  ki_NoPerson_OtherSize : PySem.W.kitOne K (.ref C_NoPerson) (.ref C_OtherSize) = some false
  kb_NoPerson_LookupError : PySem.W.kitOne K (.ref C_NoPerson) (.type "LookupError") = some true
  vV_LookupError : PySem.W.findCls K (.type "LookupError") (.type "type") "__init__" = some (.val (.builtin "LookupError.__init__"))
  C_Hall : Addr
  gC_Hall : mg "Hall" = some (.ref C_Hall)
  cl_Hall : Cls K C_Hall
  nF_Hall_past : NoAttr K C_Hall "past"
  nF_Hall_written : NoAttr K C_Hall "written"
  f_m_Hall_init : Addr
  d_m_Hall_init : FuncData
  F_m_Hall_init : Fun K "__init__" "Hall.__init__" s_m_Hall_init f_m_Hall_init d_m_Hall_init
  mk_Hall : Mk K C_Hall f_m_Hall_init
  f_m_Hall_pairing : Addr
  d_m_Hall_pairing : FuncData
  F_m_Hall_pairing : Fun K "pairing" "Hall.pairing" s_m_Hall_pairing f_m_Hall_pairing d_m_Hall_pairing
  me_Hall_pairing : Meth K C_Hall "pairing" f_m_Hall_pairing
  f_m_Hall_deeds : Addr
  d_m_Hall_deeds : FuncData
  F_m_Hall_deeds : Fun K "deeds" "Hall.deeds" s_m_Hall_deeds f_m_Hall_deeds d_m_Hall_deeds
  me_Hall_deeds : Meth K C_Hall "deeds" f_m_Hall_deeds
  f_m_Hall_keep : Addr
  d_m_Hall_keep : FuncData
  F_m_Hall_keep : Fun K "keep" "Hall.keep" s_m_Hall_keep f_m_Hall_keep d_m_Hall_keep
  me_Hall_keep : Meth K C_Hall "keep" f_m_Hall_keep
  f_m_Hall_call : Addr
  d_m_Hall_call : FuncData
  F_m_Hall_call : Fun K "call" "Hall.call" s_m_Hall_call f_m_Hall_call d_m_Hall_call
  me_Hall_call : Meth K C_Hall "call" f_m_Hall_call
  f_m_Hall_run : Addr
  d_m_Hall_run : FuncData
  F_m_Hall_run : Fun K "run" "Hall.run" s_m_Hall_run f_m_Hall_run d_m_Hall_run
  me_Hall_run : Meth K C_Hall "run" f_m_Hall_run
  f_m_Hall_repeat : Addr
  d_m_Hall_repeat : FuncData
  F_m_Hall_repeat : Fun K "repeat" "Hall.repeat" s_m_Hall_repeat f_m_Hall_repeat d_m_Hall_repeat
  me_Hall_repeat : Meth K C_Hall "repeat" f_m_Hall_repeat
  f_m_Hall_leave : Addr
  d_m_Hall_leave : FuncData
  F_m_Hall_leave : Fun K "leave" "Hall.leave" s_m_Hall_leave f_m_Hall_leave d_m_Hall_leave
  me_Hall_leave : Meth K C_Hall "leave" f_m_Hall_leave
theorem Env.b_m_Hall_init {K : PySem.W.Frag} {mg : Str → Option Value} (T : Env K mg) : Binds K T.d_m_Hall_init ["self", "pairing"] [] := T.F_m_Hall_init.binds fun _ _ _ _ _ _ us hl => match us, hl with | [_, _], _ => rfl
theorem Env.b_m_Hall_pairing {K : PySem.W.Frag} {mg : Str → Option Value} (T : Env K mg) : Binds K T.d_m_Hall_pairing ["self"] [] := T.F_m_Hall_pairing.binds fun _ _ _ _ _ _ us hl => match us, hl with | [_], _ => rfl
theorem Env.b_m_Hall_deeds {K : PySem.W.Frag} {mg : Str → Option Value} (T : Env K mg) : Binds K T.d_m_Hall_deeds ["self"] [] := T.F_m_Hall_deeds.binds fun _ _ _ _ _ _ us hl => match us, hl with | [_], _ => rfl
theorem Env.b_m_Hall_keep {K : PySem.W.Frag} {mg : Str → Option Value} (T : Env K mg) : Binds K T.d_m_Hall_keep ["self", "after", "added"] [] := T.F_m_Hall_keep.binds fun _ _ _ _ _ _ us hl => match us, hl with | [_, _, _], _ => rfl
theorem Env.b_m_Hall_call {K : PySem.W.Frag} {mg : Str → Option Value} (T : Env K mg) : Binds K T.d_m_Hall_call ["self", "a", "b"] [] := T.F_m_Hall_call.binds fun _ _ _ _ _ _ us hl => match us, hl with | [_, _, _], _ => rfl
theorem Env.b_m_Hall_run {K : PySem.W.Frag} {mg : Str → Option Value} (T : Env K mg) : Binds K T.d_m_Hall_run ["self", "word"] [] := T.F_m_Hall_run.binds fun _ _ _ _ _ _ us hl => match us, hl with | [_, _], _ => rfl
theorem Env.b_m_Hall_repeat {K : PySem.W.Frag} {mg : Str → Option Value} (T : Env K mg) : Binds K T.d_m_Hall_repeat ["self", "word", "many"] [] := T.F_m_Hall_repeat.binds fun _ _ _ _ _ _ us hl => match us, hl with | [_, _, _], _ => rfl
theorem Env.b_m_Hall_leave {K : PySem.W.Frag} {mg : Str → Option Value} (T : Env K mg) : Binds K T.d_m_Hall_leave ["self", "person"] [] := T.F_m_Hall_leave.binds fun _ _ _ _ _ _ us hl => match us, hl with | [_, _], _ => rfl
theorem Env.b_i_NoPerson {K : PySem.W.Frag} {mg : Str → Option Value} (T : Env K mg) : Binds K T.d_i_NoPerson ["self", "person"] [] := T.F_i_NoPerson.binds fun _ _ _ _ _ _ us hl => match us, hl with | [_, _], _ => rfl
theorem Env.b_p_check_person {K : PySem.W.Frag} {mg : Str → Option Value} (T : Env K mg) : Binds K T.d_p_check_person ["size", "person"] [] := T.F_p_check_person.binds fun _ _ _ _ _ _ us hl => match us, hl with | [_, _], _ => rfl
theorem Env.b_p_check_call {K : PySem.W.Frag} {mg : Str → Option Value} (T : Env K mg) : Binds K T.d_p_check_call ["size", "call"] [] := T.F_p_check_call.binds fun _ _ _ _ _ _ us hl => match us, hl with | [_, _], _ => rfl
theorem Env.b_p_check_word {K : PySem.W.Frag} {mg : Str → Option Value} (T : Env K mg) : Binds K T.d_p_check_word ["size", "word"] [] := T.F_p_check_word.binds fun _ _ _ _ _ _ us hl => match us, hl with | [_, _], _ => rfl
theorem Env.b_p_join_two {K : PySem.W.Frag} {mg : Str → Option Value} (T : Env K mg) : Binds K T.d_p_join_two ["joined", "a", "b"] [] := T.F_p_join_two.binds fun _ _ _ _ _ _ us hl => match us, hl with | [_, _, _], _ => rfl
theorem Env.b_p_called {K : PySem.W.Frag} {mg : Str → Option Value} (T : Env K mg) : Binds K T.d_p_called ["pairing", "call"] [] := T.F_p_called.binds fun _ _ _ _ _ _ us hl => match us, hl with | [_, _], _ => rfl
theorem Env.b_p_called_all {K : PySem.W.Frag} {mg : Str → Option Value} (T : Env K mg) : Binds K T.d_p_called_all ["pairing", "word"] [] := T.F_p_called_all.binds fun _ _ _ _ _ _ us hl => match us, hl with | [_, _], _ => rfl
theorem Env.b_p_pairings_along {K : PySem.W.Frag} {mg : Str → Option Value} (T : Env K mg) : Binds K T.d_p_pairings_along ["pairing", "word"] [] := T.F_p_pairings_along.binds fun _ _ _ _ _ _ us hl => match us, hl with | [_, _], _ => rfl
theorem Env.b_p_idle_calls {K : PySem.W.Frag} {mg : Str → Option Value} (T : Env K mg) : Binds K T.d_p_idle_calls ["pairing", "word"] [] := T.F_p_idle_calls.binds fun _ _ _ _ _ _ us hl => match us, hl with | [_, _], _ => rfl
theorem Env.b_p_people_of {K : PySem.W.Frag} {mg : Str → Option Value} (T : Env K mg) : Binds K T.d_p_people_of ["sheet"] [] := T.F_p_people_of.binds fun _ _ _ _ _ _ us hl => match us, hl with | [_], _ => rfl
theorem Env.b_p_check_sizes {K : PySem.W.Frag} {mg : Str → Option Value} (T : Env K mg) : Binds K T.d_p_check_sizes ["first", "second"] [] := T.F_p_check_sizes.binds fun _ _ _ _ _ _ us hl => match us, hl with | [_, _], _ => rfl
theorem Env.b_p_empty_sheet {K : PySem.W.Frag} {mg : Str → Option Value} (T : Env K mg) : Binds K T.d_p_empty_sheet ["size"] [] := T.F_p_empty_sheet.binds fun _ _ _ _ _ _ us hl => match us, hl with | [_], _ => rfl
theorem Env.b_p_with_word {K : PySem.W.Frag} {mg : Str → Option Value} (T : Env K mg) : Binds K T.d_p_with_word ["sheet", "word"] [] := T.F_p_with_word.binds fun _ _ _ _ _ _ us hl => match us, hl with | [_, _], _ => rfl
theorem Env.b_p_sheet_of {K : PySem.W.Frag} {mg : Str → Option Value} (T : Env K mg) : Binds K T.d_p_sheet_of ["size", "word"] [] := T.F_p_sheet_of.binds fun _ _ _ _ _ _ us hl => match us, hl with | [_, _], _ => rfl
theorem Env.b_p_with_call {K : PySem.W.Frag} {mg : Str → Option Value} (T : Env K mg) : Binds K T.d_p_with_call ["sheet", "call"] [] := T.F_p_with_call.binds fun _ _ _ _ _ _ us hl => match us, hl with | [_, _], _ => rfl
theorem Env.b_p_far_end {K : PySem.W.Frag} {mg : Str → Option Value} (T : Env K mg) : Binds K T.d_p_far_end ["one", "other", "start"] [] := T.F_p_far_end.binds fun _ _ _ _ _ _ us hl => match us, hl with | [_, _, _], _ => rfl
theorem Env.b_p_followed {K : PySem.W.Frag} {mg : Str → Option Value} (T : Env K mg) : Binds K T.d_p_followed ["one", "other"] [] := T.F_p_followed.binds fun _ _ _ _ _ _ us hl => match us, hl with | [_, _], _ => rfl
theorem Env.b_p_times {K : PySem.W.Frag} {mg : Str → Option Value} (T : Env K mg) : Binds K T.d_p_times ["sheet", "many"] [] := T.F_p_times.binds fun _ _ _ _ _ _ us hl => match us, hl with | [_, _], _ => rfl
theorem Env.b_p_followed_path {K : PySem.W.Frag} {mg : Str → Option Value} (T : Env K mg) : Binds K T.d_p_followed_path ["sheet", "pairing", "person"] [] := T.F_p_followed_path.binds fun _ _ _ _ _ _ us hl => match us, hl with | [_, _, _], _ => rfl
theorem Env.b_p_result {K : PySem.W.Frag} {mg : Str → Option Value} (T : Env K mg) : Binds K T.d_p_result ["sheet", "pairing"] [] := T.F_p_result.binds fun _ _ _ _ _ _ us hl => match us, hl with | [_, _], _ => rfl
theorem Env.b_p_path {K : PySem.W.Frag} {mg : Str → Option Value} (T : Env K mg) : Binds K T.d_p_path ["sheet", "pairing", "person"] [] := T.F_p_path.binds fun _ _ _ _ _ _ us hl => match us, hl with | [_, _, _], _ => rfl
theorem Env.b_p_shows_path {K : PySem.W.Frag} {mg : Str → Option Value} (T : Env K mg) : Binds K T.d_p_shows_path ["sheet", "pairing", "person", "value"] [] := T.F_p_shows_path.binds fun _ _ _ _ _ _ us hl => match us, hl with | [_, _, _, _], _ => rfl
theorem Env.b_p_couples_on {K : PySem.W.Frag} {mg : Str → Option Value} (T : Env K mg) : Binds K T.d_p_couples_on ["sheet", "pairing", "person"] [] := T.F_p_couples_on.binds fun _ _ _ _ _ _ us hl => match us, hl with | [_, _, _], _ => rfl
theorem Env.b_p_cycle_from {K : PySem.W.Frag} {mg : Str → Option Value} (T : Env K mg) : Binds K T.d_p_cycle_from ["one", "other", "person"] [] := T.F_p_cycle_from.binds fun _ _ _ _ _ _ us hl => match us, hl with | [_, _, _], _ => rfl
theorem Env.b_p_cycles {K : PySem.W.Frag} {mg : Str → Option Value} (T : Env K mg) : Binds K T.d_p_cycles ["one", "other"] [] := T.F_p_cycles.binds fun _ _ _ _ _ _ us hl => match us, hl with | [_, _], _ => rfl
theorem Env.b_p_distance {K : PySem.W.Frag} {mg : Str → Option Value} (T : Env K mg) : Binds K T.d_p_distance ["one", "other"] [] := T.F_p_distance.binds fun _ _ _ _ _ _ us hl => match us, hl with | [_, _], _ => rfl
theorem Env.b_p_word_number {K : PySem.W.Frag} {mg : Str → Option Value} (T : Env K mg) : Binds K T.d_p_word_number ["one", "other", "word"] [] := T.F_p_word_number.binds fun _ _ _ _ _ _ us hl => match us, hl with | [_, _, _], _ => rfl
theorem Env.b_p_word_renumbered {K : PySem.W.Frag} {mg : Str → Option Value} (T : Env K mg) : Binds K T.d_p_word_renumbered ["word", "numbers"] [] := T.F_p_word_renumbered.binds fun _ _ _ _ _ _ us hl => match us, hl with | [_, _], _ => rfl
theorem Env.b_p_without {K : PySem.W.Frag} {mg : Str → Option Value} (T : Env K mg) : Binds K T.d_p_without ["pairing", "person"] [] := T.F_p_without.binds fun _ _ _ _ _ _ us hl => match us, hl with | [_, _], _ => rfl
theorem Env.b_p_repeated {K : PySem.W.Frag} {mg : Str → Option Value} (T : Env K mg) : Binds K T.d_p_repeated ["pairing", "word", "many"] [] := T.F_p_repeated.binds fun _ _ _ _ _ _ us hl => match us, hl with | [_, _, _], _ => rfl
theorem Env.b_p_sheet_settles {K : PySem.W.Frag} {mg : Str → Option Value} (T : Env K mg) : Binds K T.d_p_sheet_settles ["size", "word"] [] := T.F_p_sheet_settles.binds fun _ _ _ _ _ _ us hl => match us, hl with | [_, _], _ => rfl
theorem Env.b_p_settles {K : PySem.W.Frag} {mg : Str → Option Value} (T : Env K mg) : Binds K T.d_p_settles ["pairing", "word"] [] := T.F_p_settles.binds fun _ _ _ _ _ _ us hl => match us, hl with | [_, _], _ => rfl
theorem Env.b_p_first_time {K : PySem.W.Frag} {mg : Str → Option Value} (T : Env K mg) : Binds K T.d_p_first_time ["pairing", "word", "person", "partner"] [] := T.F_p_first_time.binds fun _ _ _ _ _ _ us hl => match us, hl with | [_, _, _, _], _ => rfl
theorem Env.b_p_partners_of {K : PySem.W.Frag} {mg : Str → Option Value} (T : Env K mg) : Binds K T.d_p_partners_of ["sheet", "person"] [] := T.F_p_partners_of.binds fun _ _ _ _ _ _ us hl => match us, hl with | [_, _], _ => rfl
theorem Env.b_stream {K : PySem.W.Frag} {mg : Str → Option Value} (T : Env K mg) : Binds K T.d_stream ["_law_script", "_law_k"] [] := T.F_stream.binds fun _ _ _ _ _ _ us hl => match us, hl with | [_, _], _ => rfl
theorem Env.b_draw {K : PySem.W.Frag} {mg : Str → Option Value} (T : Env K mg) : Binds K T.d_draw ["_law_source", "_law_bound"] [] := T.F_draw.binds fun _ _ _ _ _ _ us hl => match us, hl with | [_, _], _ => rfl
theorem Env.b_folded {K : PySem.W.Frag} {mg : Str → Option Value} (T : Env K mg) : Binds K T.d_folded ["_law_script", "_law_most"] [] := T.F_folded.binds fun _ _ _ _ _ _ us hl => match us, hl with | [_, _], _ => rfl
theorem Env.b_same {K : PySem.W.Frag} {mg : Str → Option Value} (T : Env K mg) : Binds K T.d_same ["_law_found", "_law_due"] [] := T.F_same.binds fun _ _ _ _ _ _ us hl => match us, hl with | [_, _], _ => rfl
theorem Env.b_shuffled {K : PySem.W.Frag} {mg : Str → Option Value} (T : Env K mg) : Binds K T.d_shuffled ["_law_source", "_law_some"] [] := T.F_shuffled.binds fun _ _ _ _ _ _ us hl => match us, hl with | [_, _], _ => rfl
theorem Env.b_random_pairing {K : PySem.W.Frag} {mg : Str → Option Value} (T : Env K mg) : Binds K T.d_random_pairing ["_law_source", "_law_crowd"] [] := T.F_random_pairing.binds fun _ _ _ _ _ _ us hl => match us, hl with | [_, _], _ => rfl
theorem Env.b_person {K : PySem.W.Frag} {mg : Str → Option Value} (T : Env K mg) : Binds K T.d_person ["_law_door", "_law_start", "_law_page", "_law_odd"] [] := T.F_person.binds fun _ _ _ _ _ _ us hl => match us, hl with | [_, _, _, _], _ => rfl
theorem Env.b_by_word {K : PySem.W.Frag} {mg : Str → Option Value} (T : Env K mg) : Binds K T.d_by_word ["_law_door", "_law_start", "_law_page", "_law_row"] [] := T.F_by_word.binds fun _ _ _ _ _ _ us hl => match us, hl with | [_, _, _, _], _ => rfl
theorem Env.b_hall {K : PySem.W.Frag} {mg : Str → Option Value} (T : Env K mg) : Binds K T.d_hall ["_law_door", "_law_hall_here", "_law_odd", "_law_row"] [] := T.F_hall.binds fun _ _ _ _ _ _ us hl => match us, hl with | [_, _, _, _], _ => rfl
theorem Env.b_refused {K : PySem.W.Frag} {mg : Str → Option Value} (T : Env K mg) : Binds K T.d_refused ["_law_kind", "_law_door", "_law_start", "_law_thing", "_law_odd", "_law_row"] [] := T.F_refused.binds fun _ _ _ _ _ _ us hl => match us, hl with | [_, _, _, _, _, _], _ => rfl
theorem Env.b_right {K : PySem.W.Frag} {mg : Str → Option Value} (T : Env K mg) : Binds K T.d_right ["_law_source"] [] := T.F_right.binds fun _ _ _ _ _ _ us hl => match us, hl with | [_], _ => rfl
end Pc
namespace Pc
open PySem PySem.Spec PyProof.Rows L2 RZ
section
variable {P : Program} {w : World} {K : PySem.W.Frag} {mg : Str → Option Value} {base : Heap}
theorem ok_i_NoPerson (T : Env K mg) : FnOk P w K mg base CX0 1 T.f_i_NoPerson T.d_i_NoPerson ["self", "person"] (spInit1 T.C_NoPerson "person") := by
  refine T.F_i_NoPerson.ok sc_i_NoPerson (fun vs H Q E h => ?_) (fun cdv A outer s H vs Q E hr h => ?_)
  · obtain ⟨a, v, rfl, _⟩ := h
    rfl
  · obtain ⟨a, v, rfl, ha, q⟩ := h
    refine ⟨_, pss_cons (ps_expr (pe_binit (o := .Constant .none 0 ⟨0, 0, 0, 0⟩) bsL.fb (by rfl) T.n_LookupError (by decide +kernel) (by decide) (by decide) (by kernel_rfl) (by decide +kernel) (by decide +kernel) T.vV_LookupError (pa_cons (pv 0) (pa_cons pe_str pa_nil)))) (pss_one (ps_os (newId := "LookupError.__new__") bsL.sf (pv 0) (pv 1))), ?_⟩
    exact ⟨.ref a, rfl, a, _, [.str _], rfl, (by show 1 ≤ 1000; decide), T.own_NoPerson, ha, v, rfl, .ref a, rfl, a, _, rfl, T.own_NoPerson, T.no_NoPerson, ha, fun dx n ne => q dx n ne⟩
end
end Pc
namespace Pc
open PySem PySem.Spec PyProof.Rows L2 RZ
section
variable {P : Program} {w : World} {K : PySem.W.Frag} {mg : Str → Option Value} {base : Heap}
/-! ### a source -/
def spBox (K : PySem.W.Frag) : Sp := fun vs H Q _ => ∃ (a : Addr) (ns : List Int) (k : Nat), vs = [.ref a, .int k] ∧ SqL K H a (ns.map V.int) ∧ k ≤ 100 ∧
  ∀ H' b, Same H H' → H b = none → Box 1000000000 H' b → Q (.ref b) H'
theorem ok_box (T : Env K mg) : FnOk P w K mg base CX0 1 T.f_stream T.d_stream ["_law_script", "_law_k"] (spBox K) := by
  refine T.F_stream.ok sc_stream (fun vs H Q E h => ?_) (fun cdv A outer s H vs Q E hr h => ?_)
  · obtain ⟨a, ns, k, rfl, _⟩ := h
    rfl
  · obtain ⟨a, ns, k, rfl, hS, hk, q⟩ := h
    refine ⟨_, pss_cons (ps_set (i := 2) sc_stream.nd rfl (.inl rfl) pe_int) <| pss_cons (ps_if (pt_cmpR op_lt (pv 1) (pe_callB call_len_seq (by rfl) T.n_len PySem.boot_len (pa_cons (pv 0) pa_nil)) (nomark _)) (pss_one (ps_set (i := 2) sc_stream.nd rfl (.inl rfl) (pe_ix ix_list (pv 0) (pv 1) (fun _ _ => rfl)))) pss_nil)
      (pss_one (ps_ret (pe_lst (pa_cons
          (pe_op op_mul (pe_callB call_abs (by rfl) T.n_abs (by decide +kernel) (pa_cons (pv 2) pa_nil))
            (pe_callTy call_int1 (by rfl) T.n_int (by decide +kernel) (pa_cons (pe_cmpR op_ge (pe_callB call_abs (by rfl) T.n_abs (by decide +kernel) (pa_cons (pv 2) pa_nil)) (pe_op op_pow pe_int pe_int) (nomark _)) pa_nil)))
        (pa_cons (pe_op op_add (pe_op op_add (pe_op op_mod (pv 2) pe_int) (pe_op op_mul pe_int (pv 1))) pe_int)
        (pa_cons pe_int pa_nil)))))), ?_⟩
    refine ⟨.int k, rfl, .ref a, rfl, a, ns.map V.int, rfl, .inl hS, _, _, rfl, rfl, _, rfl, ite2 (fun e => ?_) (fun e => ?_)⟩
    · have e1 : k < ns.length := by
        have := of_decide_eq_true e
        rw [List.length_map] at this
        omega
      refine ⟨.ref a, rfl, .int k, rfl, a, _, _, _, rfl, rfl, hS, atI_nat (v := .int ns[k]) (by rw [List.getElem?_map, List.getElem?_eq_getElem e1]; rfl), ?_⟩
      revert e; generalize ns[k] = c; intro _
      refine ⟨_, rfl, _, rfl, _, rfl, _, rfl, 10, 18, rfl, rfl, ⟨by decide, by decide, by decide⟩, _, _, rfl, rfl, .inr ⟨_, rfl, _, _, rfl, rfl, .inr (in64 (one0 _)), _, rfl, _, _, rfl, rfl, (show (0 : Int) < 2305843009213693951 by decide), _, rfl, _, _, rfl, rfl, .inl ⟨by decide, by decide⟩, _, _, rfl, rfl, _, _, rfl, rfl, ?_⟩⟩
      refine ⟨by show 3 ≤ sizeLine; decide, fun b nb => q _ b (same_new nb) nb ⟨_, _, 0, upd_same, Int.mul_nonneg ?_ (one0 _).1, ?_, ?_, by decide, by decide⟩⟩
      · split <;> omega
      · omega
      · omega
    · refine ⟨_, rfl, _, rfl, _, rfl, _, rfl, 10, 18, rfl, rfl, ⟨by decide, by decide, by decide⟩, _, _, rfl, rfl, .inr ⟨_, rfl, _, _, rfl, rfl, .inr (in64 (one0 _)), _, rfl, _, _, rfl, rfl, (show (0 : Int) < 2305843009213693951 by decide), _, rfl, _, _, rfl, rfl, .inl ⟨by decide, by decide⟩, _, _, rfl, rfl, _, _, rfl, rfl, ?_⟩⟩
      refine ⟨by show 3 ≤ sizeLine; decide, fun b nb => q _ b (same_new nb) nb ⟨_, _, 0, upd_same, Int.mul_nonneg ?_ (one0 _).1, ?_, ?_, by decide, by decide⟩⟩
      · split <;> omega
      · omega
      · omega
end
end Pc
namespace Pc
open PySem PySem.Spec PyProof.Rows L2 RZ
section
variable {P : Program} {w : World} {K : PySem.W.Frag} {mg : Str → Option Value} {base : Heap}
/-! ### a draw below a span of at most ten million -/
def spTake : Sp := fun vs H Q _ => ∃ (b : Addr) (n : Nat) (s : Int), vs = [.ref b, .int s] ∧ Box (n + 1) H b ∧ 0 < s ∧ s ≤ 10000000 ∧
  ∀ (r : Int) (H' : Hp), 0 ≤ r → r < s → Box n H' b → Keep b H H' → Q (.int r) H'
theorem ok_take (T : Env K mg) : FnOk P w K mg base CX0 1 T.f_draw T.d_draw ["_law_source", "_law_bound"] spTake := by
  refine T.F_draw.ok sc_draw (fun vs H Q E h => ?_) (fun cdv A outer s H vs Q E hr h => ?_)
  · obtain ⟨b, n, s, rfl, _⟩ := h
    rfl
  · obtain ⟨b, n, s, rfl, ⟨x, y, z, hb, hx, hy, hy2, hz, hz2⟩, hs, hs2, q⟩ := h
    refine ⟨_, pss_cons (ps_if (pt_cmpR op_gt (pe_ix ix_list (pv 0) pe_int (fun _ _ => rfl)) pe_int (nomark _))
        (pss_cons (ps_set (i := 2) sc_draw.nd rfl (.inl rfl) (pe_op op_mod (pe_ix ix_list (pv 0) pe_int (fun _ _ => rfl)) (pv 1)))
        (pss_cons (ps_asg (pe_op op_fdiv (pe_ix ix_list (pv 0) pe_int (fun _ _ => rfl)) (pv 1)) (pg_sub (pv 0) pe_int set_list))
        (pss_one (ps_ret (pv 2))))) pss_nil)
      (pss_cons (ps_if (pt_cmpR op_gt (pv 1) (pe_op op_pow pe_int pe_int) (nomark _)) pss_never pss_nil)
      (pss_cons (ps_asg (pe_op op_add (pe_ix ix_list (pv 0) pe_int (fun _ _ => rfl)) pe_int) (pg_sub (pv 0) pe_int set_list))
      (pss_cons (ps_set (i := 3) sc_draw.nd rfl (.inl rfl) (pe_op op_mod (pe_op op_mul (pe_op op_add (pe_ix ix_list (pv 0) pe_int (fun _ _ => rfl)) (pe_op op_mul pe_int (pe_ix ix_list (pv 0) pe_int (fun _ _ => rfl)))) (pe_op op_add pe_int (pe_ix ix_list (pv 0) pe_int (fun _ _ => rfl)))) pe_int))
      (pss_cons (ps_set (i := 4) sc_draw.nd rfl (.inl rfl) (pe_op op_mod (pe_op op_mul (pe_op op_add (pe_op op_add (pv 3) (pe_ix ix_list (pv 0) pe_int (fun _ _ => rfl))) (pe_op op_fdiv (pe_ix ix_list (pv 0) pe_int (fun _ _ => rfl)) pe_int)) (pe_op op_add (pe_op op_mod (pv 3) pe_int) pe_int)) pe_int))
      (pss_one (ps_ret (pe_op op_mod (pe_op op_fdiv (pe_op op_mod (pe_op op_add (pe_op op_mul (pv 4) pe_int) (pv 3)) pe_int) pe_int) (pv 1)))))))), ?_⟩
    have hS : SqL K H b [.int x, .int y, .int z] := .inl (.inl hb)
    refine ⟨.ref b, rfl, b, _, 0, .int x, rfl, rfl, hS, atI_nat (j := 0) rfl, x, 0, rfl, rfl, _, rfl, ite2 (fun e => ?_) (fun e => ?_)⟩
    · -- the number itself serves
      refine ⟨.ref b, rfl, b, _, 0, .int x, rfl, rfl, hS, atI_nat (j := 0) rfl, .int s, rfl, x, s, rfl, rfl, hs, ?_⟩
      refine ⟨.ref b, rfl, b, _, 0, .int x, rfl, rfl, hS, atI_nat (j := 0) rfl, .int s, rfl, x, s, rfl, rfl, ⟨hs, by omega⟩, .ref b, rfl, b, _, 0, 0, rfl, rfl, hb, rfl, ?_⟩
      refine ⟨_, rfl, q _ _ (Int.emod_nonneg _ (by omega)) (Int.emod_lt_of_pos _ hs) ⟨_, y, z, upd_same, ?_, hy, hy2, hz, by omega⟩ keep_upd⟩
      exact Int.ediv_nonneg hx (by omega)
    · refine ⟨.int s, rfl, 10, 7, rfl, rfl, ⟨by decide, by decide, by decide⟩, s, _, rfl, rfl, _, rfl, ite2 (fun e2 => ?_) (fun _ => ?_)⟩
      · have e3 := of_decide_eq_true e2
        have e4 : (10 : Int) ^ Int.toNat 7 = 10000000 := by decide
        rw [e4] at e3
        omega
      refine ⟨.ref b, rfl, b, _, 2, .int z, rfl, rfl, hS, atI_nat (j := 2) rfl, z, 1, rfl, rfl, .ref b, rfl, b, _, 2, 2, rfl, rfl, hb, rfl, ?_⟩
      have h2 : upd H b (.lst ([V.int x, V.int y, V.int z].set 2 (.int (z + 1)))) b = some (.lst [.int x, .int y, .int (z + 1)]) := upd_same
      have hS2 : SqL K (upd H b (.lst ([V.int x, V.int y, V.int z].set 2 (.int (z + 1))))) b [.int x, .int y, .int (z + 1)] := .inl (.inl h2)
      refine ⟨.ref b, rfl, b, _, 1, .int y, rfl, rfl, hS2, atI_nat (j := 1) rfl, .ref b, rfl, b, _, 2, .int (z + 1), rfl, rfl, hS2, atI_nat (j := 2) rfl, 48271, z + 1, rfl, rfl, .inl ⟨by decide, by decide⟩, y, _, rfl, rfl, .ref b, rfl, b, _, 2, .int (z + 1), rfl, rfl, hS2, atI_nat (j := 2) rfl, 39373, z + 1, rfl, rfl, _, _, rfl, rfl, .inr ⟨by omega, by omega⟩, _, 2147483647, rfl, rfl, (show (0 : Int) < 2147483647 by decide), ?_⟩
      have o1 : 0 ≤ (y + 48271 * (z + 1)) * (39373 + (z + 1)) % 2147483647 := Int.emod_nonneg _ (by decide)
      have o2 : (y + 48271 * (z + 1)) * (39373 + (z + 1)) % 2147483647 < 2147483647 := Int.emod_lt_of_pos _ (by decide)
      have o3 : 0 ≤ (y + 48271 * (z + 1)) * (39373 + (z + 1)) % 2147483647 % 40009 := Int.emod_nonneg _ (by decide)
      have o4 : (y + 48271 * (z + 1)) * (39373 + (z + 1)) % 2147483647 % 40009 < 40009 := Int.emod_lt_of_pos _ (by decide)
      refine ⟨_, rfl, .ref b, rfl, b, _, 2, .int (z + 1), rfl, rfl, hS2, atI_nat (j := 2) rfl, _, z + 1, rfl, rfl, .ref b, rfl, b, _, 1, .int y, rfl, rfl, hS2, atI_nat (j := 1) rfl, y, 1000003, rfl, rfl, ⟨by decide, by decide⟩, _, _, rfl, rfl, _, rfl, _, 40009, rfl, rfl, (show (0 : Int) < 40009 by decide), _, 7, rfl, rfl, _, _, rfl, rfl, .inr ⟨Int.lt_of_lt_of_le (by decide) (Int.add_le_add_right o3 7), Int.lt_trans (Int.add_lt_add_right o4 7) (by decide)⟩, _, 2147483629, rfl, rfl, (show (0 : Int) < 2147483629 by decide), ?_⟩
      refine ⟨_, rfl, _, 48271, rfl, rfl, .inr ⟨by decide, by decide⟩, _, rfl, _, _, rfl, rfl, _, 2147483587, rfl, rfl, (show (0 : Int) < 2147483587 by decide), _, 64, rfl, rfl, ⟨by decide, by decide⟩, .int s, rfl, _, s, rfl, rfl, hs, ?_⟩
      exact q _ _ (Int.emod_nonneg _ (by omega)) (Int.emod_lt_of_pos _ hs) ⟨x, y, z + 1, h2, hx, hy, hy2, by omega, by omega⟩ keep_upd
end
end Pc
namespace Pc
open PySem PySem.Spec PyProof.Rows L2 RZ
/-! ### data -/
theorem dp_ints {K : PySem.W.Frag} {H : Hp} : ∀ ns : List Int, DpAll K H (ns.map V.int) (ns.map PyData.int)
  | [] => .nil
  | n :: r => .cons (.int n) (dp_ints r)
theorem lay_ints : ∀ ns : List Int, PyData.canLayAll0 (ns.map PyData.int) = true
  | [] => rfl
  | n :: r => by
    show (PyData.canLay0 (.int n) && PyData.canLayAll0 (r.map PyData.int)) = true
    rw [lay_ints r]; rfl
theorem depth_ints : ∀ ns : List Int, PyData.depthAll (ns.map PyData.int) = 0
  | [] => rfl
  | n :: r => by
    show max (PyData.depth (.int n)) (PyData.depthAll (r.map PyData.int)) = 0
    rw [depth_ints r]; rfl
theorem shaped_list {ds : List PyData} (h : PyData.canLayAll0 ds = true) (d : PyData.depthAll ds ≤ 63) : SeqAt.shaped (.list ds) = true := by
  unfold SeqAt.shaped
  rw [Bool.and_eq_true]
  exact ⟨h, decide_eq_true (show PyData.depthAll ds + 1 ≤ 64 by omega)⟩
theorem shaped_tuple {ds : List PyData} (h : PyData.canLayAll0 ds = true) (d : PyData.depthAll ds ≤ 63) : SeqAt.shaped (.tuple ds) = true := by
  unfold SeqAt.shaped
  rw [Bool.and_eq_true]
  exact ⟨h, decide_eq_true (show PyData.depthAll ds + 1 ≤ 64 by omega)⟩
theorem shaped_ints (ns : List Int) : SeqAt.shaped (.list (ns.map PyData.int)) = true := shaped_list (lay_ints ns) (by rw [depth_ints]; decide)
theorem shaped_intsT (ns : List Int) : SeqAt.shaped (.tuple (ns.map PyData.int)) = true := shaped_tuple (lay_ints ns) (by rw [depth_ints]; decide)
/-- what a slice of a list of ints is -/
theorem cut_ints (ns : List Int) (lo hi : Option Int) : ∃ ms : List Int, cutV (ns.map V.int) lo hi = ms.map V.int ∧ ms = (ns.drop (HT.sIx ns.length 0 lo)).take (HT.sIx ns.length ns.length hi - HT.sIx ns.length 0 lo) := by
  refine ⟨_, ?_, rfl⟩
  unfold cutV
  rw [List.length_map, List.map_take, List.map_drop]
theorem map_set_int (cs : List Int) (j : Nat) (v : Int) : (cs.map V.int).set j (.int v) = (cs.set j v).map V.int := by
  rw [List.map_set]
theorem small63 {n : Nat} (h : n ≤ 63) : n ≤ sizeLine := Nat.le_trans h (by decide)
end Pc
namespace Pc
open PySem PySem.Spec PyProof.Rows L2 RZ
section
variable {P : Program} {w : World} {K : PySem.W.Frag} {mg : Str → Option Value} {base : Heap}
/-! ### the numbers of the script, the later ones added to the first -/
def spCells (K : PySem.W.Frag) : Sp := fun vs H Q _ => ∃ (a : Addr) (ns : List Int) (m : Nat), vs = [.ref a, .int m] ∧ SqL K H a (ns.map V.int) ∧ ns.length ≤ 63 ∧ 0 < m ∧ m ≤ 60 ∧
  ∀ H' p (cs : List Int), Same H H' → H p = none → H' p = some (.lst (cs.map V.int)) → 1 ≤ cs.length → cs.length ≤ m → Q (.ref p) H'
theorem ok_cells (T : Env K mg) : FnOk P w K mg base CX0 1 T.f_folded T.d_folded ["_law_script", "_law_most"] (spCells K) := by
  refine T.F_folded.ok sc_folded (fun vs H Q E h => ?_) (fun cdv A outer s H vs Q E hr h => ?_)
  · obtain ⟨a, ns, m, rfl, _⟩ := h
    rfl
  · obtain ⟨a, ns, m, rfl, hS, hn, hm, hm2, q⟩ := h
    refine ⟨_, pss_cons (ps_set (i := 2) sc_folded.nd rfl (.inl rfl) (pe_orT (pe_callTy call_list_of (by rfl) T.n_list (by decide +kernel) (pa_cons (pe_slice sl_list (pv 0) po_none (po_some (pv 1))) pa_nil)) (pe_one (pe_lst (pa_cons pe_int pa_nil)))))
      (pss_cons (ps_for PassesOwn.never rfl (pi_enum (by rfl) T.n_enumerate (pa_cons (pe_slice sl_list (pv 0) (po_some (pv 1)) (po_some pe_int)) pa_nil))
          (pg_tup rfl (pgs_cons (pg_name (i := 3) sc_folded.nd rfl (.inl rfl)) (pgs_cons (pg_name (i := 4) sc_folded.nd rfl (.inl rfl)) pgs_nil)))
        (pss_one (ps_asg (pe_op op_add (pe_ix ix_list (pv 2) (pe_op op_mod (pv 3) (pv 1)) (fun _ _ => rfl)) (pe_op op_mul (pv 4) (pe_op op_add (pv 3) pe_int)))
          (pg_sub (pv 2) (pe_op op_mod (pv 3) (pv 1)) set_list))))
      (pss_one (ps_ret (pv 2)))), ?_⟩
    obtain ⟨ms, e1, e2⟩ := cut_ints ns none (some (m : Int))
    obtain ⟨ls, e3, e4⟩ := cut_ints ns (some (m : Int)) (some 63)
    have f2 : ms.length = min m ns.length := by
      rw [e2, HT.sIx_none, HT.sIx_nat, List.length_take, List.drop_zero]
      omega
    have f4 : ls.length = ns.length - m := by
      rw [e4, HT.sIx_nat, show (63 : Int) = ((63 : Nat) : Int) from rfl, HT.sIx_nat, List.length_take, List.length_drop]
      omega
    -- the copy of the first ones
    refine ⟨.ref a, rfl, .int m, rfl, m, rfl, a, ns.map V.int, rfl, hS, fun c nc => ⟨c, _, rfl, .inl (.inl (.inl upd_same)), fun l nl => ?_⟩⟩
    rw [e1] at nl ⊢
    have s1 : Same H (upd (upd H c (.lst (ms.map V.int))) l (.lst (ms.map V.int))) := (same_new nc).trans (same_new nl)
    have nl0 : H l = none := (same_new nc).free nl
    have el0 : (upd (upd H c (.lst (ms.map V.int))) l (.lst (ms.map V.int))) l = some (.lst (ms.map V.int)) := upd_same
    revert s1 el0
    generalize upd (upd H c (.lst (ms.map V.int))) l (.lst (ms.map V.int)) = H0
    intro s1 el0
    refine ⟨!(ms.map V.int).isEmpty, .inl ⟨_, .inl (.inl el0), rfl⟩, ite2 (fun k => ?wa) (fun k => ?wb)⟩
    case' wa =>
      obtain ⟨cs0, g3, g4, g5, g6⟩ : ∃ cs0 : List Int, H0 l = some (.lst (cs0.map V.int)) ∧ 1 ≤ cs0.length ∧ cs0.length ≤ m ∧ (0 < ls.length → cs0.length = m) := by
        refine ⟨ms, el0, ?_, by omega, by omega⟩
        cases ms with
        | nil => exact absurd (show false = true from k) Bool.false_ne_true
        | cons x r => simp
      clear el0
    case' wb =>
      have hm0 : ms.length = 0 := by
        cases ms with
        | nil => rfl
        | cons x r => exact absurd rfl k
      refine ⟨by show 1 ≤ sizeLine; decide, fun l2 nl2 => ?_⟩
      have s3 := s1.trans (same_new (o := .lst [.int 0]) nl2)
      have nl3 := s1.free nl2
      have g3' : (upd H0 l2 (.lst [.int 0])) l2 = some (.lst [.int 0]) := upd_same
      clear nl0 s1 el0
      revert s3 g3'
      generalize upd H0 l2 (.lst [.int 0]) = H3
      intro s3 g3'
      clear nl2
      clear H0
      revert l2 nl3 H3 s3 g3'
      intro l nl0 H0 s1 g3'
      obtain ⟨cs0, g3, g4, g5, g6⟩ : ∃ cs0 : List Int, H0 l = some (.lst (cs0.map V.int)) ∧ 1 ≤ cs0.length ∧ cs0.length ≤ m ∧ (0 < ls.length → cs0.length = m) := ⟨[0], g3', by decide, hm, by omega⟩
    all_goals
      refine ⟨.ref a, rfl, .int m, rfl, m, rfl, _, rfl, a, ns.map V.int, rfl, s1.seq hS, fun d nd => ?_⟩
      rw [e3]
      refine ⟨d, ls.map V.int, rfl, .inl (.inl upd_same), ?_⟩
      have s2 : Same H _ := s1.trans (same_new (o := .lst (ls.map V.int)) nd)
      have ldd : l ≠ d := ne_of_none g3 nd
      refine for_it walk_enum (fun i σ H' => Same H H' ∧ H' d = some (.lst (ls.map V.int)) ∧ ∃ (y3 y4 : Option V) (cs : List Int), σ = [some (.ref a), some (.int m), some (.ref l), y3, y4] ∧ H' l = some (.lst (cs.map V.int)) ∧ cs.length = cs0.length)
        ⟨s2, upd_same, none, none, cs0, rfl, by rw [upd_ne ldd]; exact g3, rfl⟩ (fun i σ H' _ h => .inl (.inl h.2.1)) (fun i x σ H1 H2 hi h y => ?_) (fun σ H' h => ?_)
      · obtain ⟨sm, ed, y3, y4, cs, rfl, el, ecl⟩ := h
        obtain ⟨t, v1, v2, rfl, nt, rfl, g1, g2⟩ := y
        rw [List.length_map] at hi
        have ev1 : v1 = .int (i : Nat) := (Option.some.inj g1).symm
        have ev2 : v2 = .int ls[i] := by
          have g3 : (ls.map V.int)[i]? = some v2 := g2
          rw [List.getElem?_map, List.getElem?_eq_getElem hi] at g3
          exact (Option.some.inj g3).symm
        subst ev1 ev2
        have hml : cs.length = m := by omega
        have hlt : l ≠ t := ne_of_none el nt
        have hdt : d ≠ t := ne_of_none ed nt
        have elt : (upd H1 t (.tup [.int (i : Nat), .int ls[i]])) l = some (.lst (cs.map V.int)) := by rw [upd_ne hlt]; exact el
        have him : ((i : Int) % (m : Int)) = ((i % m : Nat) : Int) := by omega
        have hjm : i % m < cs.length := by rw [hml]; exact Nat.mod_lt _ hm
        have hix : ixN (cs.map V.int).length ((i : Int) % (m : Int)) = some (i % m) := by
          rw [him]
          unfold ixN
          rw [List.length_map, if_pos (by omega), if_pos (by omega)]; rfl
        refine ⟨t, _, rfl, .inl (.inl upd_same), rfl, _, _, rfl, _, _, rfl, rfl, ?_⟩
        refine ⟨.ref l, rfl, .int (i : Nat), rfl, .int m, rfl, (i : Nat), m, rfl, rfl, (show (0 : Int) < m by omega), l, _, _, .int cs[i % m], rfl, rfl, .inl (.inl elt), ?_, ?_⟩
        · unfold atI
          show (ixN (cs.map V.int).length ((i : Int) % (m : Int))).bind _ = _
          rw [hix]
          show (cs.map V.int)[i % m]? = _
          rw [List.getElem?_map, List.getElem?_eq_getElem hjm]; rfl
        refine ⟨.int ls[i], rfl, .int (i : Nat), rfl, (i : Nat), 2, rfl, rfl, ls[i], _, rfl, rfl, .inr ⟨by omega, by omega⟩, cs[i % m], _, rfl, rfl, .ref l, rfl, .int (i : Nat), rfl, .int m, rfl, (i : Nat), m, rfl, rfl, (show (0 : Int) < m by omega), l, _, _, i % m, rfl, rfl, elt, hix, ?_⟩
        refine ⟨?_, ?_, _, _, cs.set (i % m) (cs[i % m] + ls[i] * ((i : Nat) + 2)), rfl, ?_, ?_⟩
        · intro b o hb
          have nb : b ≠ l := ne_of_none hb nl0
          rw [upd_ne nb]
          exact same_new nt _ _ (sm b o hb)
        · rw [upd_ne ldd.symm, upd_ne hdt]; exact ed
        · rw [upd_same, ← map_set_int]
        · rw [List.length_set]; exact ecl
      · obtain ⟨sm, ed, y3, y4, cs, rfl, el, ecl⟩ := h
        exact ⟨.ref l, rfl, q _ l cs sm nl0 el (by omega) (by omega)⟩
end
end Pc
namespace Pc
open PySem PySem.Spec PyProof.Rows L2 RZ
/-! ### xs != [] for any items -/
def rNeNil (K : PySem.W.Frag) : R2 := fun x y H Q => ∃ a b xs, x = .ref a ∧ y = .ref b ∧ SqL K H a xs ∧ SqL K H b [] ∧ Q (.bl (!xs.isEmpty)) H
theorem op_neNil {X : Cx} (hu : X.A.units + 64 < cLine) : OpR X (compareOp .NotEq) (rNeNil X.K) := by
  intro pins s σ H x y v u Q I rx ry h
  obtain ⟨a, b, xs, rfl, rfl, h1, h2, q⟩ := h
  cases rx; cases ry
  obtain ⟨its, rv, p1, _⟩ := I.list h1
  obtain ⟨its2, rv2, p2, _⟩ := I.list h2
  have l1 := rv.length
  have l2 := rv2.length
  have hu0 : X.A.units < cLine := by omega
  cases xs with
  | nil =>
    have z1 : its.length = 0 := l1.symm
    have z2 : its2.length = 0 := l2.symm
    refine SeqAt.RcNeAt.lists (e := fun _ => true) p1.isList p2.isList (by simp [z1, z2]) hu0 (fun j j1 _ => ?_) X.prog X.w X.xe _ ?_
    · rw [List.size_toArray] at j1; omega
    · rw [List.size_toArray, z1]
      exact ⟨.bl false, H, I, rfl, q⟩
  | cons z r =>
    have z1 : its.length ≠ 0 := by rw [← l1]; simp
    have z2 : its2.length = 0 := l2.symm
    refine SeqAt.RcNeAt.lists_lengths p1.isList p2.isList (by simp [z2, z1]) hu0 X.prog X.w X.xe _ ?_
    exact ⟨.bl true, H, I, rfl, q⟩
theorem perm_erase {α : Type} : ∀ {l : List α} {i : Nat} (h : i < l.length), (l[i] :: l.eraseIdx i).Perm l
  | a :: r, 0, _ => List.Perm.refl _
  | a :: r, i + 1, h => (List.Perm.swap a (r[i]'(Nat.lt_of_succ_lt_succ h)) (r.eraseIdx i)).trans ((perm_erase (l := r) (i := i) (Nat.lt_of_succ_lt_succ h)).cons a)
/-- the place of an index that is not negative -/
theorem seq_ix {i : Int} {n : Nat} (h0 : 0 ≤ i) (h : i < n) : seqIndex? i n = some i.toNat := seqIndex_of h0 h
end Pc
namespace Pc
open PySem PySem.Spec PyProof.Rows L2 RZ
section
variable {P : Program} {w : World} {K : PySem.W.Frag} {mg : Str → Option Value} {base : Heap}
/-! ### some things in drawn order -/
def spStrewn (K : PySem.W.Frag) : Sp := fun vs H Q _ => ∃ (b a : Addr) (n : Nat) (xs : List V), vs = [.ref b, .ref a] ∧ Box (n + xs.length) H b ∧ SqL K H a xs ∧ xs.length ≤ 1000 ∧
  ∀ (H' : Hp) (p : Addr) (ys : List V), ys.Perm xs → Keep b H H' → Box n H' b → H p = none → H' p = some (.lst ys) → Q (.ref p) H'
theorem ok_strewn (T : Env K mg) : FnOk P w K mg base CX0 2 T.f_shuffled T.d_shuffled ["_law_source", "_law_some"] (spStrewn K) := by
  have GT : FnOk P w K mg base CX0 1 T.f_draw T.d_draw ["_law_source", "_law_bound"] spTake := ok_take T
  refine T.F_shuffled.ok sc_shuffled (fun vs H Q E h => ?_) (fun cdv A outer s H vs Q E hr h => ?_)
  · obtain ⟨b, a, n, xs, rfl, _⟩ := h
    rfl
  · obtain ⟨b, a, n, xs, rfl, hB, hS, hlen, q⟩ := h
    refine ⟨_, pss_cons (ps_par (by rfl) sc_shuffled.nd (i := 2) (j := 3) rfl rfl (by decide) rfl rfl (pa_cons (pe_callTy call_list_of (by rfl) T.n_list (by decide +kernel) (pa_cons (pv 1) pa_nil)) (pa_cons (pe_lst pa_nil) pa_nil)) (by rfl))
      (pss_cons (ps_while PassesOwn.never (pt_cmpR (op_neNil hr.units) (pv 2) (pe_lst pa_nil) (nomark _))
        (pss_one (ps_expr (pe_bm PySem.F.plainAttrs_list PySem.F.slot_list_append PySem.F.type_list_append mt_append (pv 3) (pa_cons
          (pe_bm PySem.F.plainAttrs_list PySem.F.slot_list_pop PySem.F.type_list_pop mt_popAt (pv 2) (pa_cons
            (pe_call GT hr (by rfl) T.g_draw T.F_draw.kp T.b_draw .nil pass0 (pa_cons (pv 0) (pa_cons (pe_callB call_len_seq (by rfl) T.n_len PySem.boot_len (pa_cons (pv 2) pa_nil)) pa_nil))) pa_nil)) pa_nil)))))
      (pss_one (ps_ret (pv 3)))), ?_⟩
    refine ⟨.ref a, rfl, a, xs, rfl, .inl hS, fun l nl => ⟨Nat.zero_le _, fun f nf => ⟨_, _, rfl, ?_⟩⟩⟩
    have s1 : Same H (upd (upd H l (.lst xs)) f (.lst [])) := (same_new nl).trans (same_new nf)
    have nf0 : H f = none := (same_new nl).free nf
    have hlf : l ≠ f := ne_of_none upd_same nf
    have hbl : b ≠ l := hB.ne_new nl
    have hbf : b ≠ f := hB.ne_new nf0
    refine ⟨fun m σ H' => ∃ left found : List V, σ = [some (.ref b), some (.ref a), some (.ref l), some (.ref f)] ∧ H' l = some (.lst left) ∧ H' f = some (.lst found) ∧ (left ++ found).Perm xs ∧ Box (n + left.length) H' b ∧ Keep b H H' ∧ left.length = m,
      ⟨xs.length, xs, [], rfl, by rw [upd_ne hlf, upd_same], upd_same, by rw [List.append_nil], hB.same s1, Keep.of_same s1, rfl⟩, fun m σ H' hW => ?_⟩
    obtain ⟨left, found, rfl, el, ef, hp, hb', hk, hm⟩ := hW
    refine ⟨.ref l, rfl, Nat.zero_le _, fun e ne => ⟨l, e, left, rfl, rfl, .inl (.inl ?_), .inl (.inl upd_same), _, rfl, ite2 (fun c => ?_) (fun c => ?_)⟩⟩
    · rw [upd_ne (ne_of_none el ne)]; exact el
    · -- one more is drawn
      have hl0 : 0 < left.length := by
        cases left with
        | nil => exact absurd c (by decide)
        | cons x r => exact Nat.succ_pos _
      have hll : left.length ≤ 1000 := by
        have := hp.length_eq
        rw [List.length_append] at this
        omega
      have el2 : (upd H' e (.lst [])) l = some (.lst left) := by rw [upd_ne (ne_of_none el ne)]; exact el
      have ef2 : (upd H' e (.lst [])) f = some (.lst found) := by rw [upd_ne (ne_of_none ef ne)]; exact ef
      refine ⟨fun σ' H2 => ∃ left' found' : List V, σ' = [some (.ref b), some (.ref a), some (.ref l), some (.ref f)] ∧ H2 l = some (.lst left') ∧ H2 f = some (.lst found') ∧ (left' ++ found').Perm xs ∧ Box (n + left'.length) H2 b ∧ Keep b H H2 ∧ left'.length + 1 = m,
        fun σ' H2 h2 => ?_, ?_⟩
      · obtain ⟨left', found', g1, g2, g3, g4, g5, g6, g7⟩ := h2
        exact ⟨left'.length, by omega, left', found', g1, g2, g3, g4, g5, g6, rfl⟩
      · refine ⟨.ref f, rfl, .inl ⟨rfl, _, .inl (.inl ef2)⟩, .ref l, rfl, .inl ⟨rfl, _, .inl (.inl el2)⟩, .ref b, rfl, .ref l, rfl, l, left, rfl, .inl (.inl (.inl el2)), ?_⟩
        refine ⟨b, n + (left.length - 1), left.length, rfl, (hb'.same (same_new ne)).mono (by omega), by omega, by omega, fun r H2 r0 r1 hb2 k2 => ?_⟩
        have el3 : H2 l = some (.lst left) := k2 l _ hbl.symm el2
        have ef3 : H2 f = some (.lst found) := k2 f _ hbf.symm ef2
        have hj : r.toNat < left.length := by omega
        refine ⟨l, left, r, r.toNat, left[r.toNat], rfl, rfl, el3, by omega, by omega, seq_ix r0 r1, List.getElem?_eq_getElem hj, ?_⟩
        have ef4 : (upd H2 l (.lst (left.eraseIdx r.toNat))) f = some (.lst found) := by rw [upd_ne hlf.symm]; exact ef3
        have hfl : found.length ≤ 1000 := by
          have := hp.length_eq
          rw [List.length_append] at this
          omega
        refine ⟨f, found, _, rfl, rfl, ef4, small1000 hfl, left.eraseIdx r.toNat, found ++ [left[r.toNat]], rfl, ?_, upd_same, ?_, ?_, ?_, ?_⟩
        · rw [upd_ne hlf, upd_same]
        · refine List.Perm.trans ?_ hp
          have p1 : (left[r.toNat] :: left.eraseIdx r.toNat).Perm left := perm_erase hj
          have p2 : (left.eraseIdx r.toNat ++ (found ++ [left[r.toNat]])).Perm (left[r.toNat] :: left.eraseIdx r.toNat ++ found) := by
            rw [← List.append_assoc]
            exact List.perm_append_comm.trans (by rw [List.singleton_append, List.cons_append])
          exact p2.trans (p1.append_right found)
        · have : (left.eraseIdx r.toNat).length = left.length - 1 := List.length_eraseIdx_of_lt hj
          rw [this]
          refine (hb2.keep (c := l) keep_upd hbl).keep (c := f) keep_upd hbf
        · intro x o nx hx
          have nxl : x ≠ l := ne_of_none hx nl
          have nxf : x ≠ f := ne_of_none hx nf0
          rw [upd_ne nxf, upd_ne nxl]
          exact k2 x o nx (same_new ne _ _ (hk x o nx hx))
        · rw [List.length_eraseIdx_of_lt hj]; omega
    · have hl0 : left = [] := by
        cases left with
        | nil => rfl
        | cons x r => exact absurd rfl c
      subst hl0
      have ef2 : (upd H' e (.lst [])) f = some (.lst found) := by rw [upd_ne (ne_of_none ef ne)]; exact ef
      exact ⟨.ref f, rfl, q _ f found hp (hk.trans (Keep.of_same (same_new ne))) (hb'.same (same_new ne)) nf0 ef2⟩
end
end Pc
namespace Pc
open PySem PySem.Spec PyProof.Rows L2 RZ
/-! ### pairings as lists of natural numbers -/
/-- the numbers as values -/
def nv (l : List Nat) : List V := l.map fun (i : Nat) => V.int (i : Int)
theorem nv_length (l : List Nat) : (nv l).length = l.length := List.length_map _
theorem nv_get {l : List Nat} {i x : Nat} (h : l[i]? = some x) : (nv l)[i]? = some (.int x) := by
  unfold nv; rw [List.getElem?_map, h]; rfl
theorem nv_at {l : List Nat} {i x : Nat} (h : l[i]? = some x) : atI (nv l) (i : Int) = some (.int x) := atI_nat (nv_get h)
theorem nv_set (l : List Nat) (i x : Nat) : (nv l).set i (.int (x : Int)) = nv (l.set i x) := by
  unfold nv; rw [List.map_set]
theorem nv_get' {l : List Nat} {i : Nat} {v : V} (h : (nv l)[i]? = some v) : ∃ x, l[i]? = some x ∧ v = .int (x : Int) := by
  unfold nv at h
  rw [List.getElem?_map] at h
  cases e : l[i]? with
  | none => rw [e] at h; cases h
  | some x => rw [e] at h; exact ⟨x, rfl, (Option.some.inj h).symm⟩
theorem ixN_nat {n i : Nat} (h : i < n) : ixN n (i : Int) = some i := by
  unfold ixN
  rw [if_pos (by omega), if_pos (by omega)]; rfl
theorem get_some {α : Type} {l : List α} {i : Nat} (h : i < l.length) : ∃ x, l[i]? = some x := ⟨_, List.getElem?_eq_getElem h⟩
theorem get_lt {α : Type} {l : List α} {i : Nat} {x : α} (h : l[i]? = some x) : i < l.length := (List.getElem?_eq_some_iff.mp h).1
/-- a pairing of n people -/
structure IsPair (n : Nat) (ps : List Nat) : Prop where
  len : ps.length = n
  par : ∀ x, x < n → ∃ y, ps[x]? = some y ∧ y < n ∧ y ≠ x ∧ ps[y]? = some x
/-- after t turns: the first t pairs are joined -/
def PInv (os fs : List Nat) (t : Nat) : Prop := fs.length = os.length ∧ ∀ j, j < t → ∀ x y, os[2 * j]? = some x → os[2 * j + 1]? = some y → fs[x]? = some y ∧ fs[y]? = some x
theorem PInv.step {os fs : List Nat} {t x y : Nat} (hnd : os.Nodup) (hlt : ∀ z ∈ os, z < os.length) (h : PInv os fs t) (hx : os[2 * t]? = some x) (hy : os[2 * t + 1]? = some y) :
    PInv os ((fs.set x y).set y x) (t + 1) := by
  obtain ⟨hl, hp⟩ := h
  have xl : x < fs.length := by rw [hl]; exact hlt x (List.mem_of_getElem? hx)
  have yl : y < fs.length := by rw [hl]; exact hlt y (List.mem_of_getElem? hy)
  have xy : x ≠ y := fun e => by
    subst e
    have := nd_ix hnd hx hy
    omega
  refine ⟨by rw [List.length_set, List.length_set, hl], fun j hj u v hu hv => ?_⟩
  by_cases e : j = t
  · subst e
    have e1 : u = x := Option.some.inj (hu.symm.trans hx)
    have e2 : v = y := Option.some.inj (hv.symm.trans hy)
    subst e1 e2
    refine ⟨?_, ?_⟩
    · rw [List.getElem?_set_ne (Ne.symm xy), List.getElem?_set_self xl]
    · rw [List.getElem?_set_self (by rw [List.length_set]; exact yl)]
  · obtain ⟨h1, h2⟩ := hp j (by omega) u v hu hv
    have a1 : x ≠ u := fun z => by subst z; have := nd_ix hnd hx hu; omega
    have a2 : y ≠ u := fun z => by subst z; have := nd_ix hnd hy hu; omega
    have a3 : x ≠ v := fun z => by subst z; have := nd_ix hnd hx hv; omega
    have a4 : y ≠ v := fun z => by subst z; have := nd_ix hnd hy hv; omega
    refine ⟨?_, ?_⟩
    · rw [List.getElem?_set_ne a2, List.getElem?_set_ne a1]; exact h1
    · rw [List.getElem?_set_ne a4, List.getElem?_set_ne a3]; exact h2
theorem PInv.done {os fs : List Nat} {n : Nat} (hp : os.Perm (List.range n)) (he : n % 2 = 0) (h : PInv os fs (n / 2)) : IsPair n fs := by
  have hl : os.length = n := by rw [hp.length_eq, List.length_range]
  have hnd : os.Nodup := hp.nodup_iff.mpr List.nodup_range
  refine ⟨by rw [h.1, hl], fun x hx => ?_⟩
  have hm : x ∈ os := hp.mem_iff.mpr (List.mem_range.mpr hx)
  obtain ⟨i, hi, ei⟩ := List.mem_iff_getElem.mp hm
  have gi : os[i]? = some x := by rw [List.getElem?_eq_getElem hi, ei]
  have lt_n : ∀ {k z : Nat}, os[k]? = some z → z < n := fun {k z} hz => List.mem_range.mp (hp.mem_iff.mp (List.mem_of_getElem? hz))
  by_cases hq : i % 2 = 0
  · have i1 : i + 1 < os.length := by omega
    obtain ⟨y, gy⟩ := get_some i1
    have g1 : os[2 * (i / 2)]? = some x := by rw [show 2 * (i / 2) = i by omega]; exact gi
    have g2 : os[2 * (i / 2) + 1]? = some y := by rw [show 2 * (i / 2) + 1 = i + 1 by omega]; exact gy
    obtain ⟨r1, r2⟩ := h.2 (i / 2) (by omega) x y g1 g2
    exact ⟨y, r1, lt_n gy, fun e => by subst e; have := nd_ix hnd gi gy; omega, r2⟩
  · have i1 : i - 1 < os.length := by omega
    obtain ⟨y, gy⟩ := get_some i1
    have g1 : os[2 * (i / 2)]? = some y := by rw [show 2 * (i / 2) = i - 1 by omega]; exact gy
    have g2 : os[2 * (i / 2) + 1]? = some x := by rw [show 2 * (i / 2) + 1 = i by omega]; exact gi
    obtain ⟨r1, r2⟩ := h.2 (i / 2) (by omega) y x g1 g2
    exact ⟨y, r2, lt_n gy, fun e => by subst e; have := nd_ix hnd gi gy; omega, r1⟩
/-- range(0, n, 2) -/
theorem fits_long {i : Int} (h1 : -(2 ^ 62) ≤ i) (h2 : i < 2 ^ 62) : Builtin.Range.rangeFitsLong i = true := by
  unfold Builtin.Range.rangeFitsLong
  rw [Bool.and_eq_true]
  exact ⟨decide_eq_true (by omega), decide_eq_true (by omega)⟩
theorem rgc_two {n : Nat} (h : n ≤ 1000000) : RgC 0 (n : Int) 2 ((n + 1) / 2) := by
  have e : Builtin.Range.rangeSize 0 (n : Int) 2 = (((n + 1) / 2 : Nat) : Int) := by
    unfold Builtin.Range.rangeSize
    rw [if_pos (by decide)]
    split <;> omega
  refine ⟨by decide, by decide, ?_, e⟩
  unfold Builtin.Range.small
  rw [e, fits_long (i := 0) (by decide) (by decide), fits_long (i := (n : Int)) (by omega) (by omega), fits_long (i := 2) (by decide) (by decide), fits_long (i := (((n + 1) / 2 : Nat) : Int)) (by omega) (by omega), if_pos (by decide), fits_long (i := (n : Int) + (2 - 1)) (by omega) (by omega), Bool.or_true]
  rfl
theorem rep_flat {α : Type} (n : Nat) (x : α) : (List.replicate n [x]).flatten = List.replicate n x := by
  induction n with
  | zero => rfl
  | succ n ih => rw [List.replicate_succ, List.flatten_cons, ih, List.replicate_succ]; rfl
end Pc
namespace Pc
open PySem PySem.Spec PyProof.Rows L2 RZ
theorem perm_map_inv {α β : Type} (f : α → β) {zs ys : List β} (h : zs.Perm ys) : ∀ l : List α, zs = l.map f → ∃ l' : List α, ys = l'.map f ∧ l'.Perm l := by
  induction h with
  | nil => exact fun l e => ⟨l, e, List.Perm.refl _⟩
  | cons x _ ih =>
    intro l e
    cases l with
    | nil => cases e
    | cons a r =>
      injection e with e1 e2
      obtain ⟨l', h1, h2⟩ := ih r e2
      exact ⟨a :: l', by rw [h1, e1]; rfl, h2.cons a⟩
  | swap x y t =>
    intro l e
    cases l with
    | nil => cases e
    | cons a r =>
      cases r with
      | nil => injection e with _ e2; cases e2
      | cons b r =>
        injection e with e1 e2
        injection e2 with e2 e3
        exact ⟨b :: a :: r, by rw [e1, e2, e3]; rfl, List.Perm.swap _ _ _⟩
  | trans _ _ ih1 ih2 =>
    intro l e
    obtain ⟨l1, h1, h2⟩ := ih1 l e
    obtain ⟨l2, h3, h4⟩ := ih2 l1 h1
    exact ⟨l2, h3, h4.trans h2⟩
theorem rg_nv (n : Nat) : rgV 0 (n : Int) = nv (List.range n) := by
  unfold rgV nv
  rw [Int.sub_zero, Int.toNat_natCast]
  refine List.map_congr_left fun i _ => ?_
  rw [Int.zero_add]
end Pc
namespace Pc
open PySem PySem.Spec PyProof.Rows L2 RZ
section
variable {P : Program} {w : World} {K : PySem.W.Frag} {mg : Str → Option Value} {base : Heap}
/-! ### a drawn pairing -/
def spRandom : Sp := fun vs H Q _ => ∃ (b : Addr) (n k : Nat), vs = [.ref b, .int k] ∧ Box (n + k) H b ∧ k % 2 = 0 ∧ k ≤ 1000 ∧
  ∀ (H' : Hp) (p : Addr) (ps : List Nat), IsPair k ps → Keep b H H' → Box n H' b → H p = none → H' p = some (.tup (nv ps)) → Q (.ref p) H'
theorem ok_random (T : Env K mg) : FnOk P w K mg base CX0 3 T.f_random_pairing T.d_random_pairing ["_law_source", "_law_crowd"] spRandom := by
  have GS : FnOk P w K mg base CX0 2 T.f_shuffled T.d_shuffled ["_law_source", "_law_some"] (spStrewn K) := ok_strewn T
  refine T.F_random_pairing.ok sc_random_pairing (fun vs H Q E h => ?_) (fun cdv A outer s H vs Q E hr h => ?_)
  · obtain ⟨b, n, k, rfl, _⟩ := h
    rfl
  · obtain ⟨b0, m, n, rfl, hB, he, hn, q⟩ := h
    refine ⟨_, pss_cons (ps_par (by rfl) sc_random_pairing.nd (i := 2) (j := 3) rfl rfl (by decide) rfl rfl (pa_cons (pe_call GS hr (by rfl) T.g_shuffled T.F_shuffled.kp T.b_shuffled .nil pass0 (pa_cons (pv 0) (pa_cons (pe_listRg rfl (by rfl) T.n_list (prg_1 (by rfl) T.n_range (pv 1))) pa_nil)))
        (pa_cons (pe_op op_rep (pe_lst (pa_cons pe_int pa_nil)) (pv 1)) pa_nil)) (by rfl)) <|
      pss_cons (ps_for PassesOwn.never rfl (pi_range3 rfl T.n_range (pa_cons pe_int (pa_cons (pv 1) (pa_cons pe_int pa_nil))))
          (pg_name (i := 4) sc_random_pairing.nd rfl (.inl rfl))
        (pss_one (ps_asg (pe_tup (pa_cons (pe_ix ix_list (pv 2) (pe_op op_add (pv 4) pe_int) (fun _ _ => rfl)) (pa_cons (pe_ix ix_list (pv 2) (pv 4) (fun _ _ => rfl)) pa_nil)))
          (pg_tup rfl (pgs_cons (pg_sub (pv 3) (pe_ix ix_list (pv 2) (pv 4) (fun _ _ => rfl)) set_list) (pgs_cons (pg_sub (pv 3) (pe_ix ix_list (pv 2) (pe_op op_add (pv 4) pe_int) (fun _ _ => rfl)) set_list) pgs_nil)))))) <|
      pss_one (ps_ret (pe_callTy call_tuple_of (by rfl) T.n_tuple (by decide +kernel) (pa_cons (pv 3) pa_nil))), ?_⟩
    refine ⟨.ref b0, rfl, .int n, rfl, n, rfl, RgOk.of_le (by decide) (by omega) (by decide) (by omega), fun rl nrl => ?_⟩
    have sr : Same H _ := same_new (o := .lst (rgV 0 (n : Int))) nrl
    have hrl : (rgV 0 (n : Int)).length = n := by rw [rgV_length]; omega
    refine ⟨b0, rl, m, _, rfl, (hB.same sr).mono (by rw [hrl]; exact Nat.le_refl _), .inl (.inl upd_same), by rw [hrl]; exact hn, fun H1 a ys hpy hk2 hB1 na0 ea0 => ?_⟩
    obtain ⟨os, ee1, hp⟩ := perm_map_inv (fun (i : Nat) => V.int (i : Int)) hpy.symm (List.range n) (rg_nv n)
    have ea1 : H1 a = some (.lst (nv os)) := by rw [ea0, ee1]; rfl
    have hS : SqL K H1 a (nv os) := .inl (.inl ea1)
    have kk : Keep b0 H H1 := (Keep.of_same sr).trans hk2
    have hl : os.length = n := by rw [hp.length_eq, List.length_range]
    have hl2 : (nv os).length = n := by rw [nv_length, hl]
    have hnd : os.Nodup := hp.nodup_iff.mpr List.nodup_range
    have hlt : ∀ z ∈ os, z < os.length := fun z hz => by rw [hl]; exact List.mem_range.mp (hp.mem_iff.mp hz)
    refine ⟨by show 1 ≤ sizeLine; decide, fun e ne => ?_⟩
    have s0 : Same H1 (upd H1 e (.lst [.int 0])) := same_new ne
    refine ⟨.int n, rfl, e, _, [.int 0], rfl, rfl, upd_same, by omega, by omega, ?_, fun f nf => ⟨_, _, rfl, ?_⟩⟩
    · show 1 * Int.toNat (n : Int) ≤ sizeLine
      exact Nat.le_of_lt (small1000 (by omega))
    have s1 : Same H1 _ := s0.trans (same_new (o := .lst (List.replicate ((n : Nat) : Int).toNat [V.int 0]).flatten) nf)
    have nf0 : H1 f = none := s0.free nf
    have e0 : (List.replicate ((n : Nat) : Int).toNat [V.int 0]).flatten = nv (List.replicate n 0) := by
      rw [rep_flat, Int.toNat_natCast]
      unfold nv
      rw [List.map_replicate]; rfl
    have ef0 : (upd (upd H1 e (.lst [.int 0])) f (.lst (List.replicate ((n : Nat) : Int).toNat [V.int 0]).flatten)) f = some (.lst (nv (List.replicate n 0))) := by rw [upd_same, e0]
    refine ⟨.int n, rfl, 0, _, 2, n / 2, rfl, ?_, ?_⟩
    · have := rgc_two (n := n) (by omega)
      rw [show (n + 1) / 2 = n / 2 by omega] at this
      exact this
    refine for_rangeC (fun t σ H' => Same H1 H' ∧ ∃ (y : Option V) (fs : List Nat), σ = [some (.ref b0), some (.int n), some (.ref a), some (.ref f), y] ∧ H' f = some (.lst (nv fs)) ∧ PInv os fs t)
      ⟨s1, none, List.replicate n 0, rfl, ef0, by rw [List.length_replicate, hl], fun j hj => absurd hj (Nat.not_lt_zero _)⟩ (fun t σ H' ht h => ?_) (fun σ H' h => ?_)
    · obtain ⟨sm, y, fs, rfl, ef, pi⟩ := h
      obtain ⟨x1, g1⟩ := get_some (l := os) (i := 2 * t) (by omega)
      obtain ⟨x2, g2⟩ := get_some (l := os) (i := 2 * t + 1) (by omega)
      have hS' : SqL K H' a (nv os) := sm.seq hS
      have ea : atI (nv os) ((0 : Int) + (t : Nat) * 2) = some (.int x1) := by
        rw [show (0 : Int) + (t : Nat) * 2 = ((2 * t : Nat) : Int) by omega]; exact nv_at g1
      have eb : atI (nv os) ((0 : Int) + (t : Nat) * 2 + 1) = some (.int x2) := by
        rw [show (0 : Int) + (t : Nat) * 2 + 1 = ((2 * t + 1 : Nat) : Int) by omega]; exact nv_at g2
      have l1 : x1 < fs.length := by rw [pi.1]; exact hlt _ (List.mem_of_getElem? g1)
      have l2 : x2 < fs.length := by rw [pi.1]; exact hlt _ (List.mem_of_getElem? g2)
      refine ⟨.ref a, rfl, _, rfl, _, 1, rfl, rfl, a, _, _, _, rfl, rfl, hS', eb, .ref a, rfl, _, rfl, a, _, _, _, rfl, rfl, hS', ea, by show 2 ≤ sizeLine; decide, fun tp nt => ?_⟩
      have st : Same H' (upd H' tp (.tup [.int x2, .int x1])) := same_new nt
      have eft : (upd H' tp (.tup [.int x2, .int x1])) f = some (.lst (nv fs)) := st _ _ ef
      have nft : f ≠ tp := ne_of_none ef nt
      refine ⟨tp, _, rfl, .inl (.inl upd_same), rfl, _, _, rfl, .ref f, rfl, .ref a, rfl, _, rfl, a, _, _, _, rfl, rfl, st.seq hS', ea, f, _, _, x1, rfl, rfl, eft, ixN_nat (by rw [nv_length]; exact l1), ?_⟩
      have sq : SqL K (upd (upd H' tp (.tup [.int x2, .int x1])) f (.lst ((nv fs).set x1 (.int x2)))) a (nv os) := by
        have : ∀ b o, H1 b = some o → (upd (upd H' tp (.tup [.int x2, .int x1])) f (.lst ((nv fs).set x1 (.int x2)))) b = some o := fun b o hb => by
          rw [upd_ne (ne_of_none hb nf0)]; exact st _ _ (sm _ _ hb)
        exact Same.seq this hS
      refine ⟨_, _, rfl, .ref f, rfl, .ref a, rfl, _, rfl, _, 1, rfl, rfl, a, _, _, _, rfl, rfl, sq, eb, f, _, _, x2, rfl, rfl, upd_same, ?_, ?_⟩
      · rw [List.length_set]; exact ixN_nat (by rw [nv_length]; exact l2)
      · refine ⟨rfl, fun b o hb => ?_, _, (fs.set x1 x2).set x2 x1, rfl, ?_, pi.step hnd hlt g1 g2⟩
        · rw [upd_ne (ne_of_none hb nf0), upd_ne (ne_of_none hb nf0)]; exact st _ _ (sm _ _ hb)
        · rw [upd_same, nv_set, nv_set]
    · obtain ⟨sm, y, fs, rfl, ef, pi⟩ := h
      refine ⟨.ref f, rfl, f, _, rfl, .inl ⟨.inl (.inl ef), fun p np => ?_⟩⟩
      have sp := sm.trans (same_new (o := .tup (nv fs)) np)
      refine q _ p fs (pi.done hp he) (kk.trans (Keep.of_same sp)) (hB1.same sp) ?_ upd_same
      have np1 : H1 p = none := sm.free np
      cases e : H p with
      | none => rfl
      | some o =>
        by_cases hb : p = b0
        · subst hb
          obtain ⟨y, hy⟩ := hB1.lst
          rw [hy] at np1; cases np1
        · rw [kk p o hb e] at np1; cases np1
end
end Pc
namespace Pc
open PySem PySem.Spec PyProof.Rows L2 RZ
/-! ### data where more is tracked -/
theorem same_tup {K : PySem.W.Frag} {H H' : Hp} {a : Addr} {xs : List V} (e : Same H H') (h : SqT K H a xs) : SqT K H' a xs := by
  rcases h with (h | ⟨o, h⟩) | h
  · exact .inl (.inl (e _ _ h))
  · exact .inl (.inr ⟨o, e _ _ h⟩)
  · exact .inr h
mutual
theorem dp_same {K : PySem.W.Frag} {H H' : Hp} (e : Same H H') : ∀ {v : V} {d : PyData}, Dp K H v d → Dp K H' v d
  | _, _, .non => .non
  | _, _, .bl b => .bl b
  | _, _, .int i => .int i
  | _, _, .str x => .str x
  | _, _, .lst h a => .lst (e.seq h) (dpa_same e a)
  | _, _, .tup h a => .tup (same_tup e h) (dpa_same e a)
theorem dpa_same {K : PySem.W.Frag} {H H' : Hp} (e : Same H H') : ∀ {vs : List V} {ds : List PyData}, DpAll K H vs ds → DpAll K H' vs ds
  | _, _, .nil => .nil
  | _, _, .cons h a => .cons (dp_same e h) (dpa_same e a)
end
theorem dpa_len {K : PySem.W.Frag} {H : Hp} : ∀ {vs : List V} {ds : List PyData}, DpAll K H vs ds → vs.length = ds.length
  | _, _, .nil => rfl
  | _, _, .cons _ a => by rw [List.length_cons, List.length_cons, dpa_len a]
theorem dpa_get {K : PySem.W.Frag} {H : Hp} : ∀ {vs : List V} {ds : List PyData} {i : Nat} {v : V}, DpAll K H vs ds → vs[i]? = some v → ∃ d, ds[i]? = some d ∧ Dp K H v d
  | _, _, _, _, .nil, h => by simp at h
  | _, _, 0, _, .cons (d := d) h _, e => by
    cases Option.some.inj e
    exact ⟨d, rfl, h⟩
  | _, _, i + 1, v, .cons _ a, e => dpa_get (i := i) a e
theorem depth_get : ∀ {ds : List PyData} {i : Nat} {d : PyData}, ds[i]? = some d → d.depth ≤ PyData.depthAll ds
  | [], _, _, h => by simp at h
  | d :: r, 0, _, h => by
    cases Option.some.inj h
    exact Nat.le_max_left _ _
  | d :: r, i + 1, x, h => Nat.le_trans (depth_get (i := i) (ds := r) h) (Nat.le_max_right _ _)
mutual
/-- no list in it is longer than a hundred thousand -/
def narrow : PyData → Prop
  | .list xs => xs.length ≤ 100000 ∧ narrowAll xs
  | .tuple xs => xs.length ≤ 100000 ∧ narrowAll xs
  | _ => True
def narrowAll : List PyData → Prop
  | [] => True
  | x :: xs => narrow x ∧ narrowAll xs
end
theorem narrow_get : ∀ {ds : List PyData} {i : Nat} {d : PyData}, narrowAll ds → ds[i]? = some d → narrow d
  | [], _, _, _, h => by simp at h
  | d :: r, 0, _, n, h => by
    cases Option.some.inj h
    exact n.1
  | d :: r, i + 1, x, n, h => narrow_get (i := i) (ds := r) n.2 h
theorem narrow_of : ∀ {ds : List PyData}, (∀ d ∈ ds, narrow d) → narrowAll ds
  | [], _ => trivial
  | d :: r, h => ⟨h d List.mem_cons_self, narrow_of fun x hx => h x (List.mem_cons_of_mem _ hx)⟩
theorem narrow_ints (ns : List Int) : narrowAll (ns.map PyData.int) := narrow_of fun d hd => by
  obtain ⟨i, _, rfl⟩ := List.mem_map.mp hd
  exact trivial
theorem line_big {n : Nat} (h : n ≤ 100000) : n < sizeLine := Nat.lt_of_le_of_lt h (by decide)
theorem ty_lst {K : PySem.W.Frag} {H : Hp} {a : Addr} {xs : List V} (h : SqL K H a xs) : TyX K H (.ref a) (.type "list") := by
  rcases h with (h | ⟨o, h⟩) | ⟨o, its, n, h, c, _⟩
  · exact .base (.lst h)
  · exact .base (.frz h)
  · exact .kList h c
theorem ty_tup {K : PySem.W.Frag} {H : Hp} {a : Addr} {xs : List V} (h : SqT K H a xs) : TyX K H (.ref a) (.type "tuple") := by
  rcases h with (h | ⟨o, h⟩) | ⟨o, its, n, h, c, _⟩
  · exact .base (.tup h)
  · exact .fTuple h
  · exact .kTuple h c
theorem kit2 {K : PySem.W.Frag} {t a b : String} {p q : Bool} (h1 : kitB t a = some p) (h2 : kitB t b = some q) : PySem.W.kitAny K (.type t) [.type a, .type b] = some (p || q) := by
  refine kitAny_cons (kit_ty h1) (fun e => kitAny_cons (kit_ty h2) (fun e2 => ?_) (fun e2 => ?_)) (fun e => ?_)
  · subst e e2; rfl
  · subst e e2; rfl
  · subst e; rfl
section
variable {K : PySem.W.Frag}
theorem any_lt_int : PySem.W.kitAny K (.type "int") [.type "list", .type "tuple"] = some false := kit2 (p := false) (q := false) (by decide +kernel) (by decide +kernel)
theorem any_sb_int : PySem.W.kitAny K (.type "int") [.type "str", .type "bool"] = some false := kit2 (p := false) (q := false) (by decide +kernel) (by decide +kernel)
theorem any_bs_int : PySem.W.kitAny K (.type "int") [.type "bool", .type "str"] = some false := kit2 (p := false) (q := false) (by decide +kernel) (by decide +kernel)
theorem one_int_int : PySem.W.kitOne K (.type "int") (.type "int") = some true := kit_ty (by decide +kernel)
theorem one_int_bool : PySem.W.kitOne K (.type "int") (.type "bool") = some false := kit_ty (by decide +kernel)
theorem one_int_list : PySem.W.kitOne K (.type "int") (.type "list") = some false := kit_ty (by decide +kernel)
theorem one_int_tuple : PySem.W.kitOne K (.type "int") (.type "tuple") = some false := kit_ty (by decide +kernel)
theorem any_lt_none : PySem.W.kitAny K (.type "NoneType") [.type "list", .type "tuple"] = some false := kit2 (p := false) (q := false) (by decide +kernel) (by decide +kernel)
theorem any_sb_none : PySem.W.kitAny K (.type "NoneType") [.type "str", .type "bool"] = some false := kit2 (p := false) (q := false) (by decide +kernel) (by decide +kernel)
theorem any_bs_none : PySem.W.kitAny K (.type "NoneType") [.type "bool", .type "str"] = some false := kit2 (p := false) (q := false) (by decide +kernel) (by decide +kernel)
theorem one_none_int : PySem.W.kitOne K (.type "NoneType") (.type "int") = some false := kit_ty (by decide +kernel)
theorem one_none_bool : PySem.W.kitOne K (.type "NoneType") (.type "bool") = some false := kit_ty (by decide +kernel)
theorem one_none_list : PySem.W.kitOne K (.type "NoneType") (.type "list") = some false := kit_ty (by decide +kernel)
theorem one_none_tuple : PySem.W.kitOne K (.type "NoneType") (.type "tuple") = some false := kit_ty (by decide +kernel)
theorem any_lt_bool : PySem.W.kitAny K (.type "bool") [.type "list", .type "tuple"] = some false := kit2 (p := false) (q := false) (by decide +kernel) (by decide +kernel)
theorem any_sb_bool : PySem.W.kitAny K (.type "bool") [.type "str", .type "bool"] = some true := kit2 (p := false) (q := true) (by decide +kernel) (by decide +kernel)
theorem any_bs_bool : PySem.W.kitAny K (.type "bool") [.type "bool", .type "str"] = some true := kit2 (p := true) (q := false) (by decide +kernel) (by decide +kernel)
theorem one_bool_int : PySem.W.kitOne K (.type "bool") (.type "int") = some true := kit_ty (by decide +kernel)
theorem one_bool_bool : PySem.W.kitOne K (.type "bool") (.type "bool") = some true := kit_ty (by decide +kernel)
theorem one_bool_list : PySem.W.kitOne K (.type "bool") (.type "list") = some false := kit_ty (by decide +kernel)
theorem one_bool_tuple : PySem.W.kitOne K (.type "bool") (.type "tuple") = some false := kit_ty (by decide +kernel)
theorem any_lt_str : PySem.W.kitAny K (.type "str") [.type "list", .type "tuple"] = some false := kit2 (p := false) (q := false) (by decide +kernel) (by decide +kernel)
theorem any_sb_str : PySem.W.kitAny K (.type "str") [.type "str", .type "bool"] = some true := kit2 (p := true) (q := false) (by decide +kernel) (by decide +kernel)
theorem any_bs_str : PySem.W.kitAny K (.type "str") [.type "bool", .type "str"] = some true := kit2 (p := false) (q := true) (by decide +kernel) (by decide +kernel)
theorem one_str_int : PySem.W.kitOne K (.type "str") (.type "int") = some false := kit_ty (by decide +kernel)
theorem one_str_bool : PySem.W.kitOne K (.type "str") (.type "bool") = some false := kit_ty (by decide +kernel)
theorem one_str_list : PySem.W.kitOne K (.type "str") (.type "list") = some false := kit_ty (by decide +kernel)
theorem one_str_tuple : PySem.W.kitOne K (.type "str") (.type "tuple") = some false := kit_ty (by decide +kernel)
theorem any_lt_list : PySem.W.kitAny K (.type "list") [.type "list", .type "tuple"] = some true := kit2 (p := true) (q := false) (by decide +kernel) (by decide +kernel)
theorem any_sb_list : PySem.W.kitAny K (.type "list") [.type "str", .type "bool"] = some false := kit2 (p := false) (q := false) (by decide +kernel) (by decide +kernel)
theorem any_bs_list : PySem.W.kitAny K (.type "list") [.type "bool", .type "str"] = some false := kit2 (p := false) (q := false) (by decide +kernel) (by decide +kernel)
theorem one_list_int : PySem.W.kitOne K (.type "list") (.type "int") = some false := kit_ty (by decide +kernel)
theorem one_list_bool : PySem.W.kitOne K (.type "list") (.type "bool") = some false := kit_ty (by decide +kernel)
theorem one_list_list : PySem.W.kitOne K (.type "list") (.type "list") = some true := kit_ty (by decide +kernel)
theorem one_list_tuple : PySem.W.kitOne K (.type "list") (.type "tuple") = some false := kit_ty (by decide +kernel)
theorem any_lt_tuple : PySem.W.kitAny K (.type "tuple") [.type "list", .type "tuple"] = some true := kit2 (p := false) (q := true) (by decide +kernel) (by decide +kernel)
theorem any_sb_tuple : PySem.W.kitAny K (.type "tuple") [.type "str", .type "bool"] = some false := kit2 (p := false) (q := false) (by decide +kernel) (by decide +kernel)
theorem any_bs_tuple : PySem.W.kitAny K (.type "tuple") [.type "bool", .type "str"] = some false := kit2 (p := false) (q := false) (by decide +kernel) (by decide +kernel)
theorem one_tuple_int : PySem.W.kitOne K (.type "tuple") (.type "int") = some false := kit_ty (by decide +kernel)
theorem one_tuple_bool : PySem.W.kitOne K (.type "tuple") (.type "bool") = some false := kit_ty (by decide +kernel)
theorem one_tuple_list : PySem.W.kitOne K (.type "tuple") (.type "list") = some false := kit_ty (by decide +kernel)
theorem one_tuple_tuple : PySem.W.kitOne K (.type "tuple") (.type "tuple") = some true := kit_ty (by decide +kernel)
end
theorem cls2 (a b : String) : Paired ClsV [.ty a, .ty b] [.type a, .type b] := .cons (.ty a) (.cons (.ty b) .nil)
/-- zip of two tuples -/
theorem walk_zipT {K : PySem.W.Frag} {a b : Addr} {xs ys : List V} {n : Nat} (hn : n = min xs.length ys.length) : Walk (ItzT K a b) n (fun H => SqT K H a xs ∧ SqT K H b ys) (YPair (fun i => xs[i]?) (fun i => ys[i]?)) := by
  subst hn
  refine ⟨fun i _ hi q => ?_, fun _ q => ⟨xs, ys, q.1, q.2, by omega⟩, fun i H v H' _ q y => ?_⟩
  · obtain ⟨x, hx⟩ := get_some (l := xs) (i := i) (by omega)
    obtain ⟨z, hz⟩ := get_some (l := ys) (i := i) (by omega)
    exact ⟨xs, ys, x, z, q.1, q.2, hx, hz⟩
  · obtain ⟨T, x, z, h1, h2, h3, h4, h5⟩ := y
    exact ⟨T, x, z, h1, h2, h3, h4 xs q.1, h5 ys q.2⟩
theorem fn_never {P : Program} {w : World} {K : PySem.W.Frag} {mg : Str → Option Value} {base : Heap} {CX : CXT} {k : Nat} {f : Addr} {fd : FuncData} {ps : List Str} {sp : Sp} (h : ∀ vs H Q E, ¬ sp vs H Q E) : FnOk P w K mg base CX k f fd ps sp :=
  ⟨fun vs H Q E q => absurd q (h vs H Q E), fun _ _ _ H _ _ vs Q E _ _ _ _ q => absurd q (h vs H Q E)⟩
/-- a comprehension without a test -/
theorem yes_if {σ : L2.St} {H : Hp} {A B : Hp → Prop} (h : A H) : tYes σ H (fun b H3 => if b = true then A H3 else B H3) := by
  show if true = true then A H else B H
  exact iteT h
theorem all_rep : ∀ n : Nat, (List.replicate n true).all id = true
  | 0 => rfl
  | n + 1 => by rw [List.replicate_succ, List.all_cons, all_rep n]; rfl
end Pc
namespace Pc
open PySem PySem.Spec PyProof.Rows L2 RZ
section
variable {P : Program} {w : World} {K : PySem.W.Frag} {mg : Str → Option Value} {base : Heap}
/-! ### the same data twice -/
def spSame (K : PySem.W.Frag) (n : Nat) : Sp := fun vs H Q _ => ∃ (x y : V) (d : PyData), vs = [x, y] ∧ Dp K H x d ∧ Dp K H y d ∧ d.depth < n ∧ narrow d ∧ ∀ H', Same H H' → Q (.bl true) H'
theorem same_step (T : Env K mg) (n : Nat) (G : FnOk P w K mg base CX0 n T.f_same T.d_same ["_law_found", "_law_due"] (spSame K n)) : FnOk P w K mg base CX0 (n + 1) T.f_same T.d_same ["_law_found", "_law_due"] (spSame K (n + 1)) := by
  refine T.F_same.ok sc_same (fun vs H Q E h => ?_) (fun cdv A outer s H vs Q E hr h => ?_)
  · obtain ⟨x, y, d, rfl, _⟩ := h
    rfl
  · obtain ⟨x, y, d, rfl, hx, hy, hd, hw, q⟩ := h
    refine ⟨_, pss_cons (ps_if (pt_val (pe_callB call_isiT (by rfl) T.n_isinstance (by decide +kernel) (pa_cons (pv 1) (pa_cons (pe_tup (pa_cons (pe_bltn (v := .ty "list") (by rfl) T.n_list (by decide +kernel) rfl) (pa_cons (pe_bltn (v := .ty "tuple") (by rfl) T.n_tuple (by decide +kernel) rfl) pa_nil))) pa_nil))))
        (pss_cons (ps_if (PW.pt (pw_or (pt_cmpR op_ne (pe_callB call_isi (by rfl) T.n_isinstance (by decide +kernel) (pa_cons (pv 0) (pa_cons (pe_bltn (v := .ty "list") (by rfl) T.n_list (by decide +kernel) rfl) pa_nil))) (pe_callB call_isi (by rfl) T.n_isinstance (by decide +kernel) (pa_cons (pv 1) (pa_cons (pe_bltn (v := .ty "list") (by rfl) T.n_list (by decide +kernel) rfl) pa_nil))) (nomark _))
            (pw_or1 (pt_cmpR op_ne (pe_callB call_isi (by rfl) T.n_isinstance (by decide +kernel) (pa_cons (pv 0) (pa_cons (pe_bltn (v := .ty "tuple") (by rfl) T.n_tuple (by decide +kernel) rfl) pa_nil))) (pe_callB call_isi (by rfl) T.n_isinstance (by decide +kernel) (pa_cons (pv 1) (pa_cons (pe_bltn (v := .ty "tuple") (by rfl) T.n_tuple (by decide +kernel) rfl) pa_nil))) (nomark _)))))
          (pss_one (ps_ret pe_bl)) pss_nil)
        (pss_one (ps_ret (pe_and (pe_cmpR op_eq (pe_callB call_len_seq (by rfl) T.n_len PySem.boot_len (pa_cons (pv 0) pa_nil)) (pe_callB call_len_seq (by rfl) T.n_len PySem.boot_len (pa_cons (pv 1) pa_nil)) (nomark _))
          (pe_one (pe_callB (cr_all rfl) (by rfl) T.n_all (by decide +kernel) (pa_cons
            (pe_lc (own := [("_law_mine", 2), ("_law_its", 3)]) (g := gTup K 2 (gCons (gName 2) (gCons (gName 3) gNil))) (tt := tYes) (by rfl) sc_same.nd (pi_zipA (by rfl) T.n_zip (pa_cons (pv 0) (pa_cons (pv 1) pa_nil)))
              (blkOk_by (N := N_same) (sc := defScope s_same) (by decide +kernel))
              (fun _ _ _ _ _ => pg_tup (by rfl) (pgs_cons (pg_name (i := 2) sc_same.nd rfl (.inl rfl)) (pgs_cons (pg_name (i := 3) sc_same.nd rfl (.inl rfl)) pgs_nil)))
              (fun _ _ _ _ _ => pts_nil)
              (fun _ _ _ _ _ => pe_call G hr (by rfl) T.g_same T.F_same.kp T.b_same .nil pass0 (pa_cons (pv 2) (pa_cons (pv 3) pa_nil)))) pa_nil))))))) pss_nil)
      (pss_cons (ps_if (PW.pt (pw_or (pt_cmpR op_isN (pv 1) pe_non (nomark _)) (pw_or1 (pt_val (pe_callB call_isiT (by rfl) T.n_isinstance (by decide +kernel) (pa_cons (pv 1) (pa_cons (pe_tup (pa_cons (pe_bltn (v := .ty "bool") (by rfl) T.n_bool (by decide +kernel) rfl) (pa_cons (pe_bltn (v := .ty "str") (by rfl) T.n_str (by decide +kernel) rfl) pa_nil))) pa_nil)))))))
        (pss_one (ps_ret (pe_and (pe_cmpR op_eq (pv 0) (pv 1) (nomark _))
          (pe_and (pe_cmpR op_eq (pe_callB call_isi (by rfl) T.n_isinstance (by decide +kernel) (pa_cons (pv 0) (pa_cons (pe_bltn (v := .ty "bool") (by rfl) T.n_bool (by decide +kernel) rfl) pa_nil))) (pe_callB call_isi (by rfl) T.n_isinstance (by decide +kernel) (pa_cons (pv 1) (pa_cons (pe_bltn (v := .ty "bool") (by rfl) T.n_bool (by decide +kernel) rfl) pa_nil))) (nomark _))
          (pe_one (pe_cmpR op_eq (pe_cmpR op_isN (pv 0) pe_non (nomark _)) (pe_cmpR op_isN (pv 1) pe_non (nomark _)) (nomark _))))))) pss_nil)
      (pss_one (ps_ret (pe_and (pe_callB call_isi (by rfl) T.n_isinstance (by decide +kernel) (pa_cons (pv 0) (pa_cons (pe_bltn (v := .ty "int") (by rfl) T.n_int (by decide +kernel) rfl) pa_nil)))
        (pe_and (pe_not (pe_callB call_isi (by rfl) T.n_isinstance (by decide +kernel) (pa_cons (pv 0) (pa_cons (pe_bltn (v := .ty "bool") (by rfl) T.n_bool (by decide +kernel) rfl) pa_nil)))) (pe_one (pe_cmpR op_eq (pv 0) (pv 1) (nomark _)))))))), ?_⟩
    cases d with
    | dict _ => cases hx
    | int i =>
      cases hx; cases hy
      refine ⟨_, rfl, by show 2 ≤ sizeLine; decide, fun t nt => ⟨_, t, _, _, _, _, rfl, upd_same, cls2 _ _, .base (.int i), any_lt_int, _, rfl, iteF ?_⟩⟩
      refine ⟨_, rfl, rfl, _, rfl, iteF ⟨_, rfl, by show 2 ≤ sizeLine; decide, fun u nu => ⟨_, u, _, _, _, _, rfl, upd_same, cls2 _ _, .base (.int i), any_bs_int, _, rfl, iteF ?_⟩⟩⟩
      refine ⟨_, rfl, _, _, _, _, _, rfl, .ty _, .base (.int i), one_int_int, _, rfl, iteT ⟨_, rfl, _, _, _, _, _, rfl, .ty _, .base (.int i), one_int_bool, _, rfl, _, rfl, iteT ⟨_, rfl, _, rfl, rfl, ?_⟩⟩⟩
      rw [decide_eq_true rfl]
      exact q _ ((same_new nt).trans (same_new nu))
    | none =>
      cases hx; cases hy
      refine ⟨_, rfl, by show 2 ≤ sizeLine; decide, fun t nt => ⟨_, t, _, _, _, _, rfl, upd_same, cls2 _ _, .base .non, any_lt_none, _, rfl, iteF ?_⟩⟩
      refine ⟨_, rfl, rfl, _, rfl, iteT ?_⟩
      refine ⟨_, rfl, _, rfl, rfl, _, rfl, iteT ⟨_, rfl, _, _, _, _, _, rfl, .ty _, .base .non, one_none_bool, _, rfl, _, _, _, _, _, rfl, .ty _, .base .non, one_none_bool, rfl, _, rfl, iteT ⟨_, rfl, rfl, _, rfl, rfl, rfl, ?_⟩⟩⟩
      exact q _ (same_new nt)
    | bool b =>
      cases hx; cases hy
      refine ⟨_, rfl, by show 2 ≤ sizeLine; decide, fun t nt => ⟨_, t, _, _, _, _, rfl, upd_same, cls2 _ _, .base (.bl b), any_lt_bool, _, rfl, iteF ?_⟩⟩
      refine ⟨_, rfl, rfl, _, rfl, iteF ⟨_, rfl, by show 2 ≤ sizeLine; decide, fun u nu => ⟨_, u, _, _, _, _, rfl, upd_same, cls2 _ _, .base (.bl b), any_bs_bool, _, rfl, iteT ?_⟩⟩⟩
      refine ⟨_, rfl, _, rfl, rfl, _, rfl, ?_⟩
      rw [decide_eq_true rfl]
      refine iteT ⟨_, rfl, _, _, _, _, _, rfl, .ty _, .base (.bl b), one_bool_bool, _, rfl, _, _, _, _, _, rfl, .ty _, .base (.bl b), one_bool_bool, rfl, _, rfl, iteT ⟨_, rfl, rfl, _, rfl, rfl, rfl, ?_⟩⟩
      rw [decide_eq_true rfl]
      exact q _ ((same_new nt).trans (same_new nu))
    | str z =>
      cases hx; cases hy
      refine ⟨_, rfl, by show 2 ≤ sizeLine; decide, fun t nt => ⟨_, t, _, _, _, _, rfl, upd_same, cls2 _ _, .base (.str z), any_lt_str, _, rfl, iteF ?_⟩⟩
      refine ⟨_, rfl, rfl, _, rfl, iteF ⟨_, rfl, by show 2 ≤ sizeLine; decide, fun u nu => ⟨_, u, _, _, _, _, rfl, upd_same, cls2 _ _, .base (.str z), any_bs_str, _, rfl, iteT ?_⟩⟩⟩
      refine ⟨_, rfl, _, rfl, rfl, _, rfl, ?_⟩
      rw [decide_eq_true rfl]
      refine iteT ⟨_, rfl, _, _, _, _, _, rfl, .ty _, .base (.str z), one_str_bool, _, rfl, _, _, _, _, _, rfl, .ty _, .base (.str z), one_str_bool, rfl, _, rfl, iteT ⟨_, rfl, rfl, _, rfl, rfl, rfl, ?_⟩⟩
      rw [decide_eq_true rfl]
      exact q _ ((same_new nt).trans (same_new nu))
    | list ds =>
      cases hx with
      | lst hsx hax =>
      cases hy with
      | lst hsy hay =>
      rename_i a xs b ys
      have hlx := dpa_len hax
      have hly := dpa_len hay
      obtain ⟨hw1, hw2⟩ := hw
      refine ⟨_, rfl, by show 2 ≤ sizeLine; decide, fun t nt => ?_⟩
      have s1 : Same H (upd H t (.tup [.ty "list", .ty "tuple"])) := same_new nt
      have hsx1 := Same.seq s1 hsx
      have hsy1 := Same.seq s1 hsy
      refine ⟨_, t, _, _, _, _, rfl, upd_same, cls2 _ _, ty_lst hsy1, any_lt_list, _, rfl, iteT ?_⟩
      refine ⟨_, rfl, _, _, _, _, _, rfl, .ty _, ty_lst hsx1, one_list_list, _, rfl, _, _, _, _, _, rfl, .ty _, ty_lst hsy1, one_list_list, rfl, _, rfl, iteNS rfl ?_⟩
      refine ⟨_, rfl, _, _, _, _, _, rfl, .ty _, ty_lst hsx1, one_list_tuple, _, rfl, _, _, _, _, _, rfl, .ty _, ty_lst hsy1, one_list_tuple, rfl, _, rfl, iteNS rfl ?_⟩
      refine ⟨_, rfl, a, xs, rfl, .inl hsx1, _, rfl, b, ys, rfl, .inl hsy1, rfl, _, rfl, ?_⟩
      rw [decide_eq_true (show V.int (xs.length : Int) = V.int (ys.length : Int) by rw [hlx, hly])]
      refine iteT ⟨_, rfl, _, rfl, a, b, xs, ys, rfl, .inl ⟨hsx1, hsy1, fun D nD => ?_⟩⟩
      have nD0 : H D = none := s1.free nD
      refine lc_it (walk_zip (n := xs.length) (by omega)) (fun i H' => Same H H' ∧ H' D = some (.lst (List.replicate i (.bl true)))) ⟨s1.trans (same_new nD), upd_same⟩ (fun i H' _ h => ⟨Same.seq h.1 hsx, Same.seq h.1 hsy⟩) (fun i v H1 H2 hi h yy => ?_) (fun H' h => ?_)
      · obtain ⟨sm, eD⟩ := h
        obtain ⟨tp, u, v, rfl, nT, rfl, g1, g2⟩ := yy
        obtain ⟨d1, e1, f1⟩ := dpa_get hax g1
        obtain ⟨d2, e2, f2⟩ := dpa_get hay g2
        cases Option.some.inj (e1.symm.trans e2)
        have st : Same H (upd H1 tp (.tup [u, v])) := sm.trans (same_new nT)
        refine ⟨tp, _, rfl, .inl (.inl upd_same), rfl, _, _, rfl, _, _, rfl, rfl, rfl, yes_if ?_⟩
        refine ⟨_, rfl, _, rfl, u, v, d1, rfl, dp_same st f1, dp_same st f2, ?_, narrow_get hw2 e1, fun H3 s3 => ⟨_, s3 _ _ (same_new nT _ _ eD), ?_, ?_, ?_⟩⟩
        · have := depth_get e1
          have hd' : PyData.depthAll ds + 1 < n + 1 := hd
          omega
        · rw [List.length_replicate]
          exact line_big (by omega)
        · intro c o hc
          rw [upd_ne (ne_of_none hc nD0)]
          exact s3 _ _ (st _ _ hc)
        · rw [upd_same, List.replicate_succ']
      · obtain ⟨sm, eD⟩ := h
        refine ⟨D, List.replicate xs.length true, rfl, ?_, ?_⟩
        · rw [List.map_replicate]
          exact .inl (.inl eD)
        · rw [all_rep]
          exact q _ sm
    | tuple ds =>
      cases hx with
      | tup hsx hax =>
      cases hy with
      | tup hsy hay =>
      rename_i a xs b ys
      have hlx := dpa_len hax
      have hly := dpa_len hay
      obtain ⟨hw1, hw2⟩ := hw
      refine ⟨_, rfl, by show 2 ≤ sizeLine; decide, fun t nt => ?_⟩
      have s1 : Same H (upd H t (.tup [.ty "list", .ty "tuple"])) := same_new nt
      have hsx1 := same_tup s1 hsx
      have hsy1 := same_tup s1 hsy
      refine ⟨_, t, _, _, _, _, rfl, upd_same, cls2 _ _, ty_tup hsy1, any_lt_tuple, _, rfl, iteT ?_⟩
      refine ⟨_, rfl, _, _, _, _, _, rfl, .ty _, ty_tup hsx1, one_tuple_list, _, rfl, _, _, _, _, _, rfl, .ty _, ty_tup hsy1, one_tuple_list, rfl, _, rfl, iteNS rfl ?_⟩
      refine ⟨_, rfl, _, _, _, _, _, rfl, .ty _, ty_tup hsx1, one_tuple_tuple, _, rfl, _, _, _, _, _, rfl, .ty _, ty_tup hsy1, one_tuple_tuple, rfl, _, rfl, iteNS rfl ?_⟩
      refine ⟨_, rfl, a, xs, rfl, .inr hsx1, _, rfl, b, ys, rfl, .inr hsy1, rfl, _, rfl, ?_⟩
      rw [decide_eq_true (show V.int (xs.length : Int) = V.int (ys.length : Int) by rw [hlx, hly])]
      refine iteT ⟨_, rfl, _, rfl, a, b, xs, ys, rfl, .inr ⟨hsx1, hsy1, fun D nD => ?_⟩⟩
      have nD0 : H D = none := s1.free nD
      refine lc_it (walk_zipT (n := xs.length) (by omega)) (fun i H' => Same H H' ∧ H' D = some (.lst (List.replicate i (.bl true)))) ⟨s1.trans (same_new nD), upd_same⟩ (fun i H' _ h => ⟨same_tup h.1 hsx, same_tup h.1 hsy⟩) (fun i v H1 H2 hi h yy => ?_) (fun H' h => ?_)
      · obtain ⟨sm, eD⟩ := h
        obtain ⟨tp, u, v, rfl, nT, rfl, g1, g2⟩ := yy
        obtain ⟨d1, e1, f1⟩ := dpa_get hax g1
        obtain ⟨d2, e2, f2⟩ := dpa_get hay g2
        cases Option.some.inj (e1.symm.trans e2)
        have st : Same H (upd H1 tp (.tup [u, v])) := sm.trans (same_new nT)
        refine ⟨tp, _, rfl, .inl (.inl upd_same), rfl, _, _, rfl, _, _, rfl, rfl, rfl, yes_if ?_⟩
        refine ⟨_, rfl, _, rfl, u, v, d1, rfl, dp_same st f1, dp_same st f2, ?_, narrow_get hw2 e1, fun H3 s3 => ⟨_, s3 _ _ (same_new nT _ _ eD), ?_, ?_, ?_⟩⟩
        · have := depth_get e1
          have hd' : PyData.depthAll ds + 1 < n + 1 := hd
          omega
        · rw [List.length_replicate]
          exact line_big (by omega)
        · intro c o hc
          rw [upd_ne (ne_of_none hc nD0)]
          exact s3 _ _ (st _ _ hc)
        · rw [upd_same, List.replicate_succ']
      · obtain ⟨sm, eD⟩ := h
        refine ⟨D, List.replicate xs.length true, rfl, ?_, ?_⟩
        · rw [List.map_replicate]
          exact .inl (.inl eD)
        · rw [all_rep]
          exact q _ sm
theorem ok_same (T : Env K mg) : ∀ n : Nat, FnOk P w K mg base CX0 n T.f_same T.d_same ["_law_found", "_law_due"] (spSame K n)
  | 0 => fn_never fun vs H Q E h => by
    obtain ⟨x, y, d, _, _, _, hd, _⟩ := h
    exact absurd hd (Nat.not_lt_zero _)
  | n + 1 => same_step T n (ok_same T n)
end
end Pc
namespace Pc
open PySem PySem.Spec PyProof.Rows L2 RZ
/-! ### enumerate of a tuple -/
theorem draws_tuple {prog : Program} {w : World} {A : Around} (hh : A.handled = none) (it l : Addr) (hne : l ≠ it) (items : Array Value) :
    Draws prog w A it [it, l] items.size (fun i v => items[i]? = some v) (fun i h => h.IsTupleIter it l i ∧ h.IsTuple l items) where
  live i h st := by
    obtain ⟨⟨o, ho, _⟩, _⟩ := st
    exact ⟨o, ho⟩
  frame i h h' st hk := ⟨Heap.IsTupleIter.at st.1 (hk it (by simp)), Heap.IsTuple.at st.2 (hk l (by simp))⟩
  item i s Q E hi st hQ := by
    have hx : items[i]? = some items[i] := by simp [hi]
    exact nextOf_tuple_item st.1 st.2 hx fun h' hit' hs' => hQ _ h' s.toks hx ⟨hit', st.2.extBut hs'.extBut hne⟩ hs'
  done s Q E st hE := nextOf_tuple_end hh st.1 st.2 (by simp) hE
set_option maxHeartbeats 4000000 in
theorem enum_newT (l : Addr) (items : Array Value) (n : Nat) (dct : Option Addr) (sl : Array (Option Value)) :
    Meets (Builtin.«enumerate.__new__» ⟨[.type "enumerate", .ref l], []⟩) (fun _ R s =>
      s.heap.get? l = some { cls := .type "tuple", dict := dct, data := .seq items n, slots := sl } ∧
      R (.ok (.ret (.ref (s.heap.push { cls := .type "tuple_iterator", data := .fields #[.ref l, .int 0 0] }).objs.size)))
        { s with heap := Heap.push (s.heap.push { cls := .type "tuple_iterator", data := .fields #[.ref l, .int 0 0] }) { cls := .type "enumerate", data := .fields #[.none, .bool false, .ref s.heap.objs.size, rawInt 0, .none, .none] } }) := by
  refine .of_wp fun prog w A R s h => ?_
  obtain ⟨hp, g, d, tk, os⟩ := s
  obtain ⟨hl, h⟩ := h
  have subE := sub_enumerate
  have isT : Heap.IsTuple (Shared.heap ⟨hp, g, d, tk, os⟩) l items := ⟨_, hl, rfl, n, rfl⟩
  wp_walk using AutoSeq1.wpAny_loadPart' hl
  refine wpAny_stack_any fun st => wpAny_pure ?_
  split
  · rename_i c _ _ _ _ _
    cases (c == Value.type "enumerate") <;> (wp_walk using AutoSeq1.wpAny_loadPart' hl, wpAny_pyIter_tuple isT; exact ⟨_, rfl, h⟩)
  · wp_walk using AutoSeq1.wpAny_loadPart' hl, wpAny_pyIter_tuple isT
    exact ⟨_, rfl, h⟩
theorem call_enumT {prog : Program} {w : World} {A : Around} {E : Value → Shared → Prop} {s : Shared} {l : Addr} {items : Array Value} {Q : Value → Shared → Prop} (hL : s.heap.IsTuple l items)
    (h : ∀ h', IsEnum h' (s.heap.objs.size + 1) s.heap.objs.size 0 .none → h'.IsTupleIter s.heap.objs.size l 0 →
      (∀ b o, s.heap.get? b = some o → h'.get? b = some o) → Q (.ref (s.heap.objs.size + 1)) { s with heap := h' }) :
    wpAny (model prog w) A (call (.type "enumerate") [.ref l]) Q E s := by
  obtain ⟨⟨c, dct, dt, sl⟩, hl, hc, n, hd⟩ := hL
  have hc' : c = .type "tuple" := hc
  have hd' : dt = .seq items n := hd
  subst hc' hd'
  refine callType_new F.called_enumerate (by decide) (F.typeCall_enumerate_1 _) (F.newCall_enumerate_1 _) (fun obj => F.args_object_init_2 obj _) F.entry_enumerate_new (enum_newT l items n dct sl) ⟨hl, ?_⟩
  have hz : (s.heap.push { cls := .type "tuple_iterator", data := .fields #[.ref l, .int 0 0] }).objs.size = s.heap.objs.size + 1 := Heap.size_push ..
  have he := Heap.get?_push_size (s.heap.push { cls := .type "tuple_iterator", data := .fields #[.ref l, .int 0 0] })
    (o := { cls := .type "enumerate", data := .fields #[.none, .bool false, .ref s.heap.objs.size, rawInt 0, .none, .none] }) rfl
  rw [hz] at he
  show _ ∧ _
  rw [hz]
  exact ⟨⟨_, he, rfl⟩, h _ he ⟨{ cls := .type "tuple_iterator", data := .fields #[.ref l, .int 0 0] }, Heap.get?_push_of_some _ (Heap.get?_push_size _ rfl), rfl, rfl⟩ fun b o x => Heap.get?_push_of_some _ (Heap.get?_push_of_some _ x)⟩
/-- the tuple at a, its items in new pairs with their places -/
def IteT (K : PySem.W.Frag) (a : Addr) : It where
  go i H := ∃ (xs : List V) (x : V), SqT K H a xs ∧ xs[i]? = some x
  yld i H v H' := ∃ T x, v = .ref T ∧ H T = none ∧ H' = upd H T (.tup [.int (i : Nat), x]) ∧ ∀ xs, SqT K H a xs → xs[i]? = some x
  stop i H := ∃ xs : List V, SqT K H a xs ∧ xs.length ≤ i
theorem turn_enumT {P : Program} {w : World} {K : PySem.W.Frag} {elts : List Expr} {kk : Nat} {tpos : Pos} (a e it : Addr) (hei : e ≠ it) (hae : a ≠ e) (hai : a ≠ it) :
    Turn P w K (.Tuple elts kk tpos) (IteT K a) [e, it] e (fun i h => (∃ old, IsEnum h e it ((i : Nat) : Int) old) ∧ h.IsTupleIter it a i) where
  mem := by simp
  obj i h st b hb := by
    obtain ⟨⟨old, he⟩, ⟨o, ho, hc, hd⟩⟩ := st
    rcases (show b = e ∨ b = it by simpa using hb) with z | z
    · rw [z]; exact ⟨_, he, fun v q => nomatch q⟩
    · rw [z]; exact ⟨o, ho, fun v q => by rw [hd] at q; cases q⟩
  keep i h h' st k := by
    obtain ⟨⟨old, he⟩, hi⟩ := st
    exact ⟨⟨old, k e (by simp) _ he⟩, hi.at fun o q => k it (by simp) o q⟩
  item := by
    intro X hP hw hK hc i pins s σ H E I hf st hg
    subst hP hw hK
    obtain ⟨⟨old, he⟩, hit⟩ := st
    obtain ⟨xs, x, hq, hx⟩ := hg
    obtain ⟨its, rv, p, hz⟩ := I.tuple hq
    have p2 : s.heap.IsTuple a its.toArray := p
    obtain ⟨u, hu, ru⟩ := rv.get hx
    have hlt : i < its.toArray.size := by
      rw [List.size_toArray]
      exact get_lt hu
    have D := draws_tuple (prog := X.prog) (w := X.w) (A := X.A.in1) (show X.A.in1.handled = none from I.ok.hd hc) it a hai its.toArray
    have hel : e < s.heap.objs.size := Heap.lt_size he
    have hil : it < s.heap.objs.size := by obtain ⟨_, q, _⟩ := hit; exact Heap.lt_size q
    refine wpAny_pyNext_enum_itemD D he ⟨hit, p2⟩ hlt hei (by simp [hei, hae.symm]) fun y h' tk hy ho hst hT hsz hk => ?_
    have ey : y = u := by
      have : its.toArray[i]? = some y := hy
      rw [List.getElem?_toArray, hu] at this
      exact (Option.some.inj this).symm
    subst ey
    refine ⟨_, rfl, wpAny_letOwnedTupleGo_enum (s := { s with heap := h', toks := tk + 1 }) ho fun h'' he' sb => ?_⟩
    have hT2 : h''.get? s.heap.objs.size = some { cls := .type "tuple", data := .seq #[.int i tk, y] } := (sb.2 _ (Nat.ne_of_gt hel)).trans hT
    have new : ObjOk X.prog X.w (upd H s.heap.objs.size (.tup [.int (i : Nat), x])) h'' s.heap.objs.size (.tup [.int (i : Nat), x]) :=
      ⟨by show 2 ≤ sizeLine; decide, [.int i tk, y], .cons ⟨_, rfl⟩ (.cons ru .nil), ⟨_, hT2, rfl, _, rfl⟩⟩
    have I1 := I.turnedNew (t' := tk + 1) (h' := h'') (ch := [e, it]) (fun b ob hb q => (sb.2 b (fun z => hb (by simp [z]))).trans (hk b ob (fun z => hb (by simp [z])) (fun z => hb (by simp [z])) q)) hf (Nat.le_refl _) new
    refine ⟨.ref s.heap.objs.size, _, I1, rfl, ⟨_, x, rfl, I.hok.fresh (Nat.le_refl _), rfl, fun ys hy => by rw [I.tuple_inj hy hq]; exact hx⟩, ⟨⟨y, ?_⟩, hst.1.at fun o q => (sb.2 it hei.symm).trans q⟩, fun b hb => ?_⟩
    · rw [show ((i + 1 : Nat) : Int) = (i : Int) + 1 by omega]; exact he'
    · have hb' : b < s.heap.objs.size := by
        rcases (show b = e ∨ b = it by simpa using hb) with z | z
        · rw [z]; exact hel
        · rw [z]; exact hil
      rw [upd_ne (Nat.ne_of_lt hb')]
      exact (hf b hb).1
  done := by
    intro X hP hw hK hc i pins s σ H E I hf st hg
    subst hP hw hK
    obtain ⟨⟨old, he⟩, hit⟩ := st
    obtain ⟨xs, hq, hx⟩ := hg
    obtain ⟨its, rv, p, hz⟩ := I.tuple hq
    have p2 : s.heap.IsTuple a its.toArray := p
    obtain ⟨f0, f1, f2, f3, f4, f5⟩ := hf it (by simp)
    have hl := rv.length
    have hT : s.TypeIs (.ref e) "enumerate" := ⟨_, he, rfl⟩
    unfold pyNext
    refine wpAny_bind (wpAny_attempt (wpAny_callSpecial?_slot (name := Str.ofString "__next__") hT F.slot_enumerate_next (wpAny_call_entry F.slot_enumerate_next hT F.entry_enumerate_next ?_ (F.args_enumerate_next_1 _))))
    show wpAny _ _ (field (.ref e) 2 >>= _) _ _ _
    refine wpAny_bind (wpAny_field he rfl (x := .ref it) rfl ?_)
    refine wpAny_bind (nextOf_tuple_end (show X.A.in1.handled = none from I.ok.hd hc) hit p2 (by simp; omega) fun h' x he' hx' => ?_)
    obtain ⟨o, ho, hcl⟩ := hx'
    refine wpAny_bind (wpAny_isInstance (T := "StopIteration") (b := true) ⟨o, ho, hcl⟩ isSubtype_stop ?_)
    exact wpAny_pure ⟨rfl, I.turned (t' := s.toks) (fun b o hb q => he' b o hb q) f0 f1 f3 f4 f5⟩
  self A i s Q E st h := by
    obtain ⟨⟨_, he⟩, _⟩ := st
    exact wpAny_pyIter_enum he h
/-- enumerate of a list or a tuple -/
def iEnumA (K : PySem.W.Frag) (ta : TA) : TI := fun σ H R => ta σ H fun vs H1 => ∃ a xs, vs = [.ref a] ∧ ((SqL K H1 a xs ∧ R (Ite K a) H1) ∨ (SqT K H1 a xs ∧ R (IteT K a) H1))
theorem pi_enumA {X : Cx} {e : Expr} {ta : TA} {p pos tpos : Pos} {elts : List Expr} {kk : Nat} (hg : Gl X "enumerate") (hm : X.mg "enumerate" = none) (ha : PA X [e] ta) (hs : starEach [e] X.env = [(false, eval e X.env)] := by rfl) :
    PI X (.Tuple elts kk tpos) (.Call (.Name "enumerate" p) [e] [] pos) (iEnumA X.K ta) := by
  constructor
  intro pins s σ H R I h
  refine Call_ (ld_blt I hg hm boot_enumerate (callWith_type1 (thn (ha.run pos pins s σ H _ I h) fun us s1 r => ?_) hs rfl))
  obtain ⟨vs, H1, I1, r1, a, xs, ex, q1⟩ := r
  subst ex
  cases r1 with
  | cons r rr =>
    cases rr
    cases r
    have fr : ∀ b, b ∈ [s1.heap.objs.size + 1, s1.heap.objs.size] → FpOk X pins H1 b := fun b hb => by
      have hle : s1.heap.objs.size ≤ b := by
        rcases (show b = s1.heap.objs.size + 1 ∨ b = s1.heap.objs.size by simpa using hb) with z | z <;> omega
      exact I1.fpOk hle (I1.hok.fresh hle)
    rcases q1 with ⟨hq, q⟩ | ⟨hq, q⟩
    · obtain ⟨its, rv, p', hz⟩ := I1.list hq
      refine call_enumerate_list p'.isList fun h' he hit _ hk => wpAny_pyIter_enum he ?_
      exact ⟨_, _, _, _, H1, rfl, I1.kept (t' := s1.toks) hk, turn_enum a (s1.heap.objs.size + 1) s1.heap.objs.size, ⟨⟨.none, he⟩, hit, Nat.succ_ne_self _⟩, fr, q⟩
    · obtain ⟨its, rv, p', hz⟩ := I1.tuple hq
      have p2 : s1.heap.IsTuple a its.toArray := p'
      have hlt : a < s1.heap.objs.size := by obtain ⟨o, ho, _⟩ := p2; exact Heap.lt_size ho
      refine call_enumT p2 fun h' he hit hk => wpAny_pyIter_enum he ?_
      exact ⟨_, _, _, _, H1, rfl, I1.kept (t' := s1.toks) hk, turn_enumT a (s1.heap.objs.size + 1) s1.heap.objs.size (Nat.succ_ne_self _) (Nat.ne_of_lt (Nat.lt_succ_of_lt hlt)) (Nat.ne_of_lt hlt), ⟨⟨.none, he⟩, hit⟩, fr, q⟩
theorem walk_enumT {K : PySem.W.Frag} {a : Addr} {xs : List V} : Walk (IteT K a) xs.length (fun H => SqT K H a xs) (YPair (fun i => some (.int (i : Nat))) (fun i => xs[i]?)) where
  goes i H hi q := by
    obtain ⟨x, hx⟩ := get_some hi
    exact ⟨xs, x, q, hx⟩
  stops H q := ⟨xs, q, Nat.le_refl _⟩
  yields i H v H' hi q y := by
    obtain ⟨T, x, h1, h2, h3, h4⟩ := y
    exact ⟨T, .int (i : Nat), x, h1, h2, h3, rfl, h4 xs q⟩
end Pc
namespace Pc
open PySem PySem.Spec PyProof.Rows L2 RZ
/-! ### t[::-1] of a pair -/
section
variable {prog : Program} {w : World} {A : Around} {E : Value → Shared → Prop} {s : Shared}
theorem applied_rev2 {sl : Addr} {vk : Value} {Q : Int × Int × Nat → Shared → Prop} (hs : s.heap.IsSliceOf sl .none .none vk) (pk : IsPart vk (some (-1))) (h : Q (1, -1, 2) s) :
    wpAny (model prog w) A (Builtin.Slice.sliceApplied (.ref sl) (pure (2 : Int))) Q E s := by
  obtain ⟨os, hos, hcs, hds⟩ := id hs
  unfold Builtin.Slice.sliceApplied Builtin.Slice.sliceFields
  refine wpAny_bind (wpAny_bind (wpAny_field hos hds (x := .none) rfl ?_))
  refine wpAny_bind (wpAny_field hos hds (x := .none) rfl ?_)
  refine wpAny_bind (wpAny_field hos hds (x := vk) rfl (wpAny_pure ?_))
  refine wpAny_bind (HT.slicePart_ pk ?_)
  show wpAny _ _ (if ((-1 : Int) == 0) = true then _ else _) _ _ s
  rw [if_neg (by decide)]
  refine wpAny_bind (HT.slicePart_ .none (wpAny_bind (HT.slicePart_ .none (wpAny_bind (wpAny_pure ?_)))))
  exact wpAny_pure h
theorem item_rev2 {t sl : Addr} {u v vk : Value} {Q : Value → Shared → Prop} (ht : IsTup s.heap t #[u, v]) (hs : s.heap.IsSliceOf sl .none .none vk) (pk : IsPart vk (some (-1)))
    (h : Q (.ref s.heap.objs.size) { s with heap := s.heap.push { cls := .type "tuple", data := .seq #[v, u] } }) : wpAny (model prog w) A (getItem (.ref t) (.ref sl)) Q E s := by
  obtain ⟨os, hos, hcs, hds⟩ := id hs
  have hTs : s.TypeIs (.ref sl) "slice" := ⟨os, hos, hcs⟩
  unfold getItem
  try with_reducible refine wpAny_holding ?_
  first | refine wpAny_bind (wpAny_pure ?_) | skip
  refine wpAny_bind (wpAny_sequenceKey ht.typeIs (by decide) ?_)
  refine wpAny_bind (wpAny_callSpecial?_slot (name := Str.ofString "__getitem__") ht.typeIs PyProof.Rows.slot_tuple_getitem (wpAny_call_entry PyProof.Rows.slot_tuple_getitem ht.typeIs entry_tuple_getitem ?_ (args_tuple_getitem _ _)))
  show wpAny _ _ (Builtin.Tuple.tupleItemsOf (.ref t) >>= _) _ _ s
  refine wpAny_bind (tupleItemsOf_ ht ?_)
  refine wpAny_bind (wpAny_typeOf hTs ?_)
  rw [if_pos (by decide)]
  refine wpAny_bind (applied_rev2 hs pk ?_)
  show wpAny _ _ (if ((1 : Int) == 0 && (-1 : Int) == 1 && (2 : Nat) == 2) = true then _ else _) _ _ s
  rw [if_neg (by decide)]
  have e : ((List.range 2).filterMap fun (k : Nat) => (#[u, v] : Array Value)[((1 : Int) + (k : Int) * -1).toNat]?).toArray = #[v, u] := rfl
  rw [e]
  have hz : sizeOk (.seq (#[v, u] : Array Value)) := by show 2 ≤ sizeLine; decide
  first
    | exact wpAny_bind (m := Builtin.Tuple.tupleExact _) (wpAny_newObj_type (wpAny_pure ⟨_, rfl, wpAny_pure h⟩) hz)
    | exact wpAny_bind (wpAny_bind (m := Builtin.Tuple.tupleExact _) (wpAny_newObj_type (wpAny_pure (wpAny_pure ⟨_, rfl, wpAny_pure h⟩)) hz))
    | exact wpAny_bind (wpAny_bind (m := Builtin.Tuple.tupleExact _) (wpAny_newObj_type (wpAny_pure ⟨_, rfl, wpAny_pure h⟩) hz))
    | exact wpAny_bind (m := Builtin.Tuple.tupleExact _) (wpAny_newObj_type (wpAny_bind (wpAny_pure (wpAny_pure ⟨_, rfl, wpAny_pure h⟩))) hz)
end
def tRev2 (K : PySem.W.Frag) (te : TE) : TE := fun σ H Q => te σ H fun x H1 => ∃ a y z, x = .ref a ∧ SqT K H1 a [y, z] ∧ ∀ p, H1 p = none → Q (.ref p) (upd H1 p (.tup [z, y]))
theorem pe_rev2 {X : Cx} {e : Expr} {te : TE} {k : Nat} {p1 p2 p3 pos : Pos} (he : PE X e te) : PE X (.Subscript e (.Slice none none (some (.UnaryOp .USub (.Constant (.int 1) k p1) p2)) p3) pos) (tRev2 X.K te) := by
  constructor
  intro pins s σ H Q I h
  refine Subscript_ (thn (he.run pins s σ H _ I h) fun v s1 r => ?_)
  obtain ⟨x, H1, I1, r1, a, y, z, ex, hx, q⟩ := r
  subst ex
  cases r1
  have hst : PO X (some (.UnaryOp .USub (.Constant (.int 1) k p1) p2)) (tPart (tUn (rU fun i => .int (-i)) (tC (.int 1)))) := po_some (pe_un un_neg pe_int)
  refine wpAny_Slice (thn (po_none.run pins s1 σ H1 (fun o H2 => o = none ∧ H2 = H1) I1 ⟨rfl, rfl⟩) fun vl s2 ⟨l, H2, I2, pl, el, e2⟩ => ?_)
  subst el e2
  refine thn (po_none.run pins s2 σ H2 (fun o H3 => o = none ∧ H3 = H2) I2 ⟨rfl, rfl⟩) fun vu s3 ⟨u, H3, I3, pu, eu, e3⟩ => ?_
  subst eu e3
  refine thn (hst.run pins s3 σ H3 (fun o H4 => o = some (-1) ∧ H4 = H3) I3 ⟨1, rfl, -1, rfl, rfl, rfl⟩) fun vs s4 ⟨o, H4, I4, ps, eo, e4⟩ => ?_
  subst eo e4
  cases pl
  cases pu
  have I5 : Inv X pins σ H4 { s4 with heap := s4.heap.push { cls := .type "slice", data := .fields #[.none, .none, vs] } } := I4.kept (t' := s4.toks) fun b ob q => Heap.get?_push_of_some _ q
  obtain ⟨its, r, ht, hz⟩ := I5.tuple hx
  obtain ⟨w1, w2, ei, r1, r2⟩ := vals2 r
  subst ei
  show wpAny (model X.prog X.w) X.A (subscriptTail e (.Slice none none (some (.UnaryOp .USub (.Constant (.int 1) k p1) p2)) p3) (.ref a) (.ref s4.heap.objs.size)) (EP X pins σ Q) X.xe _
  refine tail_any (ops := [.ref a, .ref s4.heap.objs.size]) ht.typeIs PyProof.Rows.slot_tuple_getitem.lookup ?_ (by with_unfolding_all rfl)
  refine item_rev2 ht (Heap.IsSliceOf.new _ .none .none vs) ps ?_
  refine ⟨.ref _, _, I5.laid (t' := s4.toks) (o := .tup [z, y]) (fun b ob q => Heap.get?_push_of_some _ q) (Nat.le_refl _) ?_, rfl, q _ (I5.hok.fresh (Nat.le_refl _))⟩
  exact ⟨by show 2 ≤ sizeLine; decide, [w2, w1], .cons r2 (.cons r1 .nil), IsTup.new _ _⟩
end Pc
namespace Pc
open PySem PySem.Spec PyProof.Rows L2 RZ
/-! ### defs that run where no repr is under way (repr asks for that) -/
structure FnG (P : Program) (w : World) (K : PySem.W.Frag) (mg : Str → Option Value) (base : Heap) (CX : CXT) (k : Nat) (f : Addr) (fd : FuncData) (ps : List Str) (sp : Sp) : Prop where
  len : ∀ vs H Q E, sp vs H Q E → vs.length = ps.length
  run : ∀ (A : Around) (outer : List PySem.Env) (s : Shared) (H : Hp) (args : Args) (us : List Value) (vs : List V) (Q : VK) (E : XK), Room k A → A.guards = some [] → Env0 P w K mg base A outer s H →
    BindsTo s fd args (ps.zip us) → Vals vs us → sp vs H Q E → codeAny (model P w) A (.call (.ref f) args) (CR CX outer P w H s Q E) s
section
variable {P : Program} {w : World} {K : PySem.W.Frag} {mg : Str → Option Value} {base : Heap}
theorem fun_g {x qual : Str} {st : Stmt} {f : Addr} {fd : FuncData} {N ps : List Str} {k : Nat} {sp : Sp} (F : Fun K x qual st f fd) (S : FnScope N ps (defScope st)) (len : ∀ vs H Q E, sp vs H Q E → vs.length = ps.length)
    (hbody : ∀ (cdv : Value) (A : Around) (outer : List PySem.Env) (s : Shared) (H : Hp) (vs : List V) (Q : VK) (E : XK), Room k (A.deeper (envOfC qual (defScope st) s.heap.objs.size f cdv)) → A.guards = some [] → sp vs H Q E →
      ∃ t, PSs (cxOf CX0 P w K mg base N qual (defScope st) f cdv A outer s H E).nox (defBody st) t ∧ t { nx := fun _ H' => Q .non H', rt := Q } (start N vs) H) : FnG P w K mg base CX0 (k + 1) f fd ps sp := by
  obtain ⟨oc, od, kV, doc, pm, an, cdv, ct, osl, rfl, lk, hcd⟩ := F.ex
  constructor
  · exact len
  intro A outer s H args us vs Q E hr hgd e0 hb r hsp
  have hl := len _ _ _ _ hsp
  have up : ∀ b o, base.get? b = some o → s.heap.get? b = some o := fun b o e => (e0.bs b o e).1
  have KX : K.In s.heap := e0.mod.kin.keeps up
  have lim : s.heap.NoLimit := e0.mod.nolimit.keeps up
  obtain ⟨t, ht, hq⟩ := hbody cdv A outer s H vs Q E (hr.deeper _) hgd hsp
  refine codeAny_call_function hr.depth (KX _ _ lk) rfl S.co S.gen rfl (PySem.W.codeRec_of KX hcd) (hb _ _ _ _ ?_)
  refine wpAny_newFunctionEnv_cells S.kind ?_ ?_
  · rintro ⟨n, v⟩ hy
    rcases S.par n (List.of_mem_zip hy).1 with z | z
    · exact Or.inl z
    · exact Or.inr ⟨z, PySem.W.cellsFrom_some _ _ _ (Or.inl z)⟩
  intro env he s1 x
  subst he
  refine ⟨lim.keeps x.toInCall.keep, codeAny_func ?_⟩
  have I := inv_start (CX := CX0) (E := E) S hr.hd e0 hl r x
  refine wpAny_mono (ht.nox.run [] s1 (start N vs) H _ I hq) ?_ (fun _ _ z => z)
  intro fl s' hs
  cases fl with
  | brk => obtain ⟨_, _, _, z⟩ := hs; exact z.elim
  | cont => obtain ⟨_, _, _, z⟩ := hs; exact z.elim
  | next =>
    obtain ⟨σ', H', J, z⟩ := hs
    exact ⟨V.non, H', J.os, J.bare, J.base, J.hok, rfl, z⟩
  | ret u =>
    obtain ⟨v, σ', H', J, rv, z⟩ := hs
    exact ⟨v, H', J.os, J.bare, J.base, J.hok, rv, z⟩
end
section
variable {X : Cx} {CX : CXT} {k : Nat} {f : Addr} {fd : FuncData} {ps : List Str} {sp : Sp} {x : Str} {e : Expr} {es : List Expr} {ds : List Value} {dvs : List V} {E : XK} {t : TA} {p pos : Pos}
theorem pe_callG (F : FnG X.prog X.w X.K X.mg X.base CX k f fd ps sp) (hr : Room k X.A) (hgd : X.A.guards = some []) (hg : Gl X x) (hm : X.mg x = some (.ref f)) (hk : PySem.W.keepIn X.K (.ref f) = true) (hb : Binds X.K fd ps ds) (hd : Vals dvs ds) (hx : Passes CX X E)
    (ha : PA X (e :: es) t) (hdb : (x == ("__debug__" : Str)) = false := by decide) (he : starEach (e :: es) X.env = (false, eval e X.env) :: starEach es X.env := by rfl) (hpl : (backTo pos (starEach es X.env)).any (·.1) = false := by rfl) :
    PE X (.Call (.Name x p) (e :: es) [] pos) (tCall sp dvs E t) := by
  constructor
  intro pins s σ H Q I h
  refine wpAny_Call_Name_kw (ld_glob I hg hm ?_ hdb)
  refine PySem.W.callWith_K (h₀ := X.base) I.ok.mod.kin hk (thn (ha.run pos pins s σ H _ I h) ?_) he hpl
  rintro us s1 ⟨vs, H1, I1, r, q⟩
  refine ⟨I1.kIn, ?_⟩
  have r2 : Vals (vs ++ dvs) (us ++ ds) := r.append hd
  have hl : (us ++ ds).length = ps.length := by
    rw [← r2.length]
    exact F.len _ _ _ _ q
  refine wpAny_call (codeAny_mono (F.run X.A X.stack s1 H1 ⟨us, []⟩ (us ++ ds) (vs ++ dvs) Q E hr hgd I1.env0 (hb s1 us I1.kIn hl) r2 q) ?_)
  intro res s' hq
  cases res with
  | error e => exact hx pins σ H1 s1 e s' I1 hq
  | ok fl =>
    cases fl with
    | ret u => exact I1.after hq
    | next => exact hq.elim
    | brk => exact hq.elim
    | cont => exact hq.elim
end
/-! ### the law's own call, where no repr is under way -/
theorem law_g {P : Program} {w : World} {K : PySem.W.Frag} {mg mb : Str → Option Value} {CX : CXT} {k : Nat} {fa a : Addr} {fd : FuncData} {x : Str} {sp : Sp} {s₁ : Shared} {vs : List Value} {ns : List Int}
    (KX : K.In s₁.heap) (hns : s₁.heap.Ns mainGlobals mg) (hb : s₁.heap.Ns builtinsNs mb) (hbb : ∀ x : Str, x ≠ "__name__" → mb x = bootBuiltins x) (hlim : s₁.heap.NoLimit) (hg : s₁.gens = #[])
    (ha : s₁.heap.get? a = some { cls := .type "list", data := .seq vs.toArray }) (hi : IntsAre vs ns) (hl : ns.length ≤ sizeLine) (hr : Room k callerA)
    (F : ∀ base : Heap, K.In base → base.Ns mainGlobals mg → FnG P w K mg base CX k fa fd [x] sp) (hbind : ∀ (s : Shared) (u : Value), BindsTo s fd ⟨[u], []⟩ [(x, u)])
    (hsp : ∀ H : Hp, SqL K H a (ns.map V.int) → sp [.ref a] H (fun v _ => v = .bl true) fun _ _ _ => False)
    (hCX : ∀ H e s', CX [] H s₁ (fun _ _ _ => False) e s' → False) :
    codeAny (model P w) callerA (.call (.ref fa) ⟨[.ref a], []⟩) (fun r s' => r = .ok (.ret (.bool true)) ∧ OldK s₁.heap s'.heap ∧ s'.os = s₁.os ∧ AllBare s'.gens) s₁ := by
  have rv := vals_ints hi
  have len0 := hi.length
  let lo : Obj := { cls := .type "list", data := .seq vs.toArray }
  have main : ∀ H : Hp, SqL K H a (ns.map V.int) → HOk P w H s₁.heap → (∀ b u, H b = some u → b = a ∧ u = .frz lo (.lst (ns.map V.int)) ∧ K.lookup a = none) →
      codeAny (model P w) callerA (.call (.ref fa) ⟨[.ref a], []⟩) (fun r s' => r = .ok (.ret (.bool true)) ∧ OldK s₁.heap s'.heap ∧ s'.os = s₁.os ∧ AllBare s'.gens) s₁ := by
    intro H hS hok hA
    have free : ∀ {b : Addr} {o : Obj}, s₁.heap.get? b = some o → (∀ n, o.data ≠ .seq vs.toArray n) → H b = none := by
      intro b o e d
      cases z : H b with
      | none => rfl
      | some u =>
        obtain ⟨rfl, _⟩ := hA b u z
        rw [ha] at e
        cases e
        exact absurd rfl (d _)
    have nsK : ∀ {b : Addr} {m : Str → Option Value}, s₁.heap.Ns b m → (hidT s₁.heap H).Ns b m := by
      rintro b m ⟨o, es, ep, e, d, r⟩
      exact ⟨o, es, ep, hidT_get e (free e fun n => by rw [d]; exact fun z => nomatch z), d, r⟩
    have hKb : K.In (hidT s₁.heap H) := by
      intro b o e
      refine hidT_get (KX b o e) ?_
      cases z : H b with
      | none => rfl
      | some u =>
        obtain ⟨rfl, _, hn⟩ := hA b u z
        rw [hn] at e
        cases e
    obtain ⟨mc, l1, l2⟩ := hlim
    have e0 : Env0 P w K mg (hidT s₁.heap H) callerA [] s₁ H :=
      { frames := rfl, mod := ⟨hKb, nsK hns, ⟨mb, nsK hb, hbb⟩, ⟨mc, nsK l1, l2⟩⟩, bs := fun b o e => of_hidT e, bsz := Nat.le_of_eq (hidT_size _ _), funs := trivial, frf := fun b hb => absurd (show b ∈ ([] : List Addr) from hb) (by simp), hok := hok, bare := .of_eq hg }
    have R := (F _ hKb (nsK hns)).run callerA [] s₁ H ⟨[.ref a], []⟩ [.ref a] [.ref a] _ _ hr rfl e0 (hbind s₁ (.ref a)) (.cons rfl .nil) (hsp H hS)
    refine codeAny_mono R ?_
    intro res s' h
    cases res with
    | error e => exact (hCX H e s' h).elim
    | ok fl =>
      cases fl with
      | next => exact h.elim
      | brk => exact h.elim
      | cont => exact h.elim
      | ret u =>
        obtain ⟨v, H', os, bare, un, hok', r', q⟩ := h
        have q' : v = .bl true := q
        subst q'
        obtain rfl : u = Value.bool true := r'
        refine ⟨rfl, OldK.of_keep ?_, os, bare⟩
        intro b o e
        cases z : H b with
        | none => exact un.keep b o e z (fun y => absurd (show b ∈ ([] : List Addr) from y) (by simp)) (by simp)
        | some u =>
          obtain ⟨rfl, rfl, _⟩ := hA b u z
          obtain ⟨g1, _⟩ := hok _ _ z
          obtain ⟨g2, _⟩ := hok' _ _ (un.frzs _ lo _ z)
          rw [e] at g1
          cases g1
          exact g2
  cases hk : K.lookup a with
  | some o =>
    have e := KX a o hk
    rw [ha] at e
    cases e
    refine main (fun _ => none) ?_ (fun b u z => nomatch z) (fun b u z => nomatch z)
    exact Or.inr ⟨_, vs.toArray, _, hk, rfl, rfl, rfl, by rw [List.size_toArray, len0]; exact hl, by simpa using rv⟩
  | none =>
    have sp1 : ∀ b u, (upd (fun _ => none) a (.frz lo (.lst (ns.map V.int)))) b = some u → b = a ∧ u = .frz lo (.lst (ns.map V.int)) ∧ K.lookup a = none := by
      intro b u z
      by_cases hba : b = a
      · subst hba
        rw [upd_same] at z
        exact ⟨rfl, (Option.some.inj z).symm, hk⟩
      · rw [upd_ne hba] at z
        cases z
    refine main (upd (fun _ => none) a (.frz lo (.lst (ns.map V.int)))) (Or.inl (Or.inr ⟨lo, upd_same⟩)) ?_ sp1
    intro b u z
    obtain ⟨rfl, rfl, _⟩ := sp1 b u z
    exact ⟨ha, by rw [List.length_map]; exact hl, vs, _, rv, ha⟩
theorem walk_g {l : PySem.W.OpenLaw} {n k : Nat} {q : Program} {loose : List Str} {XP : (Str → Option Value) → Heap → Prop} {YP : World → Heap → Prop} {d : DefRec} {K : Params → PySem.W.Frag} {sp : World → Sp} {x : Str}
    (hn : l.most = some n) (hn2 : n ≤ sizeLine) (hdf : d.params.defaults = []) (hr : Room k callerA) (hY : ∀ (w : World) (h : Heap), YP w h → (K w.params).In h)
    (F : ∀ (w : World) (mg : Str → Option Value) (fa : Addr) (h : Heap), (K w.params).In h → h.Ns mainGlobals mg → mg d.name = some (.ref fa) →
      ∃ fd : FuncData, (∀ (s : Shared) (u : Value), BindsTo s fd ⟨[u], []⟩ [(x, u)]) ∧ ∀ base : Heap, (K w.params).In base → base.Ns mainGlobals mg → FnG l.prog w (K w.params) mg base CX0 k fa fd [x] (sp w))
    (hsp : ∀ (w : World) (H : Hp) (a : Addr) (ns : List Int), ns.length ≤ n → SqL (K w.params) H a (ns.map V.int) → sp w [.ref a] H (fun v _ => v = .bl true) fun _ _ _ => False) :
    PySem.W.WalkO q loose XP YP l.row.toRowW d [] (fun f vs => PySem.call f vs) := by
  refine Att.attach_call hn hdf ?_
  intro w s₀ s₁ mg mb fa o pm cd doc a vs ns G Y ho hd hcd hmg hobj hints hlen hg
  obtain ⟨fd, hb, hF⟩ := F w mg fa _ (hY w _ Y) G.T.g hmg
  exact law_g (hY w _ Y) G.T.g G.T.b G.T.builtins G.T.nolimit hg hobj hints (Nat.le_trans hlen hn2) hr hF hb (fun H hS => hsp w H a ns hlen hS) fun _ _ _ z => z
/-! ### repr of data -/
theorem call_reprD {X : Cx} (hgd : X.A.guards = some []) (hu : X.A.units + 64 < cLine) : CallR X (.builtin "repr") (fun xs H Q => ∃ (a : Addr) (d : PyData), xs = [.ref a] ∧ Dp X.K H (.ref a) d ∧ d.canLay0 = true ∧ d.showable = true ∧ d.depth ≤ 60 ∧ d.shown.length ≤ sizeLine ∧ Q (.str d.shown) H) := by
  intro pins s σ H xs us Q I r h
  obtain ⟨a, d, rfl, hd, hl, hs, hdp, hz, q⟩ := h
  obtain ⟨u, rfl, ru⟩ := vals1 r
  cases ru
  obtain ⟨as, rd⟩ := Dp.reads I d (.ref a) (.ref a) hd rfl
  refine repr_of_reads' rd hs (PyData.noDict_hsm (PyData.hasDict_of_canLay d hl)) hgd (by omega) (fun _ _ e => e) ?_ hz
  intro h' u tk hk
  exact ⟨.str d.shown, H, I.kept (t' := tk) hk, ⟨u, rfl⟩, q⟩
end Pc
namespace Pc
open PySem PySem.Spec PyProof.Rows L2 RZ
/-! ### data of small size: its depth is at most k, its text has at most m signs -/
structure Fine (k m : Nat) (d : PyData) : Prop where
  lay : d.canLay0 = true
  show_ : d.showable = true
  depth : d.depth ≤ k
  nar : narrow d
  len : d.shown.length ≤ m
theorem Fine.mono {k m k' m' : Nat} {d : PyData} (h : Fine k m d) (hk : k ≤ k') (hm : m ≤ m') : Fine k' m' d := ⟨h.lay, h.show_, Nat.le_trans h.depth hk, h.nar, Nat.le_trans h.len hm⟩
theorem Fine.shaped {k m : Nat} {d : PyData} (h : Fine k m d) (hk : k ≤ 64) : SeqAt.shaped d = true := by
  unfold SeqAt.shaped
  rw [Bool.and_eq_true]
  exact ⟨h.lay, decide_eq_true (Nat.le_trans h.depth hk)⟩
theorem str_len (t : String) : (Str.ofString t).length = t.length := by
  rw [Str.ofString_eq_toList]
  show (t.toList.map Char.toNat).toArray.size = t.length
  rw [List.size_toArray, List.length_map, String.length_toList]
theorem log_lt {i : Int} {k : Nat} (h : i.natAbs < 2 ^ k) (hk : 0 < k) : i.natAbs.log2 < k := by
  by_cases h0 : i.natAbs = 0
  · rw [h0]; exact hk
  · exact (Nat.log2_lt h0).mpr h
theorem fine_int {i : Int} (h : i.natAbs < 2 ^ 60) : Fine 0 61 (.int i) := by
  have hl := log_lt h (by decide)
  refine ⟨rfl, decide_eq_true (Nat.lt_of_lt_of_le hl (by decide)), Nat.le_refl _, trivial, ?_⟩
  show (Str.ofString (toString i)).length ≤ 61
  rw [str_len]
  exact int_text_length_le (by decide) hl
theorem fine_nat {i : Nat} (h : i < 2 ^ 60) : Fine 0 61 (.int (i : Int)) := fine_int (by rw [Int.natAbs_natCast]; exact h)
theorem all_lay {ds : List PyData} (h : ∀ d ∈ ds, d.canLay0 = true) : PyData.canLayAll0 ds = true := by
  induction ds with
  | nil => rfl
  | cons d r ih =>
    show (d.canLay0 && PyData.canLayAll0 r) = true
    rw [h d List.mem_cons_self, ih fun x hx => h x (List.mem_cons_of_mem _ hx)]; rfl
theorem all_showable {ds : List PyData} (h : ∀ d ∈ ds, d.showable = true) : PyData.showableAll ds = true := by
  induction ds with
  | nil => rfl
  | cons d r ih =>
    show (d.showable && PyData.showableAll r) = true
    rw [h d List.mem_cons_self, ih fun x hx => h x (List.mem_cons_of_mem _ hx)]; rfl
theorem all_depth {ds : List PyData} {k : Nat} (h : ∀ d ∈ ds, d.depth ≤ k) : PyData.depthAll ds ≤ k := by
  induction ds with
  | nil => exact Nat.zero_le _
  | cons d r ih => exact Nat.max_le.mpr ⟨h d List.mem_cons_self, ih fun x hx => h x (List.mem_cons_of_mem _ hx)⟩
theorem all_shown {ds : List PyData} {m : Nat} (h : ∀ d ∈ ds, d.shown.length ≤ m) : ((PyData.shownAll ds).map (·.length)).sum ≤ ds.length * m ∧ (PyData.shownAll ds).length = ds.length := by
  induction ds with
  | nil => exact ⟨Nat.zero_le _, rfl⟩
  | cons d r ih =>
    obtain ⟨h1, h2⟩ := ih fun x hx => h x (List.mem_cons_of_mem _ hx)
    have h3 := h d List.mem_cons_self
    refine ⟨?_, congrArg (· + 1) h2⟩
    show ((d.shown :: PyData.shownAll r).map (·.length)).sum ≤ (r.length + 1) * m
    rw [List.map_cons, List.sum_cons, Nat.add_mul, Nat.one_mul]
    omega
theorem fine_list {ds : List PyData} {k m n : Nat} (h : ∀ d ∈ ds, Fine k m d) (hn : ds.length ≤ n) (hb : n ≤ 100000) : Fine (k + 1) (n * (m + 2) + 3) (.list ds) := by
  refine ⟨all_lay fun d hd => (h d hd).lay, all_showable fun d hd => (h d hd).show_, Nat.succ_le_succ (all_depth fun d hd => (h d hd).depth), ⟨Nat.le_trans hn hb, narrow_of fun d hd => (h d hd).nar⟩, ?_⟩
  obtain ⟨h1, h2⟩ := all_shown fun d hd => (h d hd).len
  have h3 := listText_len_le (PyData.shownAll ds)
  have h4 : ds.length * m ≤ n * m := Nat.mul_le_mul_right _ hn
  show (listText (PyData.shownAll ds)).length ≤ _
  rw [Nat.mul_add]
  omega
theorem fine_tuple {ds : List PyData} {k m n : Nat} (h : ∀ d ∈ ds, Fine k m d) (hn : ds.length ≤ n) (hb : n ≤ 100000) : Fine (k + 1) (n * (m + 2) + 3) (.tuple ds) := by
  refine ⟨all_lay fun d hd => (h d hd).lay, all_showable fun d hd => (h d hd).show_, Nat.succ_le_succ (all_depth fun d hd => (h d hd).depth), ⟨Nat.le_trans hn hb, narrow_of fun d hd => (h d hd).nar⟩, ?_⟩
  obtain ⟨h1, h2⟩ := all_shown fun d hd => (h d hd).len
  have h3 := tupleText_len_le (PyData.shownAll ds)
  have h4 : ds.length * m ≤ n * m := Nat.mul_le_mul_right _ hn
  show (tupleText (PyData.shownAll ds)).length ≤ _
  rw [Nat.mul_add]
  omega
/-- numbers as data -/
def nd (l : List Nat) : List PyData := l.map fun (i : Nat) => PyData.int (i : Int)
theorem nd_length (l : List Nat) : (nd l).length = l.length := List.length_map _
theorem dp_nats {K : PySem.W.Frag} {H : Hp} : ∀ l : List Nat, DpAll K H (nv l) (nd l)
  | [] => .nil
  | i :: r => .cons (.int i) (dp_nats r)
theorem fine_nd {l : List Nat} (h : ∀ i ∈ l, i < 2 ^ 60) : ∀ d ∈ nd l, Fine 0 61 d := fun d hd => by
  obtain ⟨i, hi, rfl⟩ := List.mem_map.mp hd
  exact fine_nat (h i hi)
/-- a tuple of numbers -/
theorem fine_tup {l : List Nat} {n : Nat} (h : ∀ i ∈ l, i < 2 ^ 60) (hn : l.length ≤ n) (hb : n ≤ 100000) : Fine 1 (n * 63 + 3) (.tuple (nd l)) := fine_tuple (fine_nd h) (by rw [nd_length]; exact hn) hb
/-! ### lists of pairs of numbers -/
/-- at the places as stand the pairs ps -/
def Prs (H : Hp) (as : List Addr) (ps : List (Nat × Nat)) : Prop := Paired (fun a (p : Nat × Nat) => H a = some (.tup [.int p.1, .int p.2])) as ps
theorem Prs.length {H : Hp} {as : List Addr} {ps : List (Nat × Nat)} (h : Prs H as ps) : as.length = ps.length := Paired.length h
theorem prs_same {H H' : Hp} (e : Same H H') : ∀ {as : List Addr} {ps : List (Nat × Nat)}, Prs H as ps → Prs H' as ps
  | _, _, .nil => .nil
  | _, _, .cons h r => .cons (e _ _ h) (prs_same e r)
theorem prs_keep {b : Addr} {H H' : Hp} {ys : List V} (k : Keep b H H') (hb : H b = some (.lst ys)) : ∀ {as : List Addr} {ps : List (Nat × Nat)}, Prs H as ps → Prs H' as ps
  | _, _, .nil => .nil
  | _, _, .cons h r => .cons (k.tup hb h) (prs_keep k hb r)
theorem prs_get {H : Hp} : ∀ {as : List Addr} {ps : List (Nat × Nat)} {i : Nat} {a : Addr}, Prs H as ps → as[i]? = some a → ∃ p, ps[i]? = some p ∧ H a = some (.tup [.int p.1, .int p.2])
  | _, _, _, _, .nil, h => by simp at h
  | _, _, 0, _, .cons (b := p) h _, e => by
    cases Option.some.inj e
    exact ⟨p, rfl, h⟩
  | _, _, i + 1, a, .cons _ r, e => prs_get (i := i) r e
theorem prs_append {H : Hp} : ∀ {as bs : List Addr} {ps qs : List (Nat × Nat)}, Prs H as ps → Prs H bs qs → Prs H (as ++ bs) (ps ++ qs)
  | _, _, _, _, .nil, s => s
  | _, _, _, _, .cons h r, s => .cons h (prs_append r s)
def pd (p : Nat × Nat) : PyData := .tuple [.int (p.1 : Int), .int (p.2 : Int)]
theorem prs_dp {K : PySem.W.Frag} {H : Hp} : ∀ {as : List Addr} {ps : List (Nat × Nat)}, Prs H as ps → DpAll K H (as.map V.ref) (ps.map pd)
  | _, _, .nil => .nil
  | _, _, .cons h r => .cons (.tup (.inl (.inl h)) (.cons (.int _) (.cons (.int _) .nil))) (prs_dp r)
theorem fine_pd {p : Nat × Nat} (h1 : p.1 < 2 ^ 60) (h2 : p.2 < 2 ^ 60) : Fine 1 129 (pd p) := fine_tuple (n := 2) (fun d hd => by
  rcases List.mem_cons.mp hd with z | z
  · rw [z]; exact fine_nat h1
  · rw [List.mem_singleton.mp z]; exact fine_nat h2) (Nat.le_refl _) (by decide)
/-- a list of pairs -/
theorem fine_pds {ps : List (Nat × Nat)} {n : Nat} (h : ∀ p ∈ ps, p.1 < 2 ^ 60 ∧ p.2 < 2 ^ 60) (hn : ps.length ≤ n) (hb : n ≤ 100000) : Fine 2 (n * 131 + 3) (.list (ps.map pd)) :=
  fine_list (fun d hd => by
    obtain ⟨p, hp, rfl⟩ := List.mem_map.mp hd
    exact fine_pd (h p hp).1 (h p hp).2) (by rw [List.length_map]; exact hn) hb
end Pc
namespace Pc
open PySem PySem.Spec PyProof.Rows L2 RZ
/-! ### a list or a tuple: walked, unpacked -/
/-- a list or a tuple is read -/
def Sq (K : PySem.W.Frag) (H : Hp) (a : Addr) (xs : List V) : Prop := SqL K H a xs ∨ SqT K H a xs
theorem Sq.same {K : PySem.W.Frag} {H H' : Hp} {a : Addr} {xs : List V} (h : Sq K H a xs) (e : Same H H') : Sq K H' a xs := h.imp (fun z => e.seq z) (fun z => same_tup e z)
def iSeq (K : PySem.W.Frag) (tl : TE) : TI := fun σ H R => tl σ H fun x H1 => ∃ a, x = .ref a ∧ (((∃ xs, SqL K H1 a xs) ∧ R (Itl K a) H1) ∨ ((∃ xs, SqT K H1 a xs) ∧ R (Itt K a) H1))
section
variable {X : Cx}
theorem pi_seq {tg l : Expr} {tl : TE} (hl : PE X l tl) : PI X tg l (iSeq X.K tl) := by
  constructor
  intro pins s σ H R I h
  refine thn (hl.run pins s σ H _ I h) ?_
  rintro v s1 ⟨x, H1, I1, r1, a, ex, q⟩
  subst ex
  cases r1
  rcases q with ⟨⟨xs, hx⟩, q⟩ | ⟨⟨xs, hx⟩, q⟩
  · obtain ⟨its, _, p, _⟩ := I1.list hx
    refine wpAny_pyIter_list p.isList ?_
    exact pi_one (tk := s1.toks) I1 _ (turn_list _ _) ⟨_, Heap.get?_push_size _ rfl, rfl, rfl⟩ q
  · obtain ⟨its, _, p, _⟩ := I1.tuple hx
    refine wpAny_pyIter_tuple p ?_
    exact pi_one (tk := s1.toks) I1 _ (turn_tuple _ _) ⟨_, Heap.get?_push_size _ rfl, rfl, rfl⟩ q
/-- names unpacked from a tuple or a list -/
def gSeq (K : PySem.W.Frag) (n : Nat) (t : TGs) : TG := fun v σ H Q => ∃ a xs, v = .ref a ∧ Sq K H a xs ∧ xs.length = n ∧ t xs σ H Q
theorem pg_seq {es : List Expr} {k : Nat} {t : TGs} {n : Nat} {pos : Pos} (hc : X.calm = true) (h : PGs X es t)
    (hn : (assignEach es X.env).length = n := by rfl) (hst : (assignEach es X.env).findIdx? (·.1) = none := by rfl) : PG X (.Tuple es k pos) (gSeq X.K n t) := by
  constructor
  intro pins s σ H v u Q I r hw
  obtain ⟨a, xs, e, hq, hl, hw⟩ := hw
  rcases hq with hq | hq
  · exact (pg_unl (pos := pos) (k := k) hc h hn hst).run pins s σ H v u Q I r ⟨a, xs, e, hq, hl, hw⟩
  · exact (pg_tup (pos := pos) (k := k) hc h hn hst).run pins s σ H v u Q I r ⟨a, xs, e, hq, hl, hw⟩
/-! ### a call with keywords alone -/
def tKw (n : Nat) (sp : Sp) (gV : List V → List V) (E : XK) (tk : TA) : TE := fun σ H Q => tk σ H fun zs H1 => zs.length = n ∧ sp (gV zs) H1 Q E
theorem pe_kw {CX : CXT} {k : Nat} {f : Addr} {fd : FuncData} {ps ks : List Str} {sp : Sp} {E : XK} {x : Str} {p pos : Pos} {kws : List Keyword} {tk : TA} {g : List Value → List Value} {gV : List V → List V}
    (F : FnOk X.prog X.w X.K X.mg X.base CX k f fd ps sp) (hr : Room k X.A) (hg : Gl X x) (hm : X.mg x = some (.ref f)) (hk : PySem.W.keepIn X.K (.ref f) = true)
    (hb : ∀ (s : Shared) (ws : List Value), ws.length = ks.length → BindsTo s fd ⟨[], ks.zip ws⟩ (ps.zip (g ws))) (rel : ∀ {zs : List V} {ws : List Value}, zs.length = ks.length → Vals zs ws → Vals (gV zs) (g ws)) (hx : Passes CX X E) (hkw : PK X kws tk)
    (hall : (backToKw pos (keywordEach kws X.env)).all (·.1.isSome) = true := by rfl) (hks : (backToKw pos (keywordEach kws X.env)).filterMap (·.1) = ks := by rfl) (hdb : (x == ("__debug__" : Str)) = false := by decide)
    (hpl : ((backTo pos (starEach [] X.env)).any (·.1) || (backToKw pos (keywordEach kws X.env)).any (·.1.isNone)) = false := by rfl) :
    PE X (.Call (.Name x p) [] kws pos) (tKw ks.length sp gV E tk) := by
  constructor
  intro pins s σ H Q I h
  refine wpAny_Call_Name_kw (ld_glob I hg hm ?_ hdb)
  refine PySem.W.callWith_KW0 (h₀ := X.base) I.ok.mod.kin hk hall (thn (hkw.run pos pins s σ H _ I h) ?_) hpl
  rintro ws s2 ⟨zs, H2, I2, rz, hz, q⟩
  refine ⟨I2.kIn, ?_⟩
  rw [hks]
  refine wpAny_call (codeAny_mono (F.run X.A X.stack s2 H2 ⟨[], ks.zip ws⟩ (g ws) (gV zs) Q E hr I2.env0 (hb s2 ws (by rw [← rz.length, hz])) (rel hz rz) q) ?_)
  intro res s' hq
  cases res with
  | error e => exact hx pins σ H2 s2 e s' I2 hq
  | ok fl =>
    cases fl with
    | ret u => exact I2.after hq
    | next => exact hq.elim
    | brk => exact hq.elim
    | cont => exact hq.elim
end
theorem kw_to {K : PySem.W.Frag} {x qual : Str} {st : Stmt} {f : Addr} {fd : FuncData} {ps ks : List Str} {g : List Value → List Value} (F : Fun K x qual st f fd)
    (h : ∀ (kV doc pm : Value) (an : Option Addr) (cdv ct : Value) (ws : List Value), ws.length = ks.length → bindArgs (PySem.W.fnOf x qual (defArgs st) (defBody st) (defScope st) .none kV doc pm an cdv ct) ⟨[], ks.zip ws⟩ = pure (ps.zip (g ws))) :
    ∀ (s : Shared) (ws : List Value), ws.length = ks.length → BindsTo s fd ⟨[], ks.zip ws⟩ (ps.zip (g ws)) := by
  obtain ⟨oc, od, kV, doc, pm, an, cdv, ct, osl, rfl, lk, hcd⟩ := F.ex
  intro s ws hl
  exact .of_eq (h kV doc pm an cdv ct ws hl)
end Pc
namespace Pc
open PySem PySem.Spec PyProof.Rows L2 RZ
/-! ### the couples of a pairing -/
/-- the couples whose first person is below i -/
def cplN (ps : List Nat) (i : Nat) : List (Nat × Nat) := ((List.range i).filter fun x => decide (x < ps.getD x 0)).map fun x => (x, ps.getD x 0)
def cpl (ps : List Nat) : List (Nat × Nat) := cplN ps ps.length
theorem getD_of {ps : List Nat} {x y : Nat} (h : ps[x]? = some y) : ps.getD x 0 = y := by
  rw [List.getD_eq_getElem?_getD, h]; rfl
theorem cplN_yes {ps : List Nat} {i y : Nat} (h : ps[i]? = some y) (hl : i < y) : cplN ps (i + 1) = cplN ps i ++ [(i, y)] := by
  unfold cplN
  rw [List.range_succ, List.filter_append, List.map_append]
  congr 1
  rw [List.filter_cons_of_pos (by rw [getD_of h]; exact decide_eq_true hl), List.filter_nil, List.map_cons, List.map_nil, getD_of h]
theorem cplN_no {ps : List Nat} {i y : Nat} (h : ps[i]? = some y) (hl : ¬ i < y) : cplN ps (i + 1) = cplN ps i := by
  unfold cplN
  rw [List.range_succ, List.filter_append, List.map_append, List.filter_cons_of_neg (by rw [getD_of h]; simpa using hl), List.filter_nil, List.map_nil, List.append_nil]
theorem cplN_len (ps : List Nat) (i : Nat) : (cplN ps i).length ≤ i := by
  unfold cplN
  rw [List.length_map]
  exact Nat.le_trans (List.length_filter_le _ _) (by rw [List.length_range]; exact Nat.le_refl _)
theorem mem_cpl {n : Nat} {ps : List Nat} (h : IsPair n ps) {p : Nat × Nat} : p ∈ cpl ps ↔ ps[p.1]? = some p.2 ∧ p.1 < p.2 := by
  unfold cpl cplN
  rw [h.len]
  constructor
  · intro hp
    obtain ⟨x, hx, rfl⟩ := List.mem_map.mp hp
    obtain ⟨h1, h2⟩ := List.mem_filter.mp hx
    obtain ⟨y, e, _⟩ := h.par x (List.mem_range.mp h1)
    rw [getD_of e] at h2 ⊢
    exact ⟨e, of_decide_eq_true h2⟩
  · rintro ⟨e, hl⟩
    refine List.mem_map.mpr ⟨p.1, List.mem_filter.mpr ⟨List.mem_range.mpr ?_, ?_⟩, ?_⟩
    · rw [← h.len]; exact get_lt e
    · rw [getD_of e]; exact decide_eq_true hl
    · rw [getD_of e]
theorem IsPair.back {n : Nat} {ps : List Nat} (h : IsPair n ps) {x y : Nat} (e : ps[x]? = some y) : ps[y]? = some x ∧ y < n ∧ x < n ∧ y ≠ x := by
  have hx : x < n := by rw [← h.len]; exact get_lt e
  obtain ⟨z, e1, e2, e3, e4⟩ := h.par x hx
  cases Option.some.inj (e.symm.trans e1)
  exact ⟨e4, e2, hx, e3⟩
theorem cpl_cover {n : Nat} {ps : List Nat} (h : IsPair n ps) {z : Nat} (hz : z < n) : ∃ p ∈ cpl ps, p.1 = z ∨ p.2 = z := by
  obtain ⟨y, e1, e2, e3, e4⟩ := h.par z hz
  rcases Nat.lt_or_gt_of_ne e3 with l | l
  · exact ⟨(y, z), (mem_cpl h).mpr ⟨e4, l⟩, .inr rfl⟩
  · exact ⟨(z, y), (mem_cpl h).mpr ⟨e1, l⟩, .inl rfl⟩
theorem filter_split {α : Type} (f : α → Bool) : ∀ l : List α, (l.filter f).length + (l.filter fun x => !f x).length = l.length
  | [] => rfl
  | a :: r => by
    have ih := filter_split f r
    cases e : f a with
    | true => rw [List.filter_cons_of_pos e, List.filter_cons_of_neg (by rw [e]; decide), List.length_cons, List.length_cons]; omega
    | false => rw [List.filter_cons_of_neg (by rw [e]; decide), List.filter_cons_of_pos (by rw [e]; rfl), List.length_cons, List.length_cons]; omega
theorem cpl_half {n : Nat} {ps : List Nat} (h : IsPair n ps) : 2 * (cpl ps).length = n := by
  have e1 : (cpl ps).length = ((List.range n).filter fun x => decide (x < ps.getD x 0)).length := by
    unfold cpl cplN; rw [List.length_map, h.len]
  have inj : ∀ x y, x < n → y < n → ps.getD x 0 = ps.getD y 0 → x = y := fun x y hx hy e => by
    obtain ⟨u, a1, _, _, a4⟩ := h.par x hx
    obtain ⟨v, b1, _, _, b4⟩ := h.par y hy
    rw [getD_of a1, getD_of b1] at e
    subst e
    exact Option.some.inj (a4.symm.trans b4)
  have nd0 : (List.range n).Nodup := List.nodup_range
  have p1 : (((List.range n).filter fun x => decide (x < ps.getD x 0)).map fun x => ps.getD x 0).Perm ((List.range n).filter fun x => !decide (x < ps.getD x 0)) := by
    refine (List.perm_ext_iff_of_nodup ?_ (nd0.filter _)).mpr fun z => ?_
    · refine List.Pairwise.map _ (fun a b hab => hab) ?_
      refine List.Pairwise.imp_of_mem (fun {a b} ha hb hab => ?_) (nd0.filter fun x => decide (x < ps.getD x 0))
      exact fun e => hab (inj a b (List.mem_range.mp (List.mem_filter.mp ha).1) (List.mem_range.mp (List.mem_filter.mp hb).1) e)
    · constructor
      · intro hz
        obtain ⟨x, hx, rfl⟩ := List.mem_map.mp hz
        obtain ⟨h1, h2⟩ := List.mem_filter.mp hx
        obtain ⟨y, a1, a2, a3, a4⟩ := h.par x (List.mem_range.mp h1)
        rw [getD_of a1] at h2 ⊢
        have h3 := of_decide_eq_true h2
        refine List.mem_filter.mpr ⟨List.mem_range.mpr a2, ?_⟩
        rw [getD_of a4, decide_eq_false (by omega)]; rfl
      · intro hz
        obtain ⟨h1, h2⟩ := List.mem_filter.mp hz
        obtain ⟨y, a1, a2, a3, a4⟩ := h.par z (List.mem_range.mp h1)
        rw [getD_of a1] at h2
        have h3 : ¬ z < y := by simpa using h2
        refine List.mem_map.mpr ⟨y, List.mem_filter.mpr ⟨List.mem_range.mpr a2, ?_⟩, getD_of a4⟩
        rw [getD_of a4]
        exact decide_eq_true (by omega)
  have e2 := p1.length_eq
  rw [List.length_map] at e2
  have e3 := filter_split (fun x => decide (x < ps.getD x 0)) (List.range n)
  rw [List.length_range] at e3
  omega
/-- what pairs must be so that they make the pairing ps -/
structure Makes (qs : List (Nat × Nat)) (ps : List Nat) : Prop where
  half : 2 * qs.length = ps.length
  ok : ∀ p ∈ qs, ps[p.1]? = some p.2 ∧ ps[p.2]? = some p.1
  all : ∀ z, z < ps.length → ∃ p ∈ qs, p.1 = z ∨ p.2 = z
theorem makes_cpl {n : Nat} {ps : List Nat} (h : IsPair n ps) : Makes (cpl ps) ps where
  half := by rw [cpl_half h, h.len]
  ok p hp := by
    obtain ⟨e, _⟩ := (mem_cpl h).mp hp
    exact ⟨e, (h.back e).1⟩
  all z hz := cpl_cover h (by rw [← h.len]; exact hz)
/-- the pairs of qs in any order, turned or not -/
theorem Makes.turned {qs rs : List (Nat × Nat)} {ps : List Nat} (h : Makes qs ps) (hl : rs.length = qs.length) (h1 : ∀ p ∈ rs, p ∈ qs ∨ (p.2, p.1) ∈ qs) (h2 : ∀ p ∈ qs, p ∈ rs ∨ (p.2, p.1) ∈ rs) : Makes rs ps where
  half := by rw [hl]; exact h.half
  ok p hp := by
    rcases h1 p hp with z | z
    · exact h.ok p z
    · obtain ⟨a, b⟩ := h.ok _ z
      exact ⟨b, a⟩
  all z hz := by
    obtain ⟨p, hp, e⟩ := h.all z hz
    rcases h2 p hp with q | q
    · exact ⟨p, q, e⟩
    · exact ⟨_, q, e.symm⟩
def CInv (ps : List Nat) (qs : List (Nat × Nat)) (fs : List Nat) (i : Nat) : Prop := fs.length = ps.length ∧ ∀ j, j < i → ∀ p, qs[j]? = some p → fs[p.1]? = ps[p.1]? ∧ fs[p.2]? = ps[p.2]?
theorem set_keeps {ps fs : List Nat} {x y z : Nat} (hy : ps[x]? = some y) (hx : x < fs.length) (h : fs[z]? = ps[z]?) : (fs.set x y)[z]? = ps[z]? := by
  by_cases e : x = z
  · subst e
    rw [List.getElem?_set_self hx, hy]
  · rw [List.getElem?_set_ne e]; exact h
theorem CInv.step {ps fs : List Nat} {qs : List (Nat × Nat)} {i : Nat} {p : Nat × Nat} (m : Makes qs ps) (h : CInv ps qs fs i) (hp : qs[i]? = some p) : CInv ps qs ((fs.set p.1 p.2).set p.2 p.1) (i + 1) := by
  obtain ⟨hl, hj⟩ := h
  obtain ⟨o1, o2⟩ := m.ok p (List.mem_of_getElem? hp)
  have l1 : p.1 < fs.length := by rw [hl]; exact get_lt o1
  have l2 : p.2 < (fs.set p.1 p.2).length := by rw [List.length_set, hl]; exact get_lt o2
  refine ⟨by rw [List.length_set, List.length_set, hl], fun j hj2 r hr => ?_⟩
  by_cases e : j = i
  · subst e
    cases Option.some.inj (hp.symm.trans hr)
    refine ⟨set_keeps o2 l2 ?_, ?_⟩
    · rw [List.getElem?_set_self l1, o1]
    · rw [List.getElem?_set_self l2, o2]
  · obtain ⟨a, b⟩ := hj j (by omega) r hr
    exact ⟨set_keeps o2 l2 (set_keeps o1 l1 a), set_keeps o2 l2 (set_keeps o1 l1 b)⟩
theorem CInv.done {ps fs : List Nat} {qs : List (Nat × Nat)} (m : Makes qs ps) (h : CInv ps qs fs qs.length) : fs = ps := by
  refine List.ext_getElem? fun z => ?_
  by_cases hz : z < ps.length
  · obtain ⟨p, hp, e⟩ := m.all z hz
    obtain ⟨i, hi, ei⟩ := List.mem_iff_getElem.mp hp
    obtain ⟨a, b⟩ := h.2 i hi p (by rw [List.getElem?_eq_getElem hi, ei])
    rcases e with e | e
    · rw [← e]; exact a
    · rw [← e]; exact b
  · rw [List.getElem?_eq_none (by rw [h.1]; omega), List.getElem?_eq_none (by omega)]
end Pc
namespace Pc
open PySem PySem.Spec PyProof.Rows L2 RZ
section
variable {K : PySem.W.Frag}
/-- the values us are the pairs qs, each a tuple or a list -/
def Items (K : PySem.W.Frag) (H : Hp) (us : List V) (qs : List (Nat × Nat)) : Prop := us.length = qs.length ∧ ∀ (i : Nat) (v : V), us[i]? = some v → ∃ (c : Addr) (p : Nat × Nat), v = .ref c ∧ qs[i]? = some p ∧ Sq K H c [.int p.1, .int p.2]
theorem Items.same {H H' : Hp} {us : List V} {qs : List (Nat × Nat)} (h : Items K H us qs) (e : Same H H') : Items K H' us qs := ⟨h.1, fun i v hv => by
  obtain ⟨c, p, h1, h2, h3⟩ := h.2 i v hv
  exact ⟨c, p, h1, h2, h3.same e⟩⟩
theorem items_of {H : Hp} {as : List Addr} {qs : List (Nat × Nat)} (h : Prs H as qs) : Items K H (as.map V.ref) qs := ⟨by rw [List.length_map]; exact h.length, fun i v hv => by
  rw [List.getElem?_map] at hv
  cases e : as[i]? with
  | none => rw [e] at hv; cases hv
  | some c =>
    rw [e] at hv
    obtain ⟨p, h1, h2⟩ := prs_get h e
    exact ⟨c, p, (Option.some.inj hv).symm, h1, .inr (.inl (.inl h2))⟩⟩
end
end Pc
namespace Pc
open PySem PySem.Spec PyProof.Rows L2 RZ
theorem paired_perm {α β : Type} {R : α → β → Prop} {as bs : List α} (h : as.Perm bs) : ∀ ps : List β, Paired R as ps → ∃ qs : List β, qs.Perm ps ∧ Paired R bs qs := by
  induction h with
  | nil => exact fun ps h => ⟨ps, List.Perm.refl _, h⟩
  | cons x _ ih =>
    intro ps h
    cases h with
    | cons r t =>
      obtain ⟨qs, h1, h2⟩ := ih _ t
      exact ⟨_ :: qs, h1.cons _, .cons r h2⟩
  | swap x y l =>
    intro ps h
    cases h with
    | cons r t =>
      cases t with
      | cons r2 t2 => exact ⟨_, List.Perm.swap _ _ _, .cons r2 (.cons r t2)⟩
  | trans _ _ ih1 ih2 =>
    intro ps h
    obtain ⟨qs, h1, h2⟩ := ih1 ps h
    obtain ⟨rs, h3, h4⟩ := ih2 qs h2
    exact ⟨rs, h3.trans h1, h4⟩
/-- the same pairs, some turned -/
def Turned (qs rs : List (Nat × Nat)) : Prop := rs.length = qs.length ∧ ∀ (j : Nat) (p q : Nat × Nat), qs[j]? = some p → rs[j]? = some q → q = p ∨ q = (p.2, p.1)
theorem Turned.mem1 {qs rs : List (Nat × Nat)} (h : Turned qs rs) : ∀ p ∈ rs, p ∈ qs ∨ (p.2, p.1) ∈ qs := fun p hp => by
  obtain ⟨j, hj, e⟩ := List.mem_iff_getElem.mp hp
  obtain ⟨q, hq⟩ := get_some (l := qs) (i := j) (by rw [← h.1]; exact hj)
  rcases h.2 j q p hq (by rw [List.getElem?_eq_getElem hj, e]) with z | z
  · exact .inl (z ▸ List.mem_of_getElem? hq)
  · refine .inr ?_
    rw [z]
    exact List.mem_of_getElem? hq
theorem Turned.mem2 {qs rs : List (Nat × Nat)} (h : Turned qs rs) : ∀ p ∈ qs, p ∈ rs ∨ (p.2, p.1) ∈ rs := fun p hp => by
  obtain ⟨j, hj, e⟩ := List.mem_iff_getElem.mp hp
  obtain ⟨q, hq⟩ := get_some (l := rs) (i := j) (by rw [h.1]; exact hj)
  rcases h.2 j p q (by rw [List.getElem?_eq_getElem hj, e]) hq with z | z
  · exact .inl (z ▸ List.mem_of_getElem? hq)
  · exact .inr (z ▸ List.mem_of_getElem? hq)
theorem Makes.perm {qs rs : List (Nat × Nat)} {ps : List Nat} (h : Makes qs ps) (e : rs.Perm qs) : Makes rs ps := h.turned e.length_eq (fun p hp => .inl (e.mem_iff.mp hp)) (fun p hp => .inl (e.mem_iff.mpr hp))
theorem IsPair.lt {n : Nat} {ps : List Nat} (h : IsPair n ps) : ∀ i ∈ ps, i < n := fun i hi => by
  obtain ⟨x, hx, e⟩ := List.mem_iff_getElem.mp hi
  obtain ⟨y, e1, e2, _⟩ := h.par x (by rw [← h.len]; exact hx)
  rw [List.getElem?_eq_getElem hx, e] at e1
  cases Option.some.inj e1
  exact e2
theorem Makes.lt {qs : List (Nat × Nat)} {ps : List Nat} (h : Makes qs ps) : ∀ p ∈ qs, p.1 < ps.length ∧ p.2 < ps.length := fun p hp => ⟨get_lt (h.ok p hp).1, get_lt (h.ok p hp).2⟩
theorem iteN {A B : Prop} (h : B) : if (!true) = true then A else B := by
  rw [if_neg (by decide)]
  exact h
end Pc
namespace Pc
open PySem PySem.Spec PyProof.Rows L2 RZ
/-! ### a loop over a list or a tuple that stays as it is -/
theorem for_seq {K : PySem.W.Frag} {a : Addr} {xs : List V} {g : TG} {tb : TS} {D : Ends} {σ : L2.St} {H0 H : Hp} (hS : Sq K H0 a xs) (Pv : Nat → L2.St → Hp → Prop) (h0 : Pv 0 σ H) (hst : ∀ i σ H', Pv i σ H' → Same H0 H')
    (hs : ∀ i x σ H', xs[i]? = some x → Pv i σ H' → g x σ H' fun σ2 H2 => tb { D with nx := Pv (i + 1), ct := Pv (i + 1), bk := D.nx } σ2 H2) (hd : ∀ σ H', Pv xs.length σ H' → D.nx σ H') :
    ((∃ ys, SqL K H a ys) ∧ ∃ W : Nat → Nat → L2.St → Hp → Prop, (∃ m, W 0 m σ H) ∧ ∀ i m σ H, W i m σ H → ((Itl K a).stop i H ∧ D.nx σ H) ∨ ((Itl K a).go i H ∧ ∃ N : L2.St → Hp → Prop, (∀ σ' H', N σ' H' → ∃ m', m' < m ∧ W (i + 1) m' σ' H') ∧ ∀ x H', (Itl K a).yld i H x H' → g x σ H' fun σ2 H2 => tb { D with nx := N, ct := N, bk := D.nx } σ2 H2)) ∨
    ((∃ ys, SqT K H a ys) ∧ ∃ W : Nat → Nat → L2.St → Hp → Prop, (∃ m, W 0 m σ H) ∧ ∀ i m σ H, W i m σ H → ((Itt K a).stop i H ∧ D.nx σ H) ∨ ((Itt K a).go i H ∧ ∃ N : L2.St → Hp → Prop, (∀ σ' H', N σ' H' → ∃ m', m' < m ∧ W (i + 1) m' σ' H') ∧ ∀ x H', (Itt K a).yld i H x H' → g x σ H' fun σ2 H2 => tb { D with nx := N, ct := N, bk := D.nx } σ2 H2)) := by
  rcases hS with h | h
  · exact .inl ⟨⟨_, (hst 0 σ H h0).seq h⟩, for_list Pv h0 (fun i σ H' _ p => (hst i σ H' p).seq h) hs hd⟩
  · exact .inr ⟨⟨_, same_tup (hst 0 σ H h0) h⟩, for_tup Pv h0 (fun i σ H' _ p => same_tup (hst i σ H' p) h) hs hd⟩
/-! ### two are joined, and the two that are left -/
def jn (fs : List Nat) (a b : Nat) : List Nat := if fs.getD a 0 = b then fs else (((fs.set a b).set b a).set (fs.getD a 0) (fs.getD b 0)).set (fs.getD b 0) (fs.getD a 0)
theorem jn_len (fs : List Nat) (a b : Nat) : (jn fs a b).length = fs.length := by
  unfold jn
  split
  · rfl
  · simp only [List.length_set]
/-- the four are different -/
theorem four {n : Nat} {fs : List Nat} (h : IsPair n fs) {a b c d : Nat} (hab : a ≠ b) (ea : fs[a]? = some c) (eb : fs[b]? = some d) (hcb : c ≠ b) : c ≠ a ∧ d ≠ b ∧ d ≠ a ∧ c ≠ d ∧ a < n ∧ b < n ∧ c < n ∧ d < n := by
  obtain ⟨a1, a2, a3, a4⟩ := h.back ea
  obtain ⟨b1, b2, b3, b4⟩ := h.back eb
  refine ⟨a4, b4, fun e => ?_, fun e => ?_, a3, b3, a2, b2⟩
  · rw [e, ea] at b1; exact hcb (Option.some.inj b1)
  · rw [e, b1] at a1; exact hab (Option.some.inj a1).symm
theorem jn_same {fs : List Nat} {a b : Nat} (e : fs[a]? = some b) : jn fs a b = fs := by
  unfold jn
  rw [getD_of e, if_pos rfl]
theorem jn_get {n : Nat} {fs : List Nat} (h : IsPair n fs) {a b c d : Nat} (hab : a ≠ b) (ea : fs[a]? = some c) (eb : fs[b]? = some d) (hcb : c ≠ b) (z : Nat) :
    (jn fs a b)[z]? = if z = a then some b else if z = b then some a else if z = c then some d else if z = d then some c else fs[z]? := by
  obtain ⟨x1, x2, x3, x4, l1, l2, l3, l4⟩ := four h hab ea eb hcb
  unfold jn
  rw [getD_of ea, getD_of eb, if_neg hcb]
  have hl := h.len
  by_cases z4 : z = d
  · subst z4
    rw [List.getElem?_set_self (by simp only [List.length_set]; omega), if_neg x3, if_neg x2, if_neg (Ne.symm x4), if_pos rfl]
  · rw [List.getElem?_set_ne (Ne.symm z4)]
    by_cases z3 : z = c
    · subst z3
      rw [List.getElem?_set_self (by simp only [List.length_set]; omega), if_neg x1, if_neg hcb, if_pos rfl]
    · rw [List.getElem?_set_ne (Ne.symm z3)]
      by_cases z2 : z = b
      · subst z2
        rw [List.getElem?_set_self (by simp only [List.length_set]; omega), if_neg (Ne.symm hab), if_pos rfl]
      · rw [List.getElem?_set_ne (Ne.symm z2)]
        by_cases z1 : z = a
        · subst z1
          rw [List.getElem?_set_self (by omega), if_pos rfl]
        · rw [List.getElem?_set_ne (Ne.symm z1), if_neg z1, if_neg z2, if_neg z3, if_neg z4]
theorem jn_pair {n : Nat} {fs : List Nat} (h : IsPair n fs) {a b : Nat} (hab : a ≠ b) (ha : a < n) (hb : b < n) : IsPair n (jn fs a b) := by
  obtain ⟨c, ea, _⟩ := h.par a ha
  obtain ⟨d, eb, _⟩ := h.par b hb
  by_cases hcb : c = b
  · subst hcb; rw [jn_same ea]; exact h
  · have G := jn_get h hab ea eb hcb
    obtain ⟨x1, x2, x3, x4, _, _, l3, l4⟩ := four h hab ea eb hcb
    refine ⟨by rw [jn_len]; exact h.len, fun x hx => ?_⟩
    by_cases z1 : x = a
    · subst z1
      exact ⟨b, by rw [G, if_pos rfl], hb, hab.symm, by rw [G, if_neg hab.symm, if_pos rfl]⟩
    · by_cases z2 : x = b
      · subst z2
        exact ⟨a, by rw [G, if_neg z1, if_pos rfl], ha, hab, by rw [G, if_pos rfl]⟩
      · by_cases z3 : x = c
        · subst z3
          exact ⟨d, by rw [G, if_neg z1, if_neg z2, if_pos rfl], l4, x4.symm, by rw [G, if_neg x3, if_neg x2, if_neg x4.symm, if_pos rfl]⟩
        · by_cases z4 : x = d
          · subst z4
            exact ⟨c, by rw [G, if_neg z1, if_neg z2, if_neg z3, if_pos rfl], l3, x4, by rw [G, if_neg x1, if_neg hcb, if_pos rfl]⟩
          · obtain ⟨y, e1, e2, e3, e4⟩ := h.par x hx
            have back : ∀ {u : Nat}, y = u → fs[u]? = some x := fun e => by rw [← e]; exact e4
            refine ⟨y, by rw [G, if_neg z1, if_neg z2, if_neg z3, if_neg z4]; exact e1, e2, e3, ?_⟩
            rw [G, if_neg, if_neg, if_neg, if_neg]
            · exact e4
            · intro e; have q := back e; rw [(h.back eb).1] at q; exact z2 (Option.some.inj q).symm
            · intro e; have q := back e; rw [(h.back ea).1] at q; exact z1 (Option.some.inj q).symm
            · intro e; have q := back e; rw [eb] at q; exact z4 (Option.some.inj q).symm
            · intro e; have q := back e; rw [ea] at q; exact z3 (Option.some.inj q).symm
/-- all pairs are calls of n people -/
def Calls (n : Nat) (qs : List (Nat × Nat)) : Prop := ∀ q ∈ qs, q.1 < q.2 ∧ q.2 < n
/-- the calls done one after another -/
def runs (qs : List (Nat × Nat)) (ps : List Nat) : List Nat := qs.foldl (fun fs q => jn fs q.1 q.2) ps
theorem runs_take {qs : List (Nat × Nat)} {ps : List Nat} {i : Nat} {q : Nat × Nat} (h : qs[i]? = some q) : runs (qs.take (i + 1)) ps = jn (runs (qs.take i) ps) q.1 q.2 := by
  unfold runs
  rw [List.take_add_one, h, List.foldl_append]
  rfl
theorem runs_pair {n : Nat} : ∀ (qs : List (Nat × Nat)) {ps : List Nat}, IsPair n ps → Calls n qs → IsPair n (runs qs ps)
  | [], _, h, _ => h
  | q :: r, ps, h, hc => by
    have h1 := hc q List.mem_cons_self
    exact runs_pair r (jn_pair h (by omega) (by omega) h1.2) (fun x hx => hc x (List.mem_cons_of_mem _ hx))
theorem Calls.take {n : Nat} {qs : List (Nat × Nat)} (h : Calls n qs) (i : Nat) : Calls n (qs.take i) := fun q hq => h q (List.mem_of_mem_take hq)
end Pc
namespace Pc
open PySem PySem.Spec PyProof.Rows L2 RZ
/-! ### lists of tuples of numbers -/
def Tups (H : Hp) (as : List Addr) (ls : List (List Nat)) : Prop := Paired (fun a l => H a = some (.tup (nv l))) as ls
theorem Tups.length {H : Hp} {as : List Addr} {ls : List (List Nat)} (h : Tups H as ls) : as.length = ls.length := Paired.length h
theorem tups_same {H H' : Hp} (e : Same H H') : ∀ {as : List Addr} {ls : List (List Nat)}, Tups H as ls → Tups H' as ls
  | _, _, .nil => .nil
  | _, _, .cons h r => .cons (e _ _ h) (tups_same e r)
theorem tups_keep {b : Addr} {H H' : Hp} {ys : List V} (k : Keep b H H') (hb : H b = some (.lst ys)) : ∀ {as : List Addr} {ls : List (List Nat)}, Tups H as ls → Tups H' as ls
  | _, _, .nil => .nil
  | _, _, .cons h r => .cons (k.tup hb h) (tups_keep k hb r)
theorem tups_append {H : Hp} : ∀ {as bs : List Addr} {ls ms : List (List Nat)}, Tups H as ls → Tups H bs ms → Tups H (as ++ bs) (ls ++ ms)
  | _, _, _, _, .nil, s => s
  | _, _, _, _, .cons h r, s => .cons h (tups_append r s)
theorem tups_get {H : Hp} : ∀ {as : List Addr} {ls : List (List Nat)} {i : Nat} {a : Addr}, Tups H as ls → as[i]? = some a → ∃ l, ls[i]? = some l ∧ H a = some (.tup (nv l))
  | _, _, _, _, .nil, h => by simp at h
  | _, _, 0, _, .cons (b := p) h _, e => by
    cases Option.some.inj e
    exact ⟨p, rfl, h⟩
  | _, _, i + 1, a, .cons _ r, e => tups_get (i := i) r e
def td (l : List Nat) : PyData := .tuple (nd l)
theorem tups_dp {K : PySem.W.Frag} {H : Hp} : ∀ {as : List Addr} {ls : List (List Nat)}, Tups H as ls → DpAll K H (as.map V.ref) (ls.map td)
  | _, _, .nil => .nil
  | _, _, .cons (b := l) h r => .cons (.tup (.inl (.inl h)) (dp_nats l)) (tups_dp r)
theorem fine_tds {ls : List (List Nat)} {n m : Nat} (h : ∀ l ∈ ls, l.length ≤ m ∧ ∀ i ∈ l, i < 2 ^ 60) (hn : ls.length ≤ n) (hb : n ≤ 100000) (hm : m ≤ 100000) : Fine 2 (n * (m * 63 + 5) + 3) (.list (ls.map td)) :=
  fine_list (fun d hd => by
    obtain ⟨l, hl, rfl⟩ := List.mem_map.mp hd
    exact fine_tup (h l hl).2 (h l hl).1 hm) (by rw [List.length_map]; exact hn) hb
/-- the pairings before the first call and behind each -/
def alongs (qs : List (Nat × Nat)) (ps : List Nat) (i : Nat) : List (List Nat) := (List.range (i + 1)).map fun j => runs (qs.take j) ps
theorem alongs_zero (qs : List (Nat × Nat)) (ps : List Nat) : alongs qs ps 0 = [ps] := rfl
theorem alongs_succ (qs : List (Nat × Nat)) (ps : List Nat) (i : Nat) : alongs qs ps (i + 1) = alongs qs ps i ++ [runs (qs.take (i + 1)) ps] := by
  unfold alongs
  rw [List.range_succ, List.map_append]
  rfl
theorem alongs_len (qs : List (Nat × Nat)) (ps : List Nat) (i : Nat) : (alongs qs ps i).length = i + 1 := by
  unfold alongs
  rw [List.length_map, List.length_range]
theorem alongs_mem {n i : Nat} {qs : List (Nat × Nat)} {ps l : List Nat} (hP : IsPair n ps) (hc : Calls n qs) (h : l ∈ alongs qs ps i) : IsPair n l := by
  obtain ⟨j, _, rfl⟩ := List.mem_map.mp h
  exact runs_pair _ hP (hc.take j)
end Pc
namespace Pc
open PySem PySem.Spec PyProof.Rows L2 RZ
/-! ### sheets as lists of natural numbers -/
/-- the empty sheet of n people -/
def emp (n : Nat) : List Nat := (List.range (2 * n)).map fun e => (e + n) % (2 * n)
theorem emp_len (n : Nat) : (emp n).length = 2 * n := by unfold emp; rw [List.length_map, List.length_range]
theorem emp_get {n e : Nat} (h : e < 2 * n) : (emp n)[e]? = some ((e + n) % (2 * n)) := by
  unfold emp
  rw [List.getElem?_map, List.getElem?_range h]
  rfl
theorem emp_lo {n e : Nat} (h : e < n) : (emp n)[e]? = some (n + e) := by
  rw [emp_get (by omega), Nat.mod_eq_of_lt (by omega), Nat.add_comm]
theorem emp_hi {n e : Nat} (h : e < n) : (emp n)[n + e]? = some e := by
  rw [emp_get (by omega), show n + e + n = e + 1 * (2 * n) by omega, Nat.add_mul_mod_self_right, Nat.mod_eq_of_lt (by omega)]
theorem emp_pair {n : Nat} (hn : 0 < n) : IsPair (2 * n) (emp n) := by
  refine ⟨emp_len n, fun x hx => ?_⟩
  by_cases h : x < n
  · exact ⟨n + x, emp_lo h, by omega, by omega, emp_hi h⟩
  · have e : x = n + (x - n) := by omega
    refine ⟨x - n, ?_, by omega, by omega, ?_⟩
    · have := emp_hi (n := n) (e := x - n) (by omega)
      rw [← e] at this; exact this
    · have := emp_lo (n := n) (e := x - n) (by omega)
      rw [← e] at this; exact this
/-- the calls at the lower ends -/
def low (n : Nat) (qs : List (Nat × Nat)) : List (Nat × Nat) := qs.map fun q => (n + q.1, n + q.2)
theorem low_calls {n : Nat} {qs : List (Nat × Nat)} (h : Calls n qs) : Calls (2 * n) (low n qs) := fun q hq => by
  obtain ⟨r, hr, rfl⟩ := List.mem_map.mp hq
  have := h r hr
  exact ⟨by show n + r.1 < n + r.2; omega, by show n + r.2 < 2 * n; omega⟩
theorem low_take (n : Nat) (qs : List (Nat × Nat)) (i : Nat) : (low n qs).take i = low n (qs.take i) := by unfold low; rw [List.map_take]
theorem low_get {n i : Nat} {qs : List (Nat × Nat)} {q : Nat × Nat} (h : qs[i]? = some q) : (low n qs)[i]? = some (n + q.1, n + q.2) := by
  unfold low; rw [List.getElem?_map, h]; rfl
/-- the sheet with calls added -/
def shw (n : Nat) (qs : List (Nat × Nat)) (fs : List Nat) : List Nat := runs (low n qs) fs
theorem shw_take {n i : Nat} {qs : List (Nat × Nat)} {fs : List Nat} {q : Nat × Nat} (h : qs[i]? = some q) : shw n (qs.take (i + 1)) fs = jn (shw n (qs.take i) fs) (n + q.1) (n + q.2) := by
  unfold shw
  rw [← low_take, ← low_take, runs_take (low_get h)]
theorem shw_pair {n : Nat} {qs : List (Nat × Nat)} {fs : List Nat} (hP : IsPair (2 * n) fs) (h : Calls n qs) : IsPair (2 * n) (shw n qs fs) := runs_pair _ hP (low_calls h)
/-- the other order of the stores -/
theorem jn_alt {n : Nat} {fs : List Nat} (h : IsPair n fs) {a b c d : Nat} (hab : a ≠ b) (ea : fs[a]? = some c) (eb : fs[b]? = some d) (hcb : c ≠ b) : (((fs.set c d).set d c).set a b).set b a = jn fs a b := by
  obtain ⟨x1, x2, x3, x4, l1, l2, l3, l4⟩ := four h hab ea eb hcb
  have hl := h.len
  refine List.ext_getElem? fun z => ?_
  rw [jn_get h hab ea eb hcb]
  by_cases z2 : z = b
  · subst z2
    rw [List.getElem?_set_self (by simp only [List.length_set]; omega), if_neg hab.symm, if_pos rfl]
  · rw [List.getElem?_set_ne (Ne.symm z2)]
    by_cases z1 : z = a
    · subst z1
      rw [List.getElem?_set_self (by simp only [List.length_set]; omega), if_pos rfl]
    · rw [List.getElem?_set_ne (Ne.symm z1), if_neg z1, if_neg z2]
      by_cases z4 : z = d
      · subst z4
        rw [List.getElem?_set_self (by simp only [List.length_set]; omega), if_neg (Ne.symm x4), if_pos rfl]
      · rw [List.getElem?_set_ne (Ne.symm z4)]
        by_cases z3 : z = c
        · subst z3
          rw [List.getElem?_set_self (by omega), if_pos rfl]
        · rw [List.getElem?_set_ne (Ne.symm z3), if_neg z3, if_neg z4]
theorem range_shift (n : Nat) : rgV (n : Int) (2 * (n : Int)) = nv ((List.range n).map fun i => n + i) := by
  unfold rgV nv
  rw [show (2 * (n : Int) - (n : Int)).toNat = n by omega, List.map_map]
  refine List.map_congr_left fun i _ => ?_
  show V.int ((n : Int) + (i : Nat)) = V.int (((n + i : Nat) : Int))
  rw [show (((n + i : Nat) : Int)) = (n : Int) + (i : Nat) by omega]
/-- strands in any order: the upper ends in turn, the lower ends as drawn -/
def SInv (n : Nat) (ls fs : List Nat) (t : Nat) : Prop := fs.length = 2 * n ∧ ∀ j, j < t → ∀ l, ls[j]? = some l → fs[j]? = some l ∧ fs[l]? = some j
theorem SInv.step {n : Nat} {ls fs : List Nat} {t l : Nat} (hp : ls.Perm ((List.range n).map fun i => n + i)) (h : SInv n ls fs t) (hl : ls[t]? = some l) : SInv n ls ((fs.set t l).set l t) (t + 1) := by
  have hln : ls.length = n := by rw [hp.length_eq, List.length_map, List.length_range]
  have hnd : ls.Nodup := hp.nodup_iff.mpr (List.Pairwise.map _ (fun a b (hab : a ≠ b) => show n + a ≠ n + b by omega) List.nodup_range)
  have big : ∀ {j x : Nat}, ls[j]? = some x → n ≤ x ∧ x < 2 * n := fun hx => by
    obtain ⟨i, hi, e⟩ := List.mem_map.mp (hp.mem_iff.mp (List.mem_of_getElem? hx))
    have := List.mem_range.mp hi
    omega
  have ht : t < n := by rw [← hln]; exact get_lt hl
  have hb := big hl
  obtain ⟨h1, h2⟩ := h
  refine ⟨by simp only [List.length_set]; exact h1, fun j hj x hx => ?_⟩
  have hjn : j < n := by rw [← hln]; exact get_lt hx
  have hbx := big hx
  by_cases e : j = t
  · subst e
    cases Option.some.inj (hl.symm.trans hx)
    exact ⟨by rw [List.getElem?_set_ne (by omega), List.getElem?_set_self (by omega)], by rw [List.getElem?_set_self (by simp only [List.length_set]; omega)]⟩
  · obtain ⟨g1, g2⟩ := h2 j (by omega) x hx
    have xl : l ≠ x := fun z => by subst z; exact e (nd_ix hnd hx hl)
    exact ⟨by rw [List.getElem?_set_ne (by omega), List.getElem?_set_ne (by omega)]; exact g1, by rw [List.getElem?_set_ne xl, List.getElem?_set_ne (by omega)]; exact g2⟩
theorem SInv.done {n : Nat} {ls fs : List Nat} (hp : ls.Perm ((List.range n).map fun i => n + i)) (h : SInv n ls fs n) : IsPair (2 * n) fs := by
  have hln : ls.length = n := by rw [hp.length_eq, List.length_map, List.length_range]
  refine ⟨h.1, fun x hx => ?_⟩
  by_cases e : x < n
  · obtain ⟨l, hl⟩ := get_some (l := ls) (i := x) (by omega)
    obtain ⟨i, hi, e'⟩ := List.mem_map.mp (hp.mem_iff.mp (List.mem_of_getElem? hl))
    have := List.mem_range.mp hi
    obtain ⟨g1, g2⟩ := h.2 x e l hl
    exact ⟨l, g1, by omega, by omega, g2⟩
  · have hm : x ∈ ls := hp.mem_iff.mpr (List.mem_map.mpr ⟨x - n, List.mem_range.mpr (by omega), by omega⟩)
    obtain ⟨j, hj, ej⟩ := List.mem_iff_getElem.mp hm
    obtain ⟨g1, g2⟩ := h.2 j (by omega) x (by rw [List.getElem?_eq_getElem hj, ej])
    exact ⟨j, g2, by omega, by omega, g1⟩
theorem emp_step (n i : Nat) (h : i < 2 * n) : (emp n).take (i + 1) = (emp n).take i ++ [(i + n) % (2 * n)] := by
  rw [List.take_add_one, emp_get h]
  rfl
theorem nv_snoc' (l : List Nat) (x : Nat) : nv l ++ [.int (x : Int)] = nv (l ++ [x]) := by
  unfold nv
  rw [List.map_append]; rfl
theorem mod_cast_n (i n : Nat) : ((0 : Int) + (i : Nat) + (n : Int)) % (2 * (n : Int)) = (((i + n) % (2 * n) : Nat) : Int) := by
  have h : (((i + n) % (2 * n) : Nat) : Int) = ((i + n : Nat) : Int) % ((2 * n : Nat) : Int) := Int.natCast_emod _ _
  rw [h, Int.natCast_add, Int.natCast_mul, Int.zero_add]
  rfl
end Pc
namespace Pc
open PySem PySem.Spec PyProof.Rows L2 RZ
/-! ### pairs that are chosen from a range -/
def selN (c : Nat → Bool) (g : Nat → Nat × Nat) (i : Nat) : List (Nat × Nat) := ((List.range i).filter c).map g
theorem selN_yes {c : Nat → Bool} {g : Nat → Nat × Nat} {i : Nat} (h : c i = true) : selN c g (i + 1) = selN c g i ++ [g i] := by
  unfold selN
  rw [List.range_succ, List.filter_append, List.map_append, List.filter_cons_of_pos h, List.filter_nil, List.map_cons, List.map_nil]
theorem selN_no {c : Nat → Bool} {g : Nat → Nat × Nat} {i : Nat} (h : c i = false) : selN c g (i + 1) = selN c g i := by
  unfold selN
  rw [List.range_succ, List.filter_append, List.map_append, List.filter_cons_of_neg (by rw [h]; decide), List.filter_nil, List.map_nil, List.append_nil]
theorem selN_len (c : Nat → Bool) (g : Nat → Nat × Nat) (i : Nat) : (selN c g i).length ≤ i := by
  unfold selN
  rw [List.length_map]
  exact Nat.le_trans (List.length_filter_le _ _) (by rw [List.length_range]; exact Nat.le_refl _)
theorem selN_mem {c : Nat → Bool} {g : Nat → Nat × Nat} {i : Nat} {p : Nat × Nat} : p ∈ selN c g i ↔ ∃ x, x < i ∧ c x = true ∧ g x = p := by
  unfold selN
  rw [List.mem_map]
  constructor
  · rintro ⟨x, hx, e⟩
    have := List.mem_filter.mp hx
    exact ⟨x, List.mem_range.mp this.1, this.2, e⟩
  · rintro ⟨x, h1, h2, e⟩
    exact ⟨x, List.mem_filter.mpr ⟨List.mem_range.mpr h1, h2⟩, e⟩
/-- one more pair is put to the list -/
theorem sel_step {H H1 : Hp} {D u : Addr} {as : List Addr} {c : Nat → Bool} {g : Nat → Nat × Nat} {i : Nat} {v1 v2 : V} (nD : H D = none) (sm : Same H H1) (eD : H1 D = some (.lst (as.map V.ref))) (hA : Prs H1 as (selN c g i)) (hc : c i = true) (nu : H1 u = none)
    (hv : [v1, v2] = [V.int ((g i).1 : Int), V.int ((g i).2 : Int)]) (hi : i ≤ 999) : ∃ acc, (upd H1 u (.tup [v1, v2])) D = some (.lst acc) ∧ acc.length < sizeLine ∧
      (Same H (upd (upd H1 u (.tup [v1, v2])) D (.lst (acc ++ [.ref u]))) ∧ ∃ as' : List Addr, (upd (upd H1 u (.tup [v1, v2])) D (.lst (acc ++ [.ref u]))) D = some (.lst (as'.map V.ref)) ∧ Prs (upd (upd H1 u (.tup [v1, v2])) D (.lst (acc ++ [.ref u]))) as' (selN c g (i + 1))) := by
  have su : Same H1 (upd H1 u (.tup [v1, v2])) := same_new nu
  have nuD : u ≠ D := fun e => by rw [e, eD] at nu; cases nu
  refine ⟨_, su _ _ eD, ?_, fun b' o hb => ?_, as ++ [u], ?_, ?_⟩
  · rw [List.length_map, hA.length]
    have := selN_len c g i
    exact small1000 (by omega)
  · rw [upd_ne (ne_of_none hb nD)]; exact su _ _ (sm _ _ hb)
  · rw [upd_same, List.map_append]; rfl
  · rw [selN_yes hc]
    refine prs_append (prs_keep (b := D) (ys := as.map V.ref) keep_upd (su _ _ eD) (prs_same su hA)) (.cons ?_ .nil)
    rw [upd_ne nuD, upd_same, hv]
theorem ix_sq {K : PySem.W.Frag} {H : Hp} {a : Addr} {xs : List V} {i : Int} {v : V} {Q : VK} (h : Sq K H a xs) (e : atI xs i = some v) (q : Q v H) : rIx K (.ref a) (.int i) H Q :=
  h.elim (fun z => .inl ⟨a, xs, i, v, rfl, rfl, z, e, q⟩) (fun z => .inr (.inl ⟨a, xs, i, v, rfl, rfl, z, e, q⟩))
/-! ### upper pairs, lower pairs, strands -/
def upC (fs : List Nat) (n x : Nat) : Bool := decide (x < fs.getD x 0) && decide (fs.getD x 0 < n)
def upG (fs : List Nat) (x : Nat) : Nat × Nat := (x, fs.getD x 0)
def loC (fs : List Nat) (n x : Nat) : Bool := decide (n + x < fs.getD (n + x) 0)
def loG (fs : List Nat) (n x : Nat) : Nat × Nat := (x, fs.getD (n + x) 0 - n)
def stC (fs : List Nat) (n x : Nat) : Bool := decide (n ≤ fs.getD x 0)
def stG (fs : List Nat) (n x : Nat) : Nat × Nat := (x, fs.getD x 0 - n)
def ups (fs : List Nat) (n : Nat) : List (Nat × Nat) := selN (upC fs n) (upG fs) n
def los (fs : List Nat) (n : Nat) : List (Nat × Nat) := selN (loC fs n) (loG fs n) n
def sts (fs : List Nat) (n : Nat) : List (Nat × Nat) := selN (stC fs n) (stG fs n) n
theorem ups_mem {n : Nat} {fs : List Nat} (h : IsPair (2 * n) fs) {p : Nat × Nat} (hp : p ∈ ups fs n) : fs[p.1]? = some p.2 ∧ p.1 < p.2 ∧ p.2 < n := by
  obtain ⟨x, hx, hc, e⟩ := selN_mem.mp hp
  obtain ⟨y, ey, _⟩ := h.par x (by omega)
  unfold upC at hc
  rw [getD_of ey, Bool.and_eq_true, decide_eq_true_iff, decide_eq_true_iff] at hc
  subst e
  show fs[x]? = some (fs.getD x 0) ∧ x < fs.getD x 0 ∧ fs.getD x 0 < n
  rw [getD_of ey]
  exact ⟨ey, hc.1, hc.2⟩
theorem los_mem {n : Nat} {fs : List Nat} (h : IsPair (2 * n) fs) {p : Nat × Nat} (hp : p ∈ los fs n) : fs[n + p.1]? = some (n + p.2) ∧ p.1 < p.2 ∧ p.2 < n := by
  obtain ⟨x, hx, hc, e⟩ := selN_mem.mp hp
  obtain ⟨y, ey, hy, _⟩ := h.par (n + x) (by omega)
  unfold loC at hc
  rw [getD_of ey, decide_eq_true_iff] at hc
  subst e
  show fs[n + x]? = some (n + (fs.getD (n + x) 0 - n)) ∧ x < fs.getD (n + x) 0 - n ∧ fs.getD (n + x) 0 - n < n
  rw [getD_of ey, show n + (y - n) = y by omega]
  exact ⟨ey, by omega, by omega⟩
theorem sts_mem {n : Nat} {fs : List Nat} (h : IsPair (2 * n) fs) {p : Nat × Nat} (hp : p ∈ sts fs n) : fs[p.1]? = some (n + p.2) ∧ p.1 < n ∧ p.2 < n := by
  obtain ⟨x, hx, hc, e⟩ := selN_mem.mp hp
  obtain ⟨y, ey, hy, _⟩ := h.par x (by omega)
  unfold stC at hc
  rw [getD_of ey, decide_eq_true_iff] at hc
  subst e
  show fs[x]? = some (n + (fs.getD x 0 - n)) ∧ x < n ∧ fs.getD x 0 - n < n
  rw [getD_of ey, show n + (y - n) = y by omega]
  exact ⟨ey, by omega, by omega⟩
/-- all joins of a sheet, as pairs of ends -/
def jns (fs : List Nat) (n : Nat) : List (Nat × Nat) := ups fs n ++ ((los fs n).map (fun p => (n + p.1, n + p.2)) ++ (sts fs n).map (fun p => (p.1, n + p.2)))
theorem jns_ok {n : Nat} {fs : List Nat} (h : IsPair (2 * n) fs) : ∀ p ∈ jns fs n, fs[p.1]? = some p.2 ∧ p.1 < p.2 := fun p hp => by
  rcases List.mem_append.mp hp with z | z
  · have := ups_mem h z; exact ⟨this.1, this.2.1⟩
  · rcases List.mem_append.mp z with z | z
    · obtain ⟨r, hr, rfl⟩ := List.mem_map.mp z
      have := los_mem h hr
      exact ⟨this.1, by show n + r.1 < n + r.2; omega⟩
    · obtain ⟨r, hr, rfl⟩ := List.mem_map.mp z
      have := sts_mem h hr
      exact ⟨this.1, by show r.1 < n + r.2; omega⟩
theorem sel_fst {c : Nat → Bool} {g : Nat → Nat × Nat} {i : Nat} (h : ∀ x, (g x).1 = x) : (selN c g i).map Prod.fst = (List.range i).filter c := by
  unfold selN
  rw [List.map_map]
  conv => rhs; rw [← List.map_id ((List.range i).filter c)]
  exact List.map_congr_left fun x _ => h x
theorem jns_nodup {n : Nat} {fs : List Nat} (h : IsPair (2 * n) fs) : ((jns fs n).map Prod.fst).Nodup := by
  have e1 : (ups fs n).map Prod.fst = (List.range n).filter (upC fs n) := sel_fst fun _ => rfl
  have e2 : ((los fs n).map (fun p => (n + p.1, n + p.2))).map Prod.fst = ((List.range n).filter (loC fs n)).map (fun x => n + x) := by
    rw [← sel_fst (c := loC fs n) (g := loG fs n) (i := n) fun _ => rfl, List.map_map, List.map_map]; rfl
  have e3 : ((sts fs n).map (fun p => (p.1, n + p.2))).map Prod.fst = (List.range n).filter (stC fs n) := by
    rw [← sel_fst (c := stC fs n) (g := stG fs n) (i := n) fun _ => rfl, List.map_map]; rfl
  unfold jns
  rw [List.map_append, List.map_append, e1, e2, e3]
  have nr : (List.range n).Nodup := List.nodup_range
  refine List.nodup_append.mpr ⟨nr.filter _, List.nodup_append.mpr ⟨?_, nr.filter _, fun a ha b hb => ?_⟩, fun a ha b hb => ?_⟩
  · exact List.Pairwise.map _ (fun a b (hab : a ≠ b) => show n + a ≠ n + b by omega) (nr.filter _)
  · obtain ⟨x, _, rfl⟩ := List.mem_map.mp ha
    have := List.mem_range.mp (List.mem_filter.mp hb).1
    omega
  · have ha1 := List.mem_range.mp (List.mem_filter.mp ha).1
    have ha2 := (List.mem_filter.mp ha).2
    unfold upC at ha2
    rw [Bool.and_eq_true, decide_eq_true_iff, decide_eq_true_iff] at ha2
    rcases List.mem_append.mp hb with z | z
    · obtain ⟨x, _, rfl⟩ := List.mem_map.mp z; omega
    · have hb2 := (List.mem_filter.mp z).2
      unfold stC at hb2
      rw [decide_eq_true_iff] at hb2
      intro e; subst e; omega
theorem jns_all {n : Nat} {fs : List Nat} (h : IsPair (2 * n) fs) {z y : Nat} (e : fs[z]? = some y) (hz : z < y) : (z, y) ∈ jns fs n := by
  obtain ⟨_, hy, hz2, _⟩ := h.back e
  unfold jns
  by_cases c : z < n
  · by_cases d : y < n
    · refine List.mem_append.mpr (.inl (selN_mem.mpr ⟨z, c, ?_, ?_⟩))
      · unfold upC; rw [getD_of e, decide_eq_true hz, decide_eq_true d]; rfl
      · unfold upG; rw [getD_of e]
    · refine List.mem_append.mpr (.inr (List.mem_append.mpr (.inr (List.mem_map.mpr ⟨(z, y - n), selN_mem.mpr ⟨z, c, ?_, ?_⟩, ?_⟩))))
      · unfold stC; rw [getD_of e]; exact decide_eq_true (by omega)
      · unfold stG; rw [getD_of e]
      · show (z, n + (y - n)) = (z, y); rw [show n + (y - n) = y by omega]
  · have e' : fs[n + (z - n)]? = some y := by rw [show n + (z - n) = z by omega]; exact e
    refine List.mem_append.mpr (.inr (List.mem_append.mpr (.inl (List.mem_map.mpr ⟨(z - n, y - n), selN_mem.mpr ⟨z - n, by omega, ?_, ?_⟩, ?_⟩))))
    · unfold loC; rw [getD_of e']; exact decide_eq_true (by omega)
    · unfold loG; rw [getD_of e']
    · show (n + (z - n), n + (y - n)) = (z, y); rw [show n + (z - n) = z by omega, show n + (y - n) = y by omega]
/-- the ends of joins in a row -/
def flat : List (Nat × Nat) → List Nat
  | [] => []
  | p :: r => p.1 :: p.2 :: flat r
theorem flat_app : ∀ a b : List (Nat × Nat), flat (a ++ b) = flat a ++ flat b
  | [], _ => rfl
  | p :: r, b => by show p.1 :: p.2 :: flat (r ++ b) = _; rw [flat_app r b]; rfl
theorem flat_mem : ∀ {l : List (Nat × Nat)} {z : Nat}, z ∈ flat l ↔ ∃ p ∈ l, z = p.1 ∨ z = p.2
  | [], z => by simp [flat]
  | p :: r, z => by
    show z ∈ p.1 :: p.2 :: flat r ↔ _
    rw [List.mem_cons, List.mem_cons, flat_mem (l := r)]
    constructor
    · rintro (e | e | ⟨q, hq, e⟩)
      · exact ⟨p, List.mem_cons_self, .inl e⟩
      · exact ⟨p, List.mem_cons_self, .inr e⟩
      · exact ⟨q, List.mem_cons_of_mem _ hq, e⟩
    · rintro ⟨q, hq, e⟩
      rcases List.mem_cons.mp hq with z | z
      · subst z; exact e.elim .inl (fun e => .inr (.inl e))
      · exact .inr (.inr ⟨q, z, e⟩)
theorem flat_len : ∀ l : List (Nat × Nat), (flat l).length = 2 * l.length
  | [] => rfl
  | p :: r => by show (flat r).length + 1 + 1 = 2 * (r.length + 1); rw [flat_len r]; omega
theorem flat_nodup {n : Nat} {fs : List Nat} (h : IsPair n fs) : ∀ {l : List (Nat × Nat)}, (∀ p ∈ l, fs[p.1]? = some p.2 ∧ p.1 < p.2) → (l.map Prod.fst).Nodup → (flat l).Nodup
  | [], _, _ => List.nodup_nil
  | p :: r, ho, hd => by
    have hp := ho p List.mem_cons_self
    obtain ⟨n1, n2⟩ := List.nodup_cons.mp (show (p.1 :: r.map Prod.fst).Nodup from hd)
    have hr : ∀ q ∈ r, fs[q.1]? = some q.2 ∧ q.1 < q.2 := fun q hq => ho q (List.mem_cons_of_mem _ hq)
    have ih := flat_nodup h hr n2
    have bp := (h.back hp.1).1
    have ne1 : ∀ q ∈ r, p.1 ≠ q.1 := fun q hq e => n1 (List.mem_map.mpr ⟨q, hq, e.symm⟩)
    show (p.1 :: p.2 :: flat r).Nodup
    refine List.nodup_cons.mpr ⟨fun hm => ?_, List.nodup_cons.mpr ⟨fun hm => ?_, ih⟩⟩
    · rcases List.mem_cons.mp hm with e | e
      · omega
      · obtain ⟨q, hq, e⟩ := flat_mem.mp e
        have hq' := hr q hq
        rcases e with e | e
        · exact ne1 q hq e
        · have bq := (h.back hq'.1).1
          rw [← e, hp.1] at bq
          have := Option.some.inj bq
          omega
    · obtain ⟨q, hq, e⟩ := flat_mem.mp hm
      have hq' := hr q hq
      rcases e with e | e
      · have e1 := hq'.1
        rw [← e, bp] at e1
        have := Option.some.inj e1
        omega
      · have bq := (h.back hq'.1).1
        rw [← e, bp] at bq
        exact ne1 q hq (Option.some.inj bq)
theorem jns_perm {n : Nat} {fs : List Nat} (h : IsPair (2 * n) fs) : (flat (jns fs n)).Perm (List.range (2 * n)) := by
  refine (List.perm_ext_iff_of_nodup (flat_nodup h (jns_ok h) (jns_nodup h)) List.nodup_range).mpr fun z => ?_
  rw [flat_mem, List.mem_range]
  constructor
  · rintro ⟨p, hp, e⟩
    obtain ⟨b1, b2, b3, _⟩ := h.back (jns_ok h p hp).1
    rcases e with e | e <;> omega
  · intro hz
    obtain ⟨y, ey, hy, hne, eb⟩ := h.par z hz
    by_cases c : z < y
    · exact ⟨_, jns_all h ey c, .inl rfl⟩
    · exact ⟨_, jns_all h eb (by omega), .inr rfl⟩
theorem flat_two {f : Nat → Bool} : ∀ {l : List (Nat × Nat)}, (∀ p ∈ l, f p.1 = true ∧ f p.2 = true) → (flat l).countP f = 2 * l.length
  | [], _ => rfl
  | p :: r, h => by
    have hp := h p List.mem_cons_self
    show (p.1 :: p.2 :: flat r).countP f = _
    rw [List.countP_cons_of_pos hp.1, List.countP_cons_of_pos hp.2, flat_two fun q hq => h q (List.mem_cons_of_mem _ hq), List.length_cons]
    omega
theorem flat_none {f : Nat → Bool} : ∀ {l : List (Nat × Nat)}, (∀ p ∈ l, f p.1 = false ∧ f p.2 = false) → (flat l).countP f = 0
  | [], _ => rfl
  | p :: r, h => by
    have hp := h p List.mem_cons_self
    show (p.1 :: p.2 :: flat r).countP f = _
    rw [List.countP_cons_of_neg (by rw [hp.1]; decide), List.countP_cons_of_neg (by rw [hp.2]; decide), flat_none fun q hq => h q (List.mem_cons_of_mem _ hq)]
theorem flat_one {f : Nat → Bool} : ∀ {l : List (Nat × Nat)}, (∀ p ∈ l, f p.1 = true ∧ f p.2 = false) → (flat l).countP f = l.length
  | [], _ => rfl
  | p :: r, h => by
    have hp := h p List.mem_cons_self
    show (p.1 :: p.2 :: flat r).countP f = _
    rw [List.countP_cons_of_pos hp.1, List.countP_cons_of_neg (by rw [hp.2]; decide), flat_one fun q hq => h q (List.mem_cons_of_mem _ hq), List.length_cons]
theorem range_low (n : Nat) : (List.range (2 * n)).countP (fun z => decide (z < n)) = n := by
  rw [show 2 * n = n + n by omega, List.range_add, List.countP_append, List.countP_eq_length.mpr (fun a ha => decide_eq_true (List.mem_range.mp ha)), List.countP_eq_zero.mpr (fun a ha => ?_), List.length_range, Nat.add_zero]
  obtain ⟨x, _, rfl⟩ := List.mem_map.mp ha
  rw [decide_eq_true_iff]; omega
theorem ups_los {n : Nat} {fs : List Nat} (h : IsPair (2 * n) fs) : (ups fs n).length = (los fs n).length := by
  have hp := jns_perm h
  have hl := hp.length_eq
  have hc := hp.countP_eq (fun z => decide (z < n))
  rw [range_low] at hc
  rw [flat_len, List.length_range] at hl
  unfold jns at hc hl
  rw [List.length_append, List.length_append, List.length_map, List.length_map] at hl
  have x1 : (flat (ups fs n)).countP (fun z => decide (z < n)) = 2 * (ups fs n).length := flat_two fun p hp => by
    have := ups_mem h hp
    exact ⟨decide_eq_true (by omega), decide_eq_true (by omega)⟩
  have x2 : (flat ((los fs n).map (fun p => (n + p.1, n + p.2)))).countP (fun z => decide (z < n)) = 0 := flat_none fun p hp => by
    obtain ⟨r, hr, rfl⟩ := List.mem_map.mp hp
    exact ⟨decide_eq_false (by show ¬ n + r.1 < n; omega), decide_eq_false (by show ¬ n + r.2 < n; omega)⟩
  have x3 : (flat ((sts fs n).map (fun p => (p.1, n + p.2)))).countP (fun z => decide (z < n)) = ((sts fs n).map (fun p => (p.1, n + p.2))).length := flat_one fun p hp => by
    obtain ⟨r, hr, rfl⟩ := List.mem_map.mp hp
    have := sts_mem h hr
    exact ⟨decide_eq_true (by show r.1 < n; omega), decide_eq_false (by show ¬ n + r.2 < n; omega)⟩
  rw [flat_app, flat_app, List.countP_append, List.countP_append, x1, x2, x3, List.length_map] at hc
  omega
end Pc
namespace Pc
open PySem PySem.Spec PyProof.Rows L2 RZ
section
variable {P : Program} {w : World} {K : PySem.W.Frag} {mg : Str → Option Value} {base : Heap}
/-! ### the number of people of a sheet -/
def spPeople (K : PySem.W.Frag) : Sp := fun vs H Q _ => ∃ (a : Addr) (fs : List Nat) (n : Nat), vs = [.ref a] ∧ Sq K H a (nv fs) ∧ fs.length = 2 * n ∧ Q (.int n) H
theorem ok_p_people_of (T : Env K mg) : FnOk P w K mg base CX0 1 T.f_p_people_of T.d_p_people_of ["sheet"] (spPeople K) := by
  refine T.F_p_people_of.ok sc_p_people_of (fun vs H Q E h => ?_) (fun cdv A outer s H vs Q E hr h => ?_)
  · obtain ⟨a, fs, n, rfl, _⟩ := h
    rfl
  · obtain ⟨a, fs, n, rfl, hS, hl, q⟩ := h
    refine ⟨_, pss_one (ps_ret (pe_op op_fdiv (pe_callB call_len_seq (by rfl) T.n_len PySem.boot_len (pa_cons (pv 0) pa_nil)) pe_int)), ?_⟩
    refine ⟨.ref a, rfl, a, _, rfl, hS, _, 2, rfl, rfl, ⟨by decide, by decide⟩, ?_⟩
    show Q (.int (((nv fs).length : Int) / 2)) H
    rw [nv_length, hl, show (((2 * n : Nat) : Int) / 2) = (n : Int) by omega]
    exact q
end
end Pc
namespace Pc
/-! ### ways along a sheet and a pairing -/
/-- nodup numbers below n are n at most -/
theorem few_below : ∀ (n : Nat) (l : List Nat), l.Nodup → (∀ x ∈ l, x < n) → l.length ≤ n
  | 0, l, _, h => by
    cases l with
    | nil => exact Nat.le_refl _
    | cons a r => exact absurd (h a List.mem_cons_self) (Nat.not_lt_zero _)
  | n + 1, l, hd, h => by
    by_cases hm : n ∈ l
    · have h1 : (l.erase n).length = l.length - 1 := List.length_erase_of_mem hm
      have h2 := few_below n (l.erase n) (hd.erase n) (fun x hx => by
        have hx' := (hd.mem_erase_iff).mp hx
        have := h x hx'.2
        have := hx'.1
        omega)
      omega
    · have h2 := few_below n l hd (fun x hx => by
        have := h x hx
        have : x ≠ n := fun e => hm (e ▸ hx)
        omega)
      omega
/-- a function on the first n + 1 numbers into the n first ones takes one value twice -/
theorem pigeon (n : Nat) (f : Nat → Nat) (h : ∀ i, i ≤ n → f i < n) : ∃ i j, i < j ∧ j ≤ n ∧ f i = f j := by
  apply Classical.byContradiction
  intro hn
  have hd : ((List.range (n + 1)).map f).Nodup := by
    rw [List.nodup_iff_pairwise_ne, List.pairwise_map]
    refine List.Pairwise.imp_of_mem ?_ List.pairwise_lt_range
    intro a b ha hb hab e
    exact hn ⟨a, b, hab, by have := List.mem_range.mp hb; omega, e⟩
  have := few_below n _ hd (fun x hx => by
    obtain ⟨i, hi, rfl⟩ := List.mem_map.mp hx
    exact h i (by have := List.mem_range.mp hi; omega))
  rw [List.length_map, List.length_range] at this
  omega
section
variable (fs ps : List Nat) (n : Nat)
/-- the whole way from an end: along the join, along the couple, and so on until a lower end -/
inductive Trail : Nat → List Nat → Prop
  | stop {z : Nat} : n ≤ fs.getD z 0 → Trail z [z, fs.getD z 0]
  | go {z : Nat} {l : List Nat} : fs.getD z 0 < n → Trail (ps.getD (fs.getD z 0) 0) l → Trail z (z :: fs.getD z 0 :: l)
/-- where the steps of a way begin -/
def hop (z : Nat) : Nat → Nat
  | 0 => z
  | k + 1 => ps.getD (fs.getD (hop z k) 0) 0
end
theorem IsPair.d {n : Nat} {ps : List Nat} (h : IsPair n ps) {x : Nat} (hx : x < n) : ps.getD x 0 < n ∧ ps.getD x 0 ≠ x ∧ ps.getD (ps.getD x 0) 0 = x ∧ ps[x]? = some (ps.getD x 0) := by
  obtain ⟨y, h1, h2, h3, h4⟩ := h.par x hx
  rw [getD_of h1]
  exact ⟨h2, h3, getD_of h4, h1⟩
theorem IsPair.inj {n : Nat} {ps : List Nat} (h : IsPair n ps) {x y : Nat} (hx : x < n) (hy : y < n) (e : ps.getD x 0 = ps.getD y 0) : x = y := by
  rw [← (h.d hx).2.2.1, ← (h.d hy).2.2.1, e]
theorem Trail.det {fs ps : List Nat} {n z : Nat} {l m : List Nat} (h : Trail fs ps n z l) : Trail fs ps n z m → l = m := by
  induction h generalizing m with
  | stop h1 => intro h; cases h with
    | stop _ => rfl
    | go h2 _ => omega
  | go h1 _ ih => intro h; cases h with
    | stop h2 => omega
    | go _ h3 => rw [ih h3]
theorem Trail.len {fs ps : List Nat} {n z : Nat} {l : List Nat} (h : Trail fs ps n z l) : 2 ≤ l.length ∧ l.length % 2 = 0 ∧ n ≤ l.getLastD 0 := by
  induction h with
  | stop h1 => exact ⟨Nat.le_refl _, by simp only [List.length_cons, List.length_nil], h1⟩
  | @go z l h1 _ ih =>
    refine ⟨by simp only [List.length_cons]; omega, by simp only [List.length_cons]; omega, ?_⟩
    cases l with
    | nil => exact absurd ih.1 (by decide)
    | cons a r => exact ih.2.2
theorem hop_step (fs ps : List Nat) (z k : Nat) : hop fs ps (ps.getD (fs.getD z 0) 0) k = hop fs ps z (k + 1) := by
  induction k with
  | zero => rfl
  | succ k ih => rw [hop, ih]; rfl
theorem trail_of {fs ps : List Nat} {n : Nat} : ∀ (m z : Nat), n ≤ fs.getD (hop fs ps z m) 0 → ∃ l, Trail fs ps n z l ∧ l.length ≤ 2 * m + 2
  | 0, z, h => ⟨_, .stop h, Nat.le_refl _⟩
  | m + 1, z, h => by
    by_cases c : fs.getD z 0 < n
    · obtain ⟨l, h1, h2⟩ := trail_of m (ps.getD (fs.getD z 0) 0) (by rw [hop_step]; exact h)
      exact ⟨_, .go c h1, by simp only [List.length_cons]; omega⟩
    · exact ⟨_, .stop (by omega), by simp only [List.length_cons, List.length_nil]; omega⟩
/-- every way from a lower end comes to a lower end -/
theorem trail_ex {fs ps : List Nat} {n : Nat} (hF : IsPair (2 * n) fs) (hP : IsPair n ps) {z : Nat} (hz : n ≤ z) (hz2 : z < 2 * n) : ∃ l, Trail fs ps n z l ∧ l.length ≤ 2 * n + 2 := by
  apply Classical.byContradiction
  intro hn
  have small : ∀ k, k ≤ n → fs.getD (hop fs ps z k) 0 < n := fun k hk => by
    apply Classical.byContradiction
    intro h
    obtain ⟨l, h1, h2⟩ := trail_of (fs := fs) (ps := ps) (n := n) k z (by omega)
    exact hn ⟨l, h1, by omega⟩
  have hl : ∀ k, k ≤ n → hop fs ps z k < 2 * n ∧ (0 < k → hop fs ps z k < n) := fun k hk => by
    cases k with
    | zero => exact ⟨hz2, fun h => absurd h (Nat.lt_irrefl _)⟩
    | succ k =>
      have := (hP.d (small k (by omega))).1
      exact ⟨by show ps.getD _ 0 < 2 * n; omega, fun _ => this⟩
  have diff : ∀ i j, i < j → j ≤ n → hop fs ps z i ≠ hop fs ps z j := fun i => by
    induction i with
    | zero =>
      intro j hj hn2 e
      have := (hl j hn2).2 hj
      have e' : z = hop fs ps z j := e
      omega
    | succ i ih =>
      intro j hj hn2 e
      cases j with
      | zero => omega
      | succ j =>
        have e1 : fs.getD (hop fs ps z i) 0 = fs.getD (hop fs ps z j) 0 := hP.inj (small i (by omega)) (small j (by omega)) e
        exact ih j (by omega) (by omega) (hF.inj (hl i (by omega)).1 (hl j (by omega)).1 e1)
  obtain ⟨i, j, h1, h2, h3⟩ := pigeon n (fun k => fs.getD (hop fs ps z k) 0) small
  exact diff i j h1 h2 (hF.inj (hl i (by omega)).1 (hl j h2).1 h3)
/-- the way of a lower end, and where it ends -/
noncomputable def trl (fs ps : List Nat) (n z : Nat) : List Nat := open Classical in if h : ∃ l, Trail fs ps n z l then h.choose else []
noncomputable def far (fs ps : List Nat) (n z : Nat) : Nat := (trl fs ps n z).getLastD 0
theorem Trail.eq {fs ps : List Nat} {n z : Nat} {l : List Nat} (h : Trail fs ps n z l) : trl fs ps n z = l := by
  unfold trl
  rw [dif_pos ⟨l, h⟩]
  exact (Exists.choose_spec (⟨l, h⟩ : ∃ l, Trail fs ps n z l)).det h
theorem trl_trail {fs ps : List Nat} {n : Nat} (hF : IsPair (2 * n) fs) (hP : IsPair n ps) {z : Nat} (hz : n ≤ z) (hz2 : z < 2 * n) : Trail fs ps n z (trl fs ps n z) ∧ (trl fs ps n z).length ≤ 2 * n + 2 := by
  obtain ⟨l, h1, h2⟩ := trail_ex hF hP hz hz2
  rw [h1.eq]; exact ⟨h1, h2⟩
/-- what is read -/
noncomputable def rd (fs ps : List Nat) (n : Nat) : List Nat := (List.range n).map fun x => far fs ps n (n + x) - n
end Pc
namespace Pc
theorem lastc {l : List Nat} (h : 2 ≤ l.length) (a b d : Nat) : (a :: b :: l).getLastD d = l.getLastD d := by
  cases l with
  | nil => exact absurd h (by decide)
  | cons x r => rfl
theorem Trail.last {fs ps : List Nat} {n z : Nat} {l : List Nat} (hF : IsPair (2 * n) fs) (hP : IsPair n ps) (h : Trail fs ps n z l) : z < 2 * n → l.getLastD 0 < 2 * n := by
  induction h with
  | @stop z h1 => intro hz; exact (hF.d hz).1
  | @go z l h1 h2 ih =>
    intro hz
    rw [lastc h2.len.1]
    have := (hP.d h1).1
    exact ih (by omega)
theorem Trail.rev {fs ps : List Nat} {n z : Nat} {l : List Nat} (hF : IsPair (2 * n) fs) (hP : IsPair n ps) (h : Trail fs ps n z l) : z < 2 * n → ∀ t : List Nat, (n ≤ z → t = []) → (z < n → Trail fs ps n (ps.getD z 0) t) → Trail fs ps n (l.getLastD 0) (l.reverse ++ t) := by
  have one : ∀ {z : Nat} {t : List Nat}, z < 2 * n → (n ≤ z → t = []) → (z < n → Trail fs ps n (ps.getD z 0) t) → Trail fs ps n (fs.getD z 0) (fs.getD z 0 :: z :: t) := fun {z t} hz h1 h2 => by
    have e := (hF.d hz).2.2.1
    by_cases c : z < n
    · have := Trail.go (fs := fs) (ps := ps) (n := n) (z := fs.getD z 0) (l := t) (by rw [e]; exact c) (by rw [e]; exact h2 c)
      rw [e] at this; exact this
    · rw [h1 (by omega)]
      have := Trail.stop (fs := fs) (ps := ps) (n := n) (z := fs.getD z 0) (by rw [e]; omega)
      rw [e] at this; exact this
  induction h with
  | @stop z h1 => intro hz t a b; exact one hz a b
  | @go z l h1 h2 ih =>
    intro hz t a b
    have hz' := hP.d h1
    rw [lastc h2.len.1]
    have := ih (by omega) (fs.getD z 0 :: z :: t) (fun x => by omega) (fun _ => by rw [hz'.2.2.1]; exact one hz a b)
    simp only [List.reverse_cons, List.append_assoc, List.cons_append, List.nil_append]
    exact this
theorem Trail.back {fs ps : List Nat} {n z : Nat} {l : List Nat} (hF : IsPair (2 * n) fs) (hP : IsPair n ps) (h : Trail fs ps n z l) (hz : n ≤ z) (hz2 : z < 2 * n) : Trail fs ps n (l.getLastD 0) l.reverse := by
  have := h.rev hF hP hz2 [] (fun _ => rfl) (fun h => by omega)
  rw [List.append_nil] at this; exact this
theorem Trail.head {fs ps : List Nat} {n z : Nat} {l : List Nat} (h : Trail fs ps n z l) : l[0]? = some z := by
  cases h <;> rfl
theorem Trail.adj {fs ps : List Nat} {n z : Nat} {l : List Nat} (hF : IsPair (2 * n) fs) (hP : IsPair n ps) (h : Trail fs ps n z l) : z < 2 * n → ∀ i x, l[i]? = some x → l[i + 1]? ≠ some x := by
  induction h with
  | @stop z h1 =>
    intro hz i x h1 h2
    have hi : i + 1 < 2 := get_lt h2
    have : i = 0 := by omega
    subst this
    have e1 : z = x := Option.some.inj h1
    have e2 : fs.getD z 0 = x := Option.some.inj h2
    exact (hF.d hz).2.1 (e2.trans e1.symm)
  | @go z l h1 h2 ih =>
    intro hz i x g1 g2
    have hz' := hP.d h1
    cases i with
    | zero =>
      have e1 : z = x := Option.some.inj g1
      have e2 : fs.getD z 0 = x := Option.some.inj g2
      exact (hF.d hz).2.1 (e2.trans e1.symm)
    | succ i =>
      cases i with
      | zero =>
        have e1 : fs.getD z 0 = x := Option.some.inj g1
        have e2 : some (ps.getD (fs.getD z 0) 0) = some x := h2.head.symm.trans g2
        exact hz'.2.1 ((Option.some.inj e2).trans e1.symm)
      | succ i => exact ih (by omega) i x g1 g2
theorem last_get {l : List Nat} (h : 0 < l.length) : l[l.length - 1]? = some (l.getLastD 0) := by
  cases l with
  | nil => exact absurd h (by decide)
  | cons a r => rw [← List.getLast?_eq_getElem?, List.getLast?_eq_some_getLast (List.cons_ne_nil a r), List.getLastD_cons, ← List.getLast_eq_getLastD (h := List.cons_ne_nil a r)]
theorem far_is {fs ps : List Nat} {n z : Nat} {l : List Nat} (h : Trail fs ps n z l) : far fs ps n z = l.getLastD 0 := by
  unfold far; rw [h.eq]
theorem far_d {fs ps : List Nat} {n : Nat} (hF : IsPair (2 * n) fs) (hP : IsPair n ps) {z : Nat} (hz : n ≤ z) (hz2 : z < 2 * n) : n ≤ far fs ps n z ∧ far fs ps n z < 2 * n ∧ far fs ps n (far fs ps n z) = z ∧ far fs ps n z ≠ z := by
  obtain ⟨l, h1, _⟩ := trail_ex hF hP hz hz2
  have hb := h1.back hF hP hz hz2
  have hl := h1.len
  have e := far_is h1
  have e2 := far_is hb
  rw [e, e2]
  refine ⟨hl.2.2, h1.last hF hP hz2, ?_, fun c => ?_⟩
  · have g := last_get (l := l.reverse) (by rw [List.length_reverse]; omega)
    rw [List.length_reverse, List.getElem?_reverse (by omega), show l.length - 1 - (l.length - 1) = 0 by omega, h1.head] at g
    exact (Option.some.inj g).symm
  · rw [c] at hb
    have e3 : l = l.reverse := h1.det hb
    obtain ⟨k, hk⟩ : ∃ k, l.length = 2 * k := ⟨l.length / 2, by omega⟩
    have g1 : l[k - 1]? = l[k]? := by
      have g : l[k - 1]? = l.reverse[k - 1]? := congrArg (fun (m : List Nat) => m[k - 1]?) e3
      rw [List.getElem?_reverse (by omega), show l.length - 1 - (k - 1) = k by omega] at g
      exact g
    have lt : k - 1 < l.length := by omega
    exact h1.adj hF hP hz2 (k - 1) l[k - 1] (List.getElem?_eq_getElem lt) (by rw [show k - 1 + 1 = k by omega, ← g1]; exact List.getElem?_eq_getElem lt)
theorem rd_len (fs ps : List Nat) (n : Nat) : (rd fs ps n).length = n := by unfold rd; rw [List.length_map, List.length_range]
theorem rd_get (fs ps : List Nat) {n x : Nat} (h : x < n) : (rd fs ps n)[x]? = some (far fs ps n (n + x) - n) := by
  unfold rd; rw [List.getElem?_map, List.getElem?_range h]; rfl
theorem rd_pair {fs ps : List Nat} {n : Nat} (hF : IsPair (2 * n) fs) (hP : IsPair n ps) : IsPair n (rd fs ps n) := by
  refine ⟨rd_len _ _ _, fun x hx => ?_⟩
  obtain ⟨h1, h2, h3, h4⟩ := far_d hF hP (z := n + x) (by omega) (by omega)
  refine ⟨_, rd_get fs ps hx, by omega, by omega, ?_⟩
  rw [rd_get fs ps (by omega), show n + (far fs ps n (n + x) - n) = far fs ps n (n + x) by omega, h3, show n + x - n = x by omega]
/-- a sheet that differs only at four ends -/
structure Near (fs gs : List Nat) (n A B c d : Nat) : Prop where
  la : n ≤ A
  lb : n ≤ B
  ab : A ≠ B
  fc : fs.getD c 0 = A
  un : ∀ z, fs.getD z 0 = A → z = c
  fd : fs.getD d 0 = B
  fb : fs.getD B 0 = d
  gc : gs.getD c 0 = d
  eq : ∀ z, z ≠ A → z ≠ B → z ≠ c → z ≠ d → gs.getD z 0 = fs.getD z 0
theorem Trail.near {fs gs ps : List Nat} {n A B c d z : Nat} {l : List Nat} (hP : IsPair n ps) (N : Near fs gs n A B c d) (h : Trail fs ps n z l) : z ≠ A → z ≠ B → l.getLastD 0 ≠ A → l.getLastD 0 ≠ B → Trail gs ps n z l := by
  have la := N.la
  have lb := N.lb
  induction h with
  | @stop z h1 =>
    intro hA hB eA eB
    have e : gs.getD z 0 = fs.getD z 0 := N.eq z hA hB (fun e => eA (by rw [e]; exact N.fc)) (fun e => eB (by rw [e]; exact N.fd))
    rw [← e]; exact .stop (by rw [e]; exact h1)
  | @go z l h1 h2 ih =>
    intro hA hB eA eB
    rw [lastc h2.len.1] at eA eB
    have e : gs.getD z 0 = fs.getD z 0 := N.eq z hA hB (fun e => by rw [e, N.fc] at h1; omega) (fun e => by rw [e, N.fd] at h1; omega)
    have hz' := (hP.d h1).1
    have t := ih (by omega) (by omega) eA eB
    rw [← e] at h1 t ⊢
    exact .go h1 t
theorem Trail.over {fs gs ps : List Nat} {n A B c d z : Nat} {l m : List Nat} (hP : IsPair n ps) (N : Near fs gs n A B c d) (hm : Trail fs ps n B m) (mA : m.getLastD 0 ≠ A) (mB : m.getLastD 0 ≠ B) (h : Trail fs ps n z l) : z ≠ A → z ≠ B → l.getLastD 0 = A → ∃ k, Trail gs ps n z k ∧ k.getLastD 0 = m.getLastD 0 := by
  have la := N.la
  have lb := N.lb
  have fb := N.fb
  induction h with
  | @stop z h1 =>
    intro hA hB eA
    by_cases zc : z = c
    · subst zc
      cases hm with
      | stop h => 
        refine ⟨_, .stop (by rw [N.gc, ← fb]; exact h), ?_⟩
        rw [N.gc, ← fb]; rfl
      | @go _ m h h2 =>
        rw [lastc h2.len.1] at mA mB ⊢
        rw [fb] at h h2
        have := hP.d h
        refine ⟨_, .go (by rw [N.gc]; exact h) (by rw [N.gc]; exact h2.near hP N (by omega) (by omega) mA mB), ?_⟩
        rw [lastc h2.len.1]
    · exact absurd (N.un z eA) zc
  | @go z l h1 h2 ih =>
    intro hA hB eA
    rw [lastc h2.len.1] at eA
    have e : gs.getD z 0 = fs.getD z 0 := N.eq z hA hB (fun e => by rw [e, N.fc] at h1; omega) (fun e => by rw [e, N.fd] at h1; omega)
    have hz' := (hP.d h1).1
    obtain ⟨k, t1, t2⟩ := ih (by omega) (by omega) eA
    rw [← e] at h1 t1
    refine ⟨_, .go h1 t1, ?_⟩
    rw [lastc t1.len.1]; exact t2

theorem jn_near {fs : List Nat} {n A B : Nat} (hF : IsPair (2 * n) fs) (hA : n ≤ A) (hB : n ≤ B) (hA2 : A < 2 * n) (hB2 : B < 2 * n) (hab : A ≠ B) (hc : fs.getD A 0 ≠ B) : Near fs (jn fs A B) n A B (fs.getD A 0) (fs.getD B 0) ∧ Near fs (jn fs A B) n B A (fs.getD B 0) (fs.getD A 0) ∧ (jn fs A B).getD A 0 = B ∧ (jn fs A B).getD B 0 = A := by
  obtain ⟨a1, a2, a3, a4⟩ := hF.d hA2
  obtain ⟨b1, b2, b3, b4⟩ := hF.d hB2
  have G := jn_get hF hab a4 b4 hc
  obtain ⟨x1, x2, x3, x4, _⟩ := four hF hab a4 b4 hc
  have D : ∀ z, (jn fs A B).getD z 0 = ((jn fs A B)[z]?).getD 0 := fun z => List.getD_eq_getElem?_getD
  have un : ∀ {X : Nat}, n ≤ X → X < 2 * n → ∀ z, fs.getD z 0 = X → z = fs.getD X 0 := fun {X} h1 h2 z e => by
    by_cases hz : z < 2 * n
    · rw [← e, (hF.d hz).2.2.1]
    · rw [List.getD_eq_getElem?_getD, List.getElem?_eq_none (by rw [hF.len]; omega)] at e
      have e' : 0 = X := e
      omega
  have E : ∀ z, z ≠ A → z ≠ B → z ≠ fs.getD A 0 → z ≠ fs.getD B 0 → (jn fs A B).getD z 0 = fs.getD z 0 := fun z h1 h2 h3 h4 => by
    rw [D, G, if_neg h1, if_neg h2, if_neg h3, if_neg h4, ← List.getD_eq_getElem?_getD]
  refine ⟨⟨hA, hB, hab, a3, un hA hA2, b3, rfl, ?_, E⟩, ⟨hB, hA, hab.symm, b3, un hB hB2, a3, rfl, ?_, fun z h1 h2 h3 h4 => E z h2 h1 h4 h3⟩, ?_, ?_⟩
  · rw [D, G, if_neg x1, if_neg hc, if_pos rfl]; rfl
  · rw [D, G, if_neg x3, if_neg x2, if_neg (Ne.symm x4), if_pos rfl]; rfl
  · rw [D, G, if_pos rfl]; rfl
  · rw [D, G, if_neg hab.symm, if_pos rfl]; rfl
theorem IsPair.ofd {fs : List Nat} {n x y : Nat} (h : IsPair n fs) (hx : x < n) (e : fs.getD x 0 = y) : fs[x]? = some y := by
  rw [← e]; exact (h.d hx).2.2.2
/-- a call added to a sheet is a call behind what is read -/
theorem rd_jn {fs ps : List Nat} {n a b : Nat} (hF : IsPair (2 * n) fs) (hP : IsPair n ps) (hab : a ≠ b) (ha : a < n) (hb : b < n) : rd (jn fs (n + a) (n + b)) ps n = jn (rd fs ps n) a b := by
  have hR := rd_pair hF hP
  by_cases hc : fs.getD (n + a) 0 = n + b
  · rw [jn_same (hF.ofd (by omega) hc)]
    have t : Trail fs ps n (n + a) [n + a, n + b] := by
      have := Trail.stop (fs := fs) (ps := ps) (n := n) (z := n + a) (by rw [hc]; omega)
      rw [hc] at this; exact this
    refine (jn_same ?_).symm
    rw [rd_get fs ps ha, far_is t]
    show some (n + b - n) = some b
    rw [Nat.add_sub_cancel_left]
  · obtain ⟨N1, N2, gA, gB⟩ := jn_near hF (A := n + a) (B := n + b) (by omega) (by omega) (by omega) (by omega) (by omega) hc
    have hF' : IsPair (2 * n) (jn fs (n + a) (n + b)) := jn_pair hF (by omega) (by omega) (by omega)
    have fA := far_d hF hP (z := n + a) (by omega) (by omega)
    have fB := far_d hF hP (z := n + b) (by omega) (by omega)
    have tA : Trail (jn fs (n + a) (n + b)) ps n (n + a) [n + a, n + b] := by
      have := Trail.stop (fs := jn fs (n + a) (n + b)) (ps := ps) (n := n) (z := n + a) (by rw [gA]; omega)
      rw [gA] at this; exact this
    have tB : Trail (jn fs (n + a) (n + b)) ps n (n + b) [n + b, n + a] := by
      have := Trail.stop (fs := jn fs (n + a) (n + b)) (ps := ps) (n := n) (z := n + b) (by rw [gB]; omega)
      rw [gB] at this; exact this
    obtain ⟨lA, hlA, _⟩ := trail_ex hF hP (z := n + a) (by omega) (by omega)
    obtain ⟨lB, hlB, _⟩ := trail_ex hF hP (z := n + b) (by omega) (by omega)
    have eA := far_is hlA
    have eB := far_is hlB
    have ga := rd_get fs ps ha
    have gb := rd_get fs ps hb
    refine List.ext_getElem? fun x => ?_
    by_cases hx : x < n
    · rw [rd_get _ ps hx]
      have fX := far_d hF hP (z := n + x) (by omega) (by omega)
      obtain ⟨lX, hlX, _⟩ := trail_ex hF hP (z := n + x) (by omega) (by omega)
      have eX := far_is hlX
      by_cases xa : x = a
      · subst xa
        rw [far_is tA, show [n + x, n + b].getLastD 0 - n = b by show n + b - n = b; omega]
        by_cases c : far fs ps n (n + x) - n = b
        · rw [jn_same (by rw [rd_get fs ps hx, c]), rd_get fs ps hx, c]
        · rw [jn_get hR hab ga gb c, if_pos rfl]
      · by_cases xb : x = b
        · subst xb
          rw [far_is tB, show [n + x, n + a].getLastD 0 - n = a by show n + a - n = a; omega]
          by_cases c : far fs ps n (n + a) - n = x
          · rw [jn_same (by rw [rd_get fs ps ha, c]), rd_get fs ps hx, show n + x = far fs ps n (n + a) by omega, fA.2.2.1, Nat.add_sub_cancel_left]
          · rw [jn_get hR hab ga gb c, if_neg (Ne.symm hab), if_pos rfl]
        · by_cases yA : far fs ps n (n + x) = n + a
          · -- the way of x came to a
            have e1 : far fs ps n (n + a) = n + x := by rw [← yA]; exact fX.2.2.1
            have e2 : far fs ps n (n + b) ≠ n + a := fun z => by
              have := fB.2.2.1
              rw [z, e1] at this; omega
            obtain ⟨k, k1, k2⟩ := Trail.over hP N1 hlB (by rw [← eB]; exact e2) (by rw [← eB]; exact fB.2.2.2) hlX (by omega) (by omega) (by rw [← eX]; exact yA)
            rw [far_is k1, k2, ← eB, jn_get hR hab ga gb (by omega), if_neg xa, if_neg xb, if_pos (by omega)]
          · by_cases yB : far fs ps n (n + x) = n + b
            · have e1 : far fs ps n (n + b) = n + x := by rw [← yB]; exact fX.2.2.1
              have e2 : far fs ps n (n + a) ≠ n + b := fun z => by
                have := fA.2.2.1
                rw [z, e1] at this; omega
              obtain ⟨k, k1, k2⟩ := Trail.over hP N2 hlA (by rw [← eA]; exact e2) (by rw [← eA]; exact fA.2.2.2) hlX (by omega) (by omega) (by rw [← eX]; exact yB)
              have e3 : far fs ps n (n + a) ≠ n + x := fun z => by
                have := fA.2.2.1
                rw [z, yB] at this; omega
              rw [far_is k1, k2, ← eA, jn_get hR hab ga gb (by omega), if_neg xa, if_neg xb, if_neg (by omega), if_pos (by omega)]
            · have t := hlX.near hP N1 (by omega) (by omega) (by rw [← eX]; exact yA) (by rw [← eX]; exact yB)
              rw [far_is t, ← eX, ← rd_get fs ps hx]
              by_cases c : far fs ps n (n + a) - n = b
              · rw [jn_same (by rw [rd_get fs ps ha, c])]
              · have e1 : far fs ps n (n + a) ≠ n + x := fun z => by
                  have := fA.2.2.1
                  rw [z] at this; exact yA this
                have e2 : far fs ps n (n + b) ≠ n + x := fun z => by
                  have := fB.2.2.1
                  rw [z] at this; exact yB this
                rw [jn_get hR hab ga gb c, if_neg xa, if_neg xb, if_neg (by omega), if_neg (by omega)]
    · rw [List.getElem?_eq_none (by rw [rd_len]; omega), List.getElem?_eq_none (by rw [jn_len, rd_len]; omega)]
end Pc
namespace Pc
theorem rd_emp {ps : List Nat} {n : Nat} (hn : 0 < n) (hP : IsPair n ps) : rd (emp n) ps n = ps := by
  refine List.ext_getElem? fun x => ?_
  by_cases hx : x < n
  · obtain ⟨h1, _, _, h4⟩ := hP.d hx
    have e1 : (emp n).getD (n + x) 0 = x := getD_of (emp_hi hx)
    have e2 : (emp n).getD (ps.getD x 0) 0 = n + ps.getD x 0 := getD_of (emp_lo h1)
    have t2 := Trail.stop (fs := emp n) (ps := ps) (n := n) (z := ps.getD x 0) (by rw [e2]; omega)
    have t := Trail.go (fs := emp n) (ps := ps) (n := n) (z := n + x) (by rw [e1]; exact hx) (by rw [e1]; exact t2)
    rw [rd_get _ ps hx, far_is t, h4]
    show some ((emp n).getD (ps.getD x 0) 0 - n) = _
    rw [e2, Nat.add_sub_cancel_left]
  · rw [List.getElem?_eq_none (by rw [rd_len]; omega), List.getElem?_eq_none (by rw [hP.len]; omega)]
theorem rd_runs {n : Nat} {ps : List Nat} (hP : IsPair n ps) : ∀ (qs : List (Nat × Nat)) {fs : List Nat}, IsPair (2 * n) fs → Calls n qs → rd (shw n qs fs) ps n = runs qs (rd fs ps n)
  | [], _, _, _ => rfl
  | q :: r, fs, hF, hc => by
    have h1 := hc q List.mem_cons_self
    have h2 := rd_runs hP r (jn_pair hF (a := n + q.1) (b := n + q.2) (by omega) (by omega) (by omega)) (fun x hx => hc x (List.mem_cons_of_mem _ hx))
    rw [rd_jn hF hP (by omega) (by omega) h1.2] at h2
    exact h2
/-- guarantee (a) -/
theorem rd_word {n : Nat} {ps : List Nat} {qs : List (Nat × Nat)} (hn : 0 < n) (hP : IsPair n ps) (hc : Calls n qs) : rd (shw n qs (emp n)) ps n = runs qs ps := by
  rw [rd_runs hP qs (emp_pair hn) hc, rd_emp hn hP]
end Pc
namespace Pc
/-! ### walks along layers: a layer of m upper and n lower ends joins them in pairs -/
section
variable {S Y : Type} (step : S → S ⊕ Y)
inductive Ends : S → Y → Prop
  | stop {s : S} {y : Y} : step s = .inr y → Ends s y
  | go {s t : S} {y : Y} : step s = .inl t → Ends t y → Ends s y
/-- where a walk is after i steps -/
def itr (s : S) : Nat → S
  | 0 => s
  | i + 1 => match step (itr s i) with
    | .inl t => t
    | .inr _ => itr s i
end
theorem Ends.det {S Y : Type} {step : S → S ⊕ Y} {s : S} {x y : Y} (h : Ends step s x) : Ends step s y → x = y := by
  induction h with
  | stop h1 => intro h; cases h with
    | stop h2 => rw [h1] at h2; exact Sum.inr.inj h2
    | go h2 _ => rw [h1] at h2; cases h2
  | go h1 _ ih => intro h; cases h with
    | stop h2 => rw [h1] at h2; cases h2
    | go h2 h3 => rw [h1] at h2; cases h2; exact ih h3
theorem itr_step {S Y : Type} {step : S → S ⊕ Y} {s t : S} (h : step s = .inl t) : ∀ i, itr step t i = itr step s (i + 1)
  | 0 => by show t = (match step s with | .inl t => t | .inr _ => s); rw [h]
  | i + 1 => by
    show (match step (itr step t i) with | .inl t => t | .inr _ => itr step t i) = (match step (itr step s (i + 1)) with | .inl t => t | .inr _ => itr step s (i + 1))
    rw [itr_step h i]
theorem itr_succ {S Y : Type} {step : S → S ⊕ Y} {s t : S} {i : Nat} (h : step (itr step s i) = .inl t) : itr step s (i + 1) = t := by
  show (match step (itr step s i) with | .inl t => t | .inr _ => itr step s i) = t
  rw [h]
theorem Ends.nth {S Y : Type} {step : S → S ⊕ Y} {s : S} {y : Y} (h : Ends step s y) : ∃ m, (∀ i, i < m → step (itr step s i) = .inl (itr step s (i + 1))) ∧ step (itr step s m) = .inr y := by
  induction h with
  | stop h => exact ⟨0, fun i hi => absurd hi (Nat.not_lt_zero _), h⟩
  | go h _ ih =>
    obtain ⟨m, h1, h2⟩ := ih
    refine ⟨m + 1, fun i hi => ?_, by rw [← itr_step h]; exact h2⟩
    cases i with
    | zero => rw [← itr_step h 0]; exact h
    | succ i =>
      have := h1 i (by omega)
      rw [itr_step h, itr_step h] at this; exact this
theorem ends_of {S Y : Type} {step : S → S ⊕ Y} : ∀ (m : Nat) (s : S) (y : Y), step (itr step s m) = .inr y → ∃ z, Ends step s z
  | 0, s, y, h => ⟨y, .stop h⟩
  | m + 1, s, y, h => by
    cases e : step s with
    | inr z => exact ⟨z, .stop e⟩
    | inl t =>
      obtain ⟨z, hz⟩ := ends_of m t y (by rw [itr_step e]; exact h)
      exact ⟨z, .go e hz⟩
/-- the step of a walk along a layer f, of m and n ends, and a layer g behind it -/
def cstep (f g : List Nat) (m n : Nat) : Bool × Nat → (Bool × Nat) ⊕ Nat
  | (true, z) => if f.getD z 0 < m then .inr (f.getD z 0) else .inl (false, f.getD z 0 - m)
  | (false, z) => if g.getD z 0 < n then .inl (true, m + g.getD z 0) else .inr (m + (g.getD z 0 - n))
def cst (m n e : Nat) : Bool × Nat := if e < m then (true, e) else (false, n + (e - m))
theorem cs_tl {f g : List Nat} {m n z : Nat} (h : f.getD z 0 < m) : cstep f g m n (true, z) = .inr (f.getD z 0) := if_pos h
theorem cs_tg {f g : List Nat} {m n z : Nat} (h : m ≤ f.getD z 0) : cstep f g m n (true, z) = .inl (false, f.getD z 0 - m) := if_neg (by omega)
theorem cs_fl {f g : List Nat} {m n z : Nat} (h : g.getD z 0 < n) : cstep f g m n (false, z) = .inl (true, m + g.getD z 0) := if_pos h
theorem cs_fg {f g : List Nat} {m n z : Nat} (h : n ≤ g.getD z 0) : cstep f g m n (false, z) = .inr (m + (g.getD z 0 - n)) := if_neg (by omega)
def opp (f g : List Nat) : Bool × Nat → Bool × Nat
  | (true, z) => (true, f.getD z 0)
  | (false, z) => (false, g.getD z 0)
/-- the states of a walk -/
def Val (m n k : Nat) : Bool × Nat → Prop
  | (true, z) => z < m + n
  | (false, z) => z < n + k
section
variable {f g : List Nat} {m n k : Nat} (hf : IsPair (m + n) f) (hg : IsPair (n + k) g)
include hf hg
theorem cs_val {s t : Bool × Nat} (hs : Val m n k s) (h : cstep f g m n s = .inl t) : Val m n k t ∧ (t = (true, t.2) ∧ m ≤ t.2 ∨ t = (false, t.2) ∧ t.2 < n) ∧ t.1 = !s.1 ∧ cstep f g m n (opp f g t) = .inl (opp f g s) := by
  obtain ⟨b, z⟩ := s
  cases b with
  | true =>
    have hz : z < m + n := hs
    by_cases c : f.getD z 0 < m
    · rw [cs_tl c] at h; cases h
    · rw [cs_tg (by omega)] at h
      cases h
      have := hf.d hz
      have hx : f.getD z 0 - m < n + k := by omega
      have gx := hg.d hx
      refine ⟨hx, .inr ⟨rfl, by show f.getD z 0 - m < n; omega⟩, rfl, ?_⟩
      show cstep f g m n (false, g.getD (f.getD z 0 - m) 0) = .inl (true, f.getD z 0)
      rw [cs_fl (by rw [gx.2.2.1]; omega), gx.2.2.1, show m + (f.getD z 0 - m) = f.getD z 0 by omega]
  | false =>
    have hz : z < n + k := hs
    by_cases c : g.getD z 0 < n
    · rw [cs_fl c] at h
      cases h
      have hx : m + g.getD z 0 < m + n := by omega
      have fx := hf.d hx
      refine ⟨hx, .inl ⟨rfl, by show m ≤ m + g.getD z 0; omega⟩, rfl, ?_⟩
      show cstep f g m n (true, f.getD (m + g.getD z 0) 0) = .inl (false, g.getD z 0)
      rw [cs_tg (by rw [fx.2.2.1]; omega), fx.2.2.1, show m + g.getD z 0 - m = g.getD z 0 by omega]
    · rw [cs_fg (by omega)] at h; cases h
theorem opp_opp {s : Bool × Nat} (hs : Val m n k s) : opp f g (opp f g s) = s ∧ opp f g s ≠ s ∧ (opp f g s).1 = s.1 ∧ Val m n k (opp f g s) := by
  obtain ⟨b, z⟩ := s
  cases b with
  | true =>
    have := hf.d (show z < m + n from hs)
    exact ⟨by show (true, f.getD (f.getD z 0) 0) = (true, z); rw [this.2.2.1], fun e => this.2.1 (congrArg Prod.snd e), rfl, this.1⟩
  | false =>
    have := hg.d (show z < n + k from hs)
    exact ⟨by show (false, g.getD (g.getD z 0) 0) = (false, z); rw [this.2.2.1], fun e => this.2.1 (congrArg Prod.snd e), rfl, this.1⟩
theorem cs_inj {s t u : Bool × Nat} (hs : Val m n k s) (ht : Val m n k t) (h1 : cstep f g m n s = .inl u) (h2 : cstep f g m n t = .inl u) : s = t := by
  have a := (cs_val hf hg hs h1).2.2.2
  have b := (cs_val hf hg ht h2).2.2.2
  rw [a] at b
  have e : opp f g s = opp f g t := Sum.inl.inj b
  rw [← (opp_opp hf hg hs).1, e, (opp_opp hf hg ht).1]
theorem cs_end {s : Bool × Nat} {y : Nat} (hs : Val m n k s) (h : cstep f g m n s = .inr y) : cst m n y = opp f g s ∧ y < m + k := by
  obtain ⟨b, z⟩ := s
  cases b with
  | true =>
    by_cases c : f.getD z 0 < m
    · rw [cs_tl c] at h; cases h
      refine ⟨?_, by omega⟩
      unfold cst; rw [if_pos c]; rfl
    · rw [cs_tg (by omega)] at h; cases h
  | false =>
    have := hg.d (show z < n + k from hs)
    by_cases c : g.getD z 0 < n
    · rw [cs_fl c] at h; cases h
    · rw [cs_fg (by omega)] at h; cases h
      refine ⟨?_, by omega⟩
      unfold cst; rw [if_neg (by omega), show n + (m + (g.getD z 0 - n) - m) = g.getD z 0 by omega]; rfl
theorem cst_val {e : Nat} (he : e < m + k) : Val m n k (cst m n e) ∧ cstep f g m n (opp f g (cst m n e)) = .inr e := by
  unfold cst
  by_cases c : e < m
  · rw [if_pos c]
    have := hf.d (show e < m + n by omega)
    refine ⟨show e < m + n by omega, ?_⟩
    show cstep f g m n (true, f.getD e 0) = .inr e
    rw [cs_tl (by rw [this.2.2.1]; exact c), this.2.2.1]
  · rw [if_neg c]
    have := hg.d (show n + (e - m) < n + k by omega)
    refine ⟨show n + (e - m) < n + k by omega, ?_⟩
    show cstep f g m n (false, g.getD (n + (e - m)) 0) = .inr e
    rw [cs_fg (by rw [this.2.2.1]; omega), this.2.2.1, show m + (n + (e - m) - n) = e by omega]
theorem cs_out {e : Nat} (he : e < m + k) {s : Bool × Nat} (hs : Val m n k s) : cstep f g m n s ≠ .inl (cst m n e) := fun h => by
  have h1 := (cs_val hf hg hs h).2.2.2
  rw [(cst_val hf hg he).2] at h1
  cases h1
theorem walk_ends {e : Nat} (he : e < m + k) : ∃ y, Ends (cstep f g m n) (cst m n e) y := by
  apply Classical.byContradiction
  intro hn
  have go : ∀ i, cstep f g m n (itr (cstep f g m n) (cst m n e) i) = .inl (itr (cstep f g m n) (cst m n e) (i + 1)) := fun i => by
    cases h : cstep f g m n (itr (cstep f g m n) (cst m n e) i) with
    | inr y => exact absurd (ends_of i _ y h) hn
    | inl t => rw [itr_succ h]
  have val : ∀ i, Val m n k (itr (cstep f g m n) (cst m n e) i) := fun i => by
    induction i with
    | zero => exact (cst_val hf hg he).1
    | succ i ih => exact (cs_val hf hg ih (go i)).1
  have diff : ∀ i j, i < j → itr (cstep f g m n) (cst m n e) i ≠ itr (cstep f g m n) (cst m n e) j := fun i => by
    induction i with
    | zero =>
      intro j hj h
      cases j with
      | zero => omega
      | succ j => exact cs_out hf hg he (val j) ((go j).trans (congrArg Sum.inl h.symm))
    | succ i ih =>
      intro j hj h
      cases j with
      | zero => omega
      | succ j => exact ih j (by omega) (cs_inj hf hg (val i) (val j) (go i) ((go j).trans (congrArg Sum.inl h.symm)))
  let code : Bool × Nat → Nat := fun s => if s.1 = true then s.2 - m else n + s.2
  obtain ⟨i, j, h1, h2, h3⟩ := pigeon (2 * n) (fun i => code (itr (cstep f g m n) (cst m n e) (i + 1))) (fun i _ => by
    have v := val (i + 1)
    have := (cs_val hf hg (val i) (go i)).2.1
    generalize itr (cstep f g m n) (cst m n e) (i + 1) = s at v this
    obtain ⟨b, z⟩ := s
    cases b with
    | true =>
      rcases this with h | h
      · have hv : z < m + n := v
        have hz : m ≤ z := h.2
        show (if true = true then z - m else n + z) < 2 * n
        rw [if_pos rfl]; omega
      · cases h.1
    | false =>
      rcases this with h | h
      · cases h.1
      · have hz : z < n := h.2
        show (if false = true then z - m else n + z) < 2 * n
        rw [if_neg Bool.false_ne_true]; omega)
  refine diff (i + 1) (j + 1) (by omega) ?_
  have v1 := (cs_val hf hg (val i) (go i)).2.1
  have v2 := (cs_val hf hg (val j) (go j)).2.1
  have w1 := val (i + 1)
  have w2 := val (j + 1)
  have h3' : code (itr (cstep f g m n) (cst m n e) (i + 1)) = code (itr (cstep f g m n) (cst m n e) (j + 1)) := h3
  clear h3 diff val go hn
  generalize itr (cstep f g m n) (cst m n e) (i + 1) = s at v1 h3' w1
  generalize itr (cstep f g m n) (cst m n e) (j + 1) = t at v2 h3' w2
  obtain ⟨b, z⟩ := s
  obtain ⟨b', z'⟩ := t
  have T : ∀ z, code (true, z) = z - m := fun z => if_pos rfl
  have F : ∀ z, code (false, z) = n + z := fun z => if_neg Bool.false_ne_true
  cases b <;> cases b'
  · rw [F, F] at h3'
    have : z = z' := by omega
    rw [this]
  · rw [F, T] at h3'
    rcases v2 with h | h
    · have : z' < m + n := w2
      have : m ≤ z' := h.2
      omega
    · cases h.1
  · rw [T, F] at h3'
    rcases v1 with h | h
    · have : z < m + n := w1
      have : m ≤ z := h.2
      omega
    · cases h.1
  · rw [T, T] at h3'
    rcases v1 with h | h
    · rcases v2 with h' | h'
      · have : m ≤ z := h.2
        have : m ≤ z' := h'.2
        have : z = z' := by omega
        rw [this]
      · cases h'.1
    · cases h.1
theorem ends_back {s : Bool × Nat} {y : Nat} (h : Ends (cstep f g m n) s y) : Val m n k s → y < m + k ∧ ∀ y0, Ends (cstep f g m n) (opp f g s) y0 → Ends (cstep f g m n) (cst m n y) y0 := by
  induction h with
  | stop h1 =>
    intro hs
    have := cs_end hf hg hs h1
    exact ⟨this.2, fun y0 h0 => by rw [this.1]; exact h0⟩
  | go h1 _ ih =>
    intro hs
    obtain ⟨v1, _, _, v2⟩ := cs_val hf hg hs h1
    obtain ⟨i1, i2⟩ := ih v1
    exact ⟨i1, fun y0 h0 => i2 y0 (.go v2 h0)⟩
theorem ends_inv {e y : Nat} (he : e < m + k) (h : Ends (cstep f g m n) (cst m n e) y) : y < m + k ∧ Ends (cstep f g m n) (cst m n y) e ∧ y ≠ e := by
  obtain ⟨v, o⟩ := cst_val hf hg he
  obtain ⟨h1, h2⟩ := ends_back hf hg h v
  refine ⟨h1, h2 e (.stop o), fun c => ?_⟩
  subst c
  obtain ⟨t, g1, g2⟩ := h.nth
  have val : ∀ i, i ≤ t → Val m n k (itr (cstep f g m n) (cst m n y) i) := fun i => by
    induction i with
    | zero => exact fun _ => v
    | succ i ih => exact fun hi => (cs_val hf hg (ih (by omega)) (g1 i (by omega))).1
  have mir : ∀ j, j ≤ t → opp f g (itr (cstep f g m n) (cst m n y) (t - j)) = itr (cstep f g m n) (cst m n y) j := fun j => by
    induction j with
    | zero => intro _; exact (cs_end hf hg (val t (Nat.le_refl _)) g2).1.symm
    | succ j ih =>
      intro hj
      have a1 := ih (by omega)
      have a2 := g1 (t - (j + 1)) (by omega)
      rw [show t - (j + 1) + 1 = t - j by omega] at a2
      have a3 := (cs_val hf hg (val _ (by omega)) a2).2.2.2
      rw [a1, g1 j (by omega)] at a3
      exact (Sum.inl.inj a3).symm
  by_cases p : t % 2 = 0
  · have := mir (t / 2) (by omega)
    rw [show t - t / 2 = t / 2 by omega] at this
    exact (opp_opp hf hg (val (t / 2) (by omega))).2.1 this
  · have a := mir (t / 2) (by omega)
    rw [show t - t / 2 = t / 2 + 1 by omega] at a
    have b := (opp_opp hf hg (val (t / 2 + 1) (by omega))).2.2.1
    have c := (cs_val hf hg (val (t / 2) (by omega)) (g1 (t / 2) (by omega))).2.2.1
    rw [a] at b
    rw [← b] at c
    exact absurd c (by cases (itr (cstep f g m n) (cst m n y) (t / 2)).1 <;> decide)
end
/-- two layers one behind the other -/
noncomputable def cfar (f g : List Nat) (m n e : Nat) : Nat := open Classical in if h : ∃ y, Ends (cstep f g m n) (cst m n e) y then h.choose else 0
noncomputable def cmp (f g : List Nat) (m n k : Nat) : List Nat := (List.range (m + k)).map fun e => cfar f g m n e
theorem cfar_is {f g : List Nat} {m n e y : Nat} (h : Ends (cstep f g m n) (cst m n e) y) : cfar f g m n e = y := by
  unfold cfar
  rw [dif_pos ⟨y, h⟩]
  exact (Exists.choose_spec (⟨y, h⟩ : ∃ y, Ends (cstep f g m n) (cst m n e) y)).det h
theorem cmp_len (f g : List Nat) (m n k : Nat) : (cmp f g m n k).length = m + k := by unfold cmp; rw [List.length_map, List.length_range]
theorem cmp_get (f g : List Nat) {m n k e : Nat} (h : e < m + k) : (cmp f g m n k)[e]? = some (cfar f g m n e) := by unfold cmp; rw [List.getElem?_map, List.getElem?_range h]; rfl
theorem cmp_d (f g : List Nat) {m n k e : Nat} (h : e < m + k) : (cmp f g m n k).getD e 0 = cfar f g m n e := by
  rw [List.getD_eq_getElem?_getD, cmp_get f g h]; rfl
theorem cmp_ends {f g : List Nat} {m n k e : Nat} (hf : IsPair (m + n) f) (hg : IsPair (n + k) g) (he : e < m + k) : Ends (cstep f g m n) (cst m n e) ((cmp f g m n k).getD e 0) := by
  obtain ⟨y, h⟩ := walk_ends hf hg he
  rw [cmp_d f g he, cfar_is h]; exact h
theorem cmp_pair {f g : List Nat} {m n k : Nat} (hf : IsPair (m + n) f) (hg : IsPair (n + k) g) : IsPair (m + k) (cmp f g m n k) := by
  refine ⟨cmp_len .., fun e he => ?_⟩
  obtain ⟨y, h⟩ := walk_ends hf hg he
  obtain ⟨h1, h2, h3⟩ := ends_inv hf hg he h
  exact ⟨y, by rw [cmp_get f g he, cfar_is h], h1, h3, by rw [cmp_get f g h1, cfar_is h2]⟩
theorem cmp_ext {f g x : List Nat} {m n k : Nat} (hx : x.length = m + k) (h : ∀ e, e < m + k → Ends (cstep f g m n) (cst m n e) (x.getD e 0)) : cmp f g m n k = x := by
  refine List.ext_getElem? fun e => ?_
  by_cases he : e < m + k
  · rw [cmp_get f g he, cfar_is (h e he), List.getD_eq_getElem?_getD, List.getElem?_eq_getElem (by omega)]; rfl
  · rw [List.getElem?_eq_none (by rw [cmp_len]; omega), List.getElem?_eq_none (by omega)]
end Pc
namespace Pc
/-! ### three layers -/
def step3 (f g h : List Nat) (m n k : Nat) : Nat × Nat → (Nat × Nat) ⊕ Nat
  | (0, z) => if f.getD z 0 < m then .inr (f.getD z 0) else .inl (1, f.getD z 0 - m)
  | (1, z) => if g.getD z 0 < n then .inl (0, m + g.getD z 0) else .inl (2, g.getD z 0 - n)
  | (_, z) => if h.getD z 0 < k then .inl (1, n + h.getD z 0) else .inr (m + (h.getD z 0 - k))
section
variable {f g h : List Nat} {m n k l : Nat}
/-- the first two -/
def em1 : Bool × Nat → Nat × Nat
  | (true, z) => (0, z)
  | (false, z) => (1, z)
theorem first_two {s : Bool × Nat} {e : Nat} (w : Ends (cstep f g m n) s e) : (e < m → Ends (step3 f g h m n k) (em1 s) e) ∧ (m ≤ e → ∀ y, Ends (step3 f g h m n k) (2, e - m) y → Ends (step3 f g h m n k) (em1 s) y) := by
  induction w with
  | @stop s e h1 =>
    obtain ⟨b, z⟩ := s
    cases b with
    | true =>
      by_cases c : f.getD z 0 < m
      · rw [cs_tl c] at h1; cases h1
        exact ⟨fun _ => .stop (if_pos c), fun q => absurd c (by omega)⟩
      · rw [cs_tg (by omega)] at h1; cases h1
    | false =>
      by_cases c : g.getD z 0 < n
      · rw [cs_fl c] at h1; cases h1
      · rw [cs_fg (by omega)] at h1; cases h1
        refine ⟨fun q => by omega, fun _ y hy => .go (t := (2, g.getD z 0 - n)) (if_neg c) ?_⟩
        rw [show m + (g.getD z 0 - n) - m = g.getD z 0 - n by omega] at hy
        exact hy
  | @go s t e h1 _ ih =>
    have st : step3 f g h m n k (em1 s) = .inl (em1 t) := by
      obtain ⟨b, z⟩ := s
      cases b with
      | true =>
        by_cases c : f.getD z 0 < m
        · rw [cs_tl c] at h1; cases h1
        · rw [cs_tg (by omega)] at h1; cases h1
          exact if_neg c
      | false =>
        by_cases c : g.getD z 0 < n
        · rw [cs_fl c] at h1; cases h1
          exact if_pos c
        · rw [cs_fg (by omega)] at h1; cases h1
    exact ⟨fun q => .go st (ih.1 q), fun q y hy => .go st (ih.2 q y hy)⟩
/-- the last two -/
def em2 : Bool × Nat → Nat × Nat
  | (true, z) => (1, z)
  | (false, z) => (2, z)
theorem last_two {s : Bool × Nat} {e : Nat} (w : Ends (cstep g h n k) s e) : (n ≤ e → Ends (step3 f g h m n k) (em2 s) (m + (e - n))) ∧ (e < n → ∀ y, Ends (step3 f g h m n k) (0, m + e) y → Ends (step3 f g h m n k) (em2 s) y) := by
  induction w with
  | @stop s e h1 =>
    obtain ⟨b, z⟩ := s
    cases b with
    | true =>
      by_cases c : g.getD z 0 < n
      · rw [cs_tl c] at h1; cases h1
        exact ⟨fun q => absurd c (by omega), fun _ y hy => .go (t := (0, m + g.getD z 0)) (if_pos c) hy⟩
      · rw [cs_tg (by omega)] at h1; cases h1
    | false =>
      by_cases c : h.getD z 0 < k
      · rw [cs_fl c] at h1; cases h1
      · rw [cs_fg (by omega)] at h1; cases h1
        refine ⟨fun _ => .stop ?_, fun q => by omega⟩
        rw [show m + (n + (h.getD z 0 - k) - n) = m + (h.getD z 0 - k) by omega]
        exact if_neg c
  | @go s t e h1 _ ih =>
    have st : step3 f g h m n k (em2 s) = .inl (em2 t) := by
      obtain ⟨b, z⟩ := s
      cases b with
      | true =>
        by_cases c : g.getD z 0 < n
        · rw [cs_tl c] at h1; cases h1
        · rw [cs_tg (by omega)] at h1; cases h1
          exact if_neg c
      | false =>
        by_cases c : h.getD z 0 < k
        · rw [cs_fl c] at h1; cases h1
          exact if_pos c
        · rw [cs_fg (by omega)] at h1; cases h1
    exact ⟨fun q => .go st (ih.1 q), fun q y hy => .go st (ih.2 q y hy)⟩
def em3 (m n : Nat) : Bool × Nat → Nat × Nat
  | (true, z) => if z < m then (0, z) else (1, n + (z - m))
  | (false, z) => (2, z)
def em4 (n k : Nat) : Bool × Nat → Nat × Nat
  | (true, z) => (0, z)
  | (false, z) => if z < n then (1, z) else (2, k + (z - n))
theorem em3_cst (z : Nat) : em3 m n (true, z) = em1 (cst m n z) := by
  unfold cst
  by_cases c : z < m
  · rw [if_pos c]; exact if_pos c
  · rw [if_neg c]; exact if_neg c
theorem em4_cst (z : Nat) : em4 n k (false, z) = em2 (cst n k z) := by
  unfold cst
  by_cases c : z < n
  · rw [if_pos c]; exact if_pos c
  · rw [if_neg c]; exact if_neg c
theorem left_three (hf : IsPair (m + n) f) (hg : IsPair (n + k) g) (hh : IsPair (k + l) h) {s : Bool × Nat} {y : Nat} (w : Ends (cstep (cmp f g m n k) h m k) s y) : Val m k l s → Ends (step3 f g h m n k) (em3 m n s) y := by
  have hfg := cmp_pair hf hg
  induction w with
  | @stop s e h1 =>
    intro hs
    obtain ⟨b, z⟩ := s
    cases b with
    | true =>
      have W := first_two (h := h) (k := k) (cmp_ends hf hg (show z < m + k from hs))
      by_cases c : (cmp f g m n k).getD z 0 < m
      · rw [cs_tl c] at h1; cases h1
        rw [em3_cst]; exact W.1 c
      · rw [cs_tg (by omega)] at h1; cases h1
    | false =>
      by_cases c : h.getD z 0 < k
      · rw [cs_fl c] at h1; cases h1
      · rw [cs_fg (by omega)] at h1; cases h1
        exact .stop (if_neg c)
  | @go s t e h1 _ ih =>
    intro hs
    have ht := (cs_val hfg hh hs h1).1
    obtain ⟨b, z⟩ := s
    cases b with
    | true =>
      have W := first_two (h := h) (k := k) (cmp_ends hf hg (show z < m + k from hs))
      by_cases c : (cmp f g m n k).getD z 0 < m
      · rw [cs_tl c] at h1; cases h1
      · rw [cs_tg (by omega)] at h1; cases h1
        rw [em3_cst]; exact W.2 (by omega) _ (ih ht)
    | false =>
      by_cases c : h.getD z 0 < k
      · rw [cs_fl c] at h1; cases h1
        refine .go (t := (1, n + h.getD z 0)) (if_pos c) ?_
        have q := ih ht
        have e : em3 m n (true, m + h.getD z 0) = (1, n + h.getD z 0) := by
          show (if m + h.getD z 0 < m then _ else _) = _
          rw [if_neg (by omega), show m + h.getD z 0 - m = h.getD z 0 by omega]
        rw [e] at q; exact q
      · rw [cs_fg (by omega)] at h1; cases h1
theorem right_three (hf : IsPair (m + n) f) (hg : IsPair (n + k) g) (hh : IsPair (k + l) h) {s : Bool × Nat} {y : Nat} (w : Ends (cstep f (cmp g h n k l) m n) s y) : Val m n l s → Ends (step3 f g h m n k) (em4 n k s) y := by
  have hgh := cmp_pair hg hh
  induction w with
  | @stop s e h1 =>
    intro hs
    obtain ⟨b, z⟩ := s
    cases b with
    | true =>
      by_cases c : f.getD z 0 < m
      · rw [cs_tl c] at h1; cases h1
        exact .stop (if_pos c)
      · rw [cs_tg (by omega)] at h1; cases h1
    | false =>
      have W := last_two (f := f) (m := m) (cmp_ends hg hh (show z < n + l from hs))
      by_cases c : (cmp g h n k l).getD z 0 < n
      · rw [cs_fl c] at h1; cases h1
      · rw [cs_fg (by omega)] at h1; cases h1
        rw [em4_cst]; exact W.1 (by omega)
  | @go s t e h1 _ ih =>
    intro hs
    have ht := (cs_val hf hgh hs h1).1
    obtain ⟨b, z⟩ := s
    cases b with
    | true =>
      by_cases c : f.getD z 0 < m
      · rw [cs_tl c] at h1; cases h1
      · rw [cs_tg (by omega)] at h1; cases h1
        refine .go (t := (1, f.getD z 0 - m)) (if_neg c) ?_
        have q := ih ht
        have fz := hf.d (show z < m + n from hs)
        have e : em4 n k (false, f.getD z 0 - m) = (1, f.getD z 0 - m) := if_pos (by omega)
        rw [e] at q; exact q
    | false =>
      have W := last_two (f := f) (m := m) (cmp_ends hg hh (show z < n + l from hs))
      by_cases c : (cmp g h n k l).getD z 0 < n
      · rw [cs_fl c] at h1; cases h1
        rw [em4_cst]; exact W.2 c _ (ih ht)
      · rw [cs_fg (by omega)] at h1; cases h1
/-- the order of joining does not matter -/
theorem cmp_assoc (hf : IsPair (m + n) f) (hg : IsPair (n + k) g) (hh : IsPair (k + l) h) : cmp (cmp f g m n k) h m k l = cmp f (cmp g h n k l) m n l := by
  have hfg := cmp_pair hf hg
  have hgh := cmp_pair hg hh
  refine cmp_ext (by rw [cmp_len]) fun e he => ?_
  obtain ⟨y, w⟩ := walk_ends hfg hh he
  have a := left_three hf hg hh w (cst_val hfg hh he).1
  have b := right_three hf hg hh (cmp_ends hf hgh he) (cst_val hf hgh he).1
  have e1 : em3 m n (cst m k e) = em4 n k (cst m n e) := by
    unfold cst
    by_cases c : e < m
    · rw [if_pos c, if_pos c]; exact if_pos c
    · rw [if_neg c, if_neg c]
      show (2, k + (e - m)) = if n + (e - m) < n then _ else _
      rw [if_neg (by omega), show n + (e - m) - n = e - m by omega]
  rw [e1] at a
  rw [← a.det b]; exact w
end
/-! ### what is read is a layer behind a pairing -/
theorem trail_ends {fs ps : List Nat} {n z : Nat} {l : List Nat} (hP : IsPair n ps) (h : Trail fs ps n z l) : Ends (cstep ps fs 0 n) (false, z) (l.getLastD 0 - n) := by
  induction h with
  | @stop z h1 =>
    have := cs_fg (f := ps) (g := fs) (m := 0) (n := n) (z := z) h1
    rw [Nat.zero_add] at this
    exact .stop this
  | @go z l h1 h2 ih =>
    have a := cs_fl (f := ps) (g := fs) (m := 0) (n := n) (z := z) h1
    rw [Nat.zero_add] at a
    have b := cs_tg (f := ps) (g := fs) (m := 0) (n := n) (z := fs.getD z 0) (Nat.zero_le _)
    rw [Nat.sub_zero] at b
    rw [lastc h2.len.1]
    exact .go a (.go b ih)
theorem rd_cmp {fs ps : List Nat} {n : Nat} (hF : IsPair (2 * n) fs) (hP : IsPair n ps) : rd fs ps n = cmp ps fs 0 n n := by
  refine (cmp_ext (by rw [rd_len, Nat.zero_add]) fun e he => ?_).symm
  obtain ⟨l, h1, _⟩ := trail_ex hF hP (z := n + e) (by omega) (by omega)
  have := trail_ends hP h1
  rw [← far_is h1] at this
  have e1 : (rd fs ps n).getD e 0 = far fs ps n (n + e) - n := by
    rw [List.getD_eq_getElem?_getD, rd_get fs ps (by omega)]; rfl
  rw [e1]
  unfold cst
  rw [if_neg (Nat.not_lt_zero _), Nat.sub_zero]
  exact this
/-! ### a call added to the second layer -/
section
variable {f g g' : List Nat} {m n k A B c d : Nat}
theorem Ends.near (hf : IsPair (m + n) f) (hg : IsPair (n + k) g) (hN : Near g g' n A B c d) {s : Bool × Nat} {y : Nat} (w : Ends (cstep f g m n) s y) : Val m n k s → s ≠ (false, A) → s ≠ (false, B) → y ≠ m + (A - n) → y ≠ m + (B - n) → Ends (cstep f g' m n) s y := by
  have la := hN.la
  have lb := hN.lb
  induction w with
  | @stop s y h1 =>
    intro vs s1 s2 y1 y2
    obtain ⟨b, z⟩ := s
    cases b with
    | true =>
      by_cases q : f.getD z 0 < m
      · rw [cs_tl q] at h1; cases h1; exact .stop (cs_tl q)
      · rw [cs_tg (by omega)] at h1; cases h1
    | false =>
      by_cases q : g.getD z 0 < n
      · rw [cs_fl q] at h1; cases h1
      · rw [cs_fg (by omega)] at h1; cases h1
        have e : g'.getD z 0 = g.getD z 0 := hN.eq z (fun e => s1 (by rw [e])) (fun e => s2 (by rw [e])) (fun e => y1 (by rw [e, hN.fc])) (fun e => y2 (by rw [e, hN.fd]))
        have := cs_fg (f := f) (g := g') (m := m) (n := n) (z := z) (by rw [e]; omega)
        rw [e] at this; exact .stop this
  | @go s t y h1 _ ih =>
    intro vs s1 s2 y1 y2
    have cv := cs_val hf hg vs h1
    obtain ⟨b, z⟩ := s
    cases b with
    | true =>
      by_cases q : f.getD z 0 < m
      · rw [cs_tl q] at h1; cases h1
      · rw [cs_tg (by omega)] at h1; cases h1
        have hz := (hf.d (show z < m + n from vs)).1
        exact .go (cs_tg (by omega)) (ih cv.1 (fun h => by have := congrArg Prod.snd h; have e : f.getD z 0 - m = A := this; omega) (fun h => by have := congrArg Prod.snd h; have e : f.getD z 0 - m = B := this; omega) y1 y2)
    | false =>
      by_cases q : g.getD z 0 < n
      · rw [cs_fl q] at h1; cases h1
        have e : g'.getD z 0 = g.getD z 0 := hN.eq z (fun e => s1 (by rw [e])) (fun e => s2 (by rw [e])) (fun e => by rw [e, hN.fc] at q; omega) (fun e => by rw [e, hN.fd] at q; omega)
        have := cs_fl (f := f) (g := g') (m := m) (n := n) (z := z) (by rw [e]; exact q)
        rw [e] at this
        exact .go this (ih cv.1 (fun h => by cases h) (fun h => by cases h) y1 y2)
      · rw [cs_fg (by omega)] at h1; cases h1
theorem Ends.over (hf : IsPair (m + n) f) (hg : IsPair (n + k) g) (hN : Near g g' n A B c d) (hB : B < n + k) {y' : Nat} (wB : Ends (cstep f g m n) (false, B) y') (yA : y' ≠ m + (A - n)) (yB : y' ≠ m + (B - n)) {s : Bool × Nat} {y : Nat} (w : Ends (cstep f g m n) s y) :
    Val m n k s → s ≠ (false, A) → s ≠ (false, B) → y = m + (A - n) → Ends (cstep f g' m n) s y' := by
  have la := hN.la
  have lb := hN.lb
  have fb := hN.fb
  induction w with
  | @stop s y h1 =>
    intro vs s1 s2 y1
    obtain ⟨b, z⟩ := s
    cases b with
    | true =>
      by_cases q : f.getD z 0 < m
      · rw [cs_tl q] at h1; cases h1; omega
      · rw [cs_tg (by omega)] at h1; cases h1
    | false =>
      by_cases q : g.getD z 0 < n
      · rw [cs_fl q] at h1; cases h1
      · rw [cs_fg (by omega)] at h1; cases h1
        have zc : z = c := hN.un z (by omega)
        subst zc
        -- the way of B goes on from here
        cases wB with
        | stop h2 =>
          by_cases p : g.getD B 0 < n
          · rw [cs_fl p] at h2; cases h2
          · rw [cs_fg (by omega)] at h2; cases h2
            have := cs_fg (f := f) (g := g') (m := m) (n := n) (z := z) (by rw [hN.gc, ← fb]; omega)
            rw [hN.gc, ← fb] at this; exact .stop this
        | @go _ t _ h2 h3 =>
          have cv := cs_val hf hg (show Val m n k (false, B) from hB) h2
          by_cases p : g.getD B 0 < n
          · rw [cs_fl p] at h2; cases h2
            have := cs_fl (f := f) (g := g') (m := m) (n := n) (z := z) (by rw [hN.gc, ← fb]; exact p)
            rw [hN.gc, ← fb] at this
            exact .go this (h3.near hf hg hN cv.1 (fun h => by cases h) (fun h => by cases h) yA yB)
          · rw [cs_fg (by omega)] at h2; cases h2
  | @go s t y h1 _ ih =>
    intro vs s1 s2 y1
    have cv := cs_val hf hg vs h1
    obtain ⟨b, z⟩ := s
    cases b with
    | true =>
      by_cases q : f.getD z 0 < m
      · rw [cs_tl q] at h1; cases h1
      · rw [cs_tg (by omega)] at h1; cases h1
        have hz := (hf.d (show z < m + n from vs)).1
        exact .go (cs_tg (by omega)) (ih cv.1 (fun h => by have := congrArg Prod.snd h; have e : f.getD z 0 - m = A := this; omega) (fun h => by have := congrArg Prod.snd h; have e : f.getD z 0 - m = B := this; omega) y1)
    | false =>
      by_cases q : g.getD z 0 < n
      · rw [cs_fl q] at h1; cases h1
        have e : g'.getD z 0 = g.getD z 0 := hN.eq z (fun e => s1 (by rw [e])) (fun e => s2 (by rw [e])) (fun e => by rw [e, hN.fc] at q; omega) (fun e => by rw [e, hN.fd] at q; omega)
        have := cs_fl (f := f) (g := g') (m := m) (n := n) (z := z) (by rw [e]; exact q)
        rw [e] at this
        exact .go this (ih cv.1 (fun h => by cases h) (fun h => by cases h) y1)
      · rw [cs_fg (by omega)] at h1; cases h1
end
/-- a call at the lower ends of the second layer is one at the lower ends of both -/
theorem cmp_jn {f g : List Nat} {m n k a b : Nat} (hn : k = n) (h0 : 0 < n) (hf : IsPair (m + n) f) (hg : IsPair (n + k) g) (hab : a ≠ b) (ha : a < k) (hb : b < k) : cmp f (jn g (n + a) (n + b)) m n k = jn (cmp f g m n k) (m + a) (m + b) := by
  subst hn
  have hR := cmp_pair hf hg
  have hg2 : IsPair (2 * k) g := by rw [show 2 * k = k + k by omega]; exact hg
  by_cases hc : g.getD (k + a) 0 = k + b
  · rw [jn_same (hg.ofd (by omega) hc)]
    have w : Ends (cstep f g m k) (cst m k (m + a)) (m + b) := by
      have := cs_fg (f := f) (g := g) (m := m) (n := k) (z := k + a) (by rw [hc]; omega)
      rw [hc, show k + b - k = b by omega] at this
      unfold cst
      rw [if_neg (by omega), show m + a - m = a by omega]
      exact .stop this
    refine (jn_same ?_).symm
    rw [cmp_get f g (by omega), cfar_is w]
  · obtain ⟨N1, N2, gA, gB⟩ := jn_near hg2 (A := k + a) (B := k + b) (by omega) (by omega) (by omega) (by omega) (by omega) hc
    have hg' : IsPair (k + k) (jn g (k + a) (k + b)) := jn_pair hg (by omega) (by omega) (by omega)
    have ga := hR.d (show m + a < m + k by omega)
    have gb := hR.d (show m + b < m + k by omega)
    have sA : cst m k (m + a) = (false, k + a) := by unfold cst; rw [if_neg (by omega), show m + a - m = a by omega]
    have sB : cst m k (m + b) = (false, k + b) := by unfold cst; rw [if_neg (by omega), show m + b - m = b by omega]
    have wA := cmp_ends hf hg (show m + a < m + k by omega)
    have wB := cmp_ends hf hg (show m + b < m + k by omega)
    have JS : (cmp f g m k k).getD (m + a) 0 = m + b → jn (cmp f g m k k) (m + a) (m + b) = cmp f g m k k := fun c => jn_same (hR.ofd (by omega) c)
    rw [sA] at wA
    rw [sB] at wB
    refine cmp_ext (by rw [jn_len, cmp_len]) fun e he => ?_
    have G : ∀ {v : Nat}, (jn (cmp f g m k k) (m + a) (m + b))[e]? = some v → (jn (cmp f g m k k) (m + a) (m + b)).getD e 0 = v := fun h => getD_of h
    have we := cmp_ends hf hg he
    have ve := (cst_val hf hg he).1
    have ge := hR.d he
    have ne : ∀ {x : Nat}, x < k → e ≠ m + x → cst m k e ≠ (false, k + x) := fun {x} hx h z => by
      unfold cst at z
      by_cases c : e < m
      · rw [if_pos c] at z; cases z
      · rw [if_neg c] at z
        have : k + (e - m) = k + x := congrArg Prod.snd z
        omega
    by_cases ea : e = m + a
    · subst ea
      have w : Ends (cstep f (jn g (k + a) (k + b)) m k) (cst m k (m + a)) (m + b) := by
        have := cs_fg (f := f) (g := jn g (k + a) (k + b)) (m := m) (n := k) (z := k + a) (by rw [gA]; omega)
        rw [gA, show k + b - k = b by omega] at this
        rw [sA]; exact .stop this
      by_cases c : (cmp f g m k k).getD (m + a) 0 = m + b
      · rw [JS c, c]; exact w
      · rw [G (by rw [jn_get hR (by omega) ga.2.2.2 gb.2.2.2 c, if_pos rfl])]; exact w
    · by_cases eb : e = m + b
      · subst eb
        have w : Ends (cstep f (jn g (k + a) (k + b)) m k) (cst m k (m + b)) (m + a) := by
          have := cs_fg (f := f) (g := jn g (k + a) (k + b)) (m := m) (n := k) (z := k + b) (by rw [gB]; omega)
          rw [gB, show k + a - k = a by omega] at this
          rw [sB]; exact .stop this
        by_cases c : (cmp f g m k k).getD (m + a) 0 = m + b
        · rw [JS c, show (cmp f g m k k).getD (m + b) 0 = m + a by rw [← c]; exact ga.2.2.1]; exact w
        · rw [G (by rw [jn_get hR (by omega) ga.2.2.2 gb.2.2.2 c, if_neg (by omega), if_pos rfl])]; exact w
      · have s1 := ne ha ea
        have s2 := ne hb eb
        by_cases yA : (cmp f g m k k).getD e 0 = m + a
        · have e1 : (cmp f g m k k).getD (m + a) 0 = e := by rw [← yA]; exact ge.2.2.1
          have e2 : (cmp f g m k k).getD (m + b) 0 ≠ m + a := fun z => by
            have := gb.2.2.1
            rw [z, e1] at this; omega
          have w := Ends.over hf hg N1 (by omega) wB (by rw [show k + a - k = a by omega]; exact e2) (by rw [show k + b - k = b by omega]; exact gb.2.1) we ve s1 s2 (by rw [show k + a - k = a by omega]; exact yA)
          rw [G (by rw [jn_get hR (by omega) ga.2.2.2 gb.2.2.2 (by rw [e1]; omega), if_neg ea, if_neg eb, if_pos e1.symm])]; exact w
        · by_cases yB : (cmp f g m k k).getD e 0 = m + b
          · have e1 : (cmp f g m k k).getD (m + b) 0 = e := by rw [← yB]; exact ge.2.2.1
            have e2 : (cmp f g m k k).getD (m + a) 0 ≠ m + b := fun z => by
              have := ga.2.2.1
              rw [z, e1] at this; omega
            have e3 : (cmp f g m k k).getD (m + a) 0 ≠ e := fun z => by
              have := ga.2.2.1
              rw [z, yB] at this; omega
            have w := Ends.over hf hg N2 (by omega) wA (by rw [show k + b - k = b by omega]; exact e2) (by rw [show k + a - k = a by omega]; exact ga.2.1) we ve s2 s1 (by rw [show k + b - k = b by omega]; exact yB)
            rw [G (by rw [jn_get hR (by omega) ga.2.2.2 gb.2.2.2 e2, if_neg ea, if_neg eb, if_neg (fun z => e3 z.symm), if_pos e1.symm])]; exact w
          · have w := we.near hf hg N1 ve s1 s2 (by rw [show k + a - k = a by omega]; exact yA) (by rw [show k + b - k = b by omega]; exact yB)
            by_cases c : (cmp f g m k k).getD (m + a) 0 = m + b
            · rw [JS c]; exact w
            · have e1 : (cmp f g m k k).getD (m + a) 0 ≠ e := fun z => by
                have := ga.2.2.1
                rw [z] at this; exact yA this
              have e2 : (cmp f g m k k).getD (m + b) 0 ≠ e := fun z => by
                have := gb.2.2.1
                rw [z] at this; exact yB this
              rw [G (by rw [jn_get hR (by omega) ga.2.2.2 gb.2.2.2 c, if_neg ea, if_neg eb, if_neg (fun z => e1 z.symm), if_neg (fun z => e2 z.symm)]; exact ge.2.2.2)]; exact w
end Pc
namespace Pc
/-! ### sheets one after another -/
theorem IsPair.two {n : Nat} {f : List Nat} (h : IsPair (2 * n) f) : IsPair (n + n) f := by rw [← Nat.two_mul]; exact h
theorem IsPair.one {n : Nat} {f : List Nat} (h : IsPair (n + n) f) : IsPair (2 * n) f := by rw [Nat.two_mul]; exact h
noncomputable def fol (f g : List Nat) (n : Nat) : List Nat := cmp f g n n n
theorem fol_pair {f g : List Nat} {n : Nat} (hf : IsPair (2 * n) f) (hg : IsPair (2 * n) g) : IsPair (2 * n) (fol f g n) := (cmp_pair hf.two hg.two).one
theorem fol_assoc {f g h : List Nat} {n : Nat} (hf : IsPair (2 * n) f) (hg : IsPair (2 * n) g) (hh : IsPair (2 * n) h) : fol (fol f g n) h n = fol f (fol g h n) n := cmp_assoc hf.two hg.two hh.two
theorem rd_fol {f g ps : List Nat} {n : Nat} (hf : IsPair (2 * n) f) (hg : IsPair (2 * n) g) (hP : IsPair n ps) : rd (fol f g n) ps n = rd g (rd f ps n) n := by
  have hR := rd_pair hf hP
  have hP0 : IsPair (0 + n) ps := by rw [Nat.zero_add]; exact hP
  rw [rd_cmp (fol_pair hf hg) hP, rd_cmp hg hR, rd_cmp hf hP]
  exact (cmp_assoc hP0 hf.two hg.two).symm
theorem fol_emp {f : List Nat} {n : Nat} (hn : 0 < n) (hf : IsPair (2 * n) f) : fol f (emp n) n = f := by
  refine cmp_ext (by rw [hf.len]; omega) fun e he => ?_
  have fe := hf.d (show e < 2 * n by omega)
  have em : ∀ {x : Nat}, x < n → (emp n).getD x 0 = n + x := fun h => getD_of (emp_lo h)
  have em2 : ∀ {x : Nat}, x < n → (emp n).getD (n + x) 0 = x := fun h => getD_of (emp_hi h)
  -- from the first layer
  have T : ∀ {z : Nat}, z < 2 * n → Ends (cstep f (emp n) n n) (true, z) (f.getD z 0) := fun {z} hz => by
    have fz := hf.d hz
    by_cases c : f.getD z 0 < n
    · exact .stop (cs_tl c)
    · refine .go (cs_tg (by omega)) (.stop ?_)
      have e1 := em (x := f.getD z 0 - n) (by omega)
      rw [cs_fg (by rw [e1]; omega), e1, show n + (n + (f.getD z 0 - n) - n) = f.getD z 0 by omega]
  unfold cst
  by_cases c : e < n
  · rw [if_pos c]; exact T (by omega)
  · rw [if_neg c]
    have e1 := em2 (x := e - n) (by omega)
    refine .go (t := (true, e)) ?_ (T (by omega))
    rw [cs_fl (by rw [e1]; omega), e1, show n + (e - n) = e by omega]
theorem emp_fol {f : List Nat} {n : Nat} (hn : 0 < n) (hf : IsPair (2 * n) f) : fol (emp n) f n = f := by
  refine cmp_ext (by rw [hf.len]; omega) fun e he => ?_
  have em : ∀ {x : Nat}, x < n → (emp n).getD x 0 = n + x := fun h => getD_of (emp_lo h)
  have em2 : ∀ {x : Nat}, x < n → (emp n).getD (n + x) 0 = x := fun h => getD_of (emp_hi h)
  have T : ∀ {z : Nat}, z < 2 * n → Ends (cstep (emp n) f n n) (false, z) (f.getD z 0) := fun {z} hz => by
    have fz := hf.d hz
    by_cases c : f.getD z 0 < n
    · refine .go (cs_fl c) (.stop ?_)
      have e1 := em2 c
      rw [cs_tl (by rw [e1]; exact c), e1]
    · refine .stop ?_
      rw [cs_fg (by omega), show n + (f.getD z 0 - n) = f.getD z 0 by omega]
  unfold cst
  by_cases c : e < n
  · rw [if_pos c]
    have e1 := em c
    refine .go (t := (false, e)) ?_ (T (by omega))
    rw [cs_tg (by rw [e1]; omega), e1, show n + e - n = e by omega]
  · rw [if_neg c, show n + (e - n) = e by omega]; exact T (by omega)
theorem fol_shw {f : List Nat} {n : Nat} (hn : 0 < n) (hf : IsPair (2 * n) f) : ∀ (qs : List (Nat × Nat)) {g : List Nat}, IsPair (2 * n) g → Calls n qs → fol f (shw n qs g) n = shw n qs (fol f g n)
  | [], _, _, _ => rfl
  | q :: r, g, hg, hc => by
    have h1 := hc q List.mem_cons_self
    have h2 := fol_shw hn hf r (jn_pair hg (a := n + q.1) (b := n + q.2) (by omega) (by omega) (by omega)) (fun x hx => hc x (List.mem_cons_of_mem _ hx))
    have e : fol f (jn g (n + q.1) (n + q.2)) n = jn (fol f g n) (n + q.1) (n + q.2) := cmp_jn rfl hn hf.two hg.two (by omega) (by omega) h1.2
    rw [e] at h2
    exact h2
/-- the sheet of a word behind a sheet is the word added to it -/
theorem fol_word {f : List Nat} {n : Nat} {qs : List (Nat × Nat)} (hn : 0 < n) (hf : IsPair (2 * n) f) (hc : Calls n qs) : fol f (shw n qs (emp n)) n = shw n qs f := by
  rw [fol_shw hn hf qs (emp_pair hn) hc, fol_emp hn hf]
theorem shw_app (n : Nat) (qs rs : List (Nat × Nat)) (f : List Nat) : shw n (qs ++ rs) f = shw n rs (shw n qs f) := by
  unfold shw runs low
  rw [List.map_append, List.foldl_append]
/-! ### again and again -/
noncomputable def pw (f : List Nat) (n : Nat) : Nat → List Nat
  | 0 => emp n
  | k + 1 => fol (pw f n k) f n
theorem pw_pair {f : List Nat} {n : Nat} (hn : 0 < n) (hf : IsPair (2 * n) f) : ∀ k, IsPair (2 * n) (pw f n k)
  | 0 => emp_pair hn
  | k + 1 => fol_pair (pw_pair hn hf k) hf
theorem pw_add {f : List Nat} {n : Nat} (hn : 0 < n) (hf : IsPair (2 * n) f) (a : Nat) : ∀ b, fol (pw f n a) (pw f n b) n = pw f n (a + b)
  | 0 => fol_emp hn (pw_pair hn hf a)
  | b + 1 => by
    show fol (pw f n a) (fol (pw f n b) f n) n = fol (pw f n (a + b)) f n
    rw [← fol_assoc (pw_pair hn hf a) (pw_pair hn hf b) hf, pw_add hn hf a b]
theorem pw_one {f : List Nat} {n : Nat} (hn : 0 < n) (hf : IsPair (2 * n) f) : pw f n 1 = f := emp_fol hn hf
/-! ### upside down -/
def os (n e : Nat) : Nat := if e < n then e + n else e - n
theorem os_lt {n e : Nat} (h : e < 2 * n) : os n e < 2 * n := by unfold os; split <;> omega
theorem os_os {n e : Nat} (h : e < 2 * n) : os n (os n e) = e := by
  unfold os
  by_cases c : e < n
  · rw [if_pos c, if_neg (by omega)]; omega
  · rw [if_neg c, if_pos (by omega)]; omega
def mir (f : List Nat) (n : Nat) : List Nat := (List.range (2 * n)).map fun e => os n (f.getD (os n e) 0)
theorem mir_len (f : List Nat) (n : Nat) : (mir f n).length = 2 * n := by unfold mir; rw [List.length_map, List.length_range]
theorem mir_get (f : List Nat) {n e : Nat} (h : e < 2 * n) : (mir f n)[e]? = some (os n (f.getD (os n e) 0)) := by unfold mir; rw [List.getElem?_map, List.getElem?_range h]; rfl
theorem mir_d (f : List Nat) {n e : Nat} (h : e < 2 * n) : (mir f n).getD e 0 = os n (f.getD (os n e) 0) := getD_of (mir_get f h)
theorem mir_pair {f : List Nat} {n : Nat} (hf : IsPair (2 * n) f) : IsPair (2 * n) (mir f n) := by
  refine ⟨mir_len f n, fun e he => ?_⟩
  have fo := hf.d (os_lt he)
  refine ⟨_, mir_get f he, os_lt fo.1, fun z => ?_, ?_⟩
  · have := congrArg (os n) z
    rw [os_os fo.1] at this
    exact fo.2.1 this
  · rw [mir_get f (os_lt fo.1), os_os fo.1, fo.2.2.1, os_os he]
theorem list_d {x y : List Nat} (h : x.length = y.length) (e : ∀ i, i < x.length → x.getD i 0 = y.getD i 0) : x = y := by
  refine List.ext_getElem? fun i => ?_
  by_cases hi : i < x.length
  · have := e i hi
    rw [List.getD_eq_getElem?_getD, List.getD_eq_getElem?_getD, List.getElem?_eq_getElem hi, List.getElem?_eq_getElem (by omega)] at this
    rw [List.getElem?_eq_getElem hi, List.getElem?_eq_getElem (by omega)]
    exact congrArg some this
  · rw [List.getElem?_eq_none (by omega), List.getElem?_eq_none (by omega)]
theorem mir_mir {f : List Nat} {n : Nat} (hf : IsPair (2 * n) f) : mir (mir f n) n = f := by
  refine list_d (by rw [mir_len, hf.len]) fun e he => ?_
  rw [mir_len] at he
  rw [mir_d _ he, mir_d _ (os_lt he), os_os he, os_os (hf.d he).1]
theorem mir_emp {n : Nat} : mir (emp n) n = emp n := by
  refine list_d (by rw [mir_len, emp_len]) fun e he => ?_
  rw [mir_len] at he
  rw [mir_d _ he]
  by_cases c : e < n
  · have e1 : os n e = n + e := by unfold os; rw [if_pos c]; omega
    rw [e1, getD_of (emp_hi c), getD_of (emp_lo c), e1]
  · have e1 : os n e = e - n := by unfold os; rw [if_neg c]
    have h2 := emp_hi (n := n) (e := e - n) (by omega)
    rw [show n + (e - n) = e by omega] at h2
    rw [e1, getD_of (emp_lo (by omega)), getD_of h2]
    unfold os; rw [if_neg (by omega)]; omega
/-- a walk seen from below -/
theorem mir_ends {f g : List Nat} {n : Nat} (hf : IsPair (2 * n) f) (hg : IsPair (2 * n) g) {s : Bool × Nat} {y : Nat} (w : Ends (cstep f g n n) s y) : Val n n n s → Ends (cstep (mir g n) (mir f n) n n) (!s.1, os n s.2) (os n y) := by
  induction w with
  | @stop s y h1 =>
    intro hs
    obtain ⟨b, z⟩ := s
    have hz : z < 2 * n := by cases b <;> (have : z < n + n := hs; omega)
    cases b with
    | true =>
      have fz := hf.d hz
      by_cases c : f.getD z 0 < n
      · rw [cs_tl c] at h1; cases h1
        have e1 : (mir f n).getD (os n z) 0 = os n (f.getD z 0) := by rw [mir_d _ (os_lt hz), os_os hz]
        have e2 : os n (f.getD z 0) = f.getD z 0 + n := by unfold os; rw [if_pos c]
        refine .stop ?_
        show cstep (mir g n) (mir f n) n n (false, os n z) = _
        rw [cs_fg (by rw [e1, e2]; omega), e1, e2, show n + (f.getD z 0 + n - n) = f.getD z 0 + n by omega]
      · rw [cs_tg (by omega)] at h1; cases h1
    | false =>
      have gz := hg.d hz
      by_cases c : g.getD z 0 < n
      · rw [cs_fl c] at h1; cases h1
      · rw [cs_fg (by omega)] at h1; cases h1
        have e1 : (mir g n).getD (os n z) 0 = os n (g.getD z 0) := by rw [mir_d _ (os_lt hz), os_os hz]
        have e2 : os n (g.getD z 0) = g.getD z 0 - n := by unfold os; rw [if_neg c]
        refine .stop ?_
        show cstep (mir g n) (mir f n) n n (true, os n z) = _
        rw [cs_tl (by rw [e1, e2]; omega), e1, show n + (g.getD z 0 - n) = g.getD z 0 by omega]
  | @go s t y h1 _ ih =>
    intro hs
    have cv := cs_val hf.two hg.two hs h1
    have IH := ih cv.1
    obtain ⟨b, z⟩ := s
    have hz : z < 2 * n := by cases b <;> (have : z < n + n := hs; omega)
    cases b with
    | true =>
      have fz := hf.d hz
      by_cases c : f.getD z 0 < n
      · rw [cs_tl c] at h1; cases h1
      · rw [cs_tg (by omega)] at h1; cases h1
        have e1 : (mir f n).getD (os n z) 0 = os n (f.getD z 0) := by rw [mir_d _ (os_lt hz), os_os hz]
        have e2 : os n (f.getD z 0) = f.getD z 0 - n := by unfold os; rw [if_neg c]
        have e3 : os n (f.getD z 0 - n) = n + (f.getD z 0 - n) := by unfold os; rw [if_pos (by omega)]; omega
        refine .go (t := (true, n + (f.getD z 0 - n))) ?_ (by rw [← e3]; exact IH)
        show cstep (mir g n) (mir f n) n n (false, os n z) = _
        rw [cs_fl (by rw [e1, e2]; omega), e1, e2]
    | false =>
      have gz := hg.d hz
      by_cases c : g.getD z 0 < n
      · rw [cs_fl c] at h1; cases h1
        have e1 : (mir g n).getD (os n z) 0 = os n (g.getD z 0) := by rw [mir_d _ (os_lt hz), os_os hz]
        have e2 : os n (g.getD z 0) = g.getD z 0 + n := by unfold os; rw [if_pos c]
        have e3 : os n (n + g.getD z 0) = g.getD z 0 := by unfold os; rw [if_neg (by omega)]; omega
        refine .go (t := (false, g.getD z 0)) ?_ (by have := IH; rw [show os n (true, n + g.getD z 0).2 = g.getD z 0 from e3] at this; exact this)
        show cstep (mir g n) (mir f n) n n (true, os n z) = _
        rw [cs_tg (by rw [e1, e2]; omega), e1, e2, show g.getD z 0 + n - n = g.getD z 0 by omega]
      · rw [cs_fg (by omega)] at h1; cases h1
theorem mir_fol {f g : List Nat} {n : Nat} (hf : IsPair (2 * n) f) (hg : IsPair (2 * n) g) : mir (fol f g n) n = fol (mir g n) (mir f n) n := by
  refine (cmp_ext (by rw [mir_len]; omega) fun e he => ?_).symm
  have he2 : e < 2 * n := by omega
  have w := mir_ends hf hg (cmp_ends hf.two hg.two (show os n e < n + n by have := os_lt he2; omega)) (cst_val hf.two hg.two (by have := os_lt he2; omega)).1
  rw [mir_d _ he2]
  have e1 : ((!(cst n n (os n e)).1, os n (cst n n (os n e)).2) : Bool × Nat) = cst n n e := by
    unfold cst
    by_cases c : e < n
    · have e2 : os n e = e + n := by unfold os; rw [if_pos c]
      rw [e2, if_neg (by omega), if_pos c, show n + (e + n - n) = e + n by omega]
      show (true, os n (e + n)) = _
      unfold os; rw [if_neg (by omega), Nat.add_sub_cancel]
    · have e2 : os n e = e - n := by unfold os; rw [if_neg c]
      rw [e2, if_pos (by omega), if_neg c]
      show (false, os n (e - n)) = _
      unfold os; rw [if_pos (by omega), Nat.add_comm]
  rw [e1] at w
  exact w
/-- forth, back and forth again -/
theorem fol_mir {f : List Nat} {n : Nat} (hf : IsPair (2 * n) f) : fol (fol f (mir f n) n) f n = f := by
  have hm := mir_pair hf
  have hfm := fol_pair hf hm
  have up : ∀ {x : Nat}, x < n → n ≤ f.getD x 0 → (fol f (mir f n) n).getD x 0 = n + x := fun {x} hx h => by
    have fx := hf.d (show x < 2 * n by omega)
    have w : Ends (cstep f (mir f n) n n) (cst n n x) (n + x) := by
      unfold cst; rw [if_pos hx]
      refine .go (cs_tg h) (.stop ?_)
      have e1 : (mir f n).getD (f.getD x 0 - n) 0 = x + n := by
        rw [mir_d _ (by omega), show os n (f.getD x 0 - n) = f.getD x 0 by unfold os; rw [if_pos (by omega)]; omega, fx.2.2.1]
        unfold os; rw [if_pos hx]
      rw [cs_fg (by rw [e1]; omega), e1, show n + (x + n - n) = n + x by omega]
    show (cmp f (mir f n) n n n).getD x 0 = _
    rw [cmp_d _ _ (by omega), cfar_is w]
  have upp : ∀ {x : Nat}, x < n → f.getD x 0 < n → (fol f (mir f n) n).getD x 0 = f.getD x 0 := fun {x} hx h => by
    have w : Ends (cstep f (mir f n) n n) (cst n n x) (f.getD x 0) := by
      unfold cst; rw [if_pos hx]; exact .stop (cs_tl h)
    show (cmp f (mir f n) n n n).getD x 0 = _
    rw [cmp_d _ _ (by omega), cfar_is w]
  have dn : ∀ {x : Nat}, x < n → n ≤ f.getD x 0 → (fol f (mir f n) n).getD (n + x) 0 = x := fun {x} hx h => by
    have := hfm.d (show x < 2 * n by omega)
    rw [up hx h] at this
    exact this.2.2.1
  refine cmp_ext (by rw [hf.len]; omega) fun e he => ?_
  have fe := hf.d (show e < 2 * n by omega)
  unfold cst
  by_cases c : e < n
  · rw [if_pos c]
    by_cases q : f.getD e 0 < n
    · have := cs_tl (f := fol f (mir f n) n) (g := f) (m := n) (n := n) (z := e) (by rw [upp c q]; exact q)
      rw [upp c q] at this; exact .stop this
    · have u := up c (by omega)
      refine .go (t := (false, e)) ?_ (.stop ?_)
      · rw [cs_tg (by rw [u]; omega), u, show n + e - n = e by omega]
      · rw [cs_fg (by omega), show n + (f.getD e 0 - n) = f.getD e 0 by omega]
  · rw [if_neg c, show n + (e - n) = e by omega]
    by_cases q : f.getD e 0 < n
    · have u := dn q (by rw [fe.2.2.1]; omega)
      refine .go (cs_fl q) (.stop ?_)
      rw [cs_tl (by rw [u]; exact q), u]
    · refine .stop ?_
      rw [cs_fg (by omega), show n + (f.getD e 0 - n) = f.getD e 0 by omega]
/-! ### a walk counted -/
inductive EndsN {S Y : Type} (step : S → S ⊕ Y) : Nat → S → Y → Prop
  | stop {s : S} {y : Y} : step s = .inr y → EndsN step 0 s y
  | go {t : Nat} {s u : S} {y : Y} : step s = .inl u → EndsN step t u y → EndsN step (t + 1) s y
theorem Ends.count {S Y : Type} {step : S → S ⊕ Y} {s : S} {y : Y} (h : Ends step s y) : ∃ t, EndsN step t s y := by
  induction h with
  | stop h => exact ⟨0, .stop h⟩
  | go h _ ih =>
    obtain ⟨t, ht⟩ := ih
    exact ⟨t + 1, .go h ht⟩
end Pc
namespace Pc
open PySem PySem.Spec PyProof.Rows L2 RZ
/-- x //= c -/
def ipHalf : TIp := fun x y H Q => ∃ i j, x = .int i ∧ y = .int j ∧ (0 < j ∧ j < 1073741824) ∧ Q (.int (i / j)) H
theorem ip_half {X : Cx} : PIp X .FloorDiv ipHalf := by
  intro pins s σ H x y v u Q I r1 r2 h
  obtain ⟨i, j, e1, e2, hj, q⟩ := h
  subst e1 e2
  obtain ⟨t, rfl⟩ := r1
  obtain ⟨t', rfl⟩ := r2
  refine PyProof.Rows.ifloordiv_int (by omega) ?_ (.inl (PyProof.noPylong_small (by omega)))
  rw [Int.fdiv_eq_ediv_of_nonneg i (by omega)]
  exact ⟨.int _, H, I.tok _, ⟨_, rfl⟩, q⟩
theorem bl_dec (a b : Bool) : decide (V.bl a = V.bl b) = (a == b) := by cases a <;> cases b <;> rfl
end Pc
namespace Pc
theorem iteY {b : Bool} {A B : Prop} (h : b = true) (a : A) : if b = true then A else B := by rw [if_pos h]; exact a
theorem iteX {b : Bool} {A B : Prop} (h : b = false) (a : B) : if b = true then A else B := by rw [h, if_neg Bool.false_ne_true]; exact a
end Pc
namespace Pc
/-! ### how many strands -/
theorem sts_ups {n : Nat} {fs : List Nat} (h : IsPair (2 * n) fs) : 2 * (ups fs n).length + (sts fs n).length = n := by
  have hp := jns_perm h
  have hc := hp.countP_eq (fun z => decide (z < n))
  rw [range_low] at hc
  unfold jns at hc
  have x1 : (flat (ups fs n)).countP (fun z => decide (z < n)) = 2 * (ups fs n).length := flat_two fun p hp => by
    have := ups_mem h hp
    exact ⟨decide_eq_true (by omega), decide_eq_true (by omega)⟩
  have x2 : (flat ((los fs n).map (fun p => (n + p.1, n + p.2)))).countP (fun z => decide (z < n)) = 0 := flat_none fun p hp => by
    obtain ⟨r, hr, rfl⟩ := List.mem_map.mp hp
    exact ⟨decide_eq_false (by show ¬ n + r.1 < n; omega), decide_eq_false (by show ¬ n + r.2 < n; omega)⟩
  have x3 : (flat ((sts fs n).map (fun p => (p.1, n + p.2)))).countP (fun z => decide (z < n)) = ((sts fs n).map (fun p => (p.1, n + p.2))).length := flat_one fun p hp => by
    obtain ⟨r, hr, rfl⟩ := List.mem_map.mp hp
    have := sts_mem h hr
    exact ⟨decide_eq_true (by show r.1 < n; omega), decide_eq_false (by show ¬ n + r.2 < n; omega)⟩
  rw [flat_app, flat_app, List.countP_append, List.countP_append, x1, x2, x3, List.length_map] at hc
  omega
theorem sel_len {c d : Nat → Bool} {g k : Nat → Nat × Nat} {n : Nat} (h : ∀ x, x < n → c x = d x) : (selN c g n).length = (selN d k n).length := by
  unfold selN
  rw [List.length_map, List.length_map]
  exact congrArg List.length (List.filter_congr fun x hx => h x (List.mem_range.mp hx))
theorem sel_le {c d : Nat → Bool} {g k : Nat → Nat × Nat} {n : Nat} (h : ∀ x, x < n → c x = true → d x = true) : (selN c g n).length ≤ (selN d k n).length := by
  unfold selN
  rw [List.length_map, List.length_map, ← List.countP_eq_length_filter, ← List.countP_eq_length_filter]
  exact List.countP_mono_left fun x hx => h x (List.mem_range.mp hx)
theorem ups_mir {n : Nat} {f : List Nat} (hf : IsPair (2 * n) f) : (ups (mir f n) n).length = (los f n).length := by
  refine sel_len fun x hx => ?_
  have fx := hf.d (show n + x < 2 * n by omega)
  have e : (mir f n).getD x 0 = os n (f.getD (n + x) 0) := by rw [mir_d f (by omega), show os n x = n + x by unfold os; rw [if_pos hx]; omega]
  unfold upC loC
  rw [e]
  by_cases c : f.getD (n + x) 0 < n
  · rw [show os n (f.getD (n + x) 0) = f.getD (n + x) 0 + n by unfold os; rw [if_pos c], decide_eq_false (show ¬ f.getD (n + x) 0 + n < n by omega), decide_eq_false (show ¬ n + x < f.getD (n + x) 0 by omega), Bool.and_false]
  · rw [show os n (f.getD (n + x) 0) = f.getD (n + x) 0 - n by unfold os; rw [if_neg c], decide_eq_true (show f.getD (n + x) 0 - n < n by omega), Bool.and_true]
    by_cases q : n + x < f.getD (n + x) 0
    · rw [decide_eq_true q, decide_eq_true (by omega)]
    · rw [decide_eq_false q, decide_eq_false (by omega)]
theorem sts_mir {n : Nat} {f : List Nat} (hf : IsPair (2 * n) f) : (sts (mir f n) n).length = (sts f n).length := by
  have a := sts_ups hf
  have b := sts_ups (mir_pair hf)
  rw [ups_mir hf, ← ups_los hf] at b
  omega
theorem sts_fol {n : Nat} {f g : List Nat} : (sts (fol f g n) n).length ≤ (sts f n).length := by
  refine sel_le fun x hx h => ?_
  unfold stC at h ⊢
  by_cases c : f.getD x 0 < n
  · have w : Ends (cstep f g n n) (cst n n x) (f.getD x 0) := by unfold cst; rw [if_pos hx]; exact .stop (cs_tl c)
    have e : (fol f g n).getD x 0 = f.getD x 0 := by show (cmp f g n n n).getD x 0 = _; rw [cmp_d _ _ (by omega), cfar_is w]
    rw [e, decide_eq_false (by omega)] at h; cases h
  · exact decide_eq_true (by omega)
theorem sts_fol' {n : Nat} {f g : List Nat} (hf : IsPair (2 * n) f) (hg : IsPair (2 * n) g) : (sts (fol f g n) n).length ≤ (sts g n).length := by
  rw [← sts_mir (fol_pair hf hg), mir_fol hf hg, ← sts_mir hg]
  exact sts_fol
end Pc
namespace Pc
open PySem PySem.Spec PyProof.Rows L2 RZ
theorem room65 {k : Nat} {A : Around} (r : Room k A) : A.units + 65 < cLine := by have := r.un; omega
/-- x *= c, both small -/
def ipMul : TIp := fun x y H Q => ∃ i j, x = .int i ∧ y = .int j ∧ CMul i j ∧ Q (.int (i * j)) H
theorem ip_mul {X : Cx} : PIp X .Mult ipMul := by
  intro pins s σ H x y v u Q I r1 r2 h
  obtain ⟨i, j, e1, e2, hj, q⟩ := h
  subst e1 e2
  obtain ⟨t, rfl⟩ := r1
  obtain ⟨t', rfl⟩ := r2
  exact PyProof.Rows.imul_int ⟨.int _, H, I.tok _, ⟨_, rfl⟩, q⟩ hj.ok
end Pc
namespace Pc
/-! ### counting -/
theorem cnt_same {p q : Nat → Bool} {n : Nat} (h : ∀ y, y < n → q y = p y) : (List.range n).countP q = (List.range n).countP p :=
  List.countP_congr fun x hx => by rw [h x (List.mem_range.mp hx)]
theorem cnt_off {p q : Nat → Bool} {a : Nat} : ∀ {n : Nat}, (∀ y, y < n → y ≠ a → q y = p y) → a < n → p a = true → q a = false → (List.range n).countP q + 1 = (List.range n).countP p
  | 0, _, h, _, _ => absurd h (Nat.not_lt_zero _)
  | n + 1, h, ha, h1, h2 => by
    rw [List.range_succ, List.countP_append, List.countP_append]
    by_cases e : a = n
    · subst e
      rw [cnt_same (p := p) (q := q) (fun y hy => h y (by omega) (by omega)), List.countP_cons_of_neg (by rw [h2]; decide), List.countP_cons_of_pos h1]
      rfl
    · have ih := cnt_off (p := p) (q := q) (a := a) (n := n) (fun y hy hn => h y (by omega) hn) (by omega) h1 h2
      have e1 : [n].countP q = [n].countP p := by
        have := h n (by omega) (fun z => e z.symm)
        by_cases c : p n = true
        · rw [List.countP_cons_of_pos c, List.countP_cons_of_pos (by rw [this]; exact c)]; rfl
        · rw [List.countP_cons_of_neg c, List.countP_cons_of_neg (by rw [this]; exact c)]; rfl
      rw [e1]
      omega
/-! ### the people at the lower ends of strands -/
def lsC (f : List Nat) (n y : Nat) : Bool := decide (f.getD (n + y) 0 < n)
def lse (f : List Nat) (n : Nat) : List Nat := (List.range n).filter (lsC f n)
theorem lse_len {f : List Nat} {n : Nat} (hf : IsPair (2 * n) f) : (lse f n).length = (sts f n).length := by
  rw [← sts_mir hf]
  unfold lse sts selN
  rw [List.length_map]
  refine congrArg List.length (List.filter_congr fun x hx => ?_)
  have hx := List.mem_range.mp hx
  have fx := hf.d (show n + x < 2 * n by omega)
  have e : (mir f n).getD x 0 = os n (f.getD (n + x) 0) := by rw [mir_d f (by omega), show os n x = n + x by unfold os; rw [if_pos hx]; omega]
  unfold lsC stC
  rw [e]
  by_cases c : f.getD (n + x) 0 < n
  · rw [decide_eq_true c, show os n (f.getD (n + x) 0) = f.getD (n + x) 0 + n by unfold os; rw [if_pos c], decide_eq_true (by omega)]
  · rw [decide_eq_false c, show os n (f.getD (n + x) 0) = f.getD (n + x) 0 - n by unfold os; rw [if_neg c], decide_eq_false (by omega)]
theorem lse_cnt (f : List Nat) (n : Nat) : (lse f n).length = (List.range n).countP (lsC f n) := (List.countP_eq_length_filter ..).symm
/-- a call takes two strands if both people's lower ends are strands, else none -/
theorem lse_jn {f : List Nat} {n a b : Nat} (hf : IsPair (2 * n) f) (hab : a ≠ b) (ha : a < n) (hb : b < n) : (lse (jn f (n + a) (n + b)) n).length + (if (lsC f n a && lsC f n b) = true then 2 else 0) = (lse f n).length := by
  rw [lse_cnt, lse_cnt]
  have fa := hf.d (show n + a < 2 * n by omega)
  have fb := hf.d (show n + b < 2 * n by omega)
  by_cases hc : f.getD (n + a) 0 = n + b
  · rw [jn_same (hf.ofd (by omega) hc), if_neg, Nat.add_zero]
    unfold lsC
    rw [hc, decide_eq_false (show ¬ n + b < n by omega), Bool.false_and]
    decide
  · have G := jn_get hf (show n + a ≠ n + b by omega) fa.2.2.2 fb.2.2.2 hc
    have D : ∀ z, (jn f (n + a) (n + b)).getD z 0 = ((jn f (n + a) (n + b))[z]?).getD 0 := fun z => List.getD_eq_getElem?_getD
    obtain ⟨x1, x2, x3, x4, _⟩ := four hf (show n + a ≠ n + b by omega) fa.2.2.2 fb.2.2.2 hc
    have pa : lsC (jn f (n + a) (n + b)) n a = false := by
      unfold lsC; rw [D, G, if_pos rfl]; exact decide_eq_false (by show ¬ n + b < n; omega)
    have pb : lsC (jn f (n + a) (n + b)) n b = false := by
      unfold lsC; rw [D, G, if_neg (by omega), if_pos rfl]; exact decide_eq_false (by show ¬ n + a < n; omega)
    have same : ∀ y, y ≠ a → y ≠ b → n + y ≠ f.getD (n + a) 0 → n + y ≠ f.getD (n + b) 0 → lsC (jn f (n + a) (n + b)) n y = lsC f n y := fun y h1 h2 h3 h4 => by
      unfold lsC; rw [D, G, if_neg (by omega), if_neg (by omega), if_neg h3, if_neg h4, ← List.getD_eq_getElem?_getD]
    by_cases ca : f.getD (n + a) 0 < n
    · by_cases cb : f.getD (n + b) 0 < n
      · have qa : lsC f n a = true := decide_eq_true ca
        have qb : lsC f n b = true := decide_eq_true cb
        rw [qa, qb, Bool.and_true, if_pos rfl]
        have s1 := cnt_off (p := lsC f n) (q := fun y => if y = a then false else lsC f n y) (a := a) (n := n) (fun y _ h => if_neg h) ha qa (if_pos rfl)
        have s2 := cnt_off (p := fun y => if y = a then false else lsC f n y) (q := lsC (jn f (n + a) (n + b)) n) (a := b) (n := n) (fun y _ h => by
          by_cases e : y = a
          · rw [e, if_pos rfl]; exact pa
          · rw [if_neg e]; exact same y e h (by omega) (by omega)) hb (by rw [if_neg (Ne.symm hab)]; exact qb) pb
        omega
      · have qb : lsC f n b = false := decide_eq_false cb
        have qa : lsC f n a = true := decide_eq_true ca
        rw [qa, qb, if_neg (by decide), Nat.add_zero]
        -- the one at the other end of b's pair gets the strand
        have hv : f.getD (n + b) 0 - n < n := by omega
        have ev : n + (f.getD (n + b) 0 - n) = f.getD (n + b) 0 := by omega
        have qv : lsC f n (f.getD (n + b) 0 - n) = false := by unfold lsC; rw [ev, fb.2.2.1]; exact decide_eq_false (by omega)
        have pv : lsC (jn f (n + a) (n + b)) n (f.getD (n + b) 0 - n) = true := by
          unfold lsC; rw [ev, D, G, if_neg x3, if_neg x2, if_neg (Ne.symm x4), if_pos rfl]; exact decide_eq_true ca
        have s1 := cnt_off (p := lsC f n) (q := fun y => if y = a then false else lsC f n y) (a := a) (n := n) (fun y _ h => if_neg h) ha qa (if_pos rfl)
        have va : f.getD (n + b) 0 - n ≠ a := fun z => by rw [z, qa] at qv; cases qv
        have s2 := cnt_off (q := fun y => if y = a then false else lsC f n y) (p := lsC (jn f (n + a) (n + b)) n) (a := f.getD (n + b) 0 - n) (n := n) (fun y _ h => by
          by_cases e : y = a
          · rw [e, if_pos rfl]; exact pa.symm
          · rw [if_neg e]
            by_cases e2 : y = b
            · rw [e2, pb, qb]
            · exact (same y e e2 (by omega) (by omega)).symm) hv pv (by rw [if_neg va]; exact qv)
        omega
    · have qa : lsC f n a = false := decide_eq_false ca
      by_cases cb : f.getD (n + b) 0 < n
      · have qb : lsC f n b = true := decide_eq_true cb
        rw [qa, qb, if_neg (by decide), Nat.add_zero]
        have hv : f.getD (n + a) 0 - n < n := by omega
        have ev : n + (f.getD (n + a) 0 - n) = f.getD (n + a) 0 := by omega
        have qv : lsC f n (f.getD (n + a) 0 - n) = false := by unfold lsC; rw [ev, fa.2.2.1]; exact decide_eq_false (by omega)
        have pv : lsC (jn f (n + a) (n + b)) n (f.getD (n + a) 0 - n) = true := by
          unfold lsC; rw [ev, D, G, if_neg x1, if_neg hc, if_pos rfl]; exact decide_eq_true cb
        have s1 := cnt_off (p := lsC f n) (q := fun y => if y = b then false else lsC f n y) (a := b) (n := n) (fun y _ h => if_neg h) hb qb (if_pos rfl)
        have vb : f.getD (n + a) 0 - n ≠ b := fun z => by rw [z, qb] at qv; cases qv
        have s2 := cnt_off (q := fun y => if y = b then false else lsC f n y) (p := lsC (jn f (n + a) (n + b)) n) (a := f.getD (n + a) 0 - n) (n := n) (fun y _ h => by
          by_cases e : y = b
          · rw [e, if_pos rfl]; exact pb.symm
          · rw [if_neg e]
            by_cases e2 : y = a
            · rw [e2, pa, qa]
            · exact (same y e2 e (by omega) (by omega)).symm) hv pv (by rw [if_neg vb]; exact qv)
        omega
      · have qb : lsC f n b = false := decide_eq_false cb
        rw [qa, qb, if_neg (by decide), Nat.add_zero]
        refine cnt_same fun y hy => ?_
        by_cases e1 : y = a
        · rw [e1, pa, qa]
        · by_cases e2 : y = b
          · rw [e2, pb, qb]
          · by_cases e3 : n + y = f.getD (n + a) 0
            · have h1 : lsC f n y = false := by unfold lsC; rw [e3, fa.2.2.1]; exact decide_eq_false (by omega)
              have h2 : lsC (jn f (n + a) (n + b)) n y = false := by unfold lsC; rw [e3, D, G, if_neg x1, if_neg hc, if_pos rfl]; exact decide_eq_false cb
              rw [h1, h2]
            · by_cases e4 : n + y = f.getD (n + b) 0
              · have h1 : lsC f n y = false := by unfold lsC; rw [e4, fb.2.2.1]; exact decide_eq_false (by omega)
                have h2 : lsC (jn f (n + a) (n + b)) n y = false := by unfold lsC; rw [e4, D, G, if_neg x3, if_neg x2, if_neg (Ne.symm x4), if_pos rfl]; exact decide_eq_false ca
                rw [h1, h2]
              · exact same y e1 e2 e3 e4
/-! ### how many pairings -/
def dfac : Nat → Nat
  | 0 => 1
  | r + 1 => dfac r * (2 * r + 1)
theorem dfac_pos : ∀ r, 0 < dfac r
  | 0 => Nat.one_pos
  | r + 1 => Nat.mul_pos (dfac_pos r) (by omega)
theorem dfac_dvd (r : Nat) : ∀ k, dfac r ∣ dfac (r + k)
  | 0 => Nat.dvd_refl _
  | k + 1 => Nat.dvd_trans (dfac_dvd r k) ⟨2 * (r + k) + 1, rfl⟩
end Pc
namespace Pc
open PySem PySem.Spec PyProof.Rows L2 RZ
theorem in_nat (i : Nat) (l : List Nat) : inV (.int (i : Int)) (nv l) = decide (i ∈ l) := by
  unfold inV nv
  rw [List.any_map, Bool.eq_iff_iff, List.any_eq_true, decide_eq_true_iff]
  constructor
  · rintro ⟨x, hx, e⟩
    have e' : eqV (.int (x : Int)) (.int (i : Int)) = true := e
    have : (x : Int) = (i : Int) := by simpa [eqV] using e'
    have : x = i := by omega
    exact this ▸ hx
  · intro h
    exact ⟨i, h, by show eqV (.int (i : Int)) (.int (i : Int)) = true; simp [eqV]⟩
theorem flat_nat (l : List Nat) : (nv l).all flatV = true := by
  unfold nv
  rw [List.all_map, List.all_eq_true]
  exact fun x _ => rfl
end Pc
namespace Pc
open PySem PySem.Spec PyProof.Rows L2 RZ
/-! ### data of small size, by its depth -/
def Sz : Nat → Nat
  | 0 => 61
  | 1 => 6303
  | 2 => 630503
  | _ => 15762628
abbrev Fi (j : Nat) (d : PyData) : Prop := Fine j (Sz j) d
theorem Sz_le : ∀ j, Sz j ≤ Sz (j + 1)
  | 0 => by decide
  | 1 => by decide
  | 2 => by decide
  | _ + 3 => Nat.le_refl _
theorem Fine.up {j : Nat} {d : PyData} (h : Fi j d) : Fi (j + 1) d := h.mono (Nat.le_succ _) (Sz_le j)
theorem Fine.sh {j : Nat} {d : PyData} (h : Fi j d) (hj : j ≤ 60 := by decide) : SeqAt.shaped d = true := Fine.shaped h (by omega)
theorem fi_int {i : Int} (h : i.natAbs < 2 ^ 60) : Fi 0 (.int i) := fine_int h
theorem fi_bl {b : Bool} : Fi 0 (.bool b) := ⟨rfl, rfl, Nat.le_refl _, trivial, by cases b <;> decide⟩
theorem fi_non : Fi 0 .none := ⟨rfl, rfl, Nat.le_refl _, trivial, by decide⟩
theorem fi_tup {l : List Nat} {m : Nat} (hl : IsPair m l) (hm : m ≤ 100) : Fi 1 (td l) := (fine_tup (n := 100) (fun i hi => by have := hl.lt i hi; omega) (by rw [hl.len]; omega) (by decide)).mono (Nat.le_refl _) (by decide)
/-- numbers of small size, not many -/
def Fw (l : List Nat) : Prop := l.length ≤ 100 ∧ ∀ i ∈ l, i < 2 ^ 60
theorem fb {l : List Nat} {m : Nat} (hl : IsPair m l) (hm : m ≤ 100) : Fw l := ⟨by rw [hl.len]; exact hm, fun i hi => by have := hl.lt i hi; omega⟩
theorem fi_tup' {l : List Nat} (h : Fw l) : Fi 1 (td l) := (fine_tup (n := 100) h.2 h.1 (by decide)).mono (Nat.le_refl _) (by decide)
theorem fi_lst {l : List Nat} (h : Fw l) : Fi 1 (.list (nd l)) := (fine_list (k := 0) (m := 61) (n := 100) (fine_nd h.2) (by rw [nd_length]; exact h.1) (by decide)).mono (Nat.le_refl _) (by decide)
theorem fi_prs {qs : List (Nat × Nat)} (h : qs.length ≤ 1000 ∧ ∀ p ∈ qs, p.1 < 2 ^ 60 ∧ p.2 < 2 ^ 60) : Fi 2 (.list (qs.map pd)) := (fine_pds (n := 1000) h.2 h.1 (by decide)).mono (Nat.le_refl _) (by decide)
theorem fa_nil {j : Nat} : ∀ d ∈ ([] : List PyData), Fi j d := fun _ h => absurd h List.not_mem_nil
theorem fa_cons {j : Nat} {d : PyData} {ds : List PyData} (h : Fi j d) (r : ∀ x ∈ ds, Fi j x) : ∀ x ∈ d :: ds, Fi j x := fun x hx => (List.mem_cons.mp hx).elim (fun e => by rw [e]; exact h) (r x)
def Few (j n : Nat) : Prop := n * (Sz j + 2) + 3 ≤ Sz (j + 1) ∧ n ≤ 100000
instance (j n : Nat) : Decidable (Few j n) := by unfold Few; infer_instance
theorem fi_list {j : Nat} {ds : List PyData} (h : ∀ d ∈ ds, Fi j d) (hn : n = ds.length := by rfl) (hf : Few j n := by decide) : Fi (j + 1) (.list ds) := (fine_list (k := j) (m := Sz j) (n := n) h (by rw [hn]; exact Nat.le_refl _) hf.2).mono (Nat.le_refl _) hf.1
theorem fi_tuple {j : Nat} {ds : List PyData} (h : ∀ d ∈ ds, Fi j d) (hn : n = ds.length := by rfl) (hf : Few j n := by decide) : Fi (j + 1) (.tuple ds) := (fine_tuple (k := j) (m := Sz j) (n := n) h (by rw [hn]; exact Nat.le_refl _) hf.2).mono (Nat.le_refl _) hf.1
theorem fi_ne {j : Nat} {d : PyData} (h : Fi j d) : (!PyData.eqv d d) = false := by
  rw [PySem.SeqAt.eqv_refl _ h.lay]; rfl
theorem fi_eq {j : Nat} {d : PyData} (h : Fi j d) : PyData.eqv d d = true := PySem.SeqAt.eqv_refl _ h.lay
/-! ### arguments by name, in another order -/
def pm10 {α : Type} : List α → List α
  | [a, b] => [b, a]
  | l => l
theorem rel_pm10 {zs : List V} {ws : List Value} (_ : zs.length = 2) (r : Vals zs ws) : Vals (pm10 zs) (pm10 ws) := by
  match zs, ws, r with
  | [], _, .nil => exact .nil
  | [_], _, .cons h .nil => exact .cons h .nil
  | [_, _], _, .cons h1 (.cons h2 .nil) => exact .cons h2 (.cons h1 .nil)
  | _ :: _ :: _ :: _, _, .cons h1 (.cons h2 (.cons h3 r)) => exact .cons h1 (.cons h2 (.cons h3 r))
def pm0 {α : Type} (l : List α) : List α := l
theorem rel_pm0 {zs : List V} {ws : List Value} (_ : zs.length = 1) (r : Vals zs ws) : Vals (pm0 zs) (pm0 ws) := r
end Pc
namespace Pc
open PySem PySem.Spec PyProof.Rows L2 RZ
theorem calls_app {n : Nat} {qs rs : List (Nat × Nat)} (h : Calls n qs) (g : Calls n rs) : Calls n (qs ++ rs) := fun q hq => (List.mem_append.mp hq).elim (h q) (g q)
end Pc
namespace Pc
open PySem PySem.Spec PyProof.Rows L2 RZ
/-- the slots, written out -/
theorem st_eq {t : TS} {D : L2.Ends} {σ : L2.St} {H : Hp} (σ' : L2.St) (h : t D σ' H) (e : σ = σ') : t D σ H := by rw [e]; exact h
end Pc
namespace Pc
open PySem PySem.Spec PyProof.Rows L2 RZ
theorem st_set {i : Nat} {v : V} {σ : L2.St} {H : Hp} {Q : L2.St → Hp → Prop} (σ' : L2.St) (h : Q σ' H) (e : σ.set i (some v) = σ') : gName i v σ H Q := by
  unfold gName
  rw [e]; exact h
end Pc
namespace Pc
open PySem PySem.Spec PyProof.Rows L2 RZ
theorem fi_same {x y : V} (e : x = y) : (!decide (x = y)) = false := by rw [decide_eq_true e]; rfl
theorem fi_is {x y : V} (e : x = y) : decide (x = y) = true := decide_eq_true e
end Pc
namespace Pc
open PySem PySem.Spec PyProof.Rows L2 RZ
theorem st_kept {D : L2.Ends} {i : Nat} {a C d : Addr} {σ1 : L2.St} {H : Hp} (σ' : L2.St) (h : D.nx σ' (upd H a (exk a (.ref C) (some d)))) (e : σ1.set i none = σ') :
    ({ nx := fun σ'' H'' => D.nx (σ''.set i none) (upd H'' a (exk a (.ref C) (some d))), rt := fun _ _ => False } : L2.Ends).nx σ1 H := by
  show D.nx (σ1.set i none) _
  rw [e]; exact h
end Pc
namespace Pc
open PySem PySem.Spec PyProof.Rows L2 RZ
theorem st_setH {i : Nat} {v : V} {σ : L2.St} {H : Hp} {Q : L2.St → Hp → Prop} (σ' : L2.St) (H' : Hp) (h : Q σ' H') (e : σ.set i (some v) = σ') (eh : H = H') : gName i v σ H Q := by
  unfold gName
  rw [e, eh]; exact h
end Pc
namespace Pc
open PySem PySem.Spec PyProof.Rows L2 RZ
/-- f(k=e, ..), f raising -/
theorem pe_kwS {X : Cx} {CX : CXT} {k : Nat} {f : Addr} {fd : FuncData} {ps ks : List Str} {sp : Sp} {E : L2.St → XK} {x : Str} {p pos : Pos} {kws : List Keyword} {tk : TA} {g : List Value → List Value} {gV : List V → List V}
    (F : FnOk X.prog X.w X.K X.mg X.base CX k f fd ps sp) (hr : Room k X.A) (hg : Gl X x) (hm : X.mg x = some (.ref f)) (hk : PySem.W.keepIn X.K (.ref f) = true)
    (hb : ∀ (s : Shared) (ws : List Value), ws.length = ks.length → BindsTo s fd ⟨[], ks.zip ws⟩ (ps.zip (g ws))) (rel : ∀ {zs : List V} {ws : List Value}, zs.length = ks.length → Vals zs ws → Vals (gV zs) (g ws)) (hx : ∀ σ, PassesAt CX X σ (E σ)) (hkw : PK X kws tk)
    (hall : (backToKw pos (keywordEach kws X.env)).all (·.1.isSome) = true := by rfl) (hks : (backToKw pos (keywordEach kws X.env)).filterMap (·.1) = ks := by rfl) (hdb : (x == ("__debug__" : Str)) = false := by decide)
    (hpl : ((backTo pos (starEach [] X.env)).any (·.1) || (backToKw pos (keywordEach kws X.env)).any (·.1.isNone)) = false := by rfl) :
    PE X (.Call (.Name x p) [] kws pos) (fun σ H Q => tk σ H fun zs H1 => zs.length = ks.length ∧ sp (gV zs) H1 Q (E σ)) := by
  constructor
  intro pins s σ H Q I h
  refine wpAny_Call_Name_kw (ld_glob I hg hm ?_ hdb)
  refine PySem.W.callWith_KW0 (h₀ := X.base) I.ok.mod.kin hk hall (thn (hkw.run pos pins s σ H _ I h) ?_) hpl
  rintro ws s2 ⟨zs, H2, I2, rz, hz, q⟩
  refine ⟨I2.kIn, ?_⟩
  rw [hks]
  refine wpAny_call (codeAny_mono (F.run X.A X.stack s2 H2 ⟨[], ks.zip ws⟩ (g ws) (gV zs) Q (E σ) hr I2.env0 (hb s2 ws (by rw [← rz.length, hz])) (rel hz rz) q) ?_)
  intro res s' hq
  cases res with
  | error e => exact hx σ pins H2 s2 e s' I2 hq
  | ok fl =>
    cases fl with
    | ret u => exact I2.after hq
    | next => exact hq.elim
    | brk => exact hq.elim
    | cont => exact hq.elim
end Pc
namespace Pc
open PySem PySem.Spec PyProof.Rows L2 RZ
/-! ### one of some defs, called -/
def FOk (X : Cx) (CX : CXT) (f : Addr) (sp : Sp) : Prop := ∃ (k : Nat) (fd : FuncData) (ps : List Str), FnOk X.prog X.w X.K X.mg X.base CX k f fd ps sp ∧ Room k X.A ∧ PySem.W.keepIn X.K (.ref f) = true ∧ Binds X.K fd ps []
def tCallF (cs : List (Addr × Sp)) (E : L2.St → XK) (tf : TE) (t : TA) : TE := fun σ H Q => tf σ H fun v H1 => ∃ (f : Addr) (sp : Sp), (f, sp) ∈ cs ∧ v = .ref f ∧ t σ H1 fun vs H2 => sp vs H2 Q (E σ)
theorem fall_nil {X : Cx} {CX : CXT} : ∀ c ∈ ([] : List (Addr × Sp)), FOk X CX c.1 c.2 := fun _ h => absurd h List.not_mem_nil
theorem fall_cons {X : Cx} {CX : CXT} {f : Addr} {sp : Sp} {cs : List (Addr × Sp)} (h : FOk X CX f sp) (r : ∀ c ∈ cs, FOk X CX c.1 c.2) : ∀ c ∈ (f, sp) :: cs, FOk X CX c.1 c.2 := fun c hc => (List.mem_cons.mp hc).elim (fun e => by rw [e]; exact h) (r c)
theorem pe_callF {X : Cx} {CX : CXT} {cs : List (Addr × Sp)} {E : L2.St → XK} {fe e : Expr} {es : List Expr} {tf : TE} {t : TA} {pos : Pos} (hall : ∀ c ∈ cs, FOk X CX c.1 c.2) (hx : ∀ σ, PassesAt CX X σ (E σ)) (hf : PE X fe tf) (ha : PA X (e :: es) t)
    (ht : eval (.Call fe (e :: es) [] pos) X.env = (do callWith pos (← eval fe X.env) [] (backTo pos (starEach (e :: es) X.env)) (backToKw pos (keywordEach [] X.env))) := by rfl)
    (he : starEach (e :: es) X.env = (false, eval e X.env) :: starEach es X.env := by rfl) (hpl : (backTo pos (starEach es X.env)).any (·.1) = false := by rfl) : PE X (.Call fe (e :: es) [] pos) (tCallF cs E tf t) := by
  refine ⟨fun pins s σ H Q I h => ?_⟩
  refine Call_ (thn (hf.run pins s σ H _ I h) fun u s1 ⟨y, H1, I1, ry, f, sp, hm, ey, q⟩ => ?_) ht
  subst ey
  obtain rfl : u = Value.ref f := ry
  obtain ⟨k, fd, ps, F, hr, hk, hb⟩ := hall _ hm
  refine PySem.W.callWith_K (h₀ := X.base) I1.ok.mod.kin hk (thn (ha.run pos pins s1 σ H1 _ I1 q) fun us s2 ⟨vs, H2, I2, r, q2⟩ => ⟨I2.kIn, ?_⟩) he hpl
  exact run_fnS F hr hb (hx σ) I2 r q2
/-- C(e, ..), the arguments never come -/
theorem pe_callN {X : Cx} {f : Addr} {x : Str} {p pos : Pos} {e : Expr} {es : List Expr} {t : TA} (hg : Gl X x) (hm : X.mg x = some (.ref f)) (hk : PySem.W.keepIn X.K (.ref f) = true) (ha : PA X (e :: es) t) (hdb : (x == ("__debug__" : Str)) = false := by decide)
    (he : starEach (e :: es) X.env = (false, eval e X.env) :: starEach es X.env := by rfl) (hpl : (backTo pos (starEach es X.env)).any (·.1) = false := by rfl) :
    PE X (.Call (.Name x p) (e :: es) [] pos) (fun σ H _ => t σ H fun _ _ => False) := by
  refine ⟨fun pins s σ H Q I h => ?_⟩
  refine wpAny_Call_Name_kw (ld_glob I hg hm ?_ hdb)
  exact PySem.W.callWith_K (h₀ := X.base) I.ok.mod.kin hk (thn (ha.run pos pins s σ H _ I h) fun us s1 ⟨vs, H1, I1, r, q⟩ => q.elim) he hpl
end Pc
namespace Pc
open PySem PySem.Spec PyProof.Rows L2 RZ
section
variable {P : Program} {w : World} {K : PySem.W.Frag} {mg : Str → Option Value} {base : Heap}
/-! ### somebody who is not there -/
def spPersonX (C : Addr) : Sp := fun vs H _ E => ∃ n u : Int, vs = [.int n, .int u] ∧ ¬ (0 ≤ u ∧ u < n) ∧ Flies C "person" (.int u) H E
theorem okx_p_check_person (T : Env K mg) : FnOk P w K mg base (L2.CX P w) 3 T.f_p_check_person T.d_p_check_person ["size", "person"] (spPersonX T.C_NoPerson) := by
  refine T.F_p_check_person.okX sc_p_check_person (fun vs H Q E h => ?_) (fun cdv A outer s H vs Q E hr h => ?_)
  · obtain ⟨n, u, rfl, _⟩ := h
    rfl
  · obtain ⟨n, u, rfl, hu, hF⟩ := h
    refine ⟨_, pss_one (ps_if (pt_not (pt_chain op_le op_lt pe_int (pv 1) (pv 0))) (pss_one (ps_raise rfl (takes_of rfl rfl rfl rfl) (pmk_e T.own_NoPerson bsL.fb T.iC_NoPerson T.tI_NoPerson (ok_i_NoPerson T) hr T.b_i_NoPerson pass0 (by rfl) T.gC_NoPerson (pa_cons (pv 1) pa_nil)))) pss_nil), ?_⟩
    refine ⟨_, rfl, 0, u, rfl, rfl, _, rfl, ?_⟩
    by_cases c : (0 : Int) ≤ u
    · rw [decide_eq_true c]
      refine iteT ⟨_, rfl, u, n, rfl, rfl, _, rfl, ?_⟩
      rw [decide_eq_false (show ¬ u < n from fun z => hu ⟨c, z⟩)]
      exact iteY rfl ⟨_, rfl, raised1 hF⟩
    · rw [decide_eq_false c]
      exact iteF ⟨_, rfl, iteY rfl ⟨_, rfl, raised1 hF⟩⟩
end
end Pc
namespace Pc
open PySem PySem.Spec PyProof.Rows L2 RZ
/-! ### integers that are not people -/
def outP (n u : Int) : Bool := !(decide (0 ≤ u) && decide (u < n))
theorem outP_yes {n u : Int} : outP n u = true ↔ ¬ (0 ≤ u ∧ u < n) := by
  unfold outP
  by_cases a : 0 ≤ u <;> by_cases b : u < n <;> simp [a, b] <;> omega
theorem outP_no {n u : Int} : outP n u = false ↔ 0 ≤ u ∧ u < n := by
  unfold outP
  by_cases a : 0 ≤ u <;> by_cases b : u < n <;> simp [a, b] <;> omega
def badP (n : Int) (p : Int × Int) : Option Int := if outP n p.1 = true then some p.1 else if outP n p.2 = true then some p.2 else none
def badW (n : Int) : List (Int × Int) → Option Int
  | [] => none
  | p :: r => match badP n p with
    | some u => some u
    | none => badW n r
/-- nothing is raised, or NoPerson with the first such integer -/
def Goes (C : Addr) (o : Option Int) (H : Hp) (Q : VK) (E : XK) : Prop := match o with
  | none => Q .non H
  | some u => Flies C "person" (.int u) H E
def ItemsZ (K : PySem.W.Frag) (H : Hp) (us : List V) (qs : List (Int × Int)) : Prop := us.length = qs.length ∧ ∀ (i : Nat) (v : V), us[i]? = some v → ∃ (c : Addr) (p : Int × Int), v = .ref c ∧ qs[i]? = some p ∧ Sq K H c [.int p.1, .int p.2]
theorem ItemsZ.same {K : PySem.W.Frag} {H H' : Hp} {us : List V} {qs : List (Int × Int)} (h : ItemsZ K H us qs) (s : Same H H') : ItemsZ K H' us qs :=
  ⟨h.1, fun i v hv => by obtain ⟨c, p, e, hp, hq⟩ := h.2 i v hv; exact ⟨c, p, e, hp, hq.same s⟩⟩
section
variable {P : Program} {w : World} {K : PySem.W.Frag} {mg : Str → Option Value} {base : Heap}
def spPersonE (C : Addr) : Sp := fun vs H Q E => ∃ n u : Int, vs = [.int n, .int u] ∧ Goes C (if outP n u = true then some u else none) H Q E
theorem oke_p_check_person (T : Env K mg) : FnOk P w K mg base (L2.CX P w) 3 T.f_p_check_person T.d_p_check_person ["size", "person"] (spPersonE T.C_NoPerson) := by
  refine T.F_p_check_person.okX sc_p_check_person (fun vs H Q E h => ?_) (fun cdv A outer s H vs Q E hr h => ?_)
  · obtain ⟨n, u, rfl, _⟩ := h
    rfl
  · obtain ⟨n, u, rfl, hF⟩ := h
    refine ⟨_, pss_one (ps_if (pt_not (pt_chain op_le op_lt pe_int (pv 1) (pv 0))) (pss_one (ps_raise rfl (takes_of rfl rfl rfl rfl) (pmk_e T.own_NoPerson bsL.fb T.iC_NoPerson T.tI_NoPerson (ok_i_NoPerson T) hr T.b_i_NoPerson pass0 (by rfl) T.gC_NoPerson (pa_cons (pv 1) pa_nil)))) pss_nil), ?_⟩
    refine ⟨_, rfl, 0, u, rfl, rfl, _, rfl, ?_⟩
    by_cases c : (0 : Int) ≤ u
    · rw [decide_eq_true c]
      refine iteT ⟨_, rfl, u, n, rfl, rfl, _, rfl, ?_⟩
      by_cases d : u < n
      · rw [if_neg (by rw [outP_no.mpr ⟨c, d⟩]; exact Bool.false_ne_true)] at hF
        rw [decide_eq_true d]
        exact iteX rfl hF
      · rw [if_pos (outP_yes.mpr fun z => d z.2)] at hF
        rw [decide_eq_false d]
        exact iteY rfl ⟨_, rfl, raised1 hF⟩
    · rw [if_pos (outP_yes.mpr fun z => c z.1)] at hF
      rw [decide_eq_false c]
      exact iteF ⟨_, rfl, iteY rfl ⟨_, rfl, raised1 hF⟩⟩
def spCallE (K : PySem.W.Frag) (C : Addr) : Sp := fun vs H Q E => ∃ (n : Int) (c : Addr) (p : Int × Int), vs = [.int n, .ref c] ∧ Sq K H c [.int p.1, .int p.2] ∧ Goes C (badP n p) H Q E
theorem oke_p_check_call (T : Env K mg) : FnOk P w K mg base (L2.CX P w) 4 T.f_p_check_call T.d_p_check_call ["size", "call"] (spCallE K T.C_NoPerson) := by
  have G1 : FnOk P w K mg base (L2.CX P w) 3 T.f_p_check_person T.d_p_check_person ["size", "person"] (spPersonE T.C_NoPerson) := oke_p_check_person T
  refine T.F_p_check_call.okX sc_p_check_call (fun vs H Q E h => ?_) (fun cdv A outer s H vs Q E hr h => ?_)
  · obtain ⟨n, c, p, rfl, _⟩ := h
    rfl
  · obtain ⟨n, c, p, rfl, hS, hF⟩ := h
    refine ⟨_, pss_one (ps_for (passes_of rfl) rfl (pi_seq (pv 1)) (pg_name (i := 2) sc_p_check_call.nd rfl (.inl rfl)) (pss_one (ps_expr (pe_callS G1 hr (by rfl) T.g_p_check_person T.F_p_check_person.kp T.b_p_check_person (fun σ => passAt (takes_of rfl rfl rfl rfl) σ) (pa_cons (pv 0) (pa_cons (pv 2) pa_nil)))))), ?_⟩
    refine ⟨.ref c, rfl, c, rfl, for_seq hS (fun i σ H' => H' = H ∧ (0 < i → outP n p.1 = false) ∧ (1 < i → outP n p.2 = false) ∧ ∃ y : Option V, σ = [some (.int n), some (.ref c), y]) ⟨rfl, fun z => absurd z (by omega), fun z => absurd z (by omega), none, rfl⟩ (fun i σ H' h => by rw [h.1]; exact Same.refl _) (fun i x σ H' hx h => ?_) (fun σ H' h => ?_)⟩
    · obtain ⟨rfl, b1, b2, y, rfl⟩ := h
      have hi : i < 2 := get_lt hx
      rcases (show i = 0 ∨ i = 1 by omega) with z | z
      · subst z
        cases Option.some.inj hx
        refine ⟨_, rfl, _, rfl, n, p.1, rfl, ?_⟩
        by_cases c1 : outP n p.1 = true
        · rw [if_pos c1]
          have : badP n p = some p.1 := if_pos c1
          rw [this] at hF
          exact hF
        · rw [if_neg c1]
          exact ⟨rfl, fun _ => Bool.eq_false_iff.mpr c1, fun z => absurd z (by omega), _, rfl⟩
      · subst z
        cases Option.some.inj hx
        refine ⟨_, rfl, _, rfl, n, p.2, rfl, ?_⟩
        have c0 := b1 (by omega)
        by_cases c1 : outP n p.2 = true
        · rw [if_pos c1]
          have : badP n p = some p.2 := by unfold badP; rw [if_neg (by rw [c0]; exact Bool.false_ne_true), if_pos c1]
          rw [this] at hF
          exact hF
        · rw [if_neg c1]
          exact ⟨rfl, fun _ => c0, fun _ => Bool.eq_false_iff.mpr c1, _, rfl⟩
    · obtain ⟨rfl, b1, b2, _⟩ := h
      have : badP n p = none := by unfold badP; rw [if_neg (by rw [b1 (by show 0 < 2; decide)]; exact Bool.false_ne_true), if_neg (by rw [b2 (by show 1 < 2; decide)]; exact Bool.false_ne_true)]
      rw [this] at hF
      exact hF
def spWordE (K : PySem.W.Frag) (C : Addr) : Sp := fun vs H Q E => ∃ (n : Int) (wd : Addr) (us : List V) (qs : List (Int × Int)), vs = [.int n, .ref wd] ∧ Sq K H wd us ∧ ItemsZ K H us qs ∧ Goes C (badW n qs) H Q E
theorem oke_p_check_word (T : Env K mg) : FnOk P w K mg base (L2.CX P w) 5 T.f_p_check_word T.d_p_check_word ["size", "word"] (spWordE K T.C_NoPerson) := by
  have G1 : FnOk P w K mg base (L2.CX P w) 4 T.f_p_check_call T.d_p_check_call ["size", "call"] (spCallE K T.C_NoPerson) := oke_p_check_call T
  refine T.F_p_check_word.okX sc_p_check_word (fun vs H Q E h => ?_) (fun cdv A outer s H vs Q E hr h => ?_)
  · obtain ⟨n, wd, us, qs, rfl, _⟩ := h
    rfl
  · obtain ⟨n, wd, us, qs, rfl, hS, hI, hF⟩ := h
    refine ⟨_, pss_one (ps_for (passes_of rfl) rfl (pi_seq (pv 1)) (pg_name (i := 2) sc_p_check_word.nd rfl (.inl rfl)) (pss_one (ps_expr (pe_callS G1 hr (by rfl) T.g_p_check_call T.F_p_check_call.kp T.b_p_check_call (fun σ => passAt (takes_of rfl rfl rfl rfl) σ) (pa_cons (pv 0) (pa_cons (pv 2) pa_nil)))))), ?_⟩
    refine ⟨.ref wd, rfl, wd, rfl, for_seq hS (fun i σ H' => H' = H ∧ badW n qs = badW n (qs.drop i) ∧ ∃ y : Option V, σ = [some (.int n), some (.ref wd), y]) ⟨rfl, rfl, none, rfl⟩ (fun i σ H' h => by rw [h.1]; exact Same.refl _) (fun i x σ H' hx h => ?_) (fun σ H' h => ?_)⟩
    · obtain ⟨rfl, hb, y, rfl⟩ := h
      obtain ⟨c, p, rfl, hp, hq⟩ := hI.2 i x hx
      have hd : qs.drop i = p :: qs.drop (i + 1) := by
        obtain ⟨hl, e⟩ := List.getElem?_eq_some_iff.mp hp
        rw [List.drop_eq_getElem_cons hl, e]
      refine ⟨_, rfl, _, rfl, n, c, p, rfl, hq, ?_⟩
      cases e : badP n p with
      | some u =>
        have : badW n qs = some u := by
          rw [hb, hd]
          show (match badP n p with | some u => some u | none => badW n (qs.drop (i + 1))) = some u
          rw [e]
        rw [this] at hF
        exact hF
      | none =>
        refine ⟨rfl, ?_, _, rfl⟩
        rw [hb, hd]
        show (match badP n p with | some u => some u | none => badW n (qs.drop (i + 1))) = _
        rw [e]
    · obtain ⟨rfl, hb, _⟩ := h
      rw [hI.1, List.drop_length] at hb
      rw [hb] at hF
      exact hF
end
end Pc
namespace Pc
open PySem PySem.Spec PyProof.Rows L2 RZ
section
variable {P : Program} {w : World} {K : PySem.W.Frag} {mg : Str → Option Value} {base : Heap}
/-! ### the looks at calls: valid ones raise nothing -/
def spCheckPerson : Sp := fun vs H Q _ => ∃ (n u : Nat), vs = [.int n, .int u] ∧ u < n ∧ Q .non H
theorem ok_p_check_person (T : Env K mg) : FnOk P w K mg base CX0 1 T.f_p_check_person T.d_p_check_person ["size", "person"] spCheckPerson := by
  refine T.F_p_check_person.ok sc_p_check_person (fun vs H Q E h => ?_) (fun cdv A outer s H vs Q E hr h => ?_)
  · obtain ⟨n, u, rfl, _⟩ := h
    rfl
  · obtain ⟨n, u, rfl, hu, q⟩ := h
    refine ⟨_, pss_one (ps_if (pt_not (pt_chain op_le op_lt pe_int (pv 1) (pv 0))) pss_never pss_nil), ?_⟩
    refine ⟨_, rfl, 0, u, rfl, rfl, _, rfl, ?_⟩
    rw [decide_eq_true (show (0 : Int) ≤ (u : Int) by omega)]
    refine iteT ⟨.int n, rfl, u, n, rfl, rfl, _, rfl, ?_⟩
    rw [decide_eq_true (show (u : Int) < (n : Int) by omega)]
    exact iteN q
def spCheckCall (K : PySem.W.Frag) : Sp := fun vs H Q _ => ∃ (n a b : Nat) (c : Addr), vs = [.int n, .ref c] ∧ Sq K H c [.int a, .int b] ∧ a < n ∧ b < n ∧ Q .non H
theorem ok_p_check_call (T : Env K mg) : FnOk P w K mg base CX0 2 T.f_p_check_call T.d_p_check_call ["size", "call"] (spCheckCall K) := by
  have G1 : FnOk P w K mg base CX0 1 T.f_p_check_person T.d_p_check_person ["size", "person"] spCheckPerson := ok_p_check_person T
  refine T.F_p_check_call.ok sc_p_check_call (fun vs H Q E h => ?_) (fun cdv A outer s H vs Q E hr h => ?_)
  · obtain ⟨n, a, b, c, rfl, _⟩ := h
    rfl
  · obtain ⟨n, a, b, c, rfl, hS, ha, hb, q⟩ := h
    refine ⟨_, pss_one (ps_for PassesOwn.never rfl (pi_seq (pv 1)) (pg_name (i := 2) sc_p_check_call.nd rfl (.inl rfl)) (pss_one (ps_expr (pe_call G1 hr (by rfl) T.g_p_check_person T.F_p_check_person.kp T.b_p_check_person .nil pass0 (pa_cons (pv 0) (pa_cons (pv 2) pa_nil)))))), ?_⟩
    refine ⟨.ref c, rfl, c, rfl, for_seq hS (fun i σ H' => H' = H ∧ ∃ y : Option V, σ = [some (.int n), some (.ref c), y]) ⟨rfl, none, rfl⟩ (fun i σ H' h => by rw [h.1]; exact Same.refl _) (fun i x σ H' hx h => ?_) (fun σ H' h => by rw [h.1]; exact q)⟩
    obtain ⟨rfl, y, rfl⟩ := h
    have hx' : ∃ u : Nat, x = .int u ∧ u < n := by
      have hi : i < 2 := get_lt hx
      rcases (show i = 0 ∨ i = 1 by omega) with z | z
      · subst z; exact ⟨a, (Option.some.inj hx).symm, ha⟩
      · subst z; exact ⟨b, (Option.some.inj hx).symm, hb⟩
    obtain ⟨u, rfl, hu⟩ := hx'
    exact ⟨_, rfl, _, rfl, n, u, rfl, hu, rfl, _, rfl⟩
def spCheckWord (K : PySem.W.Frag) : Sp := fun vs H Q _ => ∃ (n : Nat) (wd : Addr) (us : List V) (qs : List (Nat × Nat)), vs = [.int n, .ref wd] ∧ Sq K H wd us ∧ Items K H us qs ∧ Calls n qs ∧ Q .non H
theorem ok_p_check_word (T : Env K mg) : FnOk P w K mg base CX0 3 T.f_p_check_word T.d_p_check_word ["size", "word"] (spCheckWord K) := by
  have G1 : FnOk P w K mg base CX0 2 T.f_p_check_call T.d_p_check_call ["size", "call"] (spCheckCall K) := ok_p_check_call T
  refine T.F_p_check_word.ok sc_p_check_word (fun vs H Q E h => ?_) (fun cdv A outer s H vs Q E hr h => ?_)
  · obtain ⟨n, wd, us, qs, rfl, _⟩ := h
    rfl
  · obtain ⟨n, wd, us, qs, rfl, hS, hI, hc, q⟩ := h
    refine ⟨_, pss_one (ps_for PassesOwn.never rfl (pi_seq (pv 1)) (pg_name (i := 2) sc_p_check_word.nd rfl (.inl rfl)) (pss_one (ps_expr (pe_call G1 hr (by rfl) T.g_p_check_call T.F_p_check_call.kp T.b_p_check_call .nil pass0 (pa_cons (pv 0) (pa_cons (pv 2) pa_nil)))))), ?_⟩
    refine ⟨.ref wd, rfl, wd, rfl, for_seq hS (fun i σ H' => H' = H ∧ ∃ y : Option V, σ = [some (.int n), some (.ref wd), y]) ⟨rfl, none, rfl⟩ (fun i σ H' h => by rw [h.1]; exact Same.refl _) (fun i x σ H' hx h => ?_) (fun σ H' h => by rw [h.1]; exact q)⟩
    obtain ⟨rfl, y, rfl⟩ := h
    obtain ⟨c, p, rfl, hp, hq⟩ := hI.2 i x hx
    have := hc p (List.mem_of_getElem? hp)
    exact ⟨.int n, rfl, .ref c, rfl, n, p.1, p.2, c, rfl, hq, by omega, by omega, rfl, _, rfl⟩
/-! ### join_two -/
def spJoin : Sp := fun vs H Q _ => ∃ (j : Addr) (fs : List Nat) (n a b : Nat), vs = [.ref j, .int a, .int b] ∧ H j = some (.lst (nv fs)) ∧ IsPair n fs ∧ a < n ∧ b < n ∧
  ∀ H' : Hp, H' j = some (.lst (nv (jn fs a b))) → Keep j H H' → Q (.bl (!decide (fs.getD a 0 = b))) H'
theorem ok_p_join_two (T : Env K mg) : FnOk P w K mg base CX0 1 T.f_p_join_two T.d_p_join_two ["joined", "a", "b"] spJoin := by
  refine T.F_p_join_two.ok sc_p_join_two (fun vs H Q E h => ?_) (fun cdv A outer s H vs Q E hr h => ?_)
  · obtain ⟨j, fs, n, a, b, rfl, _⟩ := h
    rfl
  · obtain ⟨j, fs, n, a, b, rfl, hj, hP, ha, hb, q⟩ := h
    refine ⟨_, pss_cons (ps_set (i := 3) sc_p_join_two.nd rfl (.inl rfl) (pe_ix ix_list (pv 0) (pv 1) (fun _ _ => rfl))) <|
      pss_cons (ps_set (i := 4) sc_p_join_two.nd rfl (.inl rfl) (pe_ix ix_list (pv 0) (pv 2) (fun _ _ => rfl))) <|
      pss_cons (ps_if (pt_cmpR op_eq (pv 3) (pv 2) (nomark _)) (pss_one (ps_ret pe_bl)) pss_nil) <|
      pss_cons (ps_asg (pv 2) (pg_sub (pv 0) (pv 1) set_list)) <| pss_cons (ps_asg (pv 1) (pg_sub (pv 0) (pv 2) set_list)) <|
      pss_cons (ps_asg (pv 4) (pg_sub (pv 0) (pv 3) set_list)) <| pss_cons (ps_asg (pv 3) (pg_sub (pv 0) (pv 4) set_list)) <| pss_one (ps_ret pe_bl), ?_⟩
    obtain ⟨c, ea, hc, _⟩ := hP.par a ha
    obtain ⟨d, eb, hd, _⟩ := hP.par b hb
    have hS : SqL K H j (nv fs) := .inl (.inl hj)
    have hl := hP.len
    refine ⟨.ref j, rfl, .int a, rfl, j, _, _, _, rfl, rfl, hS, nv_at ea, ?_⟩
    refine ⟨.ref j, rfl, .int b, rfl, j, _, _, _, rfl, rfl, hS, nv_at eb, ?_⟩
    refine ⟨_, rfl, _, rfl, rfl, _, rfl, ite2 (fun e => ?_) (fun e => ?_)⟩
    · have e1 : c = b := by have := V.int.inj (of_decide_eq_true e); omega
      subst e1
      have := q H (by rw [jn_same ea]; exact hj) (Keep.refl _ _)
      rw [getD_of ea, decide_eq_true rfl] at this
      exact this
    · have e1 : c ≠ b := fun z => e (by rw [z]; exact decide_eq_true rfl)
      have ln : ∀ {l : List V}, l.length = fs.length → ∀ {i : Nat}, i < n → ixN l.length (i : Int) = some i := fun {l} hl2 {i} hi => ixN_nat (by rw [hl2, hl]; exact hi)
      refine ⟨_, rfl, .ref j, rfl, _, rfl, j, _, _, a, rfl, rfl, hj, ln (nv_length _) ha, ?_⟩
      refine ⟨_, rfl, .ref j, rfl, _, rfl, j, _, _, b, rfl, rfl, upd_same, ln (by rw [List.length_set, nv_length]) hb, ?_⟩
      refine ⟨_, rfl, .ref j, rfl, _, rfl, j, _, _, c, rfl, rfl, upd_same, ln (by rw [List.length_set, List.length_set, nv_length]) hc, ?_⟩
      refine ⟨_, rfl, .ref j, rfl, _, rfl, j, _, _, d, rfl, rfl, upd_same, ln (by rw [List.length_set, List.length_set, List.length_set, nv_length]) hd, ?_⟩
      have := q (upd (upd (upd (upd H j (.lst ((nv fs).set a (.int b)))) j (.lst (((nv fs).set a (.int b)).set b (.int a)))) j (.lst ((((nv fs).set a (.int b)).set b (.int a)).set c (.int d)))) j (.lst (((((nv fs).set a (.int b)).set b (.int a)).set c (.int d)).set d (.int c))))
        (by
          rw [upd_same, nv_set, nv_set, nv_set, nv_set]
          unfold jn
          rw [getD_of ea, getD_of eb, if_neg e1])
        (fun x o nx hx => by rw [upd_ne nx, upd_ne nx, upd_ne nx, upd_ne nx]; exact hx)
      rw [getD_of ea, decide_eq_false e1] at this
      exact this
end
end Pc
namespace Pc
open PySem PySem.Spec PyProof.Rows L2 RZ
theorem emp_two (n : Nat) : emp n = ((List.range n).map fun i => n + i) ++ List.range n := by
  refine List.ext_getElem? fun z => ?_
  by_cases h : z < n
  · rw [emp_lo h, List.getElem?_append_left (by rw [List.length_map, List.length_range]; exact h), List.getElem?_map, List.getElem?_range h]
    rfl
  · rw [List.getElem?_append_right (by rw [List.length_map, List.length_range]; omega), List.length_map, List.length_range]
    by_cases h2 : z < 2 * n
    · have := emp_hi (n := n) (e := z - n) (by omega)
      rw [show n + (z - n) = z by omega] at this
      rw [this, List.getElem?_range (by omega)]
    · rw [List.getElem?_eq_none (by rw [emp_len]; omega), List.getElem?_eq_none (by rw [List.length_range]; omega)]
end Pc
namespace Pc
open PySem PySem.Spec PyProof.Rows L2 RZ
section
variable {P : Program} {w : World} {K : PySem.W.Frag} {mg : Str → Option Value} {base : Heap}
/-! ### the empty sheet -/
def spEmpty : Sp := fun vs H Q _ => ∃ n : Nat, vs = [.int n] ∧ n ≤ 1000 ∧ ∀ (H' : Hp) (t : Addr), Same H H' → H t = none → H' t = some (.tup (nv (emp n))) → Q (.ref t) H'
theorem ok_p_empty_sheet (T : Env K mg) : FnOk P w K mg base CX0 1 T.f_p_empty_sheet T.d_p_empty_sheet ["size"] spEmpty := by
  refine T.F_p_empty_sheet.ok sc_p_empty_sheet (fun vs H Q E h => ?_) (fun cdv A outer s H vs Q E hr h => ?_)
  · obtain ⟨n, rfl, _⟩ := h
    rfl
  · obtain ⟨n, rfl, hn, q⟩ := h
    refine ⟨_, pss_one (ps_ret (pe_callTy call_tuple_of (by rfl) T.n_tuple (by decide +kernel) (pa_cons (pe_op op_cat (pe_listRg rfl (by rfl) T.n_list (prg_2 (by rfl) T.n_range (pv 0) (pe_op op_mul pe_int (pv 0)))) (pe_listRg rfl (by rfl) T.n_list (prg_1 (by rfl) T.n_range (pv 0)))) pa_nil))), ?_⟩
    refine ⟨_, rfl, _, rfl, 2, n, rfl, rfl, .inl ⟨by decide, by decide⟩, _, _, rfl, rfl, RgOk.of_le (by omega) (by omega) (by omega) (by omega), fun a na => ?_⟩
    have s1 : Same H _ := same_new (o := .lst (rgV (n : Int) (2 * (n : Int)))) na
    refine ⟨_, rfl, _, rfl, RgOk.of_le (by decide) (by omega) (by decide) (by omega), fun c nc => ?_⟩
    have s2 : Same (upd H a (.lst (rgV (n : Int) (2 * (n : Int))))) _ := same_new (o := .lst (rgV 0 (n : Int))) nc
    refine ⟨a, c, _, _, rfl, rfl, s2 _ _ upd_same, upd_same, ?_, fun d nd => ?_⟩
    · rw [rgV_length, rgV_length]
      exact Nat.le_of_lt (line_big (by omega))
    refine ⟨d, _, rfl, .inl ⟨.inl (.inl upd_same), fun t nt => ?_⟩⟩
    have s3 := (s1.trans s2).trans (same_new (o := .lst (rgV (n : Int) (2 * (n : Int)) ++ rgV 0 (n : Int))) nd)
    refine q _ t (s3.trans (same_new nt)) (s3.free nt) ?_
    rw [upd_same, range_shift, rg_nv, emp_two]
    unfold nv
    rw [List.map_append]
end
end Pc
namespace Pc
open PySem PySem.Spec PyProof.Rows L2 RZ
section
variable {P : Program} {w : World} {K : PySem.W.Frag} {mg : Str → Option Value} {base : Heap}
/-! ### sheets with words added -/
def spWithWord (K : PySem.W.Frag) : Sp := fun vs H Q _ => ∃ (a wd : Addr) (fs : List Nat) (us : List V) (qs : List (Nat × Nat)) (n : Nat), vs = [.ref a, .ref wd] ∧ Sq K H a (nv fs) ∧ IsPair (2 * n) fs ∧ Sq K H wd us ∧ Items K H us qs ∧ Calls n qs ∧ n ≤ 1000 ∧
  ∀ (H' : Hp) (t : Addr), Same H H' → H t = none → H' t = some (.tup (nv (shw n qs fs))) → Q (.ref t) H'
theorem ok_p_with_word (T : Env K mg) : FnOk P w K mg base CX0 4 T.f_p_with_word T.d_p_with_word ["sheet", "word"] (spWithWord K) := by
  have G0 : FnOk P w K mg base CX0 1 T.f_p_people_of T.d_p_people_of ["sheet"] (spPeople K) := ok_p_people_of T
  have G1 : FnOk P w K mg base CX0 3 T.f_p_check_word T.d_p_check_word ["size", "word"] (spCheckWord K) := ok_p_check_word T
  have G2 : FnOk P w K mg base CX0 1 T.f_p_join_two T.d_p_join_two ["joined", "a", "b"] spJoin := ok_p_join_two T
  refine T.F_p_with_word.ok sc_p_with_word (fun vs H Q E h => ?_) (fun cdv A outer s H vs Q E hr h => ?_)
  · obtain ⟨a, wd, fs, us, qs, n, rfl, _⟩ := h
    rfl
  · obtain ⟨a, wd, fs, us, qs, n, rfl, ha, hP, hw, hI, hc, hn, q⟩ := h
    have h1 := hr.mono (show 1 ≤ 3 by decide)
    refine ⟨_, pss_cons (ps_set (i := 2) sc_p_with_word.nd rfl (.inl rfl) (pe_call G0 h1 (by rfl) T.g_p_people_of T.F_p_people_of.kp T.b_p_people_of .nil pass0 (pa_cons (pv 0) pa_nil))) <|
      pss_cons (ps_expr (pe_call G1 hr (by rfl) T.g_p_check_word T.F_p_check_word.kp T.b_p_check_word .nil pass0 (pa_cons (pv 2) (pa_cons (pv 1) pa_nil)))) <|
      pss_cons (ps_set (i := 3) sc_p_with_word.nd rfl (.inl rfl) (pe_callTy call_list_of (by rfl) T.n_list (by decide +kernel) (pa_cons (pv 0) pa_nil))) <|
      pss_cons (ps_for PassesOwn.never rfl (pi_seq (pv 1)) (pg_seq (by rfl) (pgs_cons (pg_name (i := 4) sc_p_with_word.nd rfl (.inl rfl)) (pgs_cons (pg_name (i := 5) sc_p_with_word.nd rfl (.inl rfl)) pgs_nil)))
        (pss_one (ps_expr (pe_call G2 h1 (by rfl) T.g_p_join_two T.F_p_join_two.kp T.b_p_join_two .nil pass0 (pa_cons (pv 3) (pa_cons (pe_op op_add (pv 2) (pv 4)) (pa_cons (pe_op op_add (pv 2) (pv 5)) pa_nil))))))) <|
      pss_one (ps_ret (pe_callTy call_tuple_of (by rfl) T.n_tuple (by decide +kernel) (pa_cons (pv 3) pa_nil))), ?_⟩
    refine ⟨.ref a, rfl, a, fs, n, rfl, ha, hP.len, ?_⟩
    refine ⟨_, rfl, .ref wd, rfl, n, wd, us, qs, rfl, hw, hI, hc, ?_⟩
    refine ⟨.ref a, rfl, a, _, rfl, ha, fun l nl => ?_⟩
    have s0 : Same H (upd H l (.lst (nv fs))) := same_new nl
    refine ⟨.ref wd, rfl, wd, rfl, for_seq hw (fun i σ H' => Same H H' ∧ ∃ (y4 y5 : Option V), σ = [some (.ref a), some (.ref wd), some (.int n), some (.ref l), y4, y5] ∧ H' l = some (.lst (nv (shw n (qs.take i) fs)))) ⟨s0, none, none, rfl, upd_same⟩ (fun i σ H' h => h.1) (fun i x σ H' hx h => ?_) (fun σ H' h => ?_)⟩
    · obtain ⟨sm, y4, y5, rfl, el⟩ := h
      obtain ⟨c, r, rfl, hr', hq⟩ := hI.2 i x hx
      have hcr := hc r (List.mem_of_getElem? hr')
      refine ⟨c, _, rfl, hq.same sm, rfl, _, _, rfl, _, _, rfl, rfl, .ref l, rfl, _, rfl, _, rfl, _, _, rfl, rfl, _, rfl, _, rfl, _, _, rfl, rfl, l, _, 2 * n, n + r.1, n + r.2, ?_, el, shw_pair hP (hc.take i), by omega, by omega, fun H2 e2 k2 => ?_⟩
      · show [V.ref l, V.int ((n : Int) + (r.1 : Int)), V.int ((n : Int) + (r.2 : Int))] = _
        rw [show (n : Int) + (r.1 : Int) = ((n + r.1 : Nat) : Int) by omega, show (n : Int) + (r.2 : Int) = ((n + r.2 : Nat) : Int) by omega]
      · refine ⟨fun b o hb => k2 b o (ne_of_none hb nl) (sm _ _ hb), _, _, rfl, ?_⟩
        rw [shw_take hr']
        exact e2
    · obtain ⟨sm, y4, y5, rfl, el⟩ := h
      rw [hI.1, List.take_length] at el
      exact ⟨.ref l, rfl, l, _, rfl, .inl ⟨.inl (.inl el), fun t nt => q _ t (sm.trans (same_new nt)) (sm.free nt) upd_same⟩⟩
end
end Pc
namespace Pc
open PySem PySem.Spec PyProof.Rows L2 RZ
section
variable {P : Program} {w : World} {K : PySem.W.Frag} {mg : Str → Option Value} {base : Heap}
/-! ### sheets of words -/
def spPSheetOf (K : PySem.W.Frag) : Sp := fun vs H Q _ => ∃ (n : Nat) (wd : Addr) (us : List V) (qs : List (Nat × Nat)), vs = [.int n, .ref wd] ∧ Sq K H wd us ∧ Items K H us qs ∧ Calls n qs ∧ 0 < n ∧ n ≤ 1000 ∧
  ∀ (H' : Hp) (t : Addr), Same H H' → H t = none → H' t = some (.tup (nv (shw n qs (emp n)))) → Q (.ref t) H'
theorem ok_p_sheet_of (T : Env K mg) : FnOk P w K mg base CX0 5 T.f_p_sheet_of T.d_p_sheet_of ["size", "word"] (spPSheetOf K) := by
  have G0 : FnOk P w K mg base CX0 1 T.f_p_empty_sheet T.d_p_empty_sheet ["size"] spEmpty := ok_p_empty_sheet T
  have G1 : FnOk P w K mg base CX0 4 T.f_p_with_word T.d_p_with_word ["sheet", "word"] (spWithWord K) := ok_p_with_word T
  refine T.F_p_sheet_of.ok sc_p_sheet_of (fun vs H Q E h => ?_) (fun cdv A outer s H vs Q E hr h => ?_)
  · obtain ⟨n, wd, us, qs, rfl, _⟩ := h
    rfl
  · obtain ⟨n, wd, us, qs, rfl, hw, hI, hc, h0, hn, q⟩ := h
    refine ⟨_, pss_one (ps_ret (pe_call G1 hr (by rfl) T.g_p_with_word T.F_p_with_word.kp T.b_p_with_word .nil pass0 (pa_cons (pe_call G0 (hr.mono (by decide)) (by rfl) T.g_p_empty_sheet T.F_p_empty_sheet.kp T.b_p_empty_sheet .nil pass0 (pa_cons (pv 0) pa_nil)) (pa_cons (pv 1) pa_nil)))), ?_⟩
    refine ⟨_, rfl, n, rfl, hn, fun H1 t s1 nt et => ?_⟩
    refine ⟨.ref wd, rfl, t, wd, emp n, us, qs, n, rfl, .inr (.inl (.inl et)), emp_pair h0, hw.same s1, hI.same s1, hc, hn, fun H2 t2 s2 nt2 et2 => q H2 t2 (s1.trans s2) (s1.free nt2) et2⟩
end
end Pc
namespace Pc
open PySem PySem.Spec PyProof.Rows L2 RZ
section
variable {P : Program} {w : World} {K : PySem.W.Frag} {mg : Str → Option Value} {base : Heap}
/-! ### numbers of people that are equal -/
def spCheckSizes : Sp := fun vs H Q _ => ∃ n : Nat, vs = [.int n, .int n] ∧ Q .non H
theorem ok_p_check_sizes (T : Env K mg) : FnOk P w K mg base CX0 1 T.f_p_check_sizes T.d_p_check_sizes ["first", "second"] spCheckSizes := by
  refine T.F_p_check_sizes.ok sc_p_check_sizes (fun vs H Q E h => ?_) (fun cdv A outer s H vs Q E hr h => ?_)
  · obtain ⟨n, rfl, _⟩ := h
    rfl
  · obtain ⟨n, rfl, q⟩ := h
    refine ⟨_, pss_one (ps_if (pt_cmpR op_ne (pv 0) (pv 1) (nomark _)) pss_never pss_nil), ?_⟩
    refine ⟨_, rfl, _, rfl, rfl, _, rfl, ite2 (fun c => ?_) (fun _ => q)⟩
    rw [decide_eq_true rfl] at c
    exact absurd c (by decide)
end
end Pc
namespace Pc
open PySem PySem.Spec PyProof.Rows L2 RZ
section
variable {P : Program} {w : World} {K : PySem.W.Frag} {mg : Str → Option Value} {base : Heap}
/-! ### sheets one after another -/
def spFarEnd (K : PySem.W.Frag) : Sp := fun vs H Q _ => ∃ (a b : Addr) (f g : List Nat) (n e : Nat), vs = [.ref a, .ref b, .int e] ∧ Sq K H a (nv f) ∧ Sq K H b (nv g) ∧ IsPair (2 * n) f ∧ IsPair (2 * n) g ∧ e < 2 * n ∧ Q (.int ((fol f g n).getD e 0 : Nat)) H
theorem ok_p_far_end (T : Env K mg) : FnOk P w K mg base CX0 2 T.f_p_far_end T.d_p_far_end ["one", "other", "start"] (spFarEnd K) := by
  have G0 : FnOk P w K mg base CX0 1 T.f_p_people_of T.d_p_people_of ["sheet"] (spPeople K) := ok_p_people_of T
  refine T.F_p_far_end.ok sc_p_far_end (fun vs H Q E h => ?_) (fun cdv A outer s H vs Q E hr h => ?_)
  · obtain ⟨a, b, f, g, n, e, rfl, _⟩ := h
    rfl
  · obtain ⟨a, b, f, g, n, e, rfl, ha, hb, hf, hg, he, q⟩ := h
    refine ⟨_, pss_cons (ps_set (i := 3) sc_p_far_end.nd rfl (.inl rfl) (pe_call G0 hr (by rfl) T.g_p_people_of T.F_p_people_of.kp T.b_p_people_of .nil pass0 (pa_cons (pv 0) pa_nil))) <|
      pss_cons (ps_set (i := 4) sc_p_far_end.nd rfl (.inl rfl) (pe_cmpR op_lt (pv 2) (pv 3) (nomark _))) <|
      pss_cons (ps_set (i := 5) sc_p_far_end.nd rfl (.inl rfl) (pe_ifExp (pt_val (pv 4)) (pe_ix ix_seq (pv 0) (pv 2) (fun _ _ => rfl)) (pe_ix ix_seq (pv 1) (pv 2) (fun _ _ => rfl)))) <|
      pss_cons (ps_while PassesOwn.never (pt_cmpR op_eq (pv 4) (pe_cmpR op_ge (pv 5) (pv 3) (nomark _)) (nomark _))
        (pss_cons (ps_set (i := 5) sc_p_far_end.nd rfl (.inl rfl) (pe_ifExp (pt_val (pv 4)) (pe_ix ix_seq (pv 1) (pe_op op_sub (pv 5) (pv 3)) (fun _ _ => rfl)) (pe_ix ix_seq (pv 0) (pe_op op_add (pv 5) (pv 3)) (fun _ _ => rfl)))) <|
        pss_one (ps_set (i := 4) sc_p_far_end.nd rfl (.inl rfl) (pe_not (pv 4))))) <|
      pss_one (ps_ret (pv 5)), ?_⟩
    have W : Ends (cstep f g n n) (cst n n e) ((fol f g n).getD e 0) := cmp_ends hf.two hg.two (show e < n + n by omega)
    have V0 := (cst_val hf.two hg.two (show e < n + n by omega)).1
    obtain ⟨t, W2⟩ := W.count
    have e0 : cst n n e = (decide (e < n), e) := by
      unfold cst
      by_cases c : e < n
      · rw [if_pos c, decide_eq_true c]
      · rw [if_neg c, decide_eq_false c, show n + (e - n) = e by omega]
    rw [e0] at W2 V0
    clear W e0
    generalize (fol f g n).getD e 0 = y at W2 q
    refine ⟨.ref a, rfl, a, f, n, rfl, ha, hf.len, ?_⟩
    refine ⟨_, rfl, _, rfl, _, _, rfl, rfl, ?_⟩
    have fz : ∀ {z : Nat}, z < n + n → f[z]? = some (f.getD z 0) := fun hz => (hf.d (by omega)).2.2.2
    have gz : ∀ {z : Nat}, z < n + n → g[z]? = some (g.getD z 0) := fun hz => (hg.d (by omega)).2.2.2
    have ci : decide ((e : Int) < (n : Int)) = decide (e < n) := by
      by_cases c : e < n
      · rw [decide_eq_true c, decide_eq_true (by omega)]
      · rw [decide_eq_false c, decide_eq_false (by omega)]
    refine ⟨_, rfl, _, rfl, ite2 (fun c => ?wT) (fun c => ?wF)⟩
    case' wT =>
      have c1 : decide (e < n) = true := by rw [← ci]; exact c
      refine ⟨.ref a, rfl, _, rfl, ix_sq ha (nv_at (fz (by omega))) ?_⟩
      have st : [some (V.ref a), some (.ref b), some (.int e), some (.int n), some (.bl (decide ((e : Int) < (n : Int)))), some (.int ((f.getD e 0 : Nat) : Int))] = [some (V.ref a), some (.ref b), some (.int e), some (.int n), some (.bl (decide (e < n))), some (.int ((if decide (e < n) = true then f.getD e 0 else g.getD e 0 : Nat) : Int))] := by rw [ci, c1, if_pos rfl]
    case' wF =>
      have c1 : decide (e < n) = false := by rw [← ci]; exact Bool.eq_false_iff.mpr c
      refine ⟨.ref b, rfl, _, rfl, ix_sq hb (nv_at (gz (by omega))) ?_⟩
      have st : [some (V.ref a), some (.ref b), some (.int e), some (.int n), some (.bl (decide ((e : Int) < (n : Int)))), some (.int ((g.getD e 0 : Nat) : Int))] = [some (V.ref a), some (.ref b), some (.int e), some (.int n), some (.bl (decide (e < n))), some (.int ((if decide (e < n) = true then f.getD e 0 else g.getD e 0 : Nat) : Int))] := by rw [ci, c1, if_neg Bool.false_ne_true]
    all_goals
      refine ⟨fun m σ Hx => Hx = H ∧ ∃ (c : Bool) (z : Nat), σ = [some (.ref a), some (.ref b), some (.int e), some (.int n), some (.bl c), some (.int ((if c = true then f.getD z 0 else g.getD z 0 : Nat) : Int))] ∧ Val n n n (c, z) ∧ EndsN (cstep f g n n) m (c, z) y, ⟨t, rfl, decide (e < n), e, st, V0, W2⟩, fun m σ Hx hW => ?_⟩
      obtain ⟨rfl, c, z, rfl, vz, wz⟩ := hW
      refine ⟨_, rfl, _, rfl, _, rfl, _, _, rfl, rfl, rfl, _, rfl, ?_⟩
      cases c with
      | true =>
        have hz : z < n + n := vz
        have fl := (hf.d (show z < 2 * n by omega)).1
        by_cases p : f.getD z 0 < n
        · refine iteX (by show decide (V.bl true = V.bl (decide ((n : Int) ≤ ((f.getD z 0 : Nat) : Int)))) = false; rw [bl_dec, decide_eq_false (by omega)]; rfl) ?_
          cases wz with
          | go h _ => rw [cs_tl p] at h; cases h
          | stop h => rw [cs_tl p] at h; cases h; exact ⟨_, rfl, q⟩
        · refine iteY (by show decide (V.bl true = V.bl (decide ((n : Int) ≤ ((f.getD z 0 : Nat) : Int)))) = true; rw [bl_dec, decide_eq_true (by omega)]; rfl) ?_
          cases wz with
          | stop h => rw [cs_tg (by omega)] at h; cases h
          | @go t' _ _ _ h w' =>
            rw [cs_tg (by omega)] at h; cases h
            refine ⟨fun σ' H2 => H2 = Hx ∧ ∃ (c : Bool) (z : Nat), σ' = [some (.ref a), some (.ref b), some (.int e), some (.int n), some (.bl c), some (.int ((if c = true then f.getD z 0 else g.getD z 0 : Nat) : Int))] ∧ Val n n n (c, z) ∧ EndsN (cstep f g n n) t' (c, z) y, fun σ' H2 h2 => ⟨t', Nat.lt_succ_self _, h2⟩, ?_⟩
            refine ⟨_, rfl, _, rfl, iteY rfl ⟨.ref b, rfl, _, rfl, _, rfl, _, _, rfl, rfl, ix_sq hb (v := .int ((g.getD (f.getD z 0 - n) 0 : Nat) : Int)) ?_ ?_⟩⟩
            · show atI (nv g) (((f.getD z 0 : Nat) : Int) - (n : Int)) = _
              rw [show ((f.getD z 0 : Nat) : Int) - (n : Int) = ((f.getD z 0 - n : Nat) : Int) by omega]
              exact nv_at (gz (by omega))
            · exact ⟨_, rfl, _, rfl, rfl, false, f.getD z 0 - n, rfl, show f.getD z 0 - n < n + n by omega, w'⟩
      | false =>
        have hz : z < n + n := vz
        have gl := (hg.d (show z < 2 * n by omega)).1
        by_cases p : g.getD z 0 < n
        · refine iteY (by show decide (V.bl false = V.bl (decide ((n : Int) ≤ ((g.getD z 0 : Nat) : Int)))) = true; rw [bl_dec, decide_eq_false (by omega)]; rfl) ?_
          cases wz with
          | stop h => rw [cs_fl p] at h; cases h
          | @go t' _ _ _ h w' =>
            rw [cs_fl p] at h; cases h
            refine ⟨fun σ' H2 => H2 = Hx ∧ ∃ (c : Bool) (z : Nat), σ' = [some (.ref a), some (.ref b), some (.int e), some (.int n), some (.bl c), some (.int ((if c = true then f.getD z 0 else g.getD z 0 : Nat) : Int))] ∧ Val n n n (c, z) ∧ EndsN (cstep f g n n) t' (c, z) y, fun σ' H2 h2 => ⟨t', Nat.lt_succ_self _, h2⟩, ?_⟩
            refine ⟨_, rfl, _, rfl, iteX rfl ⟨.ref a, rfl, _, rfl, _, rfl, _, _, rfl, rfl, ix_sq ha (v := .int ((f.getD (n + g.getD z 0) 0 : Nat) : Int)) ?_ ?_⟩⟩
            · show atI (nv f) (((g.getD z 0 : Nat) : Int) + (n : Int)) = _
              rw [show ((g.getD z 0 : Nat) : Int) + (n : Int) = ((n + g.getD z 0 : Nat) : Int) by omega]
              exact nv_at (fz (by omega))
            · exact ⟨_, rfl, _, rfl, rfl, true, n + g.getD z 0, rfl, show n + g.getD z 0 < n + n by omega, w'⟩
        · refine iteX (by show decide (V.bl false = V.bl (decide ((n : Int) ≤ ((g.getD z 0 : Nat) : Int)))) = false; rw [bl_dec, decide_eq_true (by omega)]; rfl) ?_
          cases wz with
          | go h _ => rw [cs_fg (by omega)] at h; cases h
          | stop h =>
            rw [cs_fg (by omega), show n + (g.getD z 0 - n) = g.getD z 0 by omega] at h; cases h; exact ⟨_, rfl, q⟩
def spFollowed (K : PySem.W.Frag) : Sp := fun vs H Q _ => ∃ (a b : Addr) (f g : List Nat) (n : Nat), vs = [.ref a, .ref b] ∧ Sq K H a (nv f) ∧ Sq K H b (nv g) ∧ IsPair (2 * n) f ∧ IsPair (2 * n) g ∧ n ≤ 500 ∧
  ∀ (H' : Hp) (t : Addr), Same H H' → H t = none → H' t = some (.tup (nv (fol f g n))) → Q (.ref t) H'
theorem take_d {l : List Nat} {i : Nat} (h : i < l.length) : l.take (i + 1) = l.take i ++ [l.getD i 0] := by
  rw [List.take_add_one, List.getD_eq_getElem?_getD, List.getElem?_eq_getElem h]; rfl
theorem ok_p_followed (T : Env K mg) : FnOk P w K mg base CX0 3 T.f_p_followed T.d_p_followed ["one", "other"] (spFollowed K) := by
  have G0 : FnOk P w K mg base CX0 1 T.f_p_people_of T.d_p_people_of ["sheet"] (spPeople K) := ok_p_people_of T
  have G1 : FnOk P w K mg base CX0 1 T.f_p_check_sizes T.d_p_check_sizes ["first", "second"] spCheckSizes := ok_p_check_sizes T
  have G2 : FnOk P w K mg base CX0 2 T.f_p_far_end T.d_p_far_end ["one", "other", "start"] (spFarEnd K) := ok_p_far_end T
  refine T.F_p_followed.ok sc_p_followed (fun vs H Q E h => ?_) (fun cdv A outer s H vs Q E hr h => ?_)
  · obtain ⟨a, b, f, g, n, rfl, _⟩ := h
    rfl
  · obtain ⟨a, b, f, g, n, rfl, ha, hb, hf, hg, hn, q⟩ := h
    have h1 := hr.mono (show 1 ≤ 2 by decide)
    refine ⟨_, pss_cons (ps_expr (pe_call G1 h1 (by rfl) T.g_p_check_sizes T.F_p_check_sizes.kp T.b_p_check_sizes .nil pass0 (pa_cons (pe_call G0 h1 (by rfl) T.g_p_people_of T.F_p_people_of.kp T.b_p_people_of .nil pass0 (pa_cons (pv 0) pa_nil)) (pa_cons (pe_call G0 h1 (by rfl) T.g_p_people_of T.F_p_people_of.kp T.b_p_people_of .nil pass0 (pa_cons (pv 1) pa_nil)) pa_nil)))) <|
      pss_one (ps_ret (pe_callTy call_tuple_of (by rfl) T.n_tuple (by decide +kernel) (pa_cons
        (pe_lc (own := [("start", 2)]) (g := gName 2) (tt := tYes) (te := tCall (spFarEnd K) [] (fun _ _ _ => False) (tCons (tVar 0) (tCons (tVar 1) (tCons (tVar 2) tNil)))) rfl sc_p_followed.nd
          (pi_range1 (by rfl) T.n_range (pa_cons (pe_callB call_len_seq (by rfl) T.n_len PySem.boot_len (pa_cons (pv 0) pa_nil)) pa_nil)) (blkOk_by (N := N_p_followed) (sc := defScope s_p_followed) (by decide +kernel)) (fun _ _ _ _ _ => pg_name (i := 2) sc_p_followed.nd rfl (.inl rfl)) (fun _ _ _ _ _ => pts_nil)
          (fun _ _ _ _ _ => pe_call G2 hr (by rfl) T.g_p_far_end T.F_p_far_end.kp T.b_p_far_end .nil pass0 (pa_cons (pv 0) (pa_cons (pv 1) (pa_cons (pv 2) pa_nil))))) pa_nil))), ?_⟩
    have hl : ((nv f).length : Int) = ((2 * n : Nat) : Int) := by rw [nv_length, hf.len]
    have fl : (fol f g n).length = 2 * n := (fol_pair hf hg).len
    refine ⟨.ref a, rfl, a, f, n, rfl, ha, hf.len, .ref b, rfl, b, g, n, rfl, hb, hg.len, n, rfl, ?_⟩
    refine ⟨.ref a, rfl, a, _, rfl, ha, _, rfl, by rw [hl]; omega, by rw [hl]; omega, fun D nD => ?_⟩
    rw [show (((nv f).length : Int)).toNat = 2 * n by rw [hl]; omega]
    refine lc_range (n := 2 * n) (fun i H' => Same H H' ∧ H' D = some (.lst (nv ((fol f g n).take i)))) ⟨same_new nD, upd_same⟩ (fun i H1 hi hPv => ?_) (fun H1 hPv => ?_)
    · obtain ⟨sm, eD⟩ := hPv
      refine ⟨rfl, yes_if ⟨.ref a, rfl, .ref b, rfl, _, rfl, a, b, f, g, n, i, ?_, ha.same sm, hb.same sm, hf, hg, hi, _, eD, line_big (by rw [nv_length, List.length_take, fl]; omega), fun x o hx => ?_, ?_⟩⟩
      · show [V.ref a, V.ref b, V.int ((0 : Int) + (i : Nat))] = _
        rw [Int.zero_add]
      · rw [upd_ne (ne_of_none hx nD)]; exact sm _ _ hx
      · rw [upd_same, take_d (by rw [fl]; exact hi), ← nv_snoc']
    · obtain ⟨s1, eD⟩ := hPv
      rw [List.take_of_length_le (Nat.le_of_eq fl)] at eD
      exact ⟨D, _, rfl, .inl ⟨.inl (.inl eD), fun t nt => q _ t (s1.trans (same_new nt)) (s1.free nt) upd_same⟩⟩
end
end Pc
namespace Pc
open PySem PySem.Spec PyProof.Rows L2 RZ
section
variable {P : Program} {w : World} {K : PySem.W.Frag} {mg : Str → Option Value} {base : Heap}
/-! ### many times -/
def spTimes (K : PySem.W.Frag) : Sp := fun vs H Q _ => ∃ (a : Addr) (f : List Nat) (n k : Nat), vs = [.ref a, .int k] ∧ Sq K H a (nv f) ∧ IsPair (2 * n) f ∧ 0 < n ∧ n ≤ 500 ∧
  ∀ (H' : Hp) (t : Addr), Same H H' → H t = none → H' t = some (.tup (nv (pw f n k))) → Q (.ref t) H'
theorem ok_p_times (T : Env K mg) : FnOk P w K mg base CX0 4 T.f_p_times T.d_p_times ["sheet", "many"] (spTimes K) := by
  have G0 : FnOk P w K mg base CX0 1 T.f_p_people_of T.d_p_people_of ["sheet"] (spPeople K) := ok_p_people_of T
  have Ge : FnOk P w K mg base CX0 1 T.f_p_empty_sheet T.d_p_empty_sheet ["size"] spEmpty := ok_p_empty_sheet T
  have GF : FnOk P w K mg base CX0 3 T.f_p_followed T.d_p_followed ["one", "other"] (spFollowed K) := ok_p_followed T
  refine T.F_p_times.ok sc_p_times (fun vs H Q E h => ?_) (fun cdv A outer s H vs Q E hr h => ?_)
  · obtain ⟨a, f, n, k, rfl, _⟩ := h
    rfl
  · obtain ⟨a, f, n, k, rfl, ha, hf, h0, hn, q⟩ := h
    have h1 := hr.mono (show 1 ≤ 3 by decide)
    refine ⟨_, pss_cons (ps_set (i := 2) sc_p_times.nd rfl (.inl rfl) (pe_call Ge h1 (by rfl) T.g_p_empty_sheet T.F_p_empty_sheet.kp T.b_p_empty_sheet .nil pass0 (pa_cons (pe_call G0 h1 (by rfl) T.g_p_people_of T.F_p_people_of.kp T.b_p_people_of .nil pass0 (pa_cons (pv 0) pa_nil)) pa_nil))) <|
      pss_cons (ps_set (i := 3) sc_p_times.nd rfl (.inl rfl) (pe_callTy call_tuple_of (by rfl) T.n_tuple (by decide +kernel) (pa_cons (pv 0) pa_nil))) <|
      pss_cons (ps_set (i := 4) sc_p_times.nd rfl (.inl rfl) (pv 1)) <|
      pss_cons (ps_while PassesOwn.never (pt_cmpR op_gt (pv 4) pe_int (nomark _))
        (pss_cons (ps_if (pt_cmpR op_eq (pe_op op_mod (pv 4) pe_int) pe_int (nomark _)) (pss_one (ps_set (i := 2) sc_p_times.nd rfl (.inl rfl) (pe_call GF hr (by rfl) T.g_p_followed T.F_p_followed.kp T.b_p_followed .nil pass0 (pa_cons (pv 2) (pa_cons (pv 3) pa_nil))))) pss_nil) <|
        pss_cons (ps_set (i := 3) sc_p_times.nd rfl (.inl rfl) (pe_call GF hr (by rfl) T.g_p_followed T.F_p_followed.kp T.b_p_followed .nil pass0 (pa_cons (pv 3) (pa_cons (pv 3) pa_nil)))) <|
        pss_one (ps_aug (i := 4) sc_p_times.nd rfl (.inl rfl) pe_int ip_half))) <|
      pss_one (ps_ret (pv 2)), ?_⟩
    refine ⟨.ref a, rfl, a, f, n, rfl, ha, hf.len, n, rfl, by omega, fun H1 d s1 nd ed => ?_⟩
    refine ⟨.ref a, rfl, a, nv f, rfl, ?_⟩
    have pp := pw_pair h0 hf
    rcases ha with hl | ht
    case' inl =>
      refine .inl ⟨s1.seq hl, fun p np => ?_⟩
      have s2 : Same H (upd H1 p (.tup (nv f))) := s1.trans (same_new np)
      have ep : SqT K (upd H1 p (.tup (nv f))) p (nv f) := .inl (.inl upd_same)
      have ed2 : (upd H1 p (.tup (nv f))) d = some (.tup (nv (emp n))) := same_new np _ _ ed
      revert s2 ep ed2
      generalize upd H1 p (.tup (nv f)) = H2
      intro s2 ep ed2
    case' inr =>
      refine .inr ⟨same_tup s1 ht, ?_⟩
      have ep := same_tup s1 ht
      obtain ⟨H2, rfl⟩ : ∃ H2, H2 = H1 := ⟨H1, rfl⟩
      obtain ⟨p, rfl⟩ : ∃ p, p = a := ⟨a, rfl⟩
      have s2 := s1
      have ed2 := ed
    all_goals
      refine ⟨_, rfl, ?_⟩
      refine ⟨fun m σ H' => ∃ (y0 : Option V) (d p : Addr) (done j : Nat), σ = [y0, some (.int k), some (.ref d), some (.ref p), some (.int (m : Nat))] ∧ Same H H' ∧ H d = none ∧ H' d = some (.tup (nv (pw f n done))) ∧ SqT K H' p (nv (pw f n j)) ∧ done + j * m = k,
        ⟨k, _, d, p, 0, 1, rfl, s2, nd, ed2, by rw [pw_one h0 hf]; exact ep, by omega⟩, fun m σ H' hW => ?_⟩
      obtain ⟨y0, d', p', done, j, rfl, sm, nd', ed', ep', hk⟩ := hW
      refine ⟨_, rfl, _, _, rfl, rfl, _, rfl, ite2 (fun c => ?_) (fun c => ?_)⟩
      · have hm : 0 < m := by have := of_decide_eq_true c; omega
        have half : ((m : Int) / 2) = ((m / 2 : Nat) : Int) := by omega
        refine ⟨fun σ' H2 => ∃ (y0 : Option V) (d p : Addr) (done j : Nat), σ' = [y0, some (.int k), some (.ref d), some (.ref p), some (.int (m / 2 : Nat))] ∧ Same H H2 ∧ H d = none ∧ H2 d = some (.tup (nv (pw f n done))) ∧ SqT K H2 p (nv (pw f n j)) ∧ done + j * (m / 2) = k, fun σ' H2 h2 => ⟨m / 2, by omega, h2⟩, ?_⟩
        refine ⟨_, rfl, _, _, rfl, rfl, (show (0 : Int) < 2 by decide), rfl, _, rfl, ite2 (fun c2 => ?_) (fun c2 => ?_)⟩
        · have h2 : m % 2 = 1 := by have := V.int.inj (of_decide_eq_true c2); omega
          refine ⟨_, rfl, _, rfl, d', p', _, _, n, rfl, .inr (.inl (.inl ed')), .inr ep', pp done, pp j, hn, fun H3 d3 s3 nd3 ed3 => ?_⟩
          have hfo : fol (pw f n done) (pw f n j) n = pw f n (done + j) := pw_add h0 hf done j
          rw [hfo] at ed3
          refine ⟨_, rfl, _, rfl, p', p', _, _, n, rfl, .inr (same_tup s3 ep'), .inr (same_tup s3 ep'), pp j, pp j, hn, fun H4 p4 s4 np4 ep4 => ?_⟩
          have hf2 : fol (pw f n j) (pw f n j) n = pw f n (j + j) := pw_add h0 hf j j
          rw [hf2] at ep4
          refine ⟨_, rfl, _, _, rfl, rfl, ⟨by decide, by decide⟩, y0, d3, p4, done + j, j + j, ?_, sm.trans (s3.trans s4), sm.free nd3, s4 _ _ ed3, .inl (.inl ep4), ?_⟩
          · rw [half]; rfl
          · have e2 : m = 2 * (m / 2) + 1 := by omega
            have e3 : j * m = j * (2 * (m / 2)) + j := by rw [← Nat.mul_succ]; exact congrArg (j * ·) e2
            have e4 : j * (2 * (m / 2)) = (j + j) * (m / 2) := by rw [← Nat.mul_assoc, Nat.mul_two]
            omega
        · have h2 : m % 2 = 0 := by
            by_cases z : m % 2 = 1
            · exact absurd (decide_eq_true (show V.int ((m : Int) % 2) = V.int 1 by rw [show (m : Int) % 2 = 1 by omega])) c2
            · omega
          refine ⟨_, rfl, _, rfl, p', p', _, _, n, rfl, .inr ep', .inr ep', pp j, pp j, hn, fun H4 p4 s4 np4 ep4 => ?_⟩
          have hf2 : fol (pw f n j) (pw f n j) n = pw f n (j + j) := pw_add h0 hf j j
          rw [hf2] at ep4
          refine ⟨_, rfl, _, _, rfl, rfl, ⟨by decide, by decide⟩, y0, d', p4, done, j + j, ?_, sm.trans s4, nd', s4 _ _ ed', .inl (.inl ep4), ?_⟩
          · rw [half]; rfl
          · have e2 : m = 2 * (m / 2) := by omega
            have e3 : j * m = j * (2 * (m / 2)) := congrArg (j * ·) e2
            have e4 : j * (2 * (m / 2)) = (j + j) * (m / 2) := by rw [← Nat.mul_assoc, Nat.mul_two]
            omega
      · have hm : m = 0 := by
          by_cases z : m = 0
          · exact z
          · exact absurd (decide_eq_true (show (0 : Int) < (m : Int) by omega)) c
        subst hm
        rw [Nat.mul_zero, Nat.add_zero] at hk
        subst hk
        exact ⟨_, rfl, q H' d' sm nd' ed'⟩
end
end Pc
namespace Pc
open PySem PySem.Spec PyProof.Rows L2 RZ
theorem last_nv (l : List Nat) (z : Nat) : atI (nv (l ++ [z])) (-1) = some (.int (z : Int)) := by
  unfold nv
  rw [List.map_append]
  exact atI_last _ _
theorem last_nv' (l : List Nat) (y z : Nat) : atI (nv (l ++ [y, z])) (-1) = some (.int (z : Int)) := by
  rw [show l ++ [y, z] = (l ++ [y]) ++ [z] by rw [List.append_assoc]; rfl]
  exact last_nv _ _
theorem last_trl {l : List Nat} (h : 2 ≤ l.length) : atI (nv l) (-1) = some (.int ((l.getLastD 0 : Nat) : Int)) := by
  have hne : l ≠ [] := fun e => by rw [e] at h; exact absurd h (by decide)
  have e : l = l.dropLast ++ [l.getLastD 0] := by
    have h1 := List.dropLast_concat_getLast hne
    have h2 := last_get (l := l) (by omega)
    rw [← List.getLast?_eq_getElem?, List.getLast?_eq_some_getLast hne] at h2
    rw [← Option.some.inj h2]; exact h1.symm
  rw [e, show (l.dropLast ++ [l.getLastD 0]).getLastD 0 = l.getLastD 0 by rw [← e]]
  exact last_nv _ _
section
variable {P : Program} {w : World} {K : PySem.W.Frag} {mg : Str → Option Value} {base : Heap}
/-! ### reading -/
/-- the way of a person -/
def spFPath (K : PySem.W.Frag) : Sp := fun vs H Q _ => ∃ (a p : Addr) (fs ps : List Nat) (n x : Nat), vs = [.ref a, .ref p, .int x] ∧ Sq K H a (nv fs) ∧ Sq K H p (nv ps) ∧ IsPair (2 * n) fs ∧ IsPair n ps ∧ x < n ∧ n ≤ 500 ∧
  ∀ (H' : Hp) (t : Addr), Same H H' → H t = none → H' t = some (.lst (nv (trl fs ps n (n + x)))) → Q (.ref t) H'
theorem ok_p_followed_path (T : Env K mg) : FnOk P w K mg base CX0 2 T.f_p_followed_path T.d_p_followed_path ["sheet", "pairing", "person"] (spFPath K) := by
  have G0 : FnOk P w K mg base CX0 1 T.f_p_people_of T.d_p_people_of ["sheet"] (spPeople K) := ok_p_people_of T
  refine T.F_p_followed_path.ok sc_p_followed_path (fun vs H Q E h => ?_) (fun cdv A outer s H vs Q E hr h => ?_)
  · obtain ⟨a, p, fs, ps, n, x, rfl, _⟩ := h
    rfl
  · obtain ⟨a, p, fs, ps, n, x, rfl, ha, hp, hF, hP, hx, hn, q⟩ := h
    refine ⟨_, pss_cons (ps_set (i := 3) sc_p_followed_path.nd rfl (.inl rfl) (pe_call G0 hr (by rfl) T.g_p_people_of T.F_p_people_of.kp T.b_p_people_of .nil pass0 (pa_cons (pv 0) pa_nil))) <|
      pss_cons (ps_set (i := 4) sc_p_followed_path.nd rfl (.inl rfl) (pe_lst (pa_cons (pe_op op_add (pv 3) (pv 2)) (pa_cons (pe_ix ix_seq (pv 0) (pe_op op_add (pv 3) (pv 2)) (fun _ _ => rfl)) pa_nil)))) <|
      pss_cons (ps_while PassesOwn.never (pt_cmpR op_lt (pe_ix ix_list (pv 4) (pe_un un_neg pe_int) (fun _ _ => rfl)) (pv 3) (nomark _))
        (pss_cons (ps_set (i := 5) sc_p_followed_path.nd rfl (.inl rfl) (pe_ix ix_seq (pv 1) (pe_ix ix_list (pv 4) (pe_un un_neg pe_int) (fun _ _ => rfl)) (fun _ _ => rfl))) <|
        pss_cons (ps_expr (pe_bm PySem.F.plainAttrs_list PySem.F.slot_list_append PySem.F.type_list_append mt_append (pv 4) (pa_cons (pv 5) pa_nil))) <|
        pss_one (ps_expr (pe_bm PySem.F.plainAttrs_list PySem.F.slot_list_append PySem.F.type_list_append mt_append (pv 4) (pa_cons (pe_ix ix_seq (pv 0) (pv 5) (fun _ _ => rfl)) pa_nil))))) <|
      pss_one (ps_ret (pv 4)), ?_⟩
    have hl := hF.len
    have c1 : (n : Int) + (x : Int) = ((n + x : Nat) : Int) := by omega
    obtain ⟨d1, _, _, d4⟩ := hF.d (x := n + x) (by omega)
    have a1 : atI (nv fs) ((n : Int) + (x : Int)) = some (.int ((fs.getD (n + x) 0 : Nat) : Int)) := by rw [c1]; exact nv_at d4
    obtain ⟨ht, htl⟩ := trl_trail hF hP (z := n + x) (by omega) (by omega)
    refine ⟨.ref a, rfl, a, fs, n, rfl, ha, hl, ?_⟩
    refine ⟨_, rfl, _, rfl, _, _, rfl, rfl, .ref a, rfl, _, rfl, _, rfl, _, _, rfl, rfl, ix_sq ha a1 ⟨by show 2 ≤ sizeLine; decide, fun e ne => ?_⟩⟩
    have e0 : (upd H e (.lst [.int ((n : Int) + (x : Int)), .int ((fs.getD (n + x) 0 : Nat) : Int)])) e = some (.lst (nv ([] ++ [n + x, fs.getD (n + x) 0]))) := by
      rw [upd_same, c1]; rfl
    refine ⟨fun m σ H' => ∃ (y : Option V) (dn rest : List Nat) (z : Nat), σ = [some (.ref a), some (.ref p), some (.int x), some (.int n), some (.ref e), y] ∧ Same H H' ∧ H' e = some (.lst (nv (dn ++ [z, fs.getD z 0]))) ∧ Trail fs ps n z rest ∧ dn ++ rest = trl fs ps n (n + x) ∧ z < 2 * n ∧ rest.length = m,
      ⟨_, none, [], _, n + x, rfl, same_new ne, e0, ht, rfl, by omega, rfl⟩, fun m σ H' hW => ?_⟩
    obtain ⟨y, dn, rest, z, rfl, sm, ee, tz, et, hz, hm⟩ := hW
    have hlen : dn.length + rest.length ≤ 2 * n + 2 := by
      have := congrArg List.length et
      rw [List.length_append] at this
      omega
    have hr2 := tz.len.1
    refine ⟨.ref e, rfl, 1, rfl, e, _, -1, _, rfl, rfl, .inl (.inl ee), last_nv' _ _ _, _, rfl, _, _, rfl, rfl, _, rfl, ite2 (fun c => ?_) (fun c => ?_)⟩
    · have hc : fs.getD z 0 < n := by have := of_decide_eq_true c; omega
      cases tz with
      | stop h => omega
      | @go _ l _ tz' =>
      obtain ⟨p1, _, _, p4⟩ := hP.d hc
      obtain ⟨f1, _, _, f4⟩ := hF.d (x := ps.getD (fs.getD z 0) 0) (by omega)
      refine ⟨fun σ' H2 => ∃ (y : Option V) (dn rest : List Nat) (z : Nat), σ' = [some (.ref a), some (.ref p), some (.int x), some (.int n), some (.ref e), y] ∧ Same H H2 ∧ H2 e = some (.lst (nv (dn ++ [z, fs.getD z 0]))) ∧ Trail fs ps n z rest ∧ dn ++ rest = trl fs ps n (n + x) ∧ z < 2 * n ∧ rest.length < m,
        fun σ' H2 h2 => ?_, ?_⟩
      · obtain ⟨y', dn', rest', z', g1, g2, g3, g4, g5, g6, g7⟩ := h2
        exact ⟨_, g7, y', dn', rest', z', g1, g2, g3, g4, g5, g6, rfl⟩
      · refine ⟨.ref p, rfl, .ref e, rfl, 1, rfl, e, _, -1, _, rfl, rfl, .inl (.inl ee), last_nv' _ _ _, ix_sq (hp.same sm) (nv_at p4) ?_⟩
        have ls : ∀ {k : Nat} {l : List Nat}, l.length = dn.length + k → k ≤ 4 → (nv l).length < sizeLine := fun {k l} h1 h2 => line_big (by rw [nv_length, h1]; omega)
        refine ⟨.ref e, rfl, .inl ⟨rfl, _, .inl (.inl ee)⟩, _, rfl, e, _, _, rfl, rfl, ee, ls (k := 2) (by rw [List.length_append]; rfl) (by omega), ?_⟩
        have e1 : (upd H' e (.lst (nv (dn ++ [z, fs.getD z 0]) ++ [.int ((ps.getD (fs.getD z 0) 0 : Nat) : Int)]))) e = some (.lst (nv (dn ++ [z, fs.getD z 0] ++ [ps.getD (fs.getD z 0) 0]))) := by rw [upd_same, nv_snoc']
        have s1 : Same H (upd H' e (.lst (nv (dn ++ [z, fs.getD z 0]) ++ [.int ((ps.getD (fs.getD z 0) 0 : Nat) : Int)]))) := fun b o hb => by rw [upd_ne (ne_of_none hb ne)]; exact sm _ _ hb
        revert e1 s1
        generalize upd H' e (.lst (nv (dn ++ [z, fs.getD z 0]) ++ [.int ((ps.getD (fs.getD z 0) 0 : Nat) : Int)])) = H1
        intro e1 s1
        refine ⟨.ref e, rfl, .inl ⟨rfl, _, .inl (.inl e1)⟩, .ref a, rfl, _, rfl, ix_sq (ha.same s1) (nv_at f4) ⟨e, _, _, rfl, rfl, e1, ls (k := 3) (by rw [List.length_append, List.length_append]; rfl) (by omega), ?_⟩⟩
        refine ⟨_, dn ++ [z, fs.getD z 0], l, ps.getD (fs.getD z 0) 0, rfl, fun b o hb => ?_, ?_, tz', ?_, by omega, by rw [← hm]; simp only [List.length_cons]; omega⟩
        · rw [upd_ne (ne_of_none hb ne)]; exact s1 _ _ hb
        · rw [upd_same, nv_snoc', List.append_assoc (dn ++ [z, fs.getD z 0])]; rfl
        · rw [← et, List.append_assoc]; rfl
    · cases tz with
      | go h _ => exact absurd (decide_eq_true (show ((fs.getD z 0 : Nat) : Int) < (n : Int) by omega)) c
      | stop h =>
        rw [et] at ee
        exact ⟨.ref e, rfl, q H' e sm ne ee⟩
/-- result -/
def spResult (K : PySem.W.Frag) : Sp := fun vs H Q _ => ∃ (a p : Addr) (fs ps : List Nat) (n : Nat), vs = [.ref a, .ref p] ∧ Sq K H a (nv fs) ∧ Sq K H p (nv ps) ∧ IsPair (2 * n) fs ∧ IsPair n ps ∧ n ≤ 500 ∧
  ∀ (H' : Hp) (t : Addr), Same H H' → H t = none → H' t = some (.tup (nv (rd fs ps n))) → Q (.ref t) H'
theorem rd_step (fs ps : List Nat) {n i : Nat} (h : i < n) : (rd fs ps n).take (i + 1) = (rd fs ps n).take i ++ [far fs ps n (n + i) - n] := by
  rw [List.take_add_one, rd_get fs ps h]; rfl
theorem ok_p_result (T : Env K mg) : FnOk P w K mg base CX0 3 T.f_p_result T.d_p_result ["sheet", "pairing"] (spResult K) := by
  have G0 : FnOk P w K mg base CX0 1 T.f_p_people_of T.d_p_people_of ["sheet"] (spPeople K) := ok_p_people_of T
  have G1 : FnOk P w K mg base CX0 1 T.f_p_check_sizes T.d_p_check_sizes ["first", "second"] spCheckSizes := ok_p_check_sizes T
  have G2 : FnOk P w K mg base CX0 2 T.f_p_followed_path T.d_p_followed_path ["sheet", "pairing", "person"] (spFPath K) := ok_p_followed_path T
  refine T.F_p_result.ok sc_p_result (fun vs H Q E h => ?_) (fun cdv A outer s H vs Q E hr h => ?_)
  · obtain ⟨a, p, fs, ps, n, rfl, _⟩ := h
    rfl
  · obtain ⟨a, p, fs, ps, n, rfl, ha, hp, hF, hP, hn, q⟩ := h
    have h1 := hr.mono (show 1 ≤ 2 by decide)
    refine ⟨_, pss_cons (ps_set (i := 2) sc_p_result.nd rfl (.inr rfl) (pe_call G0 h1 (by rfl) T.g_p_people_of T.F_p_people_of.kp T.b_p_people_of .nil pass0 (pa_cons (pv 0) pa_nil))) <|
      pss_cons (ps_expr (pe_call G1 h1 (by rfl) T.g_p_check_sizes T.F_p_check_sizes.kp T.b_p_check_sizes .nil pass0 (pa_cons (pv 2) (pa_cons (pe_callB call_len_seq (by rfl) T.n_len PySem.boot_len (pa_cons (pv 1) pa_nil)) pa_nil)))) <|
      pss_one (ps_ret (pe_callTy call_tuple_of (by rfl) T.n_tuple (by decide +kernel) (pa_cons
        (pe_lc (own := [("person", 3)]) (g := gName 3) (tt := tYes) (te := tOp (rI0 fun i j => .int (i - j)) (tOp (rIxL K) (tCall (spFPath K) [] (fun _ _ _ => False) (tCons (tVar 0) (tCons (tVar 1) (tCons (tVar 3) tNil)))) (tUn (rU fun i => .int (-i)) (tC (.int 1)))) (tVar 2)) rfl sc_p_result.nd
          (pi_range1 (by rfl) T.n_range (pa_cons (pv 2) pa_nil)) (blkOk_by (N := N_p_result) (sc := defScope s_p_result) (by decide +kernel)) (fun _ _ _ _ _ => pg_name (i := 3) sc_p_result.nd rfl (.inl rfl)) (fun _ _ _ _ _ => pts_nil)
          (fun _ _ _ _ _ => pe_op op_sub (pe_ix ix_list (pe_call G2 hr (by rfl) T.g_p_followed_path T.F_p_followed_path.kp T.b_p_followed_path .nil pass0 (pa_cons (pv 0) (pa_cons (pv 1) (pa_cons (pv 3) pa_nil)))) (pe_un un_neg pe_int) (fun _ _ => rfl)) (pv 2))) pa_nil))), ?_⟩
    have hl := hF.len
    have hlp : ((nv ps).length : Int) = (n : Nat) := by rw [nv_length, hP.len]
    refine ⟨.ref a, rfl, a, fs, n, rfl, ha, hl, ?_⟩
    refine ⟨_, rfl, .ref p, rfl, p, _, rfl, hp, n, ?_, ?_⟩
    · show [V.int (n : Int), V.int ((nv ps).length : Int)] = _
      rw [hlp]
    refine ⟨_, rfl, _, rfl, by omega, by omega, fun D nD => ?_⟩
    rw [show ((n : Int)).toNat = n by omega]
    refine lc_range (n := n) (fun i H' => Same H H' ∧ H' D = some (.lst (nv ((rd fs ps n).take i)))) ⟨same_new nD, upd_same⟩ (fun i H1 hi hPv => ?_) (fun H1 hPv => ?_)
    · obtain ⟨sm, eD⟩ := hPv
      refine ⟨rfl, yes_if ⟨.ref a, rfl, .ref p, rfl, _, rfl, a, p, fs, ps, n, i, ?_, ha.same sm, hp.same sm, hF, hP, hi, hn, fun H2 t s2 nt et => ?_⟩⟩
      · show [V.ref a, V.ref p, V.int ((0 : Int) + (i : Nat))] = _
        rw [Int.zero_add]
      obtain ⟨tt, _⟩ := trl_trail hF hP (z := n + i) (by omega) (by omega)
      have hf := far_d hF hP (z := n + i) (by omega) (by omega)
      refine ⟨1, rfl, t, _, -1, _, rfl, rfl, .inl (.inl et), last_trl tt.len.1, _, rfl, _, _, rfl, rfl, _, s2 _ _ eD, line_big (by rw [nv_length, List.length_take, rd_len]; omega), fun b o hb => ?_, ?_⟩
      · rw [upd_ne (ne_of_none hb nD)]; exact s2 _ _ (sm _ _ hb)
      · rw [upd_same, rd_step fs ps hi, ← nv_snoc']
        show some (HO.lst (nv ((rd fs ps n).take i) ++ [V.int (((far fs ps n (n + i) : Nat) : Int) - (n : Int))])) = _
        rw [show ((far fs ps n (n + i) : Nat) : Int) - (n : Int) = ((far fs ps n (n + i) - n : Nat) : Int) by omega]
    · obtain ⟨s1, eD⟩ := hPv
      rw [List.take_of_length_le (Nat.le_of_eq (rd_len fs ps n))] at eD
      exact ⟨D, _, rfl, .inl ⟨.inl (.inl eD), fun t nt => q _ t (s1.trans (same_new nt)) (s1.free nt) upd_same⟩⟩
end
end Pc
namespace Pc
open PySem PySem.Spec PyProof.Rows L2 RZ
section
variable {P : Program} {w : World} {K : PySem.W.Frag} {mg : Str → Option Value} {base : Heap}
/-! ### words with somebody who is not there -/
def spWithWordX (K : PySem.W.Frag) (C : Addr) : Sp := fun vs H _ E => ∃ (a wd : Addr) (fs : List Nat) (us : List V) (qs : List (Int × Int)) (n : Nat) (x : Int), vs = [.ref a, .ref wd] ∧ Sq K H a (nv fs) ∧ fs.length = 2 * n ∧ Sq K H wd us ∧ ItemsZ K H us qs ∧ badW n qs = some x ∧ Flies C "person" (.int x) H E
theorem okx_p_with_word (T : Env K mg) : FnOk P w K mg base (L2.CX P w) 6 T.f_p_with_word T.d_p_with_word ["sheet", "word"] (spWithWordX K T.C_NoPerson) := by
  have G0 : FnOk P w K mg base CX0 1 T.f_p_people_of T.d_p_people_of ["sheet"] (spPeople K) := ok_p_people_of T
  have G1 : FnOk P w K mg base (L2.CX P w) 5 T.f_p_check_word T.d_p_check_word ["size", "word"] (spWordE K T.C_NoPerson) := oke_p_check_word T
  refine T.F_p_with_word.okX sc_p_with_word (fun vs H Q E h => ?_) (fun cdv A outer s H vs Q E hr h => ?_)
  · obtain ⟨a, wd, fs, us, qs, n, x, rfl, _⟩ := h
    rfl
  · obtain ⟨a, wd, fs, us, qs, n, x, rfl, ha, hl, hw, hI, hb, hF⟩ := h
    refine ⟨_, pss_cons (ps_set (i := 2) sc_p_with_word.nd rfl (.inl rfl) (pe_call G0 (hr.mono (by decide)) (by rfl) T.g_p_people_of T.F_p_people_of.kp T.b_p_people_of .nil pass0 (pa_cons (pv 0) pa_nil))) <|
      pss_cons (ps_expr (pe_callS G1 hr (by rfl) T.g_p_check_word T.F_p_check_word.kp T.b_p_check_word (fun σ => passAt (takes_of rfl rfl rfl rfl) σ) (pa_cons (pv 2) (pa_cons (pv 1) pa_nil)))) pss_never, ?_⟩
    exact ⟨.ref a, rfl, a, fs, n, rfl, ha, hl, _, rfl, .ref wd, rfl, n, wd, us, qs, rfl, hw, hI, by rw [hb]; exact hF⟩
def spSheetOfX (K : PySem.W.Frag) (C : Addr) : Sp := fun vs H _ E => ∃ (n : Nat) (wd : Addr) (us : List V) (qs : List (Int × Int)) (x : Int), vs = [.int n, .ref wd] ∧ 0 < n ∧ n ≤ 1000 ∧ Sq K H wd us ∧ ItemsZ K H us qs ∧ badW n qs = some x ∧ Flies C "person" (.int x) H E
theorem okx_p_sheet_of (T : Env K mg) : FnOk P w K mg base (L2.CX P w) 7 T.f_p_sheet_of T.d_p_sheet_of ["size", "word"] (spSheetOfX K T.C_NoPerson) := by
  have G0 : FnOk P w K mg base CX0 1 T.f_p_empty_sheet T.d_p_empty_sheet ["size"] spEmpty := ok_p_empty_sheet T
  have G1 : FnOk P w K mg base (L2.CX P w) 6 T.f_p_with_word T.d_p_with_word ["sheet", "word"] (spWithWordX K T.C_NoPerson) := okx_p_with_word T
  refine T.F_p_sheet_of.okX sc_p_sheet_of (fun vs H Q E h => ?_) (fun cdv A outer s H vs Q E hr h => ?_)
  · obtain ⟨n, wd, us, qs, x, rfl, _⟩ := h
    rfl
  · obtain ⟨n, wd, us, qs, x, rfl, h0, hn, hw, hI, hb, hF⟩ := h
    refine ⟨_, pss_one (ps_ret (pe_callS G1 hr (by rfl) T.g_p_with_word T.F_p_with_word.kp T.b_p_with_word (fun σ => passAt (takes_of rfl rfl rfl rfl) σ) (pa_cons (pe_call G0 (hr.mono (by decide)) (by rfl) T.g_p_empty_sheet T.F_p_empty_sheet.kp T.b_p_empty_sheet .nil pass0 (pa_cons (pv 0) pa_nil)) (pa_cons (pv 1) pa_nil)))), ?_⟩
    refine ⟨_, rfl, n, rfl, hn, fun H1 t s1 nt et => ?_⟩
    exact ⟨.ref wd, rfl, t, wd, emp n, us, qs, n, x, rfl, .inr (.inl (.inl et)), (emp_pair h0).len, hw.same s1, hI.same s1, hb, hF.same s1⟩
def spWdX (K : PySem.W.Frag) (C : Addr) : Sp := fun vs H _ E => ∃ (p wd : Addr) (ps : List Nat) (us : List V) (qs : List (Int × Int)) (n : Nat) (x : Int), vs = [.ref p, .ref wd] ∧ Sq K H p (nv ps) ∧ ps.length = n ∧ Sq K H wd us ∧ ItemsZ K H us qs ∧ badW n qs = some x ∧ Flies C "person" (.int x) H E
theorem okx_p_called_all (T : Env K mg) : FnOk P w K mg base (L2.CX P w) 6 T.f_p_called_all T.d_p_called_all ["pairing", "word"] (spWdX K T.C_NoPerson) := by
  have G1 : FnOk P w K mg base (L2.CX P w) 5 T.f_p_check_word T.d_p_check_word ["size", "word"] (spWordE K T.C_NoPerson) := oke_p_check_word T
  refine T.F_p_called_all.okX sc_p_called_all (fun vs H Q E h => ?_) (fun cdv A outer s H vs Q E hr h => ?_)
  · obtain ⟨p, wd, ps, us, qs, n, x, rfl, _⟩ := h
    rfl
  · obtain ⟨p, wd, ps, us, qs, n, x, rfl, hp, hl, hw, hI, hb, hF⟩ := h
    refine ⟨_, pss_cons (ps_expr (pe_callS G1 hr (by rfl) T.g_p_check_word T.F_p_check_word.kp T.b_p_check_word (fun σ => passAt (takes_of rfl rfl rfl rfl) σ) (pa_cons (pe_callB call_len_seq (by rfl) T.n_len PySem.boot_len (pa_cons (pv 0) pa_nil)) (pa_cons (pv 1) pa_nil)))) pss_never, ?_⟩
    exact ⟨.ref p, rfl, p, _, rfl, hp, .ref wd, rfl, n, wd, us, qs, (by rw [nv_length, hl]), hw, hI, by rw [hb]; exact hF⟩
theorem okx_p_pairings_along (T : Env K mg) : FnOk P w K mg base (L2.CX P w) 6 T.f_p_pairings_along T.d_p_pairings_along ["pairing", "word"] (spWdX K T.C_NoPerson) := by
  have G1 : FnOk P w K mg base (L2.CX P w) 5 T.f_p_check_word T.d_p_check_word ["size", "word"] (spWordE K T.C_NoPerson) := oke_p_check_word T
  refine T.F_p_pairings_along.okX sc_p_pairings_along (fun vs H Q E h => ?_) (fun cdv A outer s H vs Q E hr h => ?_)
  · obtain ⟨p, wd, ps, us, qs, n, x, rfl, _⟩ := h
    rfl
  · obtain ⟨p, wd, ps, us, qs, n, x, rfl, hp, hl, hw, hI, hb, hF⟩ := h
    refine ⟨_, pss_cons (ps_expr (pe_callS G1 hr (by rfl) T.g_p_check_word T.F_p_check_word.kp T.b_p_check_word (fun σ => passAt (takes_of rfl rfl rfl rfl) σ) (pa_cons (pe_callB call_len_seq (by rfl) T.n_len PySem.boot_len (pa_cons (pv 0) pa_nil)) (pa_cons (pv 1) pa_nil)))) pss_never, ?_⟩
    exact ⟨.ref p, rfl, p, _, rfl, hp, .ref wd, rfl, n, wd, us, qs, (by rw [nv_length, hl]), hw, hI, by rw [hb]; exact hF⟩
theorem okx_p_idle_calls (T : Env K mg) : FnOk P w K mg base (L2.CX P w) 6 T.f_p_idle_calls T.d_p_idle_calls ["pairing", "word"] (spWdX K T.C_NoPerson) := by
  have G1 : FnOk P w K mg base (L2.CX P w) 5 T.f_p_check_word T.d_p_check_word ["size", "word"] (spWordE K T.C_NoPerson) := oke_p_check_word T
  refine T.F_p_idle_calls.okX sc_p_idle_calls (fun vs H Q E h => ?_) (fun cdv A outer s H vs Q E hr h => ?_)
  · obtain ⟨p, wd, ps, us, qs, n, x, rfl, _⟩ := h
    rfl
  · obtain ⟨p, wd, ps, us, qs, n, x, rfl, hp, hl, hw, hI, hb, hF⟩ := h
    refine ⟨_, pss_cons (ps_expr (pe_callS G1 hr (by rfl) T.g_p_check_word T.F_p_check_word.kp T.b_p_check_word (fun σ => passAt (takes_of rfl rfl rfl rfl) σ) (pa_cons (pe_callB call_len_seq (by rfl) T.n_len PySem.boot_len (pa_cons (pv 0) pa_nil)) (pa_cons (pv 1) pa_nil)))) pss_never, ?_⟩
    exact ⟨.ref p, rfl, p, _, rfl, hp, .ref wd, rfl, n, wd, us, qs, (by rw [nv_length, hl]), hw, hI, by rw [hb]; exact hF⟩
theorem itemsZ_one {H : Hp} {c : Addr} {y z : Int} (h : Sq K H c [.int y, .int z]) : ItemsZ K H [.ref c] [(y, z)] := ⟨rfl, fun i v hv => by
  have hi : i < 1 := get_lt hv
  obtain rfl : i = 0 := by omega
  exact ⟨c, _, (Option.some.inj hv).symm, rfl, h⟩⟩
theorem badW_hit {n : Int} {p : Int × Int} {x : Int} {rs : List (Int × Int)} (h : badP n p = some x) : badW n (p :: rs) = some x := by
  show (match badP n p with | some u => some u | none => badW n rs) = some x
  rw [h]
def spCdX (K : PySem.W.Frag) (C : Addr) : Sp := fun vs H _ E => ∃ (p c : Addr) (ps : List Nat) (n : Nat) (y z x : Int), vs = [.ref p, .ref c] ∧ Sq K H p (nv ps) ∧ ps.length = n ∧ Sq K H c [.int y, .int z] ∧ badP n (y, z) = some x ∧ Flies C "person" (.int x) H E
theorem okx_p_called (T : Env K mg) : FnOk P w K mg base (L2.CX P w) 7 T.f_p_called T.d_p_called ["pairing", "call"] (spCdX K T.C_NoPerson) := by
  have G1 : FnOk P w K mg base (L2.CX P w) 6 T.f_p_called_all T.d_p_called_all ["pairing", "word"] (spWdX K T.C_NoPerson) := okx_p_called_all T
  refine T.F_p_called.okX sc_p_called (fun vs H Q E h => ?_) (fun cdv A outer s H vs Q E hr h => ?_)
  · obtain ⟨p, c, ps, n, y, z, x, rfl, _⟩ := h
    rfl
  · obtain ⟨p, c, ps, n, y, z, x, rfl, hp, hl, hc, hb, hF⟩ := h
    refine ⟨_, pss_one (ps_ret (pe_callS G1 hr (by rfl) T.g_p_called_all T.F_p_called_all.kp T.b_p_called_all (fun σ => passAt (takes_of rfl rfl rfl rfl) σ) (pa_cons (pv 0) (pa_cons (pe_lst (pa_cons (pv 1) pa_nil)) pa_nil)))), ?_⟩
    refine ⟨.ref p, rfl, .ref c, rfl, (by show 1 ≤ sizeLine; decide), fun l nl => ?_⟩
    have sm : Same H (upd H l (.lst [.ref c])) := same_new nl
    exact ⟨p, l, ps, _, [(y, z)], n, x, rfl, hp.same sm, hl, .inl (.inl (.inl upd_same)), itemsZ_one (hc.same sm), badW_hit hb, hF.same sm⟩
def spWcX (K : PySem.W.Frag) (C : Addr) : Sp := fun vs H _ E => ∃ (p c : Addr) (ps : List Nat) (n : Nat) (y z x : Int), vs = [.ref p, .ref c] ∧ Sq K H p (nv ps) ∧ ps.length = 2 * n ∧ Sq K H c [.int y, .int z] ∧ badP n (y, z) = some x ∧ Flies C "person" (.int x) H E
theorem okx_p_with_call (T : Env K mg) : FnOk P w K mg base (L2.CX P w) 7 T.f_p_with_call T.d_p_with_call ["sheet", "call"] (spWcX K T.C_NoPerson) := by
  have G1 : FnOk P w K mg base (L2.CX P w) 6 T.f_p_with_word T.d_p_with_word ["sheet", "word"] (spWithWordX K T.C_NoPerson) := okx_p_with_word T
  refine T.F_p_with_call.okX sc_p_with_call (fun vs H Q E h => ?_) (fun cdv A outer s H vs Q E hr h => ?_)
  · obtain ⟨p, c, ps, n, y, z, x, rfl, _⟩ := h
    rfl
  · obtain ⟨p, c, ps, n, y, z, x, rfl, hp, hl, hc, hb, hF⟩ := h
    refine ⟨_, pss_one (ps_ret (pe_callS G1 hr (by rfl) T.g_p_with_word T.F_p_with_word.kp T.b_p_with_word (fun σ => passAt (takes_of rfl rfl rfl rfl) σ) (pa_cons (pv 0) (pa_cons (pe_lst (pa_cons (pv 1) pa_nil)) pa_nil)))), ?_⟩
    refine ⟨.ref p, rfl, .ref c, rfl, (by show 1 ≤ sizeLine; decide), fun l nl => ?_⟩
    have sm : Same H (upd H l (.lst [.ref c])) := same_new nl
    exact ⟨p, l, ps, _, [(y, z)], n, x, rfl, hp.same sm, hl, .inl (.inl (.inl upd_same)), itemsZ_one (hc.same sm), badW_hit hb, hF.same sm⟩
end
end Pc
namespace Pc
open PySem PySem.Spec PyProof.Rows L2 RZ
section
variable {P : Program} {w : World} {K : PySem.W.Frag} {mg : Str → Option Value} {base : Heap}
/-! ### words with somebody who is not there -/
def spRepeated (K : PySem.W.Frag) : Sp := fun vs H Q _ => ∃ (p wd : Addr) (ps : List Nat) (us : List V) (qs : List (Nat × Nat)) (n k : Nat), vs = [.ref p, .ref wd, .int k] ∧ Sq K H p (nv ps) ∧ IsPair n ps ∧ 0 < n ∧ n ≤ 500 ∧ Sq K H wd us ∧ Items K H us qs ∧ Calls n qs ∧
  ∀ (H' : Hp) (t : Addr), Same H H' → H t = none → H' t = some (.tup (nv (rd (pw (shw n qs (emp n)) n k) ps n))) → Q (.ref t) H'
theorem ok_p_repeated (T : Env K mg) : FnOk P w K mg base CX0 6 T.f_p_repeated T.d_p_repeated ["pairing", "word", "many"] (spRepeated K) := by
  have G0 : FnOk P w K mg base CX0 5 T.f_p_sheet_of T.d_p_sheet_of ["size", "word"] (spPSheetOf K) := ok_p_sheet_of T
  have G1 : FnOk P w K mg base CX0 4 T.f_p_times T.d_p_times ["sheet", "many"] (spTimes K) := ok_p_times T
  have G2 : FnOk P w K mg base CX0 3 T.f_p_result T.d_p_result ["sheet", "pairing"] (spResult K) := ok_p_result T
  refine T.F_p_repeated.ok sc_p_repeated (fun vs H Q E h => ?_) (fun cdv A outer s H vs Q E hr h => ?_)
  · obtain ⟨p, wd, ps, us, qs, n, k, rfl, _⟩ := h
    rfl
  · obtain ⟨p, wd, ps, us, qs, n, k, rfl, hp, hP, h0, hn, hw, hI, hc, q⟩ := h
    refine ⟨_, pss_one (ps_ret (pe_call G2 (hr.mono (by decide)) (by rfl) T.g_p_result T.F_p_result.kp T.b_p_result .nil pass0 (pa_cons (pe_call G1 (hr.mono (by decide)) (by rfl) T.g_p_times T.F_p_times.kp T.b_p_times .nil pass0 (pa_cons (pe_call G0 hr (by rfl) T.g_p_sheet_of T.F_p_sheet_of.kp T.b_p_sheet_of .nil pass0 (pa_cons (pe_callB call_len_seq (by rfl) T.n_len PySem.boot_len (pa_cons (pv 0) pa_nil)) (pa_cons (pv 1) pa_nil))) (pa_cons (pv 2) pa_nil))) (pa_cons (pv 0) pa_nil)))), ?_⟩
    refine ⟨.ref p, rfl, p, _, rfl, hp, .ref wd, rfl, n, wd, us, qs, ?_, hw, hI, hc, h0, by omega, fun H1 t1 s1 n1 e1 => ?_⟩
    · rw [nv_length, hP.len]; rfl
    have hS := shw_pair (emp_pair h0) hc
    refine ⟨.int k, rfl, t1, _, n, k, rfl, .inr (.inl (.inl e1)), hS, h0, hn, fun H2 t2 s2 n2 e2 => ?_⟩
    refine ⟨.ref p, rfl, t2, p, _, ps, n, rfl, .inr (.inl (.inl e2)), (hp.same s1).same s2, pw_pair h0 hS k, hP, hn, fun H3 t3 s3 n3 e3 => ?_⟩
    exact q H3 t3 ((s1.trans s2).trans s3) ((s1.trans s2).free n3) e3
/-! ### the four doors -/
def spRepX (K : PySem.W.Frag) (C : Addr) : Sp := fun vs H _ E => ∃ (p wd : Addr) (ps : List Nat) (us : List V) (qs : List (Int × Int)) (n : Nat) (x k : Int), vs = [.ref p, .ref wd, .int k] ∧ Sq K H p (nv ps) ∧ ps.length = n ∧ 0 < n ∧ n ≤ 500 ∧ Sq K H wd us ∧ ItemsZ K H us qs ∧ badW n qs = some x ∧ Flies C "person" (.int x) H E
theorem okx_p_repeated (T : Env K mg) : FnOk P w K mg base (L2.CX P w) 8 T.f_p_repeated T.d_p_repeated ["pairing", "word", "many"] (spRepX K T.C_NoPerson) := by
  have G0 : FnOk P w K mg base (L2.CX P w) 7 T.f_p_sheet_of T.d_p_sheet_of ["size", "word"] (spSheetOfX K T.C_NoPerson) := okx_p_sheet_of T
  have G1 : FnOk P w K mg base CX0 4 T.f_p_times T.d_p_times ["sheet", "many"] (spTimes K) := ok_p_times T
  have G2 : FnOk P w K mg base CX0 3 T.f_p_result T.d_p_result ["sheet", "pairing"] (spResult K) := ok_p_result T
  refine T.F_p_repeated.okX sc_p_repeated (fun vs H Q E h => ?_) (fun cdv A outer s H vs Q E hr h => ?_)
  · obtain ⟨p, wd, ps, us, qs, n, x, k, rfl, _⟩ := h
    rfl
  · obtain ⟨p, wd, ps, us, qs, n, x, k, rfl, hp, hl, h0, hn, hw, hI, hb, hF⟩ := h
    refine ⟨_, pss_one (ps_ret (pe_call G2 (hr.mono (by decide)) (by rfl) T.g_p_result T.F_p_result.kp T.b_p_result .nil pass0 (pa_cons (pe_call G1 (hr.mono (by decide)) (by rfl) T.g_p_times T.F_p_times.kp T.b_p_times .nil pass0 (pa_cons (pe_callS G0 hr (by rfl) T.g_p_sheet_of T.F_p_sheet_of.kp T.b_p_sheet_of (fun σ => passAt (takes_of rfl rfl rfl rfl) σ) (pa_cons (pe_callB call_len_seq (by rfl) T.n_len PySem.boot_len (pa_cons (pv 0) pa_nil)) (pa_cons (pv 1) pa_nil))) (pa_cons (pv 2) pa_nil))) (pa_cons (pv 0) pa_nil)))), ?_⟩
    refine ⟨.ref p, rfl, p, _, rfl, hp, .ref wd, rfl, n, wd, us, qs, x, ?_, h0, by omega, hw, hI, hb, hF⟩
    rw [nv_length, hl]
def spSettX (K : PySem.W.Frag) (C : Addr) : Sp := fun vs H _ E => ∃ (p wd : Addr) (ps : List Nat) (us : List V) (qs : List (Int × Int)) (n : Nat) (x : Int), vs = [.ref p, .ref wd] ∧ Sq K H p (nv ps) ∧ ps.length = n ∧ 0 < n ∧ n ≤ 500 ∧ Sq K H wd us ∧ ItemsZ K H us qs ∧ badW n qs = some x ∧ Flies C "person" (.int x) H E
theorem okx_p_settles (T : Env K mg) : FnOk P w K mg base (L2.CX P w) 8 T.f_p_settles T.d_p_settles ["pairing", "word"] (spSettX K T.C_NoPerson) := by
  have G0 : FnOk P w K mg base (L2.CX P w) 7 T.f_p_sheet_of T.d_p_sheet_of ["size", "word"] (spSheetOfX K T.C_NoPerson) := okx_p_sheet_of T
  refine T.F_p_settles.okX sc_p_settles (fun vs H Q E h => ?_) (fun cdv A outer s H vs Q E hr h => ?_)
  · obtain ⟨p, wd, ps, us, qs, n, x, rfl, _⟩ := h
    rfl
  · obtain ⟨p, wd, ps, us, qs, n, x, rfl, hp, hl, h0, hn, hw, hI, hb, hF⟩ := h
    refine ⟨_, pss_cons (ps_set (i := 2) sc_p_settles.nd rfl (.inl rfl) (pe_callS G0 hr (by rfl) T.g_p_sheet_of T.F_p_sheet_of.kp T.b_p_sheet_of (fun σ => passAt (takes_of rfl rfl rfl rfl) σ) (pa_cons (pe_callB call_len_seq (by rfl) T.n_len PySem.boot_len (pa_cons (pv 0) pa_nil)) (pa_cons (pv 1) pa_nil)))) pss_never, ?_⟩
    refine ⟨.ref p, rfl, p, _, rfl, hp, .ref wd, rfl, n, wd, us, qs, x, ?_, h0, by omega, hw, hI, hb, hF⟩
    rw [nv_length, hl]
theorem okx_p_sheet_settles (T : Env K mg) : FnOk P w K mg base (L2.CX P w) 8 T.f_p_sheet_settles T.d_p_sheet_settles ["size", "word"] (spSheetOfX K T.C_NoPerson) := by
  have G0 : FnOk P w K mg base (L2.CX P w) 7 T.f_p_sheet_of T.d_p_sheet_of ["size", "word"] (spSheetOfX K T.C_NoPerson) := okx_p_sheet_of T
  refine T.F_p_sheet_settles.okX sc_p_sheet_settles (fun vs H Q E h => ?_) (fun cdv A outer s H vs Q E hr h => ?_)
  · obtain ⟨n, wd, us, qs, x, rfl, _⟩ := h
    rfl
  · obtain ⟨n, wd, us, qs, x, rfl, h0, hn, hw, hI, hb, hF⟩ := h
    refine ⟨_, pss_cons (ps_set (i := 2) sc_p_sheet_settles.nd rfl (.inl rfl) (pe_callS G0 hr (by rfl) T.g_p_sheet_of T.F_p_sheet_of.kp T.b_p_sheet_of (fun σ => passAt (takes_of rfl rfl rfl rfl) σ) (pa_cons (pv 0) (pa_cons (pv 1) pa_nil)))) pss_never, ?_⟩
    exact ⟨_, rfl, .ref wd, rfl, n, wd, us, qs, x, rfl, h0, hn, hw, hI, hb, hF⟩
def spFirstX (K : PySem.W.Frag) (C : Addr) : Sp := fun vs H _ E => ∃ (p wd : Addr) (ps : List Nat) (us : List V) (qs : List (Int × Int)) (n : Nat) (x u v : Int), vs = [.ref p, .ref wd, .int u, .int v] ∧ Sq K H p (nv ps) ∧ ps.length = n ∧ 0 < n ∧ n ≤ 500 ∧ Sq K H wd us ∧ ItemsZ K H us qs ∧ badW n qs = some x ∧ Flies C "person" (.int x) H E
theorem okx_p_first_time (T : Env K mg) : FnOk P w K mg base (L2.CX P w) 8 T.f_p_first_time T.d_p_first_time ["pairing", "word", "person", "partner"] (spFirstX K T.C_NoPerson) := by
  have G0 : FnOk P w K mg base (L2.CX P w) 7 T.f_p_sheet_of T.d_p_sheet_of ["size", "word"] (spSheetOfX K T.C_NoPerson) := okx_p_sheet_of T
  refine T.F_p_first_time.okX sc_p_first_time (fun vs H Q E h => ?_) (fun cdv A outer s H vs Q E hr h => ?_)
  · obtain ⟨p, wd, ps, us, qs, n, x, u, v, rfl, _⟩ := h
    rfl
  · obtain ⟨p, wd, ps, us, qs, n, x, u, v, rfl, hp, hl, h0, hn, hw, hI, hb, hF⟩ := h
    refine ⟨_, pss_cons (ps_set (i := 4) sc_p_first_time.nd rfl (.inl rfl) (pe_callB call_len_seq (by rfl) T.n_len PySem.boot_len (pa_cons (pv 0) pa_nil))) <|
      pss_cons (ps_set (i := 5) sc_p_first_time.nd rfl (.inl rfl) (pe_callS G0 hr (by rfl) T.g_p_sheet_of T.F_p_sheet_of.kp T.b_p_sheet_of (fun σ => passAt (takes_of rfl rfl rfl rfl) σ) (pa_cons (pv 4) (pa_cons (pv 1) pa_nil)))) pss_never, ?_⟩
    refine ⟨.ref p, rfl, p, _, rfl, hp, ?_⟩
    refine ⟨_, rfl, .ref wd, rfl, n, wd, us, qs, x, ?_, h0, by omega, hw, hI, hb, hF⟩
    rw [nv_length, hl]
def spFirstY (K : PySem.W.Frag) (C : Addr) : Sp := fun vs H _ E => ∃ (p wd : Addr) (ps : List Nat) (us : List V) (qs : List (Nat × Nat)) (n : Nat) (x u v : Int), vs = [.ref p, .ref wd, .int u, .int v] ∧ Sq K H p (nv ps) ∧ ps.length = n ∧ 0 < n ∧ n ≤ 500 ∧ Sq K H wd us ∧ Items K H us qs ∧ Calls n qs ∧ badP n (u, v) = some x ∧ Flies C "person" (.int x) H E
theorem oky_p_first_time (T : Env K mg) : FnOk P w K mg base (L2.CX P w) 8 T.f_p_first_time T.d_p_first_time ["pairing", "word", "person", "partner"] (spFirstY K T.C_NoPerson) := by
  have G0 : FnOk P w K mg base CX0 5 T.f_p_sheet_of T.d_p_sheet_of ["size", "word"] (spPSheetOf K) := ok_p_sheet_of T
  have G1 : FnOk P w K mg base (L2.CX P w) 7 T.f_p_check_person T.d_p_check_person ["size", "person"] (spPersonE T.C_NoPerson) := (oke_p_check_person T).mono (by decide)
  refine T.F_p_first_time.okX sc_p_first_time (fun vs H Q E h => ?_) (fun cdv A outer s H vs Q E hr h => ?_)
  · obtain ⟨p, wd, ps, us, qs, n, x, u, v, rfl, _⟩ := h
    rfl
  · obtain ⟨p, wd, ps, us, qs, n, x, u, v, rfl, hp, hl, h0, hn, hw, hI, hc, hb, hF⟩ := h
    refine ⟨_, pss_cons (ps_set (i := 4) sc_p_first_time.nd rfl (.inl rfl) (pe_callB call_len_seq (by rfl) T.n_len PySem.boot_len (pa_cons (pv 0) pa_nil))) <|
      pss_cons (ps_set (i := 5) sc_p_first_time.nd rfl (.inl rfl) (pe_call G0 (hr.mono (by decide)) (by rfl) T.g_p_sheet_of T.F_p_sheet_of.kp T.b_p_sheet_of .nil pass0 (pa_cons (pv 4) (pa_cons (pv 1) pa_nil)))) <|
      pss_cons (ps_expr (pe_callS G1 hr (by rfl) T.g_p_check_person T.F_p_check_person.kp T.b_p_check_person (fun σ => passAt (takes_of rfl rfl rfl rfl) σ) (pa_cons (pv 4) (pa_cons (pv 2) pa_nil)))) <|
      pss_cons (ps_expr (pe_callS G1 hr (by rfl) T.g_p_check_person T.F_p_check_person.kp T.b_p_check_person (fun σ => passAt (takes_of rfl rfl rfl rfl) σ) (pa_cons (pv 4) (pa_cons (pv 3) pa_nil)))) pss_never, ?_⟩
    refine ⟨.ref p, rfl, p, _, rfl, hp, ?_⟩
    rw [nv_length, hl]
    refine ⟨_, rfl, .ref wd, rfl, n, wd, us, qs, rfl, hw, hI, hc, h0, by omega, fun H1 t1 s1 n1 e1 => ?_⟩
    replace hF := hF.same s1
    unfold badP at hb
    refine ⟨_, rfl, _, rfl, n, u, rfl, ?_⟩
    by_cases c1 : outP (n : Int) u = true
    · rw [if_pos c1] at hb ⊢
      cases Option.some.inj hb
      exact hF
    · rw [if_neg c1] at hb ⊢
      refine ⟨_, rfl, _, rfl, n, v, rfl, ?_⟩
      by_cases c2 : outP (n : Int) v = true
      · rw [if_pos c2] at hb ⊢
        cases Option.some.inj hb
        exact hF
      · rw [if_neg c2] at hb
        cases hb
end
end Pc
namespace Pc
open PySem PySem.Spec PyProof.Rows L2 RZ
section
variable {P : Program} {w : World} {K : PySem.W.Frag} {mg : Str → Option Value} {base : Heap}
def spPartnersX (K : PySem.W.Frag) (C : Addr) : Sp := fun vs H _ E => ∃ (a : Addr) (f : List Nat) (n : Nat) (u : Int), vs = [.ref a, .int u] ∧ Sq K H a (nv f) ∧ IsPair (2 * n) f ∧ ¬ (0 ≤ u ∧ u < n) ∧ Flies C "person" (.int u) H E
theorem okx_p_partners_of (T : Env K mg) : FnOk P w K mg base (L2.CX P w) 4 T.f_p_partners_of T.d_p_partners_of ["sheet", "person"] (spPartnersX K T.C_NoPerson) := by
  have G0 : FnOk P w K mg base CX0 1 T.f_p_people_of T.d_p_people_of ["sheet"] (spPeople K) := ok_p_people_of T
  have G1 : FnOk P w K mg base (L2.CX P w) 3 T.f_p_check_person T.d_p_check_person ["size", "person"] (spPersonX T.C_NoPerson) := okx_p_check_person T
  refine T.F_p_partners_of.okX sc_p_partners_of (fun vs H Q E h => ?_) (fun cdv A outer s H vs Q E hr h => ?_)
  · obtain ⟨a, f, n, u, rfl, _⟩ := h
    rfl
  · obtain ⟨a, f, n, u, rfl, ha, hf, hu, hF⟩ := h
    refine ⟨_, pss_cons (ps_set (i := 2) sc_p_partners_of.nd rfl (.inl rfl) (pe_call G0 (hr.mono (by decide)) (by rfl) T.g_p_people_of T.F_p_people_of.kp T.b_p_people_of .nil pass0 (pa_cons (pv 0) pa_nil))) <|
      pss_cons (ps_expr (pe_callS G1 hr (by rfl) T.g_p_check_person T.F_p_check_person.kp T.b_p_check_person (fun σ => passAt (takes_of rfl rfl rfl rfl) σ) (pa_cons (pv 2) (pa_cons (pv 1) pa_nil)))) pss_never, ?_⟩
    exact ⟨_, rfl, a, f, n, rfl, ha, hf.len, _, rfl, _, rfl, n, u, rfl, hu, hF⟩
/-! ### who is missing -/
end
end Pc
namespace Pc
open PySem PySem.Spec PyProof.Rows L2 RZ
section
variable {P : Program} {w : World} {K : PySem.W.Frag} {mg : Str → Option Value} {base : Heap}
/-! ### a path of nobody -/
def OP (K : PySem.W.Frag) (C : Addr) (a b : Addr) (u : Int) (H : Hp) (E : XK) : Prop := ∃ (f g : List Nat) (n : Nat), Sq K H a (nv f) ∧ f.length = 2 * n ∧ Sq K H b (nv g) ∧ g.length = n ∧ ¬ (0 ≤ u ∧ u < n) ∧ Flies C "person" (.int u) H E
theorem OP.same {C a b : Addr} {u : Int} {H H' : Hp} {E : XK} (h : OP K C a b u H E) (s : Same H H') : OP K C a b u H' E := by
  obtain ⟨f, g, n, ha, hf, hb, hg, hu, hF⟩ := h
  exact ⟨f, g, n, ha.same s, hf, hb.same s, hg, hu, hF.same s⟩
def spP3 (K : PySem.W.Frag) (C : Addr) : Sp := fun vs H _ E => ∃ (a b : Addr) (u : Int), vs = [.ref a, .ref b, .int u] ∧ OP K C a b u H E
def spP4 (K : PySem.W.Frag) (C : Addr) : Sp := fun vs H _ E => ∃ (a b : Addr) (u : Int) (v : V), vs = [.ref a, .ref b, .int u, v] ∧ OP K C a b u H E
theorem okx_p_path (T : Env K mg) : FnOk P w K mg base (L2.CX P w) 4 T.f_p_path T.d_p_path ["sheet", "pairing", "person"] (spP3 K T.C_NoPerson) := by
  have G0 : FnOk P w K mg base CX0 1 T.f_p_people_of T.d_p_people_of ["sheet"] (spPeople K) := ok_p_people_of T
  have GC : FnOk P w K mg base CX0 1 T.f_p_check_sizes T.d_p_check_sizes ["first", "second"] spCheckSizes := ok_p_check_sizes T
  have GX : FnOk P w K mg base (L2.CX P w) 3 T.f_p_check_person T.d_p_check_person ["size", "person"] (spPersonX T.C_NoPerson) := okx_p_check_person T
  refine T.F_p_path.okX sc_p_path (fun vs H Q E h => ?_) (fun cdv A outer s H vs Q E hr h => ?_)
  · obtain ⟨a, b, u, rfl, _⟩ := h
    rfl
  · obtain ⟨a, b, u, rfl, f, g, n, ha, hf, hb, hg, hu, hF⟩ := h
    have h1 := hr.mono (show 1 ≤ 3 by decide)
    refine ⟨_, pss_cons (ps_expr (pe_call GC h1 (by rfl) T.g_p_check_sizes T.F_p_check_sizes.kp T.b_p_check_sizes .nil pass0 (pa_cons (pe_call G0 h1 (by rfl) T.g_p_people_of T.F_p_people_of.kp T.b_p_people_of .nil pass0 (pa_cons (pv 0) pa_nil)) (pa_cons (pe_callB call_len_seq (by rfl) T.n_len PySem.boot_len (pa_cons (pv 1) pa_nil)) pa_nil)))) <|
      pss_cons (ps_expr (pe_callS GX hr (by rfl) T.g_p_check_person T.F_p_check_person.kp T.b_p_check_person (fun σ => passAt (takes_of rfl rfl rfl rfl) σ) (pa_cons (pe_callB call_len_seq (by rfl) T.n_len PySem.boot_len (pa_cons (pv 1) pa_nil)) (pa_cons (pv 2) pa_nil)))) pss_never, ?_⟩
    refine ⟨.ref a, rfl, a, f, n, rfl, ha, hf, .ref b, rfl, b, _, rfl, hb, n, (by rw [nv_length, hg]; rfl), ?_⟩
    exact ⟨.ref b, rfl, b, _, rfl, hb, _, rfl, n, u, (by rw [nv_length, hg]), hu, hF⟩
theorem okx_p_couples_on (T : Env K mg) : FnOk P w K mg base (L2.CX P w) 5 T.f_p_couples_on T.d_p_couples_on ["sheet", "pairing", "person"] (spP3 K T.C_NoPerson) := by
  have GP : FnOk P w K mg base (L2.CX P w) 4 T.f_p_path T.d_p_path ["sheet", "pairing", "person"] (spP3 K T.C_NoPerson) := okx_p_path T
  refine T.F_p_couples_on.okX sc_p_couples_on (fun vs H Q E h => ?_) (fun cdv A outer s H vs Q E hr h => ?_)
  · obtain ⟨a, b, u, rfl, _⟩ := h
    rfl
  · obtain ⟨a, b, u, rfl, hO⟩ := h
    refine ⟨_, pss_cons (ps_set (i := 3) sc_p_couples_on.nd rfl (by first | exact .inl rfl | exact .inr rfl) (pe_callS GP hr (by rfl) T.g_p_path T.F_p_path.kp T.b_p_path (fun σ => passAt (takes_of rfl rfl rfl rfl) σ) (pa_cons (pv 0) (pa_cons (pv 1) (pa_cons (pv 2) pa_nil))))) pss_never, ?_⟩
    exact ⟨.ref a, rfl, .ref b, rfl, _, rfl, a, b, u, rfl, hO⟩
theorem okx_p_shows_path (T : Env K mg) : FnOk P w K mg base (L2.CX P w) 5 T.f_p_shows_path T.d_p_shows_path ["sheet", "pairing", "person", "value"] (spP4 K T.C_NoPerson) := by
  have GP : FnOk P w K mg base (L2.CX P w) 4 T.f_p_path T.d_p_path ["sheet", "pairing", "person"] (spP3 K T.C_NoPerson) := okx_p_path T
  refine T.F_p_shows_path.okX sc_p_shows_path (fun vs H Q E h => ?_) (fun cdv A outer s H vs Q E hr h => ?_)
  · obtain ⟨a, b, u, v, rfl, _⟩ := h
    rfl
  · obtain ⟨a, b, u, v, rfl, hO⟩ := h
    refine ⟨_, pss_cons (ps_set (i := 4) sc_p_shows_path.nd rfl (by first | exact .inl rfl | exact .inr rfl) (pe_callS GP hr (by rfl) T.g_p_path T.F_p_path.kp T.b_p_path (fun σ => passAt (takes_of rfl rfl rfl rfl) σ) (pa_cons (pv 0) (pa_cons (pv 1) (pa_cons (pv 2) pa_nil))))) pss_never, ?_⟩
    exact ⟨.ref a, rfl, .ref b, rfl, _, rfl, a, b, u, rfl, hO⟩
end
end Pc
namespace Pc
/-! ### the cycles of two pairings -/
theorem nd_len : ∀ (n : Nat) (l : List Nat), l.Nodup → (∀ y ∈ l, y < n) → l.length ≤ n
  | 0, [], _, _ => Nat.le_refl _
  | 0, y :: _, _, h => absurd (h y List.mem_cons_self) (Nat.not_lt_zero _)
  | n + 1, l, hd, h => by
    have h1 := nd_len n (l.erase n) (hd.erase n) (fun y hy => by
      have h2 := (hd.mem_erase_iff).mp hy
      have h3 := h y h2.2
      have h4 := h2.1
      omega)
    rw [List.length_erase] at h1
    split at h1 <;> omega
theorem nd_all : ∀ (n : Nat) (l : List Nat), l.Nodup → (∀ y ∈ l, y < n) → (∀ y, y < n → y ∈ l) → l.Perm (List.range n) := fun n l hd h1 h2 =>
  (List.perm_ext_iff_of_nodup hd List.nodup_range).mpr fun y => ⟨fun hy => List.mem_range.mpr (h1 y hy), fun hy => h2 y (List.mem_range.mp hy)⟩
inductive LapEnd (a b : List Nat) : List Nat → Nat → List Nat → Prop
  | stop {l : List Nat} {z : Nat} : z ∈ l → LapEnd a b l z l
  | go {l r : List Nat} {z : Nat} : z ∉ l → LapEnd a b (l ++ [z, a.getD z 0]) (b.getD (a.getD z 0) 0) r → LapEnd a b l z r
theorem LapEnd.det {a b l r r' : List Nat} {z : Nat} (h : LapEnd a b l z r) : LapEnd a b l z r' → r = r' := by
  induction h with
  | stop h1 => intro h2; cases h2 with
    | stop _ => rfl
    | go h3 _ => exact absurd h1 h3
  | go h1 _ ih => intro h2; cases h2 with
    | stop h3 => exact absurd h3 h1
    | go _ h4 => exact ih h4
structure LpI (a b : List Nat) (n x : Nat) (l : List Nat) (z : Nat) : Prop where
  nd : l.Nodup
  lt : ∀ y ∈ l, y < n
  zl : z < n
  xl : x < n
  ca : ∀ y ∈ l, a.getD y 0 ∈ l
  st : l ≠ [] → x ∈ l ∧ b.getD z 0 ∈ l ∧ b.getD z 0 ≠ x
  s0 : l = [] → z = x
  cb : ∀ y ∈ l, y ≠ x → y ≠ b.getD z 0 → b.getD y 0 ∈ l ∧ b.getD y 0 ≠ x ∧ b.getD y 0 ≠ b.getD z 0
theorem LpI.start {a b : List Nat} {n x : Nat} (hx : x < n) : LpI a b n x [] x :=
  ⟨List.nodup_nil, fun _ h => absurd h List.not_mem_nil, hx, hx, fun _ h => absurd h List.not_mem_nil, fun h => absurd rfl h, fun _ => rfl, fun _ h => absurd h List.not_mem_nil⟩
theorem LpI.step {a b : List Nat} {n x z : Nat} {l : List Nat} (ha : IsPair n a) (hb : IsPair n b) (h : LpI a b n x l z) (hz : z ∉ l) : LpI a b n x (l ++ [z, a.getD z 0]) (b.getD (a.getD z 0) 0) := by
  obtain ⟨a1, a2, a3, _⟩ := ha.d h.zl
  obtain ⟨b1, b2, b3, _⟩ := hb.d a1
  obtain ⟨c1, c2, c3, _⟩ := hb.d h.zl
  have haz : a.getD z 0 ∉ l := fun hm => hz (by have := h.ca _ hm; rwa [a3] at this)
  have hxz : l ≠ [] → z ≠ x := fun hl e => hz (by rw [e]; exact (h.st hl).1)
  have hnil : ∀ y ∈ l, l ≠ [] := fun y hy e => by rw [e] at hy; exact absurd hy List.not_mem_nil
  refine ⟨?_, ?_, b1, h.xl, ?_, ?_, ?_, ?_⟩
  · refine List.nodup_append.mpr ⟨h.nd, ?_, fun y hy w hw => ?_⟩
    · exact List.nodup_cons.mpr ⟨fun hm => a2 (List.mem_singleton.mp hm).symm, List.nodup_cons.mpr ⟨List.not_mem_nil, List.nodup_nil⟩⟩
    · rcases List.mem_cons.mp hw with e | hw
      · exact fun e2 => hz (by rw [← e, ← e2]; exact hy)
      · exact fun e2 => haz (by rw [← List.mem_singleton.mp hw, ← e2]; exact hy)
  · intro y hy
    rcases List.mem_append.mp hy with hy | hy
    · exact h.lt y hy
    · rcases List.mem_cons.mp hy with e | hy
      · rw [e]; exact h.zl
      · rw [List.mem_singleton.mp hy]; exact a1
  · intro y hy
    refine List.mem_append.mpr ?_
    rcases List.mem_append.mp hy with hy | hy
    · exact .inl (h.ca y hy)
    · rcases List.mem_cons.mp hy with e | hy
      · rw [e]; exact .inr (List.mem_cons_of_mem _ List.mem_cons_self)
      · rw [List.mem_singleton.mp hy, a3]; exact .inr List.mem_cons_self
  · intro _
    rw [b3]
    refine ⟨?_, List.mem_append.mpr (.inr (List.mem_cons_of_mem _ List.mem_cons_self)), ?_⟩
    · by_cases e : l = []
      · rw [h.s0 e]; exact List.mem_append.mpr (.inr List.mem_cons_self)
      · exact List.mem_append.mpr (.inl (h.st e).1)
    · by_cases e : l = []
      · rw [← h.s0 e]; exact a2
      · exact fun e2 => haz (by rw [e2]; exact (h.st e).1)
  · intro e; exact absurd e (by simp)
  · intro y hy hyx hyz
    rw [b3] at hyz ⊢
    rcases List.mem_append.mp hy with hy | hy
    · by_cases e : y = b.getD z 0
      · rw [e, c3]
        exact ⟨List.mem_append.mpr (.inr List.mem_cons_self), hxz (hnil _ hy), fun e => a2 e.symm⟩
      · obtain ⟨h1, h2, _⟩ := h.cb y hy hyx e
        exact ⟨List.mem_append.mpr (.inl h1), h2, fun e2 => haz (by rw [← e2]; exact h1)⟩
    · rcases List.mem_cons.mp hy with e | hy
      · by_cases e2 : l = []
        · exact absurd (e.trans (h.s0 e2)) hyx
        · rw [e]
          obtain ⟨h1, h2, h3⟩ := h.st e2
          exact ⟨List.mem_append.mpr (.inl h2), h3, fun e3 => haz (by rw [← e3]; exact h2)⟩
      · exact absurd (List.mem_singleton.mp hy) hyz
theorem LpI.done {a b : List Nat} {n x z : Nat} {l : List Nat} (hb : IsPair n b) (h : LpI a b n x l z) (hz : z ∈ l) : z = x := by
  by_cases e : z = x
  · exact e
  · exact absurd rfl (h.cb z hz e (fun e2 => (hb.d h.zl).2.1 e2.symm)).2.2
theorem LpI.closed {a b : List Nat} {n x z : Nat} {l : List Nat} (hb : IsPair n b) (h : LpI a b n x l z) (hz : z ∈ l) : ∀ y ∈ l, b.getD y 0 ∈ l := by
  intro y hy
  have hn : l ≠ [] := fun e => by rw [e] at hy; exact absurd hy List.not_mem_nil
  have e := h.done hb hz
  obtain ⟨h1, h2, _⟩ := h.st hn
  by_cases e1 : y = x
  · rw [e1, ← e]; exact h2
  · by_cases e2 : y = b.getD z 0
    · rw [e2, (hb.d h.zl).2.2.1]; exact hz
    · exact (h.cb y hy e1 e2).1
theorem LpI.room {a b : List Nat} {n x z : Nat} {l : List Nat} (ha : IsPair n a) (hb : IsPair n b) (h : LpI a b n x l z) (hz : z ∉ l) : l.length + 2 ≤ n := by
  have h1 := h.step ha hb hz
  have h2 := nd_len n _ h1.nd h1.lt
  rw [List.length_append] at h2
  exact h2
theorem LpI.some {a b : List Nat} {n x : Nat} (ha : IsPair n a) (hb : IsPair n b) : ∀ (k : Nat) (l : List Nat) (z : Nat), n - l.length ≤ k → LpI a b n x l z → ∃ r, LapEnd a b l z r
  | 0, l, z, hk, h => by
    by_cases hz : z ∈ l
    · exact ⟨_, .stop hz⟩
    · have := h.room ha hb hz; omega
  | k + 1, l, z, hk, h => by
    by_cases hz : z ∈ l
    · exact ⟨_, .stop hz⟩
    · have := h.room ha hb hz
      obtain ⟨r, hr⟩ := LpI.some ha hb k _ _ (by rw [List.length_append]; show n - (l.length + 2) ≤ k; omega) (h.step ha hb hz)
      exact ⟨r, .go hz hr⟩
/-- a whole lap -/
structure Lap (a b : List Nat) (n x : Nat) (M r : List Nat) : Prop where
  en : LapEnd a b [] x r
  inv : LpI a b n x r x
  hx : x ∈ r
  out : ∀ y ∈ r, y ∉ M
theorem LapEnd.lap {a b : List Nat} {n x : Nat} (ha : IsPair n a) (hb : IsPair n b) {l r : List Nat} {z : Nat} (h : LapEnd a b l z r) : LpI a b n x l z → LpI a b n x r x ∧ x ∈ r := by
  induction h with
  | stop hz => intro hi; have e := hi.done hb hz; rw [e] at hi hz; exact ⟨hi, hz⟩
  | go hz _ ih => intro hi; exact ih (hi.step ha hb hz)
theorem LapEnd.out {a b : List Nat} {n x : Nat} (ha : IsPair n a) (hb : IsPair n b) {M : List Nat} (ca : ∀ y ∈ M, a.getD y 0 ∈ M) (cb : ∀ y ∈ M, b.getD y 0 ∈ M) {l r : List Nat} {z : Nat} (h : LapEnd a b l z r) :
    LpI a b n x l z → z ∉ M → (∀ y ∈ l, y ∉ M) → ∀ y ∈ r, y ∉ M := by
  induction h with
  | stop _ => intro _ _ h; exact h
  | @go l' r' z' hz _ ih =>
    intro hi hzM hl
    obtain ⟨a1, _, a3, _⟩ := ha.d hi.zl
    obtain ⟨_, _, b3, _⟩ := hb.d a1
    have haM : a.getD z' 0 ∉ M := fun e => hzM (by have := ca _ e; rwa [a3] at this)
    refine ih (hi.step ha hb hz) (fun e => haM (by have := cb _ e; rwa [b3] at this)) fun y hy => ?_
    rcases List.mem_append.mp hy with hy | hy
    · exact hl y hy
    · rcases List.mem_cons.mp hy with e | hy
      · rw [e]; exact hzM
      · rw [List.mem_singleton.mp hy]; exact haM
/-- the cycles found up to a person -/
inductive Rn (a b : List Nat) : Nat → List (List Nat) → Prop
  | zero : Rn a b 0 []
  | skip {i : Nat} {ls : List (List Nat)} : Rn a b i ls → i ∈ ls.flatten → Rn a b (i + 1) ls
  | new {i : Nat} {ls : List (List Nat)} {r : List Nat} : Rn a b i ls → i ∉ ls.flatten → LapEnd a b [] i r → Rn a b (i + 1) (ls ++ [r])
theorem Rn.det {a b : List Nat} {i : Nat} {ls : List (List Nat)} (h : Rn a b i ls) : ∀ {ms : List (List Nat)}, Rn a b i ms → ls = ms := by
  induction h with
  | zero => intro ms h2; cases h2; rfl
  | skip h1 hm ih => intro ms h2; cases h2 with
    | skip h3 _ => exact ih h3
    | new h3 hn _ => rw [← ih h3] at hn; exact absurd hm hn
  | new h1 hn he ih => intro ms h2; cases h2 with
    | skip h3 hm => rw [← ih h3] at hm; exact absurd hm hn
    | new h3 _ he' => rw [ih h3, he.det he']
structure RnI (a b : List Nat) (n i : Nat) (ls : List (List Nat)) : Prop where
  nd : ls.flatten.Nodup
  lt : ∀ y ∈ ls.flatten, y < n
  ca : ∀ y ∈ ls.flatten, a.getD y 0 ∈ ls.flatten
  cb : ∀ y ∈ ls.flatten, b.getD y 0 ∈ ls.flatten
  al : ∀ y, y < i → y ∈ ls.flatten
  ne : ∀ l ∈ ls, l ≠ []
theorem flat_snoc (ls : List (List Nat)) (r : List Nat) : (ls ++ [r]).flatten = ls.flatten ++ r := by
  rw [List.flatten_append]; simp
theorem Rn.inv {a b : List Nat} {n : Nat} (ha : IsPair n a) (hb : IsPair n b) {i : Nat} {ls : List (List Nat)} (h : Rn a b i ls) : i ≤ n → RnI a b n i ls := by
  induction h with
  | zero => intro _; exact ⟨List.nodup_nil, fun _ h => absurd h List.not_mem_nil, fun _ h => absurd h List.not_mem_nil, fun _ h => absurd h List.not_mem_nil, fun _ h => absurd h (Nat.not_lt_zero _), fun _ h => absurd h List.not_mem_nil⟩
  | @skip i ls _ hm ih =>
    intro hi
    have h := ih (by omega)
    exact ⟨h.nd, h.lt, h.ca, h.cb, fun y hy => by by_cases e : y = i; · rw [e]; exact hm
                                                  · exact h.al y (by omega), h.ne⟩
  | @new i ls r _ hn he ih =>
    intro hi
    have h := ih (by omega)
    have s0 : LpI a b n i [] i := LpI.start (by omega)
    obtain ⟨h1, h2⟩ := he.lap ha hb s0
    have h3 := he.out ha hb h.ca h.cb s0 hn (fun _ h => absurd h List.not_mem_nil)
    have h4 := h1.closed hb h2
    refine ⟨?_, ?_, ?_, ?_, ?_, ?_⟩
    · rw [flat_snoc]; exact List.nodup_append.mpr ⟨h.nd, h1.nd, fun y hy w hw e => h3 w hw (by rw [← e]; exact hy)⟩
    · rw [flat_snoc]; intro y hy; rcases List.mem_append.mp hy with hy | hy
      · exact h.lt y hy
      · exact h1.lt y hy
    · rw [flat_snoc]; intro y hy; rcases List.mem_append.mp hy with hy | hy
      · exact List.mem_append.mpr (.inl (h.ca y hy))
      · exact List.mem_append.mpr (.inr (h1.ca y hy))
    · rw [flat_snoc]; intro y hy; rcases List.mem_append.mp hy with hy | hy
      · exact List.mem_append.mpr (.inl (h.cb y hy))
      · exact List.mem_append.mpr (.inr (h4 y hy))
    · rw [flat_snoc]; intro y hy
      by_cases e : y = i
      · rw [e]; exact List.mem_append.mpr (.inr h2)
      · exact List.mem_append.mpr (.inl (h.al y (by omega)))
    · intro l hl; rcases List.mem_append.mp hl with hl | hl
      · exact h.ne l hl
      · rw [List.mem_singleton.mp hl]; intro e; rw [e] at h2; exact absurd h2 List.not_mem_nil
theorem flatL_len : ∀ (ls : List (List Nat)), (∀ l ∈ ls, l ≠ []) → ls.length ≤ ls.flatten.length
  | [], _ => Nat.le_refl _
  | l :: ls, h => by
    have h1 := flatL_len ls (fun m hm => h m (List.mem_cons_of_mem _ hm))
    have h2 : 0 < l.length := List.length_pos_iff.mpr (h l List.mem_cons_self)
    rw [List.flatten_cons, List.length_append, List.length_cons]; omega
theorem flatL_one {ls : List (List Nat)} {l : List Nat} (h : l ∈ ls) : l.length ≤ ls.flatten.length := by
  obtain ⟨s, t, rfl⟩ := List.append_of_mem h
  rw [List.flatten_append, List.flatten_cons, List.length_append, List.length_append]; omega
theorem RnI.len {a b : List Nat} {n i : Nat} {ls : List (List Nat)} (h : RnI a b n i ls) : ls.flatten.length ≤ n := nd_len n _ h.nd h.lt
theorem RnI.len' {a b : List Nat} {n i : Nat} {ls : List (List Nat)} (h : RnI a b n i ls) : ls.length ≤ n := Nat.le_trans (flatL_len ls h.ne) h.len
theorem RnI.perm {a b : List Nat} {n : Nat} {ls : List (List Nat)} (h : RnI a b n n ls) : ls.flatten.Perm (List.range n) := nd_all n _ h.nd h.lt h.al
end Pc
namespace Pc
open PySem PySem.Spec PyProof.Rows L2 RZ
theorem tups_upd {w : World} {g : Addr} {S : Int → Bool} {k : Nat} {H : Hp} {o : HO} (hg : H g = some (SetO w g S k)) : ∀ {as : List Addr} {ls : List (List Nat)}, Tups H as ls → Tups (upd H g o) as ls
  | _, _, .nil => .nil
  | _, _, .cons h r => .cons (by rw [upd_ne (fun z => by rw [z, hg] at h; cases h)]; exact h) (tups_upd hg r)
end Pc
namespace Pc
open PySem PySem.Spec PyProof.Rows L2 RZ
section
variable {P : Program} {w : World} {K : PySem.W.Frag} {mg : Str → Option Value} {base : Heap}
/-! ### cycles of two pairings, by the program -/
def spCycleFrom (K : PySem.W.Frag) : Sp := fun vs H Q _ => ∃ (p q : Addr) (a b : List Nat) (n x : Nat), vs = [.ref p, .ref q, .int x] ∧ Sq K H p (nv a) ∧ Sq K H q (nv b) ∧ IsPair n a ∧ IsPair n b ∧ x < n ∧ n ≤ 500 ∧
  ∀ (H' : Hp) (t : Addr) (r : List Nat), LapEnd a b [] x r → Same H H' → H t = none → H' t = some (.tup (nv r)) → Q (.ref t) H'
theorem ok_p_cycle_from (T : Env K mg) : FnOk P w K mg base CX0 1 T.f_p_cycle_from T.d_p_cycle_from ["one", "other", "person"] (spCycleFrom K) := by
  refine T.F_p_cycle_from.ok sc_p_cycle_from (fun vs H Q E h => ?_) (fun cdv A outer s H vs Q E hr h => ?_)
  · obtain ⟨p, q, a, b, n, x, rfl, _⟩ := h
    rfl
  · obtain ⟨p, o, a, b, n, x, rfl, hp, ho, hA, hB, hx, hn, q⟩ := h
    refine ⟨_, pss_cons (ps_set (i := 3) sc_p_cycle_from.nd rfl (.inl rfl) (pe_lst (pa_cons (pv 2) (pa_cons (pe_ix ix_seq (pv 0) (pv 2) (fun _ _ => rfl)) pa_nil)))) <|
      pss_cons (ps_set (i := 4) sc_p_cycle_from.nd rfl (.inl rfl) (pe_ix ix_seq (pv 1) (pe_ix ix_list (pv 3) (pe_un un_neg pe_int) (fun _ _ => rfl)) (fun _ _ => rfl))) <|
      pss_cons (ps_while PassesOwn.never (pt_cmpR op_ne (pv 4) (pv 2) (nomark _))
        (pss_cons (ps_expr (pe_bm PySem.F.plainAttrs_list PySem.F.slot_list_append PySem.F.type_list_append mt_append (pv 3) (pa_cons (pv 4) pa_nil))) <|
        pss_cons (ps_expr (pe_bm PySem.F.plainAttrs_list PySem.F.slot_list_append PySem.F.type_list_append mt_append (pv 3) (pa_cons (pe_ix ix_seq (pv 0) (pv 4) (fun _ _ => rfl)) pa_nil))) <|
        pss_one (ps_set (i := 4) sc_p_cycle_from.nd rfl (.inl rfl) (pe_ix ix_seq (pv 1) (pe_ix ix_list (pv 3) (pe_un un_neg pe_int) (fun _ _ => rfl)) (fun _ _ => rfl))))) <|
      pss_one (ps_ret (pe_callTy call_tuple_of (by rfl) T.n_tuple (by decide +kernel) (pa_cons (pv 3) pa_nil))), ?_⟩
    obtain ⟨a1, a2, a3, a4⟩ := hA.d hx
    obtain ⟨b1, _, _, b4⟩ := hB.d a1
    refine ⟨_, rfl, .ref p, rfl, _, rfl, ix_sq hp (nv_at a4) ⟨by show 2 ≤ sizeLine; decide, fun e ne => ?_⟩⟩
    have e0 : (upd H e (.lst [.int (x : Int), .int ((a.getD x 0 : Nat) : Int)])) e = some (.lst (nv ([] ++ [x, a.getD x 0]))) := by rw [upd_same]; rfl
    have s0 : Same H (upd H e (.lst [.int (x : Int), .int ((a.getD x 0 : Nat) : Int)])) := same_new ne
    revert e0 s0
    generalize upd H e (.lst [.int (x : Int), .int ((a.getD x 0 : Nat) : Int)]) = H0
    intro e0 s0
    refine st_set [some (.ref p), some (.ref o), some (.int x), some (.ref e), none] ?_ rfl
    refine ⟨.ref o, rfl, .ref e, rfl, 1, rfl, e, _, -1, _, rfl, rfl, .inl (.inl e0), last_nv' _ _ _, ix_sq (ho.same s0) (nv_at b4) ?_⟩
    refine st_set [some (.ref p), some (.ref o), some (.int x), some (.ref e), some (.int ((b.getD (a.getD x 0) 0 : Nat) : Int))] ?_ rfl
    have i0 : LpI a b n x ([] ++ [x, a.getD x 0]) (b.getD (a.getD x 0) 0) := (LpI.start hx).step hA hB List.not_mem_nil
    refine ⟨fun m σ H' => ∃ (l : List Nat) (z : Nat), σ = [some (.ref p), some (.ref o), some (.int x), some (.ref e), some (.int z)] ∧ Same H H' ∧ H' e = some (.lst (nv l)) ∧ LpI a b n x l z ∧ l ≠ [] ∧ (∀ r, LapEnd a b l z r → LapEnd a b [] x r) ∧ n - l.length = m,
      ⟨_, _, _, rfl, s0, e0, i0, by simp, fun r hr => .go List.not_mem_nil hr, rfl⟩, fun m σ H' hW => ?_⟩
    obtain ⟨l, z, rfl, sm, ee, hi, hl, hend, hm⟩ := hW
    refine ⟨_, rfl, _, rfl, rfl, _, rfl, ite2 (fun c => ?_) (fun c => ?_)⟩
    · have hzx : z ≠ x := fun z' => by
        have c' : (!decide (V.int (z : Int) = V.int (x : Int))) = true := c
        rw [z', decide_eq_true rfl] at c'
        exact absurd c' (by decide)
      have hz : z ∉ l := fun hm => hzx (hi.done hB hm)
      have hroom := hi.room hA hB hz
      have hi2 := hi.step hA hB hz
      obtain ⟨u1, _, _, u4⟩ := hA.d hi.zl
      obtain ⟨v1, _, _, v4⟩ := hB.d u1
      refine ⟨fun σ' H2 => ∃ (l : List Nat) (z : Nat), σ' = [some (.ref p), some (.ref o), some (.int x), some (.ref e), some (.int z)] ∧ Same H H2 ∧ H2 e = some (.lst (nv l)) ∧ LpI a b n x l z ∧ l ≠ [] ∧ (∀ r, LapEnd a b l z r → LapEnd a b [] x r) ∧ n - l.length < m,
        fun σ' H2 h2 => ?_, ?_⟩
      · obtain ⟨l', z', g1, g2, g3, g4, g5, g6, g7⟩ := h2
        exact ⟨_, g7, l', z', g1, g2, g3, g4, g5, g6, rfl⟩
      · refine ⟨.ref e, rfl, .inl ⟨rfl, _, .inl (.inl ee)⟩, _, rfl, e, _, _, rfl, rfl, ee, line_big (by rw [nv_length]; omega), ?_⟩
        have e1 : (upd H' e (.lst (nv l ++ [.int (z : Int)]))) e = some (.lst (nv (l ++ [z]))) := by rw [upd_same, nv_snoc']
        have s1 : Same H (upd H' e (.lst (nv l ++ [.int (z : Int)]))) := fun b o hb => by rw [upd_ne (ne_of_none hb ne)]; exact sm _ _ hb
        revert e1 s1
        generalize upd H' e (.lst (nv l ++ [.int (z : Int)])) = H1
        intro e1 s1
        refine ⟨.ref e, rfl, .inl ⟨rfl, _, .inl (.inl e1)⟩, .ref p, rfl, _, rfl, ix_sq (hp.same s1) (nv_at u4) ⟨e, _, _, rfl, rfl, e1, line_big (by rw [nv_length, List.length_append]; show l.length + 1 ≤ _; omega), ?_⟩⟩
        have e2 : (upd H1 e (.lst (nv (l ++ [z]) ++ [.int ((a.getD z 0 : Nat) : Int)]))) e = some (.lst (nv (l ++ [z, a.getD z 0]))) := by rw [upd_same, nv_snoc', List.append_assoc]; rfl
        have s2 : Same H (upd H1 e (.lst (nv (l ++ [z]) ++ [.int ((a.getD z 0 : Nat) : Int)]))) := fun b o hb => by rw [upd_ne (ne_of_none hb ne)]; exact s1 _ _ hb
        revert e2 s2
        generalize upd H1 e (.lst (nv (l ++ [z]) ++ [.int ((a.getD z 0 : Nat) : Int)])) = H2
        intro e2 s2
        refine ⟨.ref o, rfl, .ref e, rfl, 1, rfl, e, _, -1, _, rfl, rfl, .inl (.inl e2), last_nv' _ _ _, ix_sq (ho.same s2) (nv_at v4) ?_⟩
        exact ⟨_, _, rfl, s2, e2, hi2, by simp, fun r hr => hend r (.go hz hr), by rw [List.length_append, ← hm]; show n - (l.length + 2) < n - l.length; omega⟩
    · have hzx : z = x := by
        by_cases e' : z = x
        · exact e'
        · exact absurd (show (!decide (V.int (z : Int) = V.int (x : Int))) = true by rw [decide_eq_false (fun z' => e' (by have := V.int.inj z'; omega))]; rfl) c
      have hzl : z ∈ l := by rw [hzx]; exact (hi.st hl).1
      refine ⟨.ref e, rfl, e, _, rfl, .inl ⟨.inl (.inl ee), fun t nt => ?_⟩⟩
      exact q _ t l (hend l (.stop hzl)) (sm.trans (same_new nt)) (sm.free nt) upd_same
def spCycles (K : PySem.W.Frag) : Sp := fun vs H Q _ => ∃ (p q : Addr) (a b : List Nat) (n : Nat), vs = [.ref p, .ref q] ∧ Sq K H p (nv a) ∧ Sq K H q (nv b) ∧ IsPair n a ∧ IsPair n b ∧ n ≤ 500 ∧
  ∀ (H' : Hp) (t : Addr) (as : List Addr) (ls : List (List Nat)), Rn a b n ls → Same H H' → H t = none → H' t = some (.lst (as.map V.ref)) → Tups H' as ls → Q (.ref t) H'
theorem ok_p_cycles (T : Env K mg) : FnOk P w K mg base CX0 2 T.f_p_cycles T.d_p_cycles ["one", "other"] (spCycles K) := by
  have GC : FnOk P w K mg base CX0 1 T.f_p_check_sizes T.d_p_check_sizes ["first", "second"] spCheckSizes := ok_p_check_sizes T
  have GF : FnOk P w K mg base CX0 1 T.f_p_cycle_from T.d_p_cycle_from ["one", "other", "person"] (spCycleFrom K) := ok_p_cycle_from T
  refine T.F_p_cycles.ok sc_p_cycles (fun vs H Q E h => ?_) (fun cdv A outer s H vs Q E hr h => ?_)
  · obtain ⟨p, q, a, b, n, rfl, _⟩ := h
    rfl
  · obtain ⟨p, o, a, b, n, rfl, hp, ho, hA, hB, hn, q⟩ := h
    refine ⟨_, pss_cons (ps_expr (pe_call GC hr (by rfl) T.g_p_check_sizes T.F_p_check_sizes.kp T.b_p_check_sizes .nil pass0 (pa_cons (pe_callB call_len_seq (by rfl) T.n_len PySem.boot_len (pa_cons (pv 0) pa_nil)) (pa_cons (pe_callB call_len_seq (by rfl) T.n_len PySem.boot_len (pa_cons (pv 1) pa_nil)) pa_nil)))) <|
      pss_cons (ps_set (i := 2) sc_p_cycles.nd rfl (.inl rfl) (pe_lst pa_nil)) <|
      pss_cons (ps_set (i := 3) sc_p_cycles.nd rfl (.inl rfl) (pe_callTy0 cr_set0 (by rfl) T.n_set (by decide +kernel))) <|
      pss_cons (ps_for PassesOwn.never rfl (pi_range1 (by rfl) T.n_range (pa_cons (pe_callB call_len_seq (by rfl) T.n_len PySem.boot_len (pa_cons (pv 0) pa_nil)) pa_nil)) (pg_name (i := 4) sc_p_cycles.nd rfl (.inl rfl))
        (pss_one (ps_if (pt_cmpR or_snotin (pv 4) (pv 3) (by rfl))
          (pss_cons (ps_set (i := 5) sc_p_cycles.nd rfl (.inl rfl) (pe_call GF hr (by rfl) T.g_p_cycle_from T.F_p_cycle_from.kp T.b_p_cycle_from .nil pass0 (pa_cons (pv 0) (pa_cons (pv 1) (pa_cons (pv 4) pa_nil))))) <|
          pss_cons (ps_expr (pe_bm PySem.F.plainAttrs_list PySem.F.slot_list_append PySem.F.type_list_append mt_append (pv 2) (pa_cons (pv 5) pa_nil))) <|
          pss_one (ps_for PassesOwn.never rfl (pi_tup (pv 5)) (pg_name (i := 6) sc_p_cycles.nd rfl (.inl rfl)) (pss_one (ps_expr (pe_sadd (pv 3) (pa_cons (pv 6) pa_nil)))))) pss_nil))) <|
      pss_one (ps_ret (pv 2)), ?_⟩
    have hla : ((nv a).length : Int) = (n : Nat) := by rw [nv_length, hA.len]
    have hlb : ((nv b).length : Int) = (n : Nat) := by rw [nv_length, hB.len]
    refine ⟨.ref p, rfl, p, _, rfl, hp, .ref o, rfl, o, _, rfl, ho, n, (by rw [hla, hlb]; rfl), ?_⟩
    refine ⟨by show 0 ≤ sizeLine; decide, fun f nf => ?_⟩
    have s1 : Same H (upd H f (.lst [])) := same_new nf
    have e1 : (upd H f (.lst [])) f = some (.lst []) := upd_same
    revert s1 e1
    generalize upd H f (.lst []) = H1
    intro s1 e1
    refine st_set [some (.ref p), some (.ref o), some (.ref f), none, none, none, none] ?_ rfl
    refine ⟨rfl, fun g ng => ?_⟩
    have s2 : Same H1 (upd H1 g (SetO w g (fun _ => false) 0)) := same_new ng
    have e2 : (upd H1 g (SetO w g (fun _ => false) 0)) g = some (SetO w g (fun _ => false) 0) := upd_same
    have fg : f ≠ g := ne_of_none e1 ng
    have ng0 : H g = none := s1.free ng
    refine st_set [some (.ref p), some (.ref o), some (.ref f), some (.ref g), none, none, none] ?_ rfl
    refine ⟨.ref p, rfl, p, _, rfl, hp.same (s1.trans s2), ?_⟩
    rw [hla]
    refine ⟨_, rfl, by omega, by omega, ?_⟩
    rw [show ((n : Nat) : Int).toNat = n by omega]
    refine for_range (n := n) (fun i σ H' => Same H H' ∧ ∃ (y4 y5 y6 : Option V) (as : List Addr) (ls : List (List Nat)) (S : Int → Bool) (k : Nat), σ = [some (.ref p), some (.ref o), some (.ref f), some (.ref g), y4, y5, y6] ∧ Rn a b i ls ∧ H' f = some (.lst (as.map V.ref)) ∧ Tups H' as ls ∧ H' g = some (SetO w g S k) ∧ (∀ y : Nat, S (y : Int) = decide (y ∈ ls.flatten)) ∧ k ≤ ls.flatten.length)
      ⟨s1.trans s2, none, none, none, [], [], _, _, rfl, .zero, s2 _ _ e1, .nil, e2, fun y => rfl, Nat.le_refl _⟩ (fun i σ Hi hi hPv => ?_) (fun σ Hi hPv => ?_)
    · obtain ⟨sm, y4, y5, y6, as, ls, S, k, rfl, hR, ef, hT, eg, hS, hk⟩ := hPv
      have hI := hR.inv hA hB (by omega)
      refine st_set [some (.ref p), some (.ref o), some (.ref f), some (.ref g), some (.int ((0 : Int) + (i : Nat))), y5, y6] ?_ rfl
      rw [show (0 : Int) + (i : Nat) = ((i : Nat) : Int) by omega]
      refine ⟨_, rfl, _, rfl, _, g, S, k, rfl, rfl, eg, _, rfl, ite2 (fun c => ?_) (fun c => ?_)⟩
      · have hni : i ∉ ls.flatten := fun hm => by
          have c' : (!S ((i : Nat) : Int)) = true := c
          rw [hS, decide_eq_true hm] at c'
          exact absurd c' (by decide)
        refine ⟨.ref p, rfl, .ref o, rfl, _, rfl, p, o, a, b, n, i, rfl, hp.same sm, ho.same sm, hA, hB, hi, hn, fun H3 t r hr3 s3 nt et => ?_⟩
        have hRn := Rn.new hR hni hr3
        have hIn := hRn.inv hA hB (by omega)
        have hfl := hIn.len
        rw [flat_snoc, List.length_append] at hfl
        have hll := hIn.len'
        rw [List.length_append, List.length_singleton] at hll
        refine st_set [some (.ref p), some (.ref o), some (.ref f), some (.ref g), some (.int ((i : Nat) : Int)), some (.ref t), y6] ?_ rfl
        have ef3 := s3 _ _ ef
        refine ⟨.ref f, rfl, .inl ⟨rfl, _, .inl (.inl ef3)⟩, _, rfl, f, _, _, rfl, rfl, ef3, line_big (by rw [List.length_map, hT.length]; omega), ?_⟩
        have tf : t ≠ f := fun z => by rw [z, ef] at nt; cases nt
        have k4 : Keep f H3 (upd H3 f (.lst (as.map V.ref ++ [.ref t]))) := keep_upd
        have ef4 : (upd H3 f (.lst (as.map V.ref ++ [.ref t]))) f = some (.lst ((as ++ [t]).map V.ref)) := by rw [upd_same, List.map_append]; rfl
        have et4 := k4 _ _ tf et
        have eg4 := k4 _ _ fg.symm (s3 _ _ eg)
        have hT4 := tups_append (tups_keep k4 ef3 (tups_same s3 hT)) (ls := ls) (ms := [r]) (bs := [t]) (.cons et4 .nil)
        have sm4 : Same H (upd H3 f (.lst (as.map V.ref ++ [.ref t]))) := fun y o hy => by rw [upd_ne (ne_of_none hy nf)]; exact s3 _ _ (sm _ _ hy)
        revert ef4 et4 eg4 hT4 sm4
        clear k4
        generalize upd H3 f (.lst (as.map V.ref ++ [.ref t])) = H4
        intro ef4 et4 eg4 hT4 sm4
        refine ⟨.ref t, rfl, t, rfl, ⟨_, .inl (.inl et4)⟩, ?_⟩
        refine for_tup (xs := nv r) (fun j σ H' => Same H H' ∧ H' t = some (.tup (nv r)) ∧ H' f = some (.lst ((as ++ [t]).map V.ref)) ∧ Tups H' (as ++ [t]) (ls ++ [r]) ∧ ∃ (y6 : Option V) (S : Int → Bool) (k : Nat), σ = [some (.ref p), some (.ref o), some (.ref f), some (.ref g), some (.int ((i : Nat) : Int)), some (.ref t), y6] ∧ H' g = some (SetO w g S k) ∧ (∀ y : Nat, S (y : Int) = decide (y ∈ ls.flatten ++ r.take j)) ∧ k ≤ ls.flatten.length + j)
          ⟨sm4, et4, ef4, hT4, y6, S, k, rfl, eg4, fun y => by rw [List.take_zero, List.append_nil]; exact hS y, by omega⟩ (fun j σ H' _ h => .inl (.inl h.2.1)) (fun j v σ H' hv h => ?_) (fun σ H' h => ?_)
        · obtain ⟨sm5, et5, ef5, hT5, y6, S5, k5, rfl, eg5, hS5, hk5⟩ := h
          obtain ⟨u, hu, rfl⟩ := nv_get' hv
          have hj := get_lt hu
          refine st_set [some (.ref p), some (.ref o), some (.ref f), some (.ref g), some (.int ((i : Nat) : Int)), some (.ref t), some (.int u)] ?_ rfl
          refine ⟨.ref g, rfl, ⟨g, S5, k5, rfl, eg5⟩, _, rfl, g, u, S5, k5, rfl, rfl, eg5, by show k5 + 1 < 4096; omega, ?_⟩
          have tg : t ≠ g := fun z => by rw [z, eg5] at et5; cases et5
          refine ⟨fun y o hy => by rw [upd_ne (ne_of_none hy ng0)]; exact sm5 _ _ hy, by rw [upd_ne tg]; exact et5, by rw [upd_ne fg]; exact ef5, tups_upd eg5 hT5, _, _, _, rfl, upd_same, fun y => ?_, by split <;> omega⟩
          show (S5 (y : Int) || decide ((y : Int) = (u : Int))) = _
          rw [hS5, List.take_add_one, hu, ← Bool.decide_or]
          refine decide_eq_decide.mpr ?_
          show _ ∨ _ ↔ y ∈ ls.flatten ++ (r.take j ++ [u])
          rw [← List.append_assoc, List.mem_append (s := ls.flatten ++ r.take j), List.mem_singleton]
          exact or_congr Iff.rfl ⟨fun z => by omega, fun z => by omega⟩
        · obtain ⟨sm5, et5, ef5, hT5, y6, S5, k5, rfl, eg5, hS5, hk5⟩ := h
          rw [nv_length] at hS5 hk5
          refine ⟨sm5, _, _, _, _, _, S5, k5, rfl, hRn, ef5, hT5, eg5, fun y => by rw [hS5, List.take_length, flat_snoc], by rw [flat_snoc, List.length_append]; exact hk5⟩
      · have hm : i ∈ ls.flatten := by
          by_cases z : i ∈ ls.flatten
          · exact z
          · exact absurd (show (!S ((i : Nat) : Int)) = true by rw [hS, decide_eq_false z]; rfl) c
        exact ⟨sm, _, _, _, as, ls, S, k, rfl, .skip hR hm, ef, hT, eg, hS, hk⟩
    · obtain ⟨sm, y4, y5, y6, as, ls, S, k, rfl, hR, ef, hT, eg, hS, hk⟩ := hPv
      exact ⟨.ref f, rfl, q Hi f as ls hR sm nf ef hT⟩
end
end Pc
namespace Pc
open PySem PySem.Spec PyProof.Rows L2 RZ
section
variable {P : Program} {w : World} {K : PySem.W.Frag} {mg : Str → Option Value} {base : Heap}
/-! ### two pairings of different sizes -/
def spDist (K : PySem.W.Frag) : Sp := fun vs H Q _ => ∃ (p q : Addr) (a b : List Nat) (n : Nat), vs = [.ref p, .ref q] ∧ Sq K H p (nv a) ∧ Sq K H q (nv b) ∧ IsPair n a ∧ IsPair n b ∧ n ≤ 500 ∧
  ∀ (H' : Hp) (ls : List (List Nat)), Rn a b n ls → Same H H' → Q (.int (((n / 2 : Nat) : Int) - (ls.length : Nat))) H'
theorem ok_p_distance (T : Env K mg) : FnOk P w K mg base CX0 3 T.f_p_distance T.d_p_distance ["one", "other"] (spDist K) := by
  have GC : FnOk P w K mg base CX0 2 T.f_p_cycles T.d_p_cycles ["one", "other"] (spCycles K) := ok_p_cycles T
  refine T.F_p_distance.ok sc_p_distance (fun vs H Q E h => ?_) (fun cdv A outer s H vs Q E hr h => ?_)
  · obtain ⟨p, q, a, b, n, rfl, _⟩ := h
    rfl
  · obtain ⟨p, o, a, b, n, rfl, hp, ho, hA, hB, hn, q⟩ := h
    refine ⟨_, pss_one (ps_ret (pe_op op_sub (pe_op op_fdiv (pe_callB call_len_seq (by rfl) T.n_len PySem.boot_len (pa_cons (pv 0) pa_nil)) pe_int) (pe_callB call_len_seq (by rfl) T.n_len PySem.boot_len (pa_cons (pe_call GC hr (by rfl) T.g_p_cycles T.F_p_cycles.kp T.b_p_cycles .nil pass0 (pa_cons (pv 0) (pa_cons (pv 1) pa_nil))) pa_nil)))), ?_⟩
    refine ⟨.ref p, rfl, p, _, rfl, hp, _, 2, rfl, rfl, ⟨by decide, by decide⟩, .ref p, rfl, .ref o, rfl, p, o, a, b, n, rfl, hp, ho, hA, hB, hn, fun H1 t as ls hR s1 nt et hT => ?_⟩
    refine ⟨t, _, rfl, .inl (.inl (.inl et)), _, _, rfl, rfl, ?_⟩
    have e1 : ((nv a).length : Int) / 2 = ((n / 2 : Nat) : Int) := by rw [nv_length, hA.len]; rfl
    have e2 : ((as.map V.ref).length : Int) = (ls.length : Nat) := by rw [List.length_map, hT.length]
    show Q (.int (((nv a).length : Int) / 2 - ((as.map V.ref).length : Int))) H1
    rw [e1, e2]
    exact q H1 ls hR s1
end
end Pc
namespace Pc
open PySem PySem.Spec PyProof.Rows L2 RZ
/-! ### o.m(e, ..) that raises -/
def tMethS (C : Addr) (m : Str) (sp : Sp) (E : L2.St → XK) (ta : TE) (t : TA) : TE := fun σ H Q => ta σ H fun x H1 => ∃ a dx fs, x = .ref a ∧ H1 a = some (.ins C dx fs) ∧ fs.lookup m = none ∧ t σ H1 fun vs H2 => sp (.ref a :: vs) H2 Q (E σ)
section
variable {X : Cx} {CX : CXT} {k : Nat} {f C : Addr} {fd : FuncData} {ps : List Str} {sp : Sp} {E : L2.St → XK} {x m : Str} {p pos apos : Pos} {e o : Expr} {es : List Expr} {ta : TE} {t : TA}
theorem pe_mS {pl : Sem Bool} (he : PE X o ta) (c : Cls X.K C) (hm : Meth X.K C m f) (F : FnOk X.prog X.w X.K X.mg X.base CX k f fd ps sp) (hr : Room k X.A) (hb : Binds X.K fd ps []) (hx : ∀ σ, PassesAt CX X σ (E σ)) (ha : PA X (e :: es) t)
    (hst : starEach (e :: es) X.env = (false, eval e X.env) :: starEach es X.env := by rfl) (hpl : (backTo pos (starEach es X.env)).any (·.1) = false := by rfl)
    (ht : eval (.Call (.Attribute o m apos) (e :: es) [] pos) X.env = (do
      let ov ← eval o X.env
      standAt apos.atName
      let (f, first) ← holding [ov] (getMethod ov m pl)
      callWith pos f first (backTo pos (starEach (e :: es) X.env)) (backToKw pos (keywordEach [] X.env))) := by rfl) :
    PE X (.Call (.Attribute o m apos) (e :: es) [] pos) (tMethS C m sp E ta t) := by
  refine ⟨fun pins s σ H Q I h => ?_⟩
  refine PySem.W.methodCall_KW (pl := pl) (thn (he.run pins s σ H _ I h) fun u s1 ⟨x, H1, I1, rx, a, dx, fs, ex, ea, l, q⟩ => ?_) ht
  subst ex
  obtain rfl : u = Value.ref a := rx
  refine getmeth_ok I1 ea c hm l ?_
  refine PySem.W.callWith_K (first := [.ref a]) (h₀ := X.base) I.ok.mod.kin hm.kp (thn (ha.run pos pins s1 σ H1 _ I1 q) fun us s2 ⟨vs, H2, I2, r, q2⟩ => ⟨I2.kIn, ?_⟩) hst hpl
  exact run_fnS (us := .ref a :: us) (vs := .ref a :: vs) F hr hb (hx σ) I2 (.cons rfl r) q2
end
/-! ### a hall that has just been made -/
theorem kw_pw : ¬ (("past" : Str) = "written") := by decide +kernel
def hfl (p q : Addr) : List (Str × V) := putF "written" (.ref q) (putF "past" (.ref p) [])
theorem hfl_past (p q : Addr) : (hfl p q).lookup ("past" : Str) = some (.ref p) := by
  unfold hfl
  rw [lookup_putF, if_neg kw_pw, lookup_putF, if_pos rfl]
theorem hfl_no (p q : Addr) {m : Str} (h1 : ¬ m = "written") (h2 : ¬ m = "past") : (hfl p q).lookup m = none := by
  unfold hfl
  rw [lookup_putF, if_neg h1, lookup_putF, if_neg h2]
  all_goals rfl
def HallAt (C : Addr) (H : Hp) (x : Addr) (t : Addr) : Prop := ∃ dx p q u, H x = some (.ins C dx (hfl p q)) ∧ H p = some (.lst [.ref u]) ∧ H u = some (.tup [.ref t, .non])
theorem HallAt.same {C x t : Addr} {H H' : Hp} (h : HallAt C H x t) (s : Same H H') : HallAt C H' x t := by
  obtain ⟨dx, p, q, u, h1, h2, h3⟩ := h
  exact ⟨dx, p, q, u, s _ _ h1, s _ _ h2, s _ _ h3⟩
end Pc
namespace Pc
open PySem PySem.Spec PyProof.Rows L2 RZ
section
variable {P : Program} {w : World} {K : PySem.W.Frag} {mg : Str → Option Value} {base : Heap}
def spHallInit (K : PySem.W.Frag) (C : Addr) : Sp := fun vs H Q _ => ∃ (x dx a : Addr) (ys : List V), vs = [.ref x, .ref a] ∧ H x = some (.ins C dx []) ∧ SqT K H a ys ∧
  ∀ H', (∀ b o, b ≠ x → H b = some o → H' b = some o) → HallAt C H' x a → Q .non H'
theorem ok_m_Hall_init (T : Env K mg) : FnOk P w K mg base CX0 1 T.f_m_Hall_init T.d_m_Hall_init ["self", "pairing"] (spHallInit K T.C_Hall) := by
  refine T.F_m_Hall_init.ok sc_m_Hall_init (fun vs H Q E h => ?_) (fun cdv A outer s H vs Q E hr h => ?_)
  · obtain ⟨x, dx, a, ys, rfl, _⟩ := h
    rfl
  · obtain ⟨x, dx, a, ys, rfl, hx, ha, q⟩ := h
    refine ⟨_, pss_cons (ps_fld (pv 0) (pe_lst (pa_cons (pe_tup (pa_cons (pe_callTy call_tuple_of (by rfl) T.n_tuple (by decide +kernel) (pa_cons (pv 1) pa_nil)) (pa_cons pe_non pa_nil))) pa_nil)) rfl) <|
      pss_one (ps_fld (pv 0) (pe_lst pa_nil) rfl), ?_⟩
    refine ⟨_, rfl, a, ys, rfl, .inr ⟨ha, by show 2 ≤ sizeLine; decide, fun u nu => ⟨by show 1 ≤ sizeLine; decide, fun p np => ?_⟩⟩⟩
    have s1 : Same H (upd H u (.tup [.ref a, .non])) := same_new nu
    have s2 := s1.trans (same_new (o := .lst [.ref u]) np)
    have xu : x ≠ u := ne_of_none hx nu
    have xp : x ≠ p := ne_of_none (s1 _ _ hx) np
    have up : u ≠ p := ne_of_none upd_same np
    refine ⟨_, rfl, x, T.C_Hall, dx, [], rfl, s2 _ _ hx, T.cl_Hall, T.nF_Hall_past, (by show 0 < 1000; decide), by show 0 ≤ sizeLine; decide, fun g ng => ?_⟩
    have xg : x ≠ g := ne_of_none upd_same ng
    have ng0 : (upd (upd H u (.tup [.ref a, .non])) p (.lst [.ref u])) g = none := by rw [upd_ne xg.symm] at ng; exact ng
    have gp : p ≠ g := ne_of_none upd_same ng0
    have gu : u ≠ g := ne_of_none (by rw [upd_ne up, upd_same]) ng0
    refine ⟨_, rfl, x, T.C_Hall, dx, _, rfl, by rw [upd_ne xg, upd_same], T.cl_Hall, T.nF_Hall_written, (by show 1 < 1000; decide), ?_⟩
    refine q _ (fun b o bx hb => ?_) ⟨dx, p, g, u, upd_same, ?_, ?_⟩
    · rw [upd_ne bx, upd_ne (ne_of_none (s2 _ _ hb) ng0), upd_ne bx]; exact s2 _ _ hb
    · rw [upd_ne xp.symm, upd_ne gp, upd_ne xp.symm, upd_same]
    · rw [upd_ne xu.symm, upd_ne gu, upd_ne xu.symm, upd_ne up, upd_same]
def spHallPairing (C : Addr) : Sp := fun vs H Q _ => ∃ (x t : Addr), vs = [.ref x] ∧ HallAt C H x t ∧ Q (.ref t) H
theorem ok_m_Hall_pairing (T : Env K mg) : FnOk P w K mg base CX0 1 T.f_m_Hall_pairing T.d_m_Hall_pairing ["self"] (spHallPairing T.C_Hall) := by
  refine T.F_m_Hall_pairing.ok sc_m_Hall_pairing (fun vs H Q E h => ?_) (fun cdv A outer s H vs Q E hr h => ?_)
  · obtain ⟨x, t, rfl, _⟩ := h
    rfl
  · obtain ⟨x, t, rfl, ⟨dx, p, q', u, h1, h2, h3⟩, q⟩ := h
    refine ⟨_, pss_one (ps_ret (pe_ix ix_tup (pe_ix ix_list (pe_fld (pv 0) rfl) (pe_un un_neg pe_int) (fun _ _ => rfl)) pe_int (fun _ _ => rfl))), ?_⟩
    exact ⟨_, rfl, x, T.C_Hall, dx, _, _, rfl, h1, T.cl_Hall, T.nF_Hall_past, hfl_past _ _, 1, rfl, p, _, -1, _, rfl, rfl, .inl (.inl h2), rfl, u, _, 0, _, rfl, rfl, .inl (.inl h3), rfl, q⟩
def spHallDeeds (C : Addr) : Sp := fun vs H Q _ => ∃ (x t : Addr), vs = [.ref x] ∧ HallAt C H x t ∧ Q (.int 0) H
theorem ok_m_Hall_deeds (T : Env K mg) : FnOk P w K mg base CX0 1 T.f_m_Hall_deeds T.d_m_Hall_deeds ["self"] (spHallDeeds T.C_Hall) := by
  refine T.F_m_Hall_deeds.ok sc_m_Hall_deeds (fun vs H Q E h => ?_) (fun cdv A outer s H vs Q E hr h => ?_)
  · obtain ⟨x, t, rfl, _⟩ := h
    rfl
  · obtain ⟨x, t, rfl, ⟨dx, p, q', u, h1, h2, h3⟩, q⟩ := h
    refine ⟨_, pss_one (ps_ret (pe_op op_sub (pe_callB call_len_seq (by rfl) T.n_len PySem.boot_len (pa_cons (pe_fld (pv 0) rfl) pa_nil)) pe_int)), ?_⟩
    exact ⟨_, rfl, x, T.C_Hall, dx, _, _, rfl, h1, T.cl_Hall, T.nF_Hall_past, hfl_past _ _, p, _, rfl, .inl (.inl (.inl h2)), _, 1, rfl, rfl, q⟩
end
end Pc
namespace Pc
open PySem PySem.Spec PyProof.Rows L2 RZ
/-! ### words that are spoilt (also in lib46: never both) -/
def zz (p : Nat × Nat) : Int × Int := ((p.1 : Int), (p.2 : Int))
theorem itemsZ_prs {K : PySem.W.Frag} {H : Hp} {as : List Addr} {qs : List (Nat × Nat)} (h : Prs H as qs) : ItemsZ K H (as.map V.ref) (qs.map zz) := ⟨by rw [List.length_map, List.length_map]; exact h.length, fun i v hv => by
  rw [List.getElem?_map] at hv
  cases e : as[i]? with
  | none => rw [e] at hv; cases hv
  | some c =>
    rw [e] at hv
    obtain ⟨p, h1, h2⟩ := prs_get h e
    exact ⟨c, zz p, (Option.some.inj hv).symm, by rw [List.getElem?_map, h1]; rfl, .inr (.inl (.inl h2))⟩⟩
theorem itemsZ_app {K : PySem.W.Frag} {H : Hp} {us vs : List V} {qs rs : List (Int × Int)} (h : ItemsZ K H us qs) (g : ItemsZ K H vs rs) : ItemsZ K H (us ++ vs) (qs ++ rs) := ⟨by rw [List.length_append, List.length_append, h.1, g.1], fun i v hv => by
  by_cases c : i < us.length
  · rw [List.getElem?_append_left c] at hv
    obtain ⟨a, p, e1, e2, e3⟩ := h.2 i v hv
    exact ⟨a, p, e1, by rw [List.getElem?_append_left (by rw [← h.1]; exact c)]; exact e2, e3⟩
  · rw [List.getElem?_append_right (by omega)] at hv
    obtain ⟨a, p, e1, e2, e3⟩ := g.2 _ v hv
    exact ⟨a, p, e1, by rw [List.getElem?_append_right (by rw [← h.1]; omega), ← h.1]; exact e2, e3⟩⟩
theorem itemsZ_two {K : PySem.W.Frag} {H : Hp} {a b : Addr} {x y x' y' : Int} (ha : H a = some (.tup [.int x, .int y])) (hb : H b = some (.tup [.int x', .int y'])) : ItemsZ K H [.ref a, .ref b] [(x, y), (x', y')] := ⟨rfl, fun i v hv => by
  have hi : i < 2 := get_lt hv
  rcases (show i = 0 ∨ i = 1 by omega) with rfl | rfl
  · exact ⟨a, _, (Option.some.inj hv).symm, rfl, .inr (.inl (.inl ha))⟩
  · exact ⟨b, _, (Option.some.inj hv).symm, rfl, .inr (.inl (.inl hb))⟩⟩
theorem badP_zz {n : Nat} {p : Nat × Nat} (h1 : p.1 < n) (h2 : p.2 < n) : badP n (zz p) = none := by
  unfold badP zz
  rw [if_neg (by rw [outP_no.mpr ⟨by show (0 : Int) ≤ (p.1 : Int); omega, by show (p.1 : Int) < (n : Int); omega⟩]; exact Bool.false_ne_true), if_neg (by rw [outP_no.mpr ⟨by show (0 : Int) ≤ (p.2 : Int); omega, by show (p.2 : Int) < (n : Int); omega⟩]; exact Bool.false_ne_true)]
theorem badW_zz {n : Nat} {rs : List (Int × Int)} : ∀ {qs : List (Nat × Nat)}, Calls n qs → badW n (qs.map zz ++ rs) = badW n rs
  | [], _ => rfl
  | p :: qs, h => by
    have hp := h p List.mem_cons_self
    show (match badP n (zz p) with | some u => some u | none => badW n (qs.map zz ++ rs)) = _
    rw [badP_zz (by omega) (by omega)]
    exact badW_zz (qs := qs) fun q hq => h q (List.mem_cons_of_mem _ hq)
end Pc
namespace Pc
open PySem PySem.Spec PyProof.Rows L2 RZ
/-! ### (also in lib46: never both) -/
theorem badP_fst {n a b : Int} (h : ¬ (0 ≤ a ∧ a < n)) : badP n (a, b) = some a := by
  unfold badP; rw [if_pos (outP_yes.mpr h)]
theorem badP_snd {n a b : Int} (h : 0 ≤ a ∧ a < n) (g : ¬ (0 ≤ b ∧ b < n)) : badP n (a, b) = some b := by
  unfold badP; rw [if_neg (by rw [outP_no.mpr h]; exact Bool.false_ne_true), if_pos (outP_yes.mpr g)]
end Pc
namespace Pc
open PySem PySem.Spec PyProof.Rows L2 RZ
theorem itemsZ_rep {K : PySem.W.Frag} {H : Hp} {c : Addr} (h : H c = some (.tup [.int 0, .int 1])) (k : Nat) : ItemsZ K H (List.replicate k (V.ref c)) (List.replicate k (0, 1)) := by
  refine ⟨by rw [List.length_replicate, List.length_replicate], fun i v hv => ?_⟩
  have hi := get_lt hv
  rw [List.length_replicate] at hi
  rw [List.getElem?_replicate, if_pos hi] at hv
  exact ⟨c, (0, 1), (Option.some.inj hv).symm, by rw [List.getElem?_replicate, if_pos hi], .inr (.inl (.inl h))⟩
theorem badW_rep {n : Nat} (h : 2 ≤ n) {rs : List (Int × Int)} : ∀ {k : Nat}, badW n (List.replicate k (0, 1) ++ rs) = badW n rs
  | 0 => rfl
  | k + 1 => by
    have e : badP (n : Int) (0, 1) = none := by
      unfold badP
      rw [if_neg (by rw [outP_no.mpr ⟨by omega, by omega⟩]; exact Bool.false_ne_true), if_neg (by rw [outP_no.mpr ⟨by show (0 : Int) ≤ 1; omega, by show (1 : Int) < n; omega⟩]; exact Bool.false_ne_true)]
    rw [List.replicate_succ, List.cons_append]
    show (match badP (n : Int) (0, 1) with | some u => some u | none => badW n (List.replicate k (0, 1) ++ rs)) = badW n rs
    rw [e]
    exact badW_rep h
theorem last_snoc (l : List V) (v : V) : atI (l ++ [v]) (-1) = some v := atI_last _ _
theorem cut_front (l : List V) (v : V) : cutV (l ++ [v]) none (some (-1)) = l := by
  unfold cutV
  have e : HT.sIx (l ++ [v]).length (l ++ [v]).length (some (-1)) = l.length := by
    show (if (-1 : Int) < 0 then ((-1 : Int) + ((l ++ [v]).length : Int)).toNat else min (-1 : Int).toNat (l ++ [v]).length) = _
    rw [if_pos (by decide), List.length_append, List.length_singleton]
    omega
  rw [e, HT.sIx_none, List.drop_zero, Nat.sub_zero, List.take_left]
end Pc
namespace Pc
open PySem PySem.Spec PyProof.Rows L2 RZ
section
variable {P : Program} {w : World} {K : PySem.W.Frag} {mg : Str → Option Value} {base : Heap}
/-! ### people who are not there: more doors -/
def spWithoutX (K : PySem.W.Frag) (C : Addr) : Sp := fun vs H _ E => ∃ (p : Addr) (ps : List Nat) (u : Int), vs = [.ref p, .int u] ∧ Sq K H p (nv ps) ∧ ¬ (0 ≤ u ∧ u < (ps.length : Nat)) ∧ Flies C "person" (.int u) H E
theorem okx_p_without (T : Env K mg) : FnOk P w K mg base (L2.CX P w) 4 T.f_p_without T.d_p_without ["pairing", "person"] (spWithoutX K T.C_NoPerson) := by
  have GX : FnOk P w K mg base (L2.CX P w) 3 T.f_p_check_person T.d_p_check_person ["size", "person"] (spPersonX T.C_NoPerson) := okx_p_check_person T
  refine T.F_p_without.okX sc_p_without (fun vs H Q E h => ?_) (fun cdv A outer s H vs Q E hr h => ?_)
  · obtain ⟨p, ps, u, rfl, _⟩ := h
    rfl
  · obtain ⟨p, ps, u, rfl, hp, hu, hF⟩ := h
    refine ⟨_, pss_cons (ps_expr (pe_callS GX hr (by rfl) T.g_p_check_person T.F_p_check_person.kp T.b_p_check_person (fun σ => passAt (takes_of rfl rfl rfl rfl) σ) (pa_cons (pe_callB call_len_seq (by rfl) T.n_len PySem.boot_len (pa_cons (pv 0) pa_nil)) (pa_cons (pv 1) pa_nil)))) pss_never, ?_⟩
    exact ⟨.ref p, rfl, p, _, rfl, hp, _, rfl, (ps.length : Nat), u, (by rw [nv_length]), hu, hF⟩
theorem okx_p_word_renumbered (T : Env K mg) : FnOk P w K mg base (L2.CX P w) 6 T.f_p_word_renumbered T.d_p_word_renumbered ["word", "numbers"] (fun vs H Q E => ∃ (p wd : Addr), vs = [.ref wd, .ref p] ∧ spWdX K T.C_NoPerson [.ref p, .ref wd] H Q E) := by
  have G1 : FnOk P w K mg base (L2.CX P w) 5 T.f_p_check_word T.d_p_check_word ["size", "word"] (spWordE K T.C_NoPerson) := oke_p_check_word T
  refine T.F_p_word_renumbered.okX sc_p_word_renumbered (fun vs H Q E h => ?_) (fun cdv A outer s H vs Q E hr h => ?_)
  · obtain ⟨p, wd, rfl, _⟩ := h
    rfl
  · obtain ⟨p0, wd0, rfl, p, wd, ps, us, qs, n, x, e, hp, hl, hw, hI, hb, hF⟩ := h
    cases e
    refine ⟨_, pss_cons (ps_expr (pe_callS G1 hr (by rfl) T.g_p_check_word T.F_p_check_word.kp T.b_p_check_word (fun σ => passAt (takes_of rfl rfl rfl rfl) σ) (pa_cons (pe_callB call_len_seq (by rfl) T.n_len PySem.boot_len (pa_cons (pv 1) pa_nil)) (pa_cons (pv 0) pa_nil)))) pss_never, ?_⟩
    exact ⟨.ref p0, rfl, p0, _, rfl, hp, .ref wd0, rfl, n, wd0, us, qs, (by rw [nv_length, hl]), hw, hI, by rw [hb]; exact hF⟩
def spWnX (K : PySem.W.Frag) (C : Addr) : Sp := fun vs H _ E => ∃ (p wd : Addr) (ps : List Nat) (us : List V) (qs : List (Int × Int)) (n : Nat) (x : Int), vs = [.ref p, .ref p, .ref wd] ∧ Sq K H p (nv ps) ∧ IsPair n ps ∧ n ≤ 500 ∧ Sq K H wd us ∧ ItemsZ K H us qs ∧ badW n qs = some x ∧ Flies C "person" (.int x) H E
theorem okx_p_word_number (T : Env K mg) : FnOk P w K mg base (L2.CX P w) 6 T.f_p_word_number T.d_p_word_number ["one", "other", "word"] (spWnX K T.C_NoPerson) := by
  have GD : FnOk P w K mg base CX0 3 T.f_p_distance T.d_p_distance ["one", "other"] (spDist K) := ok_p_distance T
  have G1 : FnOk P w K mg base (L2.CX P w) 5 T.f_p_check_word T.d_p_check_word ["size", "word"] (spWordE K T.C_NoPerson) := oke_p_check_word T
  refine T.F_p_word_number.okX sc_p_word_number (fun vs H Q E h => ?_) (fun cdv A outer s H vs Q E hr h => ?_)
  · obtain ⟨p, wd, ps, us, qs, n, x, rfl, _⟩ := h
    rfl
  · obtain ⟨p, wd, ps, us, qs, n, x, rfl, hp, hP, hn, hw, hI, hb, hF⟩ := h
    refine ⟨_, pss_cons (ps_set (i := 3) sc_p_word_number.nd rfl (by first | exact .inl rfl | exact .inr rfl) (pe_call GD (hr.mono (by decide)) (by rfl) T.g_p_distance T.F_p_distance.kp T.b_p_distance .nil pass0 (pa_cons (pv 0) (pa_cons (pv 1) pa_nil)))) <| pss_cons (ps_expr (pe_callS G1 hr (by rfl) T.g_p_check_word T.F_p_check_word.kp T.b_p_check_word (fun σ => passAt (takes_of rfl rfl rfl rfl) σ) (pa_cons (pe_callB call_len_seq (by rfl) T.n_len PySem.boot_len (pa_cons (pv 0) pa_nil)) (pa_cons (pv 2) pa_nil)))) pss_never, ?_⟩
    exact ⟨.ref p, rfl, .ref p, rfl, p, p, ps, ps, n, rfl, hp, hp, hP, hP, hn, fun H1 ls hR s1 => ⟨.ref p, rfl, p, _, rfl, hp.same s1, .ref wd, rfl, n, wd, us, qs, (by rw [nv_length, hP.len]), hw.same s1, hI.same s1, by rw [hb]; exact hF.same s1⟩⟩
/-! ### halls -/
def spHallX (K : PySem.W.Frag) (C D : Addr) (n : Nat) (ps : List Nat) (x p : Addr) (H : Hp) : Prop := HallAt D H x p ∧ Sq K H p (nv ps) ∧ IsPair n ps ∧ 0 < n ∧ n ≤ 500
def spLeaveX (K : PySem.W.Frag) (C D : Addr) : Sp := fun vs H _ E => ∃ (x p : Addr) (ps : List Nat) (n : Nat) (u : Int), vs = [.ref x, .int u] ∧ spHallX K C D n ps x p H ∧ ¬ (0 ≤ u ∧ u < n) ∧ Flies C "person" (.int u) H E
def spHCallX (K : PySem.W.Frag) (C D : Addr) : Sp := fun vs H _ E => ∃ (x p : Addr) (ps : List Nat) (n : Nat) (u v : Int), vs = [.ref x, .int u, .int v] ∧ spHallX K C D n ps x p H ∧ ¬ (0 ≤ u ∧ u < n) ∧ Flies C "person" (.int u) H E
def spRunX (K : PySem.W.Frag) (C D : Addr) : Sp := fun vs H _ E => ∃ (x p wd : Addr) (ps : List Nat) (us : List V) (qs : List (Int × Int)) (n : Nat) (u : Int), vs = [.ref x, .ref wd] ∧ spHallX K C D n ps x p H ∧ Sq K H wd us ∧ ItemsZ K H us qs ∧ badW n qs = some u ∧ Flies C "person" (.int u) H E
def spRepeatX (K : PySem.W.Frag) (C D : Addr) : Sp := fun vs H _ E => ∃ (x p wd : Addr) (ps : List Nat) (us : List V) (qs : List (Int × Int)) (n : Nat) (u k : Int), vs = [.ref x, .ref wd, .int k] ∧ spHallX K C D n ps x p H ∧ Sq K H wd us ∧ ItemsZ K H us qs ∧ badW n qs = some u ∧ Flies C "person" (.int u) H E
theorem okx_m_Hall_leave (T : Env K mg) : FnOk P w K mg base (L2.CX P w) 7 T.f_m_Hall_leave T.d_m_Hall_leave ["self", "person"] (spLeaveX K T.C_NoPerson T.C_Hall) := by
  have GP : FnOk P w K mg base CX0 1 T.f_m_Hall_pairing T.d_m_Hall_pairing ["self"] (spHallPairing T.C_Hall) := ok_m_Hall_pairing T
  have GK : FnOk P w K mg base CX0 1 T.f_m_Hall_keep T.d_m_Hall_keep ["self", "after", "added"] (fun _ _ _ _ => False) := fn_never (fun _ _ _ _ h => h)
  have GW : FnOk P w K mg base (L2.CX P w) 4 T.f_p_without T.d_p_without ["pairing", "person"] (spWithoutX K T.C_NoPerson) := okx_p_without T
  refine T.F_m_Hall_leave.okX sc_m_Hall_leave (fun vs H Q E h => ?_) (fun cdv A outer s H vs Q E hr h => ?_)
  · obtain ⟨x, p, ps, n, u, rfl, _⟩ := h
    rfl
  · obtain ⟨x, p, ps, n, u, rfl, ⟨hH, hp, hP, h0, hn⟩, hu, hF⟩ := h
    have h1 := hr.mono (show 1 ≤ 6 by decide)
    refine ⟨_, pss_cons (ps_set (i := 2) sc_m_Hall_leave.nd rfl (by first | exact .inl rfl | exact .inr rfl) (pe_meth0 (pv 0) T.cl_Hall T.me_Hall_pairing GP h1 T.b_m_Hall_pairing .nil pass0)) <| pss_cons (ps_expr (pe_meth (pv 0) T.cl_Hall T.me_Hall_keep GK h1 T.b_m_Hall_keep .nil pass0 (pa_cons (pe_callS GW (hr.mono (by decide)) (by rfl) T.g_p_without T.F_p_without.kp T.b_p_without (fun σ => passAt (takes_of rfl rfl rfl rfl) σ) (pa_cons (pv 2) (pa_cons (pv 1) pa_nil))) (pa_cons pe_non pa_nil)))) pss_never, ?_⟩
    obtain ⟨dx, q1, q2, q3, g1, g2, g3⟩ := id hH
    exact ⟨_, rfl, x, dx, _, rfl, g1, hfl_no _ _ (by decide +kernel) (by decide +kernel), x, p, rfl, hH, _, rfl, x, dx, _, rfl, g1, hfl_no _ _ (by decide +kernel) (by decide +kernel), .ref p, rfl, _, rfl, p, ps, u, rfl, hp, by rw [hP.len]; exact hu, hF⟩
theorem okx_m_Hall_call (T : Env K mg) : FnOk P w K mg base (L2.CX P w) 8 T.f_m_Hall_call T.d_m_Hall_call ["self", "a", "b"] (spHCallX K T.C_NoPerson T.C_Hall) := by
  have GP : FnOk P w K mg base CX0 1 T.f_m_Hall_pairing T.d_m_Hall_pairing ["self"] (spHallPairing T.C_Hall) := ok_m_Hall_pairing T
  have GK : FnOk P w K mg base CX0 1 T.f_m_Hall_keep T.d_m_Hall_keep ["self", "after", "added"] (fun _ _ _ _ => False) := fn_never (fun _ _ _ _ h => h)
  have GW : FnOk P w K mg base (L2.CX P w) 7 T.f_p_called T.d_p_called ["pairing", "call"] (spCdX K T.C_NoPerson) := okx_p_called T
  refine T.F_m_Hall_call.okX sc_m_Hall_call (fun vs H Q E h => ?_) (fun cdv A outer s H vs Q E hr h => ?_)
  · obtain ⟨x, p, ps, n, u, v, rfl, _⟩ := h
    rfl
  · obtain ⟨x, p, ps, n, u, v, rfl, ⟨hH, hp, hP, h0, hn⟩, hu, hF⟩ := h
    have h1 := hr.mono (show 1 ≤ 7 by decide)
    refine ⟨_, pss_cons (ps_set (i := 3) sc_m_Hall_call.nd rfl (by first | exact .inl rfl | exact .inr rfl) (pe_meth0 (pv 0) T.cl_Hall T.me_Hall_pairing GP h1 T.b_m_Hall_pairing .nil pass0)) <| pss_cons (ps_expr (pe_meth (pv 0) T.cl_Hall T.me_Hall_keep GK h1 T.b_m_Hall_keep .nil pass0 (pa_cons (pe_callS GW hr (by rfl) T.g_p_called T.F_p_called.kp T.b_p_called (fun σ => passAt (takes_of rfl rfl rfl rfl) σ) (pa_cons (pv 3) (pa_cons (pe_tup (pa_cons (pv 1) (pa_cons (pv 2) pa_nil))) pa_nil))) (pa_cons (pe_tup (pa_cons (pe_tup (pa_cons (pv 1) (pa_cons (pv 2) pa_nil))) pa_nil)) pa_nil)))) pss_never, ?_⟩
    obtain ⟨dx, q1, q2, q3, g1, g2, g3⟩ := id hH
    exact ⟨_, rfl, x, dx, _, rfl, g1, hfl_no _ _ (by decide +kernel) (by decide +kernel), x, p, rfl, hH, _, rfl, x, dx, _, rfl, g1, hfl_no _ _ (by decide +kernel) (by decide +kernel), .ref p, rfl, _, rfl, _, rfl, (by show 2 ≤ sizeLine; decide), fun c nc => ⟨p, c, ps, n, u, v, u, rfl, hp.same (same_new nc), hP.len, .inr (.inl (.inl upd_same)), badP_fst hu, hF.same (same_new nc)⟩⟩
theorem okx_m_Hall_run (T : Env K mg) : FnOk P w K mg base (L2.CX P w) 7 T.f_m_Hall_run T.d_m_Hall_run ["self", "word"] (spRunX K T.C_NoPerson T.C_Hall) := by
  have GP : FnOk P w K mg base CX0 1 T.f_m_Hall_pairing T.d_m_Hall_pairing ["self"] (spHallPairing T.C_Hall) := ok_m_Hall_pairing T
  have GW : FnOk P w K mg base (L2.CX P w) 6 T.f_p_idle_calls T.d_p_idle_calls ["pairing", "word"] (spWdX K T.C_NoPerson) := okx_p_idle_calls T
  refine T.F_m_Hall_run.okX sc_m_Hall_run (fun vs H Q E h => ?_) (fun cdv A outer s H vs Q E hr h => ?_)
  · obtain ⟨x, p, wd, ps, us, qs, n, u, rfl, _⟩ := h
    rfl
  · obtain ⟨x, p, wd, ps, us, qs, n, u, rfl, ⟨hH, hp, hP, h0, hn⟩, hw, hI, hb, hF⟩ := h
    have h1 := hr.mono (show 1 ≤ 6 by decide)
    refine ⟨_, pss_cons (ps_set (i := 2) sc_m_Hall_run.nd rfl (by first | exact .inl rfl | exact .inr rfl) (pe_meth0 (pv 0) T.cl_Hall T.me_Hall_pairing GP h1 T.b_m_Hall_pairing .nil pass0)) <| pss_cons (ps_set (i := 3) sc_m_Hall_run.nd rfl (by first | exact .inl rfl | exact .inr rfl) (pe_callS GW hr (by rfl) T.g_p_idle_calls T.F_p_idle_calls.kp T.b_p_idle_calls (fun σ => passAt (takes_of rfl rfl rfl rfl) σ) (pa_cons (pv 2) (pa_cons (pv 1) pa_nil)))) pss_never, ?_⟩
    obtain ⟨dx, q1, q2, q3, g1, g2, g3⟩ := id hH
    exact ⟨_, rfl, x, dx, _, rfl, g1, hfl_no _ _ (by decide +kernel) (by decide +kernel), x, p, rfl, hH, .ref p, rfl, .ref wd, rfl, p, wd, ps, us, qs, n, u, rfl, hp, hP.len, hw, hI, hb, hF⟩
theorem okx_m_Hall_repeat (T : Env K mg) : FnOk P w K mg base (L2.CX P w) 9 T.f_m_Hall_repeat T.d_m_Hall_repeat ["self", "word", "many"] (spRepeatX K T.C_NoPerson T.C_Hall) := by
  have GP : FnOk P w K mg base CX0 1 T.f_m_Hall_pairing T.d_m_Hall_pairing ["self"] (spHallPairing T.C_Hall) := ok_m_Hall_pairing T
  have GW : FnOk P w K mg base (L2.CX P w) 8 T.f_p_repeated T.d_p_repeated ["pairing", "word", "many"] (spRepX K T.C_NoPerson) := okx_p_repeated T
  refine T.F_m_Hall_repeat.okX sc_m_Hall_repeat (fun vs H Q E h => ?_) (fun cdv A outer s H vs Q E hr h => ?_)
  · obtain ⟨x, p, wd, ps, us, qs, n, u, k, rfl, _⟩ := h
    rfl
  · obtain ⟨x, p, wd, ps, us, qs, n, u, k, rfl, ⟨hH, hp, hP, h0, hn⟩, hw, hI, hb, hF⟩ := h
    have h1 := hr.mono (show 1 ≤ 8 by decide)
    refine ⟨_, pss_cons (ps_set (i := 3) sc_m_Hall_repeat.nd rfl (by first | exact .inl rfl | exact .inr rfl) (pe_meth0 (pv 0) T.cl_Hall T.me_Hall_pairing GP h1 T.b_m_Hall_pairing .nil pass0)) <| pss_cons (ps_set (i := 4) sc_m_Hall_repeat.nd rfl (by first | exact .inl rfl | exact .inr rfl) (pe_callS GW hr (by rfl) T.g_p_repeated T.F_p_repeated.kp T.b_p_repeated (fun σ => passAt (takes_of rfl rfl rfl rfl) σ) (pa_cons (pv 3) (pa_cons (pv 1) (pa_cons (pv 2) pa_nil))))) pss_never, ?_⟩
    obtain ⟨dx, q1, q2, q3, g1, g2, g3⟩ := id hH
    exact ⟨_, rfl, x, dx, _, rfl, g1, hfl_no _ _ (by decide +kernel) (by decide +kernel), x, p, rfl, hH, .ref p, rfl, .ref wd, rfl, _, rfl, p, wd, ps, us, qs, n, u, k, rfl, hp, hP.len, h0, hn, hw, hI, hb, hF⟩
end
end Pc
namespace Pc
open PySem PySem.Spec PyProof.Rows L2 RZ
section
variable {P : Program} {w : World} {K : PySem.W.Frag} {mg : Str → Option Value} {base : Heap}
/-! ### the law's doors -/
def spPers (K : PySem.W.Frag) (C : Addr) : Sp := fun vs H _ E => ∃ (d u : Int) (st pg : Addr) (f g : List Nat) (n : Nat), vs = [.int d, .ref st, .ref pg, .int u] ∧ 0 ≤ d ∧ d < 7 ∧ Sq K H pg (nv f) ∧ IsPair (2 * n) f ∧ Sq K H st (nv g) ∧ IsPair n g ∧ 2 ≤ n ∧ n ≤ 500 ∧ ¬ (0 ≤ u ∧ u < n) ∧ Flies C "person" (.int u) H E
theorem nil_items {H : Hp} : Items K H [] [] := ⟨rfl, fun i v h => by simp at h⟩
theorem nil_calls {n : Nat} : Calls n [] := fun _ h => absurd h List.not_mem_nil
theorem okx_person (T : Env K mg) : FnOk P w K mg base (L2.CX P w) 9 T.f_person T.d_person ["_law_door", "_law_start", "_law_page", "_law_odd"] (spPers K T.C_NoPerson) := by
  have GS : FnOk P w K mg base (L2.CX P w) 8 T.f_p_shows_path T.d_p_shows_path ["sheet", "pairing", "person", "value"] (spP4 K T.C_NoPerson) := (okx_p_shows_path T).mono (by decide)
  have GQ : FnOk P w K mg base (L2.CX P w) 8 T.f_p_partners_of T.d_p_partners_of ["sheet", "person"] (spPartnersX K T.C_NoPerson) := (okx_p_partners_of T).mono (by decide)
  have GW : FnOk P w K mg base (L2.CX P w) 8 T.f_p_without T.d_p_without ["pairing", "person"] (spWithoutX K T.C_NoPerson) := (okx_p_without T).mono (by decide)
  have GF : FnOk P w K mg base (L2.CX P w) 8 T.f_p_first_time T.d_p_first_time ["pairing", "word", "person", "partner"] (spFirstY K T.C_NoPerson) := oky_p_first_time T
  refine T.F_person.okX sc_person (fun vs H Q E h => ?_) (fun cdv A outer s H vs Q E hr h => ?_)
  · obtain ⟨d, u, st, pg, f, g, n, rfl, _⟩ := h
    rfl
  · obtain ⟨d, u, st, pg, f, g, n, rfl, h0, h7, hf, hF, hg, hG, hn2, hn, hu, hX⟩ := h
    have hO : OP K T.C_NoPerson pg st u H E := ⟨f, g, n, hf, hF.len, hg, hG.len, hu, hX⟩
    refine ⟨_, pss_cons (ps_if (pt_cmpR op_lt (pv 0) pe_int (nomark _)) (pss_one (ps_ret (pe_callF (cs := [(T.f_p_path, spP3 K T.C_NoPerson), (T.f_p_couples_on, spP3 K T.C_NoPerson)]) (fall_cons (sp := spP3 K T.C_NoPerson) ⟨8, _, _, (okx_p_path T).mono (by decide), hr, T.F_p_path.kp, T.b_p_path⟩ (fall_cons (sp := spP3 K T.C_NoPerson) ⟨8, _, _, (okx_p_couples_on T).mono (by decide), hr, T.F_p_couples_on.kp, T.b_p_couples_on⟩ fall_nil)) (fun σ => passAt (takes_of rfl rfl rfl rfl) σ) (pe_ix (r := rIxL K) ix_list (pe_lst (pa_cons (pe_glob (v := .ref T.f_p_path) (by rfl) T.g_p_path rfl) (pa_cons (pe_glob (v := .ref T.f_p_couples_on) (by rfl) T.g_p_couples_on rfl) pa_nil))) (pv 0) (fun _ _ => rfl)) (pa_cons (pv 2) (pa_cons (pv 1) (pa_cons (pv 3) pa_nil)))))) pss_nil) <|
      pss_cons (ps_if (pt_cmpR op_eq (pv 0) pe_int (nomark _)) (pss_one (ps_ret (pe_callS GS hr (by rfl) T.g_p_shows_path T.F_p_shows_path.kp T.b_p_shows_path (fun σ => passAt (takes_of rfl rfl rfl rfl) σ) (pa_cons (pv 2) (pa_cons (pv 1) (pa_cons (pv 3) (pa_cons (pe_lst pa_nil) pa_nil))))))) pss_nil) <|
      pss_cons (ps_if (pt_cmpR op_lt (pv 0) pe_int (nomark _)) (pss_one (ps_ret (pe_ifExp (pt_cmpR op_eq (pv 0) pe_int (nomark _)) (pe_callS GQ hr (by rfl) T.g_p_partners_of T.F_p_partners_of.kp T.b_p_partners_of (fun σ => passAt (takes_of rfl rfl rfl rfl) σ) (pa_cons (pv 2) (pa_cons (pv 3) pa_nil))) (pe_callS GW hr (by rfl) T.g_p_without T.F_p_without.kp T.b_p_without (fun σ => passAt (takes_of rfl rfl rfl rfl) σ) (pa_cons (pv 1) (pa_cons (pv 3) pa_nil)))))) pss_nil) <|
      pss_one (ps_ret (pe_ifExp (pt_cmpR op_eq (pv 0) pe_int (nomark _)) (pe_callS GF hr (by rfl) T.g_p_first_time T.F_p_first_time.kp T.b_p_first_time (fun σ => passAt (takes_of rfl rfl rfl rfl) σ) (pa_cons (pv 1) (pa_cons (pe_lst pa_nil) (pa_cons (pv 3) (pa_cons (pe_un un_neg pe_int) pa_nil))))) (pe_callS GF hr (by rfl) T.g_p_first_time T.F_p_first_time.kp T.b_p_first_time (fun σ => passAt (takes_of rfl rfl rfl rfl) σ) (pa_cons (pv 1) (pa_cons (pe_lst pa_nil) (pa_cons pe_int (pa_cons (pv 3) pa_nil))))))), ?_⟩
    refine ⟨_, rfl, _, _, rfl, rfl, _, rfl, ?_⟩
    by_cases c1 : d < 2
    · refine iteY (decide_eq_true c1) ?_
      rcases (show d = 0 ∨ d = 1 by omega) with rfl | rfl
      · exact ⟨(by show 2 ≤ sizeLine; decide), fun l nl => ⟨_, rfl, l, _, _, V.ref T.f_p_path, rfl, rfl, .inl (.inl upd_same), rfl, T.f_p_path, spP3 K T.C_NoPerson, (.head _), rfl, _, rfl, _, rfl, _, rfl, pg, st, u, rfl, hO.same (same_new nl)⟩⟩
      · exact ⟨(by show 2 ≤ sizeLine; decide), fun l nl => ⟨_, rfl, l, _, _, V.ref T.f_p_couples_on, rfl, rfl, .inl (.inl upd_same), rfl, T.f_p_couples_on, spP3 K T.C_NoPerson, (.tail _ (.head _)), rfl, _, rfl, _, rfl, _, rfl, pg, st, u, rfl, hO.same (same_new nl)⟩⟩
    refine iteX (decide_eq_false c1) ⟨_, rfl, rfl, _, rfl, ?_⟩
    by_cases c2 : d = 2
    · subst c2
      exact iteY rfl ⟨_, rfl, _, rfl, _, rfl, (by show 0 ≤ sizeLine; decide), fun l nl => ⟨pg, st, u, _, rfl, hO.same (same_new nl)⟩⟩
    refine iteX (decide_eq_false (fun z => c2 (by have := V.int.inj z; omega))) ⟨_, rfl, _, _, rfl, rfl, _, rfl, ?_⟩
    by_cases c3 : d < 5
    · refine iteY (decide_eq_true c3) ⟨_, rfl, rfl, _, rfl, ?_⟩
      rcases (show d = 3 ∨ d = 4 by omega) with rfl | rfl
      · exact iteY rfl ⟨_, rfl, _, rfl, pg, f, n, u, rfl, hf, hF, hu, hX⟩
      · exact iteX rfl ⟨_, rfl, _, rfl, st, g, u, rfl, hg, by rw [hG.len]; exact hu, hX⟩
    refine iteX (decide_eq_false c3) ⟨_, rfl, rfl, _, rfl, ?_⟩
    rcases (show d = 5 ∨ d = 6 by omega) with rfl | rfl
    · exact iteY rfl ⟨_, rfl, (by show 0 ≤ sizeLine; decide), fun l nl => ⟨_, rfl, 9, rfl, st, l, g, [], [], n, u, u, _, rfl, hg.same (same_new nl), hG.len, by omega, hn, .inl (.inl (.inl upd_same)), nil_items, nil_calls, badP_fst hu, hX.same (same_new nl)⟩⟩
    · exact iteX rfl ⟨_, rfl, (by show 0 ≤ sizeLine; decide), fun l nl => ⟨_, rfl, st, l, g, [], [], n, u, 0, u, rfl, hg.same (same_new nl), hG.len, by omega, hn, .inl (.inl (.inl upd_same)), nil_items, nil_calls, badP_snd ⟨by omega, by omega⟩ hu, hX.same (same_new nl)⟩⟩
def Rw (K : PySem.W.Frag) (n : Nat) (u : Int) (row : Addr) (H : Hp) (us : List V) (qs : List (Int × Int)) : Prop := SqL K H row us ∧ ItemsZ K H us qs ∧ badW n qs = some u
def Lst (K : PySem.W.Frag) (n : Nat) (u : Int) (H : Hp) (us : List V) : Prop := ∃ (c : Addr) (y z : Int), atI us (-1) = some (.ref c) ∧ Sq K H c [.int y, .int z] ∧ badP n (y, z) = some u
theorem Rw.same {n : Nat} {u : Int} {row : Addr} {H H' : Hp} {us : List V} {qs : List (Int × Int)} (h : Rw K n u row H us qs) (s : Same H H') : Rw K n u row H' us qs := ⟨s.seq h.1, h.2.1.same s, h.2.2⟩
theorem Lst.same {n : Nat} {u : Int} {H H' : Hp} {us : List V} (h : Lst K n u H us) (s : Same H H') : Lst K n u H' us := by
  obtain ⟨c, y, z, h1, h2, h3⟩ := h
  exact ⟨c, y, z, h1, h2.same s, h3⟩
def spByW (K : PySem.W.Frag) (C : Addr) : Sp := fun vs H _ E => ∃ (d u : Int) (st pg row : Addr) (f g : List Nat) (n : Nat) (us : List V) (qs : List (Int × Int)), vs = [.int d, .ref st, .ref pg, .ref row] ∧ 0 ≤ d ∧ d < 12 ∧ Sq K H pg (nv f) ∧ IsPair (2 * n) f ∧ Sq K H st (nv g) ∧ IsPair n g ∧ 2 ≤ n ∧ n ≤ 500 ∧ Rw K n u row H us qs ∧ (d < 10 ∨ Lst K n u H us) ∧ Flies C "person" (.int u) H E
theorem sett_wd {C : Addr} : ∀ vs H Q E, spSettX K C vs H Q E → spWdX K C vs H Q E := fun _ _ _ _ ⟨p, wd, ps, us, qs, n, x, e, a, b, _, _, c⟩ => ⟨p, wd, ps, us, qs, n, x, e, a, b, c⟩
theorem okx_by_word (T : Env K mg) : FnOk P w K mg base (L2.CX P w) 9 T.f_by_word T.d_by_word ["_law_door", "_law_start", "_law_page", "_law_row"] (spByW K T.C_NoPerson) := by
  have GR : FnOk P w K mg base (L2.CX P w) 8 T.f_p_repeated T.d_p_repeated ["pairing", "word", "many"] (spRepX K T.C_NoPerson) := okx_p_repeated T
  have GN : FnOk P w K mg base (L2.CX P w) 8 T.f_p_word_number T.d_p_word_number ["one", "other", "word"] (spWnX K T.C_NoPerson) := (okx_p_word_number T).mono (by decide)
  have GF : FnOk P w K mg base (L2.CX P w) 8 T.f_p_first_time T.d_p_first_time ["pairing", "word", "person", "partner"] (spFirstX K T.C_NoPerson) := okx_p_first_time T
  have GW := (okx_p_word_renumbered (P := P) (w := w) (base := base) T).mono (show 6 ≤ 8 by decide)
  have GC : FnOk P w K mg base (L2.CX P w) 8 T.f_p_called T.d_p_called ["pairing", "call"] (spCdX K T.C_NoPerson) := (okx_p_called T).mono (by decide)
  have GZ : FnOk P w K mg base (L2.CX P w) 8 T.f_p_with_call T.d_p_with_call ["sheet", "call"] (spWcX K T.C_NoPerson) := (okx_p_with_call T).mono (by decide)
  refine T.F_by_word.okX sc_by_word (fun vs H Q E h => ?_) (fun cdv A outer s H vs Q E hr h => ?_)
  · obtain ⟨d, u, st, pg, row, f, g, n, us, qs, rfl, _⟩ := h
    rfl
  · obtain ⟨d, u, st, pg, row, f, g, n, us, qs, rfl, h0, h12, hf, hF, hg, hG, hn2, hn, hR, hL, hX⟩ := h
    refine ⟨_, pss_cons (ps_if (pt_cmpR op_lt (pv 0) pe_int (nomark _)) (pss_one (ps_ret (pe_callF (cs := [(T.f_p_called_all, spSettX K T.C_NoPerson), (T.f_p_pairings_along, spSettX K T.C_NoPerson), (T.f_p_idle_calls, spSettX K T.C_NoPerson), (T.f_p_settles, spSettX K T.C_NoPerson)]) (fall_cons (sp := spSettX K T.C_NoPerson) ⟨8, _, _, ((okx_p_called_all T).imp sett_wd).mono (by decide), hr, T.F_p_called_all.kp, T.b_p_called_all⟩ (fall_cons (sp := spSettX K T.C_NoPerson) ⟨8, _, _, ((okx_p_pairings_along T).imp sett_wd).mono (by decide), hr, T.F_p_pairings_along.kp, T.b_p_pairings_along⟩ (fall_cons (sp := spSettX K T.C_NoPerson) ⟨8, _, _, ((okx_p_idle_calls T).imp sett_wd).mono (by decide), hr, T.F_p_idle_calls.kp, T.b_p_idle_calls⟩ (fall_cons (sp := spSettX K T.C_NoPerson) ⟨8, _, _, (okx_p_settles T).mono (by decide), hr, T.F_p_settles.kp, T.b_p_settles⟩ fall_nil)))) (fun σ => passAt (takes_of rfl rfl rfl rfl) σ) (pe_ix (r := rIxL K) ix_list (pe_lst (pa_cons (pe_glob (v := .ref T.f_p_called_all) (by rfl) T.g_p_called_all rfl) (pa_cons (pe_glob (v := .ref T.f_p_pairings_along) (by rfl) T.g_p_pairings_along rfl) (pa_cons (pe_glob (v := .ref T.f_p_idle_calls) (by rfl) T.g_p_idle_calls rfl) (pa_cons (pe_glob (v := .ref T.f_p_settles) (by rfl) T.g_p_settles rfl) pa_nil))))) (pv 0) (fun _ _ => rfl)) (pa_cons (pv 1) (pa_cons (pv 3) pa_nil))))) pss_nil) <|
      pss_cons (ps_if (pt_cmpR op_lt (pv 0) pe_int (nomark _)) (pss_one (ps_ret (pe_callF (cs := [(T.f_p_sheet_of, spSheetOfX K T.C_NoPerson), (T.f_p_sheet_settles, spSheetOfX K T.C_NoPerson)]) (fall_cons (sp := spSheetOfX K T.C_NoPerson) ⟨8, _, _, (okx_p_sheet_of T).mono (by decide), hr, T.F_p_sheet_of.kp, T.b_p_sheet_of⟩ (fall_cons (sp := spSheetOfX K T.C_NoPerson) ⟨8, _, _, (okx_p_sheet_settles T).mono (by decide), hr, T.F_p_sheet_settles.kp, T.b_p_sheet_settles⟩ fall_nil)) (fun σ => passAt (takes_of rfl rfl rfl rfl) σ) (pe_ix (r := rIxL K) ix_list (pe_lst (pa_cons (pe_glob (v := .ref T.f_p_sheet_of) (by rfl) T.g_p_sheet_of rfl) (pa_cons (pe_glob (v := .ref T.f_p_sheet_settles) (by rfl) T.g_p_sheet_settles rfl) pa_nil))) (pe_op op_sub (pv 0) pe_int) (fun _ _ => rfl)) (pa_cons (pe_callB (r := fun xs H Q => ∃ p ys, xs = [.ref p] ∧ (SqL K H p ys ∨ SqT K H p ys) ∧ Q (.int ys.length) H) call_len_seq (by rfl) T.n_len PySem.boot_len (pa_cons (pv 1) pa_nil)) (pa_cons (pv 3) pa_nil))))) pss_nil) <|
      pss_cons (ps_if (pt_cmpR op_lt (pv 0) pe_int (nomark _)) (pss_one (ps_ret (pe_ifExp (pt_cmpR op_eq (pv 0) pe_int (nomark _)) (pe_callS GR hr (by rfl) T.g_p_repeated T.F_p_repeated.kp T.b_p_repeated (fun σ => passAt (takes_of rfl rfl rfl rfl) σ) (pa_cons (pv 1) (pa_cons (pv 3) (pa_cons pe_int pa_nil)))) (pe_callS GN hr (by rfl) T.g_p_word_number T.F_p_word_number.kp T.b_p_word_number (fun σ => passAt (takes_of rfl rfl rfl rfl) σ) (pa_cons (pv 1) (pa_cons (pv 1) (pa_cons (pv 3) pa_nil))))))) pss_nil) <|
      pss_cons (ps_if (pt_cmpR op_eq (pv 0) pe_int (nomark _)) (pss_one (ps_ret (pe_callS GF hr (by rfl) T.g_p_first_time T.F_p_first_time.kp T.b_p_first_time (fun σ => passAt (takes_of rfl rfl rfl rfl) σ) (pa_cons (pv 1) (pa_cons (pv 3) (pa_cons (pe_un un_neg pe_int) (pa_cons (pe_un un_neg pe_int) pa_nil))))))) pss_nil) <|
      pss_cons (ps_if (pt_cmpR op_eq (pv 0) pe_int (nomark _)) (pss_one (ps_ret (pe_callS GW hr (by rfl) T.g_p_word_renumbered T.F_p_word_renumbered.kp T.b_p_word_renumbered (fun σ => passAt (takes_of rfl rfl rfl rfl) σ) (pa_cons (pv 3) (pa_cons (pe_tupRg rfl (by rfl) T.n_tuple (prg_1 (by rfl) T.n_range (pe_callB call_len_seq (by rfl) T.n_len PySem.boot_len (pa_cons (pv 1) pa_nil)))) pa_nil))))) pss_nil) <|
      pss_one (ps_ret (pe_ifExp (pt_cmpR op_eq (pv 0) pe_int (nomark _)) (pe_callS GC hr (by rfl) T.g_p_called T.F_p_called.kp T.b_p_called (fun σ => passAt (takes_of rfl rfl rfl rfl) σ) (pa_cons (pv 1) (pa_cons (pe_ix ix_list (pv 3) (pe_un un_neg pe_int) (fun _ _ => rfl)) pa_nil))) (pe_callS GZ hr (by rfl) T.g_p_with_call T.F_p_with_call.kp T.b_p_with_call (fun σ => passAt (takes_of rfl rfl rfl rfl) σ) (pa_cons (pv 2) (pa_cons (pe_ix ix_list (pv 3) (pe_un un_neg pe_int) (fun _ _ => rfl)) pa_nil))))), ?_⟩
    refine ⟨_, rfl, _, _, rfl, rfl, _, rfl, ?_⟩
    by_cases c1 : d < 4
    · refine iteY (decide_eq_true c1) ?_
      rcases (show d = 0 ∨ d = 1 ∨ d = 2 ∨ d = 3 by omega) with rfl | rfl | rfl | rfl
      · exact ⟨(by show 4 ≤ sizeLine; decide), fun l nl => ⟨_, rfl, l, _, _, V.ref T.f_p_called_all, rfl, rfl, .inl (.inl upd_same), rfl, T.f_p_called_all, spSettX K T.C_NoPerson, (.head _), rfl, _, rfl, _, rfl, st, row, g, us, qs, n, u, rfl, hg.same (same_new nl), hG.len, by omega, hn, .inl (hR.same (same_new nl)).1, (hR.same (same_new nl)).2.1, hR.2.2, hX.same (same_new nl)⟩⟩
      · exact ⟨(by show 4 ≤ sizeLine; decide), fun l nl => ⟨_, rfl, l, _, _, V.ref T.f_p_pairings_along, rfl, rfl, .inl (.inl upd_same), rfl, T.f_p_pairings_along, spSettX K T.C_NoPerson, (.tail _ (.head _)), rfl, _, rfl, _, rfl, st, row, g, us, qs, n, u, rfl, hg.same (same_new nl), hG.len, by omega, hn, .inl (hR.same (same_new nl)).1, (hR.same (same_new nl)).2.1, hR.2.2, hX.same (same_new nl)⟩⟩
      · exact ⟨(by show 4 ≤ sizeLine; decide), fun l nl => ⟨_, rfl, l, _, _, V.ref T.f_p_idle_calls, rfl, rfl, .inl (.inl upd_same), rfl, T.f_p_idle_calls, spSettX K T.C_NoPerson, (.tail _ (.tail _ (.head _))), rfl, _, rfl, _, rfl, st, row, g, us, qs, n, u, rfl, hg.same (same_new nl), hG.len, by omega, hn, .inl (hR.same (same_new nl)).1, (hR.same (same_new nl)).2.1, hR.2.2, hX.same (same_new nl)⟩⟩
      · exact ⟨(by show 4 ≤ sizeLine; decide), fun l nl => ⟨_, rfl, l, _, _, V.ref T.f_p_settles, rfl, rfl, .inl (.inl upd_same), rfl, T.f_p_settles, spSettX K T.C_NoPerson, (.tail _ (.tail _ (.tail _ (.head _)))), rfl, _, rfl, _, rfl, st, row, g, us, qs, n, u, rfl, hg.same (same_new nl), hG.len, by omega, hn, .inl (hR.same (same_new nl)).1, (hR.same (same_new nl)).2.1, hR.2.2, hX.same (same_new nl)⟩⟩
    refine iteX (decide_eq_false c1) ⟨_, rfl, _, _, rfl, rfl, _, rfl, ?_⟩
    by_cases c2 : d < 6
    · refine iteY (decide_eq_true c2) ?_
      rcases (show d = 4 ∨ d = 5 by omega) with rfl | rfl
      · exact ⟨(by show 2 ≤ sizeLine; decide), fun l nl => ⟨_, rfl, _, _, rfl, rfl, l, _, _, V.ref T.f_p_sheet_of, rfl, rfl, .inl (.inl upd_same), rfl, T.f_p_sheet_of, spSheetOfX K T.C_NoPerson, (.head _), rfl, _, rfl, st, _, rfl, hg.same (same_new nl), _, rfl, n, row, us, qs, u, (by rw [nv_length, hG.len]), by omega, by omega, .inl (hR.same (same_new nl)).1, (hR.same (same_new nl)).2.1, hR.2.2, hX.same (same_new nl)⟩⟩
      · exact ⟨(by show 2 ≤ sizeLine; decide), fun l nl => ⟨_, rfl, _, _, rfl, rfl, l, _, _, V.ref T.f_p_sheet_settles, rfl, rfl, .inl (.inl upd_same), rfl, T.f_p_sheet_settles, spSheetOfX K T.C_NoPerson, (.tail _ (.head _)), rfl, _, rfl, st, _, rfl, hg.same (same_new nl), _, rfl, n, row, us, qs, u, (by rw [nv_length, hG.len]), by omega, by omega, .inl (hR.same (same_new nl)).1, (hR.same (same_new nl)).2.1, hR.2.2, hX.same (same_new nl)⟩⟩
    refine iteX (decide_eq_false c2) ⟨_, rfl, _, _, rfl, rfl, _, rfl, ?_⟩
    by_cases c3 : d < 8
    · refine iteY (decide_eq_true c3) ⟨_, rfl, rfl, _, rfl, ?_⟩
      rcases (show d = 6 ∨ d = 7 by omega) with rfl | rfl
      · exact iteY rfl ⟨_, rfl, _, rfl, st, row, g, us, qs, n, u, _, rfl, hg, hG.len, by omega, hn, .inl hR.1, hR.2.1, hR.2.2, hX⟩
      · exact iteX rfl ⟨_, rfl, _, rfl, _, rfl, st, row, g, us, qs, n, u, rfl, hg, hG, hn, .inl hR.1, hR.2.1, hR.2.2, hX⟩
    refine iteX (decide_eq_false c3) ⟨_, rfl, rfl, _, rfl, ?_⟩
    by_cases c4 : d = 8
    · subst c4
      exact iteY rfl ⟨_, rfl, _, rfl, 8, rfl, 9, rfl, st, row, g, us, qs, n, u, _, _, rfl, hg, hG.len, by omega, hn, .inl hR.1, hR.2.1, hR.2.2, hX⟩
    refine iteX (decide_eq_false (fun z => c4 (by have := V.int.inj z; omega))) ⟨_, rfl, rfl, _, rfl, ?_⟩
    by_cases c5 : d = 9
    · subst c5
      refine iteY rfl ⟨_, rfl, .ref st, rfl, st, _, rfl, hg, _, rfl, ?_, fun l nl => ?_⟩
      · rw [nv_length, hG.len]; exact RgOk.of_le (by decide) (by omega) (by decide) (by omega)
      have e : (upd H l (.tup (rgV 0 ((nv g).length : Int)))) l = some (.tup (nv (List.range n))) := by rw [upd_same, nv_length, hG.len, rg_nv]
      have s1 : Same H (upd H l (.tup (rgV 0 ((nv g).length : Int)))) := same_new nl
      exact ⟨l, row, rfl, l, row, List.range n, us, qs, n, u, rfl, .inr (.inl (.inl e)), List.length_range, .inl (hR.same s1).1, (hR.same s1).2.1, hR.2.2, hX.same s1⟩
    refine iteX (decide_eq_false (fun z => c5 (by have := V.int.inj z; omega))) ⟨_, rfl, rfl, _, rfl, ?_⟩
    obtain ⟨c, y, z, l1, l2, l3⟩ := hL.resolve_left (by omega)
    rcases (show d = 10 ∨ d = 11 by omega) with rfl | rfl
    · exact iteY rfl ⟨_, rfl, _, rfl, 1, rfl, row, us, -1, _, rfl, rfl, hR.1, l1, st, c, g, n, y, z, u, rfl, hg, hG.len, l2, l3, hX⟩
    · exact iteX rfl ⟨_, rfl, _, rfl, 1, rfl, row, us, -1, _, rfl, rfl, hR.1, l1, pg, c, f, n, y, z, u, rfl, hf, hF.len, l2, l3, hX⟩
def spHl (K : PySem.W.Frag) (C D : Addr) : Sp := fun vs H _ E => ∃ (d u : Int) (x p row : Addr) (ps : List Nat) (n : Nat) (us : List V) (qs : List (Int × Int)), vs = [.int d, .ref x, .int u, .ref row] ∧ 0 ≤ d ∧ d < 4 ∧ spHallX K C D n ps x p H ∧ ¬ (0 ≤ u ∧ u < n) ∧ Rw K n u row H us qs ∧ Flies C "person" (.int u) H E
theorem okx_hall (T : Env K mg) : FnOk P w K mg base (L2.CX P w) 10 T.f_hall T.d_hall ["_law_door", "_law_hall_here", "_law_odd", "_law_row"] (spHl K T.C_NoPerson T.C_Hall) := by
  have GL : FnOk P w K mg base (L2.CX P w) 9 T.f_m_Hall_leave T.d_m_Hall_leave ["self", "person"] (spLeaveX K T.C_NoPerson T.C_Hall) := (okx_m_Hall_leave T).mono (by decide)
  have GC : FnOk P w K mg base (L2.CX P w) 9 T.f_m_Hall_call T.d_m_Hall_call ["self", "a", "b"] (spHCallX K T.C_NoPerson T.C_Hall) := (okx_m_Hall_call T).mono (by decide)
  have GR : FnOk P w K mg base (L2.CX P w) 9 T.f_m_Hall_run T.d_m_Hall_run ["self", "word"] (spRunX K T.C_NoPerson T.C_Hall) := (okx_m_Hall_run T).mono (by decide)
  have GT : FnOk P w K mg base (L2.CX P w) 9 T.f_m_Hall_repeat T.d_m_Hall_repeat ["self", "word", "many"] (spRepeatX K T.C_NoPerson T.C_Hall) := okx_m_Hall_repeat T
  refine T.F_hall.okX sc_hall (fun vs H Q E h => ?_) (fun cdv A outer s H vs Q E hr h => ?_)
  · obtain ⟨d, u, x, p, row, ps, n, us, qs, rfl, _⟩ := h
    rfl
  · obtain ⟨d, u, x, p, row, ps, n, us, qs, rfl, h0, h4, hH, hu, hR, hX⟩ := h
    obtain ⟨dx, q1, q2, q3, g1, g2, g3⟩ := id hH.1
    refine ⟨_, pss_cons (ps_if (pt_cmpR op_eq (pv 0) pe_int (nomark _)) (pss_one (ps_ret (pe_mS (pv 1) T.cl_Hall T.me_Hall_leave GL hr T.b_m_Hall_leave (fun σ => passAt (takes_of rfl rfl rfl rfl) σ) (pa_cons (pv 2) pa_nil)))) pss_nil) <|
      pss_cons (ps_if (pt_cmpR op_eq (pv 0) pe_int (nomark _)) (pss_one (ps_ret (pe_mS (pv 1) T.cl_Hall T.me_Hall_call GC hr T.b_m_Hall_call (fun σ => passAt (takes_of rfl rfl rfl rfl) σ) (pa_cons (pv 2) (pa_cons (pe_op op_add (pe_op op_pow pe_int pe_int) pe_int) pa_nil))))) pss_nil) <|
      pss_one (ps_ret (pe_ifExp (pt_cmpR op_eq (pv 0) pe_int (nomark _)) (pe_mS (pv 1) T.cl_Hall T.me_Hall_run GR hr T.b_m_Hall_run (fun σ => passAt (takes_of rfl rfl rfl rfl) σ) (pa_cons (pv 3) pa_nil)) (pe_mS (pv 1) T.cl_Hall T.me_Hall_repeat GT hr T.b_m_Hall_repeat (fun σ => passAt (takes_of rfl rfl rfl rfl) σ) (pa_cons (pv 3) (pa_cons pe_int pa_nil))))), ?_⟩
    rcases (show d = 0 ∨ d = 1 ∨ d = 2 ∨ d = 3 by omega) with rfl | rfl | rfl | rfl
    · exact ⟨_, rfl, rfl, _, rfl, iteY rfl ⟨_, rfl, x, dx, _, rfl, g1, hfl_no _ _ (by decide +kernel) (by decide +kernel), _, rfl, x, p, ps, n, u, rfl, hH, hu, hX⟩⟩
    · exact ⟨_, rfl, rfl, _, rfl, iteX rfl ⟨_, rfl, rfl, _, rfl, iteY rfl ⟨_, rfl, x, dx, _, rfl, g1, hfl_no _ _ (by decide +kernel) (by decide +kernel), _, rfl, 10, 9, rfl, rfl, ⟨by decide, by decide, by decide⟩, _, 9, rfl, rfl, x, p, ps, n, u, _, rfl, hH, hu, hX⟩⟩⟩
    · exact ⟨_, rfl, rfl, _, rfl, iteX rfl ⟨_, rfl, rfl, _, rfl, iteX rfl ⟨_, rfl, rfl, _, rfl, iteY rfl ⟨_, rfl, x, dx, _, rfl, g1, hfl_no _ _ (by decide +kernel) (by decide +kernel), _, rfl, x, p, row, ps, us, qs, n, u, rfl, hH, .inl hR.1, hR.2.1, hR.2.2, hX⟩⟩⟩⟩
    · exact ⟨_, rfl, rfl, _, rfl, iteX rfl ⟨_, rfl, rfl, _, rfl, iteX rfl ⟨_, rfl, rfl, _, rfl, iteX rfl ⟨_, rfl, x, dx, _, rfl, g1, hfl_no _ _ (by decide +kernel) (by decide +kernel), _, rfl, x, p, row, ps, us, qs, n, u, _, rfl, hH, .inl hR.1, hR.2.1, hR.2.2, hX⟩⟩⟩⟩
def spRef98 (K : PySem.W.Frag) (D : Addr) : Sp := fun vs H Q _ => ∃ (k d u : Int) (st th row : Addr) (g : List Nat) (n : Nat), vs = [.int k, .int d, .ref st, .ref th, .int u, .ref row] ∧ SqT K H st (nv g) ∧ IsPair n g ∧ 2 ≤ n ∧ n ≤ 500 ∧ ¬ (0 ≤ u ∧ u < n) ∧
  ((k = 0 ∧ 0 ≤ d ∧ d < 7 ∧ ∃ f, SqT K H th (nv f) ∧ IsPair (2 * n) f) ∨ (k = 1 ∧ 0 ≤ d ∧ d < 12 ∧ ∃ f us qs, SqT K H th (nv f) ∧ IsPair (2 * n) f ∧ Rw K n u row H us qs ∧ (d < 10 ∨ Lst K n u H us)) ∨ (k = 2 ∧ 0 ≤ d ∧ d < 4 ∧ ∃ us qs, HallAt D H th st ∧ Rw K n u row H us qs)) ∧ ∀ H', Same H H' → Q (.int u) H'
theorem ok_refused (T : Env K mg) : FnOk P w K mg base CX0 11 T.f_refused T.d_refused ["_law_kind", "_law_door", "_law_start", "_law_thing", "_law_odd", "_law_row"] (spRef98 K T.C_Hall) := by
  have GP := okx_person (P := P) (w := w) (base := base) T
  have GB := okx_by_word (P := P) (w := w) (base := base) T
  have GH := okx_hall (P := P) (w := w) (base := base) T
  refine T.F_refused.ok sc_refused (fun vs H Q E h => ?_) (fun cdv A outer s H vs Q E hr h => ?_)
  · obtain ⟨k, d, u, st, th, row, g, n, rfl, _⟩ := h
    rfl
  · obtain ⟨k, d, u, st, th, row, g, n, rfl, hg, hG, hn2, hn, hu, hk, q⟩ := h
    refine ⟨_, pss_cons (ps_set (i := 6) sc_refused.nd rfl (.inl rfl) pe_non) <|
      pss_cons (ps_try_kept (i := 7) (cs := [.ref T.C_Last, .ref T.C_NoDeed, .ref T.C_NoNumber, .ref T.C_NoPerson, .ref T.C_NotShortest, .ref T.C_OtherSize]) rfl rfl rfl sc_refused.nd rfl rfl (.cons ⟨_, _, rfl, by rfl, by decide, .inl T.gC_Last⟩ (.cons ⟨_, _, rfl, by rfl, by decide, .inl T.gC_NoDeed⟩ (.cons ⟨_, _, rfl, by rfl, by decide, .inl T.gC_NoNumber⟩ (.cons ⟨_, _, rfl, by rfl, by decide, .inl T.gC_NoPerson⟩ (.cons ⟨_, _, rfl, by rfl, by decide, .inl T.gC_NotShortest⟩ (.cons ⟨_, _, rfl, by rfl, by decide, .inl T.gC_OtherSize⟩ .nil)))))) (by show 6 ≤ 1000; decide)
        (fun W pn xe tk _ => pss_one (ps_if (pt_cmpR op_eq (pv 0) pe_int (nomark _)) (pss_one (ps_expr (pe_callS GP (hr.mono (by decide)) (by rfl) T.g_person T.F_person.kp T.b_person (fun σ => passAt tk σ) (pa_cons (pv 1) (pa_cons (pv 2) (pa_cons (pv 3) (pa_cons (pv 4) pa_nil))))))) (pss_one (ps_if (pt_cmpR op_eq (pv 0) pe_int (nomark _)) (pss_one (ps_expr (pe_callS GB (hr.mono (by decide)) (by rfl) T.g_by_word T.F_by_word.kp T.b_by_word (fun σ => passAt tk σ) (pa_cons (pv 1) (pa_cons (pv 2) (pa_cons (pv 3) (pa_cons (pv 5) pa_nil))))))) (pss_one (ps_expr (pe_callS GH (hr.mono (by decide)) (by rfl) T.g_hall T.F_hall.kp T.b_hall (fun σ => passAt tk σ) (pa_cons (pv 1) (pa_cons (pv 3) (pa_cons (pv 4) (pa_cons (pv 5) pa_nil)))))))))))
        (fun a oe pn => pss_one (ps_set (i := 6) sc_refused.nd rfl (.inl rfl) (pv 7)))) <|
      pss_cons (ps_if (PW.pt (pw_or (pt_not (pt_val (pe_callB call_isk (by rfl) T.n_isinstance (by decide +kernel) (pa_cons (pv 6) (pa_cons (pe_glob (v := .ref T.C_NoPerson) (by rfl) T.gC_NoPerson rfl) pa_nil))))) (pw_or1 (pt_val (pe_callB call_iskT (by rfl) T.n_isinstance (by decide +kernel) (pa_cons (pv 6) (pa_cons (pe_tup (pa_cons (pe_glob (v := .ref T.C_Last) (by rfl) T.gC_Last rfl) (pa_cons (pe_glob (v := .ref T.C_NoDeed) (by rfl) T.gC_NoDeed rfl) (pa_cons (pe_glob (v := .ref T.C_NoNumber) (by rfl) T.gC_NoNumber rfl) (pa_cons (pe_glob (v := .ref T.C_NotShortest) (by rfl) T.gC_NotShortest rfl) (pa_cons (pe_glob (v := .ref T.C_OtherSize) (by rfl) T.gC_OtherSize rfl) pa_nil)))))) pa_nil))))))) (pss_one (ps_ret pe_non)) pss_nil) <|
      pss_one (ps_ret (pe_ifExp (pt_val (pe_callB call_isk (by rfl) T.n_isinstance (by decide +kernel) (pa_cons (pv 6) (pa_cons (pe_bltn (v := .ty "LookupError") (by rfl) T.n_LookupError (by decide +kernel) rfl) pa_nil)))) (pe_kf (pv 6)) pe_non)), ?_⟩
    refine st_set [some (.int k), some (.int d), some (.ref st), some (.ref th), some (.int u), some (.ref row), some .non, none] ?_ rfl
    rcases hk with ⟨rfl, d0, d1, f, hf, hF⟩ | ⟨rfl, d0, d1, f, us, qs, hf, hF, hR, hL⟩ | ⟨rfl, d0, d1, us, qs, hH, hR⟩
    · refine ⟨_, rfl, rfl, _, rfl, iteY rfl ⟨_, rfl, _, rfl, _, rfl, _, rfl, d, u, st, th, f, g, n, rfl, d0, d1, .inr hf, hF, .inr hg, hG, hn2, hn, hu, kept1 (hits_of [false, false, false, true, false, false] rfl (.cons T.ex_NoPerson_Last (.cons T.ex_NoPerson_NoDeed (.cons T.ex_NoPerson_NoNumber (.cons T.ee_NoPerson (.cons T.ex_NoPerson_NotShortest (.cons T.ex_NoPerson_OtherSize .nil))))))) fun dd H2 z s2 nd ed nx ne => ⟨_, rfl, ?_⟩⟩⟩
      have hK : Kept (upd H2 z (exk z (.ref T.C_NoPerson) (some dd))) z T.C_NoPerson (some dd) := .mk1 ed nx
      have s3 : Same H (upd H2 z (exk z (.ref T.C_NoPerson) (some dd))) := s2.trans (same_new nx)
      replace ed := same_new (o := exk z (.ref T.C_NoPerson) (some dd)) nx _ _ ed
      refine st_set [some (.int 0), some (.int d), some (.ref st), some (.ref th), some (.int u), some (.ref row), some (.ref z), some (.ref z)] ?_ rfl
      refine st_kept [some (.int 0), some (.int d), some (.ref st), some (.ref th), some (.int u), some (.ref row), some (.ref z), none] ?_ rfl
      refine ⟨_, rfl, z, _, _, _, _, _, rfl, hK, T.kpt_NoPerson, .own _, T.kk_NoPerson, true, rfl, iteN ?_⟩
      refine ⟨_, rfl, (by show 5 ≤ sizeLine; decide), fun l2 nl2 => ⟨z, _, _, l2, _, _, _, rfl, hK.same (same_new nl2), T.kpt_NoPerson, upd_same, (.cons (.own _) (.cons (.own _) (.cons (.own _) (.cons (.own _) (.cons (.own _) .nil))))), (kit_cons T.ki_NoPerson_Last (kit_cons T.ki_NoPerson_NoDeed (kit_cons T.ki_NoPerson_NoNumber (kit_cons T.ki_NoPerson_NotShortest (kit_cons T.ki_NoPerson_OtherSize kit_nil))))), _, rfl, iteX rfl ?_⟩⟩
      refine ⟨_, rfl, z, _, _, _, _, _, rfl, hK.same (same_new nl2), T.kpt_NoPerson, .ty _, T.kb_NoPerson_LookupError, _, rfl, iteY rfl ?_⟩
      exact ⟨_, rfl, z, _, _, _, _, rfl, (hK.same (same_new nl2)).1, T.kpt_NoPerson, T.no_NoPerson, same_new nl2 _ _ ed, rfl, q _ (s3.trans (same_new nl2))⟩
    · refine ⟨_, rfl, rfl, _, rfl, iteX rfl ⟨_, rfl, rfl, _, rfl, iteY rfl ⟨_, rfl, _, rfl, _, rfl, _, rfl, d, u, st, th, row, f, g, n, us, qs, rfl, d0, d1, .inr hf, hF, .inr hg, hG, hn2, hn, hR, hL, kept1 (hits_of [false, false, false, true, false, false] rfl (.cons T.ex_NoPerson_Last (.cons T.ex_NoPerson_NoDeed (.cons T.ex_NoPerson_NoNumber (.cons T.ee_NoPerson (.cons T.ex_NoPerson_NotShortest (.cons T.ex_NoPerson_OtherSize .nil))))))) fun dd H2 z s2 nd ed nx ne => ⟨_, rfl, ?_⟩⟩⟩⟩
      have hK : Kept (upd H2 z (exk z (.ref T.C_NoPerson) (some dd))) z T.C_NoPerson (some dd) := .mk1 ed nx
      have s3 : Same H (upd H2 z (exk z (.ref T.C_NoPerson) (some dd))) := s2.trans (same_new nx)
      replace ed := same_new (o := exk z (.ref T.C_NoPerson) (some dd)) nx _ _ ed
      refine st_set [some (.int 1), some (.int d), some (.ref st), some (.ref th), some (.int u), some (.ref row), some (.ref z), some (.ref z)] ?_ rfl
      refine st_kept [some (.int 1), some (.int d), some (.ref st), some (.ref th), some (.int u), some (.ref row), some (.ref z), none] ?_ rfl
      refine ⟨_, rfl, z, _, _, _, _, _, rfl, hK, T.kpt_NoPerson, .own _, T.kk_NoPerson, true, rfl, iteN ?_⟩
      refine ⟨_, rfl, (by show 5 ≤ sizeLine; decide), fun l2 nl2 => ⟨z, _, _, l2, _, _, _, rfl, hK.same (same_new nl2), T.kpt_NoPerson, upd_same, (.cons (.own _) (.cons (.own _) (.cons (.own _) (.cons (.own _) (.cons (.own _) .nil))))), (kit_cons T.ki_NoPerson_Last (kit_cons T.ki_NoPerson_NoDeed (kit_cons T.ki_NoPerson_NoNumber (kit_cons T.ki_NoPerson_NotShortest (kit_cons T.ki_NoPerson_OtherSize kit_nil))))), _, rfl, iteX rfl ?_⟩⟩
      refine ⟨_, rfl, z, _, _, _, _, _, rfl, hK.same (same_new nl2), T.kpt_NoPerson, .ty _, T.kb_NoPerson_LookupError, _, rfl, iteY rfl ?_⟩
      exact ⟨_, rfl, z, _, _, _, _, rfl, (hK.same (same_new nl2)).1, T.kpt_NoPerson, T.no_NoPerson, same_new nl2 _ _ ed, rfl, q _ (s3.trans (same_new nl2))⟩
    · refine ⟨_, rfl, rfl, _, rfl, iteX rfl ⟨_, rfl, rfl, _, rfl, iteX rfl ⟨_, rfl, _, rfl, _, rfl, _, rfl, d, u, th, st, row, g, n, us, qs, rfl, d0, d1, ⟨hH, .inr hg, hG, by omega, hn⟩, hu, hR, kept1 (hits_of [false, false, false, true, false, false] rfl (.cons T.ex_NoPerson_Last (.cons T.ex_NoPerson_NoDeed (.cons T.ex_NoPerson_NoNumber (.cons T.ee_NoPerson (.cons T.ex_NoPerson_NotShortest (.cons T.ex_NoPerson_OtherSize .nil))))))) fun dd H2 z s2 nd ed nx ne => ⟨_, rfl, ?_⟩⟩⟩⟩
      have hK : Kept (upd H2 z (exk z (.ref T.C_NoPerson) (some dd))) z T.C_NoPerson (some dd) := .mk1 ed nx
      have s3 : Same H (upd H2 z (exk z (.ref T.C_NoPerson) (some dd))) := s2.trans (same_new nx)
      replace ed := same_new (o := exk z (.ref T.C_NoPerson) (some dd)) nx _ _ ed
      refine st_set [some (.int 2), some (.int d), some (.ref st), some (.ref th), some (.int u), some (.ref row), some (.ref z), some (.ref z)] ?_ rfl
      refine st_kept [some (.int 2), some (.int d), some (.ref st), some (.ref th), some (.int u), some (.ref row), some (.ref z), none] ?_ rfl
      refine ⟨_, rfl, z, _, _, _, _, _, rfl, hK, T.kpt_NoPerson, .own _, T.kk_NoPerson, true, rfl, iteN ?_⟩
      refine ⟨_, rfl, (by show 5 ≤ sizeLine; decide), fun l2 nl2 => ⟨z, _, _, l2, _, _, _, rfl, hK.same (same_new nl2), T.kpt_NoPerson, upd_same, (.cons (.own _) (.cons (.own _) (.cons (.own _) (.cons (.own _) (.cons (.own _) .nil))))), (kit_cons T.ki_NoPerson_Last (kit_cons T.ki_NoPerson_NoDeed (kit_cons T.ki_NoPerson_NoNumber (kit_cons T.ki_NoPerson_NotShortest (kit_cons T.ki_NoPerson_OtherSize kit_nil))))), _, rfl, iteX rfl ?_⟩⟩
      refine ⟨_, rfl, z, _, _, _, _, _, rfl, hK.same (same_new nl2), T.kpt_NoPerson, .ty _, T.kb_NoPerson_LookupError, _, rfl, iteY rfl ?_⟩
      exact ⟨_, rfl, z, _, _, _, _, rfl, (hK.same (same_new nl2)).1, T.kpt_NoPerson, T.no_NoPerson, same_new nl2 _ _ ed, rfl, q _ (s3.trans (same_new nl2))⟩
end
end Pc
namespace Pc
open PySem PySem.Spec PyProof.Rows L2 RZ
section
variable {P : Program} {w : World} {K : PySem.W.Frag} {mg : Str → Option Value} {base : Heap}
def spRight : Sp := fun vs H Q _ => ∃ (b : Addr) (n : Nat), vs = [.ref b] ∧ Box (n + 1000) H b ∧ ∀ H', Keep b H H' → Box n H' b → Q (.bl true) H'
theorem ok_right (T : Env K mg) : FnOk P w K mg base CX0 12 T.f_right T.d_right ["_law_source"] spRight := by
  have GT : FnOk P w K mg base CX0 1 T.f_draw T.d_draw ["_law_source", "_law_bound"] spTake := ok_take T
  have GE : FnOk P w K mg base CX0 5 T.f_same T.d_same ["_law_found", "_law_due"] (spSame K 4) := (ok_same T 4).mono (by decide)
  have GR : FnOk P w K mg base CX0 3 T.f_random_pairing T.d_random_pairing ["_law_source", "_law_crowd"] spRandom := ok_random T
  have GF : FnOk P w K mg base CX0 11 T.f_refused T.d_refused ["_law_kind", "_law_door", "_law_start", "_law_thing", "_law_odd", "_law_row"] (spRef98 K T.C_Hall) := ok_refused T
  have GI : FnOk P w K mg base CX0 1 T.f_m_Hall_init T.d_m_Hall_init ["self", "pairing"] (spHallInit K T.C_Hall) := ok_m_Hall_init T
  have GHp : FnOk P w K mg base CX0 1 T.f_m_Hall_pairing T.d_m_Hall_pairing ["self"] (spHallPairing T.C_Hall) := ok_m_Hall_pairing T
  have GHd : FnOk P w K mg base CX0 1 T.f_m_Hall_deeds T.d_m_Hall_deeds ["self"] (spHallDeeds T.C_Hall) := ok_m_Hall_deeds T
  refine T.F_right.ok sc_right (fun vs H Q E h => ?_) (fun cdv A outer s H vs Q E hr h => ?_)
  · obtain ⟨b, n, rfl, _⟩ := h
    rfl
  · obtain ⟨b, n, rfl, hB, q⟩ := h
    have h1 := hr.mono (show 1 ≤ 11 by decide)
    have h2 := hr.mono (show 2 ≤ 11 by decide)
    have h3 := hr.mono (show 3 ≤ 11 by decide)
    have h4 := hr.mono (show 4 ≤ 11 by decide)
    have h5 := hr.mono (show 5 ≤ 11 by decide)
    have h6 := hr.mono (show 6 ≤ 11 by decide)
    have h7 := hr.mono (show 7 ≤ 11 by decide)
    have h8 := hr.mono (show 8 ≤ 11 by decide)
    have h9 := hr.mono (show 9 ≤ 11 by decide)
    have h10 := hr.mono (show 10 ≤ 11 by decide)
    have kH : Keep b H H := Keep.refl _ _
    refine ⟨_, pss_cons (ps_set (i := 1) sc_right.nd rfl (.inl rfl) (pe_op op_add pe_int (pe_op op_mul pe_int (pe_call GT h1 (by rfl) T.g_draw T.F_draw.kp T.b_draw .nil pass0 (pa_cons (pv 0) (pa_cons pe_int pa_nil)))))) <|
      pss_cons (ps_asg (pe_tup (pa_cons (pe_call GR h3 (by rfl) T.g_random_pairing T.F_random_pairing.kp T.b_random_pairing .nil pass0 (pa_cons (pv 0) (pa_cons (pv 1) pa_nil))) (pa_cons (pe_call GR h3 (by rfl) T.g_random_pairing T.F_random_pairing.kp T.b_random_pairing .nil pass0 (pa_cons (pv 0) (pa_cons (pe_op op_mul pe_int (pv 1)) pa_nil))) pa_nil))) (pg_tup rfl (pgs_cons (pg_name (i := 2) sc_right.nd rfl (.inr rfl)) (pgs_cons (pg_name (i := 3) sc_right.nd rfl (.inr rfl)) pgs_nil)))) <|
      pss_cons (ps_for PassesOwn.never rfl (pi_tup (pe_tup (pa_cons (pe_un un_neg pe_int) (pa_cons (pv 1) (pa_cons (pe_op op_add (pv 1) pe_int) (pa_cons (pe_op op_pow pe_int pe_int) (pa_cons (pe_op op_sub pe_int (pv 1)) pa_nil))))))) (pg_name (i := 4) sc_right.nd rfl (.inr rfl)) (pss_cons (ps_set (i := 5) sc_right.nd rfl (.inr rfl) (pe_op op_cat (pe_op op_rep (pe_lst (pa_cons (pe_tup (pa_cons pe_int (pa_cons pe_int pa_nil))) pa_nil)) (pe_call GT h1 (by rfl) T.g_draw T.F_draw.kp T.b_draw .nil pass0 (pa_cons (pv 0) (pa_cons pe_int pa_nil)))) (pe_lst (pa_cons (pe_tup (pa_cons (pv 4) (pa_cons (pe_op op_add (pe_callB (call_max2 rfl) (by rfl) T.n_max (by decide +kernel) (pa_cons (pv 4) (pa_cons (pv 1) pa_nil))) pe_int) pa_nil))) pa_nil)))) <|
      pss_cons (ps_if (pt_not (pt_val (pe_call GE h5 (by rfl) T.g_same T.F_same.kp T.b_same .nil pass0 (pa_cons (pe_lc (own := [("_law_door", 9)]) (g := gName 9) (tt := tYes)  (by rfl) sc_right.nd (pi_range1 (by rfl) T.n_range (pa_cons pe_int pa_nil)) (blkOk_by (N := N_right) (sc := defScope s_right) (by decide +kernel)) (fun _ _ _ _ _ => pg_name (i := 9) sc_right.nd rfl (.inl rfl)) (fun _ _ _ _ _ => pts_nil) (fun _ _ _ _ _ => (pe_call GF hr (by rfl) T.g_refused T.F_refused.kp T.b_refused .nil pass0 (pa_cons pe_int (pa_cons (pv 9) (pa_cons (pv 2) (pa_cons (pv 3) (pa_cons (pv 4) (pa_cons (pe_lst pa_nil) pa_nil))))))))) (pa_cons (pe_op op_rep (pe_lst (pa_cons (pv 4) pa_nil)) pe_int) pa_nil))))) (pss_one (ps_ret pe_bl)) pss_nil) <|
      pss_cons (ps_if (pt_not (pt_val (pe_call GE h5 (by rfl) T.g_same T.F_same.kp T.b_same .nil pass0 (pa_cons (pe_lc (own := [("_law_door", 9)]) (g := gName 9) (tt := tYes) (te := tCall (spRef98 K T.C_Hall) [] (fun _ _ _ => False) (tCons (tC (.int 1)) (tCons (tVar 9) (tCons (tVar 2) (tCons (tVar 3) (tCons (tVar 4) (tCons (tVar 5) tNil))))))) (by rfl) sc_right.nd (pi_range1 (by rfl) T.n_range (pa_cons pe_int pa_nil)) (blkOk_by (N := N_right) (sc := defScope s_right) (by decide +kernel)) (fun _ _ _ _ _ => pg_name (i := 9) sc_right.nd rfl (.inl rfl)) (fun _ _ _ _ _ => pts_nil) (fun _ _ _ _ _ => (pe_call GF hr (by rfl) T.g_refused T.F_refused.kp T.b_refused .nil pass0 (pa_cons pe_int (pa_cons (pv 9) (pa_cons (pv 2) (pa_cons (pv 3) (pa_cons (pv 4) (pa_cons (pv 5) pa_nil))))))))) (pa_cons (pe_op op_rep (pe_lst (pa_cons (pv 4) pa_nil)) pe_int) pa_nil))))) (pss_one (ps_ret pe_bl)) pss_nil) <|
      pss_cons (ps_set (i := 6) sc_right.nd rfl (.inr rfl) (pe_op op_cat (pe_slice sl_list (pv 5) po_none (po_some (pe_un un_neg pe_int))) (pe_lst (pa_cons (pe_tup (pa_cons (pe_callB (call_min2 rfl) (by rfl) T.n_min (by decide +kernel) (pa_cons pe_int (pa_cons (pv 4) pa_nil))) (pa_cons (pe_callB (call_max2 rfl) (by rfl) T.n_max (by decide +kernel) (pa_cons pe_int (pa_cons (pv 4) pa_nil))) pa_nil))) (pa_cons (pe_tup (pa_cons (pe_un un_neg pe_int) (pa_cons pe_int pa_nil))) pa_nil))))) <|
      pss_cons (ps_if (pt_not (pt_val (pe_call GE h5 (by rfl) T.g_same T.F_same.kp T.b_same .nil pass0 (pa_cons (pe_lc (own := [("_law_door", 9)]) (g := gName 9) (tt := tYes) (te := tCall (spRef98 K T.C_Hall) [] (fun _ _ _ => False) (tCons (tC (.int 1)) (tCons (tVar 9) (tCons (tVar 2) (tCons (tVar 3) (tCons (tVar 4) (tCons (tVar 6) tNil))))))) (by rfl) sc_right.nd (pi_range1 (by rfl) T.n_range (pa_cons pe_int pa_nil)) (blkOk_by (N := N_right) (sc := defScope s_right) (by decide +kernel)) (fun _ _ _ _ _ => pg_name (i := 9) sc_right.nd rfl (.inl rfl)) (fun _ _ _ _ _ => pts_nil) (fun _ _ _ _ _ => (pe_call GF hr (by rfl) T.g_refused T.F_refused.kp T.b_refused .nil pass0 (pa_cons pe_int (pa_cons (pv 9) (pa_cons (pv 2) (pa_cons (pv 3) (pa_cons (pv 4) (pa_cons (pv 6) pa_nil))))))))) (pa_cons (pe_op op_rep (pe_lst (pa_cons (pv 4) pa_nil)) pe_int) pa_nil))))) (pss_one (ps_ret pe_bl)) pss_nil) <|
      pss_cons (ps_set (i := 7) sc_right.nd rfl (.inr rfl) (pe_make T.mk_Hall GI h2 (by rfl) T.gC_Hall T.b_m_Hall_init .nil pass0 (pa_cons (pv 2) pa_nil))) <|
      pss_cons (ps_setLc (i := 8) (own := [("_law_door", 9)]) (g := gName 9) (tt := tYes) (te := tCall (spRef98 K T.C_Hall) [] (fun _ _ _ => False) (tCons (tC (.int 2)) (tCons (tVar 9) (tCons (tVar 2) (tCons (tVar 7) (tCons (tVar 4) (tCons (tVar 6) tNil))))))) rfl sc_right.nd rfl rfl (sw_true rfl rfl rfl (by decide +kernel)) (pi_range1 (by rfl) T.n_range (pa_cons pe_int pa_nil)) (blkOk_by (N := N_right) (sc := defScope s_right) (by decide +kernel)) (fun _ _ _ _ _ => pg_name (i := 9) sc_right.nd rfl (.inl rfl)) (fun _ _ _ _ _ => pts_nil) (fun _ _ _ _ _ => (pe_call GF hr (by rfl) T.g_refused T.F_refused.kp T.b_refused .nil pass0 (pa_cons pe_int (pa_cons (pv 9) (pa_cons (pv 2) (pa_cons (pv 7) (pa_cons (pv 4) (pa_cons (pv 6) pa_nil))))))))) <|
      pss_one (ps_if (PW.pt (pw_or (pt_not (pt_val (pe_call GE h5 (by rfl) T.g_same T.F_same.kp T.b_same .nil pass0 (pa_cons (pv 8) (pa_cons (pe_op op_rep (pe_lst (pa_cons (pv 4) pa_nil)) pe_int) pa_nil))))) (pw_or (pt_cmpR (op_neD hr.units) (pe_meth0 (pv 7) T.cl_Hall T.me_Hall_pairing GHp h1 T.b_m_Hall_pairing .nil pass0) (pv 2) (nomark _)) (pw_or1 (pt_cmpR op_ne (pe_meth0 (pv 7) T.cl_Hall T.me_Hall_deeds GHd h1 T.b_m_Hall_deeds .nil pass0) pe_int (nomark _)))))) (pss_one (ps_ret pe_bl)) pss_nil))) <|
      pss_one (ps_ret pe_bl), ?_⟩
    refine ⟨_, rfl, b, n + 999, 4, rfl, hB.mono (by omega), by decide, by decide, fun r1 H2 ra3 rb4 hB5 k6 => ?_⟩
    obtain ⟨y_hy7, hy7⟩ := hB.lst
    clear hB
    have hB := hB5
    replace kH := kH.trans k6
    refine ⟨_, _, rfl, rfl, .inl ⟨by omega, by omega⟩, _, _, rfl, rfl, ?_⟩
    have hn : 2 + 2 * r1.toNat ≤ 8 := by omega
    have hn2 : 2 ≤ 2 + 2 * r1.toNat := by omega
    have hev : (2 + 2 * r1.toNat) % 2 = 0 := by omega
    rw [show (fun i j => V.int (i + j)) 2 ((fun i j => i * j) 2 r1) = V.int ((2 + 2 * r1.toNat : Nat) : Int) from congrArg V.int (show (2 + 2 * r1 : Int) = _ by omega)]
    revert hn hn2 hev; generalize 2 + 2 * r1.toNat = N; intro hn hn2 hev
    first | refine st_set [some (.ref b), some (.int (N : Nat)), none, none, none, none, none, none, none, none] ?_ rfl | refine st_eq [some (.ref b), some (.int (N : Nat)), none, none, none, none, none, none, none, none] ?_ rfl | refine st_eq (t := tSeq _ _) [some (.ref b), some (.int (N : Nat)), none, none, none, none, none, none, none, none] ?_ rfl
    refine ⟨_, rfl, _, rfl, b, n + 991, N, rfl, hB.mono (by omega), by omega, by omega, fun H8 t9 ps10 hp11 k12 hB13 n14 e_t9 => ?_⟩
    obtain ⟨y_hy15, hy15⟩ := hB.lst
    clear hB
    have hB := hB13
    replace kH := kH.trans k12
    refine ⟨_, rfl, _, rfl, 2, _, rfl, rfl, .inl ⟨by decide, by decide⟩, b, n + 975, (2 * N), rfl, hB.mono (by omega), by omega, by omega, fun H16 t17 ps18 hp19 k20 hB21 n22 e_t17 => ?_⟩
    obtain ⟨y_hy23, hy23⟩ := hB.lst
    replace e_t9 := k20.tup hy23 e_t9
    clear hB
    have hB := hB21
    replace kH := kH.trans k20
    refine ⟨(by show 2 ≤ sizeLine; decide), fun l24 nl24 => ?_⟩
    have s25 : Same H16 (upd H16 l24 (.tup [.ref t9, .ref t17])) := same_new nl24
    have e_l24 : upd H16 l24 (.tup [.ref t9, .ref t17]) l24 = some (.tup [.ref t9, .ref t17]) := upd_same
    revert s25 e_l24; generalize upd H16 l24 (.tup [.ref t9, .ref t17]) = H26; intro s25 e_l24
    replace e_t9 := s25 _ _ e_t9
    replace e_t17 := s25 _ _ e_t17
    replace hB := hB.same s25
    replace kH := kH.trans (Keep.of_same s25)
    refine ⟨l24, _, rfl, .inl (.inl e_l24), rfl, _, _, rfl, _, _, rfl, rfl, ?_⟩
    first | refine st_set [some (.ref b), some (.int (N : Nat)), some (.ref t9), some (.ref t17), none, none, none, none, none, none] ?_ rfl | refine st_eq [some (.ref b), some (.int (N : Nat)), some (.ref t9), some (.ref t17), none, none, none, none, none, none] ?_ rfl | refine st_eq (t := tSeq _ _) [some (.ref b), some (.int (N : Nat)), some (.ref t9), some (.ref t17), none, none, none, none, none, none] ?_ rfl
    refine ⟨1, rfl, _, rfl, _, rfl, _, _, rfl, rfl, 10, 9, rfl, rfl, ⟨by decide, by decide, by decide⟩, _, rfl, _, _, rfl, rfl, (by show 5 ≤ sizeLine; decide), fun tq ntq => ?_⟩
    have s27 : Same H26 (upd H26 tq (.tup [.int ((-1)), .int ((N : Int)), .int (((N : Int) + 5)), .int (((10 : Int) ^ Int.toNat 9)), .int ((0 - (N : Int)))])) := same_new ntq
    have e_tq : upd H26 tq (.tup [.int ((-1)), .int ((N : Int)), .int (((N : Int) + 5)), .int (((10 : Int) ^ Int.toNat 9)), .int ((0 - (N : Int)))]) tq = some (.tup [.int ((-1)), .int ((N : Int)), .int (((N : Int) + 5)), .int (((10 : Int) ^ Int.toNat 9)), .int ((0 - (N : Int)))]) := upd_same
    revert s27 e_tq; generalize upd H26 tq (.tup [.int ((-1)), .int ((N : Int)), .int (((N : Int) + 5)), .int (((10 : Int) ^ Int.toNat 9)), .int ((0 - (N : Int)))]) = H28; intro s27 e_tq
    replace e_t9 := s27 _ _ e_t9
    replace e_t17 := s27 _ _ e_t17
    replace hB := hB.same s27
    replace kH := kH.trans (Keep.of_same s27)
    refine ⟨tq, rfl, ⟨_, .inl (.inl e_tq)⟩, ?_⟩
    refine for_tup (xs := [V.int (-1), V.int (N : Int), V.int ((N : Int) + 5), V.int ((10 : Int) ^ Int.toNat 9), V.int (0 - (N : Int))]) (fun i σ H' => Keep b H H' ∧ Box (n + (970 + (5 - i))) H' b ∧ H' t9 = some (.tup (nv (ps10))) ∧ H' t17 = some (.tup (nv (ps18))) ∧ H' tq = some (.tup [.int ((-1)), .int ((N : Int)), .int (((N : Int) + 5)), .int (((10 : Int) ^ Int.toNat 9)), .int ((0 - (N : Int)))]) ∧ ∃ (y_odd y_row y_more y_hall_here y_found : Option V), σ = [some (.ref b), some (.int (N : Nat)), some (.ref t9), some (.ref t17), y_odd, y_row, y_more, y_hall_here, y_found, none]) ⟨kH, hB.mono (by omega), e_t9, e_t17, e_tq, _, _, _, _, _, rfl⟩ (fun i σ H' _ h => .inl (.inl h.2.2.2.2.1)) (fun i x σ Hi hx hPv => ?_) (fun σ Hi hPv => ?_)
    · clear kH hB e_t9 e_t17 e_tq
      obtain ⟨kH, hB, e_t9, e_t17, e_tq, y_odd, y_row, y_more, y_hall_here, y_found, rfl⟩ := hPv
      have hi5 : i < 5 := get_lt hx
      obtain ⟨m, hm⟩ : ∃ z, z = n + (970 + (5 - (i + 1))) := ⟨_, rfl⟩
      replace hB : Box (m + 1) Hi b := hB.mono (by omega)
      obtain ⟨u, rfl, hu, hu1, hu2⟩ : ∃ u : Int, x = .int u ∧ ¬ (0 ≤ u ∧ u < (N : Nat)) ∧ -(2 ^ 40) < u ∧ u < 2 ^ 40 := by
        rcases (show i = 0 ∨ i = 1 ∨ i = 2 ∨ i = 3 ∨ i = 4 by omega) with z | z | z | z | z
        · subst z; exact ⟨_, (Option.some.inj hx).symm, by omega, by omega, by omega⟩
        · subst z; exact ⟨_, (Option.some.inj hx).symm, by omega, by omega, by omega⟩
        · subst z; exact ⟨_, (Option.some.inj hx).symm, by omega, by omega, by omega⟩
        · subst z; exact ⟨(1000000000 : Int), (Option.some.inj hx).symm, by omega, by omega, by omega⟩
        · subst z; exact ⟨_, (Option.some.inj hx).symm, by omega, by omega, by omega⟩
      refine st_set [some (.ref b), some (.int (N : Nat)), some (.ref t9), some (.ref t17), some (.int (u)), y_row, y_more, y_hall_here, y_found, none] ?_ rfl
      refine ⟨(by show 2 ≤ sizeLine; decide), fun c1 nc1 => ?_⟩
      have s29 : Same Hi (upd Hi c1 (.tup [.int (0), .int (1)])) := same_new nc1
      have e_c1 : upd Hi c1 (.tup [.int (0), .int (1)]) c1 = some (.tup [.int (0), .int (1)]) := upd_same
      revert s29 e_c1; generalize upd Hi c1 (.tup [.int (0), .int (1)]) = H30; intro s29 e_c1
      replace e_t9 := s29 _ _ e_t9
      replace e_t17 := s29 _ _ e_t17
      replace e_tq := s29 _ _ e_tq
      replace hB := hB.same s29
      replace kH := kH.trans (Keep.of_same s29)
      refine ⟨(by show 1 ≤ sizeLine; decide), fun l1 nl1 => ?_⟩
      have ne_l1 : l1 ≠ b := (hB.ne_new nl1).symm
      have s31 : Same H30 (upd H30 l1 (.lst [.ref c1])) := same_new nl1
      have e_l1 : upd H30 l1 (.lst [.ref c1]) l1 = some (.lst [.ref c1]) := upd_same
      revert s31 e_l1; generalize upd H30 l1 (.lst [.ref c1]) = H32; intro s31 e_l1
      replace e_t9 := s31 _ _ e_t9
      replace e_t17 := s31 _ _ e_t17
      replace e_tq := s31 _ _ e_tq
      replace e_c1 := s31 _ _ e_c1
      replace hB := hB.same s31
      replace kH := kH.trans (Keep.of_same s31)
      refine ⟨_, rfl, b, m + 0, 3, rfl, hB.mono (by omega), by decide, by decide, fun r33 H34 ra35 rb36 hB37 k38 => ?_⟩
      obtain ⟨y_hy39, hy39⟩ := hB.lst
      replace e_t9 := k38.tup hy39 e_t9
      replace e_t17 := k38.tup hy39 e_t17
      replace e_tq := k38.tup hy39 e_tq
      replace e_c1 := k38.tup hy39 e_c1
      replace e_l1 := k38 _ _ ne_l1 e_l1
      clear hB
      have hB := hB37
      replace kH := kH.trans k38
      refine ⟨l1, r33, _, rfl, rfl, e_l1, by omega, by omega, ?_, fun l2 nl2 => ?_⟩
      · show 1 * (r33).toNat ≤ sizeLine; exact Nat.le_of_lt (small1000 (by omega))
      obtain ⟨k, hk⟩ : ∃ k, k = (r33).toNat := ⟨_, rfl⟩
      have hk3 : k < 3 := by omega
      rw [show (List.replicate (r33).toNat [V.ref c1]).flatten = List.replicate k (V.ref c1) by rw [← hk, List.flatten_replicate_singleton]]
      have ne_l2 : l2 ≠ b := (hB.ne_new nl2).symm
      have s40 : Same H34 (upd H34 l2 (.lst (List.replicate k (V.ref c1)))) := same_new nl2
      have e_l2 : upd H34 l2 (.lst (List.replicate k (V.ref c1))) l2 = some (.lst (List.replicate k (V.ref c1))) := upd_same
      revert s40 e_l2; generalize upd H34 l2 (.lst (List.replicate k (V.ref c1))) = H41; intro s40 e_l2
      replace e_t9 := s40 _ _ e_t9
      replace e_t17 := s40 _ _ e_t17
      replace e_tq := s40 _ _ e_tq
      replace e_c1 := s40 _ _ e_c1
      replace e_l1 := s40 _ _ e_l1
      replace hB := hB.same s40
      replace kH := kH.trans (Keep.of_same s40)
      refine ⟨_, rfl, _, rfl, _, rfl, _, _, rfl, _, 9, rfl, rfl, (by show 2 ≤ sizeLine; decide), fun c2 nc2 => ?_⟩
      have s42 : Same H41 (upd H41 c2 (.tup [.int (u), .int (((if (N : Int) > u then (N : Int) else u) + 9))])) := same_new nc2
      have e_c2 : upd H41 c2 (.tup [.int (u), .int (((if (N : Int) > u then (N : Int) else u) + 9))]) c2 = some (.tup [.int (u), .int (((if (N : Int) > u then (N : Int) else u) + 9))]) := upd_same
      revert s42 e_c2; generalize upd H41 c2 (.tup [.int (u), .int (((if (N : Int) > u then (N : Int) else u) + 9))]) = H43; intro s42 e_c2
      replace e_t9 := s42 _ _ e_t9
      replace e_t17 := s42 _ _ e_t17
      replace e_tq := s42 _ _ e_tq
      replace e_c1 := s42 _ _ e_c1
      replace e_l1 := s42 _ _ e_l1
      replace e_l2 := s42 _ _ e_l2
      replace hB := hB.same s42
      replace kH := kH.trans (Keep.of_same s42)
      refine ⟨(by show 1 ≤ sizeLine; decide), fun l3 nl3 => ?_⟩
      have ne_l3 : l3 ≠ b := (hB.ne_new nl3).symm
      have s44 : Same H43 (upd H43 l3 (.lst [.ref c2])) := same_new nl3
      have e_l3 : upd H43 l3 (.lst [.ref c2]) l3 = some (.lst [.ref c2]) := upd_same
      revert s44 e_l3; generalize upd H43 l3 (.lst [.ref c2]) = H45; intro s44 e_l3
      replace e_t9 := s44 _ _ e_t9
      replace e_t17 := s44 _ _ e_t17
      replace e_tq := s44 _ _ e_tq
      replace e_c1 := s44 _ _ e_c1
      replace e_l1 := s44 _ _ e_l1
      replace e_l2 := s44 _ _ e_l2
      replace e_c2 := s44 _ _ e_c2
      replace hB := hB.same s44
      replace kH := kH.trans (Keep.of_same s44)
      refine ⟨l2, l3, _, _, rfl, rfl, e_l2, e_l3, ?_, fun l4 nl4 => ?_⟩
      · rw [List.length_replicate]; exact Nat.le_of_lt (small1000 (by show k + 1 ≤ 1000; omega))
      have ne_l4 : l4 ≠ b := (hB.ne_new nl4).symm
      have s46 : Same H45 (upd H45 l4 (.lst (List.replicate k (V.ref c1) ++ [V.ref c2]))) := same_new nl4
      have e_l4 : upd H45 l4 (.lst (List.replicate k (V.ref c1) ++ [V.ref c2])) l4 = some (.lst (List.replicate k (V.ref c1) ++ [V.ref c2])) := upd_same
      revert s46 e_l4; generalize upd H45 l4 (.lst (List.replicate k (V.ref c1) ++ [V.ref c2])) = H47; intro s46 e_l4
      replace e_t9 := s46 _ _ e_t9
      replace e_t17 := s46 _ _ e_t17
      replace e_tq := s46 _ _ e_tq
      replace e_c1 := s46 _ _ e_c1
      replace e_c2 := s46 _ _ e_c2
      replace hB := hB.same s46
      replace kH := kH.trans (Keep.of_same s46)
      first | refine st_set [some (.ref b), some (.int (N : Nat)), some (.ref t9), some (.ref t17), some (.int (u)), some (.ref l4), y_more, y_hall_here, y_found, none] ?_ rfl | refine st_eq [some (.ref b), some (.int (N : Nat)), some (.ref t9), some (.ref t17), some (.int (u)), some (.ref l4), y_more, y_hall_here, y_found, none] ?_ rfl | refine st_eq (t := tSeq _ _) [some (.ref b), some (.int (N : Nat)), some (.ref t9), some (.ref t17), some (.int (u)), some (.ref l4), y_more, y_hall_here, y_found, none] ?_ rfl
      have hIk : ItemsZ K H47 (List.replicate k (V.ref c1)) (List.replicate k (0, 1)) := itemsZ_rep e_c1 k
      have hRw : Rw K N u l4 H47 (List.replicate k (V.ref c1) ++ [V.ref c2]) (List.replicate k (0, 1) ++ [(u, ((if (N : Int) > u then (N : Int) else u) + 9))]) := ⟨.inl (.inl e_l4), itemsZ_app hIk (itemsZ_one (.inr (.inl (.inl e_c2)))), by rw [badW_rep (by omega)]; exact badW_hit (badP_fst hu)⟩
      have hLs : Lst K N u H47 (List.replicate k (V.ref c1) ++ [V.ref c2]) := ⟨c2, u, ((if (N : Int) > u then (N : Int) else u) + 9), last_snoc _ _, .inr (.inl (.inl e_c2)), badP_fst hu⟩
      refine ⟨7, rfl, by decide, by decide, fun D48 nD48 => ?_⟩
      refine lc_range (n := 7) (fun i H' => Same H47 H' ∧ H' D48 = some (.lst (List.replicate i (.int u)))) ⟨same_new nD48, upd_same⟩ (fun i H' hi hPv => ?_) (fun H' hPv => ?_)
      · obtain ⟨sm, eD⟩ := hPv
        refine ⟨rfl, yes_if ⟨_, rfl, _, rfl, _, rfl, _, rfl, (by show 0 ≤ sizeLine; decide), fun lr nlr => ⟨0, (0 : Int) + (i : Nat), u, t9, t17, lr, ps10, N, rfl, .inl (.inl ((sm.trans (same_new nlr)) _ _ e_t9)), hp11, hn2, by omega, hu, .inl ⟨rfl, by omega, by omega, _, .inl (.inl (same_new nlr _ _ (sm _ _ e_t17))), hp19⟩, fun H6 s6 => ⟨_, s6 _ _ (same_new nlr _ _ eD), ?_, fun z o hz => ?_, ?_⟩⟩⟩⟩
        · rw [List.length_replicate]; exact small1000 (by omega)
        · rw [upd_ne (ne_of_none hz nD48)]; exact s6 _ _ ((sm.trans (same_new nlr)) _ _ hz)
        · rw [upd_same, List.replicate_succ']
      obtain ⟨s49, e_D48⟩ := hPv
      replace e_D48 : H' D48 = some (.lst [.int u, .int u, .int u, .int u, .int u, .int u, .int u]) := e_D48
      revert s49 e_D48; generalize H' = H50; intro s49 e_D48
      have ne_D48 : D48 ≠ b := (hB.ne_new nD48).symm
      replace e_t9 := s49 _ _ e_t9
      replace e_t17 := s49 _ _ e_t17
      replace e_tq := s49 _ _ e_tq
      replace e_c1 := s49 _ _ e_c1
      replace e_l4 := s49 _ _ e_l4
      replace hIk := hIk.same s49
      replace hRw := hRw.same s49
      replace hLs := hLs.same s49
      replace hB := hB.same s49
      replace kH := kH.trans (Keep.of_same s49)
      refine ⟨_, rfl, (by show 1 ≤ sizeLine; decide), fun l51 nl51 => ?_⟩
      have ne_l51 : l51 ≠ b := (hB.ne_new nl51).symm
      have s52 : Same H50 (upd H50 l51 (.lst [.int (u)])) := same_new nl51
      have e_l51 : upd H50 l51 (.lst [.int (u)]) l51 = some (.lst [.int (u)]) := upd_same
      revert s52 e_l51; generalize upd H50 l51 (.lst [.int (u)]) = H53; intro s52 e_l51
      replace e_t9 := s52 _ _ e_t9
      replace e_t17 := s52 _ _ e_t17
      replace e_tq := s52 _ _ e_tq
      replace e_c1 := s52 _ _ e_c1
      replace e_l4 := s52 _ _ e_l4
      replace e_D48 := s52 _ _ e_D48
      replace hIk := hIk.same s52
      replace hRw := hRw.same s52
      replace hLs := hLs.same s52
      replace hB := hB.same s52
      replace kH := kH.trans (Keep.of_same s52)
      refine ⟨l51, 7, _, rfl, rfl, e_l51, by decide, by decide, (by show 1 * 7 ≤ sizeLine; decide), fun l54 nl54 => ?_⟩
      rw [show (List.replicate (Int.toNat 7) [V.int u]).flatten = [V.int u, V.int u, V.int u, V.int u, V.int u, V.int u, V.int u] from rfl]
      have ne_l54 : l54 ≠ b := (hB.ne_new nl54).symm
      have s55 : Same H53 (upd H53 l54 (.lst [.int (u), .int (u), .int (u), .int (u), .int (u), .int (u), .int (u)])) := same_new nl54
      have e_l54 : upd H53 l54 (.lst [.int (u), .int (u), .int (u), .int (u), .int (u), .int (u), .int (u)]) l54 = some (.lst [.int (u), .int (u), .int (u), .int (u), .int (u), .int (u), .int (u)]) := upd_same
      revert s55 e_l54; generalize upd H53 l54 (.lst [.int (u), .int (u), .int (u), .int (u), .int (u), .int (u), .int (u)]) = H56; intro s55 e_l54
      replace e_t9 := s55 _ _ e_t9
      replace e_t17 := s55 _ _ e_t17
      replace e_tq := s55 _ _ e_tq
      replace e_c1 := s55 _ _ e_c1
      replace e_l4 := s55 _ _ e_l4
      replace e_D48 := s55 _ _ e_D48
      replace e_l51 := s55 _ _ e_l51
      replace hIk := hIk.same s55
      replace hRw := hRw.same s55
      replace hLs := hLs.same s55
      replace hB := hB.same s55
      replace kH := kH.trans (Keep.of_same s55)
      have fk57 : Fi 1 (.list [.int (u), .int (u), .int (u), .int (u), .int (u), .int (u), .int (u)]) := fi_list (j := 0) (n := 7) (fa_cons (fi_int (by omega)) (fa_cons (fi_int (by omega)) (fa_cons (fi_int (by omega)) (fa_cons (fi_int (by omega)) (fa_cons (fi_int (by omega)) (fa_cons (fi_int (by omega)) (fa_cons (fi_int (by omega)) fa_nil))))))) rfl (by decide)
      refine ⟨_, _, _, rfl, .lst (.inl (.inl e_D48)) (.cons (.int _) (.cons (.int _) (.cons (.int _) (.cons (.int _) (.cons (.int _) (.cons (.int _) (.cons (.int _) .nil))))))), .lst (.inl (.inl e_l54)) (.cons (.int _) (.cons (.int _) (.cons (.int _) (.cons (.int _) (.cons (.int _) (.cons (.int _) (.cons (.int _) .nil))))))), Nat.lt_succ_of_le (Nat.le_trans fk57.depth (by decide)), fk57.nar, fun H58 s59 => ?_⟩
      replace e_t9 := s59 _ _ e_t9
      replace e_t17 := s59 _ _ e_t17
      replace e_tq := s59 _ _ e_tq
      replace e_c1 := s59 _ _ e_c1
      replace e_l4 := s59 _ _ e_l4
      replace e_D48 := s59 _ _ e_D48
      replace e_l51 := s59 _ _ e_l51
      replace e_l54 := s59 _ _ e_l54
      replace hIk := hIk.same s59
      replace hRw := hRw.same s59
      replace hLs := hLs.same s59
      replace hB := hB.same s59
      replace kH := kH.trans (Keep.of_same s59)
      refine ⟨true, rfl, iteN ?_⟩
      refine ⟨12, rfl, by decide, by decide, fun D60 nD60 => ?_⟩
      refine lc_range (n := 12) (fun i H' => Same H58 H' ∧ H' D60 = some (.lst (List.replicate i (.int u)))) ⟨same_new nD60, upd_same⟩ (fun i H' hi hPv => ?_) (fun H' hPv => ?_)
      · obtain ⟨sm, eD⟩ := hPv
        refine ⟨rfl, yes_if ⟨_, rfl, _, rfl, _, rfl, _, rfl, _, rfl, 1, (0 : Int) + (i : Nat), u, t9, t17, l4, ps10, N, rfl, .inl (.inl (sm _ _ e_t9)), hp11, hn2, by omega, hu, .inr (.inl ⟨rfl, by omega, by omega, _, _, _, .inl (.inl (sm _ _ e_t17)), hp19, hRw.same sm, .inr (hLs.same sm)⟩), fun H6 s6 => ⟨_, s6 _ _ eD, ?_, fun z o hz => ?_, ?_⟩⟩⟩
        · rw [List.length_replicate]; exact small1000 (by omega)
        · rw [upd_ne (ne_of_none hz nD60)]; exact s6 _ _ (sm _ _ hz)
        · rw [upd_same, List.replicate_succ']
      obtain ⟨s61, e_D60⟩ := hPv
      replace e_D60 : H' D60 = some (.lst [.int u, .int u, .int u, .int u, .int u, .int u, .int u, .int u, .int u, .int u, .int u, .int u]) := e_D60
      revert s61 e_D60; generalize H' = H62; intro s61 e_D60
      have ne_D60 : D60 ≠ b := (hB.ne_new nD60).symm
      replace e_t9 := s61 _ _ e_t9
      replace e_t17 := s61 _ _ e_t17
      replace e_tq := s61 _ _ e_tq
      replace e_c1 := s61 _ _ e_c1
      replace e_l4 := s61 _ _ e_l4
      replace hIk := hIk.same s61
      replace hRw := hRw.same s61
      replace hLs := hLs.same s61
      replace hB := hB.same s61
      replace kH := kH.trans (Keep.of_same s61)
      refine ⟨_, rfl, (by show 1 ≤ sizeLine; decide), fun l63 nl63 => ?_⟩
      have ne_l63 : l63 ≠ b := (hB.ne_new nl63).symm
      have s64 : Same H62 (upd H62 l63 (.lst [.int (u)])) := same_new nl63
      have e_l63 : upd H62 l63 (.lst [.int (u)]) l63 = some (.lst [.int (u)]) := upd_same
      revert s64 e_l63; generalize upd H62 l63 (.lst [.int (u)]) = H65; intro s64 e_l63
      replace e_t9 := s64 _ _ e_t9
      replace e_t17 := s64 _ _ e_t17
      replace e_tq := s64 _ _ e_tq
      replace e_c1 := s64 _ _ e_c1
      replace e_l4 := s64 _ _ e_l4
      replace e_D60 := s64 _ _ e_D60
      replace hIk := hIk.same s64
      replace hRw := hRw.same s64
      replace hLs := hLs.same s64
      replace hB := hB.same s64
      replace kH := kH.trans (Keep.of_same s64)
      refine ⟨l63, 12, _, rfl, rfl, e_l63, by decide, by decide, (by show 1 * 12 ≤ sizeLine; decide), fun l66 nl66 => ?_⟩
      rw [show (List.replicate (Int.toNat 12) [V.int u]).flatten = [V.int u, V.int u, V.int u, V.int u, V.int u, V.int u, V.int u, V.int u, V.int u, V.int u, V.int u, V.int u] from rfl]
      have ne_l66 : l66 ≠ b := (hB.ne_new nl66).symm
      have s67 : Same H65 (upd H65 l66 (.lst [.int (u), .int (u), .int (u), .int (u), .int (u), .int (u), .int (u), .int (u), .int (u), .int (u), .int (u), .int (u)])) := same_new nl66
      have e_l66 : upd H65 l66 (.lst [.int (u), .int (u), .int (u), .int (u), .int (u), .int (u), .int (u), .int (u), .int (u), .int (u), .int (u), .int (u)]) l66 = some (.lst [.int (u), .int (u), .int (u), .int (u), .int (u), .int (u), .int (u), .int (u), .int (u), .int (u), .int (u), .int (u)]) := upd_same
      revert s67 e_l66; generalize upd H65 l66 (.lst [.int (u), .int (u), .int (u), .int (u), .int (u), .int (u), .int (u), .int (u), .int (u), .int (u), .int (u), .int (u)]) = H68; intro s67 e_l66
      replace e_t9 := s67 _ _ e_t9
      replace e_t17 := s67 _ _ e_t17
      replace e_tq := s67 _ _ e_tq
      replace e_c1 := s67 _ _ e_c1
      replace e_l4 := s67 _ _ e_l4
      replace e_D60 := s67 _ _ e_D60
      replace e_l63 := s67 _ _ e_l63
      replace hIk := hIk.same s67
      replace hRw := hRw.same s67
      replace hLs := hLs.same s67
      replace hB := hB.same s67
      replace kH := kH.trans (Keep.of_same s67)
      have fk69 : Fi 1 (.list [.int (u), .int (u), .int (u), .int (u), .int (u), .int (u), .int (u), .int (u), .int (u), .int (u), .int (u), .int (u)]) := fi_list (j := 0) (n := 12) (fa_cons (fi_int (by omega)) (fa_cons (fi_int (by omega)) (fa_cons (fi_int (by omega)) (fa_cons (fi_int (by omega)) (fa_cons (fi_int (by omega)) (fa_cons (fi_int (by omega)) (fa_cons (fi_int (by omega)) (fa_cons (fi_int (by omega)) (fa_cons (fi_int (by omega)) (fa_cons (fi_int (by omega)) (fa_cons (fi_int (by omega)) (fa_cons (fi_int (by omega)) fa_nil)))))))))))) rfl (by decide)
      refine ⟨_, _, _, rfl, .lst (.inl (.inl e_D60)) (.cons (.int _) (.cons (.int _) (.cons (.int _) (.cons (.int _) (.cons (.int _) (.cons (.int _) (.cons (.int _) (.cons (.int _) (.cons (.int _) (.cons (.int _) (.cons (.int _) (.cons (.int _) .nil)))))))))))), .lst (.inl (.inl e_l66)) (.cons (.int _) (.cons (.int _) (.cons (.int _) (.cons (.int _) (.cons (.int _) (.cons (.int _) (.cons (.int _) (.cons (.int _) (.cons (.int _) (.cons (.int _) (.cons (.int _) (.cons (.int _) .nil)))))))))))), Nat.lt_succ_of_le (Nat.le_trans fk69.depth (by decide)), fk69.nar, fun H70 s71 => ?_⟩
      replace e_t9 := s71 _ _ e_t9
      replace e_t17 := s71 _ _ e_t17
      replace e_tq := s71 _ _ e_tq
      replace e_c1 := s71 _ _ e_c1
      replace e_l4 := s71 _ _ e_l4
      replace e_D60 := s71 _ _ e_D60
      replace e_l63 := s71 _ _ e_l63
      replace e_l66 := s71 _ _ e_l66
      replace hIk := hIk.same s71
      replace hRw := hRw.same s71
      replace hLs := hLs.same s71
      replace hB := hB.same s71
      replace kH := kH.trans (Keep.of_same s71)
      refine ⟨true, rfl, iteN ?_⟩
      refine ⟨_, rfl, 1, rfl, -1, rfl, l4, _, rfl, .inl (.inl e_l4), fun l5 nl5 => ?_⟩
      rw [cut_front]
      have ne_l5 : l5 ≠ b := (hB.ne_new nl5).symm
      have s72 : Same H70 (upd H70 l5 (.lst (List.replicate k (V.ref c1)))) := same_new nl5
      have e_l5 : upd H70 l5 (.lst (List.replicate k (V.ref c1))) l5 = some (.lst (List.replicate k (V.ref c1))) := upd_same
      revert s72 e_l5; generalize upd H70 l5 (.lst (List.replicate k (V.ref c1))) = H73; intro s72 e_l5
      replace e_t9 := s72 _ _ e_t9
      replace e_t17 := s72 _ _ e_t17
      replace e_tq := s72 _ _ e_tq
      replace e_c1 := s72 _ _ e_c1
      replace e_l4 := s72 _ _ e_l4
      replace hIk := hIk.same s72
      replace hRw := hRw.same s72
      replace hLs := hLs.same s72
      replace hB := hB.same s72
      replace kH := kH.trans (Keep.of_same s72)
      refine ⟨_, rfl, _, _, rfl, _, rfl, _, _, rfl, (by show 2 ≤ sizeLine; decide), fun c3 nc3 => ?_⟩
      have s74 : Same H73 (upd H73 c3 (.tup [.int ((if u < 0 then u else 0)), .int ((if u > 1 then u else 1))])) := same_new nc3
      have e_c3 : upd H73 c3 (.tup [.int ((if u < 0 then u else 0)), .int ((if u > 1 then u else 1))]) c3 = some (.tup [.int ((if u < 0 then u else 0)), .int ((if u > 1 then u else 1))]) := upd_same
      revert s74 e_c3; generalize upd H73 c3 (.tup [.int ((if u < 0 then u else 0)), .int ((if u > 1 then u else 1))]) = H75; intro s74 e_c3
      replace e_t9 := s74 _ _ e_t9
      replace e_t17 := s74 _ _ e_t17
      replace e_tq := s74 _ _ e_tq
      replace e_c1 := s74 _ _ e_c1
      replace e_l4 := s74 _ _ e_l4
      replace e_l5 := s74 _ _ e_l5
      replace hIk := hIk.same s74
      replace hRw := hRw.same s74
      replace hLs := hLs.same s74
      replace hB := hB.same s74
      replace kH := kH.trans (Keep.of_same s74)
      refine ⟨77, rfl, (by show 2 ≤ sizeLine; decide), fun c4 nc4 => ?_⟩
      have s76 : Same H75 (upd H75 c4 (.tup [.int ((-77)), .int (99)])) := same_new nc4
      have e_c4 : upd H75 c4 (.tup [.int ((-77)), .int (99)]) c4 = some (.tup [.int ((-77)), .int (99)]) := upd_same
      revert s76 e_c4; generalize upd H75 c4 (.tup [.int ((-77)), .int (99)]) = H77; intro s76 e_c4
      replace e_t9 := s76 _ _ e_t9
      replace e_t17 := s76 _ _ e_t17
      replace e_tq := s76 _ _ e_tq
      replace e_c1 := s76 _ _ e_c1
      replace e_l4 := s76 _ _ e_l4
      replace e_l5 := s76 _ _ e_l5
      replace e_c3 := s76 _ _ e_c3
      replace hIk := hIk.same s76
      replace hRw := hRw.same s76
      replace hLs := hLs.same s76
      replace hB := hB.same s76
      replace kH := kH.trans (Keep.of_same s76)
      refine ⟨(by show 2 ≤ sizeLine; decide), fun l6 nl6 => ?_⟩
      have ne_l6 : l6 ≠ b := (hB.ne_new nl6).symm
      have s78 : Same H77 (upd H77 l6 (.lst [.ref c3, .ref c4])) := same_new nl6
      have e_l6 : upd H77 l6 (.lst [.ref c3, .ref c4]) l6 = some (.lst [.ref c3, .ref c4]) := upd_same
      revert s78 e_l6; generalize upd H77 l6 (.lst [.ref c3, .ref c4]) = H79; intro s78 e_l6
      replace e_t9 := s78 _ _ e_t9
      replace e_t17 := s78 _ _ e_t17
      replace e_tq := s78 _ _ e_tq
      replace e_c1 := s78 _ _ e_c1
      replace e_l4 := s78 _ _ e_l4
      replace e_l5 := s78 _ _ e_l5
      replace e_c3 := s78 _ _ e_c3
      replace e_c4 := s78 _ _ e_c4
      replace hIk := hIk.same s78
      replace hRw := hRw.same s78
      replace hLs := hLs.same s78
      replace hB := hB.same s78
      replace kH := kH.trans (Keep.of_same s78)
      refine ⟨l5, l6, _, _, rfl, rfl, e_l5, e_l6, ?_, fun l7 nl7 => ?_⟩
      · rw [List.length_replicate]; exact Nat.le_of_lt (small1000 (by show k + 2 ≤ 1000; omega))
      have ne_l7 : l7 ≠ b := (hB.ne_new nl7).symm
      have s80 : Same H79 (upd H79 l7 (.lst (List.replicate k (V.ref c1) ++ [V.ref c3, V.ref c4]))) := same_new nl7
      have e_l7 : upd H79 l7 (.lst (List.replicate k (V.ref c1) ++ [V.ref c3, V.ref c4])) l7 = some (.lst (List.replicate k (V.ref c1) ++ [V.ref c3, V.ref c4])) := upd_same
      revert s80 e_l7; generalize upd H79 l7 (.lst (List.replicate k (V.ref c1) ++ [V.ref c3, V.ref c4])) = H81; intro s80 e_l7
      replace e_t9 := s80 _ _ e_t9
      replace e_t17 := s80 _ _ e_t17
      replace e_tq := s80 _ _ e_tq
      replace e_c3 := s80 _ _ e_c3
      replace e_c4 := s80 _ _ e_c4
      replace hIk := hIk.same s80
      replace hRw := hRw.same s80
      replace hLs := hLs.same s80
      replace hB := hB.same s80
      replace kH := kH.trans (Keep.of_same s80)
      first | refine st_set [some (.ref b), some (.int (N : Nat)), some (.ref t9), some (.ref t17), some (.int (u)), some (.ref l4), some (.ref l7), y_hall_here, y_found, none] ?_ rfl | refine st_eq [some (.ref b), some (.int (N : Nat)), some (.ref t9), some (.ref t17), some (.int (u)), some (.ref l4), some (.ref l7), y_hall_here, y_found, none] ?_ rfl | refine st_eq (t := tSeq _ _) [some (.ref b), some (.int (N : Nat)), some (.ref t9), some (.ref t17), some (.int (u)), some (.ref l4), some (.ref l7), y_hall_here, y_found, none] ?_ rfl
      have hbp : badP (N : Nat) ((if u < 0 then u else 0), (if u > 1 then u else 1)) = some u := by
        by_cases cu : u < 0
        · rw [if_pos cu]; exact badP_fst hu
        · rw [if_neg cu, if_pos (show u > 1 by omega)]; exact badP_snd ⟨by omega, by omega⟩ hu
      have hRm : Rw K N u l7 H81 (List.replicate k (V.ref c1) ++ [V.ref c3, V.ref c4]) (List.replicate k (0, 1) ++ [((if u < 0 then u else 0), (if u > 1 then u else 1)), (-77, 99)]) := ⟨.inl (.inl e_l7), itemsZ_app hIk (itemsZ_two e_c3 e_c4), by rw [badW_rep (by omega)]; exact badW_hit hbp⟩
      refine ⟨10, rfl, by decide, by decide, fun D82 nD82 => ?_⟩
      refine lc_range (n := 10) (fun i H' => Same H81 H' ∧ H' D82 = some (.lst (List.replicate i (.int u)))) ⟨same_new nD82, upd_same⟩ (fun i H' hi hPv => ?_) (fun H' hPv => ?_)
      · obtain ⟨sm, eD⟩ := hPv
        refine ⟨rfl, yes_if ⟨_, rfl, _, rfl, _, rfl, _, rfl, _, rfl, 1, (0 : Int) + (i : Nat), u, t9, t17, l7, ps10, N, rfl, .inl (.inl (sm _ _ e_t9)), hp11, hn2, by omega, hu, .inr (.inl ⟨rfl, by omega, by omega, _, _, _, .inl (.inl (sm _ _ e_t17)), hp19, hRm.same sm, .inl (by omega)⟩), fun H6 s6 => ⟨_, s6 _ _ eD, ?_, fun z o hz => ?_, ?_⟩⟩⟩
        · rw [List.length_replicate]; exact small1000 (by omega)
        · rw [upd_ne (ne_of_none hz nD82)]; exact s6 _ _ (sm _ _ hz)
        · rw [upd_same, List.replicate_succ']
      obtain ⟨s83, e_D82⟩ := hPv
      replace e_D82 : H' D82 = some (.lst [.int u, .int u, .int u, .int u, .int u, .int u, .int u, .int u, .int u, .int u]) := e_D82
      revert s83 e_D82; generalize H' = H84; intro s83 e_D82
      have ne_D82 : D82 ≠ b := (hB.ne_new nD82).symm
      replace e_t9 := s83 _ _ e_t9
      replace e_t17 := s83 _ _ e_t17
      replace e_tq := s83 _ _ e_tq
      replace e_l7 := s83 _ _ e_l7
      replace hRm := hRm.same s83
      replace hB := hB.same s83
      replace kH := kH.trans (Keep.of_same s83)
      refine ⟨_, rfl, (by show 1 ≤ sizeLine; decide), fun l85 nl85 => ?_⟩
      have ne_l85 : l85 ≠ b := (hB.ne_new nl85).symm
      have s86 : Same H84 (upd H84 l85 (.lst [.int (u)])) := same_new nl85
      have e_l85 : upd H84 l85 (.lst [.int (u)]) l85 = some (.lst [.int (u)]) := upd_same
      revert s86 e_l85; generalize upd H84 l85 (.lst [.int (u)]) = H87; intro s86 e_l85
      replace e_t9 := s86 _ _ e_t9
      replace e_t17 := s86 _ _ e_t17
      replace e_tq := s86 _ _ e_tq
      replace e_l7 := s86 _ _ e_l7
      replace e_D82 := s86 _ _ e_D82
      replace hRm := hRm.same s86
      replace hB := hB.same s86
      replace kH := kH.trans (Keep.of_same s86)
      refine ⟨l85, 10, _, rfl, rfl, e_l85, by decide, by decide, (by show 1 * 10 ≤ sizeLine; decide), fun l88 nl88 => ?_⟩
      rw [show (List.replicate (Int.toNat 10) [V.int u]).flatten = [V.int u, V.int u, V.int u, V.int u, V.int u, V.int u, V.int u, V.int u, V.int u, V.int u] from rfl]
      have ne_l88 : l88 ≠ b := (hB.ne_new nl88).symm
      have s89 : Same H87 (upd H87 l88 (.lst [.int (u), .int (u), .int (u), .int (u), .int (u), .int (u), .int (u), .int (u), .int (u), .int (u)])) := same_new nl88
      have e_l88 : upd H87 l88 (.lst [.int (u), .int (u), .int (u), .int (u), .int (u), .int (u), .int (u), .int (u), .int (u), .int (u)]) l88 = some (.lst [.int (u), .int (u), .int (u), .int (u), .int (u), .int (u), .int (u), .int (u), .int (u), .int (u)]) := upd_same
      revert s89 e_l88; generalize upd H87 l88 (.lst [.int (u), .int (u), .int (u), .int (u), .int (u), .int (u), .int (u), .int (u), .int (u), .int (u)]) = H90; intro s89 e_l88
      replace e_t9 := s89 _ _ e_t9
      replace e_t17 := s89 _ _ e_t17
      replace e_tq := s89 _ _ e_tq
      replace e_l7 := s89 _ _ e_l7
      replace e_D82 := s89 _ _ e_D82
      replace e_l85 := s89 _ _ e_l85
      replace hRm := hRm.same s89
      replace hB := hB.same s89
      replace kH := kH.trans (Keep.of_same s89)
      have fk91 : Fi 1 (.list [.int (u), .int (u), .int (u), .int (u), .int (u), .int (u), .int (u), .int (u), .int (u), .int (u)]) := fi_list (j := 0) (n := 10) (fa_cons (fi_int (by omega)) (fa_cons (fi_int (by omega)) (fa_cons (fi_int (by omega)) (fa_cons (fi_int (by omega)) (fa_cons (fi_int (by omega)) (fa_cons (fi_int (by omega)) (fa_cons (fi_int (by omega)) (fa_cons (fi_int (by omega)) (fa_cons (fi_int (by omega)) (fa_cons (fi_int (by omega)) fa_nil)))))))))) rfl (by decide)
      refine ⟨_, _, _, rfl, .lst (.inl (.inl e_D82)) (.cons (.int _) (.cons (.int _) (.cons (.int _) (.cons (.int _) (.cons (.int _) (.cons (.int _) (.cons (.int _) (.cons (.int _) (.cons (.int _) (.cons (.int _) .nil)))))))))), .lst (.inl (.inl e_l88)) (.cons (.int _) (.cons (.int _) (.cons (.int _) (.cons (.int _) (.cons (.int _) (.cons (.int _) (.cons (.int _) (.cons (.int _) (.cons (.int _) (.cons (.int _) .nil)))))))))), Nat.lt_succ_of_le (Nat.le_trans fk91.depth (by decide)), fk91.nar, fun H92 s93 => ?_⟩
      replace e_t9 := s93 _ _ e_t9
      replace e_t17 := s93 _ _ e_t17
      replace e_tq := s93 _ _ e_tq
      replace e_l7 := s93 _ _ e_l7
      replace e_D82 := s93 _ _ e_D82
      replace e_l85 := s93 _ _ e_l85
      replace e_l88 := s93 _ _ e_l88
      replace hRm := hRm.same s93
      replace hB := hB.same s93
      replace kH := kH.trans (Keep.of_same s93)
      refine ⟨true, rfl, iteN ?_⟩
      refine ⟨_, rfl, fun xh dx nx ndx nex => ?_⟩
      have s0 : Same H92 (upd (upd H92 dx (.own xh)) xh (.ins T.C_Hall dx [])) := fun y o e => by rw [upd_ne (ne_of_none e nx), upd_ne (ne_of_none e ndx)]; exact e
      refine ⟨xh, dx, t9, nv ps10, rfl, upd_same, .inl (.inl (s0 _ _ e_t9)), fun Hh k1 hHall => ⟨rfl, ?_⟩⟩
      have s1 : Same H92 Hh := fun y o e => k1 y o (ne_of_none e nx) (s0 y o e)
      clear k1 s0
      replace e_t9 := s1 _ _ e_t9
      replace e_t17 := s1 _ _ e_t17
      replace e_tq := s1 _ _ e_tq
      replace e_l7 := s1 _ _ e_l7
      replace hRm := hRm.same s1
      replace hB := hB.same s1
      replace kH := kH.trans (Keep.of_same s1)
      first | refine st_set [some (.ref b), some (.int (N : Nat)), some (.ref t9), some (.ref t17), some (.int (u)), some (.ref l4), some (.ref l7), some (.ref xh), y_found, none] ?_ rfl | refine st_eq [some (.ref b), some (.int (N : Nat)), some (.ref t9), some (.ref t17), some (.int (u)), some (.ref l4), some (.ref l7), some (.ref xh), y_found, none] ?_ rfl | refine st_eq (t := tSeq _ _) [some (.ref b), some (.int (N : Nat)), some (.ref t9), some (.ref t17), some (.int (u)), some (.ref l4), some (.ref l7), some (.ref xh), y_found, none] ?_ rfl
      refine ⟨4, rfl, by decide, by decide, fun D94 nD94 => ?_⟩
      refine lc_range (n := 4) (fun i H' => Same Hh H' ∧ H' D94 = some (.lst (List.replicate i (.int u)))) ⟨same_new nD94, upd_same⟩ (fun i H' hi hPv => ?_) (fun H' hPv => ?_)
      · obtain ⟨sm, eD⟩ := hPv
        refine ⟨rfl, yes_if ⟨_, rfl, _, rfl, _, rfl, _, rfl, _, rfl, 2, (0 : Int) + (i : Nat), u, t9, xh, l7, ps10, N, rfl, .inl (.inl (sm _ _ e_t9)), hp11, hn2, by omega, hu, .inr (.inr ⟨rfl, by omega, by omega, _, _, hHall.same sm, hRm.same sm⟩), fun H6 s6 => ⟨_, s6 _ _ eD, ?_, fun z o hz => ?_, ?_⟩⟩⟩
        · rw [List.length_replicate]; exact small1000 (by omega)
        · rw [upd_ne (ne_of_none hz nD94)]; exact s6 _ _ (sm _ _ hz)
        · rw [upd_same, List.replicate_succ']
      obtain ⟨s95, e_D94⟩ := hPv
      replace e_D94 : H' D94 = some (.lst [.int u, .int u, .int u, .int u]) := e_D94
      revert s95 e_D94; generalize H' = H96; intro s95 e_D94
      have ne_D94 : D94 ≠ b := (hB.ne_new nD94).symm
      replace e_t9 := s95 _ _ e_t9
      replace e_t17 := s95 _ _ e_t17
      replace e_tq := s95 _ _ e_tq
      replace e_l7 := s95 _ _ e_l7
      replace hRm := hRm.same s95
      replace hHall := hHall.same s95
      replace hB := hB.same s95
      replace kH := kH.trans (Keep.of_same s95)
      first | refine st_set [some (.ref b), some (.int (N : Nat)), some (.ref t9), some (.ref t17), some (.int (u)), some (.ref l4), some (.ref l7), some (.ref xh), some (.ref D94), none] ?_ rfl | refine st_eq [some (.ref b), some (.int (N : Nat)), some (.ref t9), some (.ref t17), some (.int (u)), some (.ref l4), some (.ref l7), some (.ref xh), some (.ref D94), none] ?_ rfl | refine st_eq (t := tSeq _ _) [some (.ref b), some (.int (N : Nat)), some (.ref t9), some (.ref t17), some (.int (u)), some (.ref l4), some (.ref l7), some (.ref xh), some (.ref D94), none] ?_ rfl
      refine ⟨_, rfl, _, rfl, (by show 1 ≤ sizeLine; decide), fun l97 nl97 => ?_⟩
      have ne_l97 : l97 ≠ b := (hB.ne_new nl97).symm
      have s98 : Same H96 (upd H96 l97 (.lst [.int (u)])) := same_new nl97
      have e_l97 : upd H96 l97 (.lst [.int (u)]) l97 = some (.lst [.int (u)]) := upd_same
      revert s98 e_l97; generalize upd H96 l97 (.lst [.int (u)]) = H99; intro s98 e_l97
      replace e_t9 := s98 _ _ e_t9
      replace e_t17 := s98 _ _ e_t17
      replace e_tq := s98 _ _ e_tq
      replace e_l7 := s98 _ _ e_l7
      replace e_D94 := s98 _ _ e_D94
      replace hRm := hRm.same s98
      replace hHall := hHall.same s98
      replace hB := hB.same s98
      replace kH := kH.trans (Keep.of_same s98)
      refine ⟨l97, 4, _, rfl, rfl, e_l97, by decide, by decide, (by show 1 * 4 ≤ sizeLine; decide), fun l100 nl100 => ?_⟩
      rw [show (List.replicate (Int.toNat 4) [V.int u]).flatten = [V.int u, V.int u, V.int u, V.int u] from rfl]
      have ne_l100 : l100 ≠ b := (hB.ne_new nl100).symm
      have s101 : Same H99 (upd H99 l100 (.lst [.int (u), .int (u), .int (u), .int (u)])) := same_new nl100
      have e_l100 : upd H99 l100 (.lst [.int (u), .int (u), .int (u), .int (u)]) l100 = some (.lst [.int (u), .int (u), .int (u), .int (u)]) := upd_same
      revert s101 e_l100; generalize upd H99 l100 (.lst [.int (u), .int (u), .int (u), .int (u)]) = H102; intro s101 e_l100
      replace e_t9 := s101 _ _ e_t9
      replace e_t17 := s101 _ _ e_t17
      replace e_tq := s101 _ _ e_tq
      replace e_l7 := s101 _ _ e_l7
      replace e_D94 := s101 _ _ e_D94
      replace e_l97 := s101 _ _ e_l97
      replace hRm := hRm.same s101
      replace hHall := hHall.same s101
      replace hB := hB.same s101
      replace kH := kH.trans (Keep.of_same s101)
      have fk103 : Fi 1 (.list [.int (u), .int (u), .int (u), .int (u)]) := fi_list (j := 0) (n := 4) (fa_cons (fi_int (by omega)) (fa_cons (fi_int (by omega)) (fa_cons (fi_int (by omega)) (fa_cons (fi_int (by omega)) fa_nil)))) rfl (by decide)
      refine ⟨_, _, _, rfl, .lst (.inl (.inl e_D94)) (.cons (.int _) (.cons (.int _) (.cons (.int _) (.cons (.int _) .nil)))), .lst (.inl (.inl e_l100)) (.cons (.int _) (.cons (.int _) (.cons (.int _) (.cons (.int _) .nil)))), Nat.lt_succ_of_le (Nat.le_trans fk103.depth (by decide)), fk103.nar, fun H104 s105 => ?_⟩
      replace e_t9 := s105 _ _ e_t9
      replace e_t17 := s105 _ _ e_t17
      replace e_tq := s105 _ _ e_tq
      replace e_l7 := s105 _ _ e_l7
      replace e_D94 := s105 _ _ e_D94
      replace e_l97 := s105 _ _ e_l97
      replace e_l100 := s105 _ _ e_l100
      replace hRm := hRm.same s105
      replace hHall := hHall.same s105
      replace hB := hB.same s105
      replace kH := kH.trans (Keep.of_same s105)
      refine ⟨true, rfl, iteN ?_⟩
      obtain ⟨dh, ph, qh, uh, g1, g2, g3⟩ := id hHall
      have fks : Fi 1 (td ps10) := fi_tup hp11 (by omega)
      refine ⟨_, rfl, xh, dh, _, rfl, g1, hfl_no _ _ (by decide +kernel) (by decide +kernel), xh, t9, rfl, hHall, _, rfl, _, _, .tup (.inl (.inl e_t9)) (dp_nats _), .tup (.inl (.inl e_t9)) (dp_nats _), fks.sh, fks.sh, _, rfl, iteX (fi_ne fks) ?_⟩
      refine ⟨_, rfl, xh, dh, _, rfl, g1, hfl_no _ _ (by decide +kernel) (by decide +kernel), xh, t9, rfl, hHall, rfl, _, rfl, iteX (fi_same rfl) ?_⟩
      exact ⟨kH, hB.mono (by omega), e_t9, e_t17, e_tq, _, _, _, _, _, rfl⟩
    clear kH hB e_t9 e_t17 e_tq
    obtain ⟨kH, hB, e_t9, e_t17, e_tq, y_odd, y_row, y_more, y_hall_here, y_found, rfl⟩ := hPv
    exact q _ kH (hB.mono (by omega))
end
end Pc
namespace Pc
open PySem PySem.Spec PyProof.Rows L2 RZ
section
variable {P : Program} {w : World} {K : PySem.W.Frag} {mg : Str → Option Value} {base : Heap}
/-! ### the law -/
def spLaw (K : PySem.W.Frag) : Sp := fun vs H Q _ => ∃ (a : Addr) (ns : List Int), vs = [.ref a] ∧ SqL K H a (ns.map V.int) ∧ ns.length ≤ 63 ∧ ∀ H', Q (.bl true) H'
theorem ok_law (T : Env K mg) {f : Addr} {fd : FuncData} (F : Fun K "law" "law" s_law f fd) : FnOk P w K mg base CX0 13 f fd ["_law_script"] (spLaw K) := by
  have GC : FnOk P w K mg base CX0 1 T.f_folded T.d_folded ["_law_script", "_law_most"] (spCells K) := ok_cells T
  have GB : FnOk P w K mg base CX0 1 T.f_stream T.d_stream ["_law_script", "_law_k"] (spBox K) := ok_box T
  have GR : FnOk P w K mg base CX0 12 T.f_right T.d_right ["_law_source"] spRight := ok_right T
  refine F.ok sc_law (fun vs H Q E h => ?_) (fun cdv A outer s H vs Q E hr h => ?_)
  · obtain ⟨a, ns, rfl, _⟩ := h
    rfl
  · obtain ⟨a, ns, rfl, hS, hn, q⟩ := h
    have h1 := hr.mono (show 1 ≤ 12 by decide)
    refine ⟨_, pss_cons (ps_set (i := 1) sc_law.nd rfl (.inl rfl) (pe_call GC h1 (by rfl) T.g_folded T.F_folded.kp T.b_folded .nil pass0 (pa_cons (pv 0) (pa_cons pe_int pa_nil)))) <|
      pss_cons (ps_for PassesOwn.never rfl (pi_range1 (by rfl) T.n_range (pa_cons (pe_callB call_len_seq (by rfl) T.n_len PySem.boot_len (pa_cons (pv 1) pa_nil)) pa_nil)) (pg_name (i := 2) sc_law.nd rfl (.inl rfl))
        (pss_cons (ps_set (i := 3) sc_law.nd rfl (.inr rfl) (pe_call GB h1 (by rfl) T.g_stream T.F_stream.kp T.b_stream .nil pass0 (pa_cons (pv 1) (pa_cons (pv 2) pa_nil))))
        (pss_one (ps_if (pt_not (pt_val (pe_callB (cr_all rfl) (by rfl) T.n_all (by decide +kernel) (pa_cons
          (pe_lc (own := [("_law_turn", 4)]) (g := gName 4) (tt := tYes) rfl sc_law.nd (pi_range1 (by rfl) T.n_range (pa_cons pe_int pa_nil)) (blkOk_by (N := N_law) (sc := defScope s_law) (by decide +kernel))
            (fun _ _ _ _ _ => pg_name (i := 4) sc_law.nd rfl (.inl rfl)) (fun _ _ _ _ _ => pts_nil)
            (fun _ _ _ _ _ => pe_call GR hr (by rfl) T.g_right T.F_right.kp T.b_right .nil pass0 (pa_cons (pv 3) pa_nil))) pa_nil)))) (pss_one (ps_ret pe_bl)) pss_nil)))) <|
      pss_one (ps_ret pe_bl), ?_⟩
    refine ⟨.ref a, rfl, a, ns, 3, rfl, hS, hn, by decide, by decide, fun Hc p cs sc np ep hc1 hc2 => ?_⟩
    have hlen : (cs.map V.int).length = cs.length := List.length_map _
    refine ⟨.ref p, rfl, p, _, rfl, .inl (.inl (.inl ep)), _, rfl, by omega, by omega, ?_⟩
    have hj : ((cs.map V.int).length : Int).toNat = cs.length := by rw [hlen]; rfl
    rw [hj]
    refine for_range (fun i σ H' => H' p = some (.lst (cs.map V.int)) ∧ ∃ (y2 y3 y4 : Option V), σ = [some (.ref a), some (.ref p), y2, y3, y4]) ⟨ep, none, none, none, rfl⟩ (fun i σ H1 hi hPv => ?_) (fun σ H' hPv => q _)
    obtain ⟨ep1, y2, y3, y4, rfl⟩ := hPv
    refine ⟨.ref p, rfl, _, rfl, p, cs, i, ?_, .inl (.inl ep1), by omega, fun Hb b sb nb hBb => ?_⟩
    · show [V.ref p, V.int ((0 : Int) + (i : Nat))] = _
      rw [Int.zero_add]
    have epb := sb _ _ ep1
    have pb : p ≠ b := ne_of_none ep1 nb
    refine ⟨2, rfl, by decide, by decide, fun D nD => ?_⟩
    have bD : b ≠ D := hBb.ne_new nD
    have pD : p ≠ D := ne_of_none epb nD
    refine lc_range (n := 2) (fun j H' => H' p = some (.lst (cs.map V.int)) ∧ Box (1000 * (2 - j)) H' b ∧ H' D = some (.lst (List.replicate j (.bl true))))
      ⟨same_new nD _ _ epb, (hBb.same (same_new nD)).mono (by decide), upd_same⟩ (fun j H' hj hPv => ?_) (fun H' hPv => ?_)
    · obtain ⟨ep', hB', eD⟩ := hPv
      refine ⟨rfl, yes_if ⟨_, rfl, b, 1000 * (2 - (j + 1)), rfl, hB'.mono (by omega), fun H2 k2 hB2 => ⟨_, k2 _ _ bD.symm eD, ?_, ?_, ?_, ?_⟩⟩⟩
      · rw [List.length_replicate]; exact small1000 (by omega)
      · rw [upd_ne pD]; exact k2 _ _ pb ep'
      · exact hB2.keep (c := D) keep_upd bD
      · rw [upd_same, List.replicate_succ']
    · obtain ⟨ep', hB', eD⟩ := hPv
      refine ⟨D, List.replicate 2 true, rfl, by rw [List.map_replicate]; exact .inl (.inl eD), _, rfl, ?_⟩
      rw [all_rep]
      exact iteN ⟨ep', _, _, _, rfl⟩
end
end Pc
namespace Pc
open PySem PySem.Spec PyProof.Rows L2 RZ
theorem all_mk {l : PySem.W.OpenLaw} {w : World} {K : PySem.W.Frag} {h : Heap} {mg : Str → Option Value} {fa f_p_check_person f_p_check_call f_p_check_word f_p_join_two f_p_called f_p_called_all f_p_pairings_along f_p_idle_calls f_p_people_of f_p_check_sizes f_p_empty_sheet f_p_with_word f_p_sheet_of f_p_with_call f_p_far_end f_p_followed f_p_times f_p_followed_path f_p_result f_p_path f_p_shows_path f_p_couples_on f_p_cycle_from f_p_cycles f_p_distance f_p_word_number f_p_word_renumbered f_p_without f_p_repeated f_p_sheet_settles f_p_settles f_p_first_time f_p_partners_of f_stream f_draw f_folded f_same f_shuffled f_random_pairing f_person f_by_word f_hall f_refused f_right f_law C_NoPerson C_Last C_NoDeed C_NoNumber C_NotShortest C_OtherSize f_i_NoPerson C_Hall f_m_Hall_init f_m_Hall_pairing f_m_Hall_deeds f_m_Hall_keep f_m_Hall_call f_m_Hall_run f_m_Hall_repeat f_m_Hall_leave : Addr} (X : K.In h) (G : h.Ns mainGlobals mg) (hfa : mg "law" = some (.ref fa))
    {od_p_check_person an_p_check_person : Option Addr} {sl_p_check_person : Array (Option Value)} {oc_p_check_person kV_p_check_person dc_p_check_person pm_p_check_person cd_p_check_person ct_p_check_person : Value}
    {od_p_check_call an_p_check_call : Option Addr} {sl_p_check_call : Array (Option Value)} {oc_p_check_call kV_p_check_call dc_p_check_call pm_p_check_call cd_p_check_call ct_p_check_call : Value}
    {od_p_check_word an_p_check_word : Option Addr} {sl_p_check_word : Array (Option Value)} {oc_p_check_word kV_p_check_word dc_p_check_word pm_p_check_word cd_p_check_word ct_p_check_word : Value}
    {od_p_join_two an_p_join_two : Option Addr} {sl_p_join_two : Array (Option Value)} {oc_p_join_two kV_p_join_two dc_p_join_two pm_p_join_two cd_p_join_two ct_p_join_two : Value}
    {od_p_called an_p_called : Option Addr} {sl_p_called : Array (Option Value)} {oc_p_called kV_p_called dc_p_called pm_p_called cd_p_called ct_p_called : Value}
    {od_p_called_all an_p_called_all : Option Addr} {sl_p_called_all : Array (Option Value)} {oc_p_called_all kV_p_called_all dc_p_called_all pm_p_called_all cd_p_called_all ct_p_called_all : Value}
    {od_p_pairings_along an_p_pairings_along : Option Addr} {sl_p_pairings_along : Array (Option Value)} {oc_p_pairings_along kV_p_pairings_along dc_p_pairings_along pm_p_pairings_along cd_p_pairings_along ct_p_pairings_along : Value}
    {od_p_idle_calls an_p_idle_calls : Option Addr} {sl_p_idle_calls : Array (Option Value)} {oc_p_idle_calls kV_p_idle_calls dc_p_idle_calls pm_p_idle_calls cd_p_idle_calls ct_p_idle_calls : Value}
    {od_p_people_of an_p_people_of : Option Addr} {sl_p_people_of : Array (Option Value)} {oc_p_people_of kV_p_people_of dc_p_people_of pm_p_people_of cd_p_people_of ct_p_people_of : Value}
    {od_p_check_sizes an_p_check_sizes : Option Addr} {sl_p_check_sizes : Array (Option Value)} {oc_p_check_sizes kV_p_check_sizes dc_p_check_sizes pm_p_check_sizes cd_p_check_sizes ct_p_check_sizes : Value}
    {od_p_empty_sheet an_p_empty_sheet : Option Addr} {sl_p_empty_sheet : Array (Option Value)} {oc_p_empty_sheet kV_p_empty_sheet dc_p_empty_sheet pm_p_empty_sheet cd_p_empty_sheet ct_p_empty_sheet : Value}
    {od_p_with_word an_p_with_word : Option Addr} {sl_p_with_word : Array (Option Value)} {oc_p_with_word kV_p_with_word dc_p_with_word pm_p_with_word cd_p_with_word ct_p_with_word : Value}
    {od_p_sheet_of an_p_sheet_of : Option Addr} {sl_p_sheet_of : Array (Option Value)} {oc_p_sheet_of kV_p_sheet_of dc_p_sheet_of pm_p_sheet_of cd_p_sheet_of ct_p_sheet_of : Value}
    {od_p_with_call an_p_with_call : Option Addr} {sl_p_with_call : Array (Option Value)} {oc_p_with_call kV_p_with_call dc_p_with_call pm_p_with_call cd_p_with_call ct_p_with_call : Value}
    {od_p_far_end an_p_far_end : Option Addr} {sl_p_far_end : Array (Option Value)} {oc_p_far_end kV_p_far_end dc_p_far_end pm_p_far_end cd_p_far_end ct_p_far_end : Value}
    {od_p_followed an_p_followed : Option Addr} {sl_p_followed : Array (Option Value)} {oc_p_followed kV_p_followed dc_p_followed pm_p_followed cd_p_followed ct_p_followed : Value}
    {od_p_times an_p_times : Option Addr} {sl_p_times : Array (Option Value)} {oc_p_times kV_p_times dc_p_times pm_p_times cd_p_times ct_p_times : Value}
    {od_p_followed_path an_p_followed_path : Option Addr} {sl_p_followed_path : Array (Option Value)} {oc_p_followed_path kV_p_followed_path dc_p_followed_path pm_p_followed_path cd_p_followed_path ct_p_followed_path : Value}
    {od_p_result an_p_result : Option Addr} {sl_p_result : Array (Option Value)} {oc_p_result kV_p_result dc_p_result pm_p_result cd_p_result ct_p_result : Value}
    {od_p_path an_p_path : Option Addr} {sl_p_path : Array (Option Value)} {oc_p_path kV_p_path dc_p_path pm_p_path cd_p_path ct_p_path : Value}
    {od_p_shows_path an_p_shows_path : Option Addr} {sl_p_shows_path : Array (Option Value)} {oc_p_shows_path kV_p_shows_path dc_p_shows_path pm_p_shows_path cd_p_shows_path ct_p_shows_path : Value}
    {od_p_couples_on an_p_couples_on : Option Addr} {sl_p_couples_on : Array (Option Value)} {oc_p_couples_on kV_p_couples_on dc_p_couples_on pm_p_couples_on cd_p_couples_on ct_p_couples_on : Value}
    {od_p_cycle_from an_p_cycle_from : Option Addr} {sl_p_cycle_from : Array (Option Value)} {oc_p_cycle_from kV_p_cycle_from dc_p_cycle_from pm_p_cycle_from cd_p_cycle_from ct_p_cycle_from : Value}
    {od_p_cycles an_p_cycles : Option Addr} {sl_p_cycles : Array (Option Value)} {oc_p_cycles kV_p_cycles dc_p_cycles pm_p_cycles cd_p_cycles ct_p_cycles : Value}
    {od_p_distance an_p_distance : Option Addr} {sl_p_distance : Array (Option Value)} {oc_p_distance kV_p_distance dc_p_distance pm_p_distance cd_p_distance ct_p_distance : Value}
    {od_p_word_number an_p_word_number : Option Addr} {sl_p_word_number : Array (Option Value)} {oc_p_word_number kV_p_word_number dc_p_word_number pm_p_word_number cd_p_word_number ct_p_word_number : Value}
    {od_p_word_renumbered an_p_word_renumbered : Option Addr} {sl_p_word_renumbered : Array (Option Value)} {oc_p_word_renumbered kV_p_word_renumbered dc_p_word_renumbered pm_p_word_renumbered cd_p_word_renumbered ct_p_word_renumbered : Value}
    {od_p_without an_p_without : Option Addr} {sl_p_without : Array (Option Value)} {oc_p_without kV_p_without dc_p_without pm_p_without cd_p_without ct_p_without : Value}
    {od_p_repeated an_p_repeated : Option Addr} {sl_p_repeated : Array (Option Value)} {oc_p_repeated kV_p_repeated dc_p_repeated pm_p_repeated cd_p_repeated ct_p_repeated : Value}
    {od_p_sheet_settles an_p_sheet_settles : Option Addr} {sl_p_sheet_settles : Array (Option Value)} {oc_p_sheet_settles kV_p_sheet_settles dc_p_sheet_settles pm_p_sheet_settles cd_p_sheet_settles ct_p_sheet_settles : Value}
    {od_p_settles an_p_settles : Option Addr} {sl_p_settles : Array (Option Value)} {oc_p_settles kV_p_settles dc_p_settles pm_p_settles cd_p_settles ct_p_settles : Value}
    {od_p_first_time an_p_first_time : Option Addr} {sl_p_first_time : Array (Option Value)} {oc_p_first_time kV_p_first_time dc_p_first_time pm_p_first_time cd_p_first_time ct_p_first_time : Value}
    {od_p_partners_of an_p_partners_of : Option Addr} {sl_p_partners_of : Array (Option Value)} {oc_p_partners_of kV_p_partners_of dc_p_partners_of pm_p_partners_of cd_p_partners_of ct_p_partners_of : Value}
    {od_stream an_stream : Option Addr} {sl_stream : Array (Option Value)} {oc_stream kV_stream dc_stream pm_stream cd_stream ct_stream : Value}
    {od_draw an_draw : Option Addr} {sl_draw : Array (Option Value)} {oc_draw kV_draw dc_draw pm_draw cd_draw ct_draw : Value}
    {od_folded an_folded : Option Addr} {sl_folded : Array (Option Value)} {oc_folded kV_folded dc_folded pm_folded cd_folded ct_folded : Value}
    {od_same an_same : Option Addr} {sl_same : Array (Option Value)} {oc_same kV_same dc_same pm_same cd_same ct_same : Value}
    {od_shuffled an_shuffled : Option Addr} {sl_shuffled : Array (Option Value)} {oc_shuffled kV_shuffled dc_shuffled pm_shuffled cd_shuffled ct_shuffled : Value}
    {od_random_pairing an_random_pairing : Option Addr} {sl_random_pairing : Array (Option Value)} {oc_random_pairing kV_random_pairing dc_random_pairing pm_random_pairing cd_random_pairing ct_random_pairing : Value}
    {od_person an_person : Option Addr} {sl_person : Array (Option Value)} {oc_person kV_person dc_person pm_person cd_person ct_person : Value}
    {od_by_word an_by_word : Option Addr} {sl_by_word : Array (Option Value)} {oc_by_word kV_by_word dc_by_word pm_by_word cd_by_word ct_by_word : Value}
    {od_hall an_hall : Option Addr} {sl_hall : Array (Option Value)} {oc_hall kV_hall dc_hall pm_hall cd_hall ct_hall : Value}
    {od_refused an_refused : Option Addr} {sl_refused : Array (Option Value)} {oc_refused kV_refused dc_refused pm_refused cd_refused ct_refused : Value}
    {od_right an_right : Option Addr} {sl_right : Array (Option Value)} {oc_right kV_right dc_right pm_right cd_right ct_right : Value}
    {od_law an_law : Option Addr} {sl_law : Array (Option Value)} {oc_law kV_law dc_law pm_law cd_law ct_law : Value}
    {nm_NoPerson qn_NoPerson : Str} {Nn_NoPerson : Addr} {bs_NoPerson : List Value} {sn_NoPerson : List Str} {sub_NoPerson : List Value} {ab_NoPerson : Bool} {col_NoPerson : Option Bool} {dd_NoPerson : Option Addr} {m0_NoPerson m1_NoPerson m2_NoPerson m3_NoPerson m5_NoPerson : Option Value} {od_i_NoPerson an_i_NoPerson : Option Addr} {sl_i_NoPerson : Array (Option Value)} {oc_i_NoPerson kV_i_NoPerson dc_i_NoPerson pm_i_NoPerson cd_i_NoPerson ct_i_NoPerson : Value}
    {od_m_Hall_init an_m_Hall_init : Option Addr} {sl_m_Hall_init : Array (Option Value)} {oc_m_Hall_init kV_m_Hall_init dc_m_Hall_init pm_m_Hall_init cd_m_Hall_init ct_m_Hall_init : Value}
    {od_m_Hall_pairing an_m_Hall_pairing : Option Addr} {sl_m_Hall_pairing : Array (Option Value)} {oc_m_Hall_pairing kV_m_Hall_pairing dc_m_Hall_pairing pm_m_Hall_pairing cd_m_Hall_pairing ct_m_Hall_pairing : Value}
    {od_m_Hall_deeds an_m_Hall_deeds : Option Addr} {sl_m_Hall_deeds : Array (Option Value)} {oc_m_Hall_deeds kV_m_Hall_deeds dc_m_Hall_deeds pm_m_Hall_deeds cd_m_Hall_deeds ct_m_Hall_deeds : Value}
    {od_m_Hall_keep an_m_Hall_keep : Option Addr} {sl_m_Hall_keep : Array (Option Value)} {oc_m_Hall_keep kV_m_Hall_keep dc_m_Hall_keep pm_m_Hall_keep cd_m_Hall_keep ct_m_Hall_keep : Value}
    {od_m_Hall_call an_m_Hall_call : Option Addr} {sl_m_Hall_call : Array (Option Value)} {oc_m_Hall_call kV_m_Hall_call dc_m_Hall_call pm_m_Hall_call cd_m_Hall_call ct_m_Hall_call : Value}
    {od_m_Hall_run an_m_Hall_run : Option Addr} {sl_m_Hall_run : Array (Option Value)} {oc_m_Hall_run kV_m_Hall_run dc_m_Hall_run pm_m_Hall_run cd_m_Hall_run ct_m_Hall_run : Value}
    {od_m_Hall_repeat an_m_Hall_repeat : Option Addr} {sl_m_Hall_repeat : Array (Option Value)} {oc_m_Hall_repeat kV_m_Hall_repeat dc_m_Hall_repeat pm_m_Hall_repeat cd_m_Hall_repeat ct_m_Hall_repeat : Value}
    {od_m_Hall_leave an_m_Hall_leave : Option Addr} {sl_m_Hall_leave : Array (Option Value)} {oc_m_Hall_leave kV_m_Hall_leave dc_m_Hall_leave pm_m_Hall_leave cd_m_Hall_leave ct_m_Hall_leave : Value}
    (a_p_check_person : PySem.W.nsIn K mainGlobals "check_person" = some (some (.ref f_p_check_person))) (l_p_check_person : K.lookup f_p_check_person = some ⟨oc_p_check_person, od_p_check_person, .func (PySem.W.fnOf "check_person" "check_person" (defArgs s_p_check_person) (defBody s_p_check_person) (defScope s_p_check_person) .none kV_p_check_person dc_p_check_person pm_p_check_person an_p_check_person cd_p_check_person ct_p_check_person), sl_p_check_person⟩) (c_p_check_person : PySem.W.codeIn K cd_p_check_person "check_person" = true) (k_p_check_person : PySem.W.keepIn K (.ref f_p_check_person) = true)
    (a_p_check_call : PySem.W.nsIn K mainGlobals "check_call" = some (some (.ref f_p_check_call))) (l_p_check_call : K.lookup f_p_check_call = some ⟨oc_p_check_call, od_p_check_call, .func (PySem.W.fnOf "check_call" "check_call" (defArgs s_p_check_call) (defBody s_p_check_call) (defScope s_p_check_call) .none kV_p_check_call dc_p_check_call pm_p_check_call an_p_check_call cd_p_check_call ct_p_check_call), sl_p_check_call⟩) (c_p_check_call : PySem.W.codeIn K cd_p_check_call "check_call" = true) (k_p_check_call : PySem.W.keepIn K (.ref f_p_check_call) = true)
    (a_p_check_word : PySem.W.nsIn K mainGlobals "check_word" = some (some (.ref f_p_check_word))) (l_p_check_word : K.lookup f_p_check_word = some ⟨oc_p_check_word, od_p_check_word, .func (PySem.W.fnOf "check_word" "check_word" (defArgs s_p_check_word) (defBody s_p_check_word) (defScope s_p_check_word) .none kV_p_check_word dc_p_check_word pm_p_check_word an_p_check_word cd_p_check_word ct_p_check_word), sl_p_check_word⟩) (c_p_check_word : PySem.W.codeIn K cd_p_check_word "check_word" = true) (k_p_check_word : PySem.W.keepIn K (.ref f_p_check_word) = true)
    (a_p_join_two : PySem.W.nsIn K mainGlobals "join_two" = some (some (.ref f_p_join_two))) (l_p_join_two : K.lookup f_p_join_two = some ⟨oc_p_join_two, od_p_join_two, .func (PySem.W.fnOf "join_two" "join_two" (defArgs s_p_join_two) (defBody s_p_join_two) (defScope s_p_join_two) .none kV_p_join_two dc_p_join_two pm_p_join_two an_p_join_two cd_p_join_two ct_p_join_two), sl_p_join_two⟩) (c_p_join_two : PySem.W.codeIn K cd_p_join_two "join_two" = true) (k_p_join_two : PySem.W.keepIn K (.ref f_p_join_two) = true)
    (a_p_called : PySem.W.nsIn K mainGlobals "called" = some (some (.ref f_p_called))) (l_p_called : K.lookup f_p_called = some ⟨oc_p_called, od_p_called, .func (PySem.W.fnOf "called" "called" (defArgs s_p_called) (defBody s_p_called) (defScope s_p_called) .none kV_p_called dc_p_called pm_p_called an_p_called cd_p_called ct_p_called), sl_p_called⟩) (c_p_called : PySem.W.codeIn K cd_p_called "called" = true) (k_p_called : PySem.W.keepIn K (.ref f_p_called) = true)
    (a_p_called_all : PySem.W.nsIn K mainGlobals "called_all" = some (some (.ref f_p_called_all))) (l_p_called_all : K.lookup f_p_called_all = some ⟨oc_p_called_all, od_p_called_all, .func (PySem.W.fnOf "called_all" "called_all" (defArgs s_p_called_all) (defBody s_p_called_all) (defScope s_p_called_all) .none kV_p_called_all dc_p_called_all pm_p_called_all an_p_called_all cd_p_called_all ct_p_called_all), sl_p_called_all⟩) (c_p_called_all : PySem.W.codeIn K cd_p_called_all "called_all" = true) (k_p_called_all : PySem.W.keepIn K (.ref f_p_called_all) = true)
    (a_p_pairings_along : PySem.W.nsIn K mainGlobals "pairings_along" = some (some (.ref f_p_pairings_along))) (l_p_pairings_along : K.lookup f_p_pairings_along = some ⟨oc_p_pairings_along, od_p_pairings_along, .func (PySem.W.fnOf "pairings_along" "pairings_along" (defArgs s_p_pairings_along) (defBody s_p_pairings_along) (defScope s_p_pairings_along) .none kV_p_pairings_along dc_p_pairings_along pm_p_pairings_along an_p_pairings_along cd_p_pairings_along ct_p_pairings_along), sl_p_pairings_along⟩) (c_p_pairings_along : PySem.W.codeIn K cd_p_pairings_along "pairings_along" = true) (k_p_pairings_along : PySem.W.keepIn K (.ref f_p_pairings_along) = true)
    (a_p_idle_calls : PySem.W.nsIn K mainGlobals "idle_calls" = some (some (.ref f_p_idle_calls))) (l_p_idle_calls : K.lookup f_p_idle_calls = some ⟨oc_p_idle_calls, od_p_idle_calls, .func (PySem.W.fnOf "idle_calls" "idle_calls" (defArgs s_p_idle_calls) (defBody s_p_idle_calls) (defScope s_p_idle_calls) .none kV_p_idle_calls dc_p_idle_calls pm_p_idle_calls an_p_idle_calls cd_p_idle_calls ct_p_idle_calls), sl_p_idle_calls⟩) (c_p_idle_calls : PySem.W.codeIn K cd_p_idle_calls "idle_calls" = true) (k_p_idle_calls : PySem.W.keepIn K (.ref f_p_idle_calls) = true)
    (a_p_people_of : PySem.W.nsIn K mainGlobals "people_of" = some (some (.ref f_p_people_of))) (l_p_people_of : K.lookup f_p_people_of = some ⟨oc_p_people_of, od_p_people_of, .func (PySem.W.fnOf "people_of" "people_of" (defArgs s_p_people_of) (defBody s_p_people_of) (defScope s_p_people_of) .none kV_p_people_of dc_p_people_of pm_p_people_of an_p_people_of cd_p_people_of ct_p_people_of), sl_p_people_of⟩) (c_p_people_of : PySem.W.codeIn K cd_p_people_of "people_of" = true) (k_p_people_of : PySem.W.keepIn K (.ref f_p_people_of) = true)
    (a_p_check_sizes : PySem.W.nsIn K mainGlobals "check_sizes" = some (some (.ref f_p_check_sizes))) (l_p_check_sizes : K.lookup f_p_check_sizes = some ⟨oc_p_check_sizes, od_p_check_sizes, .func (PySem.W.fnOf "check_sizes" "check_sizes" (defArgs s_p_check_sizes) (defBody s_p_check_sizes) (defScope s_p_check_sizes) .none kV_p_check_sizes dc_p_check_sizes pm_p_check_sizes an_p_check_sizes cd_p_check_sizes ct_p_check_sizes), sl_p_check_sizes⟩) (c_p_check_sizes : PySem.W.codeIn K cd_p_check_sizes "check_sizes" = true) (k_p_check_sizes : PySem.W.keepIn K (.ref f_p_check_sizes) = true)
    (a_p_empty_sheet : PySem.W.nsIn K mainGlobals "empty_sheet" = some (some (.ref f_p_empty_sheet))) (l_p_empty_sheet : K.lookup f_p_empty_sheet = some ⟨oc_p_empty_sheet, od_p_empty_sheet, .func (PySem.W.fnOf "empty_sheet" "empty_sheet" (defArgs s_p_empty_sheet) (defBody s_p_empty_sheet) (defScope s_p_empty_sheet) .none kV_p_empty_sheet dc_p_empty_sheet pm_p_empty_sheet an_p_empty_sheet cd_p_empty_sheet ct_p_empty_sheet), sl_p_empty_sheet⟩) (c_p_empty_sheet : PySem.W.codeIn K cd_p_empty_sheet "empty_sheet" = true) (k_p_empty_sheet : PySem.W.keepIn K (.ref f_p_empty_sheet) = true)
    (a_p_with_word : PySem.W.nsIn K mainGlobals "with_word" = some (some (.ref f_p_with_word))) (l_p_with_word : K.lookup f_p_with_word = some ⟨oc_p_with_word, od_p_with_word, .func (PySem.W.fnOf "with_word" "with_word" (defArgs s_p_with_word) (defBody s_p_with_word) (defScope s_p_with_word) .none kV_p_with_word dc_p_with_word pm_p_with_word an_p_with_word cd_p_with_word ct_p_with_word), sl_p_with_word⟩) (c_p_with_word : PySem.W.codeIn K cd_p_with_word "with_word" = true) (k_p_with_word : PySem.W.keepIn K (.ref f_p_with_word) = true)
    (a_p_sheet_of : PySem.W.nsIn K mainGlobals "sheet_of" = some (some (.ref f_p_sheet_of))) (l_p_sheet_of : K.lookup f_p_sheet_of = some ⟨oc_p_sheet_of, od_p_sheet_of, .func (PySem.W.fnOf "sheet_of" "sheet_of" (defArgs s_p_sheet_of) (defBody s_p_sheet_of) (defScope s_p_sheet_of) .none kV_p_sheet_of dc_p_sheet_of pm_p_sheet_of an_p_sheet_of cd_p_sheet_of ct_p_sheet_of), sl_p_sheet_of⟩) (c_p_sheet_of : PySem.W.codeIn K cd_p_sheet_of "sheet_of" = true) (k_p_sheet_of : PySem.W.keepIn K (.ref f_p_sheet_of) = true)
    (a_p_with_call : PySem.W.nsIn K mainGlobals "with_call" = some (some (.ref f_p_with_call))) (l_p_with_call : K.lookup f_p_with_call = some ⟨oc_p_with_call, od_p_with_call, .func (PySem.W.fnOf "with_call" "with_call" (defArgs s_p_with_call) (defBody s_p_with_call) (defScope s_p_with_call) .none kV_p_with_call dc_p_with_call pm_p_with_call an_p_with_call cd_p_with_call ct_p_with_call), sl_p_with_call⟩) (c_p_with_call : PySem.W.codeIn K cd_p_with_call "with_call" = true) (k_p_with_call : PySem.W.keepIn K (.ref f_p_with_call) = true)
    (a_p_far_end : PySem.W.nsIn K mainGlobals "far_end" = some (some (.ref f_p_far_end))) (l_p_far_end : K.lookup f_p_far_end = some ⟨oc_p_far_end, od_p_far_end, .func (PySem.W.fnOf "far_end" "far_end" (defArgs s_p_far_end) (defBody s_p_far_end) (defScope s_p_far_end) .none kV_p_far_end dc_p_far_end pm_p_far_end an_p_far_end cd_p_far_end ct_p_far_end), sl_p_far_end⟩) (c_p_far_end : PySem.W.codeIn K cd_p_far_end "far_end" = true) (k_p_far_end : PySem.W.keepIn K (.ref f_p_far_end) = true)
    (a_p_followed : PySem.W.nsIn K mainGlobals "followed" = some (some (.ref f_p_followed))) (l_p_followed : K.lookup f_p_followed = some ⟨oc_p_followed, od_p_followed, .func (PySem.W.fnOf "followed" "followed" (defArgs s_p_followed) (defBody s_p_followed) (defScope s_p_followed) .none kV_p_followed dc_p_followed pm_p_followed an_p_followed cd_p_followed ct_p_followed), sl_p_followed⟩) (c_p_followed : PySem.W.codeIn K cd_p_followed "followed" = true) (k_p_followed : PySem.W.keepIn K (.ref f_p_followed) = true)
    (a_p_times : PySem.W.nsIn K mainGlobals "times" = some (some (.ref f_p_times))) (l_p_times : K.lookup f_p_times = some ⟨oc_p_times, od_p_times, .func (PySem.W.fnOf "times" "times" (defArgs s_p_times) (defBody s_p_times) (defScope s_p_times) .none kV_p_times dc_p_times pm_p_times an_p_times cd_p_times ct_p_times), sl_p_times⟩) (c_p_times : PySem.W.codeIn K cd_p_times "times" = true) (k_p_times : PySem.W.keepIn K (.ref f_p_times) = true)
    (a_p_followed_path : PySem.W.nsIn K mainGlobals "followed_path" = some (some (.ref f_p_followed_path))) (l_p_followed_path : K.lookup f_p_followed_path = some ⟨oc_p_followed_path, od_p_followed_path, .func (PySem.W.fnOf "followed_path" "followed_path" (defArgs s_p_followed_path) (defBody s_p_followed_path) (defScope s_p_followed_path) .none kV_p_followed_path dc_p_followed_path pm_p_followed_path an_p_followed_path cd_p_followed_path ct_p_followed_path), sl_p_followed_path⟩) (c_p_followed_path : PySem.W.codeIn K cd_p_followed_path "followed_path" = true) (k_p_followed_path : PySem.W.keepIn K (.ref f_p_followed_path) = true)
    (a_p_result : PySem.W.nsIn K mainGlobals "result" = some (some (.ref f_p_result))) (l_p_result : K.lookup f_p_result = some ⟨oc_p_result, od_p_result, .func (PySem.W.fnOf "result" "result" (defArgs s_p_result) (defBody s_p_result) (defScope s_p_result) .none kV_p_result dc_p_result pm_p_result an_p_result cd_p_result ct_p_result), sl_p_result⟩) (c_p_result : PySem.W.codeIn K cd_p_result "result" = true) (k_p_result : PySem.W.keepIn K (.ref f_p_result) = true)
    (a_p_path : PySem.W.nsIn K mainGlobals "path" = some (some (.ref f_p_path))) (l_p_path : K.lookup f_p_path = some ⟨oc_p_path, od_p_path, .func (PySem.W.fnOf "path" "path" (defArgs s_p_path) (defBody s_p_path) (defScope s_p_path) .none kV_p_path dc_p_path pm_p_path an_p_path cd_p_path ct_p_path), sl_p_path⟩) (c_p_path : PySem.W.codeIn K cd_p_path "path" = true) (k_p_path : PySem.W.keepIn K (.ref f_p_path) = true)
    (a_p_shows_path : PySem.W.nsIn K mainGlobals "shows_path" = some (some (.ref f_p_shows_path))) (l_p_shows_path : K.lookup f_p_shows_path = some ⟨oc_p_shows_path, od_p_shows_path, .func (PySem.W.fnOf "shows_path" "shows_path" (defArgs s_p_shows_path) (defBody s_p_shows_path) (defScope s_p_shows_path) .none kV_p_shows_path dc_p_shows_path pm_p_shows_path an_p_shows_path cd_p_shows_path ct_p_shows_path), sl_p_shows_path⟩) (c_p_shows_path : PySem.W.codeIn K cd_p_shows_path "shows_path" = true) (k_p_shows_path : PySem.W.keepIn K (.ref f_p_shows_path) = true)
    (a_p_couples_on : PySem.W.nsIn K mainGlobals "couples_on" = some (some (.ref f_p_couples_on))) (l_p_couples_on : K.lookup f_p_couples_on = some ⟨oc_p_couples_on, od_p_couples_on, .func (PySem.W.fnOf "couples_on" "couples_on" (defArgs s_p_couples_on) (defBody s_p_couples_on) (defScope s_p_couples_on) .none kV_p_couples_on dc_p_couples_on pm_p_couples_on an_p_couples_on cd_p_couples_on ct_p_couples_on), sl_p_couples_on⟩) (c_p_couples_on : PySem.W.codeIn K cd_p_couples_on "couples_on" = true) (k_p_couples_on : PySem.W.keepIn K (.ref f_p_couples_on) = true)
    (a_p_cycle_from : PySem.W.nsIn K mainGlobals "cycle_from" = some (some (.ref f_p_cycle_from))) (l_p_cycle_from : K.lookup f_p_cycle_from = some ⟨oc_p_cycle_from, od_p_cycle_from, .func (PySem.W.fnOf "cycle_from" "cycle_from" (defArgs s_p_cycle_from) (defBody s_p_cycle_from) (defScope s_p_cycle_from) .none kV_p_cycle_from dc_p_cycle_from pm_p_cycle_from an_p_cycle_from cd_p_cycle_from ct_p_cycle_from), sl_p_cycle_from⟩) (c_p_cycle_from : PySem.W.codeIn K cd_p_cycle_from "cycle_from" = true) (k_p_cycle_from : PySem.W.keepIn K (.ref f_p_cycle_from) = true)
    (a_p_cycles : PySem.W.nsIn K mainGlobals "cycles" = some (some (.ref f_p_cycles))) (l_p_cycles : K.lookup f_p_cycles = some ⟨oc_p_cycles, od_p_cycles, .func (PySem.W.fnOf "cycles" "cycles" (defArgs s_p_cycles) (defBody s_p_cycles) (defScope s_p_cycles) .none kV_p_cycles dc_p_cycles pm_p_cycles an_p_cycles cd_p_cycles ct_p_cycles), sl_p_cycles⟩) (c_p_cycles : PySem.W.codeIn K cd_p_cycles "cycles" = true) (k_p_cycles : PySem.W.keepIn K (.ref f_p_cycles) = true)
    (a_p_distance : PySem.W.nsIn K mainGlobals "distance" = some (some (.ref f_p_distance))) (l_p_distance : K.lookup f_p_distance = some ⟨oc_p_distance, od_p_distance, .func (PySem.W.fnOf "distance" "distance" (defArgs s_p_distance) (defBody s_p_distance) (defScope s_p_distance) .none kV_p_distance dc_p_distance pm_p_distance an_p_distance cd_p_distance ct_p_distance), sl_p_distance⟩) (c_p_distance : PySem.W.codeIn K cd_p_distance "distance" = true) (k_p_distance : PySem.W.keepIn K (.ref f_p_distance) = true)
    (a_p_word_number : PySem.W.nsIn K mainGlobals "word_number" = some (some (.ref f_p_word_number))) (l_p_word_number : K.lookup f_p_word_number = some ⟨oc_p_word_number, od_p_word_number, .func (PySem.W.fnOf "word_number" "word_number" (defArgs s_p_word_number) (defBody s_p_word_number) (defScope s_p_word_number) .none kV_p_word_number dc_p_word_number pm_p_word_number an_p_word_number cd_p_word_number ct_p_word_number), sl_p_word_number⟩) (c_p_word_number : PySem.W.codeIn K cd_p_word_number "word_number" = true) (k_p_word_number : PySem.W.keepIn K (.ref f_p_word_number) = true)
    (a_p_word_renumbered : PySem.W.nsIn K mainGlobals "word_renumbered" = some (some (.ref f_p_word_renumbered))) (l_p_word_renumbered : K.lookup f_p_word_renumbered = some ⟨oc_p_word_renumbered, od_p_word_renumbered, .func (PySem.W.fnOf "word_renumbered" "word_renumbered" (defArgs s_p_word_renumbered) (defBody s_p_word_renumbered) (defScope s_p_word_renumbered) .none kV_p_word_renumbered dc_p_word_renumbered pm_p_word_renumbered an_p_word_renumbered cd_p_word_renumbered ct_p_word_renumbered), sl_p_word_renumbered⟩) (c_p_word_renumbered : PySem.W.codeIn K cd_p_word_renumbered "word_renumbered" = true) (k_p_word_renumbered : PySem.W.keepIn K (.ref f_p_word_renumbered) = true)
    (a_p_without : PySem.W.nsIn K mainGlobals "without" = some (some (.ref f_p_without))) (l_p_without : K.lookup f_p_without = some ⟨oc_p_without, od_p_without, .func (PySem.W.fnOf "without" "without" (defArgs s_p_without) (defBody s_p_without) (defScope s_p_without) .none kV_p_without dc_p_without pm_p_without an_p_without cd_p_without ct_p_without), sl_p_without⟩) (c_p_without : PySem.W.codeIn K cd_p_without "without" = true) (k_p_without : PySem.W.keepIn K (.ref f_p_without) = true)
    (a_p_repeated : PySem.W.nsIn K mainGlobals "repeated" = some (some (.ref f_p_repeated))) (l_p_repeated : K.lookup f_p_repeated = some ⟨oc_p_repeated, od_p_repeated, .func (PySem.W.fnOf "repeated" "repeated" (defArgs s_p_repeated) (defBody s_p_repeated) (defScope s_p_repeated) .none kV_p_repeated dc_p_repeated pm_p_repeated an_p_repeated cd_p_repeated ct_p_repeated), sl_p_repeated⟩) (c_p_repeated : PySem.W.codeIn K cd_p_repeated "repeated" = true) (k_p_repeated : PySem.W.keepIn K (.ref f_p_repeated) = true)
    (a_p_sheet_settles : PySem.W.nsIn K mainGlobals "sheet_settles" = some (some (.ref f_p_sheet_settles))) (l_p_sheet_settles : K.lookup f_p_sheet_settles = some ⟨oc_p_sheet_settles, od_p_sheet_settles, .func (PySem.W.fnOf "sheet_settles" "sheet_settles" (defArgs s_p_sheet_settles) (defBody s_p_sheet_settles) (defScope s_p_sheet_settles) .none kV_p_sheet_settles dc_p_sheet_settles pm_p_sheet_settles an_p_sheet_settles cd_p_sheet_settles ct_p_sheet_settles), sl_p_sheet_settles⟩) (c_p_sheet_settles : PySem.W.codeIn K cd_p_sheet_settles "sheet_settles" = true) (k_p_sheet_settles : PySem.W.keepIn K (.ref f_p_sheet_settles) = true)
    (a_p_settles : PySem.W.nsIn K mainGlobals "settles" = some (some (.ref f_p_settles))) (l_p_settles : K.lookup f_p_settles = some ⟨oc_p_settles, od_p_settles, .func (PySem.W.fnOf "settles" "settles" (defArgs s_p_settles) (defBody s_p_settles) (defScope s_p_settles) .none kV_p_settles dc_p_settles pm_p_settles an_p_settles cd_p_settles ct_p_settles), sl_p_settles⟩) (c_p_settles : PySem.W.codeIn K cd_p_settles "settles" = true) (k_p_settles : PySem.W.keepIn K (.ref f_p_settles) = true)
    (a_p_first_time : PySem.W.nsIn K mainGlobals "first_time" = some (some (.ref f_p_first_time))) (l_p_first_time : K.lookup f_p_first_time = some ⟨oc_p_first_time, od_p_first_time, .func (PySem.W.fnOf "first_time" "first_time" (defArgs s_p_first_time) (defBody s_p_first_time) (defScope s_p_first_time) .none kV_p_first_time dc_p_first_time pm_p_first_time an_p_first_time cd_p_first_time ct_p_first_time), sl_p_first_time⟩) (c_p_first_time : PySem.W.codeIn K cd_p_first_time "first_time" = true) (k_p_first_time : PySem.W.keepIn K (.ref f_p_first_time) = true)
    (a_p_partners_of : PySem.W.nsIn K mainGlobals "partners_of" = some (some (.ref f_p_partners_of))) (l_p_partners_of : K.lookup f_p_partners_of = some ⟨oc_p_partners_of, od_p_partners_of, .func (PySem.W.fnOf "partners_of" "partners_of" (defArgs s_p_partners_of) (defBody s_p_partners_of) (defScope s_p_partners_of) .none kV_p_partners_of dc_p_partners_of pm_p_partners_of an_p_partners_of cd_p_partners_of ct_p_partners_of), sl_p_partners_of⟩) (c_p_partners_of : PySem.W.codeIn K cd_p_partners_of "partners_of" = true) (k_p_partners_of : PySem.W.keepIn K (.ref f_p_partners_of) = true)
    (a_stream : PySem.W.nsIn K mainGlobals "_law_stream" = some (some (.ref f_stream))) (l_stream : K.lookup f_stream = some ⟨oc_stream, od_stream, .func (PySem.W.fnOf "_law_stream" "_law_stream" (defArgs s_stream) (defBody s_stream) (defScope s_stream) .none kV_stream dc_stream pm_stream an_stream cd_stream ct_stream), sl_stream⟩) (c_stream : PySem.W.codeIn K cd_stream "_law_stream" = true) (k_stream : PySem.W.keepIn K (.ref f_stream) = true)
    (a_draw : PySem.W.nsIn K mainGlobals "_law_draw" = some (some (.ref f_draw))) (l_draw : K.lookup f_draw = some ⟨oc_draw, od_draw, .func (PySem.W.fnOf "_law_draw" "_law_draw" (defArgs s_draw) (defBody s_draw) (defScope s_draw) .none kV_draw dc_draw pm_draw an_draw cd_draw ct_draw), sl_draw⟩) (c_draw : PySem.W.codeIn K cd_draw "_law_draw" = true) (k_draw : PySem.W.keepIn K (.ref f_draw) = true)
    (a_folded : PySem.W.nsIn K mainGlobals "_law_folded" = some (some (.ref f_folded))) (l_folded : K.lookup f_folded = some ⟨oc_folded, od_folded, .func (PySem.W.fnOf "_law_folded" "_law_folded" (defArgs s_folded) (defBody s_folded) (defScope s_folded) .none kV_folded dc_folded pm_folded an_folded cd_folded ct_folded), sl_folded⟩) (c_folded : PySem.W.codeIn K cd_folded "_law_folded" = true) (k_folded : PySem.W.keepIn K (.ref f_folded) = true)
    (a_same : PySem.W.nsIn K mainGlobals "_law_same" = some (some (.ref f_same))) (l_same : K.lookup f_same = some ⟨oc_same, od_same, .func (PySem.W.fnOf "_law_same" "_law_same" (defArgs s_same) (defBody s_same) (defScope s_same) .none kV_same dc_same pm_same an_same cd_same ct_same), sl_same⟩) (c_same : PySem.W.codeIn K cd_same "_law_same" = true) (k_same : PySem.W.keepIn K (.ref f_same) = true)
    (a_shuffled : PySem.W.nsIn K mainGlobals "_law_shuffled" = some (some (.ref f_shuffled))) (l_shuffled : K.lookup f_shuffled = some ⟨oc_shuffled, od_shuffled, .func (PySem.W.fnOf "_law_shuffled" "_law_shuffled" (defArgs s_shuffled) (defBody s_shuffled) (defScope s_shuffled) .none kV_shuffled dc_shuffled pm_shuffled an_shuffled cd_shuffled ct_shuffled), sl_shuffled⟩) (c_shuffled : PySem.W.codeIn K cd_shuffled "_law_shuffled" = true) (k_shuffled : PySem.W.keepIn K (.ref f_shuffled) = true)
    (a_random_pairing : PySem.W.nsIn K mainGlobals "_law_random_pairing" = some (some (.ref f_random_pairing))) (l_random_pairing : K.lookup f_random_pairing = some ⟨oc_random_pairing, od_random_pairing, .func (PySem.W.fnOf "_law_random_pairing" "_law_random_pairing" (defArgs s_random_pairing) (defBody s_random_pairing) (defScope s_random_pairing) .none kV_random_pairing dc_random_pairing pm_random_pairing an_random_pairing cd_random_pairing ct_random_pairing), sl_random_pairing⟩) (c_random_pairing : PySem.W.codeIn K cd_random_pairing "_law_random_pairing" = true) (k_random_pairing : PySem.W.keepIn K (.ref f_random_pairing) = true)
    (a_person : PySem.W.nsIn K mainGlobals "_law_person" = some (some (.ref f_person))) (l_person : K.lookup f_person = some ⟨oc_person, od_person, .func (PySem.W.fnOf "_law_person" "_law_person" (defArgs s_person) (defBody s_person) (defScope s_person) .none kV_person dc_person pm_person an_person cd_person ct_person), sl_person⟩) (c_person : PySem.W.codeIn K cd_person "_law_person" = true) (k_person : PySem.W.keepIn K (.ref f_person) = true)
    (a_by_word : PySem.W.nsIn K mainGlobals "_law_by_word" = some (some (.ref f_by_word))) (l_by_word : K.lookup f_by_word = some ⟨oc_by_word, od_by_word, .func (PySem.W.fnOf "_law_by_word" "_law_by_word" (defArgs s_by_word) (defBody s_by_word) (defScope s_by_word) .none kV_by_word dc_by_word pm_by_word an_by_word cd_by_word ct_by_word), sl_by_word⟩) (c_by_word : PySem.W.codeIn K cd_by_word "_law_by_word" = true) (k_by_word : PySem.W.keepIn K (.ref f_by_word) = true)
    (a_hall : PySem.W.nsIn K mainGlobals "_law_hall" = some (some (.ref f_hall))) (l_hall : K.lookup f_hall = some ⟨oc_hall, od_hall, .func (PySem.W.fnOf "_law_hall" "_law_hall" (defArgs s_hall) (defBody s_hall) (defScope s_hall) .none kV_hall dc_hall pm_hall an_hall cd_hall ct_hall), sl_hall⟩) (c_hall : PySem.W.codeIn K cd_hall "_law_hall" = true) (k_hall : PySem.W.keepIn K (.ref f_hall) = true)
    (a_refused : PySem.W.nsIn K mainGlobals "_law_refused" = some (some (.ref f_refused))) (l_refused : K.lookup f_refused = some ⟨oc_refused, od_refused, .func (PySem.W.fnOf "_law_refused" "_law_refused" (defArgs s_refused) (defBody s_refused) (defScope s_refused) .none kV_refused dc_refused pm_refused an_refused cd_refused ct_refused), sl_refused⟩) (c_refused : PySem.W.codeIn K cd_refused "_law_refused" = true) (k_refused : PySem.W.keepIn K (.ref f_refused) = true)
    (a_right : PySem.W.nsIn K mainGlobals "_law_right" = some (some (.ref f_right))) (l_right : K.lookup f_right = some ⟨oc_right, od_right, .func (PySem.W.fnOf "_law_right" "_law_right" (defArgs s_right) (defBody s_right) (defScope s_right) .none kV_right dc_right pm_right an_right cd_right ct_right), sl_right⟩) (c_right : PySem.W.codeIn K cd_right "_law_right" = true) (k_right : PySem.W.keepIn K (.ref f_right) = true)
    (a_law : PySem.W.nsIn K mainGlobals "law" = some (some (.ref f_law))) (l_law : K.lookup f_law = some ⟨oc_law, od_law, .func (PySem.W.fnOf "law" "law" (defArgs s_law) (defBody s_law) (defScope s_law) .none kV_law dc_law pm_law an_law cd_law ct_law), sl_law⟩) (c_law : PySem.W.codeIn K cd_law "law" = true) (k_law : PySem.W.keepIn K (.ref f_law) = true)
    (aC_NoPerson : PySem.W.nsIn K mainGlobals "NoPerson" = some (some (.ref C_NoPerson)))
    (eC_NoPerson : PySem.W.subIn K (.ref C_NoPerson) (.type "BaseException") = some true)
    (tC_NoPerson : PySem.W.typeIn K (.ref C_NoPerson) = some (.type "type"))
    (is_NoPerson : PySem.W.isClsIn K C_NoPerson = true)
    (aC_Last : PySem.W.nsIn K mainGlobals "Last" = some (some (.ref C_Last)))
    (eC_Last : PySem.W.subIn K (.ref C_Last) (.type "BaseException") = some true)
    (tC_Last : PySem.W.typeIn K (.ref C_Last) = some (.type "type"))
    (is_Last : PySem.W.isClsIn K C_Last = true)
    (aC_NoDeed : PySem.W.nsIn K mainGlobals "NoDeed" = some (some (.ref C_NoDeed)))
    (eC_NoDeed : PySem.W.subIn K (.ref C_NoDeed) (.type "BaseException") = some true)
    (tC_NoDeed : PySem.W.typeIn K (.ref C_NoDeed) = some (.type "type"))
    (is_NoDeed : PySem.W.isClsIn K C_NoDeed = true)
    (aC_NoNumber : PySem.W.nsIn K mainGlobals "NoNumber" = some (some (.ref C_NoNumber)))
    (eC_NoNumber : PySem.W.subIn K (.ref C_NoNumber) (.type "BaseException") = some true)
    (tC_NoNumber : PySem.W.typeIn K (.ref C_NoNumber) = some (.type "type"))
    (is_NoNumber : PySem.W.isClsIn K C_NoNumber = true)
    (aC_NotShortest : PySem.W.nsIn K mainGlobals "NotShortest" = some (some (.ref C_NotShortest)))
    (eC_NotShortest : PySem.W.subIn K (.ref C_NotShortest) (.type "BaseException") = some true)
    (tC_NotShortest : PySem.W.typeIn K (.ref C_NotShortest) = some (.type "type"))
    (is_NotShortest : PySem.W.isClsIn K C_NotShortest = true)
    (aC_OtherSize : PySem.W.nsIn K mainGlobals "OtherSize" = some (some (.ref C_OtherSize)))
    (eC_OtherSize : PySem.W.subIn K (.ref C_OtherSize) (.type "BaseException") = some true)
    (tC_OtherSize : PySem.W.typeIn K (.ref C_OtherSize) = some (.type "type"))
    (is_OtherSize : PySem.W.isClsIn K C_OtherSize = true)
    (xC_NoPerson : K.lookup C_NoPerson = some (excClassObj nm_NoPerson qn_NoPerson C_NoPerson Nn_NoPerson bs_NoPerson [.type "LookupError", .type "Exception", .type "BaseException", .type "object"] true sn_NoPerson sub_NoPerson ab_NoPerson col_NoPerson dd_NoPerson m0_NoPerson m1_NoPerson m2_NoPerson m3_NoPerson m5_NoPerson "LookupError.__new__"))
    (sa_NoPerson : PySem.W.findIn K (.ref C_NoPerson) "__setattr__" = some (some (.builtin "object.__setattr__")))
    (ga_NoPerson : PySem.W.findIn K (.ref C_NoPerson) "__getattribute__" = some (some (.builtin "BaseException.__getattribute__")))
    (gg_NoPerson : PySem.W.findIn K (.ref C_NoPerson) "__getattr__" = some none)
    (kC_NoPerson : PySem.W.keepIn K (.ref C_NoPerson) = true)
    (hC_NoPerson : PySem.W.hasDictIn K C_NoPerson = true)
    (cl_NoPerson : PySem.W.findIn K (.ref C_NoPerson) "__class__" = some (some (.builtin "object.__class__")))
    (mr_NoPerson : PySem.W.mroIn K C_NoPerson (.type "object") = some true)
    (iC_NoPerson : PySem.W.findIn K (.ref C_NoPerson) "__init__" = some (some (.ref f_i_NoPerson)))
    (tI_NoPerson : PySem.W.typeIn K (.ref f_i_NoPerson) = some (.type "function"))
    (lI_NoPerson : K.lookup f_i_NoPerson = some ⟨oc_i_NoPerson, od_i_NoPerson, .func (PySem.W.fnOf "__init__" "NoPerson.__init__" (defArgs s_i_NoPerson) (defBody s_i_NoPerson) (defScope s_i_NoPerson) .none kV_i_NoPerson dc_i_NoPerson pm_i_NoPerson an_i_NoPerson cd_i_NoPerson ct_i_NoPerson), sl_i_NoPerson⟩)
    (cI_NoPerson : PySem.W.codeIn K cd_i_NoPerson "NoPerson.__init__" = true)
    (kI_NoPerson : PySem.W.keepIn K (.ref f_i_NoPerson) = true)
    (su_NoPerson : PySem.W.subIn K (.ref C_NoPerson) (.ref C_NoPerson) = some true)
    (no_NoPerson : PySem.W.findIn K (.ref C_NoPerson) "person" = some none)
    (su_NoPerson_Last : PySem.W.subIn K (.ref C_NoPerson) (.ref C_Last) = some false)
    (su_NoPerson_NoDeed : PySem.W.subIn K (.ref C_NoPerson) (.ref C_NoDeed) = some false)
    (su_NoPerson_NoNumber : PySem.W.subIn K (.ref C_NoPerson) (.ref C_NoNumber) = some false)
    (su_NoPerson_NotShortest : PySem.W.subIn K (.ref C_NoPerson) (.ref C_NotShortest) = some false)
    (su_NoPerson_OtherSize : PySem.W.subIn K (.ref C_NoPerson) (.ref C_OtherSize) = some false)
    (sb_NoPerson_LookupError : PySem.W.subIn K (.ref C_NoPerson) (.type "LookupError") = some true)
    (vV_LookupError : PySem.W.findCls K (.type "LookupError") (.type "type") "__init__" = some (.val (.builtin "LookupError.__init__")))
    (spG : PySem.W.specialIn K (.builtin "object.__class__") "__get__" = some (some (.builtin "getset_descriptor.__get__")))
    (tkG : PySem.W.takesIn K (.builtin "object.__class__") = some true)
    (aC_Hall : PySem.W.nsIn K mainGlobals "Hall" = some (some (.ref C_Hall)))
    (pg_Hall : PySem.W.plainGet K C_Hall Str.empty = true)
    (hd_Hall : PySem.W.hasDictIn K C_Hall = true)
    (po_Hall : PySem.W.plainOver K C_Hall = true)
    (sa_Hall : PySem.W.findIn K (.ref C_Hall) "__setattr__" = some (some (.builtin "object.__setattr__")))
    (mk_Hall : PySem.W.makesIn K C_Hall = true)
    (kc_Hall : PySem.W.keepIn K (.ref C_Hall) = true)
    (nF_Hall_past : PySem.W.findIn K (.ref C_Hall) "past" = some none)
    (nF_Hall_written : PySem.W.findIn K (.ref C_Hall) "written" = some none)
    (am_Hall_init : PySem.W.findIn K (.ref C_Hall) "__init__" = some (some (.ref f_m_Hall_init)))
    (im_Hall_init : PySem.W.isFn K (.ref f_m_Hall_init) = true)
    (lm_Hall_init : K.lookup f_m_Hall_init = some ⟨oc_m_Hall_init, od_m_Hall_init, .func (PySem.W.fnOf "__init__" "Hall.__init__" (defArgs s_m_Hall_init) (defBody s_m_Hall_init) (defScope s_m_Hall_init) .none kV_m_Hall_init dc_m_Hall_init pm_m_Hall_init an_m_Hall_init cd_m_Hall_init ct_m_Hall_init), sl_m_Hall_init⟩)
    (cm_Hall_init : PySem.W.codeIn K cd_m_Hall_init "Hall.__init__" = true)
    (km_Hall_init : PySem.W.keepIn K (.ref f_m_Hall_init) = true)
    (am_Hall_pairing : PySem.W.findIn K (.ref C_Hall) "pairing" = some (some (.ref f_m_Hall_pairing)))
    (im_Hall_pairing : PySem.W.isFn K (.ref f_m_Hall_pairing) = true)
    (lm_Hall_pairing : K.lookup f_m_Hall_pairing = some ⟨oc_m_Hall_pairing, od_m_Hall_pairing, .func (PySem.W.fnOf "pairing" "Hall.pairing" (defArgs s_m_Hall_pairing) (defBody s_m_Hall_pairing) (defScope s_m_Hall_pairing) .none kV_m_Hall_pairing dc_m_Hall_pairing pm_m_Hall_pairing an_m_Hall_pairing cd_m_Hall_pairing ct_m_Hall_pairing), sl_m_Hall_pairing⟩)
    (cm_Hall_pairing : PySem.W.codeIn K cd_m_Hall_pairing "Hall.pairing" = true)
    (km_Hall_pairing : PySem.W.keepIn K (.ref f_m_Hall_pairing) = true)
    (am_Hall_deeds : PySem.W.findIn K (.ref C_Hall) "deeds" = some (some (.ref f_m_Hall_deeds)))
    (im_Hall_deeds : PySem.W.isFn K (.ref f_m_Hall_deeds) = true)
    (lm_Hall_deeds : K.lookup f_m_Hall_deeds = some ⟨oc_m_Hall_deeds, od_m_Hall_deeds, .func (PySem.W.fnOf "deeds" "Hall.deeds" (defArgs s_m_Hall_deeds) (defBody s_m_Hall_deeds) (defScope s_m_Hall_deeds) .none kV_m_Hall_deeds dc_m_Hall_deeds pm_m_Hall_deeds an_m_Hall_deeds cd_m_Hall_deeds ct_m_Hall_deeds), sl_m_Hall_deeds⟩)
    (cm_Hall_deeds : PySem.W.codeIn K cd_m_Hall_deeds "Hall.deeds" = true)
    (km_Hall_deeds : PySem.W.keepIn K (.ref f_m_Hall_deeds) = true)
    (am_Hall_keep : PySem.W.findIn K (.ref C_Hall) "keep" = some (some (.ref f_m_Hall_keep)))
    (im_Hall_keep : PySem.W.isFn K (.ref f_m_Hall_keep) = true)
    (lm_Hall_keep : K.lookup f_m_Hall_keep = some ⟨oc_m_Hall_keep, od_m_Hall_keep, .func (PySem.W.fnOf "keep" "Hall.keep" (defArgs s_m_Hall_keep) (defBody s_m_Hall_keep) (defScope s_m_Hall_keep) .none kV_m_Hall_keep dc_m_Hall_keep pm_m_Hall_keep an_m_Hall_keep cd_m_Hall_keep ct_m_Hall_keep), sl_m_Hall_keep⟩)
    (cm_Hall_keep : PySem.W.codeIn K cd_m_Hall_keep "Hall.keep" = true)
    (km_Hall_keep : PySem.W.keepIn K (.ref f_m_Hall_keep) = true)
    (am_Hall_call : PySem.W.findIn K (.ref C_Hall) "call" = some (some (.ref f_m_Hall_call)))
    (im_Hall_call : PySem.W.isFn K (.ref f_m_Hall_call) = true)
    (lm_Hall_call : K.lookup f_m_Hall_call = some ⟨oc_m_Hall_call, od_m_Hall_call, .func (PySem.W.fnOf "call" "Hall.call" (defArgs s_m_Hall_call) (defBody s_m_Hall_call) (defScope s_m_Hall_call) .none kV_m_Hall_call dc_m_Hall_call pm_m_Hall_call an_m_Hall_call cd_m_Hall_call ct_m_Hall_call), sl_m_Hall_call⟩)
    (cm_Hall_call : PySem.W.codeIn K cd_m_Hall_call "Hall.call" = true)
    (km_Hall_call : PySem.W.keepIn K (.ref f_m_Hall_call) = true)
    (am_Hall_run : PySem.W.findIn K (.ref C_Hall) "run" = some (some (.ref f_m_Hall_run)))
    (im_Hall_run : PySem.W.isFn K (.ref f_m_Hall_run) = true)
    (lm_Hall_run : K.lookup f_m_Hall_run = some ⟨oc_m_Hall_run, od_m_Hall_run, .func (PySem.W.fnOf "run" "Hall.run" (defArgs s_m_Hall_run) (defBody s_m_Hall_run) (defScope s_m_Hall_run) .none kV_m_Hall_run dc_m_Hall_run pm_m_Hall_run an_m_Hall_run cd_m_Hall_run ct_m_Hall_run), sl_m_Hall_run⟩)
    (cm_Hall_run : PySem.W.codeIn K cd_m_Hall_run "Hall.run" = true)
    (km_Hall_run : PySem.W.keepIn K (.ref f_m_Hall_run) = true)
    (am_Hall_repeat : PySem.W.findIn K (.ref C_Hall) "repeat" = some (some (.ref f_m_Hall_repeat)))
    (im_Hall_repeat : PySem.W.isFn K (.ref f_m_Hall_repeat) = true)
    (lm_Hall_repeat : K.lookup f_m_Hall_repeat = some ⟨oc_m_Hall_repeat, od_m_Hall_repeat, .func (PySem.W.fnOf "repeat" "Hall.repeat" (defArgs s_m_Hall_repeat) (defBody s_m_Hall_repeat) (defScope s_m_Hall_repeat) .none kV_m_Hall_repeat dc_m_Hall_repeat pm_m_Hall_repeat an_m_Hall_repeat cd_m_Hall_repeat ct_m_Hall_repeat), sl_m_Hall_repeat⟩)
    (cm_Hall_repeat : PySem.W.codeIn K cd_m_Hall_repeat "Hall.repeat" = true)
    (km_Hall_repeat : PySem.W.keepIn K (.ref f_m_Hall_repeat) = true)
    (am_Hall_leave : PySem.W.findIn K (.ref C_Hall) "leave" = some (some (.ref f_m_Hall_leave)))
    (im_Hall_leave : PySem.W.isFn K (.ref f_m_Hall_leave) = true)
    (lm_Hall_leave : K.lookup f_m_Hall_leave = some ⟨oc_m_Hall_leave, od_m_Hall_leave, .func (PySem.W.fnOf "leave" "Hall.leave" (defArgs s_m_Hall_leave) (defBody s_m_Hall_leave) (defScope s_m_Hall_leave) .none kV_m_Hall_leave dc_m_Hall_leave pm_m_Hall_leave an_m_Hall_leave cd_m_Hall_leave ct_m_Hall_leave), sl_m_Hall_leave⟩)
    (cm_Hall_leave : PySem.W.codeIn K cd_m_Hall_leave "Hall.leave" = true)
    (km_Hall_leave : PySem.W.keepIn K (.ref f_m_Hall_leave) = true)
    (z_isinstance : PySem.W.nsIn K mainGlobals "isinstance" = some none) (z_int : PySem.W.nsIn K mainGlobals "int" = some none) (z_bool : PySem.W.nsIn K mainGlobals "bool" = some none) (z_len : PySem.W.nsIn K mainGlobals "len" = some none) (z_list : PySem.W.nsIn K mainGlobals "list" = some none) (z_tuple : PySem.W.nsIn K mainGlobals "tuple" = some none) (z_enumerate : PySem.W.nsIn K mainGlobals "enumerate" = some none) (z_range : PySem.W.nsIn K mainGlobals "range" = some none) (z_all : PySem.W.nsIn K mainGlobals "all" = some none) (z_min : PySem.W.nsIn K mainGlobals "min" = some none) (z_max : PySem.W.nsIn K mainGlobals "max" = some none) (z_set : PySem.W.nsIn K mainGlobals "set" = some none) (z_str : PySem.W.nsIn K mainGlobals "str" = some none) (z_abs : PySem.W.nsIn K mainGlobals "abs" = some none) (z_zip : PySem.W.nsIn K mainGlobals "zip" = some none) (z_LookupError : PySem.W.nsIn K mainGlobals "LookupError" = some none) :
    ∃ fd : FuncData, (∀ (s : Shared) (v : Value), BindsTo s fd ⟨[v], []⟩ [("_law_script", v)]) ∧ ∀ base : Heap, K.In base → base.Ns mainGlobals mg → FnOk l.prog w K mg base CX0 13 fa fd ["_law_script"] (spLaw K) := by
  have e := hfa.symm.trans (PySem.W.mg_of X G a_law)
  cases e
  let T : Env K mg := {
    n_isinstance := PySem.W.mg_none_of X G z_isinstance,
    n_int := PySem.W.mg_none_of X G z_int,
    n_bool := PySem.W.mg_none_of X G z_bool,
    n_len := PySem.W.mg_none_of X G z_len,
    n_list := PySem.W.mg_none_of X G z_list,
    n_tuple := PySem.W.mg_none_of X G z_tuple,
    n_enumerate := PySem.W.mg_none_of X G z_enumerate,
    n_range := PySem.W.mg_none_of X G z_range,
    n_all := PySem.W.mg_none_of X G z_all,
    n_min := PySem.W.mg_none_of X G z_min,
    n_max := PySem.W.mg_none_of X G z_max,
    n_set := PySem.W.mg_none_of X G z_set,
    n_str := PySem.W.mg_none_of X G z_str,
    n_abs := PySem.W.mg_none_of X G z_abs,
    n_zip := PySem.W.mg_none_of X G z_zip,
    n_LookupError := PySem.W.mg_none_of X G z_LookupError,
    f_p_check_person := f_p_check_person, d_p_check_person := _, F_p_check_person := fun_mk (st := s_p_check_person) l_p_check_person c_p_check_person k_p_check_person, g_p_check_person := PySem.W.mg_of X G a_p_check_person,
    f_p_check_call := f_p_check_call, d_p_check_call := _, F_p_check_call := fun_mk (st := s_p_check_call) l_p_check_call c_p_check_call k_p_check_call, g_p_check_call := PySem.W.mg_of X G a_p_check_call,
    f_p_check_word := f_p_check_word, d_p_check_word := _, F_p_check_word := fun_mk (st := s_p_check_word) l_p_check_word c_p_check_word k_p_check_word, g_p_check_word := PySem.W.mg_of X G a_p_check_word,
    f_p_join_two := f_p_join_two, d_p_join_two := _, F_p_join_two := fun_mk (st := s_p_join_two) l_p_join_two c_p_join_two k_p_join_two, g_p_join_two := PySem.W.mg_of X G a_p_join_two,
    f_p_called := f_p_called, d_p_called := _, F_p_called := fun_mk (st := s_p_called) l_p_called c_p_called k_p_called, g_p_called := PySem.W.mg_of X G a_p_called,
    f_p_called_all := f_p_called_all, d_p_called_all := _, F_p_called_all := fun_mk (st := s_p_called_all) l_p_called_all c_p_called_all k_p_called_all, g_p_called_all := PySem.W.mg_of X G a_p_called_all,
    f_p_pairings_along := f_p_pairings_along, d_p_pairings_along := _, F_p_pairings_along := fun_mk (st := s_p_pairings_along) l_p_pairings_along c_p_pairings_along k_p_pairings_along, g_p_pairings_along := PySem.W.mg_of X G a_p_pairings_along,
    f_p_idle_calls := f_p_idle_calls, d_p_idle_calls := _, F_p_idle_calls := fun_mk (st := s_p_idle_calls) l_p_idle_calls c_p_idle_calls k_p_idle_calls, g_p_idle_calls := PySem.W.mg_of X G a_p_idle_calls,
    f_p_people_of := f_p_people_of, d_p_people_of := _, F_p_people_of := fun_mk (st := s_p_people_of) l_p_people_of c_p_people_of k_p_people_of, g_p_people_of := PySem.W.mg_of X G a_p_people_of,
    f_p_check_sizes := f_p_check_sizes, d_p_check_sizes := _, F_p_check_sizes := fun_mk (st := s_p_check_sizes) l_p_check_sizes c_p_check_sizes k_p_check_sizes, g_p_check_sizes := PySem.W.mg_of X G a_p_check_sizes,
    f_p_empty_sheet := f_p_empty_sheet, d_p_empty_sheet := _, F_p_empty_sheet := fun_mk (st := s_p_empty_sheet) l_p_empty_sheet c_p_empty_sheet k_p_empty_sheet, g_p_empty_sheet := PySem.W.mg_of X G a_p_empty_sheet,
    f_p_with_word := f_p_with_word, d_p_with_word := _, F_p_with_word := fun_mk (st := s_p_with_word) l_p_with_word c_p_with_word k_p_with_word, g_p_with_word := PySem.W.mg_of X G a_p_with_word,
    f_p_sheet_of := f_p_sheet_of, d_p_sheet_of := _, F_p_sheet_of := fun_mk (st := s_p_sheet_of) l_p_sheet_of c_p_sheet_of k_p_sheet_of, g_p_sheet_of := PySem.W.mg_of X G a_p_sheet_of,
    f_p_with_call := f_p_with_call, d_p_with_call := _, F_p_with_call := fun_mk (st := s_p_with_call) l_p_with_call c_p_with_call k_p_with_call, g_p_with_call := PySem.W.mg_of X G a_p_with_call,
    f_p_far_end := f_p_far_end, d_p_far_end := _, F_p_far_end := fun_mk (st := s_p_far_end) l_p_far_end c_p_far_end k_p_far_end, g_p_far_end := PySem.W.mg_of X G a_p_far_end,
    f_p_followed := f_p_followed, d_p_followed := _, F_p_followed := fun_mk (st := s_p_followed) l_p_followed c_p_followed k_p_followed, g_p_followed := PySem.W.mg_of X G a_p_followed,
    f_p_times := f_p_times, d_p_times := _, F_p_times := fun_mk (st := s_p_times) l_p_times c_p_times k_p_times, g_p_times := PySem.W.mg_of X G a_p_times,
    f_p_followed_path := f_p_followed_path, d_p_followed_path := _, F_p_followed_path := fun_mk (st := s_p_followed_path) l_p_followed_path c_p_followed_path k_p_followed_path, g_p_followed_path := PySem.W.mg_of X G a_p_followed_path,
    f_p_result := f_p_result, d_p_result := _, F_p_result := fun_mk (st := s_p_result) l_p_result c_p_result k_p_result, g_p_result := PySem.W.mg_of X G a_p_result,
    f_p_path := f_p_path, d_p_path := _, F_p_path := fun_mk (st := s_p_path) l_p_path c_p_path k_p_path, g_p_path := PySem.W.mg_of X G a_p_path,
    f_p_shows_path := f_p_shows_path, d_p_shows_path := _, F_p_shows_path := fun_mk (st := s_p_shows_path) l_p_shows_path c_p_shows_path k_p_shows_path, g_p_shows_path := PySem.W.mg_of X G a_p_shows_path,
    f_p_couples_on := f_p_couples_on, d_p_couples_on := _, F_p_couples_on := fun_mk (st := s_p_couples_on) l_p_couples_on c_p_couples_on k_p_couples_on, g_p_couples_on := PySem.W.mg_of X G a_p_couples_on,
    f_p_cycle_from := f_p_cycle_from, d_p_cycle_from := _, F_p_cycle_from := fun_mk (st := s_p_cycle_from) l_p_cycle_from c_p_cycle_from k_p_cycle_from, g_p_cycle_from := PySem.W.mg_of X G a_p_cycle_from,
    f_p_cycles := f_p_cycles, d_p_cycles := _, F_p_cycles := fun_mk (st := s_p_cycles) l_p_cycles c_p_cycles k_p_cycles, g_p_cycles := PySem.W.mg_of X G a_p_cycles,
    f_p_distance := f_p_distance, d_p_distance := _, F_p_distance := fun_mk (st := s_p_distance) l_p_distance c_p_distance k_p_distance, g_p_distance := PySem.W.mg_of X G a_p_distance,
    f_p_word_number := f_p_word_number, d_p_word_number := _, F_p_word_number := fun_mk (st := s_p_word_number) l_p_word_number c_p_word_number k_p_word_number, g_p_word_number := PySem.W.mg_of X G a_p_word_number,
    f_p_word_renumbered := f_p_word_renumbered, d_p_word_renumbered := _, F_p_word_renumbered := fun_mk (st := s_p_word_renumbered) l_p_word_renumbered c_p_word_renumbered k_p_word_renumbered, g_p_word_renumbered := PySem.W.mg_of X G a_p_word_renumbered,
    f_p_without := f_p_without, d_p_without := _, F_p_without := fun_mk (st := s_p_without) l_p_without c_p_without k_p_without, g_p_without := PySem.W.mg_of X G a_p_without,
    f_p_repeated := f_p_repeated, d_p_repeated := _, F_p_repeated := fun_mk (st := s_p_repeated) l_p_repeated c_p_repeated k_p_repeated, g_p_repeated := PySem.W.mg_of X G a_p_repeated,
    f_p_sheet_settles := f_p_sheet_settles, d_p_sheet_settles := _, F_p_sheet_settles := fun_mk (st := s_p_sheet_settles) l_p_sheet_settles c_p_sheet_settles k_p_sheet_settles, g_p_sheet_settles := PySem.W.mg_of X G a_p_sheet_settles,
    f_p_settles := f_p_settles, d_p_settles := _, F_p_settles := fun_mk (st := s_p_settles) l_p_settles c_p_settles k_p_settles, g_p_settles := PySem.W.mg_of X G a_p_settles,
    f_p_first_time := f_p_first_time, d_p_first_time := _, F_p_first_time := fun_mk (st := s_p_first_time) l_p_first_time c_p_first_time k_p_first_time, g_p_first_time := PySem.W.mg_of X G a_p_first_time,
    f_p_partners_of := f_p_partners_of, d_p_partners_of := _, F_p_partners_of := fun_mk (st := s_p_partners_of) l_p_partners_of c_p_partners_of k_p_partners_of, g_p_partners_of := PySem.W.mg_of X G a_p_partners_of,
    f_stream := f_stream, d_stream := _, F_stream := fun_mk (st := s_stream) l_stream c_stream k_stream, g_stream := PySem.W.mg_of X G a_stream,
    f_draw := f_draw, d_draw := _, F_draw := fun_mk (st := s_draw) l_draw c_draw k_draw, g_draw := PySem.W.mg_of X G a_draw,
    f_folded := f_folded, d_folded := _, F_folded := fun_mk (st := s_folded) l_folded c_folded k_folded, g_folded := PySem.W.mg_of X G a_folded,
    f_same := f_same, d_same := _, F_same := fun_mk (st := s_same) l_same c_same k_same, g_same := PySem.W.mg_of X G a_same,
    f_shuffled := f_shuffled, d_shuffled := _, F_shuffled := fun_mk (st := s_shuffled) l_shuffled c_shuffled k_shuffled, g_shuffled := PySem.W.mg_of X G a_shuffled,
    f_random_pairing := f_random_pairing, d_random_pairing := _, F_random_pairing := fun_mk (st := s_random_pairing) l_random_pairing c_random_pairing k_random_pairing, g_random_pairing := PySem.W.mg_of X G a_random_pairing,
    f_person := f_person, d_person := _, F_person := fun_mk (st := s_person) l_person c_person k_person, g_person := PySem.W.mg_of X G a_person,
    f_by_word := f_by_word, d_by_word := _, F_by_word := fun_mk (st := s_by_word) l_by_word c_by_word k_by_word, g_by_word := PySem.W.mg_of X G a_by_word,
    f_hall := f_hall, d_hall := _, F_hall := fun_mk (st := s_hall) l_hall c_hall k_hall, g_hall := PySem.W.mg_of X G a_hall,
    f_refused := f_refused, d_refused := _, F_refused := fun_mk (st := s_refused) l_refused c_refused k_refused, g_refused := PySem.W.mg_of X G a_refused,
    f_right := f_right, d_right := _, F_right := fun_mk (st := s_right) l_right c_right k_right, g_right := PySem.W.mg_of X G a_right,
    C_NoPerson := C_NoPerson, gC_NoPerson := PySem.W.mg_of X G aC_NoPerson,
    C_Last := C_Last, gC_Last := PySem.W.mg_of X G aC_Last,
    C_NoDeed := C_NoDeed, gC_NoDeed := PySem.W.mg_of X G aC_NoDeed,
    C_NoNumber := C_NoNumber, gC_NoNumber := PySem.W.mg_of X G aC_NoNumber,
    C_NotShortest := C_NotShortest, gC_NotShortest := PySem.W.mg_of X G aC_NotShortest,
    C_OtherSize := C_OtherSize, gC_OtherSize := PySem.W.mg_of X G aC_OtherSize,
    own_NoPerson := ⟨⟨nm_NoPerson, qn_NoPerson, Nn_NoPerson, bs_NoPerson, sn_NoPerson, sub_NoPerson, ab_NoPerson, col_NoPerson, dd_NoPerson, m0_NoPerson, m1_NoPerson, m2_NoPerson, m3_NoPerson, m5_NoPerson, xC_NoPerson⟩, over_of xC_NoPerson (by decide +kernel), sa_NoPerson, ga_NoPerson, gg_NoPerson, eC_NoPerson, tC_NoPerson, kC_NoPerson, hC_NoPerson, cl_NoPerson, mr_NoPerson⟩,
    kpt_NoPerson := ⟨ga_NoPerson, gg_NoPerson, eC_NoPerson, hC_NoPerson, cl_NoPerson, mr_NoPerson, spG, tkG⟩,
    f_i_NoPerson := f_i_NoPerson, d_i_NoPerson := _, F_i_NoPerson := fun_mk (st := s_i_NoPerson) lI_NoPerson cI_NoPerson kI_NoPerson, iC_NoPerson := iC_NoPerson, tI_NoPerson := tI_NoPerson, ee_NoPerson := exm_of' eC_NoPerson is_NoPerson tC_NoPerson su_NoPerson, kk_NoPerson := kit_own su_NoPerson is_NoPerson tC_NoPerson su_NoPerson,
    no_NoPerson := no_NoPerson,
    ex_NoPerson_Last := exm_of' eC_Last is_Last tC_Last su_NoPerson_Last, ki_NoPerson_Last := kit_own su_NoPerson is_Last tC_Last su_NoPerson_Last,
    ex_NoPerson_NoDeed := exm_of' eC_NoDeed is_NoDeed tC_NoDeed su_NoPerson_NoDeed, ki_NoPerson_NoDeed := kit_own su_NoPerson is_NoDeed tC_NoDeed su_NoPerson_NoDeed,
    ex_NoPerson_NoNumber := exm_of' eC_NoNumber is_NoNumber tC_NoNumber su_NoPerson_NoNumber, ki_NoPerson_NoNumber := kit_own su_NoPerson is_NoNumber tC_NoNumber su_NoPerson_NoNumber,
    ex_NoPerson_NotShortest := exm_of' eC_NotShortest is_NotShortest tC_NotShortest su_NoPerson_NotShortest, ki_NoPerson_NotShortest := kit_own su_NoPerson is_NotShortest tC_NotShortest su_NoPerson_NotShortest,
    ex_NoPerson_OtherSize := exm_of' eC_OtherSize is_OtherSize tC_OtherSize su_NoPerson_OtherSize, ki_NoPerson_OtherSize := kit_own su_NoPerson is_OtherSize tC_OtherSize su_NoPerson_OtherSize,
    kb_NoPerson_LookupError := kit_blt (by decide +kernel) sb_NoPerson_LookupError,
    vV_LookupError := vV_LookupError,
    C_Hall := C_Hall, gC_Hall := PySem.W.mg_of X G aC_Hall, cl_Hall := ⟨pg_Hall, hd_Hall, po_Hall, sa_Hall⟩,
    nF_Hall_past := nF_Hall_past,
    nF_Hall_written := nF_Hall_written,
    f_m_Hall_init := f_m_Hall_init, d_m_Hall_init := _, F_m_Hall_init := fun_mk (st := s_m_Hall_init) lm_Hall_init cm_Hall_init km_Hall_init,
    mk_Hall := ⟨mk_Hall, am_Hall_init, im_Hall_init, kc_Hall⟩,
    f_m_Hall_pairing := f_m_Hall_pairing, d_m_Hall_pairing := _, F_m_Hall_pairing := fun_mk (st := s_m_Hall_pairing) lm_Hall_pairing cm_Hall_pairing km_Hall_pairing,
    me_Hall_pairing := ⟨am_Hall_pairing, im_Hall_pairing, km_Hall_pairing⟩,
    f_m_Hall_deeds := f_m_Hall_deeds, d_m_Hall_deeds := _, F_m_Hall_deeds := fun_mk (st := s_m_Hall_deeds) lm_Hall_deeds cm_Hall_deeds km_Hall_deeds,
    me_Hall_deeds := ⟨am_Hall_deeds, im_Hall_deeds, km_Hall_deeds⟩,
    f_m_Hall_keep := f_m_Hall_keep, d_m_Hall_keep := _, F_m_Hall_keep := fun_mk (st := s_m_Hall_keep) lm_Hall_keep cm_Hall_keep km_Hall_keep,
    me_Hall_keep := ⟨am_Hall_keep, im_Hall_keep, km_Hall_keep⟩,
    f_m_Hall_call := f_m_Hall_call, d_m_Hall_call := _, F_m_Hall_call := fun_mk (st := s_m_Hall_call) lm_Hall_call cm_Hall_call km_Hall_call,
    me_Hall_call := ⟨am_Hall_call, im_Hall_call, km_Hall_call⟩,
    f_m_Hall_run := f_m_Hall_run, d_m_Hall_run := _, F_m_Hall_run := fun_mk (st := s_m_Hall_run) lm_Hall_run cm_Hall_run km_Hall_run,
    me_Hall_run := ⟨am_Hall_run, im_Hall_run, km_Hall_run⟩,
    f_m_Hall_repeat := f_m_Hall_repeat, d_m_Hall_repeat := _, F_m_Hall_repeat := fun_mk (st := s_m_Hall_repeat) lm_Hall_repeat cm_Hall_repeat km_Hall_repeat,
    me_Hall_repeat := ⟨am_Hall_repeat, im_Hall_repeat, km_Hall_repeat⟩,
    f_m_Hall_leave := f_m_Hall_leave, d_m_Hall_leave := _, F_m_Hall_leave := fun_mk (st := s_m_Hall_leave) lm_Hall_leave cm_Hall_leave km_Hall_leave,
    me_Hall_leave := ⟨am_Hall_leave, im_Hall_leave, km_Hall_leave⟩ }
  exact ⟨PySem.W.fnOf "law" "law" (defArgs s_law) (defBody s_law) (defScope s_law) .none kV_law dc_law pm_law an_law cd_law ct_law, fun s v => .of_eq rfl, fun base _ _ => ok_law T (fun_mk (st := s_law) l_law c_law k_law)⟩
end Pc
open PySem PySem.W PyProof.Rows
set_option maxHeartbeats 0 in
theorem PySem.Challenge.cw_partnercall_k98_people_who_are_not_there_holds : PySem.Challenge.rw_partnercall_k98_people_who_are_not_there.Holds := by
  w_on; o_law; k_head; (case hw => w_witness2)
  k_fill
  refine L2.walk_of (l := PySem.Challenge.rw_partnercall_k98_people_who_are_not_there) (n := 63) (k := 13) (x := "_law_script") (CX := fun _ => L2.CX0) (sp := fun w => Pc.spLaw _) rfl (by decide) rfl ⟨rfl, by decide, by decide⟩ (fun w h Y => PySem.W.kIn_of Y) ?F (fun _ _ a ns hl _ hS => ⟨a, ns, rfl, hS, hl, fun _ => rfl⟩) (fun _ _ _ _ _ h => h)
  case F =>
    intro w mg fa h KX G hmg
    refine' Pc.all_mk KX G hmg ?a_p_check_person ?l_p_check_person ?c_p_check_person ?k_p_check_person ?a_p_check_call ?l_p_check_call ?c_p_check_call ?k_p_check_call ?a_p_check_word ?l_p_check_word ?c_p_check_word ?k_p_check_word ?a_p_join_two ?l_p_join_two ?c_p_join_two ?k_p_join_two ?a_p_called ?l_p_called ?c_p_called ?k_p_called ?a_p_called_all ?l_p_called_all ?c_p_called_all ?k_p_called_all ?a_p_pairings_along ?l_p_pairings_along ?c_p_pairings_along ?k_p_pairings_along ?a_p_idle_calls ?l_p_idle_calls ?c_p_idle_calls ?k_p_idle_calls ?a_p_people_of ?l_p_people_of ?c_p_people_of ?k_p_people_of ?a_p_check_sizes ?l_p_check_sizes ?c_p_check_sizes ?k_p_check_sizes ?a_p_empty_sheet ?l_p_empty_sheet ?c_p_empty_sheet ?k_p_empty_sheet ?a_p_with_word ?l_p_with_word ?c_p_with_word ?k_p_with_word ?a_p_sheet_of ?l_p_sheet_of ?c_p_sheet_of ?k_p_sheet_of ?a_p_with_call ?l_p_with_call ?c_p_with_call ?k_p_with_call ?a_p_far_end ?l_p_far_end ?c_p_far_end ?k_p_far_end ?a_p_followed ?l_p_followed ?c_p_followed ?k_p_followed ?a_p_times ?l_p_times ?c_p_times ?k_p_times ?a_p_followed_path ?l_p_followed_path ?c_p_followed_path ?k_p_followed_path ?a_p_result ?l_p_result ?c_p_result ?k_p_result ?a_p_path ?l_p_path ?c_p_path ?k_p_path ?a_p_shows_path ?l_p_shows_path ?c_p_shows_path ?k_p_shows_path ?a_p_couples_on ?l_p_couples_on ?c_p_couples_on ?k_p_couples_on ?a_p_cycle_from ?l_p_cycle_from ?c_p_cycle_from ?k_p_cycle_from ?a_p_cycles ?l_p_cycles ?c_p_cycles ?k_p_cycles ?a_p_distance ?l_p_distance ?c_p_distance ?k_p_distance ?a_p_word_number ?l_p_word_number ?c_p_word_number ?k_p_word_number ?a_p_word_renumbered ?l_p_word_renumbered ?c_p_word_renumbered ?k_p_word_renumbered ?a_p_without ?l_p_without ?c_p_without ?k_p_without ?a_p_repeated ?l_p_repeated ?c_p_repeated ?k_p_repeated ?a_p_sheet_settles ?l_p_sheet_settles ?c_p_sheet_settles ?k_p_sheet_settles ?a_p_settles ?l_p_settles ?c_p_settles ?k_p_settles ?a_p_first_time ?l_p_first_time ?c_p_first_time ?k_p_first_time ?a_p_partners_of ?l_p_partners_of ?c_p_partners_of ?k_p_partners_of ?a_stream ?l_stream ?c_stream ?k_stream ?a_draw ?l_draw ?c_draw ?k_draw ?a_folded ?l_folded ?c_folded ?k_folded ?a_same ?l_same ?c_same ?k_same ?a_shuffled ?l_shuffled ?c_shuffled ?k_shuffled ?a_random_pairing ?l_random_pairing ?c_random_pairing ?k_random_pairing ?a_person ?l_person ?c_person ?k_person ?a_by_word ?l_by_word ?c_by_word ?k_by_word ?a_hall ?l_hall ?c_hall ?k_hall ?a_refused ?l_refused ?c_refused ?k_refused ?a_right ?l_right ?c_right ?k_right ?a_law ?l_law ?c_law ?k_law ?aC_NoPerson ?eC_NoPerson ?tC_NoPerson ?is_NoPerson ?aC_Last ?eC_Last ?tC_Last ?is_Last ?aC_NoDeed ?eC_NoDeed ?tC_NoDeed ?is_NoDeed ?aC_NoNumber ?eC_NoNumber ?tC_NoNumber ?is_NoNumber ?aC_NotShortest ?eC_NotShortest ?tC_NotShortest ?is_NotShortest ?aC_OtherSize ?eC_OtherSize ?tC_OtherSize ?is_OtherSize ?xC_NoPerson ?sa_NoPerson ?ga_NoPerson ?gg_NoPerson ?kC_NoPerson ?hC_NoPerson ?cl_NoPerson ?mr_NoPerson ?iC_NoPerson ?tI_NoPerson ?lI_NoPerson ?cI_NoPerson ?kI_NoPerson ?su_NoPerson ?no_NoPerson ?su_NoPerson_Last ?su_NoPerson_NoDeed ?su_NoPerson_NoNumber ?su_NoPerson_NotShortest ?su_NoPerson_OtherSize ?sb_NoPerson_LookupError ?vV_LookupError ?spG ?tkG ?aC_Hall ?pg_Hall ?hd_Hall ?po_Hall ?sa_Hall ?mk_Hall ?kc_Hall ?nF_Hall_past ?nF_Hall_written ?am_Hall_init ?im_Hall_init ?lm_Hall_init ?cm_Hall_init ?km_Hall_init ?am_Hall_pairing ?im_Hall_pairing ?lm_Hall_pairing ?cm_Hall_pairing ?km_Hall_pairing ?am_Hall_deeds ?im_Hall_deeds ?lm_Hall_deeds ?cm_Hall_deeds ?km_Hall_deeds ?am_Hall_keep ?im_Hall_keep ?lm_Hall_keep ?cm_Hall_keep ?km_Hall_keep ?am_Hall_call ?im_Hall_call ?lm_Hall_call ?cm_Hall_call ?km_Hall_call ?am_Hall_run ?im_Hall_run ?lm_Hall_run ?cm_Hall_run ?km_Hall_run ?am_Hall_repeat ?im_Hall_repeat ?lm_Hall_repeat ?cm_Hall_repeat ?km_Hall_repeat ?am_Hall_leave ?im_Hall_leave ?lm_Hall_leave ?cm_Hall_leave ?km_Hall_leave ?z_isinstance ?z_int ?z_bool ?z_len ?z_list ?z_tuple ?z_enumerate ?z_range ?z_all ?z_min ?z_max ?z_set ?z_str ?z_abs ?z_zip ?z_LookupError
    (case a_p_check_person => k_is); (case l_p_check_person => k_is); (case c_p_check_person => k_is); (case k_p_check_person => k_is); (case a_p_check_call => k_is); (case l_p_check_call => k_is); (case c_p_check_call => k_is); (case k_p_check_call => k_is); (case a_p_check_word => k_is); (case l_p_check_word => k_is); (case c_p_check_word => k_is); (case k_p_check_word => k_is); (case a_p_join_two => k_is); (case l_p_join_two => k_is); (case c_p_join_two => k_is); (case k_p_join_two => k_is); (case a_p_called => k_is); (case l_p_called => k_is); (case c_p_called => k_is); (case k_p_called => k_is); (case a_p_called_all => k_is); (case l_p_called_all => k_is); (case c_p_called_all => k_is); (case k_p_called_all => k_is); (case a_p_pairings_along => k_is); (case l_p_pairings_along => k_is); (case c_p_pairings_along => k_is); (case k_p_pairings_along => k_is); (case a_p_idle_calls => k_is); (case l_p_idle_calls => k_is); (case c_p_idle_calls => k_is); (case k_p_idle_calls => k_is); (case a_p_people_of => k_is); (case l_p_people_of => k_is); (case c_p_people_of => k_is); (case k_p_people_of => k_is); (case a_p_check_sizes => k_is); (case l_p_check_sizes => k_is); (case c_p_check_sizes => k_is); (case k_p_check_sizes => k_is); (case a_p_empty_sheet => k_is); (case l_p_empty_sheet => k_is); (case c_p_empty_sheet => k_is); (case k_p_empty_sheet => k_is); (case a_p_with_word => k_is); (case l_p_with_word => k_is); (case c_p_with_word => k_is); (case k_p_with_word => k_is); (case a_p_sheet_of => k_is); (case l_p_sheet_of => k_is); (case c_p_sheet_of => k_is); (case k_p_sheet_of => k_is); (case a_p_with_call => k_is); (case l_p_with_call => k_is); (case c_p_with_call => k_is); (case k_p_with_call => k_is); (case a_p_far_end => k_is); (case l_p_far_end => k_is); (case c_p_far_end => k_is); (case k_p_far_end => k_is); (case a_p_followed => k_is); (case l_p_followed => k_is); (case c_p_followed => k_is); (case k_p_followed => k_is); (case a_p_times => k_is); (case l_p_times => k_is); (case c_p_times => k_is); (case k_p_times => k_is); (case a_p_followed_path => k_is); (case l_p_followed_path => k_is); (case c_p_followed_path => k_is); (case k_p_followed_path => k_is); (case a_p_result => k_is); (case l_p_result => k_is); (case c_p_result => k_is); (case k_p_result => k_is); (case a_p_path => k_is); (case l_p_path => k_is); (case c_p_path => k_is); (case k_p_path => k_is); (case a_p_shows_path => k_is); (case l_p_shows_path => k_is); (case c_p_shows_path => k_is); (case k_p_shows_path => k_is); (case a_p_couples_on => k_is); (case l_p_couples_on => k_is); (case c_p_couples_on => k_is); (case k_p_couples_on => k_is); (case a_p_cycle_from => k_is); (case l_p_cycle_from => k_is); (case c_p_cycle_from => k_is); (case k_p_cycle_from => k_is); (case a_p_cycles => k_is); (case l_p_cycles => k_is); (case c_p_cycles => k_is); (case k_p_cycles => k_is); (case a_p_distance => k_is); (case l_p_distance => k_is); (case c_p_distance => k_is); (case k_p_distance => k_is); (case a_p_word_number => k_is); (case l_p_word_number => k_is); (case c_p_word_number => k_is); (case k_p_word_number => k_is); (case a_p_word_renumbered => k_is); (case l_p_word_renumbered => k_is); (case c_p_word_renumbered => k_is); (case k_p_word_renumbered => k_is); (case a_p_without => k_is); (case l_p_without => k_is); (case c_p_without => k_is); (case k_p_without => k_is); (case a_p_repeated => k_is); (case l_p_repeated => k_is); (case c_p_repeated => k_is); (case k_p_repeated => k_is); (case a_p_sheet_settles => k_is); (case l_p_sheet_settles => k_is); (case c_p_sheet_settles => k_is); (case k_p_sheet_settles => k_is); (case a_p_settles => k_is); (case l_p_settles => k_is); (case c_p_settles => k_is); (case k_p_settles => k_is); (case a_p_first_time => k_is); (case l_p_first_time => k_is); (case c_p_first_time => k_is); (case k_p_first_time => k_is); (case a_p_partners_of => k_is); (case l_p_partners_of => k_is); (case c_p_partners_of => k_is); (case k_p_partners_of => k_is); (case a_stream => k_is); (case l_stream => k_is); (case c_stream => k_is); (case k_stream => k_is); (case a_draw => k_is); (case l_draw => k_is); (case c_draw => k_is); (case k_draw => k_is); (case a_folded => k_is); (case l_folded => k_is); (case c_folded => k_is); (case k_folded => k_is); (case a_same => k_is); (case l_same => k_is); (case c_same => k_is); (case k_same => k_is); (case a_shuffled => k_is); (case l_shuffled => k_is); (case c_shuffled => k_is); (case k_shuffled => k_is); (case a_random_pairing => k_is); (case l_random_pairing => k_is); (case c_random_pairing => k_is); (case k_random_pairing => k_is); (case a_person => k_is); (case l_person => k_is); (case c_person => k_is); (case k_person => k_is); (case a_by_word => k_is); (case l_by_word => k_is); (case c_by_word => k_is); (case k_by_word => k_is); (case a_hall => k_is); (case l_hall => k_is); (case c_hall => k_is); (case k_hall => k_is); (case a_refused => k_is); (case l_refused => k_is); (case c_refused => k_is); (case k_refused => k_is); (case a_right => k_is); (case l_right => k_is); (case c_right => k_is); (case k_right => k_is); (case a_law => k_is); (case l_law => k_is); (case c_law => k_is); (case k_law => k_is); (case aC_NoPerson => k_is); (case eC_NoPerson => k_is); (case tC_NoPerson => k_is); (case is_NoPerson => k_is); (case aC_Last => k_is); (case eC_Last => k_is); (case tC_Last => k_is); (case is_Last => k_is); (case aC_NoDeed => k_is); (case eC_NoDeed => k_is); (case tC_NoDeed => k_is); (case is_NoDeed => k_is); (case aC_NoNumber => k_is); (case eC_NoNumber => k_is); (case tC_NoNumber => k_is); (case is_NoNumber => k_is); (case aC_NotShortest => k_is); (case eC_NotShortest => k_is); (case tC_NotShortest => k_is); (case is_NotShortest => k_is); (case aC_OtherSize => k_is); (case eC_OtherSize => k_is); (case tC_OtherSize => k_is); (case is_OtherSize => k_is); (case xC_NoPerson => k_is); (case sa_NoPerson => k_is); (case ga_NoPerson => k_is); (case gg_NoPerson => k_is); (case kC_NoPerson => k_is); (case hC_NoPerson => k_is); (case cl_NoPerson => k_is); (case mr_NoPerson => k_is); (case iC_NoPerson => k_is); (case tI_NoPerson => k_is); (case lI_NoPerson => k_is); (case cI_NoPerson => k_is); (case kI_NoPerson => k_is); (case su_NoPerson => k_is); (case no_NoPerson => k_is); (case su_NoPerson_Last => k_is); (case su_NoPerson_NoDeed => k_is); (case su_NoPerson_NoNumber => k_is); (case su_NoPerson_NotShortest => k_is); (case su_NoPerson_OtherSize => k_is); (case sb_NoPerson_LookupError => k_is); (case vV_LookupError => k_is); (case spG => k_is); (case tkG => k_is); (case aC_Hall => k_is); (case pg_Hall => k_is); (case hd_Hall => k_is); (case po_Hall => k_is); (case sa_Hall => k_is); (case mk_Hall => k_is); (case kc_Hall => k_is); (case nF_Hall_past => k_is); (case nF_Hall_written => k_is); (case am_Hall_init => k_is); (case im_Hall_init => k_is); (case lm_Hall_init => k_is); (case cm_Hall_init => k_is); (case km_Hall_init => k_is); (case am_Hall_pairing => k_is); (case im_Hall_pairing => k_is); (case lm_Hall_pairing => k_is); (case cm_Hall_pairing => k_is); (case km_Hall_pairing => k_is); (case am_Hall_deeds => k_is); (case im_Hall_deeds => k_is); (case lm_Hall_deeds => k_is); (case cm_Hall_deeds => k_is); (case km_Hall_deeds => k_is); (case am_Hall_keep => k_is); (case im_Hall_keep => k_is); (case lm_Hall_keep => k_is); (case cm_Hall_keep => k_is); (case km_Hall_keep => k_is); (case am_Hall_call => k_is); (case im_Hall_call => k_is); (case lm_Hall_call => k_is); (case cm_Hall_call => k_is); (case km_Hall_call => k_is); (case am_Hall_run => k_is); (case im_Hall_run => k_is); (case lm_Hall_run => k_is); (case cm_Hall_run => k_is); (case km_Hall_run => k_is); (case am_Hall_repeat => k_is); (case im_Hall_repeat => k_is); (case lm_Hall_repeat => k_is); (case cm_Hall_repeat => k_is); (case km_Hall_repeat => k_is); (case am_Hall_leave => k_is); (case im_Hall_leave => k_is); (case lm_Hall_leave => k_is); (case cm_Hall_leave => k_is); (case km_Hall_leave => k_is); (case z_isinstance => k_is); (case z_int => k_is); (case z_bool => k_is); (case z_len => k_is); (case z_list => k_is); (case z_tuple => k_is); (case z_enumerate => k_is); (case z_range => k_is); (case z_all => k_is); (case z_min => k_is); (case z_max => k_is); (case z_set => k_is); (case z_str => k_is); (case z_abs => k_is); (case z_zip => k_is); (case z_LookupError => k_is)
