import PyProof.Rows.All
import Wide.All
import OpenK.AllK
import Wide.FinOn
import HandS.ForMost
import HandS.IsInst
import HandS.Zip
import HandS.Style
import HandS.Walk
import HandS.Flow
import HandS.Conv
import HandS.RaiseMore
import HandS.NoneIn
import HandS.WordsList
import HandS.Deep
import HandS.Exc
import HandS.ExcOwn
import HandS.WordsExc
import HandS.ExcInit
import HandS.ExcIs
import KE.KExcIs
import KE.KExcInit
import KE.KTryMore
import HandS.SortRule
import HandS.SortInts
import HandS.Strs
import PySem.Challenge.RW_partnercall_k13_paths
set_option Elab.async false
set_option linter.all false
set_option maxRecDepth 100000
set_option maxHeartbeats 4000000
namespace RZ
end RZ
namespace Pc
open PySem PySem.Spec PyProof.Rows L2 RZ
/-! ### heaps -/
/-- all that was tracked, but for b, is as it was -/
def Keep (b : Addr) (H H' : Hp) : Prop := ∀ a o, a ≠ b → H a = some o → H' a = some o
theorem Keep.refl (b : Addr) (H : Hp) : Keep b H H := fun _ _ _ h => h
theorem Keep.trans {b : Addr} {H H1 H2 : Hp} (p : Keep b H H1) (q : Keep b H1 H2) : Keep b H H2 := fun a o n h => q a o n (p a o n h)
theorem Keep.of_same {b : Addr} {H H' : Hp} (s : Same H H') : Keep b H H' := fun a o _ h => s a o h
theorem same_new {H : Hp} {p : Addr} {o : HO} (h : H p = none) : Same H (upd H p o) := fun b x e => by
  rw [upd_ne (ne_of_none e h)]; exact e
theorem keep_upd {H : Hp} {b : Addr} {o : HO} : Keep b H (upd H b o) := fun a x n e => by
  rw [upd_ne n]; exact e
/-- a list, a tuple under Keep -/
theorem Keep.tup {b : Addr} {H H' : Hp} (k : Keep b H H') {a : Addr} {xs ys : List V} (hb : H b = some (.lst ys)) (h : H a = some (.tup xs)) : H' a = some (.tup xs) :=
  k a _ (fun e => by rw [e, hb] at h; cases h) h
/-! ### small numbers -/
theorem one0 (c : Prop) [Decidable c] : (0 : Int) ≤ (if c then 1 else 0) ∧ (if c then (1 : Int) else 0) ≤ 1 := by
  split <;> decide
theorem in64 {i : Int} (h : 0 ≤ i ∧ i ≤ 1) : -(2 ^ 64) < i ∧ i < 2 ^ 64 := ⟨by omega, by omega⟩
/-! ### the source of draws -/
/-- at b a source that serves n more draws -/
def Box (n : Nat) (H : Hp) (b : Addr) : Prop := ∃ x y z : Int, H b = some (.lst [.int x, .int y, .int z]) ∧ 0 ≤ x ∧ 0 ≤ y ∧ y < 2 ^ 62 ∧ 0 ≤ z ∧ z + n ≤ 1000000000
theorem Box.lst {n : Nat} {H : Hp} {b : Addr} (h : Box n H b) : ∃ ys, H b = some (.lst ys) := let ⟨_, _, _, e, _⟩ := h; ⟨_, e⟩
theorem Box.mono {n m : Nat} {H : Hp} {b : Addr} (h : Box n H b) (l : m ≤ n) : Box m H b := by
  obtain ⟨x, y, z, e, h1, h2, h3, h4, h5⟩ := h
  exact ⟨x, y, z, e, h1, h2, h3, h4, by omega⟩
theorem Box.same {n : Nat} {H H' : Hp} {b : Addr} (h : Box n H b) (s : Same H H') : Box n H' b := by
  obtain ⟨x, y, z, e, r⟩ := h
  exact ⟨x, y, z, s _ _ e, r⟩
theorem Box.keep {n : Nat} {H H' : Hp} {b c : Addr} (h : Box n H b) (k : Keep c H H') (d : b ≠ c) : Box n H' b := by
  obtain ⟨x, y, z, e, r⟩ := h
  exact ⟨x, y, z, k _ _ d e, r⟩
theorem Box.ne_new {n : Nat} {H : Hp} {b p : Addr} (h : Box n H b) (np : H p = none) : b ≠ p := by
  obtain ⟨x, y, z, e, r⟩ := h
  exact ne_of_none e np
theorem Box.ne_tup {n : Nat} {H : Hp} {b p : Addr} {xs : List V} (h : Box n H b) (e2 : H p = some (.tup xs)) : p ≠ b := by
  obtain ⟨x, y, z, e, r⟩ := h
  intro q; rw [q, e] at e2; cases e2
end Pc
namespace Pc
open PySem PySem.Spec PyProof.Rows L2 RZ
/-! ### errors of the program: made -/
section
open PySem.W Builtin Builtin.ObjectAttr
variable {prog : Program} {w : World} {A : Around} {R : Result → Shared → Prop} {hp : Heap} {g : Array GenState} {d : Drawn} {t : Nat} {os : OsState} {B : String} {bmB : List Value}
/-- the first field of an error that has no dict yet -/
theorem osa_first {K : Frag} {f : Str} {tk : Tok} {v : Value} {x C : Addr} {fv : Array Value} {cd : ClassData} (SF : StoreFacts B bmB "object.__setattr__" "object") (X : K.In hp)
    (hx : hp.get? x = some { cls := .ref C, data := .fields fv }) (hcd : clsIn K C = some cd) (ho : excOver K C bmB = true) (hh : cd.hasDict = true) (hf : takerIn K C f = some none)
    (hq : ∀ h' tk' dx, (∀ b o, b ≠ x → hp.get? b = some o → h'.get? b = some o) → hp.objs.size ≤ dx → dx ≠ x →
      h'.get? x = some { cls := .ref C, dict := some dx, data := .fields fv } → h'.Ns1 dx (fun y => if y = f then some v else none) → R (.ok (.ret .none)) ⟨h', g, d, tk', os⟩) :
    codeAny (model prog w) A (.call (.builtin "object.__setattr__") ⟨[.ref x, .str f tk, v], []⟩) R ⟨hp, g, d, t, os⟩ := by
  have hne : x ≠ hp.objs.size := fun e => absurd (Heap.lt_size hx) (by rw [← e]; exact Nat.lt_irrefl x)
  have LC : Looks (model prog w) hp (classData C) cd := looks_clsIn X hcd
  refine osa_openX (s := ⟨hp, g, d, t, os⟩) (od := none) SF X ⟨hx, rfl, rfl, trivial⟩ ho hf fun b => ?_
  obtain ⟨c1, c2, c3, c4, c5, c6, c7, c8, c9, c10, c11⟩ := cd
  dsimp only at hh; subst hh
  dsimp only
  unfold storeInOwnDict ownDictForStores
  repeat (first | with_reducible refine HandSPX.store_in_new ?_ ?_ | with_reducible refine wpAny_loadPart_at hx ?_ | with_reducible refine LC.at ?_ | wp_step)
  · exact ⟨_, #[], _, (Heap.get?_update_ne _ _ _ _ hne.symm).trans (Heap.get?_push_at rfl rfl), rfl, fun e he => absurd he (by simp), fun _ => rfl⟩
  · intro h' tk' n1 n2
    refine hq h' tk' hp.objs.size (fun b o q r => ?_) (Nat.le_refl _) hne.symm ?_ n1
    · exact (n2.2 b (Nat.ne_of_lt (Heap.lt_size r))).trans ((Heap.get?_update_ne _ _ _ _ q).trans (Heap.get?_push_of_some _ r))
    · exact (n2.2 x hne).trans (Heap.get?_update_self _ (Heap.get?_push_of_some _ hx) rfl)
end
/-- what is known of a built-in error class -/
structure Bs (B newId initId : String) (bmB : List Value) : Prop where
  fb : ExcBaseFacts B newId initId bmB
  sf : StoreFacts B bmB "object.__setattr__" "object"
theorem bsV : Bs "ValueError" "ValueError.__new__" "ValueError.__init__" [.type "ValueError", .type "Exception", .type "BaseException", .type "object"] := ⟨F.excBase_ValueError, F.store_ValueError⟩
theorem bsL : Bs "LookupError" "LookupError.__new__" "LookupError.__init__" [.type "LookupError", .type "Exception", .type "BaseException", .type "object"] := ⟨F.excBase_LookupError, F.store_LookupError⟩
theorem bsR : Bs "RuntimeError" "RuntimeError.__new__" "RuntimeError.__init__" [.type "RuntimeError", .type "Exception", .type "BaseException", .type "object"] := ⟨F.excBase_RuntimeError, F.store_RuntimeError⟩
theorem bsO : Bs "OverflowError" "OverflowError.__new__" "OverflowError.__init__" [.type "OverflowError", .type "ArithmeticError", .type "Exception", .type "BaseException", .type "object"] := ⟨F.excBase_OverflowError, F.store_OverflowError⟩
/-- an error class of the program, straight over a built-in one -/
structure Own (K : PySem.W.Frag) (newId : String) (bmB : List Value) (C : Addr) : Prop where
  cls : ∃ nm q N bs sn sub ab col dd k0 k1 k2 k3 k5, K.lookup C = some (excClassObj nm q C N bs bmB true sn sub ab col dd k0 k1 k2 k3 k5 newId)
  over : PySem.W.excOver K C bmB = true
  sa : PySem.W.findIn K (.ref C) "__setattr__" = some (some (.builtin "object.__setattr__"))
  ga : PySem.W.findIn K (.ref C) "__getattribute__" = some (some (.builtin "BaseException.__getattribute__"))
  gg : PySem.W.findIn K (.ref C) "__getattr__" = some none
  exC : PySem.W.subIn K (.ref C) (.type "BaseException") = some true
  tyC : PySem.W.typeIn K (.ref C) = some (.type "type")
  kC : PySem.W.keepIn K (.ref C) = true
  hdC : PySem.W.hasDictIn K C = true
  clC : PySem.W.findIn K (.ref C) "__class__" = some (some (.builtin "object.__class__"))
  mrO : PySem.W.mroIn K C (.type "object") = some true
theorem Own.data {K : PySem.W.Frag} {newId : String} {bmB : List Value} {C : Addr} (T : Own K newId bmB C) : ∃ cd, PySem.W.clsIn K C = some cd ∧ cd.hasDict = true := by
  obtain ⟨nm, q, N, bs, sn, sub, ab, col, dd, k0, k1, k2, k3, k5, e⟩ := T.cls
  refine ⟨{ name := nm, bases := bs, mro := .ref C :: bmB, ns := N, qualname := q, hasDict := true, slotNames := sn, subclasses := sub, abstract := ab, collection := col, hasDel := false }, ?_, rfl⟩
  unfold PySem.W.clsIn
  rw [e] <;> rfl
theorem taker_of {K : PySem.W.Frag} {C : Addr} {f : Str} (h : PySem.W.findIn K (.ref C) f = some none) : PySem.W.takerIn K C f = some none := by
  unfold PySem.W.takerIn
  rw [h]; rfl
section
variable {X : Cx} {pins : List (Addr × Obj)} {σ : L2.St} {H H1 H2 : Hp} {s : Shared} {a C dx : Addr} {f : Str} {newId initId B : String} {bmB : List Value}
/-- an object that stands in the heap, untracked and not of the entry, is tracked from now on -/
theorem adopt {o : HO} (I : Inv X pins σ H s) (hn : H a = none) (n0 : X.s_0.heap.get? a = none) (nL : a ≠ X.env.locals) (nC : ∀ x c, X.env.cells.lookup x = some c → c ≠ a) (nP : ∀ p ∈ X.pn ++ pins, p.1 ≠ a)
    (new : ObjOk X.prog X.w (upd H a o) s.heap a o) : Inv X pins σ (upd H a o) s := by
  have up : ∀ {b : Addr} {u : HO}, H b = some u → upd H a o b = some u := fun {b u} e => by rw [upd_ne (ne_of_none e hn)]; exact e
  refine ⟨I.ok, I.os, I.bare, ⟨I.base.keep, I.base.slot, fun b q e n x => ?_, I.base.there, fun b xs e => up (I.base.tups b xs e), fun b q u e => up (I.base.frzs b q u e), fun b ps e => ?_⟩, I.loc, I.cell, ?_, fun x c e => ?_, fun p hp => ?_, fun b u e => ?_, I.len⟩
  · rw [upd_ne (fun z => by rw [z, n0] at e; cases e)]
    exact I.base.free b q e n x
  · obtain ⟨m, z⟩ := I.base.tbls b ps e
    exact ⟨m, up z⟩
  · rw [upd_ne (Ne.symm nL)]; exact I.free
  · rw [upd_ne (nC x c e)]; exact I.freeC x c e
  · obtain ⟨e, n, r⟩ := I.pin p hp
    exact ⟨e, by rw [upd_ne (nP p hp)]; exact n, r⟩
  · by_cases hb : b = a
    · subst hb
      rw [upd_same] at e; cases e
      exact new
    · rw [upd_ne hb] at e
      exact (I.hok b u e).stay (fun _ _ _ z => z) (fun c z => up z) (fun c xs z => up z)
theorem low_ne {n : Nat} {b a : Addr} (h : b < n) (h' : n ≤ a) : b ≠ a := Nat.ne_of_lt (Nat.lt_of_lt_of_le h h')
theorem get_lt_size {h : Heap} {b : Addr} {o : Obj} (e : h.get? b = some o) : b < h.objs.size := Heap.lt_size e
/-- self.f = y -/
theorem ost_one {y : V} {u : Value} {Q : Unit → Shared → Prop} {E : Value → Shared → Prop} {A : Around} (T : Own X.K newId bmB C) (SF : StoreFacts B bmB "object.__setattr__" "object") (I : Inv X pins σ H s) (e : H a = some (exo a C none)) (hno : PySem.W.findIn X.K (.ref C) f = some none) (ry : RelV y u)
    (h : ∀ dx s', H dx = none → dx ≠ a → Inv X pins σ (upd (upd H a (exo a C (some dx))) dx (exd dx [(f, y)])) s' → Q () s') : wpAny (model X.prog X.w) A (setAttr (.ref a) f u) Q E s := by
  obtain ⟨cd, hcd, hh⟩ := T.data
  obtain ⟨t1, ho⟩ := exo_at I.hok e
  obtain ⟨hp, g, d, t, os⟩ := s
  refine PySem.W.set_plain I.kIn (ox := { cls := .ref C, dict := none, data := .fields #[.ref t1, .none, .none, .none, .bool false, .none] }) (od := none) ⟨ho, rfl, rfl, trivial⟩ T.sa ?_
  refine osa_first SF I.kIn ho hcd T.over hh (taker_of hno) fun h' tk' dx k dn dne hx hns => ?_
  have hnd : H dx = none := I.hok.fresh dn
  have J := I.write (t' := tk') (x := a) (e := a) (o := exo a C (some dx)) (by rw [e]; exact True.intro) (.inl rfl) k ⟨_, hx⟩ (exo_ok hx)
  refine h dx _ hnd dne (adopt J (by rw [upd_ne dne]; exact hnd) ?_ ?_ ?_ ?_ (exd_ok hns (relO_put (fs := []) ry fun _ => True.intro)))
  · cases z : X.s_0.heap.get? dx with
    | none => rfl
    | some o => exact absurd rfl (low_ne (Nat.lt_of_lt_of_le (Heap.lt_size z) I.sz) dn)
  · exact Ne.symm (low_ne I.lt dn)
  · intro x c ec
    obtain ⟨v, ob, eo, _⟩ := I.cell x c ec
    exact low_ne (Heap.lt_size eo) dn
  · intro p hp'
    exact low_ne (Heap.lt_size (I.pin p hp').1) dn
/-- B.__init__(self, ..) -/
theorem oinit_any {us : List Value} {Q : Value → Shared → Prop} {E : Value → Shared → Prop} {A : Around} (T : Own X.K newId bmB C) (F : ExcBaseFacts B newId initId bmB) (I : Inv X pins σ H s) (e : H a = some (exo a C none)) (hl : us.length ≤ sizeLine) (h : ∀ s', Inv X pins σ H s' → Q .none s') :
    wpAny (model X.prog X.w) A (call (.builtin initId) (.ref a :: us)) Q E s := by
  obtain ⟨nm, q, N, bs, sn, sub, ab, col, dd, k0, k1, k2, k3, k5, hC⟩ := T.cls
  obtain ⟨t1, ho⟩ := exo_at I.hok e
  obtain ⟨hp, g, d, t, os⟩ := s
  refine wpAny_call (HandSPX.init_base F (fun _ => rfl) (I.kIn _ _ hC) ho hl fun h' t2 k hx => ?_)
  have J := I.write (t' := t) (x := a) (e := a) (o := exo a C none) (by rw [e]; exact True.intro) (.inl rfl) k ⟨_, hx⟩ (exo_ok hx)
  have eu : upd H a (exo a C none) = H := by
    funext b
    unfold upd
    split
    · rename_i z; rw [z, e]
    · rfl
  rw [eu] at J
  exact h _ J
def tBi (K : PySem.W.Frag) (newId : String) (bmB : List Value) (ta : TA) : TE := fun σ H Q => ta σ H fun vs H1 => ∃ (a C : Addr) (ws : List V), vs = .ref a :: ws ∧ ws.length ≤ 1000 ∧ Own K newId bmB C ∧ H1 a = some (exo a C none) ∧ Q .non H1
def tOs (K : PySem.W.Frag) (newId : String) (bmB : List Value) (f : Str) (to te : TE) : TS := fun D σ H => te σ H fun y H1 => to σ H1 fun x H2 => ∃ a C : Addr, x = .ref a ∧ Own K newId bmB C ∧ PySem.W.findIn K (.ref C) f = some none ∧ H2 a = some (exo a C none) ∧
  ∀ dx, H2 dx = none → dx ≠ a → D.nx σ (upd (upd H2 a (exo a C (some dx))) dx (exd dx [(f, y)]))
theorem pe_binit {n : Str} {o e : Expr} {es : List Expr} {ta : TA} {p1 p2 pos : Pos} {pl : Sem Bool} (F : ExcBaseFacts B newId initId bmB) (hg : Gl X n) (hm : X.mg n = none) (hv : bootBuiltins n = some (.type B)) (hn : n ≠ "__name__") (hdb : (n == ("__debug__" : Str)) = false)
    (hty : typeOf (.type B) = pure (.type "type")) (hst : Manifest.isStub B = false) (hha : PySem.W.handedIn (.builtin initId) = true) (vV : PySem.W.findCls X.K (.type B) (.type "type") "__init__" = some (.val (.builtin initId))) (ha : PA X (e :: es) ta)
    (hc : eval (.Call (.Attribute (.Name n p1) "__init__" p2) (e :: es) [] pos) X.env = (do
      let ov ← eval (.Name n p1) X.env
      standAt p2.atName
      let (f, first) ← holding [ov] (getMethod ov "__init__" pl)
      callWith pos f first (backTo pos (starEach (e :: es) X.env)) (backToKw pos (keywordEach [] X.env))) := by rfl)
    (he : starEach (e :: es) X.env = (false, eval e X.env) :: starEach es X.env := by rfl) (hpl : (backTo pos (starEach es X.env)).any (·.1) = false := by rfl) :
    PE X (.Call (.Attribute (.Name n p1) "__init__" p2) (e :: es) [] pos) (tBi X.K newId bmB ta) := by
  refine ⟨fun pins s σ H Q I h => PySem.W.methodCall_KW (ld_blt I hg hm hv ?_ hn hdb) hc⟩
  obtain ⟨m, fr⟩ := I.fr
  refine PySem.W.method_type fr I.ok.mod.kin hty hst vV hha ?_
  show wpAny _ _ (callWith pos (Value.builtin initId) [] (backTo pos (starEach (e :: es) X.env)) []) _ _ _
  refine PyProof.Rows.callWith_method1 (thn (ha.run pos pins _ σ H _ (I.tok _) h) fun us s1 ⟨vs, H1, I1, r1, a, C, ws, ev, hl, T, ea, q⟩ => ?_) he hpl
  subst ev
  cases r1 with
  | @cons _ u0 _ ur ra rr =>
    obtain rfl : u0 = Value.ref a := ra
    exact oinit_any T F I1 ea (by rw [← Paired.length rr, sizeLine_eq]; omega) fun s' J => ⟨.non, H1, J, rfl, q⟩
theorem ps_os {o e : Expr} {to te : TE} {p' pos : Pos} (SF : StoreFacts B bmB "object.__setattr__" "object") (ho : PE X o to) (he : PE X e te) (hs : swapsWith e (some (.Attribute o f p')) pos.line X.env = pure false := by rfl) : PS X (.Assign [.Attribute o f p'] e pos) (tOs X.K newId bmB f to te) := by
  refine ⟨fun pins s σ H D I h => plainObj_wpAny_Assign_Attribute (thn (he.run pins s σ H _ I h) fun v s1 ⟨y, H1, I1, r1, q1⟩ => thn (ho.run pins s1 σ H1 _ I1 q1) fun u s2 ⟨x, H2, I2, r2, a, C, ex, T, hno, ea, q⟩ => ?_) hs⟩
  subst ex
  obtain rfl : u = Value.ref a := r2
  exact ost_one T SF I2 ea hno r1 fun dx s' n ne J => ⟨σ, _, J, q dx n ne⟩
/-- the new error is let go: the heap without it -/
theorem mk_gone {hp hp2 h2 : Heap} {g1 g2 : Array GenState} {d1 d2 : Drawn} {t1 t2 : Nat} {os1 os2 : OsState} {dv : Option Addr} (I1 : Inv X pins σ H1 ⟨hp, g1, d1, t1, os1⟩)
    (ha : hp.objs.size ≤ a) (k : ∀ b o, hp.get? b = some o → hp2.get? b = some o) (un : Un (frs X.stack) [] (upd H1 a (exo a C none)) H2 hp2 h2) (hok : HOk X.prog X.w H2 h2) (ho : os2 = os1) (hb : AllBare g2) (ea : H2 a = some (exo a C dv)) :
    ∃ (t0 : Addr) (G : Heap), Inv X pins σ (del H2 a) ⟨G, g2, d2, t2, os2⟩ ∧ (∀ b o, G.get? b = some o → h2.get? b = some o) ∧ G.get? a = none ∧
      h2.get? a = some ({ cls := .ref C, dict := dv, data := .fields #[.ref t0, .none, .none, .none, .bool false, .none] } : Obj) := by
  obtain ⟨t0, hoe⟩ := exo_at hok ea
  have hn : H1 a = none := I1.hok.fresh ha
  obtain ⟨G, g1', g2'⟩ := restrict h2 fun b => decide (b ≠ a)
  have gk : ∀ b, b ≠ a → G.get? b = h2.get? b := fun b q => g1' b (decide_eq_true q)
  have ga : G.get? a = none := g2' a (decide_eq_false (fun z => z rfl))
  have na : ∀ {b : Addr} {o : Obj}, hp.get? b = some o → b ≠ a := fun q => low_ne (Heap.lt_size q) ha
  have up : ∀ {b : Addr}, b ≠ a → H1 b = none → upd H1 a (exo a C none) b = none := fun q n => by rw [upd_ne q]; exact n
  have tr : ∀ {b : Addr} {u : HO}, H1 b = some u → upd H1 a (exo a C none) b = some u ∧ b ≠ a := fun q => ⟨by rw [upd_ne (ne_of_none q hn)]; exact q, ne_of_none q hn⟩
  have U : Un (frs X.stack) [] H1 (del H2 a) hp G := {
    keep := fun b o z n hf hx => by rw [gk b (na z)]; exact un.keep b o (k b o z) (up (na z) n) hf hx
    slot := fun b o z n hf hx => by rw [gk b (na z)]; exact un.slot b o (k b o z) (up (na z) n) hf hx
    free := fun b o z n hx => by rw [del_ne (na z)]; exact un.free b o (k b o z) (up (na z) n) hx
    there := fun b o z hx => by rw [gk b (na z)]; exact un.there b o (k b o z) hx
    tups := fun b xs z => by rw [del_ne (tr z).2]; exact un.tups b xs (tr z).1
    frzs := fun b o v z => by rw [del_ne (tr z).2]; exact un.frzs b o v (tr z).1
    tbls := fun b ps z => by rw [del_ne (tr z).2]; exact un.tbls b ps (tr z).1 }
  have hok3 : HOk X.prog X.w (del H2 a) G := fun b o z => by
    have hba : b ≠ a := fun e => by rw [e, del_same] at z; cases z
    rw [del_ne hba] at z
    have noa : ∀ {c : Addr}, H2 c = some (.own b) → c ≠ a := fun hc => at_ne ea hc exo_own
    refine (hok b o z).stay (fun c v hc y => ?_) (fun c hc => by rw [del_ne (noa hc)]; exact hc) (fun c xs hc => by rw [del_ne (at_ne ea hc exo_tup)]; exact hc)
    have hca : c ≠ a := hc.elim (fun q => by rw [q]; exact hba) noa
    rw [gk c hca]; exact y
  have J : Inv X pins σ (del H2 a) ⟨G, g2, d2, t2, os2⟩ := I1.call' (ch := []) ho U hok3 hb (fun b z => absurd z (by simp))
  refine ⟨t0, G, J, fun b o z => ?_, ga, hoe⟩
  by_cases hba : b = a
  · rw [hba, ga] at z; cases z
  · exact (gk b hba).symm.trans z
/-- C(e, ..), C's own __init__ keeping sp -/
def tMkE (C : Addr) (sp : Sp) (ta : TA) : L2.St → Hp → XK → Prop := fun σ H Q => ta σ H fun vs H1 => vs.length ≤ 1000 ∧ ∀ a, H1 a = none → sp (.ref a :: vs) (upd H1 a (exo a C none))
  (fun v H2 => v = .non ∧ ((H2 a = some (exo a C none) ∧ Q (.ref C) none (del H2 a)) ∨ ∃ (d : Addr) (fs : List (Str × V)), H2 a = some (exo a C (some d)) ∧ H2 d = some (exd d fs) ∧ Q (.ref C) (some d) (upd (del H2 a) d (.xd fs)))) (fun _ _ _ => False)
/-- what such a call leaves -/
theorem made_run {vs : List V} {us : List Value} {fI : Addr} {k : Nat} {fd : FuncData} {ps : List Str} {sp : Sp} {Q : XK} {CX : CXT} (T : Own X.K newId bmB C) (F : ExcBaseFacts B newId initId bmB) (iC : PySem.W.findIn X.K (.ref C) "__init__" = some (some (.ref fI))) (tI : PySem.W.typeIn X.K (.ref fI) = some (.type "function"))
    (F1 : FnOk X.prog X.w X.K X.mg X.base CX k fI fd ps sp) (hr : Room (k + 1) X.A) (hb : Binds X.K fd ps []) (hx : Passes CX X (fun _ _ _ => False)) (I1 : Inv X pins σ H1 s) (r1 : Vals vs us) (hz : vs.length ≤ 1000)
    (q1 : ∀ a, H1 a = none → sp (.ref a :: vs) (upd H1 a (exo a C none)) (fun v H2 => v = .non ∧ ((H2 a = some (exo a C none) ∧ Q (.ref C) none (del H2 a)) ∨ ∃ (d : Addr) (fs : List (Str × V)), H2 a = some (exo a C (some d)) ∧ H2 d = some (exd d fs) ∧ Q (.ref C) (some d) (upd (del H2 a) d (.xd fs)))) (fun _ _ _ => False)) :
    wpAny (model X.prog X.w) X.A (call (.ref C) us) (MkP X pins σ Q) X.xe s := by
  obtain ⟨nm, q, N, bs, sn, sub, ab, col, dd, k0, k1, k2, k3, k5, hC⟩ := T.cls
  obtain ⟨hp, g, dr, tk, os⟩ := s
  have hsz : hp.objs.size ≤ hp.objs.size + 1 := Nat.le_succ _
  have hq := q1 (hp.objs.size + 1) (I1.hok.fresh hsz)
  obtain ⟨hp2, ehp⟩ : ∃ hp2, hp2 = (hp.push (PySem.W.kdv_tup us)).push (HandSPX.excO C hp.objs.size) := ⟨_, rfl⟩
  have kk : ∀ b o, hp.get? b = some o → hp2.get? b = some o := fun b o e => by rw [ehp]; exact Heap.get?_push_of_some _ (Heap.get?_push_of_some _ e)
  have hget : hp2.get? (hp.objs.size + 1) = some (HandSPX.excO C hp.objs.size) := by rw [ehp]; heap_get
  have I2 : Inv X pins σ (upd H1 (hp.objs.size + 1) (exo (hp.objs.size + 1) C none)) ⟨hp2, g, dr, tk, os⟩ := I1.laid (t' := tk) kk hsz (exo_ok hget)
  have r2 : Vals (V.ref (hp.objs.size + 1) :: vs) (Value.ref (hp.objs.size + 1) :: us) := .cons rfl r1
  have hl : (Value.ref (hp.objs.size + 1) :: us ++ []).length = ps.length := by
    rw [List.append_nil, ← r2.length]; exact F1.len _ _ _ _ hq
  have hus : us.length ≤ sizeLine := by rw [← Paired.length r1, sizeLine_eq]; omega
  refine wpAny_call (HandSPX.call_own F (fun _ => rfl) (I1.kIn _ _ hC) (PySem.W.looks_findIn I1.kIn iC) (fun self => PySem.W.bind_fn I1.kIn self tI) hus ?_)
  rw [← ehp]
  refine codeAny_mono (F1.run _ X.stack _ _ ⟨Value.ref (hp.objs.size + 1) :: us, []⟩ (Value.ref (hp.objs.size + 1) :: us) _ _ (fun _ _ _ => False) (hr.make C us []) (I2.env0.make C us []) ?_ r2 hq) fun r s' hq' => ?_
  · have z := hb ⟨hp2, g, dr, tk, os⟩ (Value.ref (hp.objs.size + 1) :: us) I2.kIn hl
    rw [List.append_nil] at z; exact z
  cases r with
  | error er => exact hx pins σ _ _ er s' I2 hq'
  | ok fl =>
    cases fl with
    | ret u =>
      obtain ⟨v, H2, os2, bare2, un2, hok2, rv, ev, alt⟩ := hq'
      subst ev
      obtain ⟨h2, g2, d2, t2, os'⟩ := s'
      refine ⟨rv, ?_⟩
      rcases alt with ⟨ea, q2⟩ | ⟨d, fs, ea, ed, q2⟩
      · obtain ⟨t0, G, J, kG, ge, hoe⟩ := mk_gone (d2 := d2) (t2 := t2) I1 hsz kk un2 hok2 os2 bare2 ea
        exact ⟨_, _, _, ⟨G, g2, d2, t2, os'⟩, _, .ref C, none, rfl, J, kG, ge, hoe, ⟨rfl, rfl⟩, rfl, rfl, del_same, rfl, bare2, raises_own T.exC T.tyC, q2⟩
      · obtain ⟨t0, G, J, kG, ge, hoe⟩ := mk_gone (d2 := d2) (t2 := t2) I1 hsz kk un2 hok2 os2 bare2 ea
        have hda : d ≠ hp.objs.size + 1 := fun z => by
          rw [z] at ed
          obtain ⟨mA, ⟨ob, es, ep, e1, e2, _⟩, _⟩ := exd_at hok2 ed
          rw [hoe] at e1
          have z2 := Option.some.inj e1
          subst z2
          cases e2
        have ed' : del H2 (hp.objs.size + 1) d = some (exd d fs) := by rw [del_ne hda]; exact ed
        obtain ⟨mA, ns, rel⟩ := exd_at J.hok ed'
        have J2 := J.write (t' := t2) (h' := G) (x := d) (e := d) (o := .xd fs) (by rw [ed']; exact True.intro) (.inl rfl) (fun _ _ _ z => z) (by obtain ⟨ob, _, _, e1, _⟩ := ns; exact ⟨ob, e1⟩) ⟨mA, ns, rel⟩
        exact ⟨_, _, _, ⟨G, g2, d2, t2, os'⟩, _, .ref C, some d, rfl, J2, kG, ge, hoe, ⟨rfl, rfl⟩, rfl, rfl, by rw [upd_ne (Ne.symm hda)]; exact del_same, rfl, bare2, raises_own T.exC T.tyC, q2⟩
    | next => exact False.elim hq'
    | brk => exact False.elim hq'
    | cont => exact False.elim hq'
theorem pmk_e {x : Str} {fI : Addr} {k : Nat} {fd : FuncData} {ps : List Str} {sp : Sp} {CX : CXT} {e : Expr} {es : List Expr} {ta : TA} {p pos : Pos} (T : Own X.K newId bmB C) (F : ExcBaseFacts B newId initId bmB) (iC : PySem.W.findIn X.K (.ref C) "__init__" = some (some (.ref fI))) (tI : PySem.W.typeIn X.K (.ref fI) = some (.type "function"))
    (F1 : FnOk X.prog X.w X.K X.mg X.base CX k fI fd ps sp) (hr : Room (k + 1) X.A) (hb : Binds X.K fd ps []) (hx : Passes CX X (fun _ _ _ => False)) (hg : Gl X x) (hm : X.mg x = some (.ref C)) (ha : PA X (e :: es) ta)
    (hdb : (x == ("__debug__" : Str)) = false := by decide) (he : starEach (e :: es) X.env = (false, eval e X.env) :: starEach es X.env := by rfl) (hpl : (backTo pos (starEach es X.env)).any (·.1) = false := by rfl) :
    PMk X (.Call (.Name x p) (e :: es) [] pos) (tMkE C sp ta) := by
  intro pins s σ H Q I h
  refine wpAny_Call_Name_kw (ld_glob I hg hm ?_ hdb)
  exact PySem.W.callWith_K (h₀ := X.base) I.ok.mod.kin T.kC (thn (ha.run pos pins s σ H _ I h) fun us s1 ⟨vs, H1, I1, r1, hz, q1⟩ => ⟨I1.kIn, made_run T F iC tI F1 hr hb hx I1 r1 hz q1⟩) he hpl
end
end Pc
namespace Pc
open PySem PySem.Spec PyProof.Rows L2 RZ
/-! ### errors of the program: caught, kept, looked at -/
section
open PySem.W
variable {M : Model} {K : Frag} {h : Heap}
theorem Looks.bind' {α β : Type} {x : Sem α} {f : α → Sem β} {a : α} {b : β} (hx : Looks M h x a) (hf : Looks M h (f a) b) : Looks M h (x >>= f) b := fun A Q E s k q =>
  wpAny_bind (hx A _ E s k (hf A Q E s k q))
theorem loop_all {α β : Type} {f : α → β → Sem (ForInStep β)} {b : β} : ∀ cs : List α, (∀ c ∈ cs, Looks M h (f c b) (.yield b)) → Looks M h (forIn cs b f) b
  | [], _ => by rw [List.forIn_nil]; exact .now
  | c :: cs, hc => by
    rw [List.forIn_cons]
    exact Looks.bind' (hc c List.mem_cons_self) (loop_all cs fun c' h' => hc c' (List.mem_cons_of_mem _ h'))
theorem loop_any {α β : Type} {f : α → β → Sem (ForInStep β)} {b b1 : β} : ∀ (bs : List Bool) (cs : List α), bs.length = cs.length → bs.any id = true → (∀ (i : Nat) (c : α) (y : Bool), cs[i]? = some c → bs[i]? = some y → Looks M h (f c b) (if y = true then .done b1 else .yield b)) → Looks M h (forIn cs b f) b1
  | [], [], _, e, _ => absurd e (by decide)
  | y :: bs, c :: cs, hl, e, hc => by
    rw [List.forIn_cons]
    have h0 := hc 0 c y rfl rfl
    cases y with
    | true => exact Looks.bind' h0 .now
    | false => exact Looks.bind' h0 (loop_any bs cs (Nat.succ.inj hl) e fun i c' y' h1 h2 => hc (i + 1) c' y' h1 h2)
/-- an except clause with several classes, of which one is the error's -/
theorem exm_some {cls : Value} {cs : List Value} {tp e : Addr} {o : Obj} {n : Nat} (X : K.In h) (LT : Looks M h (typeOf (.ref e)) cls) (hp : h.get? tp = some o) (hc : o.cls = .type "tuple") (hd : o.data = .seq cs.toArray n) (bs : List Bool) (hl : bs.length = cs.length) (hb : bs.any id = true)
    (hx : ∀ (i : Nat) (c : Value) (y : Bool), cs[i]? = some c → bs[i]? = some y → exmOne K cls c = some y) : Looks M h (excMatches (.ref e) (.ref tp)) true := by
  have at_ : ∀ c ∈ cs, ∃ y, exmOne K cls c = some y := fun c hm => by
    obtain ⟨i, hi, rfl⟩ := List.getElem_of_mem hm
    exact ⟨bs[i]'(by omega), hx i _ _ (List.getElem?_eq_getElem hi) (List.getElem?_eq_getElem _)⟩
  have L0 : Looks M h (isInstance (.ref tp) (.type "tuple")) true := fun A Q E s k q => by
    refine wpAny_bind (wpAny_typeOf_ref (k _ _ hp) ?_)
    rw [hc]
    exact (Looks.of_pure isSubtype_tuple_tuple) A Q E s k q
  unfold excMatches
  refine Looks.bind' L0 ?_
  dsimp only
  rw [if_pos rfl]
  refine Looks.bind' (a := some cs.toArray) (fun A Q E s k q => wpAny_seqItems (k _ _ hp) hd q) ?_
  refine Looks.bind' (a := cs) .now ?_
  refine Looks.bind' (a := PUnit.unit) (loop_all cs fun c hm => ?_) ?_
  · obtain ⟨y, hy⟩ := at_ c hm
    refine Looks.bind' (exm_cls X hy).1 ?_
    exact .now
  refine Looks.bind' LT ?_
  refine Looks.bind' (loop_any (b1 := (some true, ())) bs cs hl hb fun i c y h1 h2 => Looks.bind' (exm_cls X (hx i c y h1 h2)).2 ?_) ?_
  · cases y <;> exact .now
  · exact .now
end
end Pc
namespace Pc
open PySem PySem.Spec PyProof.Rows L2 RZ
/-- an error that was caught and is kept: its class, its dict -/
def exk (a : Addr) (cls : Value) (d : Option Addr) : HO := .ext fun h => ∃ (oe : Obj) (vs : Array Value), h.get? a = some oe ∧ Zc cls d oe ∧ oe.data = .fields vs
theorem exk_ok {P : Program} {w : World} {H : Hp} {h : Heap} {a : Addr} {cls : Value} {d : Option Addr} {oe : Obj} {vs : Array Value} (e : h.get? a = some oe) (z : Zc cls d oe) (q : oe.data = .fields vs) : ObjOk P w H h a (exk a cls d) :=
  ⟨⟨oe, vs, e, z, q⟩, ⟨oe, e⟩, fun _ _ ⟨o, v, r, r'⟩ k => ⟨o, v, k o r, r'⟩⟩
theorem exk_at {P : Program} {w : World} {H : Hp} {h : Heap} {a : Addr} {cls : Value} {d : Option Addr} (hok : HOk P w H h) (e : H a = some (exk a cls d)) : ∃ (oe : Obj) (vs : Array Value), h.get? a = some oe ∧ Zc cls d oe ∧ oe.data = .fields vs := by
  have x : ObjOk P w H h a (.ext fun h => ∃ (oe : Obj) (vs : Array Value), h.get? a = some oe ∧ Zc cls d oe ∧ oe.data = .fields vs) := hok a _ e
  exact x.1
theorem fly_keeps {B h h' : Heap} {l : List PySem.Env} {e : Addr} {Z : Obj → Prop} (R : HandSPX.FlyingZ B l e Z h) (k : ∀ b o, h.get? b = some o → h'.get? b = some o) : HandSPX.FlyingZ B l e Z h' := by
  obtain ⟨f1, f2, f3, oe, ws, T, oT, ts, r1, r2, r3, r4, r5, r6, r7, r8⟩ := R
  exact ⟨fun b o q => k b o (f1 b o q), f2, f3.of_keeps fun b o q _ => ⟨o, k b o q, rfl⟩, oe, ws, T, oT, ts, k _ _ r1, r2, r3, r4, r5, r6, k _ _ r7, r8⟩
/-- names of classes, one by one -/
def NamesAll (X : Cx) (es : List Expr) (cs : List Value) : Prop := Paired (fun (e : Expr) c => ∃ (x : Str) (p : Pos), e = .Name x p ∧ Names X x c) es cs
theorem names_run {X : Cx} {pins : List (Addr × Obj)} {σ : L2.St} {H : Hp} {s : Shared} {E : Value → Shared → Prop} {pos : Pos} (I : Inv X pins σ H s) :
    ∀ {es : List Expr} {cs : List Value} {Q : List Value → Shared → Prop}, NamesAll X es cs → Q cs s → wpAny (model X.prog X.w) X.A (spliced (backTo pos (starEach es X.env))) Q E s
  | _, _, _, .nil, q => wpAny_items_nil q
  | _, _, _, .cons ⟨x, p, rfl, hg, hdb, hm⟩ r, q => by
    refine wpAny_items_cons ?_
    rcases hm with hm | ⟨hm, hv, hn⟩
    · exact ld_glob I hg hm (names_run I r q) hdb
    · exact ld_blt I hg hm hv (names_run I r q) hn hdb
/-- of which classes the error is -/
def Hits (K : PySem.W.Frag) (cls : Value) (cs : List Value) : Prop := ∃ bs : List Bool, bs.length = cs.length ∧ bs.any id = true ∧ ∀ (i : Nat) (c : Value) (y : Bool), cs[i]? = some c → bs[i]? = some y → PySem.W.exmOne K cls c = some y
/-- what 'except (..) as n: suite' wishes of an error of the body (slot i is n's): the error is kept -/
def wKept (K : PySem.W.Frag) (cs : List Value) (i : Nat) (ts : Addr → TS) (D : Ends) : WX := fun cls d σ H => Hits K cls cs ∧ ∀ a, H a = none →
  ts a { nx := fun σ' H' => D.nx (σ'.set i none) (upd H' a (exk a cls d)), rt := fun _ _ => False } (σ.set i (some (.ref a))) H
section
variable {X : Cx} {n : Str} {i : Nat} {body suite : List Stmt} {b₀ : Stmt} {es : List Expr} {cs : List Value} {kk : Nat} {tpos pos pos' : Pos} {tb : WX → TS} {ts : Addr → TS}
theorem ps_try_kept (hex : X.ex = []) (hs : X.stack = X.env :: X.outer) (hf : X.env.frame = some X.env.locals) (hN : X.N.Nodup) (hi : X.N[i]? = some n) (hln : X.env.kindOf n = some .local) (hc : NamesAll X es cs) (hcl : cs.length ≤ 1000)
    (hb : ∀ (W : WX) (pn : List (Addr × Obj)) (xe : Value → Shared → Prop), Takes (X.tr pn xe) W → PassesOwn (model X.prog X.w) X.A X.env xe → PSs (X.tr pn xe) body (tb W))
    (hsu : ∀ (a : Addr) (oe : Obj) (pn : List (Addr × Obj)), PSs (X.suite a ((a, oe) :: pn)) (b₀ :: suite) (ts a)) :
    PS X (.Try body [.ExceptHandler (some (.Tuple es kk tpos)) (some n) (b₀ :: suite) pos'] [] [] pos) (fun D σ H => tb (wKept X.K cs i ts D) D σ H) := by
  refine ⟨fun pins s σ H D I h => ?_⟩
  have ok := I.ok
  have hfr : X.A.frames = some (X.env :: X.outer) := by rw [ok.frames, hs]
  refine wpAny_Try_except (wpAny_mono ((hb (wKept X.K cs i ts D) (X.pn ++ pins) (fun e s₁ => wpAny (model X.prog X.w) X.A (noteFrame e X.env) (fun _ s₂ => wpAny (model X.prog X.w) X.A (setFlight e none) (fun _ s₃ =>
    wpAny (model X.prog X.w) X.A (handleBy e X.env [.ExceptHandler (some (.Tuple es kk tpos)) (some n) (b₀ :: suite) pos']) (SP X pins D) X.xe s₃) X.xe s₂) X.xe s₁) (fun u s' xx => ?_) PassesOwn.looking).run [] s σ H D (I.toTry _) h) (fun f s1 hsp => ?_) (fun e s1 he => he))
  · obtain ⟨a, B, sI, pins', σ', H', cls, d, rfl, J', nb, up, sky, na, os, ag, ⟨bs, hbl, hba, hbx⟩, hyes⟩ := xx
    have J : Inv X pins σ' H' sI := J'.ofTry ok
    rw [hs] at sky
    show wpAny (model X.prog X.w) X.A (noteFrame (.ref a) X.env) _ _ _
    refine Sky.land Zc.steady hfr hf sky fun h3 fl3 up3 => ?_
    obtain ⟨oe3, vs3, he3, hz3, hd3⟩ := fl3.there
    have nfr : a ∉ frs (X.env :: X.outer) := fun hm => by
      obtain ⟨_, o', e', hnf⟩ := fl3.2.2.1.mem hm
      rw [he3] at e'; cases e'
      exact hnf _ hd3
    have nL : a ≠ X.env.locals := fun z => nfr (List.mem_filterMap.mpr ⟨X.env, List.mem_cons_self, by rw [hf, z]⟩)
    have nF : a ∉ X.fs := fun hm => by
      obtain ⟨e, he, q⟩ := List.mem_filterMap.mp hm
      exact nfr (List.mem_filterMap.mpr ⟨e, List.mem_cons_of_mem _ he, q⟩)
    have nI : sI.heap.get? a = none := by
      cases z : sI.heap.get? a with
      | none => rfl
      | some o =>
        have y := nb a o z (by rw [hs]; exact nfr)
        rw [fl3.2.1] at y; cases y
    have J3 : Inv X pins σ' H' { s' with heap := h3 } := J.landed nb fl3.1 (up.trans up3) os ag
    have S3 := J3.suite he3 hd3 na nL nF
    refine wpAny_handleBy_cons (codeAny_handlers_test (wpAny_Tuple_spliced (names_run (X := X.suite a ((a, oe3) :: (X.pn ++ pins))) (cs := cs) S3 (L2.Paired.mapP hc fun _ _ z => z) ⟨by rw [sizeLine_eq]; omega, ?_⟩))) (by intro q; cases q)
    dsimp only
    have kp : ∀ b o, h3.get? b = some o → (h3.push { cls := .type "tuple", data := .seq cs.toArray }).get? b = some o := fun _ _ z => Heap.get?_push_of_some _ z
    have LT : PySem.W.Looks (model X.prog X.w) (h3.push { cls := .type "tuple", data := .seq cs.toArray }) (typeOf (.ref a)) cls := fun A Q E s k q => wpAny_typeOf_ref (k _ _ (kp _ _ he3)) (by rw [hz3.1]; exact q)
    refine (exm_some (J3.kIn.keeps kp) LT (Heap.get?_push_size h3 rfl) rfl rfl bs hbl hba hbx).here ?_
    refine codeAny_handlers_suite_as (HandSPX.lands_againZ (fly_keeps fl3 kp) fun h4 fl4 up4 => ?_)
    have J4 : Inv X pins σ' H' { s' with heap := h4 } := J.landed nb fl4.1 (((up.trans up3).trans (Heap.UpToSlots.of_keeps kp)).trans up4) os ag
    obtain ⟨oe4, vs4, he4, hz4, hd4⟩ := fl4.there
    have S4 := J4.suite he4 hd4 na nL nF
    refine store_ok (X := X.suite a ((a, oe4) :: (X.pn ++ pins))) (v := .ref a) S4 hN hi (.inl hln) rfl (fun s5 S5 => ?_) (.inr hln)
    refine wpAny_mono ((hsu a oe4 (X.pn ++ pins)).run [] s5 _ H' _ S5 (hyes a na)) (fun f s6 hsp => ?_) (fun _ _ z => False.elim z)
    cases f with
    | next =>
      obtain ⟨σ6, H6, S6, q6⟩ := hsp
      refine gone_ok (X := X.suite a ((a, oe4) :: (X.pn ++ pins))) S6 hN hi hln fun s7 S7 => ⟨_, _, adopt (S7.unsuite ok) ?_ ?_ nL ?_ ?_ ?_, q6⟩
      · exact (S7.pin (a, oe4) (List.mem_append_left _ List.mem_cons_self)).2.1
      · cases z : X.s_0.heap.get? a with
        | none => rfl
        | some o =>
          obtain ⟨o', y⟩ := J.base.there a o z (by rw [hex]; exact fun q => nomatch q)
          rw [nI] at y; cases y
      · intro x c ec z
        obtain ⟨v, ob, eo, _⟩ := J.cell x c ec
        rw [z, nI] at eo; cases eo
      · intro p hp z
        have y := (J.pin p hp).1
        rw [z, nI] at y; cases y
      · exact exk_ok (S7.pin (a, oe4) (List.mem_append_left _ List.mem_cons_self)).1 hz4 hd4
    | brk => obtain ⟨σ6, H6, S6, q6⟩ := hsp; exact q6.elim
    | cont => obtain ⟨σ6, H6, S6, q6⟩ := hsp; exact q6.elim
    | ret u => obtain ⟨v6, σ6, H6, S6, r6, q6⟩ := hsp; exact q6.elim
  · cases f with
    | next => obtain ⟨σ', H', J', q⟩ := hsp; exact wpAny_execs_nil ⟨σ', H', J'.ofTry ok, q⟩
    | brk => obtain ⟨σ', H', J', q⟩ := hsp; exact ⟨σ', H', J'.ofTry ok, q⟩
    | cont => obtain ⟨σ', H', J', q⟩ := hsp; exact ⟨σ', H', J'.ofTry ok, q⟩
    | ret u => obtain ⟨v, σ', H', J', r, q⟩ := hsp; exact ⟨v, σ', H', J'.ofTry ok, r, q⟩
end
end Pc
namespace Pc
open PySem PySem.Spec PyProof.Rows L2 RZ
/-- what isinstance asks of the class of a kept error -/
structure KeptC (K : PySem.W.Frag) (C : Addr) : Prop where
  ga : PySem.W.findIn K (.ref C) "__getattribute__" = some (some (.builtin "BaseException.__getattribute__"))
  gg : PySem.W.findIn K (.ref C) "__getattr__" = some none
  exC : PySem.W.subIn K (.ref C) (.type "BaseException") = some true
  hdC : PySem.W.hasDictIn K C = true
  clC : PySem.W.findIn K (.ref C) "__class__" = some (some (.builtin "object.__class__"))
  mrO : PySem.W.mroIn K C (.type "object") = some true
  sp : PySem.W.specialIn K (.builtin "object.__class__") "__get__" = some (some (.builtin "getset_descriptor.__get__"))
  tk : PySem.W.takesIn K (.builtin "object.__class__") = some true
/-- a kept error with its dict -/
def Kept (H : Hp) (a C : Addr) (d : Option Addr) : Prop := H a = some (exk a (.ref C) d) ∧ (d = none ∨ ∃ dd fs, d = some dd ∧ H dd = some (.xd fs))
section
variable {X : Cx} {pins : List (Addr × Obj)} {σ : L2.St} {H : Hp} {s : Shared} {a C : Addr} {d : Option Addr}
theorem kept_inst (I : Inv X pins σ H s) (h : Kept H a C d) : ∃ (oe : Obj) (od : Option Obj), PySem.W.InstAt s.heap a oe C od := by
  obtain ⟨e, hd⟩ := h
  obtain ⟨oe, vs, ho, hz, hv⟩ := exk_at I.hok e
  have nc : PySem.W.notCls oe = true := by unfold PySem.W.notCls; rw [hv] <;> rfl
  rcases hd with rfl | ⟨dd, fs, rfl, ed⟩
  · exact ⟨oe, none, ho, hz.1, nc, by rw [hz.2]; trivial⟩
  · obtain ⟨mA, ⟨od, es, ep, q, _⟩, _⟩ := (show ObjOk X.prog X.w H s.heap dd (.xd fs) from I.hok dd _ ed)
    exact ⟨oe, some od, ho, hz.1, nc, by rw [hz.2]; exact q⟩
theorem kept_kit (T : KeptC X.K C) {oe : Obj} {od : Option Obj} : PySem.W.KitX X.K (.ref a) (.ref C) (fun h => PySem.W.InstAt h a oe C od) :=
  PySem.W.kitx_exc (by obtain ⟨cd, hc, _⟩ := PySem.W.any_some T.hdC; rw [hc]; rfl) T.ga T.gg T.exC T.clC T.sp T.tk T.mrO
/-- isinstance(e, c), e a kept error -/
def rIsk (K : PySem.W.Frag) : List V → Hp → VK → Prop := fun xs H Q => ∃ (a C : Addr) (d : Option Addr) (c : V) (u : Value) (b : Bool), xs = [.ref a, c] ∧ Kept H a C d ∧ KeptC K C ∧ ClsV c u ∧ PySem.W.kitOne K (.ref C) u = some b ∧ Q (.bl b) H
theorem call_isk : CallR X (.builtin "isinstance") (rIsk X.K) := by
  intro pins s σ H xs us Q I r h
  obtain ⟨a, C, d, c, u, b, rfl, hk, T, k, e, q⟩ := h
  obtain ⟨u1, u2, rfl, r1, r2⟩ := vals2 r
  cases (show u1 = Value.ref a from r1)
  have e2 := k.eq r2
  subst e2
  obtain ⟨oe, od, J⟩ := kept_inst I hk
  exact PySem.W.kia_one (kept_kit T) I.kIn J e (fun z => nomatch z) fun tk => ⟨.bl b, H, I.tok tk, rfl, q⟩
/-- isinstance(e, (c, ..)) -/
def rIskT (K : PySem.W.Frag) : List V → Hp → VK → Prop := fun xs H Q => ∃ (a C : Addr) (d : Option Addr) (tp : Addr) (cs : List V) (us : List Value) (b : Bool), xs = [.ref a, .ref tp] ∧ Kept H a C d ∧ KeptC K C ∧ H tp = some (.tup cs) ∧ Paired ClsV cs us ∧ PySem.W.kitAny K (.ref C) us = some b ∧ Q (.bl b) H
theorem call_iskT : CallR X (.builtin "isinstance") (rIskT X.K) := by
  intro pins s σ H xs us Q I r h
  obtain ⟨a, C, d, tp, cs, ws, b, rfl, hk, T, hT, k, e, q⟩ := h
  obtain ⟨u1, u2, rfl, r1, r2⟩ := vals2 r
  cases (show u1 = Value.ref a from r1)
  cases (show u2 = Value.ref tp from r2)
  obtain ⟨oe, od, J⟩ := kept_inst I hk
  obtain ⟨_, its, rv, o, h1, h2, n, h3⟩ := (show ObjOk X.prog X.w H s.heap tp (.tup cs) from I.hok tp _ hT)
  have e3 := ClsV.all k rv
  subst e3
  obtain ⟨oc, od', dt, sl⟩ := o
  simp only at h2 h3
  subst h2 h3
  exact PySem.W.kia_tup (kept_kit T) I.kIn J h1 e (fun z => nomatch z) fun tk => ⟨.bl b, H, I.tok tk, rfl, q⟩
/-- e.f, e a kept error -/
def tKf (K : PySem.W.Frag) (f : Str) (te : TE) : TE := fun σ H Q => te σ H fun x H1 => ∃ (a C dd : Addr) (fs : List (Str × V)) (v : V), x = .ref a ∧ H1 a = some (exk a (.ref C) (some dd)) ∧ KeptC K C ∧ PySem.W.findIn K (.ref C) f = some none ∧ H1 dd = some (.xd fs) ∧ fs.lookup f = some v ∧ Q v H1
theorem pe_kf {e : Expr} {te : TE} {f : Str} {pos : Pos} (he : PE X e te) (hb : attributeBase e f X.env (eval e X.env) = eval e X.env := by rfl) : PE X (.Attribute e f pos) (tKf X.K f te) := by
  refine ⟨fun pins s σ H Q I h => attr_of hb (thn (he.run pins s σ H _ I h) fun u s1 hh => ?_)⟩
  obtain ⟨x, H1, I1, rx, a, C, dd, fs, v, ex, ea, T, hno, ed, l, q⟩ := hh
  subst ex
  obtain rfl : u = Value.ref a := rx
  obtain ⟨oe, vs, ho, hz, hv⟩ := exk_at I1.hok ea
  obtain ⟨mA, hns, hr⟩ := (show ObjOk X.prog X.w H1 s1.heap dd (.xd fs) from I1.hok dd _ ed)
  obtain ⟨od, hod, hl⟩ := lookIn_ns hns
  obtain ⟨w', hw, rw'⟩ := RelO.some_of (v := v) (o := mA f) (by rw [← l]; exact hr f)
  have J : PySem.W.InstAt s1.heap a oe C (some od) := ⟨ho, hz.1, by unfold PySem.W.notCls; rw [hv] <;> rfl, by rw [hz.2]; exact hod⟩
  exact HandSPX.exc_get I1.kIn J T.ga T.gg T.exC (PySem.W.findObj_own T.hdC hno rfl (by rw [hl, hw])) (handed_of rw') ⟨v, H1, I1.tok _, rw', q⟩
end
end Pc
namespace Pc
open PySem PySem.Spec PyProof.Rows L2 RZ
/-! ### errors with one field: made, flying -/
/-- an error of the class at C with the field f flies, from the heap H on -/
def Flies (C : Addr) (f : Str) (v : V) (H : Hp) (E : XK) : Prop := ∀ d H', Same H H' → H d = none → H' d = some (.xd [(f, v)]) → E (.ref C) (some d) H'
theorem Flies.same {C : Addr} {f : Str} {v : V} {H H1 : Hp} {E : XK} (h : Flies C f v H E) (s : Same H H1) : Flies C f v H1 E := fun d H' s' n e => h d H' (s.trans s') (s.free n) e
def spInit1 (C : Addr) (f : Str) : Sp := fun vs H Q _ => ∃ (a : Addr) (v : V), vs = [.ref a, v] ∧ H a = some (exo a C none) ∧ ∀ dx, H dx = none → dx ≠ a → Q .non (upd (upd H a (exo a C (some dx))) dx (exd dx [(f, v)]))
theorem raised1 {C : Addr} {f : Str} {v : V} {H1 : Hp} {Q : XK} (h : Flies C f v H1 Q) : [v].length ≤ 1000 ∧ ∀ a, H1 a = none → spInit1 C f (.ref a :: [v]) (upd H1 a (exo a C none))
    (fun v' H2 => v' = .non ∧ ((H2 a = some (exo a C none) ∧ Q (.ref C) none (del H2 a)) ∨ ∃ (d : Addr) (fs : List (Str × V)), H2 a = some (exo a C (some d)) ∧ H2 d = some (exd d fs) ∧ Q (.ref C) (some d) (upd (del H2 a) d (.xd fs)))) (fun _ _ _ => False) := by
  refine ⟨(by show 1 ≤ 1000; decide), fun a na => ⟨a, v, rfl, upd_same, fun dx nd ne => ⟨rfl, .inr ⟨dx, [(f, v)], ?_, upd_same, h dx _ ?_ ?_ upd_same⟩⟩⟩⟩
  · rw [upd_ne (Ne.symm ne), upd_same]
  · intro b o hb
    have nd' : H1 dx = none := by rw [upd_ne ne] at nd; exact nd
    have hbd := ne_of_none hb nd'
    have hba := ne_of_none hb na
    rw [upd_ne hbd, del_ne hba, upd_ne hbd, upd_ne hba, upd_ne hba]
    exact hb
  · rw [upd_ne ne] at nd; exact nd
/-- the try's wish of such an error -/
theorem kept1 {K : PySem.W.Frag} {C : Addr} {f : Str} {v : V} {cs : List Value} {i : Nat} {ts : Addr → TS} {D : Ends} {σ : L2.St} {H : Hp} (hh : Hits K (.ref C) cs)
    (h : ∀ d H' a, Same H H' → H d = none → H' d = some (.xd [(f, v)]) → H' a = none → a ≠ d → ts a { nx := fun σ' H'' => D.nx (σ'.set i none) (upd H'' a (exk a (.ref C) (some d))), rt := fun _ _ => False } (σ.set i (some (.ref a))) H') :
    Flies C f v H (fun cls d H' => wKept K cs i ts D cls d σ H') := fun d H' s n e => ⟨hh, fun a na => h d H' a s n e na (fun z => by rw [z, e] at na; cases na)⟩
theorem Kept.mk1 {H' : Hp} {a d C : Addr} {fs : List (Str × V)} (e : H' d = some (.xd fs)) (n : H' a = none) : Kept (upd H' a (exk a (.ref C) (some d))) a C (some d) :=
  ⟨upd_same, .inr ⟨d, fs, rfl, by rw [upd_ne (ne_of_none e n)]; exact e⟩⟩
theorem Kept.same {H H' : Hp} {a C : Addr} {d : Option Addr} (h : Kept H a C d) (s : Same H H') : Kept H' a C d :=
  ⟨s _ _ h.1, h.2.imp id fun ⟨dd, fs, e, z⟩ => ⟨dd, fs, e, s _ _ z⟩⟩
theorem over_of {K : PySem.W.Frag} {C : Addr} {bmB : List Value} {newId : String} {nm q : Str} {N : Addr} {bs : List Value} {sn : List Str} {sub : List Value} {ab : Bool} {col : Option Bool} {dd : Option Addr} {k0 k1 k2 k3 k5 : Option Value}
    (h : K.lookup C = some (excClassObj nm q C N bs bmB true sn sub ab col dd k0 k1 k2 k3 k5 newId)) (ht : PySem.W.excTail bmB bmB = true) : PySem.W.excOver K C bmB = true := by
  have e : PySem.W.clsIn K C = some { name := nm, bases := bs, mro := .ref C :: bmB, ns := N, qualname := q, hasDict := true, slotNames := sn, subclasses := sub, abstract := ab, collection := col, hasDel := false } := by
    unfold PySem.W.clsIn
    rw [h] <;> rfl
  unfold PySem.W.excOver
  rw [e]
  show ((C == C) && PySem.W.excTail bmB bmB) = true
  rw [ht, beq_self_eq_true]; rfl
theorem kcls_of {K : PySem.W.Frag} {t : Value} {D : Addr} {b : Bool} (h2 : PySem.W.isClsIn K D = true) (h3 : PySem.W.typeIn K (.ref D) = some (.type "type")) (h4 : PySem.W.subIn K t (.ref D) = some b) : PySem.W.kitCls K t (.ref D) = some b := by
  have e2 : ((PySem.W.clsIn K D).isSome && PySem.W.typeIn K (.ref D) == some (.type "type")) = true := by
    have h2' : (PySem.W.clsIn K D).isSome = true := h2
    rw [h2', h3] <;> rfl
  show (if ((PySem.W.clsIn K D).isSome && PySem.W.typeIn K (.ref D) == some (.type "type")) = true then PySem.W.subIn K t (.ref D) else none) = some b
  rw [if_pos e2]
  exact h4
theorem exm_of' {K : PySem.W.Frag} {t : Value} {D : Addr} {b : Bool} (h1 : PySem.W.subIn K (.ref D) (.type "BaseException") = some true) (h2 : PySem.W.isClsIn K D = true) (h3 : PySem.W.typeIn K (.ref D) = some (.type "type")) (h4 : PySem.W.subIn K t (.ref D) = some b) : PySem.W.exmOne K t (.ref D) = some b := by
  have e1 : (PySem.W.subIn K (.ref D) (.type "BaseException") == some true) = true := by rw [h1] <;> rfl
  show (if (PySem.W.subIn K (.ref D) (.type "BaseException") == some true) = true then PySem.W.kitCls K t (.ref D) else none) = some b
  rw [if_pos e1]
  exact kcls_of h2 h3 h4
theorem kit_own {K : PySem.W.Frag} {C D : Addr} {b : Bool} (h0 : PySem.W.subIn K (.ref C) (.ref C) = some true) (h2 : PySem.W.isClsIn K D = true) (h3 : PySem.W.typeIn K (.ref D) = some (.type "type")) (h4 : PySem.W.subIn K (.ref C) (.ref D) = some b) : PySem.W.kitOne K (.ref C) (.ref D) = some b := by
  by_cases e : C = D
  · subst e
    rw [h0] at h4
    rw [← h4]
    show (if ((Value.ref C) == (Value.ref C)) = true then some true else _) = some true
    rw [if_pos (beq_self_eq_true _)]
  · have n : ((Value.ref C) == (Value.ref D)) = false := beq_false_of_ne (fun z => e (Value.ref.inj z))
    show (if ((Value.ref C) == (Value.ref D)) = true then some true else PySem.W.kitCls K (.ref C) (.ref D)) = some b
    rw [if_neg (by rw [n]; exact Bool.false_ne_true)]
    exact kcls_of h2 h3 h4
theorem kit_blt {K : PySem.W.Frag} {C : Addr} {T : String} {b : Bool} (hm : PySem.W.kitMeta T = true) (h4 : PySem.W.subIn K (.ref C) (.type T) = some b) : PySem.W.kitOne K (.ref C) (.type T) = some b := by
  have n : ((Value.ref C) == (Value.type T)) = false := beq_false_of_ne (fun z => nomatch z)
  show (if ((Value.ref C) == (Value.type T)) = true then some true else (if PySem.W.kitMeta T = true then PySem.W.subIn K (.ref C) (.type T) else none)) = some b
  rw [if_neg (by rw [n]; exact Bool.false_ne_true), if_pos hm]
  exact h4
theorem kit_all {K : PySem.W.Frag} {t : Value} : ∀ {us : List Value}, (∀ u ∈ us, PySem.W.kitOne K t u = some false) → PySem.W.kitAny K t us = some false
  | [], _ => rfl
  | u :: us, h => by
    show (match PySem.W.kitOne K t u with | some true => some true | some false => PySem.W.kitAny K t us | none => none) = some false
    rw [h u List.mem_cons_self]
    exact kit_all fun x hx => h x (List.mem_cons_of_mem _ hx)
end Pc
namespace Pc
open PySem PySem.Spec PyProof.Rows L2 RZ
theorem kit_nil {K : PySem.W.Frag} {t : Value} : PySem.W.kitAny K t [] = some false := rfl
theorem kit_cons {K : PySem.W.Frag} {t u : Value} {us : List Value} (h : PySem.W.kitOne K t u = some false) (r : PySem.W.kitAny K t us = some false) : PySem.W.kitAny K t (u :: us) = some false := by
  show (match PySem.W.kitOne K t u with | some true => some true | some false => PySem.W.kitAny K t us | none => none) = some false
  rw [h]
  exact r
theorem hits_of {K : PySem.W.Frag} {cls : Value} {cs : List Value} (bs : List Bool) (hb : bs.any id = true) (h : Paired (fun c b => PySem.W.exmOne K cls c = some b) cs bs) : Hits K cls cs :=
  ⟨bs, h.length.symm, hb, fun i c y hc hy => by
    obtain ⟨y', e, z⟩ := paired_get h hc
    rw [hy] at e; cases e
    exact z⟩
end Pc
namespace Pc
open PySem PySem.Spec PyProof.Rows L2 RZ
/-- two promises of one def -/
theorem FnOk.or {P : Program} {w : World} {K : PySem.W.Frag} {mg : Str → Option Value} {base : Heap} {CX : CXT} {k : Nat} {f : Addr} {fd : FuncData} {ps : List Str} {sp sp' : Sp} (F : FnOk P w K mg base CX k f fd ps sp) (G : FnOk P w K mg base CX k f fd ps sp') :
    FnOk P w K mg base CX k f fd ps (fun vs H Q E => sp vs H Q E ∨ sp' vs H Q E) where
  len vs H Q E h := h.elim (F.len vs H Q E) (G.len vs H Q E)
  run A outer s H args us vs Q E hr e0 hb r h := h.elim (F.run A outer s H args us vs Q E hr e0 hb r) (G.run A outer s H args us vs Q E hr e0 hb r)
end Pc
namespace Pc
open PySem PySem.Spec PyProof.Rows L2 RZ
def topS (i : Nat) : Stmt := PySem.Challenge.pw_partnercall_k13_paths.main.body.getD i (.Pass ⟨0, 0, 0, 0⟩)
abbrev s_p_is_integer_below : Stmt := topS 6
abbrev N_p_is_integer_below : List Str := ["value", "limit"]
theorem sc_p_is_integer_below : FnScope ["value", "limit"] ["value", "limit"] (defScope s_p_is_integer_below) := ⟨rfl, rfl, rfl, by decide +kernel, rfl, by decide +kernel, by decide +kernel⟩
abbrev s_p_check_person : Stmt := topS 8
abbrev N_p_check_person : List Str := ["size", "person"]
theorem sc_p_check_person : FnScope ["size", "person"] ["size", "person"] (defScope s_p_check_person) := ⟨rfl, rfl, rfl, by decide +kernel, rfl, by decide +kernel, by decide +kernel⟩
abbrev s_p_people_of : Stmt := topS 10
abbrev N_p_people_of : List Str := ["sheet"]
theorem sc_p_people_of : FnScope ["sheet"] ["sheet"] (defScope s_p_people_of) := ⟨rfl, rfl, rfl, by decide +kernel, rfl, by decide +kernel, by decide +kernel⟩
abbrev s_p_check_sizes : Stmt := topS 11
abbrev N_p_check_sizes : List Str := ["first", "second"]
theorem sc_p_check_sizes : FnScope ["first", "second"] ["first", "second"] (defScope s_p_check_sizes) := ⟨rfl, rfl, rfl, by decide +kernel, rfl, by decide +kernel, by decide +kernel⟩
abbrev s_p_followed_path : Stmt := topS 13
abbrev N_p_followed_path : List Str := ["sheet", "pairing", "person", "size", "ends", "partner"]
theorem sc_p_followed_path : FnScope ["sheet", "pairing", "person", "size", "ends", "partner"] ["sheet", "pairing", "person"] (defScope s_p_followed_path) := ⟨rfl, rfl, rfl, by decide +kernel, rfl, by decide +kernel, by decide +kernel⟩
abbrev s_p_path : Stmt := topS 14
abbrev N_p_path : List Str := ["sheet", "pairing", "person"]
theorem sc_p_path : FnScope ["sheet", "pairing", "person"] ["sheet", "pairing", "person"] (defScope s_p_path) := ⟨rfl, rfl, rfl, by decide +kernel, rfl, by decide +kernel, by decide +kernel⟩
abbrev s_p_shows_path : Stmt := topS 15
abbrev N_p_shows_path : List Str := ["sheet", "pairing", "person", "value", "ends", "end"]
theorem sc_p_shows_path : FnScope ["sheet", "pairing", "person", "value", "ends", "end"] ["sheet", "pairing", "person", "value"] (defScope s_p_shows_path) := ⟨rfl, rfl, rfl, by decide +kernel, rfl, by decide +kernel, by decide +kernel⟩
abbrev s_p_couples_on : Stmt := topS 16
abbrev N_p_couples_on : List Str := ["sheet", "pairing", "person", "ends", "steps", "at", "x", "y"]
theorem sc_p_couples_on : FnScope ["sheet", "pairing", "person", "ends", "steps", "at", "x", "y"] ["sheet", "pairing", "person"] (defScope s_p_couples_on) := ⟨rfl, rfl, rfl, by decide +kernel, rfl, by decide +kernel, by decide +kernel⟩
abbrev s_box : Stmt := topS 18
abbrev N_box : List Str := ["_law_script", "_law_k", "_law_cell"]
theorem sc_box : FnScope ["_law_script", "_law_k", "_law_cell"] ["_law_script", "_law_k"] (defScope s_box) := ⟨rfl, rfl, rfl, by decide +kernel, rfl, by decide +kernel, by decide +kernel⟩
abbrev s_take : Stmt := topS 19
abbrev N_take : List Str := ["_law_box_here", "_law_span", "_law_found", "_law_once"]
theorem sc_take : FnScope ["_law_box_here", "_law_span", "_law_found", "_law_once"] ["_law_box_here", "_law_span"] (defScope s_take) := ⟨rfl, rfl, rfl, by decide +kernel, rfl, by decide +kernel, by decide +kernel⟩
abbrev s_cells : Stmt := topS 20
abbrev N_cells : List Str := ["_law_script", "_law_most", "_law_cells_here", "_law_k", "_law_cell"]
theorem sc_cells : FnScope ["_law_script", "_law_most", "_law_cells_here", "_law_k", "_law_cell"] ["_law_script", "_law_most"] (defScope s_cells) := ⟨rfl, rfl, rfl, by decide +kernel, rfl, by decide +kernel, by decide +kernel⟩
abbrev s_of : Stmt := topS 21
abbrev N_of : List Str := ["_law_box_here", "_law_some"]
theorem sc_of : FnScope ["_law_box_here", "_law_some"] ["_law_box_here", "_law_some"] (defScope s_of) := ⟨rfl, rfl, rfl, by decide +kernel, rfl, by decide +kernel, by decide +kernel⟩
abbrev s_strewn : Stmt := topS 22
abbrev N_strewn : List Str := ["_law_box_here", "_law_some", "_law_left", "_law_found"]
theorem sc_strewn : FnScope ["_law_box_here", "_law_some", "_law_left", "_law_found"] ["_law_box_here", "_law_some"] (defScope s_strewn) := ⟨rfl, rfl, rfl, by decide +kernel, rfl, by decide +kernel, by decide +kernel⟩
abbrev s_same : Stmt := topS 23
abbrev N_same : List Str := ["_law_found", "_law_due", "_law_mine", "_law_its"]
theorem sc_same : FnScope ["_law_found", "_law_due", "_law_mine", "_law_its"] ["_law_found", "_law_due"] (defScope s_same) := ⟨rfl, rfl, rfl, by decide +kernel, rfl, by decide +kernel, by decide +kernel⟩
abbrev s_paired : Stmt := topS 24
abbrev N_paired : List Str := ["_law_order", "_law_found", "_law_k"]
theorem sc_paired : FnScope ["_law_order", "_law_found", "_law_k"] ["_law_order"] (defScope s_paired) := ⟨rfl, rfl, rfl, by decide +kernel, rfl, by decide +kernel, by decide +kernel⟩
abbrev s_random : Stmt := topS 25
abbrev N_random : List Str := ["_law_box_here", "_law_count"]
theorem sc_random : FnScope ["_law_box_here", "_law_count"] ["_law_box_here", "_law_count"] (defScope s_random) := ⟨rfl, rfl, rfl, by decide +kernel, rfl, by decide +kernel, by decide +kernel⟩
abbrev s_any_call : Stmt := topS 26
abbrev N_any_call : List Str := ["_law_box_here", "_law_count", "_law_low"]
theorem sc_any_call : FnScope ["_law_box_here", "_law_count", "_law_low"] ["_law_box_here", "_law_count"] (defScope s_any_call) := ⟨rfl, rfl, rfl, by decide +kernel, rfl, by decide +kernel, by decide +kernel⟩
abbrev s_some_calls : Stmt := topS 27
abbrev N_some_calls : List Str := ["_law_box_here", "_law_count", "_law_most", "_law_wide", "_law_turn"]
theorem sc_some_calls : FnScope ["_law_box_here", "_law_count", "_law_most", "_law_wide", "_law_turn"] ["_law_box_here", "_law_count", "_law_most"] (defScope s_some_calls) := ⟨rfl, rfl, rfl, by decide +kernel, rfl, by decide +kernel, by decide +kernel⟩
abbrev s_sheet_of : Stmt := topS 28
abbrev N_sheet_of : List Str := ["_law_count", "_law_cries", "_law_found", "_law_a", "_law_b", "_law_u", "_law_v", "_law_end"]
theorem sc_sheet_of : FnScope ["_law_count", "_law_cries", "_law_found", "_law_a", "_law_b", "_law_u", "_law_v", "_law_end"] ["_law_count", "_law_cries"] (defScope s_sheet_of) := ⟨rfl, rfl, rfl, by decide +kernel, rfl, by decide +kernel, by decide +kernel⟩
abbrev s_any_page : Stmt := topS 29
abbrev N_any_page : List Str := ["_law_box_here", "_law_count", "_law_sort", "_law_lows", "_law_found", "_law_k", "_law_low"]
theorem sc_any_page : FnScope ["_law_box_here", "_law_count", "_law_sort", "_law_lows", "_law_found", "_law_k", "_law_low"] ["_law_box_here", "_law_count"] (defScope s_any_page) := ⟨rfl, rfl, rfl, by decide +kernel, rfl, by decide +kernel, by decide +kernel⟩
abbrev s_ends_from : Stmt := topS 30
abbrev N_ends_from : List Str := ["_law_page", "_law_crowd", "_law_who", "_law_count", "_law_found"]
theorem sc_ends_from : FnScope ["_law_page", "_law_crowd", "_law_who", "_law_count", "_law_found"] ["_law_page", "_law_crowd", "_law_who"] (defScope s_ends_from) := ⟨rfl, rfl, rfl, by decide +kernel, rfl, by decide +kernel, by decide +kernel⟩
abbrev s_refused : Stmt := topS 31
abbrev N_refused : List Str := ["_law_sort", "_law_page", "_law_crowd", "_law_far", "_law_caught", "error", "_law_fine"]
theorem sc_refused : FnScope ["_law_sort", "_law_page", "_law_crowd", "_law_far", "_law_caught", "error", "_law_fine"] ["_law_sort", "_law_page", "_law_crowd", "_law_far"] (defScope s_refused) := ⟨rfl, rfl, rfl, by decide +kernel, rfl, by decide +kernel, by decide +kernel⟩
abbrev s_right : Stmt := topS 32
abbrev N_right : List Str := ["_law_box_here", "_law_count", "_law_page", "_law_crowd", "_law_kept", "_law_who", "_law_due", "_law_pairs", "_law_heard", "_law_told", "_law_again", "_law_far", "_law_k", "_law_sort"]
theorem sc_right : FnScope ["_law_box_here", "_law_count", "_law_page", "_law_crowd", "_law_kept", "_law_who", "_law_due", "_law_pairs", "_law_heard", "_law_told", "_law_again", "_law_far", "_law_k", "_law_sort"] ["_law_box_here"] (defScope s_right) := ⟨rfl, rfl, rfl, by decide +kernel, rfl, by decide +kernel, by decide +kernel⟩
abbrev s_law : Stmt := topS 33
abbrev N_law : List Str := ["_law_script", "_law_cells_here", "_law_k", "_law_box_here", "_law_turn"]
theorem sc_law : FnScope ["_law_script", "_law_cells_here", "_law_k", "_law_box_here", "_law_turn"] ["_law_script"] (defScope s_law) := ⟨rfl, rfl, rfl, by decide +kernel, rfl, by decide +kernel, by decide +kernel⟩
abbrev s_i_NoPerson : Stmt := inClass (topS 1) 0
abbrev N_i_NoPerson : List Str := ["self", "person"]
theorem sc_i_NoPerson : FnScope ["self", "person"] ["self", "person"] (defScope s_i_NoPerson) := ⟨rfl, rfl, rfl, by decide +kernel, rfl, by decide +kernel, by decide +kernel⟩
/-- what the top has left: the built-ins' names are free, each def stands at its name -/
structure Env (K : PySem.W.Frag) (mg : Str → Option Value) where
  n_isinstance : mg "isinstance" = none
  n_int : mg "int" = none
  n_bool : mg "bool" = none
  n_len : mg "len" = none
  n_list : mg "list" = none
  n_all : mg "all" = none
  n_min : mg "min" = none
  n_max : mg "max" = none
  n_range : mg "range" = none
  n_sorted : mg "sorted" = none
  n_abs : mg "abs" = none
  n_enumerate : mg "enumerate" = none
  n_tuple : mg "tuple" = none
  n_zip : mg "zip" = none
  n_str : mg "str" = none
  n_LookupError : mg "LookupError" = none
  n_IndexError : mg "IndexError" = none
  n_KeyError : mg "KeyError" = none
  n_repr : mg "repr" = none
  f_p_is_integer_below : Addr
  d_p_is_integer_below : FuncData
  F_p_is_integer_below : Fun K "is_integer_below" "is_integer_below" s_p_is_integer_below f_p_is_integer_below d_p_is_integer_below
  g_p_is_integer_below : mg "is_integer_below" = some (.ref f_p_is_integer_below)
  f_p_check_person : Addr
  d_p_check_person : FuncData
  F_p_check_person : Fun K "check_person" "check_person" s_p_check_person f_p_check_person d_p_check_person
  g_p_check_person : mg "check_person" = some (.ref f_p_check_person)
  f_p_people_of : Addr
  d_p_people_of : FuncData
  F_p_people_of : Fun K "people_of" "people_of" s_p_people_of f_p_people_of d_p_people_of
  g_p_people_of : mg "people_of" = some (.ref f_p_people_of)
  f_p_check_sizes : Addr
  d_p_check_sizes : FuncData
  F_p_check_sizes : Fun K "check_sizes" "check_sizes" s_p_check_sizes f_p_check_sizes d_p_check_sizes
  g_p_check_sizes : mg "check_sizes" = some (.ref f_p_check_sizes)
  f_p_followed_path : Addr
  d_p_followed_path : FuncData
  F_p_followed_path : Fun K "followed_path" "followed_path" s_p_followed_path f_p_followed_path d_p_followed_path
  g_p_followed_path : mg "followed_path" = some (.ref f_p_followed_path)
  f_p_path : Addr
  d_p_path : FuncData
  F_p_path : Fun K "path" "path" s_p_path f_p_path d_p_path
  g_p_path : mg "path" = some (.ref f_p_path)
  f_p_shows_path : Addr
  d_p_shows_path : FuncData
  F_p_shows_path : Fun K "shows_path" "shows_path" s_p_shows_path f_p_shows_path d_p_shows_path
  g_p_shows_path : mg "shows_path" = some (.ref f_p_shows_path)
  f_p_couples_on : Addr
  d_p_couples_on : FuncData
  F_p_couples_on : Fun K "couples_on" "couples_on" s_p_couples_on f_p_couples_on d_p_couples_on
  g_p_couples_on : mg "couples_on" = some (.ref f_p_couples_on)
  f_box : Addr
  d_box : FuncData
  F_box : Fun K "_law_box" "_law_box" s_box f_box d_box
  g_box : mg "_law_box" = some (.ref f_box)
  f_take : Addr
  d_take : FuncData
  F_take : Fun K "_law_take" "_law_take" s_take f_take d_take
  g_take : mg "_law_take" = some (.ref f_take)
  f_cells : Addr
  d_cells : FuncData
  F_cells : Fun K "_law_cells" "_law_cells" s_cells f_cells d_cells
  g_cells : mg "_law_cells" = some (.ref f_cells)
  f_of : Addr
  d_of : FuncData
  F_of : Fun K "_law_of" "_law_of" s_of f_of d_of
  g_of : mg "_law_of" = some (.ref f_of)
  f_strewn : Addr
  d_strewn : FuncData
  F_strewn : Fun K "_law_strewn" "_law_strewn" s_strewn f_strewn d_strewn
  g_strewn : mg "_law_strewn" = some (.ref f_strewn)
  f_same : Addr
  d_same : FuncData
  F_same : Fun K "_law_same" "_law_same" s_same f_same d_same
  g_same : mg "_law_same" = some (.ref f_same)
  f_paired : Addr
  d_paired : FuncData
  F_paired : Fun K "_law_paired" "_law_paired" s_paired f_paired d_paired
  g_paired : mg "_law_paired" = some (.ref f_paired)
  f_random : Addr
  d_random : FuncData
  F_random : Fun K "_law_random" "_law_random" s_random f_random d_random
  g_random : mg "_law_random" = some (.ref f_random)
  f_any_call : Addr
  d_any_call : FuncData
  F_any_call : Fun K "_law_any_call" "_law_any_call" s_any_call f_any_call d_any_call
  g_any_call : mg "_law_any_call" = some (.ref f_any_call)
  f_some_calls : Addr
  d_some_calls : FuncData
  F_some_calls : Fun K "_law_some_calls" "_law_some_calls" s_some_calls f_some_calls d_some_calls
  g_some_calls : mg "_law_some_calls" = some (.ref f_some_calls)
  f_sheet_of : Addr
  d_sheet_of : FuncData
  F_sheet_of : Fun K "_law_sheet_of" "_law_sheet_of" s_sheet_of f_sheet_of d_sheet_of
  g_sheet_of : mg "_law_sheet_of" = some (.ref f_sheet_of)
  f_any_page : Addr
  d_any_page : FuncData
  F_any_page : Fun K "_law_any_page" "_law_any_page" s_any_page f_any_page d_any_page
  g_any_page : mg "_law_any_page" = some (.ref f_any_page)
  f_ends_from : Addr
  d_ends_from : FuncData
  F_ends_from : Fun K "_law_ends_from" "_law_ends_from" s_ends_from f_ends_from d_ends_from
  g_ends_from : mg "_law_ends_from" = some (.ref f_ends_from)
  f_refused : Addr
  d_refused : FuncData
  F_refused : Fun K "_law_refused" "_law_refused" s_refused f_refused d_refused
  g_refused : mg "_law_refused" = some (.ref f_refused)
  f_right : Addr
  d_right : FuncData
  F_right : Fun K "_law_right" "_law_right" s_right f_right d_right
  g_right : mg "_law_right" = some (.ref f_right)
  C_NoPerson : Addr
  gC_NoPerson : mg "NoPerson" = some (.ref C_NoPerson)
  C_NoNumber : Addr
  gC_NoNumber : mg "NoNumber" = some (.ref C_NoNumber)
  C_NotResult : Addr
  gC_NotResult : mg "NotResult" = some (.ref C_NotResult)
  own_NoPerson : Own K "LookupError.__new__" [.type "LookupError", .type "Exception", .type "BaseException", .type "object"] C_NoPerson
  kpt_NoPerson : KeptC K C_NoPerson
  no_NoPerson : PySem.W.findIn K (.ref C_NoPerson) "person" = some none
  f_i_NoPerson : Addr
  d_i_NoPerson : FuncData
  F_i_NoPerson : Fun K "__init__" "NoPerson.__init__" s_i_NoPerson f_i_NoPerson d_i_NoPerson
  iC_NoPerson : PySem.W.findIn K (.ref C_NoPerson) "__init__" = some (some (.ref f_i_NoPerson))
  tI_NoPerson : PySem.W.typeIn K (.ref f_i_NoPerson) = some (.type "function")
  ee_NoPerson : PySem.W.exmOne K (.ref C_NoPerson) (.ref C_NoPerson) = some true
  kk_NoPerson : PySem.W.kitOne K (.ref C_NoPerson) (.ref C_NoPerson) = some true
  ex_NoPerson_NoNumber : PySem.W.exmOne K (.ref C_NoPerson) (.ref C_NoNumber) = some false
  ki_NoPerson_NoNumber : PySem.W.kitOne K (.ref C_NoPerson) (.ref C_NoNumber) = some false
  ex_NoPerson_NotResult : PySem.W.exmOne K (.ref C_NoPerson) (.ref C_NotResult) = some false
  ki_NoPerson_NotResult : PySem.W.kitOne K (.ref C_NoPerson) (.ref C_NotResult) = some false
  kb_NoPerson_LookupError : PySem.W.kitOne K (.ref C_NoPerson) (.type "LookupError") = some true
  kb_NoPerson_IndexError : PySem.W.kitOne K (.ref C_NoPerson) (.type "IndexError") = some false
  kb_NoPerson_KeyError : PySem.W.kitOne K (.ref C_NoPerson) (.type "KeyError") = some false
  vV_LookupError : PySem.W.findCls K (.type "LookupError") (.type "type") "__init__" = some (.val (.builtin "LookupError.__init__"))
theorem Env.b_i_NoPerson {K : PySem.W.Frag} {mg : Str → Option Value} (T : Env K mg) : Binds K T.d_i_NoPerson ["self", "person"] [] := T.F_i_NoPerson.binds fun _ _ _ _ _ _ us hl => match us, hl with | [_, _], _ => rfl
theorem Env.b_p_is_integer_below {K : PySem.W.Frag} {mg : Str → Option Value} (T : Env K mg) : Binds K T.d_p_is_integer_below ["value", "limit"] [] := T.F_p_is_integer_below.binds fun _ _ _ _ _ _ us hl => match us, hl with | [_, _], _ => rfl
theorem Env.b_p_check_person {K : PySem.W.Frag} {mg : Str → Option Value} (T : Env K mg) : Binds K T.d_p_check_person ["size", "person"] [] := T.F_p_check_person.binds fun _ _ _ _ _ _ us hl => match us, hl with | [_, _], _ => rfl
theorem Env.b_p_people_of {K : PySem.W.Frag} {mg : Str → Option Value} (T : Env K mg) : Binds K T.d_p_people_of ["sheet"] [] := T.F_p_people_of.binds fun _ _ _ _ _ _ us hl => match us, hl with | [_], _ => rfl
theorem Env.b_p_check_sizes {K : PySem.W.Frag} {mg : Str → Option Value} (T : Env K mg) : Binds K T.d_p_check_sizes ["first", "second"] [] := T.F_p_check_sizes.binds fun _ _ _ _ _ _ us hl => match us, hl with | [_, _], _ => rfl
theorem Env.b_p_followed_path {K : PySem.W.Frag} {mg : Str → Option Value} (T : Env K mg) : Binds K T.d_p_followed_path ["sheet", "pairing", "person"] [] := T.F_p_followed_path.binds fun _ _ _ _ _ _ us hl => match us, hl with | [_, _, _], _ => rfl
theorem Env.b_p_path {K : PySem.W.Frag} {mg : Str → Option Value} (T : Env K mg) : Binds K T.d_p_path ["sheet", "pairing", "person"] [] := T.F_p_path.binds fun _ _ _ _ _ _ us hl => match us, hl with | [_, _, _], _ => rfl
theorem Env.b_p_shows_path {K : PySem.W.Frag} {mg : Str → Option Value} (T : Env K mg) : Binds K T.d_p_shows_path ["sheet", "pairing", "person", "value"] [] := T.F_p_shows_path.binds fun _ _ _ _ _ _ us hl => match us, hl with | [_, _, _, _], _ => rfl
theorem Env.b_p_couples_on {K : PySem.W.Frag} {mg : Str → Option Value} (T : Env K mg) : Binds K T.d_p_couples_on ["sheet", "pairing", "person"] [] := T.F_p_couples_on.binds fun _ _ _ _ _ _ us hl => match us, hl with | [_, _, _], _ => rfl
theorem Env.b_box {K : PySem.W.Frag} {mg : Str → Option Value} (T : Env K mg) : Binds K T.d_box ["_law_script", "_law_k"] [] := T.F_box.binds fun _ _ _ _ _ _ us hl => match us, hl with | [_, _], _ => rfl
theorem Env.b_take {K : PySem.W.Frag} {mg : Str → Option Value} (T : Env K mg) : Binds K T.d_take ["_law_box_here", "_law_span"] [] := T.F_take.binds fun _ _ _ _ _ _ us hl => match us, hl with | [_, _], _ => rfl
theorem Env.b_cells {K : PySem.W.Frag} {mg : Str → Option Value} (T : Env K mg) : Binds K T.d_cells ["_law_script", "_law_most"] [] := T.F_cells.binds fun _ _ _ _ _ _ us hl => match us, hl with | [_, _], _ => rfl
theorem Env.b_of {K : PySem.W.Frag} {mg : Str → Option Value} (T : Env K mg) : Binds K T.d_of ["_law_box_here", "_law_some"] [] := T.F_of.binds fun _ _ _ _ _ _ us hl => match us, hl with | [_, _], _ => rfl
theorem Env.b_strewn {K : PySem.W.Frag} {mg : Str → Option Value} (T : Env K mg) : Binds K T.d_strewn ["_law_box_here", "_law_some"] [] := T.F_strewn.binds fun _ _ _ _ _ _ us hl => match us, hl with | [_, _], _ => rfl
theorem Env.b_same {K : PySem.W.Frag} {mg : Str → Option Value} (T : Env K mg) : Binds K T.d_same ["_law_found", "_law_due"] [] := T.F_same.binds fun _ _ _ _ _ _ us hl => match us, hl with | [_, _], _ => rfl
theorem Env.b_paired {K : PySem.W.Frag} {mg : Str → Option Value} (T : Env K mg) : Binds K T.d_paired ["_law_order"] [] := T.F_paired.binds fun _ _ _ _ _ _ us hl => match us, hl with | [_], _ => rfl
theorem Env.b_random {K : PySem.W.Frag} {mg : Str → Option Value} (T : Env K mg) : Binds K T.d_random ["_law_box_here", "_law_count"] [] := T.F_random.binds fun _ _ _ _ _ _ us hl => match us, hl with | [_, _], _ => rfl
theorem Env.b_any_call {K : PySem.W.Frag} {mg : Str → Option Value} (T : Env K mg) : Binds K T.d_any_call ["_law_box_here", "_law_count"] [] := T.F_any_call.binds fun _ _ _ _ _ _ us hl => match us, hl with | [_, _], _ => rfl
theorem Env.b_some_calls {K : PySem.W.Frag} {mg : Str → Option Value} (T : Env K mg) : Binds K T.d_some_calls ["_law_box_here", "_law_count", "_law_most"] [] := T.F_some_calls.binds fun _ _ _ _ _ _ us hl => match us, hl with | [_, _, _], _ => rfl
theorem Env.b_sheet_of {K : PySem.W.Frag} {mg : Str → Option Value} (T : Env K mg) : Binds K T.d_sheet_of ["_law_count", "_law_cries"] [] := T.F_sheet_of.binds fun _ _ _ _ _ _ us hl => match us, hl with | [_, _], _ => rfl
theorem Env.b_any_page {K : PySem.W.Frag} {mg : Str → Option Value} (T : Env K mg) : Binds K T.d_any_page ["_law_box_here", "_law_count"] [] := T.F_any_page.binds fun _ _ _ _ _ _ us hl => match us, hl with | [_, _], _ => rfl
theorem Env.b_ends_from {K : PySem.W.Frag} {mg : Str → Option Value} (T : Env K mg) : Binds K T.d_ends_from ["_law_page", "_law_crowd", "_law_who"] [] := T.F_ends_from.binds fun _ _ _ _ _ _ us hl => match us, hl with | [_, _, _], _ => rfl
theorem Env.b_refused {K : PySem.W.Frag} {mg : Str → Option Value} (T : Env K mg) : Binds K T.d_refused ["_law_sort", "_law_page", "_law_crowd", "_law_far"] [] := T.F_refused.binds fun _ _ _ _ _ _ us hl => match us, hl with | [_, _, _, _], _ => rfl
theorem Env.b_right {K : PySem.W.Frag} {mg : Str → Option Value} (T : Env K mg) : Binds K T.d_right ["_law_box_here"] [] := T.F_right.binds fun _ _ _ _ _ _ us hl => match us, hl with | [_], _ => rfl
end Pc
namespace Pc
open PySem PySem.Spec PyProof.Rows L2 RZ
section
variable {P : Program} {w : World} {K : PySem.W.Frag} {mg : Str → Option Value} {base : Heap}
theorem ok_i_NoPerson (T : Env K mg) : FnOk P w K mg base CX0 1 T.f_i_NoPerson T.d_i_NoPerson ["self", "person"] (spInit1 T.C_NoPerson "person") := by
  refine T.F_i_NoPerson.ok sc_i_NoPerson (fun vs H Q E h => ?_) (fun cdv A outer s H vs Q E hr h => ?_)
  · obtain ⟨a, v, rfl, _⟩ := h
    rfl
  · obtain ⟨a, v, rfl, ha, q⟩ := h
    refine ⟨_, pss_cons (ps_expr (pe_binit (o := .Constant .none 0 ⟨0, 0, 0, 0⟩) bsL.fb (by rfl) T.n_LookupError (by decide +kernel) (by decide) (by decide) (by kernel_rfl) (by decide +kernel) (by decide +kernel) T.vV_LookupError (pa_cons (pv 0) (pa_cons pe_str pa_nil)))) (pss_one (ps_os (newId := "LookupError.__new__") bsL.sf (pv 0) (pv 1))), ?_⟩
    exact ⟨.ref a, rfl, a, _, [.str _], rfl, (by show 1 ≤ 1000; decide), T.own_NoPerson, ha, v, rfl, .ref a, rfl, a, _, rfl, T.own_NoPerson, T.no_NoPerson, ha, fun dx n ne => q dx n ne⟩
end
end Pc
namespace Pc
open PySem PySem.Spec PyProof.Rows L2 RZ
section
variable {P : Program} {w : World} {K : PySem.W.Frag} {mg : Str → Option Value} {base : Heap}
/-! ### a source -/
def spBox (K : PySem.W.Frag) : Sp := fun vs H Q _ => ∃ (a : Addr) (ns : List Int) (k : Nat), vs = [.ref a, .int k] ∧ SqL K H a (ns.map V.int) ∧ k ≤ 100 ∧
  ∀ H' b, Same H H' → H b = none → Box 1000000000 H' b → Q (.ref b) H'
theorem ok_box (T : Env K mg) : FnOk P w K mg base CX0 1 T.f_box T.d_box ["_law_script", "_law_k"] (spBox K) := by
  refine T.F_box.ok sc_box (fun vs H Q E h => ?_) (fun cdv A outer s H vs Q E hr h => ?_)
  · obtain ⟨a, ns, k, rfl, _⟩ := h
    rfl
  · obtain ⟨a, ns, k, rfl, hS, hk, q⟩ := h
    refine ⟨_, pss_cons (ps_set (i := 2) sc_box.nd rfl (.inl rfl)
        (pe_ifExp (pt_cmpR op_lt (pv 1) (pe_callB call_len_seq (by rfl) T.n_len PySem.boot_len (pa_cons (pv 0) pa_nil)) (nomark _)) (pe_ix ix_list (pv 0) (pv 1) (fun _ _ => rfl)) pe_int))
      (pss_one (ps_ret (pe_lst (pa_cons
          (pe_op op_mul (pe_callB call_abs (by rfl) T.n_abs (by decide +kernel) (pa_cons (pv 2) pa_nil))
            (pe_callTy call_int1 (by rfl) T.n_int (by decide +kernel) (pa_cons (pe_cmpR op_ge (pe_callB call_abs (by rfl) T.n_abs (by decide +kernel) (pa_cons (pv 2) pa_nil)) (pe_op op_pow pe_int pe_int) (nomark _)) pa_nil)))
        (pa_cons (pe_op op_add (pe_op op_add (pe_op op_mod (pv 2) pe_int) (pe_op op_mul pe_int (pv 1))) pe_int)
        (pa_cons pe_int pa_nil)))))), ?_⟩
    refine ⟨.int k, rfl, .ref a, rfl, a, ns.map V.int, rfl, .inl hS, _, _, rfl, rfl, _, rfl, ite2 (fun e => ?_) (fun e => ?_)⟩
    · have e1 : k < ns.length := by
        have := of_decide_eq_true e
        rw [List.length_map] at this
        omega
      refine ⟨.ref a, rfl, .int k, rfl, a, _, _, _, rfl, rfl, hS, atI_nat (v := .int ns[k]) (by rw [List.getElem?_map, List.getElem?_eq_getElem e1]; rfl), ?_⟩
      revert e; generalize ns[k] = c; intro _
      refine ⟨_, rfl, _, rfl, _, rfl, _, rfl, 10, 18, rfl, rfl, ⟨by decide, by decide, by decide⟩, _, _, rfl, rfl, .inr ⟨_, rfl, _, _, rfl, rfl, .inr (in64 (one0 _)), _, rfl, _, _, rfl, rfl, (show (0 : Int) < 2305843009213693951 by decide), _, rfl, _, _, rfl, rfl, .inl ⟨by decide, by decide⟩, _, _, rfl, rfl, _, _, rfl, rfl, ?_⟩⟩
      refine ⟨by show 3 ≤ sizeLine; decide, fun b nb => q _ b (same_new nb) nb ⟨_, _, 0, upd_same, Int.mul_nonneg ?_ (one0 _).1, ?_, ?_, by decide, by decide⟩⟩
      · split <;> omega
      · omega
      · omega
    · refine ⟨_, rfl, _, rfl, _, rfl, _, rfl, 10, 18, rfl, rfl, ⟨by decide, by decide, by decide⟩, _, _, rfl, rfl, .inr ⟨_, rfl, _, _, rfl, rfl, .inr (in64 (one0 _)), _, rfl, _, _, rfl, rfl, (show (0 : Int) < 2305843009213693951 by decide), _, rfl, _, _, rfl, rfl, .inl ⟨by decide, by decide⟩, _, _, rfl, rfl, _, _, rfl, rfl, ?_⟩⟩
      refine ⟨by show 3 ≤ sizeLine; decide, fun b nb => q _ b (same_new nb) nb ⟨_, _, 0, upd_same, Int.mul_nonneg ?_ (one0 _).1, ?_, ?_, by decide, by decide⟩⟩
      · split <;> omega
      · omega
      · omega
end
end Pc
namespace Pc
open PySem PySem.Spec PyProof.Rows L2 RZ
section
variable {P : Program} {w : World} {K : PySem.W.Frag} {mg : Str → Option Value} {base : Heap}
/-! ### a draw below a span of at most ten million -/
def spTake : Sp := fun vs H Q _ => ∃ (b : Addr) (n : Nat) (s : Int), vs = [.ref b, .int s] ∧ Box (n + 1) H b ∧ 0 < s ∧ s ≤ 10000000 ∧
  ∀ (r : Int) (H' : Hp), 0 ≤ r → r < s → Box n H' b → Keep b H H' → Q (.int r) H'
theorem ok_take (T : Env K mg) : FnOk P w K mg base CX0 1 T.f_take T.d_take ["_law_box_here", "_law_span"] spTake := by
  refine T.F_take.ok sc_take (fun vs H Q E h => ?_) (fun cdv A outer s H vs Q E hr h => ?_)
  · obtain ⟨b, n, s, rfl, _⟩ := h
    rfl
  · obtain ⟨b, n, s, rfl, ⟨x, y, z, hb, hx, hy, hy2, hz, hz2⟩, hs, hs2, q⟩ := h
    refine ⟨_, pss_cons (ps_if (pt_cmpR op_gt (pe_ix ix_list (pv 0) pe_int (fun _ _ => rfl)) pe_int (nomark _))
        (pss_cons (ps_set (i := 2) sc_take.nd rfl (.inl rfl) (pe_op op_mod (pe_ix ix_list (pv 0) pe_int (fun _ _ => rfl)) (pv 1)))
        (pss_cons (ps_asg (pe_op op_fdiv (pe_ix ix_list (pv 0) pe_int (fun _ _ => rfl)) (pv 1)) (pg_sub (pv 0) pe_int set_list))
        (pss_one (ps_ret (pv 2))))) pss_nil)
      (pss_cons (ps_if (pt_cmpR op_gt (pv 1) (pe_op op_pow pe_int pe_int) (nomark _)) pss_never pss_nil)
      (pss_cons (ps_asg (pe_op op_add (pe_ix ix_list (pv 0) pe_int (fun _ _ => rfl)) pe_int) (pg_sub (pv 0) pe_int set_list))
      (pss_cons (ps_set (i := 3) sc_take.nd rfl (.inl rfl) (pe_op op_mod (pe_op op_pow (pe_op op_add (pe_ix ix_list (pv 0) pe_int (fun _ _ => rfl)) (pe_op op_mul pe_int (pe_ix ix_list (pv 0) pe_int (fun _ _ => rfl)))) pe_int) pe_int))
      (pss_one (ps_ret (pe_op op_mod (pe_op op_fdiv (pe_op op_mod (pe_op op_add (pe_op op_mul (pv 3) (pe_op op_add (pe_op op_mod (pv 3) pe_int) pe_int)) (pe_op op_mul (pe_ix ix_list (pv 0) pe_int (fun _ _ => rfl)) pe_int)) pe_int) pe_int) (pv 1))))))), ?_⟩
    have hS : SqL K H b [.int x, .int y, .int z] := .inl (.inl hb)
    refine ⟨.ref b, rfl, b, _, 0, .int x, rfl, rfl, hS, atI_nat (j := 0) rfl, x, 0, rfl, rfl, _, rfl, ite2 (fun e => ?_) (fun e => ?_)⟩
    · -- the number itself serves
      refine ⟨.ref b, rfl, b, _, 0, .int x, rfl, rfl, hS, atI_nat (j := 0) rfl, .int s, rfl, x, s, rfl, rfl, hs, ?_⟩
      refine ⟨.ref b, rfl, b, _, 0, .int x, rfl, rfl, hS, atI_nat (j := 0) rfl, .int s, rfl, x, s, rfl, rfl, ⟨hs, by omega⟩, .ref b, rfl, b, _, 0, 0, rfl, rfl, hb, rfl, ?_⟩
      refine ⟨_, rfl, q _ _ (Int.emod_nonneg _ (by omega)) (Int.emod_lt_of_pos _ hs) ⟨_, y, z, upd_same, ?_, hy, hy2, hz, by omega⟩ keep_upd⟩
      exact Int.ediv_nonneg hx (by omega)
    · refine ⟨.int s, rfl, 10, 7, rfl, rfl, ⟨by decide, by decide, by decide⟩, s, _, rfl, rfl, _, rfl, ite2 (fun e2 => ?_) (fun _ => ?_)⟩
      · have e3 := of_decide_eq_true e2
        have e4 : (10 : Int) ^ Int.toNat 7 = 10000000 := by decide
        rw [e4] at e3
        omega
      refine ⟨.ref b, rfl, b, _, 2, .int z, rfl, rfl, hS, atI_nat (j := 2) rfl, z, 1, rfl, rfl, .ref b, rfl, b, _, 2, 2, rfl, rfl, hb, rfl, ?_⟩
      have h2 : upd H b (.lst ([V.int x, V.int y, V.int z].set 2 (.int (z + 1)))) b = some (.lst [.int x, .int y, .int (z + 1)]) := upd_same
      have hS2 : SqL K (upd H b (.lst ([V.int x, V.int y, V.int z].set 2 (.int (z + 1))))) b [.int x, .int y, .int (z + 1)] := .inl (.inl h2)
      refine ⟨.ref b, rfl, b, _, 1, .int y, rfl, rfl, hS2, atI_nat (j := 1) rfl, .ref b, rfl, b, _, 2, .int (z + 1), rfl, rfl, hS2, atI_nat (j := 2) rfl, 39373, z + 1, rfl, rfl, .inl ⟨by decide, by decide⟩, y, _, rfl, rfl, _, 5, rfl, rfl, ⟨by decide, by decide, by omega⟩, _, 2147483647, rfl, rfl, (show (0 : Int) < 2147483647 by decide), ?_⟩
      have o1 : 0 ≤ (y + 39373 * (z + 1)) ^ Int.toNat 5 % 2147483647 := Int.emod_nonneg _ (by decide)
      have o2 : (y + 39373 * (z + 1)) ^ Int.toNat 5 % 2147483647 < 2147483647 := Int.emod_lt_of_pos _ (by decide)
      refine ⟨_, rfl, _, rfl, _, 40009, rfl, rfl, (show (0 : Int) < 40009 by decide), _, 7, rfl, rfl, _, _, rfl, rfl, .inl ⟨Int.lt_of_lt_of_le (by decide) o1, Int.lt_trans o2 (by decide)⟩, .ref b, rfl, b, _, 2, .int (z + 1), rfl, rfl, hS2, atI_nat (j := 2) rfl, z + 1, 7919, rfl, rfl, .inr ⟨by decide, by decide⟩, _, _, rfl, rfl, _, 2147483629, rfl, rfl, (show (0 : Int) < 2147483629 by decide), _, 64, rfl, rfl, ⟨by decide, by decide⟩, .int s, rfl, _, s, rfl, rfl, hs, ?_⟩
      exact q _ _ (Int.emod_nonneg _ (by omega)) (Int.emod_lt_of_pos _ hs) ⟨x, y, z + 1, h2, hx, hy, hy2, by omega, by omega⟩ keep_upd
end
end Pc
namespace Pc
open PySem PySem.Spec PyProof.Rows L2 RZ
/-! ### data -/
theorem dp_ints {K : PySem.W.Frag} {H : Hp} : ∀ ns : List Int, DpAll K H (ns.map V.int) (ns.map PyData.int)
  | [] => .nil
  | n :: r => .cons (.int n) (dp_ints r)
theorem lay_ints : ∀ ns : List Int, PyData.canLayAll0 (ns.map PyData.int) = true
  | [] => rfl
  | n :: r => by
    show (PyData.canLay0 (.int n) && PyData.canLayAll0 (r.map PyData.int)) = true
    rw [lay_ints r]; rfl
theorem depth_ints : ∀ ns : List Int, PyData.depthAll (ns.map PyData.int) = 0
  | [] => rfl
  | n :: r => by
    show max (PyData.depth (.int n)) (PyData.depthAll (r.map PyData.int)) = 0
    rw [depth_ints r]; rfl
theorem shaped_list {ds : List PyData} (h : PyData.canLayAll0 ds = true) (d : PyData.depthAll ds ≤ 63) : SeqAt.shaped (.list ds) = true := by
  unfold SeqAt.shaped
  rw [Bool.and_eq_true]
  exact ⟨h, decide_eq_true (show PyData.depthAll ds + 1 ≤ 64 by omega)⟩
theorem shaped_tuple {ds : List PyData} (h : PyData.canLayAll0 ds = true) (d : PyData.depthAll ds ≤ 63) : SeqAt.shaped (.tuple ds) = true := by
  unfold SeqAt.shaped
  rw [Bool.and_eq_true]
  exact ⟨h, decide_eq_true (show PyData.depthAll ds + 1 ≤ 64 by omega)⟩
theorem shaped_ints (ns : List Int) : SeqAt.shaped (.list (ns.map PyData.int)) = true := shaped_list (lay_ints ns) (by rw [depth_ints]; decide)
theorem shaped_intsT (ns : List Int) : SeqAt.shaped (.tuple (ns.map PyData.int)) = true := shaped_tuple (lay_ints ns) (by rw [depth_ints]; decide)
/-- what a slice of a list of ints is -/
theorem cut_ints (ns : List Int) (lo hi : Option Int) : ∃ ms : List Int, cutV (ns.map V.int) lo hi = ms.map V.int ∧ ms = (ns.drop (HT.sIx ns.length 0 lo)).take (HT.sIx ns.length ns.length hi - HT.sIx ns.length 0 lo) := by
  refine ⟨_, ?_, rfl⟩
  unfold cutV
  rw [List.length_map, List.map_take, List.map_drop]
theorem map_set_int (cs : List Int) (j : Nat) (v : Int) : (cs.map V.int).set j (.int v) = (cs.set j v).map V.int := by
  rw [List.map_set]
theorem small63 {n : Nat} (h : n ≤ 63) : n ≤ sizeLine := Nat.le_trans h (by decide)
end Pc
namespace Pc
open PySem PySem.Spec PyProof.Rows L2 RZ
section
variable {P : Program} {w : World} {K : PySem.W.Frag} {mg : Str → Option Value} {base : Heap}
/-! ### the numbers of the script, the later ones added to the first -/
def spCells (K : PySem.W.Frag) : Sp := fun vs H Q _ => ∃ (a : Addr) (ns : List Int) (m : Nat), vs = [.ref a, .int m] ∧ SqL K H a (ns.map V.int) ∧ ns.length ≤ 63 ∧ 0 < m ∧ m ≤ 60 ∧
  ∀ H' p (cs : List Int), Same H H' → H p = none → H' p = some (.lst (cs.map V.int)) → 1 ≤ cs.length → cs.length ≤ m → Q (.ref p) H'
theorem ok_cells (T : Env K mg) : FnOk P w K mg base CX0 1 T.f_cells T.d_cells ["_law_script", "_law_most"] (spCells K) := by
  refine T.F_cells.ok sc_cells (fun vs H Q E h => ?_) (fun cdv A outer s H vs Q E hr h => ?_)
  · obtain ⟨a, ns, m, rfl, _⟩ := h
    rfl
  · obtain ⟨a, ns, m, rfl, hS, hn, hm, hm2, q⟩ := h
    refine ⟨_, pss_cons (ps_set (i := 2) sc_cells.nd rfl (.inl rfl) (pe_callTy call_list_of (by rfl) T.n_list (by decide +kernel) (pa_cons (pe_slice sl_list (pv 0) po_none (po_some (pv 1))) pa_nil)))
      (pss_cons (ps_for PassesOwn.never rfl (pi_enum (by rfl) T.n_enumerate (pa_cons (pe_slice sl_list (pv 0) (po_some (pv 1)) (po_some pe_int)) pa_nil))
          (pg_tup rfl (pgs_cons (pg_name (i := 3) sc_cells.nd rfl (.inl rfl)) (pgs_cons (pg_name (i := 4) sc_cells.nd rfl (.inl rfl)) pgs_nil)))
        (pss_one (ps_asg (pe_op op_add (pe_ix ix_list (pv 2) (pe_op op_mod (pv 3) (pv 1)) (fun _ _ => rfl)) (pe_op op_mul (pv 4) (pe_op op_add (pv 3) pe_int)))
          (pg_sub (pv 2) (pe_op op_mod (pv 3) (pv 1)) set_list))))
      (pss_one (ps_ret (pe_ifExp (pt_cmpR (op_neD hr.units) (pv 2) (pe_lst pa_nil) (nomark _)) (pv 2) (pe_lst (pa_cons pe_int pa_nil)))))), ?_⟩
    obtain ⟨ms, e1, e2⟩ := cut_ints ns none (some (m : Int))
    obtain ⟨ls, e3, e4⟩ := cut_ints ns (some (m : Int)) (some 63)
    have f2 : ms.length = min m ns.length := by
      rw [e2, HT.sIx_none, HT.sIx_nat, List.length_take, List.drop_zero]
      omega
    have f4 : ls.length = ns.length - m := by
      rw [e4, HT.sIx_nat, show (63 : Int) = ((63 : Nat) : Int) from rfl, HT.sIx_nat, List.length_take, List.length_drop]
      omega
    -- the copy of the first ones
    refine ⟨.ref a, rfl, .int m, rfl, m, rfl, a, ns.map V.int, rfl, hS, fun c nc => ⟨c, _, rfl, .inl (.inl (.inl upd_same)), fun l nl => ?_⟩⟩
    rw [e1] at nl ⊢
    have s1 : Same H (upd (upd H c (.lst (ms.map V.int))) l (.lst (ms.map V.int))) := (same_new nc).trans (same_new nl)
    have nl0 : H l = none := (same_new nc).free nl
    -- the later ones
    refine ⟨.ref a, rfl, .int m, rfl, m, rfl, _, rfl, a, ns.map V.int, rfl, s1.seq hS, fun d nd => ?_⟩
    rw [e3]
    refine ⟨d, ls.map V.int, rfl, .inl (.inl upd_same), ?_⟩
    have s2 : Same H _ := s1.trans (same_new (o := .lst (ls.map V.int)) nd)
    have ldd : l ≠ d := ne_of_none upd_same nd
    refine for_it walk_enum (fun i σ H' => Same H H' ∧ H' d = some (.lst (ls.map V.int)) ∧ ∃ (y3 y4 : Option V) (cs : List Int), σ = [some (.ref a), some (.int m), some (.ref l), y3, y4] ∧ H' l = some (.lst (cs.map V.int)) ∧ cs.length = ms.length)
      ⟨s2, upd_same, none, none, ms, rfl, by rw [upd_ne ldd, upd_same], rfl⟩ (fun i σ H' _ h => .inl (.inl h.2.1)) (fun i x σ H1 H2 hi h y => ?_) (fun σ H' h => ?_)
    · obtain ⟨sm, ed, y3, y4, cs, rfl, el, ecl⟩ := h
      obtain ⟨t, v1, v2, rfl, nt, rfl, g1, g2⟩ := y
      rw [List.length_map] at hi
      have ev1 : v1 = .int (i : Nat) := (Option.some.inj g1).symm
      have ev2 : v2 = .int ls[i] := by
        have g3 : (ls.map V.int)[i]? = some v2 := g2
        rw [List.getElem?_map, List.getElem?_eq_getElem hi] at g3
        exact (Option.some.inj g3).symm
      subst ev1 ev2
      have hml : cs.length = m := by omega
      have hlt : l ≠ t := ne_of_none el nt
      have hdt : d ≠ t := ne_of_none ed nt
      have elt : (upd H1 t (.tup [.int (i : Nat), .int ls[i]])) l = some (.lst (cs.map V.int)) := by rw [upd_ne hlt]; exact el
      have him : ((i : Int) % (m : Int)) = ((i % m : Nat) : Int) := by omega
      have hjm : i % m < cs.length := by rw [hml]; exact Nat.mod_lt _ hm
      have hix : ixN (cs.map V.int).length ((i : Int) % (m : Int)) = some (i % m) := by
        rw [him]
        unfold ixN
        rw [List.length_map, if_pos (by omega), if_pos (by omega)]; rfl
      refine ⟨t, _, rfl, .inl (.inl upd_same), rfl, _, _, rfl, _, _, rfl, rfl, ?_⟩
      refine ⟨.ref l, rfl, .int (i : Nat), rfl, .int m, rfl, (i : Nat), m, rfl, rfl, (show (0 : Int) < m by omega), l, _, _, .int cs[i % m], rfl, rfl, .inl (.inl elt), ?_, ?_⟩
      · unfold atI
        show (ixN (cs.map V.int).length ((i : Int) % (m : Int))).bind _ = _
        rw [hix]
        show (cs.map V.int)[i % m]? = _
        rw [List.getElem?_map, List.getElem?_eq_getElem hjm]; rfl
      refine ⟨.int ls[i], rfl, .int (i : Nat), rfl, (i : Nat), 2, rfl, rfl, ls[i], _, rfl, rfl, .inr ⟨by omega, by omega⟩, cs[i % m], _, rfl, rfl, .ref l, rfl, .int (i : Nat), rfl, .int m, rfl, (i : Nat), m, rfl, rfl, (show (0 : Int) < m by omega), l, _, _, i % m, rfl, rfl, elt, hix, ?_⟩
      refine ⟨?_, ?_, _, _, cs.set (i % m) (cs[i % m] + ls[i] * ((i : Nat) + 2)), rfl, ?_, ?_⟩
      · intro b o hb
        have nb : b ≠ l := ne_of_none hb nl0
        rw [upd_ne nb]
        exact same_new nt _ _ (sm b o hb)
      · rw [upd_ne ldd.symm, upd_ne hdt]; exact ed
      · rw [upd_same, ← map_set_int]
      · rw [List.length_set]; exact ecl
    · obtain ⟨sm, ed, y3, y4, cs, rfl, el, ecl⟩ := h
      refine ⟨.ref l, rfl, Nat.zero_le _, fun e ne => ?_⟩
      have hle : l ≠ e := ne_of_none el ne
      have elx : (upd H' e (.lst [])) l = some (.lst (cs.map V.int)) := by rw [upd_ne hle]; exact el
      refine ⟨.list (cs.map PyData.int), .list [], .lst (.inl (.inl elx)) (dp_ints cs), .lst (.inl (.inl upd_same)) .nil, shaped_ints cs, by decide, _, rfl, ite2 (fun b => ?_) (fun b => ?_)⟩
      · have hne : cs ≠ [] := fun z => by
          subst z
          exact absurd b (by decide)
        have : 0 < cs.length := List.length_pos_iff.mpr hne
        exact ⟨.ref l, rfl, q _ l cs (sm.trans (same_new ne)) nl0 elx (by omega) (by omega)⟩
      · refine ⟨by show 1 ≤ sizeLine; decide, fun p np => ?_⟩
        have s3 := sm.trans (same_new (o := .lst []) ne)
        exact q _ p [0] (s3.trans (same_new np)) (s3.free np) upd_same (by decide) (by show 1 ≤ m; omega)
end
end Pc
namespace Pc
open PySem PySem.Spec PyProof.Rows L2 RZ
/-! ### xs != [] for any items -/
def rNeNil (K : PySem.W.Frag) : R2 := fun x y H Q => ∃ a b xs, x = .ref a ∧ y = .ref b ∧ SqL K H a xs ∧ SqL K H b [] ∧ Q (.bl (!xs.isEmpty)) H
theorem op_neNil {X : Cx} (hu : X.A.units + 64 < cLine) : OpR X (compareOp .NotEq) (rNeNil X.K) := by
  intro pins s σ H x y v u Q I rx ry h
  obtain ⟨a, b, xs, rfl, rfl, h1, h2, q⟩ := h
  cases rx; cases ry
  obtain ⟨its, rv, p1, _⟩ := I.list h1
  obtain ⟨its2, rv2, p2, _⟩ := I.list h2
  have l1 := rv.length
  have l2 := rv2.length
  have hu0 : X.A.units < cLine := by omega
  cases xs with
  | nil =>
    have z1 : its.length = 0 := l1.symm
    have z2 : its2.length = 0 := l2.symm
    refine SeqAt.RcNeAt.lists (e := fun _ => true) p1.isList p2.isList (by simp [z1, z2]) hu0 (fun j j1 _ => ?_) X.prog X.w X.xe _ ?_
    · rw [List.size_toArray] at j1; omega
    · rw [List.size_toArray, z1]
      exact ⟨.bl false, H, I, rfl, q⟩
  | cons z r =>
    have z1 : its.length ≠ 0 := by rw [← l1]; simp
    have z2 : its2.length = 0 := l2.symm
    refine SeqAt.RcNeAt.lists_lengths p1.isList p2.isList (by simp [z2, z1]) hu0 X.prog X.w X.xe _ ?_
    exact ⟨.bl true, H, I, rfl, q⟩
theorem perm_erase {α : Type} : ∀ {l : List α} {i : Nat} (h : i < l.length), (l[i] :: l.eraseIdx i).Perm l
  | a :: r, 0, _ => List.Perm.refl _
  | a :: r, i + 1, h => (List.Perm.swap a (r[i]'(Nat.lt_of_succ_lt_succ h)) (r.eraseIdx i)).trans ((perm_erase (l := r) (i := i) (Nat.lt_of_succ_lt_succ h)).cons a)
/-- the place of an index that is not negative -/
theorem seq_ix {i : Int} {n : Nat} (h0 : 0 ≤ i) (h : i < n) : seqIndex? i n = some i.toNat := seqIndex_of h0 h
end Pc
namespace Pc
open PySem PySem.Spec PyProof.Rows L2 RZ
section
variable {P : Program} {w : World} {K : PySem.W.Frag} {mg : Str → Option Value} {base : Heap}
/-! ### some things in drawn order -/
def spStrewn (K : PySem.W.Frag) : Sp := fun vs H Q _ => ∃ (b a : Addr) (n : Nat) (xs : List V), vs = [.ref b, .ref a] ∧ Box (n + xs.length) H b ∧ SqL K H a xs ∧ xs.length ≤ 1000 ∧
  ∀ (H' : Hp) (p : Addr) (ys : List V), ys.Perm xs → Keep b H H' → Box n H' b → H p = none → H' p = some (.lst ys) → Q (.ref p) H'
theorem ok_strewn (T : Env K mg) : FnOk P w K mg base CX0 2 T.f_strewn T.d_strewn ["_law_box_here", "_law_some"] (spStrewn K) := by
  have GT : FnOk P w K mg base CX0 1 T.f_take T.d_take ["_law_box_here", "_law_span"] spTake := ok_take T
  refine T.F_strewn.ok sc_strewn (fun vs H Q E h => ?_) (fun cdv A outer s H vs Q E hr h => ?_)
  · obtain ⟨b, a, n, xs, rfl, _⟩ := h
    rfl
  · obtain ⟨b, a, n, xs, rfl, hB, hS, hlen, q⟩ := h
    refine ⟨_, pss_cons (ps_par (by rfl) sc_strewn.nd (i := 2) (j := 3) rfl rfl (by decide) rfl rfl (pa_cons (pe_callTy call_list_of (by rfl) T.n_list (by decide +kernel) (pa_cons (pv 1) pa_nil)) (pa_cons (pe_lst pa_nil) pa_nil)) (by rfl))
      (pss_cons (ps_while PassesOwn.never (pt_cmpR (op_neNil hr.units) (pv 2) (pe_lst pa_nil) (nomark _))
        (pss_one (ps_expr (pe_bm PySem.F.plainAttrs_list PySem.F.slot_list_append PySem.F.type_list_append mt_append (pv 3) (pa_cons
          (pe_bm PySem.F.plainAttrs_list PySem.F.slot_list_pop PySem.F.type_list_pop mt_popAt (pv 2) (pa_cons
            (pe_call GT hr (by rfl) T.g_take T.F_take.kp T.b_take .nil pass0 (pa_cons (pv 0) (pa_cons (pe_callB call_len_seq (by rfl) T.n_len PySem.boot_len (pa_cons (pv 2) pa_nil)) pa_nil))) pa_nil)) pa_nil)))))
      (pss_one (ps_ret (pv 3)))), ?_⟩
    refine ⟨.ref a, rfl, a, xs, rfl, .inl hS, fun l nl => ⟨Nat.zero_le _, fun f nf => ⟨_, _, rfl, ?_⟩⟩⟩
    have s1 : Same H (upd (upd H l (.lst xs)) f (.lst [])) := (same_new nl).trans (same_new nf)
    have nf0 : H f = none := (same_new nl).free nf
    have hlf : l ≠ f := ne_of_none upd_same nf
    have hbl : b ≠ l := hB.ne_new nl
    have hbf : b ≠ f := hB.ne_new nf0
    refine ⟨fun m σ H' => ∃ left found : List V, σ = [some (.ref b), some (.ref a), some (.ref l), some (.ref f)] ∧ H' l = some (.lst left) ∧ H' f = some (.lst found) ∧ (left ++ found).Perm xs ∧ Box (n + left.length) H' b ∧ Keep b H H' ∧ left.length = m,
      ⟨xs.length, xs, [], rfl, by rw [upd_ne hlf, upd_same], upd_same, by rw [List.append_nil], hB.same s1, Keep.of_same s1, rfl⟩, fun m σ H' hW => ?_⟩
    obtain ⟨left, found, rfl, el, ef, hp, hb', hk, hm⟩ := hW
    refine ⟨.ref l, rfl, Nat.zero_le _, fun e ne => ⟨l, e, left, rfl, rfl, .inl (.inl ?_), .inl (.inl upd_same), _, rfl, ite2 (fun c => ?_) (fun c => ?_)⟩⟩
    · rw [upd_ne (ne_of_none el ne)]; exact el
    · -- one more is drawn
      have hl0 : 0 < left.length := by
        cases left with
        | nil => exact absurd c (by decide)
        | cons x r => exact Nat.succ_pos _
      have hll : left.length ≤ 1000 := by
        have := hp.length_eq
        rw [List.length_append] at this
        omega
      have el2 : (upd H' e (.lst [])) l = some (.lst left) := by rw [upd_ne (ne_of_none el ne)]; exact el
      have ef2 : (upd H' e (.lst [])) f = some (.lst found) := by rw [upd_ne (ne_of_none ef ne)]; exact ef
      refine ⟨fun σ' H2 => ∃ left' found' : List V, σ' = [some (.ref b), some (.ref a), some (.ref l), some (.ref f)] ∧ H2 l = some (.lst left') ∧ H2 f = some (.lst found') ∧ (left' ++ found').Perm xs ∧ Box (n + left'.length) H2 b ∧ Keep b H H2 ∧ left'.length + 1 = m,
        fun σ' H2 h2 => ?_, ?_⟩
      · obtain ⟨left', found', g1, g2, g3, g4, g5, g6, g7⟩ := h2
        exact ⟨left'.length, by omega, left', found', g1, g2, g3, g4, g5, g6, rfl⟩
      · refine ⟨.ref f, rfl, .inl ⟨rfl, _, .inl (.inl ef2)⟩, .ref l, rfl, .inl ⟨rfl, _, .inl (.inl el2)⟩, .ref b, rfl, .ref l, rfl, l, left, rfl, .inl (.inl (.inl el2)), ?_⟩
        refine ⟨b, n + (left.length - 1), left.length, rfl, (hb'.same (same_new ne)).mono (by omega), by omega, by omega, fun r H2 r0 r1 hb2 k2 => ?_⟩
        have el3 : H2 l = some (.lst left) := k2 l _ hbl.symm el2
        have ef3 : H2 f = some (.lst found) := k2 f _ hbf.symm ef2
        have hj : r.toNat < left.length := by omega
        refine ⟨l, left, r, r.toNat, left[r.toNat], rfl, rfl, el3, by omega, by omega, seq_ix r0 r1, List.getElem?_eq_getElem hj, ?_⟩
        have ef4 : (upd H2 l (.lst (left.eraseIdx r.toNat))) f = some (.lst found) := by rw [upd_ne hlf.symm]; exact ef3
        have hfl : found.length ≤ 1000 := by
          have := hp.length_eq
          rw [List.length_append] at this
          omega
        refine ⟨f, found, _, rfl, rfl, ef4, small1000 hfl, left.eraseIdx r.toNat, found ++ [left[r.toNat]], rfl, ?_, upd_same, ?_, ?_, ?_, ?_⟩
        · rw [upd_ne hlf, upd_same]
        · refine List.Perm.trans ?_ hp
          have p1 : (left[r.toNat] :: left.eraseIdx r.toNat).Perm left := perm_erase hj
          have p2 : (left.eraseIdx r.toNat ++ (found ++ [left[r.toNat]])).Perm (left[r.toNat] :: left.eraseIdx r.toNat ++ found) := by
            rw [← List.append_assoc]
            exact List.perm_append_comm.trans (by rw [List.singleton_append, List.cons_append])
          exact p2.trans (p1.append_right found)
        · have : (left.eraseIdx r.toNat).length = left.length - 1 := List.length_eraseIdx_of_lt hj
          rw [this]
          refine (hb2.keep (c := l) keep_upd hbl).keep (c := f) keep_upd hbf
        · intro x o nx hx
          have nxl : x ≠ l := ne_of_none hx nl
          have nxf : x ≠ f := ne_of_none hx nf0
          rw [upd_ne nxf, upd_ne nxl]
          exact k2 x o nx (same_new ne _ _ (hk x o nx hx))
        · rw [List.length_eraseIdx_of_lt hj]; omega
    · have hl0 : left = [] := by
        cases left with
        | nil => rfl
        | cons x r => exact absurd rfl c
      subst hl0
      have ef2 : (upd H' e (.lst [])) f = some (.lst found) := by rw [upd_ne (ne_of_none ef ne)]; exact ef
      exact ⟨.ref f, rfl, q _ f found hp (hk.trans (Keep.of_same (same_new ne))) (hb'.same (same_new ne)) nf0 ef2⟩
end
end Pc
namespace Pc
open PySem PySem.Spec PyProof.Rows L2 RZ
/-! ### pairings as lists of natural numbers -/
/-- the numbers as values -/
def nv (l : List Nat) : List V := l.map fun (i : Nat) => V.int (i : Int)
theorem nv_length (l : List Nat) : (nv l).length = l.length := List.length_map _
theorem nv_get {l : List Nat} {i x : Nat} (h : l[i]? = some x) : (nv l)[i]? = some (.int x) := by
  unfold nv; rw [List.getElem?_map, h]; rfl
theorem nv_at {l : List Nat} {i x : Nat} (h : l[i]? = some x) : atI (nv l) (i : Int) = some (.int x) := atI_nat (nv_get h)
theorem nv_set (l : List Nat) (i x : Nat) : (nv l).set i (.int (x : Int)) = nv (l.set i x) := by
  unfold nv; rw [List.map_set]
theorem nv_get' {l : List Nat} {i : Nat} {v : V} (h : (nv l)[i]? = some v) : ∃ x, l[i]? = some x ∧ v = .int (x : Int) := by
  unfold nv at h
  rw [List.getElem?_map] at h
  cases e : l[i]? with
  | none => rw [e] at h; cases h
  | some x => rw [e] at h; exact ⟨x, rfl, (Option.some.inj h).symm⟩
theorem ixN_nat {n i : Nat} (h : i < n) : ixN n (i : Int) = some i := by
  unfold ixN
  rw [if_pos (by omega), if_pos (by omega)]; rfl
theorem get_some {α : Type} {l : List α} {i : Nat} (h : i < l.length) : ∃ x, l[i]? = some x := ⟨_, List.getElem?_eq_getElem h⟩
theorem get_lt {α : Type} {l : List α} {i : Nat} {x : α} (h : l[i]? = some x) : i < l.length := (List.getElem?_eq_some_iff.mp h).1
/-- a pairing of n people -/
structure IsPair (n : Nat) (ps : List Nat) : Prop where
  len : ps.length = n
  par : ∀ x, x < n → ∃ y, ps[x]? = some y ∧ y < n ∧ y ≠ x ∧ ps[y]? = some x
/-- after t turns: the first t pairs are joined -/
def PInv (os fs : List Nat) (t : Nat) : Prop := fs.length = os.length ∧ ∀ j, j < t → ∀ x y, os[2 * j]? = some x → os[2 * j + 1]? = some y → fs[x]? = some y ∧ fs[y]? = some x
theorem PInv.step {os fs : List Nat} {t x y : Nat} (hnd : os.Nodup) (hlt : ∀ z ∈ os, z < os.length) (h : PInv os fs t) (hx : os[2 * t]? = some x) (hy : os[2 * t + 1]? = some y) :
    PInv os ((fs.set x y).set y x) (t + 1) := by
  obtain ⟨hl, hp⟩ := h
  have xl : x < fs.length := by rw [hl]; exact hlt x (List.mem_of_getElem? hx)
  have yl : y < fs.length := by rw [hl]; exact hlt y (List.mem_of_getElem? hy)
  have xy : x ≠ y := fun e => by
    subst e
    have := nd_ix hnd hx hy
    omega
  refine ⟨by rw [List.length_set, List.length_set, hl], fun j hj u v hu hv => ?_⟩
  by_cases e : j = t
  · subst e
    have e1 : u = x := Option.some.inj (hu.symm.trans hx)
    have e2 : v = y := Option.some.inj (hv.symm.trans hy)
    subst e1 e2
    refine ⟨?_, ?_⟩
    · rw [List.getElem?_set_ne (Ne.symm xy), List.getElem?_set_self xl]
    · rw [List.getElem?_set_self (by rw [List.length_set]; exact yl)]
  · obtain ⟨h1, h2⟩ := hp j (by omega) u v hu hv
    have a1 : x ≠ u := fun z => by subst z; have := nd_ix hnd hx hu; omega
    have a2 : y ≠ u := fun z => by subst z; have := nd_ix hnd hy hu; omega
    have a3 : x ≠ v := fun z => by subst z; have := nd_ix hnd hx hv; omega
    have a4 : y ≠ v := fun z => by subst z; have := nd_ix hnd hy hv; omega
    refine ⟨?_, ?_⟩
    · rw [List.getElem?_set_ne a2, List.getElem?_set_ne a1]; exact h1
    · rw [List.getElem?_set_ne a4, List.getElem?_set_ne a3]; exact h2
theorem PInv.done {os fs : List Nat} {n : Nat} (hp : os.Perm (List.range n)) (he : n % 2 = 0) (h : PInv os fs (n / 2)) : IsPair n fs := by
  have hl : os.length = n := by rw [hp.length_eq, List.length_range]
  have hnd : os.Nodup := hp.nodup_iff.mpr List.nodup_range
  refine ⟨by rw [h.1, hl], fun x hx => ?_⟩
  have hm : x ∈ os := hp.mem_iff.mpr (List.mem_range.mpr hx)
  obtain ⟨i, hi, ei⟩ := List.mem_iff_getElem.mp hm
  have gi : os[i]? = some x := by rw [List.getElem?_eq_getElem hi, ei]
  have lt_n : ∀ {k z : Nat}, os[k]? = some z → z < n := fun {k z} hz => List.mem_range.mp (hp.mem_iff.mp (List.mem_of_getElem? hz))
  by_cases hq : i % 2 = 0
  · have i1 : i + 1 < os.length := by omega
    obtain ⟨y, gy⟩ := get_some i1
    have g1 : os[2 * (i / 2)]? = some x := by rw [show 2 * (i / 2) = i by omega]; exact gi
    have g2 : os[2 * (i / 2) + 1]? = some y := by rw [show 2 * (i / 2) + 1 = i + 1 by omega]; exact gy
    obtain ⟨r1, r2⟩ := h.2 (i / 2) (by omega) x y g1 g2
    exact ⟨y, r1, lt_n gy, fun e => by subst e; have := nd_ix hnd gi gy; omega, r2⟩
  · have i1 : i - 1 < os.length := by omega
    obtain ⟨y, gy⟩ := get_some i1
    have g1 : os[2 * (i / 2)]? = some y := by rw [show 2 * (i / 2) = i - 1 by omega]; exact gy
    have g2 : os[2 * (i / 2) + 1]? = some x := by rw [show 2 * (i / 2) + 1 = i by omega]; exact gi
    obtain ⟨r1, r2⟩ := h.2 (i / 2) (by omega) y x g1 g2
    exact ⟨y, r2, lt_n gy, fun e => by subst e; have := nd_ix hnd gi gy; omega, r1⟩
/-- range(0, n, 2) -/
theorem fits_long {i : Int} (h1 : -(2 ^ 62) ≤ i) (h2 : i < 2 ^ 62) : Builtin.Range.rangeFitsLong i = true := by
  unfold Builtin.Range.rangeFitsLong
  rw [Bool.and_eq_true]
  exact ⟨decide_eq_true (by omega), decide_eq_true (by omega)⟩
theorem rgc_two {n : Nat} (h : n ≤ 1000000) : RgC 0 (n : Int) 2 ((n + 1) / 2) := by
  have e : Builtin.Range.rangeSize 0 (n : Int) 2 = (((n + 1) / 2 : Nat) : Int) := by
    unfold Builtin.Range.rangeSize
    rw [if_pos (by decide)]
    split <;> omega
  refine ⟨by decide, by decide, ?_, e⟩
  unfold Builtin.Range.small
  rw [e, fits_long (i := 0) (by decide) (by decide), fits_long (i := (n : Int)) (by omega) (by omega), fits_long (i := 2) (by decide) (by decide), fits_long (i := (((n + 1) / 2 : Nat) : Int)) (by omega) (by omega), if_pos (by decide), fits_long (i := (n : Int) + (2 - 1)) (by omega) (by omega), Bool.or_true]
  rfl
theorem rep_flat {α : Type} (n : Nat) (x : α) : (List.replicate n [x]).flatten = List.replicate n x := by
  induction n with
  | zero => rfl
  | succ n ih => rw [List.replicate_succ, List.flatten_cons, ih, List.replicate_succ]; rfl
end Pc
namespace Pc
open PySem PySem.Spec PyProof.Rows L2 RZ
section
variable {P : Program} {w : World} {K : PySem.W.Frag} {mg : Str → Option Value} {base : Heap}
/-! ### a pairing out of an order -/
def spPaired (K : PySem.W.Frag) : Sp := fun vs H Q _ => ∃ (a : Addr) (os : List Nat) (n : Nat), vs = [.ref a] ∧ SqL K H a (nv os) ∧ os.Perm (List.range n) ∧ n % 2 = 0 ∧ n ≤ 1000 ∧
  ∀ (H' : Hp) (p : Addr) (ps : List Nat), IsPair n ps → Same H H' → H p = none → H' p = some (.tup (nv ps)) → Q (.ref p) H'
theorem ok_paired (T : Env K mg) : FnOk P w K mg base CX0 1 T.f_paired T.d_paired ["_law_order"] (spPaired K) := by
  refine T.F_paired.ok sc_paired (fun vs H Q E h => ?_) (fun cdv A outer s H vs Q E hr h => ?_)
  · obtain ⟨a, os, n, rfl, _⟩ := h
    rfl
  · obtain ⟨a, os, n, rfl, hS, hp, he, hn, q⟩ := h
    refine ⟨_, pss_cons (ps_set (i := 1) sc_paired.nd rfl (.inl rfl) (pe_op op_rep (pe_lst (pa_cons pe_int pa_nil)) (pe_callB call_len_seq (by rfl) T.n_len PySem.boot_len (pa_cons (pv 0) pa_nil))))
      (pss_cons (ps_for PassesOwn.never rfl (pi_range3 rfl T.n_range (pa_cons pe_int (pa_cons (pe_callB call_len_seq (by rfl) T.n_len PySem.boot_len (pa_cons (pv 0) pa_nil)) (pa_cons pe_int pa_nil))))
          (pg_name (i := 2) sc_paired.nd rfl (.inl rfl))
        (pss_one (ps_asg (pe_tup (pa_cons (pe_ix ix_list (pv 0) (pe_op op_add (pv 2) pe_int) (fun _ _ => rfl)) (pa_cons (pe_ix ix_list (pv 0) (pv 2) (fun _ _ => rfl)) pa_nil)))
          (pg_tup rfl (pgs_cons (pg_sub (pv 1) (pe_ix ix_list (pv 0) (pv 2) (fun _ _ => rfl)) set_list) (pgs_cons (pg_sub (pv 1) (pe_ix ix_list (pv 0) (pe_op op_add (pv 2) pe_int) (fun _ _ => rfl)) set_list) pgs_nil))))))
      (pss_one (ps_ret (pe_callTy call_tuple_of (by rfl) T.n_tuple (by decide +kernel) (pa_cons (pv 1) pa_nil))))), ?_⟩
    have hl : os.length = n := by rw [hp.length_eq, List.length_range]
    have hl2 : (nv os).length = n := by rw [nv_length, hl]
    have hnd : os.Nodup := hp.nodup_iff.mpr List.nodup_range
    have hlt : ∀ z ∈ os, z < os.length := fun z hz => by rw [hl]; exact List.mem_range.mp (hp.mem_iff.mp hz)
    refine ⟨by show 1 ≤ sizeLine; decide, fun e ne => ?_⟩
    have s0 : Same H (upd H e (.lst [.int 0])) := same_new ne
    refine ⟨.ref a, rfl, a, nv os, rfl, .inl (s0.seq hS), e, _, [.int 0], rfl, rfl, upd_same, ?_, ?_, ?_, fun f nf => ?_⟩
    · rw [hl2]; omega
    · rw [hl2]; omega
    · rw [hl2]
      show 1 * Int.toNat (n : Int) ≤ sizeLine
      exact Nat.le_of_lt (small1000 (by omega))
    have s1 : Same H _ := s0.trans (same_new (o := .lst (List.replicate ((nv os).length : Int).toNat [V.int 0]).flatten) nf)
    have nf0 : H f = none := s0.free nf
    have e0 : (List.replicate ((nv os).length : Int).toNat [V.int 0]).flatten = nv (List.replicate n 0) := by
      rw [rep_flat, hl2, Int.toNat_natCast]
      unfold nv
      rw [List.map_replicate]; rfl
    refine ⟨.ref a, rfl, a, nv os, rfl, .inl (s1.seq hS), 0, _, 2, n / 2, rfl, ?_, ?_⟩
    · rw [hl2]
      have := rgc_two (n := n) (by omega)
      rw [show (n + 1) / 2 = n / 2 by omega] at this
      exact this
    refine for_rangeC (fun t σ H' => Same H H' ∧ ∃ (y : Option V) (fs : List Nat), σ = [some (.ref a), some (.ref f), y] ∧ H' f = some (.lst (nv fs)) ∧ PInv os fs t)
      ⟨s1, none, List.replicate n 0, rfl, by rw [upd_same, e0], by rw [List.length_replicate, hl], fun j hj => absurd hj (Nat.not_lt_zero _)⟩ (fun t σ H' ht h => ?_) (fun σ H' h => ?_)
    · obtain ⟨sm, y, fs, rfl, ef, pi⟩ := h
      obtain ⟨x1, g1⟩ := get_some (l := os) (i := 2 * t) (by omega)
      obtain ⟨x2, g2⟩ := get_some (l := os) (i := 2 * t + 1) (by omega)
      have hS' : SqL K H' a (nv os) := sm.seq hS
      have ea : atI (nv os) ((0 : Int) + (t : Nat) * 2) = some (.int x1) := by
        rw [show (0 : Int) + (t : Nat) * 2 = ((2 * t : Nat) : Int) by omega]; exact nv_at g1
      have eb : atI (nv os) ((0 : Int) + (t : Nat) * 2 + 1) = some (.int x2) := by
        rw [show (0 : Int) + (t : Nat) * 2 + 1 = ((2 * t + 1 : Nat) : Int) by omega]; exact nv_at g2
      have l1 : x1 < fs.length := by rw [pi.1]; exact hlt _ (List.mem_of_getElem? g1)
      have l2 : x2 < fs.length := by rw [pi.1]; exact hlt _ (List.mem_of_getElem? g2)
      refine ⟨.ref a, rfl, _, rfl, _, 1, rfl, rfl, a, _, _, _, rfl, rfl, hS', eb, .ref a, rfl, _, rfl, a, _, _, _, rfl, rfl, hS', ea, by show 2 ≤ sizeLine; decide, fun tp nt => ?_⟩
      have st : Same H' (upd H' tp (.tup [.int x2, .int x1])) := same_new nt
      have eft : (upd H' tp (.tup [.int x2, .int x1])) f = some (.lst (nv fs)) := st _ _ ef
      have nft : f ≠ tp := ne_of_none ef nt
      refine ⟨tp, _, rfl, .inl (.inl upd_same), rfl, _, _, rfl, .ref f, rfl, .ref a, rfl, _, rfl, a, _, _, _, rfl, rfl, st.seq hS', ea, f, _, _, x1, rfl, rfl, eft, ixN_nat (by rw [nv_length]; exact l1), ?_⟩
      have sq : SqL K (upd (upd H' tp (.tup [.int x2, .int x1])) f (.lst ((nv fs).set x1 (.int x2)))) a (nv os) := by
        have : ∀ b o, H b = some o → (upd (upd H' tp (.tup [.int x2, .int x1])) f (.lst ((nv fs).set x1 (.int x2)))) b = some o := fun b o hb => by
          rw [upd_ne (ne_of_none hb nf0)]; exact st _ _ (sm _ _ hb)
        exact Same.seq this hS
      refine ⟨_, _, rfl, .ref f, rfl, .ref a, rfl, _, rfl, _, 1, rfl, rfl, a, _, _, _, rfl, rfl, sq, eb, f, _, _, x2, rfl, rfl, upd_same, ?_, ?_⟩
      · rw [List.length_set]; exact ixN_nat (by rw [nv_length]; exact l2)
      · refine ⟨rfl, fun b o hb => ?_, _, (fs.set x1 x2).set x2 x1, rfl, ?_, pi.step hnd hlt g1 g2⟩
        · rw [upd_ne (ne_of_none hb nf0), upd_ne (ne_of_none hb nf0)]; exact st _ _ (sm _ _ hb)
        · rw [upd_same, nv_set, nv_set]
    · obtain ⟨sm, y, fs, rfl, ef, pi⟩ := h
      refine ⟨.ref f, rfl, f, _, rfl, .inl ⟨.inl (.inl ef), fun p np => ?_⟩⟩
      exact q _ p fs (pi.done hp he) (sm.trans (same_new np)) (sm.free np) upd_same
end
end Pc
namespace Pc
open PySem PySem.Spec PyProof.Rows L2 RZ
theorem perm_map_inv {α β : Type} (f : α → β) {zs ys : List β} (h : zs.Perm ys) : ∀ l : List α, zs = l.map f → ∃ l' : List α, ys = l'.map f ∧ l'.Perm l := by
  induction h with
  | nil => exact fun l e => ⟨l, e, List.Perm.refl _⟩
  | cons x _ ih =>
    intro l e
    cases l with
    | nil => cases e
    | cons a r =>
      injection e with e1 e2
      obtain ⟨l', h1, h2⟩ := ih r e2
      exact ⟨a :: l', by rw [h1, e1]; rfl, h2.cons a⟩
  | swap x y t =>
    intro l e
    cases l with
    | nil => cases e
    | cons a r =>
      cases r with
      | nil => injection e with _ e2; cases e2
      | cons b r =>
        injection e with e1 e2
        injection e2 with e2 e3
        exact ⟨b :: a :: r, by rw [e1, e2, e3]; rfl, List.Perm.swap _ _ _⟩
  | trans _ _ ih1 ih2 =>
    intro l e
    obtain ⟨l1, h1, h2⟩ := ih1 l e
    obtain ⟨l2, h3, h4⟩ := ih2 l1 h1
    exact ⟨l2, h3, h4.trans h2⟩
theorem rg_nv (n : Nat) : rgV 0 (n : Int) = nv (List.range n) := by
  unfold rgV nv
  rw [Int.sub_zero, Int.toNat_natCast]
  refine List.map_congr_left fun i _ => ?_
  rw [Int.zero_add]
end Pc
namespace Pc
open PySem PySem.Spec PyProof.Rows L2 RZ
section
variable {P : Program} {w : World} {K : PySem.W.Frag} {mg : Str → Option Value} {base : Heap}
/-! ### a drawn pairing -/
def spRandom : Sp := fun vs H Q _ => ∃ (b : Addr) (n k : Nat), vs = [.ref b, .int k] ∧ Box (n + k) H b ∧ k % 2 = 0 ∧ k ≤ 1000 ∧
  ∀ (H' : Hp) (p : Addr) (ps : List Nat), IsPair k ps → Keep b H H' → Box n H' b → H p = none → H' p = some (.tup (nv ps)) → Q (.ref p) H'
theorem ok_random (T : Env K mg) : FnOk P w K mg base CX0 3 T.f_random T.d_random ["_law_box_here", "_law_count"] spRandom := by
  have GS : FnOk P w K mg base CX0 2 T.f_strewn T.d_strewn ["_law_box_here", "_law_some"] (spStrewn K) := ok_strewn T
  have GP : FnOk P w K mg base CX0 1 T.f_paired T.d_paired ["_law_order"] (spPaired K) := ok_paired T
  refine T.F_random.ok sc_random (fun vs H Q E h => ?_) (fun cdv A outer s H vs Q E hr h => ?_)
  · obtain ⟨b, n, k, rfl, _⟩ := h
    rfl
  · obtain ⟨b, n, k, rfl, hB, he, hk, q⟩ := h
    refine ⟨_, pss_one (ps_ret (pe_call GP (hr.mono (by decide)) (by rfl) T.g_paired T.F_paired.kp T.b_paired .nil pass0 (pa_cons
      (pe_call GS hr (by rfl) T.g_strewn T.F_strewn.kp T.b_strewn .nil pass0 (pa_cons (pv 0) (pa_cons (pe_listRg rfl (by rfl) T.n_list (prg_1 (by rfl) T.n_range (pv 1))) pa_nil))) pa_nil))), ?_⟩
    refine ⟨.ref b, rfl, .int k, rfl, k, rfl, RgOk.of_le (by decide) (by omega) (by decide) (by omega), fun a na => ?_⟩
    have s1 : Same H _ := same_new (o := .lst (rgV 0 (k : Int))) na
    have hl : (rgV 0 (k : Int)).length = k := by rw [rgV_length]; omega
    refine ⟨b, a, n, _, rfl, (hB.same s1).mono (by rw [hl]; exact Nat.le_refl _), .inl (.inl upd_same), by rw [hl]; exact hk, fun H2 p2 ys hp hk2 hb2 np2 ep2 => ?_⟩
    obtain ⟨os, e1, e2⟩ := perm_map_inv (fun (i : Nat) => V.int (i : Int)) hp.symm (List.range k) (rg_nv k)
    have ep3 : H2 p2 = some (.lst (nv os)) := by rw [ep2, e1]; rfl
    refine ⟨p2, os, k, rfl, .inl (.inl ep3), e2, he, hk, fun H3 p ps hps s3 np ep => ?_⟩
    have k3 : Keep b H H3 := (Keep.of_same s1).trans (hk2.trans (Keep.of_same s3))
    refine q H3 p ps hps k3 (hb2.same s3) ?_ ep
    cases hh : H p with
    | none => rfl
    | some o =>
      have hpb : p ≠ b := fun z => by
        subst z
        obtain ⟨x, y, z, ex, _⟩ := hb2
        rw [ex] at np; cases np
      have := hk2 p o hpb (s1 p o hh)
      rw [this] at np; cases np
end
end Pc
namespace Pc
open PySem PySem.Spec PyProof.Rows L2 RZ
/-! ### data where more is tracked -/
theorem same_tup {K : PySem.W.Frag} {H H' : Hp} {a : Addr} {xs : List V} (e : Same H H') (h : SqT K H a xs) : SqT K H' a xs := by
  rcases h with (h | ⟨o, h⟩) | h
  · exact .inl (.inl (e _ _ h))
  · exact .inl (.inr ⟨o, e _ _ h⟩)
  · exact .inr h
mutual
theorem dp_same {K : PySem.W.Frag} {H H' : Hp} (e : Same H H') : ∀ {v : V} {d : PyData}, Dp K H v d → Dp K H' v d
  | _, _, .non => .non
  | _, _, .bl b => .bl b
  | _, _, .int i => .int i
  | _, _, .str x => .str x
  | _, _, .lst h a => .lst (e.seq h) (dpa_same e a)
  | _, _, .tup h a => .tup (same_tup e h) (dpa_same e a)
theorem dpa_same {K : PySem.W.Frag} {H H' : Hp} (e : Same H H') : ∀ {vs : List V} {ds : List PyData}, DpAll K H vs ds → DpAll K H' vs ds
  | _, _, .nil => .nil
  | _, _, .cons h a => .cons (dp_same e h) (dpa_same e a)
end
theorem dpa_len {K : PySem.W.Frag} {H : Hp} : ∀ {vs : List V} {ds : List PyData}, DpAll K H vs ds → vs.length = ds.length
  | _, _, .nil => rfl
  | _, _, .cons _ a => by rw [List.length_cons, List.length_cons, dpa_len a]
theorem dpa_get {K : PySem.W.Frag} {H : Hp} : ∀ {vs : List V} {ds : List PyData} {i : Nat} {v : V}, DpAll K H vs ds → vs[i]? = some v → ∃ d, ds[i]? = some d ∧ Dp K H v d
  | _, _, _, _, .nil, h => by simp at h
  | _, _, 0, _, .cons (d := d) h _, e => by
    cases Option.some.inj e
    exact ⟨d, rfl, h⟩
  | _, _, i + 1, v, .cons _ a, e => dpa_get (i := i) a e
theorem depth_get : ∀ {ds : List PyData} {i : Nat} {d : PyData}, ds[i]? = some d → d.depth ≤ PyData.depthAll ds
  | [], _, _, h => by simp at h
  | d :: r, 0, _, h => by
    cases Option.some.inj h
    exact Nat.le_max_left _ _
  | d :: r, i + 1, x, h => Nat.le_trans (depth_get (i := i) (ds := r) h) (Nat.le_max_right _ _)
mutual
/-- no list in it is longer than a hundred thousand -/
def narrow : PyData → Prop
  | .list xs => xs.length ≤ 100000 ∧ narrowAll xs
  | .tuple xs => xs.length ≤ 100000 ∧ narrowAll xs
  | _ => True
def narrowAll : List PyData → Prop
  | [] => True
  | x :: xs => narrow x ∧ narrowAll xs
end
theorem narrow_get : ∀ {ds : List PyData} {i : Nat} {d : PyData}, narrowAll ds → ds[i]? = some d → narrow d
  | [], _, _, _, h => by simp at h
  | d :: r, 0, _, n, h => by
    cases Option.some.inj h
    exact n.1
  | d :: r, i + 1, x, n, h => narrow_get (i := i) (ds := r) n.2 h
theorem narrow_of : ∀ {ds : List PyData}, (∀ d ∈ ds, narrow d) → narrowAll ds
  | [], _ => trivial
  | d :: r, h => ⟨h d List.mem_cons_self, narrow_of fun x hx => h x (List.mem_cons_of_mem _ hx)⟩
theorem narrow_ints (ns : List Int) : narrowAll (ns.map PyData.int) := narrow_of fun d hd => by
  obtain ⟨i, _, rfl⟩ := List.mem_map.mp hd
  exact trivial
theorem line_big {n : Nat} (h : n ≤ 100000) : n < sizeLine := Nat.lt_of_le_of_lt h (by decide)
theorem ty_lst {K : PySem.W.Frag} {H : Hp} {a : Addr} {xs : List V} (h : SqL K H a xs) : TyX K H (.ref a) (.type "list") := by
  rcases h with (h | ⟨o, h⟩) | ⟨o, its, n, h, c, _⟩
  · exact .base (.lst h)
  · exact .base (.frz h)
  · exact .kList h c
theorem ty_tup {K : PySem.W.Frag} {H : Hp} {a : Addr} {xs : List V} (h : SqT K H a xs) : TyX K H (.ref a) (.type "tuple") := by
  rcases h with (h | ⟨o, h⟩) | ⟨o, its, n, h, c, _⟩
  · exact .base (.tup h)
  · exact .fTuple h
  · exact .kTuple h c
theorem kit2 {K : PySem.W.Frag} {t a b : String} {p q : Bool} (h1 : kitB t a = some p) (h2 : kitB t b = some q) : PySem.W.kitAny K (.type t) [.type a, .type b] = some (p || q) := by
  refine kitAny_cons (kit_ty h1) (fun e => kitAny_cons (kit_ty h2) (fun e2 => ?_) (fun e2 => ?_)) (fun e => ?_)
  · subst e e2; rfl
  · subst e e2; rfl
  · subst e; rfl
section
variable {K : PySem.W.Frag}
theorem any_lt_int : PySem.W.kitAny K (.type "int") [.type "list", .type "tuple"] = some false := kit2 (p := false) (q := false) (by decide +kernel) (by decide +kernel)
theorem any_sb_int : PySem.W.kitAny K (.type "int") [.type "str", .type "bool"] = some false := kit2 (p := false) (q := false) (by decide +kernel) (by decide +kernel)
theorem any_bs_int : PySem.W.kitAny K (.type "int") [.type "bool", .type "str"] = some false := kit2 (p := false) (q := false) (by decide +kernel) (by decide +kernel)
theorem one_int_int : PySem.W.kitOne K (.type "int") (.type "int") = some true := kit_ty (by decide +kernel)
theorem one_int_bool : PySem.W.kitOne K (.type "int") (.type "bool") = some false := kit_ty (by decide +kernel)
theorem one_int_list : PySem.W.kitOne K (.type "int") (.type "list") = some false := kit_ty (by decide +kernel)
theorem one_int_tuple : PySem.W.kitOne K (.type "int") (.type "tuple") = some false := kit_ty (by decide +kernel)
theorem any_lt_none : PySem.W.kitAny K (.type "NoneType") [.type "list", .type "tuple"] = some false := kit2 (p := false) (q := false) (by decide +kernel) (by decide +kernel)
theorem any_sb_none : PySem.W.kitAny K (.type "NoneType") [.type "str", .type "bool"] = some false := kit2 (p := false) (q := false) (by decide +kernel) (by decide +kernel)
theorem any_bs_none : PySem.W.kitAny K (.type "NoneType") [.type "bool", .type "str"] = some false := kit2 (p := false) (q := false) (by decide +kernel) (by decide +kernel)
theorem one_none_int : PySem.W.kitOne K (.type "NoneType") (.type "int") = some false := kit_ty (by decide +kernel)
theorem one_none_bool : PySem.W.kitOne K (.type "NoneType") (.type "bool") = some false := kit_ty (by decide +kernel)
theorem one_none_list : PySem.W.kitOne K (.type "NoneType") (.type "list") = some false := kit_ty (by decide +kernel)
theorem one_none_tuple : PySem.W.kitOne K (.type "NoneType") (.type "tuple") = some false := kit_ty (by decide +kernel)
theorem any_lt_bool : PySem.W.kitAny K (.type "bool") [.type "list", .type "tuple"] = some false := kit2 (p := false) (q := false) (by decide +kernel) (by decide +kernel)
theorem any_sb_bool : PySem.W.kitAny K (.type "bool") [.type "str", .type "bool"] = some true := kit2 (p := false) (q := true) (by decide +kernel) (by decide +kernel)
theorem any_bs_bool : PySem.W.kitAny K (.type "bool") [.type "bool", .type "str"] = some true := kit2 (p := true) (q := false) (by decide +kernel) (by decide +kernel)
theorem one_bool_int : PySem.W.kitOne K (.type "bool") (.type "int") = some true := kit_ty (by decide +kernel)
theorem one_bool_bool : PySem.W.kitOne K (.type "bool") (.type "bool") = some true := kit_ty (by decide +kernel)
theorem one_bool_list : PySem.W.kitOne K (.type "bool") (.type "list") = some false := kit_ty (by decide +kernel)
theorem one_bool_tuple : PySem.W.kitOne K (.type "bool") (.type "tuple") = some false := kit_ty (by decide +kernel)
theorem any_lt_str : PySem.W.kitAny K (.type "str") [.type "list", .type "tuple"] = some false := kit2 (p := false) (q := false) (by decide +kernel) (by decide +kernel)
theorem any_sb_str : PySem.W.kitAny K (.type "str") [.type "str", .type "bool"] = some true := kit2 (p := true) (q := false) (by decide +kernel) (by decide +kernel)
theorem any_bs_str : PySem.W.kitAny K (.type "str") [.type "bool", .type "str"] = some true := kit2 (p := false) (q := true) (by decide +kernel) (by decide +kernel)
theorem one_str_int : PySem.W.kitOne K (.type "str") (.type "int") = some false := kit_ty (by decide +kernel)
theorem one_str_bool : PySem.W.kitOne K (.type "str") (.type "bool") = some false := kit_ty (by decide +kernel)
theorem one_str_list : PySem.W.kitOne K (.type "str") (.type "list") = some false := kit_ty (by decide +kernel)
theorem one_str_tuple : PySem.W.kitOne K (.type "str") (.type "tuple") = some false := kit_ty (by decide +kernel)
theorem any_lt_list : PySem.W.kitAny K (.type "list") [.type "list", .type "tuple"] = some true := kit2 (p := true) (q := false) (by decide +kernel) (by decide +kernel)
theorem any_sb_list : PySem.W.kitAny K (.type "list") [.type "str", .type "bool"] = some false := kit2 (p := false) (q := false) (by decide +kernel) (by decide +kernel)
theorem any_bs_list : PySem.W.kitAny K (.type "list") [.type "bool", .type "str"] = some false := kit2 (p := false) (q := false) (by decide +kernel) (by decide +kernel)
theorem one_list_int : PySem.W.kitOne K (.type "list") (.type "int") = some false := kit_ty (by decide +kernel)
theorem one_list_bool : PySem.W.kitOne K (.type "list") (.type "bool") = some false := kit_ty (by decide +kernel)
theorem one_list_list : PySem.W.kitOne K (.type "list") (.type "list") = some true := kit_ty (by decide +kernel)
theorem one_list_tuple : PySem.W.kitOne K (.type "list") (.type "tuple") = some false := kit_ty (by decide +kernel)
theorem any_lt_tuple : PySem.W.kitAny K (.type "tuple") [.type "list", .type "tuple"] = some true := kit2 (p := false) (q := true) (by decide +kernel) (by decide +kernel)
theorem any_sb_tuple : PySem.W.kitAny K (.type "tuple") [.type "str", .type "bool"] = some false := kit2 (p := false) (q := false) (by decide +kernel) (by decide +kernel)
theorem any_bs_tuple : PySem.W.kitAny K (.type "tuple") [.type "bool", .type "str"] = some false := kit2 (p := false) (q := false) (by decide +kernel) (by decide +kernel)
theorem one_tuple_int : PySem.W.kitOne K (.type "tuple") (.type "int") = some false := kit_ty (by decide +kernel)
theorem one_tuple_bool : PySem.W.kitOne K (.type "tuple") (.type "bool") = some false := kit_ty (by decide +kernel)
theorem one_tuple_list : PySem.W.kitOne K (.type "tuple") (.type "list") = some false := kit_ty (by decide +kernel)
theorem one_tuple_tuple : PySem.W.kitOne K (.type "tuple") (.type "tuple") = some true := kit_ty (by decide +kernel)
end
theorem cls2 (a b : String) : Paired ClsV [.ty a, .ty b] [.type a, .type b] := .cons (.ty a) (.cons (.ty b) .nil)
/-- zip of two tuples -/
theorem walk_zipT {K : PySem.W.Frag} {a b : Addr} {xs ys : List V} {n : Nat} (hn : n = min xs.length ys.length) : Walk (ItzT K a b) n (fun H => SqT K H a xs ∧ SqT K H b ys) (YPair (fun i => xs[i]?) (fun i => ys[i]?)) := by
  subst hn
  refine ⟨fun i _ hi q => ?_, fun _ q => ⟨xs, ys, q.1, q.2, by omega⟩, fun i H v H' _ q y => ?_⟩
  · obtain ⟨x, hx⟩ := get_some (l := xs) (i := i) (by omega)
    obtain ⟨z, hz⟩ := get_some (l := ys) (i := i) (by omega)
    exact ⟨xs, ys, x, z, q.1, q.2, hx, hz⟩
  · obtain ⟨T, x, z, h1, h2, h3, h4, h5⟩ := y
    exact ⟨T, x, z, h1, h2, h3, h4 xs q.1, h5 ys q.2⟩
theorem fn_never {P : Program} {w : World} {K : PySem.W.Frag} {mg : Str → Option Value} {base : Heap} {CX : CXT} {k : Nat} {f : Addr} {fd : FuncData} {ps : List Str} {sp : Sp} (h : ∀ vs H Q E, ¬ sp vs H Q E) : FnOk P w K mg base CX k f fd ps sp :=
  ⟨fun vs H Q E q => absurd q (h vs H Q E), fun _ _ _ H _ _ vs Q E _ _ _ _ q => absurd q (h vs H Q E)⟩
/-- a comprehension without a test -/
theorem yes_if {σ : L2.St} {H : Hp} {A B : Hp → Prop} (h : A H) : tYes σ H (fun b H3 => if b = true then A H3 else B H3) := by
  show if true = true then A H else B H
  exact iteT h
theorem all_rep : ∀ n : Nat, (List.replicate n true).all id = true
  | 0 => rfl
  | n + 1 => by rw [List.replicate_succ, List.all_cons, all_rep n]; rfl
end Pc
namespace Pc
open PySem PySem.Spec PyProof.Rows L2 RZ
section
variable {P : Program} {w : World} {K : PySem.W.Frag} {mg : Str → Option Value} {base : Heap}
/-! ### the same data twice -/
def spSame (K : PySem.W.Frag) (n : Nat) : Sp := fun vs H Q _ => ∃ (x y : V) (d : PyData), vs = [x, y] ∧ Dp K H x d ∧ Dp K H y d ∧ d.depth < n ∧ narrow d ∧ ∀ H', Same H H' → Q (.bl true) H'
theorem same_step (T : Env K mg) (n : Nat) (G : FnOk P w K mg base CX0 n T.f_same T.d_same ["_law_found", "_law_due"] (spSame K n)) : FnOk P w K mg base CX0 (n + 1) T.f_same T.d_same ["_law_found", "_law_due"] (spSame K (n + 1)) := by
  refine T.F_same.ok sc_same (fun vs H Q E h => ?_) (fun cdv A outer s H vs Q E hr h => ?_)
  · obtain ⟨x, y, d, rfl, _⟩ := h
    rfl
  · obtain ⟨x, y, d, rfl, hx, hy, hd, hw, q⟩ := h
    refine ⟨_, pss_cons (ps_if (pt_val (pe_callB call_isiT (by rfl) T.n_isinstance (by decide +kernel) (pa_cons (pv 1) (pa_cons (pe_tup (pa_cons (pe_bltn (v := .ty "list") (by rfl) T.n_list (by decide +kernel) rfl) (pa_cons (pe_bltn (v := .ty "tuple") (by rfl) T.n_tuple (by decide +kernel) rfl) pa_nil))) pa_nil))))
        (pss_cons (ps_if (PW.pt (pw_or (pt_cmpR op_ne (pe_callB call_isi (by rfl) T.n_isinstance (by decide +kernel) (pa_cons (pv 0) (pa_cons (pe_bltn (v := .ty "list") (by rfl) T.n_list (by decide +kernel) rfl) pa_nil))) (pe_callB call_isi (by rfl) T.n_isinstance (by decide +kernel) (pa_cons (pv 1) (pa_cons (pe_bltn (v := .ty "list") (by rfl) T.n_list (by decide +kernel) rfl) pa_nil))) (nomark _))
            (pw_or1 (pt_cmpR op_ne (pe_callB call_isi (by rfl) T.n_isinstance (by decide +kernel) (pa_cons (pv 0) (pa_cons (pe_bltn (v := .ty "tuple") (by rfl) T.n_tuple (by decide +kernel) rfl) pa_nil))) (pe_callB call_isi (by rfl) T.n_isinstance (by decide +kernel) (pa_cons (pv 1) (pa_cons (pe_bltn (v := .ty "tuple") (by rfl) T.n_tuple (by decide +kernel) rfl) pa_nil))) (nomark _)))))
          (pss_one (ps_ret pe_bl)) pss_nil)
        (pss_one (ps_ret (pe_and (pe_cmpR op_eq (pe_callB call_len_seq (by rfl) T.n_len PySem.boot_len (pa_cons (pv 0) pa_nil)) (pe_callB call_len_seq (by rfl) T.n_len PySem.boot_len (pa_cons (pv 1) pa_nil)) (nomark _))
          (pe_one (pe_callB (cr_all rfl) (by rfl) T.n_all (by decide +kernel) (pa_cons
            (pe_lc (own := [("_law_mine", 2), ("_law_its", 3)]) (g := gTup K 2 (gCons (gName 2) (gCons (gName 3) gNil))) (tt := tYes) (by rfl) sc_same.nd (pi_zipA (by rfl) T.n_zip (pa_cons (pv 0) (pa_cons (pv 1) pa_nil)))
              (blkOk_by (N := N_same) (sc := defScope s_same) (by decide +kernel))
              (fun _ _ _ _ _ => pg_tup (by rfl) (pgs_cons (pg_name (i := 2) sc_same.nd rfl (.inl rfl)) (pgs_cons (pg_name (i := 3) sc_same.nd rfl (.inl rfl)) pgs_nil)))
              (fun _ _ _ _ _ => pts_nil)
              (fun _ _ _ _ _ => pe_call G hr (by rfl) T.g_same T.F_same.kp T.b_same .nil pass0 (pa_cons (pv 2) (pa_cons (pv 3) pa_nil)))) pa_nil))))))) pss_nil)
      (pss_cons (ps_if (PW.pt (pw_or (pt_cmpR op_isN (pv 1) pe_non (nomark _)) (pw_or1 (pt_val (pe_callB call_isiT (by rfl) T.n_isinstance (by decide +kernel) (pa_cons (pv 1) (pa_cons (pe_tup (pa_cons (pe_bltn (v := .ty "str") (by rfl) T.n_str (by decide +kernel) rfl) (pa_cons (pe_bltn (v := .ty "bool") (by rfl) T.n_bool (by decide +kernel) rfl) pa_nil))) pa_nil)))))))
        (pss_one (ps_ret (pe_and (pe_cmpR op_eq (pv 0) (pv 1) (nomark _))
          (pe_and (pe_cmpR op_eq (pe_callB call_isi (by rfl) T.n_isinstance (by decide +kernel) (pa_cons (pv 0) (pa_cons (pe_bltn (v := .ty "bool") (by rfl) T.n_bool (by decide +kernel) rfl) pa_nil))) (pe_callB call_isi (by rfl) T.n_isinstance (by decide +kernel) (pa_cons (pv 1) (pa_cons (pe_bltn (v := .ty "bool") (by rfl) T.n_bool (by decide +kernel) rfl) pa_nil))) (nomark _))
          (pe_one (pe_cmpR op_eq (pe_cmpR op_isN (pv 0) pe_non (nomark _)) (pe_cmpR op_isN (pv 1) pe_non (nomark _)) (nomark _))))))) pss_nil)
      (pss_one (ps_ret (pe_and (pe_callB call_isi (by rfl) T.n_isinstance (by decide +kernel) (pa_cons (pv 0) (pa_cons (pe_bltn (v := .ty "int") (by rfl) T.n_int (by decide +kernel) rfl) pa_nil)))
        (pe_and (pe_not (pe_callB call_isi (by rfl) T.n_isinstance (by decide +kernel) (pa_cons (pv 0) (pa_cons (pe_bltn (v := .ty "bool") (by rfl) T.n_bool (by decide +kernel) rfl) pa_nil)))) (pe_one (pe_cmpR op_eq (pv 0) (pv 1) (nomark _)))))))), ?_⟩
    cases d with
    | dict _ => cases hx
    | int i =>
      cases hx; cases hy
      refine ⟨_, rfl, by show 2 ≤ sizeLine; decide, fun t nt => ⟨_, t, _, _, _, _, rfl, upd_same, cls2 _ _, .base (.int i), any_lt_int, _, rfl, iteF ?_⟩⟩
      refine ⟨_, rfl, rfl, _, rfl, iteF ⟨_, rfl, by show 2 ≤ sizeLine; decide, fun u nu => ⟨_, u, _, _, _, _, rfl, upd_same, cls2 _ _, .base (.int i), any_sb_int, _, rfl, iteF ?_⟩⟩⟩
      refine ⟨_, rfl, _, _, _, _, _, rfl, .ty _, .base (.int i), one_int_int, _, rfl, iteT ⟨_, rfl, _, _, _, _, _, rfl, .ty _, .base (.int i), one_int_bool, _, rfl, _, rfl, iteT ⟨_, rfl, _, rfl, rfl, ?_⟩⟩⟩
      rw [decide_eq_true rfl]
      exact q _ ((same_new nt).trans (same_new nu))
    | none =>
      cases hx; cases hy
      refine ⟨_, rfl, by show 2 ≤ sizeLine; decide, fun t nt => ⟨_, t, _, _, _, _, rfl, upd_same, cls2 _ _, .base .non, any_lt_none, _, rfl, iteF ?_⟩⟩
      refine ⟨_, rfl, rfl, _, rfl, iteT ?_⟩
      refine ⟨_, rfl, _, rfl, rfl, _, rfl, iteT ⟨_, rfl, _, _, _, _, _, rfl, .ty _, .base .non, one_none_bool, _, rfl, _, _, _, _, _, rfl, .ty _, .base .non, one_none_bool, rfl, _, rfl, iteT ⟨_, rfl, rfl, _, rfl, rfl, rfl, ?_⟩⟩⟩
      exact q _ (same_new nt)
    | bool b =>
      cases hx; cases hy
      refine ⟨_, rfl, by show 2 ≤ sizeLine; decide, fun t nt => ⟨_, t, _, _, _, _, rfl, upd_same, cls2 _ _, .base (.bl b), any_lt_bool, _, rfl, iteF ?_⟩⟩
      refine ⟨_, rfl, rfl, _, rfl, iteF ⟨_, rfl, by show 2 ≤ sizeLine; decide, fun u nu => ⟨_, u, _, _, _, _, rfl, upd_same, cls2 _ _, .base (.bl b), any_sb_bool, _, rfl, iteT ?_⟩⟩⟩
      refine ⟨_, rfl, _, rfl, rfl, _, rfl, ?_⟩
      rw [decide_eq_true rfl]
      refine iteT ⟨_, rfl, _, _, _, _, _, rfl, .ty _, .base (.bl b), one_bool_bool, _, rfl, _, _, _, _, _, rfl, .ty _, .base (.bl b), one_bool_bool, rfl, _, rfl, iteT ⟨_, rfl, rfl, _, rfl, rfl, rfl, ?_⟩⟩
      rw [decide_eq_true rfl]
      exact q _ ((same_new nt).trans (same_new nu))
    | str z =>
      cases hx; cases hy
      refine ⟨_, rfl, by show 2 ≤ sizeLine; decide, fun t nt => ⟨_, t, _, _, _, _, rfl, upd_same, cls2 _ _, .base (.str z), any_lt_str, _, rfl, iteF ?_⟩⟩
      refine ⟨_, rfl, rfl, _, rfl, iteF ⟨_, rfl, by show 2 ≤ sizeLine; decide, fun u nu => ⟨_, u, _, _, _, _, rfl, upd_same, cls2 _ _, .base (.str z), any_sb_str, _, rfl, iteT ?_⟩⟩⟩
      refine ⟨_, rfl, _, rfl, rfl, _, rfl, ?_⟩
      rw [decide_eq_true rfl]
      refine iteT ⟨_, rfl, _, _, _, _, _, rfl, .ty _, .base (.str z), one_str_bool, _, rfl, _, _, _, _, _, rfl, .ty _, .base (.str z), one_str_bool, rfl, _, rfl, iteT ⟨_, rfl, rfl, _, rfl, rfl, rfl, ?_⟩⟩
      rw [decide_eq_true rfl]
      exact q _ ((same_new nt).trans (same_new nu))
    | list ds =>
      cases hx with
      | lst hsx hax =>
      cases hy with
      | lst hsy hay =>
      rename_i a xs b ys
      have hlx := dpa_len hax
      have hly := dpa_len hay
      obtain ⟨hw1, hw2⟩ := hw
      refine ⟨_, rfl, by show 2 ≤ sizeLine; decide, fun t nt => ?_⟩
      have s1 : Same H (upd H t (.tup [.ty "list", .ty "tuple"])) := same_new nt
      have hsx1 := Same.seq s1 hsx
      have hsy1 := Same.seq s1 hsy
      refine ⟨_, t, _, _, _, _, rfl, upd_same, cls2 _ _, ty_lst hsy1, any_lt_list, _, rfl, iteT ?_⟩
      refine ⟨_, rfl, _, _, _, _, _, rfl, .ty _, ty_lst hsx1, one_list_list, _, rfl, _, _, _, _, _, rfl, .ty _, ty_lst hsy1, one_list_list, rfl, _, rfl, iteNS rfl ?_⟩
      refine ⟨_, rfl, _, _, _, _, _, rfl, .ty _, ty_lst hsx1, one_list_tuple, _, rfl, _, _, _, _, _, rfl, .ty _, ty_lst hsy1, one_list_tuple, rfl, _, rfl, iteNS rfl ?_⟩
      refine ⟨_, rfl, a, xs, rfl, .inl hsx1, _, rfl, b, ys, rfl, .inl hsy1, rfl, _, rfl, ?_⟩
      rw [decide_eq_true (show V.int (xs.length : Int) = V.int (ys.length : Int) by rw [hlx, hly])]
      refine iteT ⟨_, rfl, _, rfl, a, b, xs, ys, rfl, .inl ⟨hsx1, hsy1, fun D nD => ?_⟩⟩
      have nD0 : H D = none := s1.free nD
      refine lc_it (walk_zip (n := xs.length) (by omega)) (fun i H' => Same H H' ∧ H' D = some (.lst (List.replicate i (.bl true)))) ⟨s1.trans (same_new nD), upd_same⟩ (fun i H' _ h => ⟨Same.seq h.1 hsx, Same.seq h.1 hsy⟩) (fun i v H1 H2 hi h yy => ?_) (fun H' h => ?_)
      · obtain ⟨sm, eD⟩ := h
        obtain ⟨tp, u, v, rfl, nT, rfl, g1, g2⟩ := yy
        obtain ⟨d1, e1, f1⟩ := dpa_get hax g1
        obtain ⟨d2, e2, f2⟩ := dpa_get hay g2
        cases Option.some.inj (e1.symm.trans e2)
        have st : Same H (upd H1 tp (.tup [u, v])) := sm.trans (same_new nT)
        refine ⟨tp, _, rfl, .inl (.inl upd_same), rfl, _, _, rfl, _, _, rfl, rfl, rfl, yes_if ?_⟩
        refine ⟨_, rfl, _, rfl, u, v, d1, rfl, dp_same st f1, dp_same st f2, ?_, narrow_get hw2 e1, fun H3 s3 => ⟨_, s3 _ _ (same_new nT _ _ eD), ?_, ?_, ?_⟩⟩
        · have := depth_get e1
          have hd' : PyData.depthAll ds + 1 < n + 1 := hd
          omega
        · rw [List.length_replicate]
          exact line_big (by omega)
        · intro c o hc
          rw [upd_ne (ne_of_none hc nD0)]
          exact s3 _ _ (st _ _ hc)
        · rw [upd_same, List.replicate_succ']
      · obtain ⟨sm, eD⟩ := h
        refine ⟨D, List.replicate xs.length true, rfl, ?_, ?_⟩
        · rw [List.map_replicate]
          exact .inl (.inl eD)
        · rw [all_rep]
          exact q _ sm
    | tuple ds =>
      cases hx with
      | tup hsx hax =>
      cases hy with
      | tup hsy hay =>
      rename_i a xs b ys
      have hlx := dpa_len hax
      have hly := dpa_len hay
      obtain ⟨hw1, hw2⟩ := hw
      refine ⟨_, rfl, by show 2 ≤ sizeLine; decide, fun t nt => ?_⟩
      have s1 : Same H (upd H t (.tup [.ty "list", .ty "tuple"])) := same_new nt
      have hsx1 := same_tup s1 hsx
      have hsy1 := same_tup s1 hsy
      refine ⟨_, t, _, _, _, _, rfl, upd_same, cls2 _ _, ty_tup hsy1, any_lt_tuple, _, rfl, iteT ?_⟩
      refine ⟨_, rfl, _, _, _, _, _, rfl, .ty _, ty_tup hsx1, one_tuple_list, _, rfl, _, _, _, _, _, rfl, .ty _, ty_tup hsy1, one_tuple_list, rfl, _, rfl, iteNS rfl ?_⟩
      refine ⟨_, rfl, _, _, _, _, _, rfl, .ty _, ty_tup hsx1, one_tuple_tuple, _, rfl, _, _, _, _, _, rfl, .ty _, ty_tup hsy1, one_tuple_tuple, rfl, _, rfl, iteNS rfl ?_⟩
      refine ⟨_, rfl, a, xs, rfl, .inr hsx1, _, rfl, b, ys, rfl, .inr hsy1, rfl, _, rfl, ?_⟩
      rw [decide_eq_true (show V.int (xs.length : Int) = V.int (ys.length : Int) by rw [hlx, hly])]
      refine iteT ⟨_, rfl, _, rfl, a, b, xs, ys, rfl, .inr ⟨hsx1, hsy1, fun D nD => ?_⟩⟩
      have nD0 : H D = none := s1.free nD
      refine lc_it (walk_zipT (n := xs.length) (by omega)) (fun i H' => Same H H' ∧ H' D = some (.lst (List.replicate i (.bl true)))) ⟨s1.trans (same_new nD), upd_same⟩ (fun i H' _ h => ⟨same_tup h.1 hsx, same_tup h.1 hsy⟩) (fun i v H1 H2 hi h yy => ?_) (fun H' h => ?_)
      · obtain ⟨sm, eD⟩ := h
        obtain ⟨tp, u, v, rfl, nT, rfl, g1, g2⟩ := yy
        obtain ⟨d1, e1, f1⟩ := dpa_get hax g1
        obtain ⟨d2, e2, f2⟩ := dpa_get hay g2
        cases Option.some.inj (e1.symm.trans e2)
        have st : Same H (upd H1 tp (.tup [u, v])) := sm.trans (same_new nT)
        refine ⟨tp, _, rfl, .inl (.inl upd_same), rfl, _, _, rfl, _, _, rfl, rfl, rfl, yes_if ?_⟩
        refine ⟨_, rfl, _, rfl, u, v, d1, rfl, dp_same st f1, dp_same st f2, ?_, narrow_get hw2 e1, fun H3 s3 => ⟨_, s3 _ _ (same_new nT _ _ eD), ?_, ?_, ?_⟩⟩
        · have := depth_get e1
          have hd' : PyData.depthAll ds + 1 < n + 1 := hd
          omega
        · rw [List.length_replicate]
          exact line_big (by omega)
        · intro c o hc
          rw [upd_ne (ne_of_none hc nD0)]
          exact s3 _ _ (st _ _ hc)
        · rw [upd_same, List.replicate_succ']
      · obtain ⟨sm, eD⟩ := h
        refine ⟨D, List.replicate xs.length true, rfl, ?_, ?_⟩
        · rw [List.map_replicate]
          exact .inl (.inl eD)
        · rw [all_rep]
          exact q _ sm
theorem ok_same (T : Env K mg) : ∀ n : Nat, FnOk P w K mg base CX0 n T.f_same T.d_same ["_law_found", "_law_due"] (spSame K n)
  | 0 => fn_never fun vs H Q E h => by
    obtain ⟨x, y, d, _, _, _, hd, _⟩ := h
    exact absurd hd (Nat.not_lt_zero _)
  | n + 1 => same_step T n (ok_same T n)
end
end Pc
namespace Pc
open PySem PySem.Spec PyProof.Rows L2 RZ
/-! ### enumerate of a tuple -/
theorem draws_tuple {prog : Program} {w : World} {A : Around} (hh : A.handled = none) (it l : Addr) (hne : l ≠ it) (items : Array Value) :
    Draws prog w A it [it, l] items.size (fun i v => items[i]? = some v) (fun i h => h.IsTupleIter it l i ∧ h.IsTuple l items) where
  live i h st := by
    obtain ⟨⟨o, ho, _⟩, _⟩ := st
    exact ⟨o, ho⟩
  frame i h h' st hk := ⟨Heap.IsTupleIter.at st.1 (hk it (by simp)), Heap.IsTuple.at st.2 (hk l (by simp))⟩
  item i s Q E hi st hQ := by
    have hx : items[i]? = some items[i] := by simp [hi]
    exact nextOf_tuple_item st.1 st.2 hx fun h' hit' hs' => hQ _ h' s.toks hx ⟨hit', st.2.extBut hs'.extBut hne⟩ hs'
  done s Q E st hE := nextOf_tuple_end hh st.1 st.2 (by simp) hE
set_option maxHeartbeats 4000000 in
theorem enum_newT (l : Addr) (items : Array Value) (n : Nat) (dct : Option Addr) (sl : Array (Option Value)) :
    Meets (Builtin.«enumerate.__new__» ⟨[.type "enumerate", .ref l], []⟩) (fun _ R s =>
      s.heap.get? l = some { cls := .type "tuple", dict := dct, data := .seq items n, slots := sl } ∧
      R (.ok (.ret (.ref (s.heap.push { cls := .type "tuple_iterator", data := .fields #[.ref l, .int 0 0] }).objs.size)))
        { s with heap := Heap.push (s.heap.push { cls := .type "tuple_iterator", data := .fields #[.ref l, .int 0 0] }) { cls := .type "enumerate", data := .fields #[.none, .bool false, .ref s.heap.objs.size, rawInt 0, .none, .none] } }) := by
  refine .of_wp fun prog w A R s h => ?_
  obtain ⟨hp, g, d, tk, os⟩ := s
  obtain ⟨hl, h⟩ := h
  have subE := sub_enumerate
  have isT : Heap.IsTuple (Shared.heap ⟨hp, g, d, tk, os⟩) l items := ⟨_, hl, rfl, n, rfl⟩
  wp_walk using AutoSeq1.wpAny_loadPart' hl
  refine wpAny_stack_any fun st => wpAny_pure ?_
  split
  · rename_i c _ _ _ _ _
    cases (c == Value.type "enumerate") <;> (wp_walk using AutoSeq1.wpAny_loadPart' hl, wpAny_pyIter_tuple isT; exact ⟨_, rfl, h⟩)
  · wp_walk using AutoSeq1.wpAny_loadPart' hl, wpAny_pyIter_tuple isT
    exact ⟨_, rfl, h⟩
theorem call_enumT {prog : Program} {w : World} {A : Around} {E : Value → Shared → Prop} {s : Shared} {l : Addr} {items : Array Value} {Q : Value → Shared → Prop} (hL : s.heap.IsTuple l items)
    (h : ∀ h', IsEnum h' (s.heap.objs.size + 1) s.heap.objs.size 0 .none → h'.IsTupleIter s.heap.objs.size l 0 →
      (∀ b o, s.heap.get? b = some o → h'.get? b = some o) → Q (.ref (s.heap.objs.size + 1)) { s with heap := h' }) :
    wpAny (model prog w) A (call (.type "enumerate") [.ref l]) Q E s := by
  obtain ⟨⟨c, dct, dt, sl⟩, hl, hc, n, hd⟩ := hL
  have hc' : c = .type "tuple" := hc
  have hd' : dt = .seq items n := hd
  subst hc' hd'
  refine callType_new F.called_enumerate (by decide) (F.typeCall_enumerate_1 _) (F.newCall_enumerate_1 _) (fun obj => F.args_object_init_2 obj _) F.entry_enumerate_new (enum_newT l items n dct sl) ⟨hl, ?_⟩
  have hz : (s.heap.push { cls := .type "tuple_iterator", data := .fields #[.ref l, .int 0 0] }).objs.size = s.heap.objs.size + 1 := Heap.size_push ..
  have he := Heap.get?_push_size (s.heap.push { cls := .type "tuple_iterator", data := .fields #[.ref l, .int 0 0] })
    (o := { cls := .type "enumerate", data := .fields #[.none, .bool false, .ref s.heap.objs.size, rawInt 0, .none, .none] }) rfl
  rw [hz] at he
  show _ ∧ _
  rw [hz]
  exact ⟨⟨_, he, rfl⟩, h _ he ⟨{ cls := .type "tuple_iterator", data := .fields #[.ref l, .int 0 0] }, Heap.get?_push_of_some _ (Heap.get?_push_size _ rfl), rfl, rfl⟩ fun b o x => Heap.get?_push_of_some _ (Heap.get?_push_of_some _ x)⟩
/-- the tuple at a, its items in new pairs with their places -/
def IteT (K : PySem.W.Frag) (a : Addr) : It where
  go i H := ∃ (xs : List V) (x : V), SqT K H a xs ∧ xs[i]? = some x
  yld i H v H' := ∃ T x, v = .ref T ∧ H T = none ∧ H' = upd H T (.tup [.int (i : Nat), x]) ∧ ∀ xs, SqT K H a xs → xs[i]? = some x
  stop i H := ∃ xs : List V, SqT K H a xs ∧ xs.length ≤ i
theorem turn_enumT {P : Program} {w : World} {K : PySem.W.Frag} {elts : List Expr} {kk : Nat} {tpos : Pos} (a e it : Addr) (hei : e ≠ it) (hae : a ≠ e) (hai : a ≠ it) :
    Turn P w K (.Tuple elts kk tpos) (IteT K a) [e, it] e (fun i h => (∃ old, IsEnum h e it ((i : Nat) : Int) old) ∧ h.IsTupleIter it a i) where
  mem := by simp
  obj i h st b hb := by
    obtain ⟨⟨old, he⟩, ⟨o, ho, hc, hd⟩⟩ := st
    rcases (show b = e ∨ b = it by simpa using hb) with z | z
    · rw [z]; exact ⟨_, he, fun v q => nomatch q⟩
    · rw [z]; exact ⟨o, ho, fun v q => by rw [hd] at q; cases q⟩
  keep i h h' st k := by
    obtain ⟨⟨old, he⟩, hi⟩ := st
    exact ⟨⟨old, k e (by simp) _ he⟩, hi.at fun o q => k it (by simp) o q⟩
  item := by
    intro X hP hw hK hc i pins s σ H E I hf st hg
    subst hP hw hK
    obtain ⟨⟨old, he⟩, hit⟩ := st
    obtain ⟨xs, x, hq, hx⟩ := hg
    obtain ⟨its, rv, p, hz⟩ := I.tuple hq
    have p2 : s.heap.IsTuple a its.toArray := p
    obtain ⟨u, hu, ru⟩ := rv.get hx
    have hlt : i < its.toArray.size := by
      rw [List.size_toArray]
      exact get_lt hu
    have D := draws_tuple (prog := X.prog) (w := X.w) (A := X.A.in1) (show X.A.in1.handled = none from I.ok.hd hc) it a hai its.toArray
    have hel : e < s.heap.objs.size := Heap.lt_size he
    have hil : it < s.heap.objs.size := by obtain ⟨_, q, _⟩ := hit; exact Heap.lt_size q
    refine wpAny_pyNext_enum_itemD D he ⟨hit, p2⟩ hlt hei (by simp [hei, hae.symm]) fun y h' tk hy ho hst hT hsz hk => ?_
    have ey : y = u := by
      have : its.toArray[i]? = some y := hy
      rw [List.getElem?_toArray, hu] at this
      exact (Option.some.inj this).symm
    subst ey
    refine ⟨_, rfl, wpAny_letOwnedTupleGo_enum (s := { s with heap := h', toks := tk + 1 }) ho fun h'' he' sb => ?_⟩
    have hT2 : h''.get? s.heap.objs.size = some { cls := .type "tuple", data := .seq #[.int i tk, y] } := (sb.2 _ (Nat.ne_of_gt hel)).trans hT
    have new : ObjOk X.prog X.w (upd H s.heap.objs.size (.tup [.int (i : Nat), x])) h'' s.heap.objs.size (.tup [.int (i : Nat), x]) :=
      ⟨by show 2 ≤ sizeLine; decide, [.int i tk, y], .cons ⟨_, rfl⟩ (.cons ru .nil), ⟨_, hT2, rfl, _, rfl⟩⟩
    have I1 := I.turnedNew (t' := tk + 1) (h' := h'') (ch := [e, it]) (fun b ob hb q => (sb.2 b (fun z => hb (by simp [z]))).trans (hk b ob (fun z => hb (by simp [z])) (fun z => hb (by simp [z])) q)) hf (Nat.le_refl _) new
    refine ⟨.ref s.heap.objs.size, _, I1, rfl, ⟨_, x, rfl, I.hok.fresh (Nat.le_refl _), rfl, fun ys hy => by rw [I.tuple_inj hy hq]; exact hx⟩, ⟨⟨y, ?_⟩, hst.1.at fun o q => (sb.2 it hei.symm).trans q⟩, fun b hb => ?_⟩
    · rw [show ((i + 1 : Nat) : Int) = (i : Int) + 1 by omega]; exact he'
    · have hb' : b < s.heap.objs.size := by
        rcases (show b = e ∨ b = it by simpa using hb) with z | z
        · rw [z]; exact hel
        · rw [z]; exact hil
      rw [upd_ne (Nat.ne_of_lt hb')]
      exact (hf b hb).1
  done := by
    intro X hP hw hK hc i pins s σ H E I hf st hg
    subst hP hw hK
    obtain ⟨⟨old, he⟩, hit⟩ := st
    obtain ⟨xs, hq, hx⟩ := hg
    obtain ⟨its, rv, p, hz⟩ := I.tuple hq
    have p2 : s.heap.IsTuple a its.toArray := p
    obtain ⟨f0, f1, f2, f3, f4, f5⟩ := hf it (by simp)
    have hl := rv.length
    have hT : s.TypeIs (.ref e) "enumerate" := ⟨_, he, rfl⟩
    unfold pyNext
    refine wpAny_bind (wpAny_attempt (wpAny_callSpecial?_slot (name := Str.ofString "__next__") hT F.slot_enumerate_next (wpAny_call_entry F.slot_enumerate_next hT F.entry_enumerate_next ?_ (F.args_enumerate_next_1 _))))
    show wpAny _ _ (field (.ref e) 2 >>= _) _ _ _
    refine wpAny_bind (wpAny_field he rfl (x := .ref it) rfl ?_)
    refine wpAny_bind (nextOf_tuple_end (show X.A.in1.handled = none from I.ok.hd hc) hit p2 (by simp; omega) fun h' x he' hx' => ?_)
    obtain ⟨o, ho, hcl⟩ := hx'
    refine wpAny_bind (wpAny_isInstance (T := "StopIteration") (b := true) ⟨o, ho, hcl⟩ isSubtype_stop ?_)
    exact wpAny_pure ⟨rfl, I.turned (t' := s.toks) (fun b o hb q => he' b o hb q) f0 f1 f3 f4 f5⟩
  self A i s Q E st h := by
    obtain ⟨⟨_, he⟩, _⟩ := st
    exact wpAny_pyIter_enum he h
/-- enumerate of a list or a tuple -/
def iEnumA (K : PySem.W.Frag) (ta : TA) : TI := fun σ H R => ta σ H fun vs H1 => ∃ a xs, vs = [.ref a] ∧ ((SqL K H1 a xs ∧ R (Ite K a) H1) ∨ (SqT K H1 a xs ∧ R (IteT K a) H1))
theorem pi_enumA {X : Cx} {e : Expr} {ta : TA} {p pos tpos : Pos} {elts : List Expr} {kk : Nat} (hg : Gl X "enumerate") (hm : X.mg "enumerate" = none) (ha : PA X [e] ta) (hs : starEach [e] X.env = [(false, eval e X.env)] := by rfl) :
    PI X (.Tuple elts kk tpos) (.Call (.Name "enumerate" p) [e] [] pos) (iEnumA X.K ta) := by
  constructor
  intro pins s σ H R I h
  refine Call_ (ld_blt I hg hm boot_enumerate (callWith_type1 (thn (ha.run pos pins s σ H _ I h) fun us s1 r => ?_) hs rfl))
  obtain ⟨vs, H1, I1, r1, a, xs, ex, q1⟩ := r
  subst ex
  cases r1 with
  | cons r rr =>
    cases rr
    cases r
    have fr : ∀ b, b ∈ [s1.heap.objs.size + 1, s1.heap.objs.size] → FpOk X pins H1 b := fun b hb => by
      have hle : s1.heap.objs.size ≤ b := by
        rcases (show b = s1.heap.objs.size + 1 ∨ b = s1.heap.objs.size by simpa using hb) with z | z <;> omega
      exact I1.fpOk hle (I1.hok.fresh hle)
    rcases q1 with ⟨hq, q⟩ | ⟨hq, q⟩
    · obtain ⟨its, rv, p', hz⟩ := I1.list hq
      refine call_enumerate_list p'.isList fun h' he hit _ hk => wpAny_pyIter_enum he ?_
      exact ⟨_, _, _, _, H1, rfl, I1.kept (t' := s1.toks) hk, turn_enum a (s1.heap.objs.size + 1) s1.heap.objs.size, ⟨⟨.none, he⟩, hit, Nat.succ_ne_self _⟩, fr, q⟩
    · obtain ⟨its, rv, p', hz⟩ := I1.tuple hq
      have p2 : s1.heap.IsTuple a its.toArray := p'
      have hlt : a < s1.heap.objs.size := by obtain ⟨o, ho, _⟩ := p2; exact Heap.lt_size ho
      refine call_enumT p2 fun h' he hit hk => wpAny_pyIter_enum he ?_
      exact ⟨_, _, _, _, H1, rfl, I1.kept (t' := s1.toks) hk, turn_enumT a (s1.heap.objs.size + 1) s1.heap.objs.size (Nat.succ_ne_self _) (Nat.ne_of_lt (Nat.lt_succ_of_lt hlt)) (Nat.ne_of_lt hlt), ⟨⟨.none, he⟩, hit⟩, fr, q⟩
theorem walk_enumT {K : PySem.W.Frag} {a : Addr} {xs : List V} : Walk (IteT K a) xs.length (fun H => SqT K H a xs) (YPair (fun i => some (.int (i : Nat))) (fun i => xs[i]?)) where
  goes i H hi q := by
    obtain ⟨x, hx⟩ := get_some hi
    exact ⟨xs, x, q, hx⟩
  stops H q := ⟨xs, q, Nat.le_refl _⟩
  yields i H v H' hi q y := by
    obtain ⟨T, x, h1, h2, h3, h4⟩ := y
    exact ⟨T, .int (i : Nat), x, h1, h2, h3, rfl, h4 xs q⟩
end Pc
namespace Pc
open PySem PySem.Spec PyProof.Rows L2 RZ
/-! ### t[::-1] of a pair -/
section
variable {prog : Program} {w : World} {A : Around} {E : Value → Shared → Prop} {s : Shared}
theorem applied_rev2 {sl : Addr} {vk : Value} {Q : Int × Int × Nat → Shared → Prop} (hs : s.heap.IsSliceOf sl .none .none vk) (pk : IsPart vk (some (-1))) (h : Q (1, -1, 2) s) :
    wpAny (model prog w) A (Builtin.Slice.sliceApplied (.ref sl) (pure (2 : Int))) Q E s := by
  obtain ⟨os, hos, hcs, hds⟩ := id hs
  unfold Builtin.Slice.sliceApplied Builtin.Slice.sliceFields
  refine wpAny_bind (wpAny_bind (wpAny_field hos hds (x := .none) rfl ?_))
  refine wpAny_bind (wpAny_field hos hds (x := .none) rfl ?_)
  refine wpAny_bind (wpAny_field hos hds (x := vk) rfl (wpAny_pure ?_))
  refine wpAny_bind (HT.slicePart_ pk ?_)
  show wpAny _ _ (if ((-1 : Int) == 0) = true then _ else _) _ _ s
  rw [if_neg (by decide)]
  refine wpAny_bind (HT.slicePart_ .none (wpAny_bind (HT.slicePart_ .none (wpAny_bind (wpAny_pure ?_)))))
  exact wpAny_pure h
theorem item_rev2 {t sl : Addr} {u v vk : Value} {Q : Value → Shared → Prop} (ht : IsTup s.heap t #[u, v]) (hs : s.heap.IsSliceOf sl .none .none vk) (pk : IsPart vk (some (-1)))
    (h : Q (.ref s.heap.objs.size) { s with heap := s.heap.push { cls := .type "tuple", data := .seq #[v, u] } }) : wpAny (model prog w) A (getItem (.ref t) (.ref sl)) Q E s := by
  obtain ⟨os, hos, hcs, hds⟩ := id hs
  have hTs : s.TypeIs (.ref sl) "slice" := ⟨os, hos, hcs⟩
  unfold getItem
  try with_reducible refine wpAny_holding ?_
  first | refine wpAny_bind (wpAny_pure ?_) | skip
  refine wpAny_bind (wpAny_sequenceKey ht.typeIs (by decide) ?_)
  refine wpAny_bind (wpAny_callSpecial?_slot (name := Str.ofString "__getitem__") ht.typeIs PyProof.Rows.slot_tuple_getitem (wpAny_call_entry PyProof.Rows.slot_tuple_getitem ht.typeIs entry_tuple_getitem ?_ (args_tuple_getitem _ _)))
  show wpAny _ _ (Builtin.Tuple.tupleItemsOf (.ref t) >>= _) _ _ s
  refine wpAny_bind (tupleItemsOf_ ht ?_)
  refine wpAny_bind (wpAny_typeOf hTs ?_)
  rw [if_pos (by decide)]
  refine wpAny_bind (applied_rev2 hs pk ?_)
  show wpAny _ _ (if ((1 : Int) == 0 && (-1 : Int) == 1 && (2 : Nat) == 2) = true then _ else _) _ _ s
  rw [if_neg (by decide)]
  have e : ((List.range 2).filterMap fun (k : Nat) => (#[u, v] : Array Value)[((1 : Int) + (k : Int) * -1).toNat]?).toArray = #[v, u] := rfl
  rw [e]
  have hz : sizeOk (.seq (#[v, u] : Array Value)) := by show 2 ≤ sizeLine; decide
  first
    | exact wpAny_bind (m := Builtin.Tuple.tupleExact _) (wpAny_newObj_type (wpAny_pure ⟨_, rfl, wpAny_pure h⟩) hz)
    | exact wpAny_bind (wpAny_bind (m := Builtin.Tuple.tupleExact _) (wpAny_newObj_type (wpAny_pure (wpAny_pure ⟨_, rfl, wpAny_pure h⟩)) hz))
    | exact wpAny_bind (wpAny_bind (m := Builtin.Tuple.tupleExact _) (wpAny_newObj_type (wpAny_pure ⟨_, rfl, wpAny_pure h⟩) hz))
    | exact wpAny_bind (m := Builtin.Tuple.tupleExact _) (wpAny_newObj_type (wpAny_bind (wpAny_pure (wpAny_pure ⟨_, rfl, wpAny_pure h⟩))) hz)
end
def tRev2 (K : PySem.W.Frag) (te : TE) : TE := fun σ H Q => te σ H fun x H1 => ∃ a y z, x = .ref a ∧ SqT K H1 a [y, z] ∧ ∀ p, H1 p = none → Q (.ref p) (upd H1 p (.tup [z, y]))
theorem pe_rev2 {X : Cx} {e : Expr} {te : TE} {k : Nat} {p1 p2 p3 pos : Pos} (he : PE X e te) : PE X (.Subscript e (.Slice none none (some (.UnaryOp .USub (.Constant (.int 1) k p1) p2)) p3) pos) (tRev2 X.K te) := by
  constructor
  intro pins s σ H Q I h
  refine Subscript_ (thn (he.run pins s σ H _ I h) fun v s1 r => ?_)
  obtain ⟨x, H1, I1, r1, a, y, z, ex, hx, q⟩ := r
  subst ex
  cases r1
  have hst : PO X (some (.UnaryOp .USub (.Constant (.int 1) k p1) p2)) (tPart (tUn (rU fun i => .int (-i)) (tC (.int 1)))) := po_some (pe_un un_neg pe_int)
  refine wpAny_Slice (thn (po_none.run pins s1 σ H1 (fun o H2 => o = none ∧ H2 = H1) I1 ⟨rfl, rfl⟩) fun vl s2 ⟨l, H2, I2, pl, el, e2⟩ => ?_)
  subst el e2
  refine thn (po_none.run pins s2 σ H2 (fun o H3 => o = none ∧ H3 = H2) I2 ⟨rfl, rfl⟩) fun vu s3 ⟨u, H3, I3, pu, eu, e3⟩ => ?_
  subst eu e3
  refine thn (hst.run pins s3 σ H3 (fun o H4 => o = some (-1) ∧ H4 = H3) I3 ⟨1, rfl, -1, rfl, rfl, rfl⟩) fun vs s4 ⟨o, H4, I4, ps, eo, e4⟩ => ?_
  subst eo e4
  cases pl
  cases pu
  have I5 : Inv X pins σ H4 { s4 with heap := s4.heap.push { cls := .type "slice", data := .fields #[.none, .none, vs] } } := I4.kept (t' := s4.toks) fun b ob q => Heap.get?_push_of_some _ q
  obtain ⟨its, r, ht, hz⟩ := I5.tuple hx
  obtain ⟨w1, w2, ei, r1, r2⟩ := vals2 r
  subst ei
  show wpAny (model X.prog X.w) X.A (subscriptTail e (.Slice none none (some (.UnaryOp .USub (.Constant (.int 1) k p1) p2)) p3) (.ref a) (.ref s4.heap.objs.size)) (EP X pins σ Q) X.xe _
  refine tail_any (ops := [.ref a, .ref s4.heap.objs.size]) ht.typeIs PyProof.Rows.slot_tuple_getitem.lookup ?_ (by with_unfolding_all rfl)
  refine item_rev2 ht (Heap.IsSliceOf.new _ .none .none vs) ps ?_
  refine ⟨.ref _, _, I5.laid (t' := s4.toks) (o := .tup [z, y]) (fun b ob q => Heap.get?_push_of_some _ q) (Nat.le_refl _) ?_, rfl, q _ (I5.hok.fresh (Nat.le_refl _))⟩
  exact ⟨by show 2 ≤ sizeLine; decide, [w2, w1], .cons r2 (.cons r1 .nil), IsTup.new _ _⟩
end Pc
namespace Pc
open PySem PySem.Spec PyProof.Rows L2 RZ
/-! ### defs that run where no repr is under way (repr asks for that) -/
structure FnG (P : Program) (w : World) (K : PySem.W.Frag) (mg : Str → Option Value) (base : Heap) (CX : CXT) (k : Nat) (f : Addr) (fd : FuncData) (ps : List Str) (sp : Sp) : Prop where
  len : ∀ vs H Q E, sp vs H Q E → vs.length = ps.length
  run : ∀ (A : Around) (outer : List PySem.Env) (s : Shared) (H : Hp) (args : Args) (us : List Value) (vs : List V) (Q : VK) (E : XK), Room k A → A.guards = some [] → Env0 P w K mg base A outer s H →
    BindsTo s fd args (ps.zip us) → Vals vs us → sp vs H Q E → codeAny (model P w) A (.call (.ref f) args) (CR CX outer P w H s Q E) s
section
variable {P : Program} {w : World} {K : PySem.W.Frag} {mg : Str → Option Value} {base : Heap}
theorem fun_g {x qual : Str} {st : Stmt} {f : Addr} {fd : FuncData} {N ps : List Str} {k : Nat} {sp : Sp} (F : Fun K x qual st f fd) (S : FnScope N ps (defScope st)) (len : ∀ vs H Q E, sp vs H Q E → vs.length = ps.length)
    (hbody : ∀ (cdv : Value) (A : Around) (outer : List PySem.Env) (s : Shared) (H : Hp) (vs : List V) (Q : VK) (E : XK), Room k (A.deeper (envOfC qual (defScope st) s.heap.objs.size f cdv)) → A.guards = some [] → sp vs H Q E →
      ∃ t, PSs (cxOf CX0 P w K mg base N qual (defScope st) f cdv A outer s H E).nox (defBody st) t ∧ t { nx := fun _ H' => Q .non H', rt := Q } (start N vs) H) : FnG P w K mg base CX0 (k + 1) f fd ps sp := by
  obtain ⟨oc, od, kV, doc, pm, an, cdv, ct, osl, rfl, lk, hcd⟩ := F.ex
  constructor
  · exact len
  intro A outer s H args us vs Q E hr hgd e0 hb r hsp
  have hl := len _ _ _ _ hsp
  have up : ∀ b o, base.get? b = some o → s.heap.get? b = some o := fun b o e => (e0.bs b o e).1
  have KX : K.In s.heap := e0.mod.kin.keeps up
  have lim : s.heap.NoLimit := e0.mod.nolimit.keeps up
  obtain ⟨t, ht, hq⟩ := hbody cdv A outer s H vs Q E (hr.deeper _) hgd hsp
  refine codeAny_call_function hr.depth (KX _ _ lk) rfl S.co S.gen rfl (PySem.W.codeRec_of KX hcd) (hb _ _ _ _ ?_)
  refine wpAny_newFunctionEnv_cells S.kind ?_ ?_
  · rintro ⟨n, v⟩ hy
    rcases S.par n (List.of_mem_zip hy).1 with z | z
    · exact Or.inl z
    · exact Or.inr ⟨z, PySem.W.cellsFrom_some _ _ _ (Or.inl z)⟩
  intro env he s1 x
  subst he
  refine ⟨lim.keeps x.toInCall.keep, codeAny_func ?_⟩
  have I := inv_start (CX := CX0) (E := E) S hr.hd e0 hl r x
  refine wpAny_mono (ht.nox.run [] s1 (start N vs) H _ I hq) ?_ (fun _ _ z => z)
  intro fl s' hs
  cases fl with
  | brk => obtain ⟨_, _, _, z⟩ := hs; exact z.elim
  | cont => obtain ⟨_, _, _, z⟩ := hs; exact z.elim
  | next =>
    obtain ⟨σ', H', J, z⟩ := hs
    exact ⟨V.non, H', J.os, J.bare, J.base, J.hok, rfl, z⟩
  | ret u =>
    obtain ⟨v, σ', H', J, rv, z⟩ := hs
    exact ⟨v, H', J.os, J.bare, J.base, J.hok, rv, z⟩
end
section
variable {X : Cx} {CX : CXT} {k : Nat} {f : Addr} {fd : FuncData} {ps : List Str} {sp : Sp} {x : Str} {e : Expr} {es : List Expr} {ds : List Value} {dvs : List V} {E : XK} {t : TA} {p pos : Pos}
theorem pe_callG (F : FnG X.prog X.w X.K X.mg X.base CX k f fd ps sp) (hr : Room k X.A) (hgd : X.A.guards = some []) (hg : Gl X x) (hm : X.mg x = some (.ref f)) (hk : PySem.W.keepIn X.K (.ref f) = true) (hb : Binds X.K fd ps ds) (hd : Vals dvs ds) (hx : Passes CX X E)
    (ha : PA X (e :: es) t) (hdb : (x == ("__debug__" : Str)) = false := by decide) (he : starEach (e :: es) X.env = (false, eval e X.env) :: starEach es X.env := by rfl) (hpl : (backTo pos (starEach es X.env)).any (·.1) = false := by rfl) :
    PE X (.Call (.Name x p) (e :: es) [] pos) (tCall sp dvs E t) := by
  constructor
  intro pins s σ H Q I h
  refine wpAny_Call_Name_kw (ld_glob I hg hm ?_ hdb)
  refine PySem.W.callWith_K (h₀ := X.base) I.ok.mod.kin hk (thn (ha.run pos pins s σ H _ I h) ?_) he hpl
  rintro us s1 ⟨vs, H1, I1, r, q⟩
  refine ⟨I1.kIn, ?_⟩
  have r2 : Vals (vs ++ dvs) (us ++ ds) := r.append hd
  have hl : (us ++ ds).length = ps.length := by
    rw [← r2.length]
    exact F.len _ _ _ _ q
  refine wpAny_call (codeAny_mono (F.run X.A X.stack s1 H1 ⟨us, []⟩ (us ++ ds) (vs ++ dvs) Q E hr hgd I1.env0 (hb s1 us I1.kIn hl) r2 q) ?_)
  intro res s' hq
  cases res with
  | error e => exact hx pins σ H1 s1 e s' I1 hq
  | ok fl =>
    cases fl with
    | ret u => exact I1.after hq
    | next => exact hq.elim
    | brk => exact hq.elim
    | cont => exact hq.elim
end
/-! ### the law's own call, where no repr is under way -/
theorem law_g {P : Program} {w : World} {K : PySem.W.Frag} {mg mb : Str → Option Value} {CX : CXT} {k : Nat} {fa a : Addr} {fd : FuncData} {x : Str} {sp : Sp} {s₁ : Shared} {vs : List Value} {ns : List Int}
    (KX : K.In s₁.heap) (hns : s₁.heap.Ns mainGlobals mg) (hb : s₁.heap.Ns builtinsNs mb) (hbb : ∀ x : Str, x ≠ "__name__" → mb x = bootBuiltins x) (hlim : s₁.heap.NoLimit) (hg : s₁.gens = #[])
    (ha : s₁.heap.get? a = some { cls := .type "list", data := .seq vs.toArray }) (hi : IntsAre vs ns) (hl : ns.length ≤ sizeLine) (hr : Room k callerA)
    (F : ∀ base : Heap, K.In base → base.Ns mainGlobals mg → FnG P w K mg base CX k fa fd [x] sp) (hbind : ∀ (s : Shared) (u : Value), BindsTo s fd ⟨[u], []⟩ [(x, u)])
    (hsp : ∀ H : Hp, SqL K H a (ns.map V.int) → sp [.ref a] H (fun v _ => v = .bl true) fun _ _ _ => False)
    (hCX : ∀ H e s', CX [] H s₁ (fun _ _ _ => False) e s' → False) :
    codeAny (model P w) callerA (.call (.ref fa) ⟨[.ref a], []⟩) (fun r s' => r = .ok (.ret (.bool true)) ∧ OldK s₁.heap s'.heap ∧ s'.os = s₁.os ∧ AllBare s'.gens) s₁ := by
  have rv := vals_ints hi
  have len0 := hi.length
  let lo : Obj := { cls := .type "list", data := .seq vs.toArray }
  have main : ∀ H : Hp, SqL K H a (ns.map V.int) → HOk P w H s₁.heap → (∀ b u, H b = some u → b = a ∧ u = .frz lo (.lst (ns.map V.int)) ∧ K.lookup a = none) →
      codeAny (model P w) callerA (.call (.ref fa) ⟨[.ref a], []⟩) (fun r s' => r = .ok (.ret (.bool true)) ∧ OldK s₁.heap s'.heap ∧ s'.os = s₁.os ∧ AllBare s'.gens) s₁ := by
    intro H hS hok hA
    have free : ∀ {b : Addr} {o : Obj}, s₁.heap.get? b = some o → (∀ n, o.data ≠ .seq vs.toArray n) → H b = none := by
      intro b o e d
      cases z : H b with
      | none => rfl
      | some u =>
        obtain ⟨rfl, _⟩ := hA b u z
        rw [ha] at e
        cases e
        exact absurd rfl (d _)
    have nsK : ∀ {b : Addr} {m : Str → Option Value}, s₁.heap.Ns b m → (hidT s₁.heap H).Ns b m := by
      rintro b m ⟨o, es, ep, e, d, r⟩
      exact ⟨o, es, ep, hidT_get e (free e fun n => by rw [d]; exact fun z => nomatch z), d, r⟩
    have hKb : K.In (hidT s₁.heap H) := by
      intro b o e
      refine hidT_get (KX b o e) ?_
      cases z : H b with
      | none => rfl
      | some u =>
        obtain ⟨rfl, _, hn⟩ := hA b u z
        rw [hn] at e
        cases e
    obtain ⟨mc, l1, l2⟩ := hlim
    have e0 : Env0 P w K mg (hidT s₁.heap H) callerA [] s₁ H :=
      { frames := rfl, mod := ⟨hKb, nsK hns, ⟨mb, nsK hb, hbb⟩, ⟨mc, nsK l1, l2⟩⟩, bs := fun b o e => of_hidT e, bsz := Nat.le_of_eq (hidT_size _ _), funs := trivial, frf := fun b hb => absurd (show b ∈ ([] : List Addr) from hb) (by simp), hok := hok, bare := .of_eq hg }
    have R := (F _ hKb (nsK hns)).run callerA [] s₁ H ⟨[.ref a], []⟩ [.ref a] [.ref a] _ _ hr rfl e0 (hbind s₁ (.ref a)) (.cons rfl .nil) (hsp H hS)
    refine codeAny_mono R ?_
    intro res s' h
    cases res with
    | error e => exact (hCX H e s' h).elim
    | ok fl =>
      cases fl with
      | next => exact h.elim
      | brk => exact h.elim
      | cont => exact h.elim
      | ret u =>
        obtain ⟨v, H', os, bare, un, hok', r', q⟩ := h
        have q' : v = .bl true := q
        subst q'
        obtain rfl : u = Value.bool true := r'
        refine ⟨rfl, OldK.of_keep ?_, os, bare⟩
        intro b o e
        cases z : H b with
        | none => exact un.keep b o e z (fun y => absurd (show b ∈ ([] : List Addr) from y) (by simp)) (by simp)
        | some u =>
          obtain ⟨rfl, rfl, _⟩ := hA b u z
          obtain ⟨g1, _⟩ := hok _ _ z
          obtain ⟨g2, _⟩ := hok' _ _ (un.frzs _ lo _ z)
          rw [e] at g1
          cases g1
          exact g2
  cases hk : K.lookup a with
  | some o =>
    have e := KX a o hk
    rw [ha] at e
    cases e
    refine main (fun _ => none) ?_ (fun b u z => nomatch z) (fun b u z => nomatch z)
    exact Or.inr ⟨_, vs.toArray, _, hk, rfl, rfl, rfl, by rw [List.size_toArray, len0]; exact hl, by simpa using rv⟩
  | none =>
    have sp1 : ∀ b u, (upd (fun _ => none) a (.frz lo (.lst (ns.map V.int)))) b = some u → b = a ∧ u = .frz lo (.lst (ns.map V.int)) ∧ K.lookup a = none := by
      intro b u z
      by_cases hba : b = a
      · subst hba
        rw [upd_same] at z
        exact ⟨rfl, (Option.some.inj z).symm, hk⟩
      · rw [upd_ne hba] at z
        cases z
    refine main (upd (fun _ => none) a (.frz lo (.lst (ns.map V.int)))) (Or.inl (Or.inr ⟨lo, upd_same⟩)) ?_ sp1
    intro b u z
    obtain ⟨rfl, rfl, _⟩ := sp1 b u z
    exact ⟨ha, by rw [List.length_map]; exact hl, vs, _, rv, ha⟩
theorem walk_g {l : PySem.W.OpenLaw} {n k : Nat} {q : Program} {loose : List Str} {XP : (Str → Option Value) → Heap → Prop} {YP : World → Heap → Prop} {d : DefRec} {K : Params → PySem.W.Frag} {sp : World → Sp} {x : Str}
    (hn : l.most = some n) (hn2 : n ≤ sizeLine) (hdf : d.params.defaults = []) (hr : Room k callerA) (hY : ∀ (w : World) (h : Heap), YP w h → (K w.params).In h)
    (F : ∀ (w : World) (mg : Str → Option Value) (fa : Addr) (h : Heap), (K w.params).In h → h.Ns mainGlobals mg → mg d.name = some (.ref fa) →
      ∃ fd : FuncData, (∀ (s : Shared) (u : Value), BindsTo s fd ⟨[u], []⟩ [(x, u)]) ∧ ∀ base : Heap, (K w.params).In base → base.Ns mainGlobals mg → FnG l.prog w (K w.params) mg base CX0 k fa fd [x] (sp w))
    (hsp : ∀ (w : World) (H : Hp) (a : Addr) (ns : List Int), ns.length ≤ n → SqL (K w.params) H a (ns.map V.int) → sp w [.ref a] H (fun v _ => v = .bl true) fun _ _ _ => False) :
    PySem.W.WalkO q loose XP YP l.row.toRowW d [] (fun f vs => PySem.call f vs) := by
  refine Att.attach_call hn hdf ?_
  intro w s₀ s₁ mg mb fa o pm cd doc a vs ns G Y ho hd hcd hmg hobj hints hlen hg
  obtain ⟨fd, hb, hF⟩ := F w mg fa _ (hY w _ Y) G.T.g hmg
  exact law_g (hY w _ Y) G.T.g G.T.b G.T.builtins G.T.nolimit hg hobj hints (Nat.le_trans hlen hn2) hr hF hb (fun H hS => hsp w H a ns hlen hS) fun _ _ _ z => z
/-! ### repr of data -/
theorem call_reprD {X : Cx} (hgd : X.A.guards = some []) (hu : X.A.units + 64 < cLine) : CallR X (.builtin "repr") (fun xs H Q => ∃ (a : Addr) (d : PyData), xs = [.ref a] ∧ Dp X.K H (.ref a) d ∧ d.canLay0 = true ∧ d.showable = true ∧ d.depth ≤ 60 ∧ d.shown.length ≤ sizeLine ∧ Q (.str d.shown) H) := by
  intro pins s σ H xs us Q I r h
  obtain ⟨a, d, rfl, hd, hl, hs, hdp, hz, q⟩ := h
  obtain ⟨u, rfl, ru⟩ := vals1 r
  cases ru
  obtain ⟨as, rd⟩ := Dp.reads I d (.ref a) (.ref a) hd rfl
  refine repr_of_reads' rd hs (PyData.noDict_hsm (PyData.hasDict_of_canLay d hl)) hgd (by omega) (fun _ _ e => e) ?_ hz
  intro h' u tk hk
  exact ⟨.str d.shown, H, I.kept (t' := tk) hk, ⟨u, rfl⟩, q⟩
end Pc
namespace Pc
open PySem PySem.Spec PyProof.Rows L2 RZ
/-! ### data of small size: its depth is at most k, its text has at most m signs -/
structure Fine (k m : Nat) (d : PyData) : Prop where
  lay : d.canLay0 = true
  show_ : d.showable = true
  depth : d.depth ≤ k
  nar : narrow d
  len : d.shown.length ≤ m
theorem Fine.mono {k m k' m' : Nat} {d : PyData} (h : Fine k m d) (hk : k ≤ k') (hm : m ≤ m') : Fine k' m' d := ⟨h.lay, h.show_, Nat.le_trans h.depth hk, h.nar, Nat.le_trans h.len hm⟩
theorem Fine.shaped {k m : Nat} {d : PyData} (h : Fine k m d) (hk : k ≤ 64) : SeqAt.shaped d = true := by
  unfold SeqAt.shaped
  rw [Bool.and_eq_true]
  exact ⟨h.lay, decide_eq_true (Nat.le_trans h.depth hk)⟩
theorem str_len (t : String) : (Str.ofString t).length = t.length := by
  rw [Str.ofString_eq_toList]
  show (t.toList.map Char.toNat).toArray.size = t.length
  rw [List.size_toArray, List.length_map, String.length_toList]
theorem log_lt {i : Int} {k : Nat} (h : i.natAbs < 2 ^ k) (hk : 0 < k) : i.natAbs.log2 < k := by
  by_cases h0 : i.natAbs = 0
  · rw [h0]; exact hk
  · exact (Nat.log2_lt h0).mpr h
theorem fine_int {i : Int} (h : i.natAbs < 2 ^ 60) : Fine 0 61 (.int i) := by
  have hl := log_lt h (by decide)
  refine ⟨rfl, decide_eq_true (Nat.lt_of_lt_of_le hl (by decide)), Nat.le_refl _, trivial, ?_⟩
  show (Str.ofString (toString i)).length ≤ 61
  rw [str_len]
  exact int_text_length_le (by decide) hl
theorem fine_nat {i : Nat} (h : i < 2 ^ 60) : Fine 0 61 (.int (i : Int)) := fine_int (by rw [Int.natAbs_natCast]; exact h)
theorem all_lay {ds : List PyData} (h : ∀ d ∈ ds, d.canLay0 = true) : PyData.canLayAll0 ds = true := by
  induction ds with
  | nil => rfl
  | cons d r ih =>
    show (d.canLay0 && PyData.canLayAll0 r) = true
    rw [h d List.mem_cons_self, ih fun x hx => h x (List.mem_cons_of_mem _ hx)]; rfl
theorem all_showable {ds : List PyData} (h : ∀ d ∈ ds, d.showable = true) : PyData.showableAll ds = true := by
  induction ds with
  | nil => rfl
  | cons d r ih =>
    show (d.showable && PyData.showableAll r) = true
    rw [h d List.mem_cons_self, ih fun x hx => h x (List.mem_cons_of_mem _ hx)]; rfl
theorem all_depth {ds : List PyData} {k : Nat} (h : ∀ d ∈ ds, d.depth ≤ k) : PyData.depthAll ds ≤ k := by
  induction ds with
  | nil => exact Nat.zero_le _
  | cons d r ih => exact Nat.max_le.mpr ⟨h d List.mem_cons_self, ih fun x hx => h x (List.mem_cons_of_mem _ hx)⟩
theorem all_shown {ds : List PyData} {m : Nat} (h : ∀ d ∈ ds, d.shown.length ≤ m) : ((PyData.shownAll ds).map (·.length)).sum ≤ ds.length * m ∧ (PyData.shownAll ds).length = ds.length := by
  induction ds with
  | nil => exact ⟨Nat.zero_le _, rfl⟩
  | cons d r ih =>
    obtain ⟨h1, h2⟩ := ih fun x hx => h x (List.mem_cons_of_mem _ hx)
    have h3 := h d List.mem_cons_self
    refine ⟨?_, congrArg (· + 1) h2⟩
    show ((d.shown :: PyData.shownAll r).map (·.length)).sum ≤ (r.length + 1) * m
    rw [List.map_cons, List.sum_cons, Nat.add_mul, Nat.one_mul]
    omega
theorem fine_list {ds : List PyData} {k m n : Nat} (h : ∀ d ∈ ds, Fine k m d) (hn : ds.length ≤ n) (hb : n ≤ 100000) : Fine (k + 1) (n * (m + 2) + 3) (.list ds) := by
  refine ⟨all_lay fun d hd => (h d hd).lay, all_showable fun d hd => (h d hd).show_, Nat.succ_le_succ (all_depth fun d hd => (h d hd).depth), ⟨Nat.le_trans hn hb, narrow_of fun d hd => (h d hd).nar⟩, ?_⟩
  obtain ⟨h1, h2⟩ := all_shown fun d hd => (h d hd).len
  have h3 := listText_len_le (PyData.shownAll ds)
  have h4 : ds.length * m ≤ n * m := Nat.mul_le_mul_right _ hn
  show (listText (PyData.shownAll ds)).length ≤ _
  rw [Nat.mul_add]
  omega
theorem fine_tuple {ds : List PyData} {k m n : Nat} (h : ∀ d ∈ ds, Fine k m d) (hn : ds.length ≤ n) (hb : n ≤ 100000) : Fine (k + 1) (n * (m + 2) + 3) (.tuple ds) := by
  refine ⟨all_lay fun d hd => (h d hd).lay, all_showable fun d hd => (h d hd).show_, Nat.succ_le_succ (all_depth fun d hd => (h d hd).depth), ⟨Nat.le_trans hn hb, narrow_of fun d hd => (h d hd).nar⟩, ?_⟩
  obtain ⟨h1, h2⟩ := all_shown fun d hd => (h d hd).len
  have h3 := tupleText_len_le (PyData.shownAll ds)
  have h4 : ds.length * m ≤ n * m := Nat.mul_le_mul_right _ hn
  show (tupleText (PyData.shownAll ds)).length ≤ _
  rw [Nat.mul_add]
  omega
/-- numbers as data -/
def nd (l : List Nat) : List PyData := l.map fun (i : Nat) => PyData.int (i : Int)
theorem nd_length (l : List Nat) : (nd l).length = l.length := List.length_map _
theorem dp_nats {K : PySem.W.Frag} {H : Hp} : ∀ l : List Nat, DpAll K H (nv l) (nd l)
  | [] => .nil
  | i :: r => .cons (.int i) (dp_nats r)
theorem fine_nd {l : List Nat} (h : ∀ i ∈ l, i < 2 ^ 60) : ∀ d ∈ nd l, Fine 0 61 d := fun d hd => by
  obtain ⟨i, hi, rfl⟩ := List.mem_map.mp hd
  exact fine_nat (h i hi)
/-- a tuple of numbers -/
theorem fine_tup {l : List Nat} {n : Nat} (h : ∀ i ∈ l, i < 2 ^ 60) (hn : l.length ≤ n) (hb : n ≤ 100000) : Fine 1 (n * 63 + 3) (.tuple (nd l)) := fine_tuple (fine_nd h) (by rw [nd_length]; exact hn) hb
/-! ### lists of pairs of numbers -/
/-- at the places as stand the pairs ps -/
def Prs (H : Hp) (as : List Addr) (ps : List (Nat × Nat)) : Prop := Paired (fun a (p : Nat × Nat) => H a = some (.tup [.int p.1, .int p.2])) as ps
theorem Prs.length {H : Hp} {as : List Addr} {ps : List (Nat × Nat)} (h : Prs H as ps) : as.length = ps.length := Paired.length h
theorem prs_same {H H' : Hp} (e : Same H H') : ∀ {as : List Addr} {ps : List (Nat × Nat)}, Prs H as ps → Prs H' as ps
  | _, _, .nil => .nil
  | _, _, .cons h r => .cons (e _ _ h) (prs_same e r)
theorem prs_keep {b : Addr} {H H' : Hp} {ys : List V} (k : Keep b H H') (hb : H b = some (.lst ys)) : ∀ {as : List Addr} {ps : List (Nat × Nat)}, Prs H as ps → Prs H' as ps
  | _, _, .nil => .nil
  | _, _, .cons h r => .cons (k.tup hb h) (prs_keep k hb r)
theorem prs_get {H : Hp} : ∀ {as : List Addr} {ps : List (Nat × Nat)} {i : Nat} {a : Addr}, Prs H as ps → as[i]? = some a → ∃ p, ps[i]? = some p ∧ H a = some (.tup [.int p.1, .int p.2])
  | _, _, _, _, .nil, h => by simp at h
  | _, _, 0, _, .cons (b := p) h _, e => by
    cases Option.some.inj e
    exact ⟨p, rfl, h⟩
  | _, _, i + 1, a, .cons _ r, e => prs_get (i := i) r e
theorem prs_append {H : Hp} : ∀ {as bs : List Addr} {ps qs : List (Nat × Nat)}, Prs H as ps → Prs H bs qs → Prs H (as ++ bs) (ps ++ qs)
  | _, _, _, _, .nil, s => s
  | _, _, _, _, .cons h r, s => .cons h (prs_append r s)
def pd (p : Nat × Nat) : PyData := .tuple [.int (p.1 : Int), .int (p.2 : Int)]
theorem prs_dp {K : PySem.W.Frag} {H : Hp} : ∀ {as : List Addr} {ps : List (Nat × Nat)}, Prs H as ps → DpAll K H (as.map V.ref) (ps.map pd)
  | _, _, .nil => .nil
  | _, _, .cons h r => .cons (.tup (.inl (.inl h)) (.cons (.int _) (.cons (.int _) .nil))) (prs_dp r)
theorem fine_pd {p : Nat × Nat} (h1 : p.1 < 2 ^ 60) (h2 : p.2 < 2 ^ 60) : Fine 1 129 (pd p) := fine_tuple (n := 2) (fun d hd => by
  rcases List.mem_cons.mp hd with z | z
  · rw [z]; exact fine_nat h1
  · rw [List.mem_singleton.mp z]; exact fine_nat h2) (Nat.le_refl _) (by decide)
/-- a list of pairs -/
theorem fine_pds {ps : List (Nat × Nat)} {n : Nat} (h : ∀ p ∈ ps, p.1 < 2 ^ 60 ∧ p.2 < 2 ^ 60) (hn : ps.length ≤ n) (hb : n ≤ 100000) : Fine 2 (n * 131 + 3) (.list (ps.map pd)) :=
  fine_list (fun d hd => by
    obtain ⟨p, hp, rfl⟩ := List.mem_map.mp hd
    exact fine_pd (h p hp).1 (h p hp).2) (by rw [List.length_map]; exact hn) hb
end Pc
namespace Pc
open PySem PySem.Spec PyProof.Rows L2 RZ
/-! ### a list or a tuple: walked, unpacked -/
/-- a list or a tuple is read -/
def Sq (K : PySem.W.Frag) (H : Hp) (a : Addr) (xs : List V) : Prop := SqL K H a xs ∨ SqT K H a xs
theorem Sq.same {K : PySem.W.Frag} {H H' : Hp} {a : Addr} {xs : List V} (h : Sq K H a xs) (e : Same H H') : Sq K H' a xs := h.imp (fun z => e.seq z) (fun z => same_tup e z)
def iSeq (K : PySem.W.Frag) (tl : TE) : TI := fun σ H R => tl σ H fun x H1 => ∃ a, x = .ref a ∧ (((∃ xs, SqL K H1 a xs) ∧ R (Itl K a) H1) ∨ ((∃ xs, SqT K H1 a xs) ∧ R (Itt K a) H1))
section
variable {X : Cx}
theorem pi_seq {tg l : Expr} {tl : TE} (hl : PE X l tl) : PI X tg l (iSeq X.K tl) := by
  constructor
  intro pins s σ H R I h
  refine thn (hl.run pins s σ H _ I h) ?_
  rintro v s1 ⟨x, H1, I1, r1, a, ex, q⟩
  subst ex
  cases r1
  rcases q with ⟨⟨xs, hx⟩, q⟩ | ⟨⟨xs, hx⟩, q⟩
  · obtain ⟨its, _, p, _⟩ := I1.list hx
    refine wpAny_pyIter_list p.isList ?_
    exact pi_one (tk := s1.toks) I1 _ (turn_list _ _) ⟨_, Heap.get?_push_size _ rfl, rfl, rfl⟩ q
  · obtain ⟨its, _, p, _⟩ := I1.tuple hx
    refine wpAny_pyIter_tuple p ?_
    exact pi_one (tk := s1.toks) I1 _ (turn_tuple _ _) ⟨_, Heap.get?_push_size _ rfl, rfl, rfl⟩ q
/-- names unpacked from a tuple or a list -/
def gSeq (K : PySem.W.Frag) (n : Nat) (t : TGs) : TG := fun v σ H Q => ∃ a xs, v = .ref a ∧ Sq K H a xs ∧ xs.length = n ∧ t xs σ H Q
theorem pg_seq {es : List Expr} {k : Nat} {t : TGs} {n : Nat} {pos : Pos} (hc : X.calm = true) (h : PGs X es t)
    (hn : (assignEach es X.env).length = n := by rfl) (hst : (assignEach es X.env).findIdx? (·.1) = none := by rfl) : PG X (.Tuple es k pos) (gSeq X.K n t) := by
  constructor
  intro pins s σ H v u Q I r hw
  obtain ⟨a, xs, e, hq, hl, hw⟩ := hw
  rcases hq with hq | hq
  · exact (pg_unl (pos := pos) (k := k) hc h hn hst).run pins s σ H v u Q I r ⟨a, xs, e, hq, hl, hw⟩
  · exact (pg_tup (pos := pos) (k := k) hc h hn hst).run pins s σ H v u Q I r ⟨a, xs, e, hq, hl, hw⟩
/-! ### a call with keywords alone -/
def tKw (n : Nat) (sp : Sp) (gV : List V → List V) (E : XK) (tk : TA) : TE := fun σ H Q => tk σ H fun zs H1 => zs.length = n ∧ sp (gV zs) H1 Q E
theorem pe_kw {CX : CXT} {k : Nat} {f : Addr} {fd : FuncData} {ps ks : List Str} {sp : Sp} {E : XK} {x : Str} {p pos : Pos} {kws : List Keyword} {tk : TA} {g : List Value → List Value} {gV : List V → List V}
    (F : FnOk X.prog X.w X.K X.mg X.base CX k f fd ps sp) (hr : Room k X.A) (hg : Gl X x) (hm : X.mg x = some (.ref f)) (hk : PySem.W.keepIn X.K (.ref f) = true)
    (hb : ∀ (s : Shared) (ws : List Value), ws.length = ks.length → BindsTo s fd ⟨[], ks.zip ws⟩ (ps.zip (g ws))) (rel : ∀ {zs : List V} {ws : List Value}, zs.length = ks.length → Vals zs ws → Vals (gV zs) (g ws)) (hx : Passes CX X E) (hkw : PK X kws tk)
    (hall : (backToKw pos (keywordEach kws X.env)).all (·.1.isSome) = true := by rfl) (hks : (backToKw pos (keywordEach kws X.env)).filterMap (·.1) = ks := by rfl) (hdb : (x == ("__debug__" : Str)) = false := by decide)
    (hpl : ((backTo pos (starEach [] X.env)).any (·.1) || (backToKw pos (keywordEach kws X.env)).any (·.1.isNone)) = false := by rfl) :
    PE X (.Call (.Name x p) [] kws pos) (tKw ks.length sp gV E tk) := by
  constructor
  intro pins s σ H Q I h
  refine wpAny_Call_Name_kw (ld_glob I hg hm ?_ hdb)
  refine PySem.W.callWith_KW0 (h₀ := X.base) I.ok.mod.kin hk hall (thn (hkw.run pos pins s σ H _ I h) ?_) hpl
  rintro ws s2 ⟨zs, H2, I2, rz, hz, q⟩
  refine ⟨I2.kIn, ?_⟩
  rw [hks]
  refine wpAny_call (codeAny_mono (F.run X.A X.stack s2 H2 ⟨[], ks.zip ws⟩ (g ws) (gV zs) Q E hr I2.env0 (hb s2 ws (by rw [← rz.length, hz])) (rel hz rz) q) ?_)
  intro res s' hq
  cases res with
  | error e => exact hx pins σ H2 s2 e s' I2 hq
  | ok fl =>
    cases fl with
    | ret u => exact I2.after hq
    | next => exact hq.elim
    | brk => exact hq.elim
    | cont => exact hq.elim
end
theorem kw_to {K : PySem.W.Frag} {x qual : Str} {st : Stmt} {f : Addr} {fd : FuncData} {ps ks : List Str} {g : List Value → List Value} (F : Fun K x qual st f fd)
    (h : ∀ (kV doc pm : Value) (an : Option Addr) (cdv ct : Value) (ws : List Value), ws.length = ks.length → bindArgs (PySem.W.fnOf x qual (defArgs st) (defBody st) (defScope st) .none kV doc pm an cdv ct) ⟨[], ks.zip ws⟩ = pure (ps.zip (g ws))) :
    ∀ (s : Shared) (ws : List Value), ws.length = ks.length → BindsTo s fd ⟨[], ks.zip ws⟩ (ps.zip (g ws)) := by
  obtain ⟨oc, od, kV, doc, pm, an, cdv, ct, osl, rfl, lk, hcd⟩ := F.ex
  intro s ws hl
  exact .of_eq (h kV doc pm an cdv ct ws hl)
end Pc
namespace Pc
open PySem PySem.Spec PyProof.Rows L2 RZ
/-! ### the couples of a pairing -/
/-- the couples whose first person is below i -/
def cplN (ps : List Nat) (i : Nat) : List (Nat × Nat) := ((List.range i).filter fun x => decide (x < ps.getD x 0)).map fun x => (x, ps.getD x 0)
def cpl (ps : List Nat) : List (Nat × Nat) := cplN ps ps.length
theorem getD_of {ps : List Nat} {x y : Nat} (h : ps[x]? = some y) : ps.getD x 0 = y := by
  rw [List.getD_eq_getElem?_getD, h]; rfl
theorem cplN_yes {ps : List Nat} {i y : Nat} (h : ps[i]? = some y) (hl : i < y) : cplN ps (i + 1) = cplN ps i ++ [(i, y)] := by
  unfold cplN
  rw [List.range_succ, List.filter_append, List.map_append]
  congr 1
  rw [List.filter_cons_of_pos (by rw [getD_of h]; exact decide_eq_true hl), List.filter_nil, List.map_cons, List.map_nil, getD_of h]
theorem cplN_no {ps : List Nat} {i y : Nat} (h : ps[i]? = some y) (hl : ¬ i < y) : cplN ps (i + 1) = cplN ps i := by
  unfold cplN
  rw [List.range_succ, List.filter_append, List.map_append, List.filter_cons_of_neg (by rw [getD_of h]; simpa using hl), List.filter_nil, List.map_nil, List.append_nil]
theorem cplN_len (ps : List Nat) (i : Nat) : (cplN ps i).length ≤ i := by
  unfold cplN
  rw [List.length_map]
  exact Nat.le_trans (List.length_filter_le _ _) (by rw [List.length_range]; exact Nat.le_refl _)
theorem mem_cpl {n : Nat} {ps : List Nat} (h : IsPair n ps) {p : Nat × Nat} : p ∈ cpl ps ↔ ps[p.1]? = some p.2 ∧ p.1 < p.2 := by
  unfold cpl cplN
  rw [h.len]
  constructor
  · intro hp
    obtain ⟨x, hx, rfl⟩ := List.mem_map.mp hp
    obtain ⟨h1, h2⟩ := List.mem_filter.mp hx
    obtain ⟨y, e, _⟩ := h.par x (List.mem_range.mp h1)
    rw [getD_of e] at h2 ⊢
    exact ⟨e, of_decide_eq_true h2⟩
  · rintro ⟨e, hl⟩
    refine List.mem_map.mpr ⟨p.1, List.mem_filter.mpr ⟨List.mem_range.mpr ?_, ?_⟩, ?_⟩
    · rw [← h.len]; exact get_lt e
    · rw [getD_of e]; exact decide_eq_true hl
    · rw [getD_of e]
theorem IsPair.back {n : Nat} {ps : List Nat} (h : IsPair n ps) {x y : Nat} (e : ps[x]? = some y) : ps[y]? = some x ∧ y < n ∧ x < n ∧ y ≠ x := by
  have hx : x < n := by rw [← h.len]; exact get_lt e
  obtain ⟨z, e1, e2, e3, e4⟩ := h.par x hx
  cases Option.some.inj (e.symm.trans e1)
  exact ⟨e4, e2, hx, e3⟩
theorem cpl_cover {n : Nat} {ps : List Nat} (h : IsPair n ps) {z : Nat} (hz : z < n) : ∃ p ∈ cpl ps, p.1 = z ∨ p.2 = z := by
  obtain ⟨y, e1, e2, e3, e4⟩ := h.par z hz
  rcases Nat.lt_or_gt_of_ne e3 with l | l
  · exact ⟨(y, z), (mem_cpl h).mpr ⟨e4, l⟩, .inr rfl⟩
  · exact ⟨(z, y), (mem_cpl h).mpr ⟨e1, l⟩, .inl rfl⟩
theorem filter_split {α : Type} (f : α → Bool) : ∀ l : List α, (l.filter f).length + (l.filter fun x => !f x).length = l.length
  | [] => rfl
  | a :: r => by
    have ih := filter_split f r
    cases e : f a with
    | true => rw [List.filter_cons_of_pos e, List.filter_cons_of_neg (by rw [e]; decide), List.length_cons, List.length_cons]; omega
    | false => rw [List.filter_cons_of_neg (by rw [e]; decide), List.filter_cons_of_pos (by rw [e]; rfl), List.length_cons, List.length_cons]; omega
theorem cpl_half {n : Nat} {ps : List Nat} (h : IsPair n ps) : 2 * (cpl ps).length = n := by
  have e1 : (cpl ps).length = ((List.range n).filter fun x => decide (x < ps.getD x 0)).length := by
    unfold cpl cplN; rw [List.length_map, h.len]
  have inj : ∀ x y, x < n → y < n → ps.getD x 0 = ps.getD y 0 → x = y := fun x y hx hy e => by
    obtain ⟨u, a1, _, _, a4⟩ := h.par x hx
    obtain ⟨v, b1, _, _, b4⟩ := h.par y hy
    rw [getD_of a1, getD_of b1] at e
    subst e
    exact Option.some.inj (a4.symm.trans b4)
  have nd0 : (List.range n).Nodup := List.nodup_range
  have p1 : (((List.range n).filter fun x => decide (x < ps.getD x 0)).map fun x => ps.getD x 0).Perm ((List.range n).filter fun x => !decide (x < ps.getD x 0)) := by
    refine (List.perm_ext_iff_of_nodup ?_ (nd0.filter _)).mpr fun z => ?_
    · refine List.Pairwise.map _ (fun a b hab => hab) ?_
      refine List.Pairwise.imp_of_mem (fun {a b} ha hb hab => ?_) (nd0.filter fun x => decide (x < ps.getD x 0))
      exact fun e => hab (inj a b (List.mem_range.mp (List.mem_filter.mp ha).1) (List.mem_range.mp (List.mem_filter.mp hb).1) e)
    · constructor
      · intro hz
        obtain ⟨x, hx, rfl⟩ := List.mem_map.mp hz
        obtain ⟨h1, h2⟩ := List.mem_filter.mp hx
        obtain ⟨y, a1, a2, a3, a4⟩ := h.par x (List.mem_range.mp h1)
        rw [getD_of a1] at h2 ⊢
        have h3 := of_decide_eq_true h2
        refine List.mem_filter.mpr ⟨List.mem_range.mpr a2, ?_⟩
        rw [getD_of a4, decide_eq_false (by omega)]; rfl
      · intro hz
        obtain ⟨h1, h2⟩ := List.mem_filter.mp hz
        obtain ⟨y, a1, a2, a3, a4⟩ := h.par z (List.mem_range.mp h1)
        rw [getD_of a1] at h2
        have h3 : ¬ z < y := by simpa using h2
        refine List.mem_map.mpr ⟨y, List.mem_filter.mpr ⟨List.mem_range.mpr a2, ?_⟩, getD_of a4⟩
        rw [getD_of a4]
        exact decide_eq_true (by omega)
  have e2 := p1.length_eq
  rw [List.length_map] at e2
  have e3 := filter_split (fun x => decide (x < ps.getD x 0)) (List.range n)
  rw [List.length_range] at e3
  omega
/-- what pairs must be so that they make the pairing ps -/
structure Makes (qs : List (Nat × Nat)) (ps : List Nat) : Prop where
  half : 2 * qs.length = ps.length
  ok : ∀ p ∈ qs, ps[p.1]? = some p.2 ∧ ps[p.2]? = some p.1
  all : ∀ z, z < ps.length → ∃ p ∈ qs, p.1 = z ∨ p.2 = z
theorem makes_cpl {n : Nat} {ps : List Nat} (h : IsPair n ps) : Makes (cpl ps) ps where
  half := by rw [cpl_half h, h.len]
  ok p hp := by
    obtain ⟨e, _⟩ := (mem_cpl h).mp hp
    exact ⟨e, (h.back e).1⟩
  all z hz := cpl_cover h (by rw [← h.len]; exact hz)
/-- the pairs of qs in any order, turned or not -/
theorem Makes.turned {qs rs : List (Nat × Nat)} {ps : List Nat} (h : Makes qs ps) (hl : rs.length = qs.length) (h1 : ∀ p ∈ rs, p ∈ qs ∨ (p.2, p.1) ∈ qs) (h2 : ∀ p ∈ qs, p ∈ rs ∨ (p.2, p.1) ∈ rs) : Makes rs ps where
  half := by rw [hl]; exact h.half
  ok p hp := by
    rcases h1 p hp with z | z
    · exact h.ok p z
    · obtain ⟨a, b⟩ := h.ok _ z
      exact ⟨b, a⟩
  all z hz := by
    obtain ⟨p, hp, e⟩ := h.all z hz
    rcases h2 p hp with q | q
    · exact ⟨p, q, e⟩
    · exact ⟨_, q, e.symm⟩
def CInv (ps : List Nat) (qs : List (Nat × Nat)) (fs : List Nat) (i : Nat) : Prop := fs.length = ps.length ∧ ∀ j, j < i → ∀ p, qs[j]? = some p → fs[p.1]? = ps[p.1]? ∧ fs[p.2]? = ps[p.2]?
theorem set_keeps {ps fs : List Nat} {x y z : Nat} (hy : ps[x]? = some y) (hx : x < fs.length) (h : fs[z]? = ps[z]?) : (fs.set x y)[z]? = ps[z]? := by
  by_cases e : x = z
  · subst e
    rw [List.getElem?_set_self hx, hy]
  · rw [List.getElem?_set_ne e]; exact h
theorem CInv.step {ps fs : List Nat} {qs : List (Nat × Nat)} {i : Nat} {p : Nat × Nat} (m : Makes qs ps) (h : CInv ps qs fs i) (hp : qs[i]? = some p) : CInv ps qs ((fs.set p.1 p.2).set p.2 p.1) (i + 1) := by
  obtain ⟨hl, hj⟩ := h
  obtain ⟨o1, o2⟩ := m.ok p (List.mem_of_getElem? hp)
  have l1 : p.1 < fs.length := by rw [hl]; exact get_lt o1
  have l2 : p.2 < (fs.set p.1 p.2).length := by rw [List.length_set, hl]; exact get_lt o2
  refine ⟨by rw [List.length_set, List.length_set, hl], fun j hj2 r hr => ?_⟩
  by_cases e : j = i
  · subst e
    cases Option.some.inj (hp.symm.trans hr)
    refine ⟨set_keeps o2 l2 ?_, ?_⟩
    · rw [List.getElem?_set_self l1, o1]
    · rw [List.getElem?_set_self l2, o2]
  · obtain ⟨a, b⟩ := hj j (by omega) r hr
    exact ⟨set_keeps o2 l2 (set_keeps o1 l1 a), set_keeps o2 l2 (set_keeps o1 l1 b)⟩
theorem CInv.done {ps fs : List Nat} {qs : List (Nat × Nat)} (m : Makes qs ps) (h : CInv ps qs fs qs.length) : fs = ps := by
  refine List.ext_getElem? fun z => ?_
  by_cases hz : z < ps.length
  · obtain ⟨p, hp, e⟩ := m.all z hz
    obtain ⟨i, hi, ei⟩ := List.mem_iff_getElem.mp hp
    obtain ⟨a, b⟩ := h.2 i hi p (by rw [List.getElem?_eq_getElem hi, ei])
    rcases e with e | e
    · rw [← e]; exact a
    · rw [← e]; exact b
  · rw [List.getElem?_eq_none (by rw [h.1]; omega), List.getElem?_eq_none (by omega)]
end Pc
namespace Pc
open PySem PySem.Spec PyProof.Rows L2 RZ
section
variable {K : PySem.W.Frag}
/-- the values us are the pairs qs, each a tuple or a list -/
def Items (K : PySem.W.Frag) (H : Hp) (us : List V) (qs : List (Nat × Nat)) : Prop := us.length = qs.length ∧ ∀ (i : Nat) (v : V), us[i]? = some v → ∃ (c : Addr) (p : Nat × Nat), v = .ref c ∧ qs[i]? = some p ∧ Sq K H c [.int p.1, .int p.2]
theorem Items.same {H H' : Hp} {us : List V} {qs : List (Nat × Nat)} (h : Items K H us qs) (e : Same H H') : Items K H' us qs := ⟨h.1, fun i v hv => by
  obtain ⟨c, p, h1, h2, h3⟩ := h.2 i v hv
  exact ⟨c, p, h1, h2, h3.same e⟩⟩
theorem items_of {H : Hp} {as : List Addr} {qs : List (Nat × Nat)} (h : Prs H as qs) : Items K H (as.map V.ref) qs := ⟨by rw [List.length_map]; exact h.length, fun i v hv => by
  rw [List.getElem?_map] at hv
  cases e : as[i]? with
  | none => rw [e] at hv; cases hv
  | some c =>
    rw [e] at hv
    obtain ⟨p, h1, h2⟩ := prs_get h e
    exact ⟨c, p, (Option.some.inj hv).symm, h1, .inr (.inl (.inl h2))⟩⟩
end
end Pc
namespace Pc
open PySem PySem.Spec PyProof.Rows L2 RZ
theorem paired_perm {α β : Type} {R : α → β → Prop} {as bs : List α} (h : as.Perm bs) : ∀ ps : List β, Paired R as ps → ∃ qs : List β, qs.Perm ps ∧ Paired R bs qs := by
  induction h with
  | nil => exact fun ps h => ⟨ps, List.Perm.refl _, h⟩
  | cons x _ ih =>
    intro ps h
    cases h with
    | cons r t =>
      obtain ⟨qs, h1, h2⟩ := ih _ t
      exact ⟨_ :: qs, h1.cons _, .cons r h2⟩
  | swap x y l =>
    intro ps h
    cases h with
    | cons r t =>
      cases t with
      | cons r2 t2 => exact ⟨_, List.Perm.swap _ _ _, .cons r2 (.cons r t2)⟩
  | trans _ _ ih1 ih2 =>
    intro ps h
    obtain ⟨qs, h1, h2⟩ := ih1 ps h
    obtain ⟨rs, h3, h4⟩ := ih2 qs h2
    exact ⟨rs, h3.trans h1, h4⟩
/-- the same pairs, some turned -/
def Turned (qs rs : List (Nat × Nat)) : Prop := rs.length = qs.length ∧ ∀ (j : Nat) (p q : Nat × Nat), qs[j]? = some p → rs[j]? = some q → q = p ∨ q = (p.2, p.1)
theorem Turned.mem1 {qs rs : List (Nat × Nat)} (h : Turned qs rs) : ∀ p ∈ rs, p ∈ qs ∨ (p.2, p.1) ∈ qs := fun p hp => by
  obtain ⟨j, hj, e⟩ := List.mem_iff_getElem.mp hp
  obtain ⟨q, hq⟩ := get_some (l := qs) (i := j) (by rw [← h.1]; exact hj)
  rcases h.2 j q p hq (by rw [List.getElem?_eq_getElem hj, e]) with z | z
  · exact .inl (z ▸ List.mem_of_getElem? hq)
  · refine .inr ?_
    rw [z]
    exact List.mem_of_getElem? hq
theorem Turned.mem2 {qs rs : List (Nat × Nat)} (h : Turned qs rs) : ∀ p ∈ qs, p ∈ rs ∨ (p.2, p.1) ∈ rs := fun p hp => by
  obtain ⟨j, hj, e⟩ := List.mem_iff_getElem.mp hp
  obtain ⟨q, hq⟩ := get_some (l := rs) (i := j) (by rw [h.1]; exact hj)
  rcases h.2 j p q (by rw [List.getElem?_eq_getElem hj, e]) hq with z | z
  · exact .inl (z ▸ List.mem_of_getElem? hq)
  · exact .inr (z ▸ List.mem_of_getElem? hq)
theorem Makes.perm {qs rs : List (Nat × Nat)} {ps : List Nat} (h : Makes qs ps) (e : rs.Perm qs) : Makes rs ps := h.turned e.length_eq (fun p hp => .inl (e.mem_iff.mp hp)) (fun p hp => .inl (e.mem_iff.mpr hp))
theorem IsPair.lt {n : Nat} {ps : List Nat} (h : IsPair n ps) : ∀ i ∈ ps, i < n := fun i hi => by
  obtain ⟨x, hx, e⟩ := List.mem_iff_getElem.mp hi
  obtain ⟨y, e1, e2, _⟩ := h.par x (by rw [← h.len]; exact hx)
  rw [List.getElem?_eq_getElem hx, e] at e1
  cases Option.some.inj e1
  exact e2
theorem Makes.lt {qs : List (Nat × Nat)} {ps : List Nat} (h : Makes qs ps) : ∀ p ∈ qs, p.1 < ps.length ∧ p.2 < ps.length := fun p hp => ⟨get_lt (h.ok p hp).1, get_lt (h.ok p hp).2⟩
theorem iteN {A B : Prop} (h : B) : if (!true) = true then A else B := by
  rw [if_neg (by decide)]
  exact h
end Pc
namespace Pc
open PySem PySem.Spec PyProof.Rows L2 RZ
section
variable {P : Program} {w : World} {K : PySem.W.Frag} {mg : Str → Option Value} {base : Heap}
/-! ### one of some -/
def spOf (K : PySem.W.Frag) : Sp := fun vs H Q _ => ∃ (b a : Addr) (n : Nat) (xs : List V), vs = [.ref b, .ref a] ∧ Box (n + 1) H b ∧ a ≠ b ∧ H a = some (.lst xs) ∧ 0 < xs.length ∧ xs.length ≤ 1000 ∧
  ∀ (H' : Hp) (i : Nat) (v : V), xs[i]? = some v → Keep b H H' → Box n H' b → Q v H'
theorem ok_of (T : Env K mg) : FnOk P w K mg base CX0 2 T.f_of T.d_of ["_law_box_here", "_law_some"] (spOf K) := by
  have GT : FnOk P w K mg base CX0 1 T.f_take T.d_take ["_law_box_here", "_law_span"] spTake := ok_take T
  refine T.F_of.ok sc_of (fun vs H Q E h => ?_) (fun cdv A outer s H vs Q E hr h => ?_)
  · obtain ⟨b, a, n, xs, rfl, _⟩ := h
    rfl
  · obtain ⟨b, a, n, xs, rfl, hB, hab, ha, h0, hl, q⟩ := h
    refine ⟨_, pss_one (ps_ret (pe_ix ix_list (pv 1) (pe_call GT hr (by rfl) T.g_take T.F_take.kp T.b_take .nil pass0 (pa_cons (pv 0) (pa_cons (pe_callB call_len_seq (by rfl) T.n_len PySem.boot_len (pa_cons (pv 1) pa_nil)) pa_nil))) (fun _ _ => rfl))), ?_⟩
    refine ⟨.ref a, rfl, .ref b, rfl, .ref a, rfl, a, xs, rfl, .inl (.inl (.inl ha)), b, n, xs.length, rfl, hB, by omega, by omega, fun r H' r0 r1 hB' k => ?_⟩
    obtain ⟨v, hv⟩ := get_some (l := xs) (i := r.toNat) (by omega)
    refine ⟨a, xs, r, v, rfl, rfl, .inl (.inl (k _ _ hab ha)), ?_, q H' r.toNat v hv k hB'⟩
    have := atI_nat hv
    rw [show ((r.toNat : Nat) : Int) = r by omega] at this
    exact this
end
end Pc
namespace Pc
open PySem PySem.Spec PyProof.Rows L2 RZ
section
variable {P : Program} {w : World} {K : PySem.W.Frag} {mg : Str → Option Value} {base : Heap}
/-! ### a drawn call -/
def spAnyCall : Sp := fun vs H Q _ => ∃ (b : Addr) (m n : Nat), vs = [.ref b, .int n] ∧ Box (m + 2) H b ∧ 2 ≤ n ∧ n ≤ 1000 ∧
  ∀ (H' : Hp) (t : Addr) (x y : Nat), x < y → y < n → H t = none → H' t = some (.tup [.int x, .int y]) → Keep b H H' → Box m H' b → Q (.ref t) H'
theorem ok_any_call (T : Env K mg) : FnOk P w K mg base CX0 2 T.f_any_call T.d_any_call ["_law_box_here", "_law_count"] spAnyCall := by
  have GT : FnOk P w K mg base CX0 1 T.f_take T.d_take ["_law_box_here", "_law_span"] spTake := ok_take T
  refine T.F_any_call.ok sc_any_call (fun vs H Q E h => ?_) (fun cdv A outer s H vs Q E hr h => ?_)
  · obtain ⟨b, m, n, rfl, _⟩ := h
    rfl
  · obtain ⟨b, m, n, rfl, hB, h2, hn, q⟩ := h
    refine ⟨_, pss_cons (ps_set (i := 2) sc_any_call.nd rfl (.inl rfl) (pe_call GT hr (by rfl) T.g_take T.F_take.kp T.b_take .nil pass0 (pa_cons (pv 0) (pa_cons (pe_op op_sub (pv 1) pe_int) pa_nil)))) <|
      pss_one (ps_ret (pe_tup (pa_cons (pv 2) (pa_cons (pe_op op_add (pe_op op_add (pv 2) pe_int) (pe_call GT hr (by rfl) T.g_take T.F_take.kp T.b_take .nil pass0 (pa_cons (pv 0) (pa_cons (pe_op op_sub (pe_op op_sub (pv 1) pe_int) (pv 2)) pa_nil)))) pa_nil)))), ?_⟩
    refine ⟨.ref b, rfl, .int n, rfl, n, 1, rfl, rfl, b, m + 1, (n : Int) - 1, rfl, hB, by omega, by omega, fun r H1 r0 r1 hB1 k1 => ?_⟩
    refine ⟨_, rfl, _, rfl, r, 1, rfl, rfl, .ref b, rfl, .int n, rfl, n, 1, rfl, rfl, .int r, rfl, _, r, rfl, rfl, b, m, (n : Int) - 1 - r, rfl, hB1, by omega, by omega, fun u H2 u0 u1 hB2 k2 => ?_⟩
    refine ⟨_, u, rfl, rfl, by show 2 ≤ sizeLine; decide, fun t nt => ?_⟩
    have kk : Keep b H H2 := k1.trans k2
    have nt0 : H t = none := by
      cases e : H t with
      | none => rfl
      | some o =>
        by_cases hb : t = b
        · subst hb
          obtain ⟨y, hy⟩ := hB2.lst
          rw [hy] at nt; cases nt
        · rw [kk t o hb e] at nt; cases nt
    refine q _ t r.toNat (r.toNat + 1 + u.toNat) (by omega) (by omega) nt0 ?_ (kk.trans (Keep.of_same (same_new nt))) (hB2.same (same_new nt))
    rw [upd_same, show ((r.toNat + 1 + u.toNat : Nat) : Int) = r + 1 + u by omega, show ((r.toNat : Nat) : Int) = r by omega]
end
end Pc
namespace Pc
open PySem PySem.Spec PyProof.Rows L2 RZ
/-! ### a loop over a list or a tuple that stays as it is -/
theorem for_seq {K : PySem.W.Frag} {a : Addr} {xs : List V} {g : TG} {tb : TS} {D : Ends} {σ : L2.St} {H0 H : Hp} (hS : Sq K H0 a xs) (Pv : Nat → L2.St → Hp → Prop) (h0 : Pv 0 σ H) (hst : ∀ i σ H', Pv i σ H' → Same H0 H')
    (hs : ∀ i x σ H', xs[i]? = some x → Pv i σ H' → g x σ H' fun σ2 H2 => tb { D with nx := Pv (i + 1), ct := Pv (i + 1), bk := D.nx } σ2 H2) (hd : ∀ σ H', Pv xs.length σ H' → D.nx σ H') :
    ((∃ ys, SqL K H a ys) ∧ ∃ W : Nat → Nat → L2.St → Hp → Prop, (∃ m, W 0 m σ H) ∧ ∀ i m σ H, W i m σ H → ((Itl K a).stop i H ∧ D.nx σ H) ∨ ((Itl K a).go i H ∧ ∃ N : L2.St → Hp → Prop, (∀ σ' H', N σ' H' → ∃ m', m' < m ∧ W (i + 1) m' σ' H') ∧ ∀ x H', (Itl K a).yld i H x H' → g x σ H' fun σ2 H2 => tb { D with nx := N, ct := N, bk := D.nx } σ2 H2)) ∨
    ((∃ ys, SqT K H a ys) ∧ ∃ W : Nat → Nat → L2.St → Hp → Prop, (∃ m, W 0 m σ H) ∧ ∀ i m σ H, W i m σ H → ((Itt K a).stop i H ∧ D.nx σ H) ∨ ((Itt K a).go i H ∧ ∃ N : L2.St → Hp → Prop, (∀ σ' H', N σ' H' → ∃ m', m' < m ∧ W (i + 1) m' σ' H') ∧ ∀ x H', (Itt K a).yld i H x H' → g x σ H' fun σ2 H2 => tb { D with nx := N, ct := N, bk := D.nx } σ2 H2)) := by
  rcases hS with h | h
  · exact .inl ⟨⟨_, (hst 0 σ H h0).seq h⟩, for_list Pv h0 (fun i σ H' _ p => (hst i σ H' p).seq h) hs hd⟩
  · exact .inr ⟨⟨_, same_tup (hst 0 σ H h0) h⟩, for_tup Pv h0 (fun i σ H' _ p => same_tup (hst i σ H' p) h) hs hd⟩
/-! ### two are joined, and the two that are left -/
def jn (fs : List Nat) (a b : Nat) : List Nat := if fs.getD a 0 = b then fs else (((fs.set a b).set b a).set (fs.getD a 0) (fs.getD b 0)).set (fs.getD b 0) (fs.getD a 0)
theorem jn_len (fs : List Nat) (a b : Nat) : (jn fs a b).length = fs.length := by
  unfold jn
  split
  · rfl
  · simp only [List.length_set]
/-- the four are different -/
theorem four {n : Nat} {fs : List Nat} (h : IsPair n fs) {a b c d : Nat} (hab : a ≠ b) (ea : fs[a]? = some c) (eb : fs[b]? = some d) (hcb : c ≠ b) : c ≠ a ∧ d ≠ b ∧ d ≠ a ∧ c ≠ d ∧ a < n ∧ b < n ∧ c < n ∧ d < n := by
  obtain ⟨a1, a2, a3, a4⟩ := h.back ea
  obtain ⟨b1, b2, b3, b4⟩ := h.back eb
  refine ⟨a4, b4, fun e => ?_, fun e => ?_, a3, b3, a2, b2⟩
  · rw [e, ea] at b1; exact hcb (Option.some.inj b1)
  · rw [e, b1] at a1; exact hab (Option.some.inj a1).symm
theorem jn_same {fs : List Nat} {a b : Nat} (e : fs[a]? = some b) : jn fs a b = fs := by
  unfold jn
  rw [getD_of e, if_pos rfl]
theorem jn_get {n : Nat} {fs : List Nat} (h : IsPair n fs) {a b c d : Nat} (hab : a ≠ b) (ea : fs[a]? = some c) (eb : fs[b]? = some d) (hcb : c ≠ b) (z : Nat) :
    (jn fs a b)[z]? = if z = a then some b else if z = b then some a else if z = c then some d else if z = d then some c else fs[z]? := by
  obtain ⟨x1, x2, x3, x4, l1, l2, l3, l4⟩ := four h hab ea eb hcb
  unfold jn
  rw [getD_of ea, getD_of eb, if_neg hcb]
  have hl := h.len
  by_cases z4 : z = d
  · subst z4
    rw [List.getElem?_set_self (by simp only [List.length_set]; omega), if_neg x3, if_neg x2, if_neg (Ne.symm x4), if_pos rfl]
  · rw [List.getElem?_set_ne (Ne.symm z4)]
    by_cases z3 : z = c
    · subst z3
      rw [List.getElem?_set_self (by simp only [List.length_set]; omega), if_neg x1, if_neg hcb, if_pos rfl]
    · rw [List.getElem?_set_ne (Ne.symm z3)]
      by_cases z2 : z = b
      · subst z2
        rw [List.getElem?_set_self (by simp only [List.length_set]; omega), if_neg (Ne.symm hab), if_pos rfl]
      · rw [List.getElem?_set_ne (Ne.symm z2)]
        by_cases z1 : z = a
        · subst z1
          rw [List.getElem?_set_self (by omega), if_pos rfl]
        · rw [List.getElem?_set_ne (Ne.symm z1), if_neg z1, if_neg z2, if_neg z3, if_neg z4]
theorem jn_pair {n : Nat} {fs : List Nat} (h : IsPair n fs) {a b : Nat} (hab : a ≠ b) (ha : a < n) (hb : b < n) : IsPair n (jn fs a b) := by
  obtain ⟨c, ea, _⟩ := h.par a ha
  obtain ⟨d, eb, _⟩ := h.par b hb
  by_cases hcb : c = b
  · subst hcb; rw [jn_same ea]; exact h
  · have G := jn_get h hab ea eb hcb
    obtain ⟨x1, x2, x3, x4, _, _, l3, l4⟩ := four h hab ea eb hcb
    refine ⟨by rw [jn_len]; exact h.len, fun x hx => ?_⟩
    by_cases z1 : x = a
    · subst z1
      exact ⟨b, by rw [G, if_pos rfl], hb, hab.symm, by rw [G, if_neg hab.symm, if_pos rfl]⟩
    · by_cases z2 : x = b
      · subst z2
        exact ⟨a, by rw [G, if_neg z1, if_pos rfl], ha, hab, by rw [G, if_pos rfl]⟩
      · by_cases z3 : x = c
        · subst z3
          exact ⟨d, by rw [G, if_neg z1, if_neg z2, if_pos rfl], l4, x4.symm, by rw [G, if_neg x3, if_neg x2, if_neg x4.symm, if_pos rfl]⟩
        · by_cases z4 : x = d
          · subst z4
            exact ⟨c, by rw [G, if_neg z1, if_neg z2, if_neg z3, if_pos rfl], l3, x4, by rw [G, if_neg x1, if_neg hcb, if_pos rfl]⟩
          · obtain ⟨y, e1, e2, e3, e4⟩ := h.par x hx
            have back : ∀ {u : Nat}, y = u → fs[u]? = some x := fun e => by rw [← e]; exact e4
            refine ⟨y, by rw [G, if_neg z1, if_neg z2, if_neg z3, if_neg z4]; exact e1, e2, e3, ?_⟩
            rw [G, if_neg, if_neg, if_neg, if_neg]
            · exact e4
            · intro e; have q := back e; rw [(h.back eb).1] at q; exact z2 (Option.some.inj q).symm
            · intro e; have q := back e; rw [(h.back ea).1] at q; exact z1 (Option.some.inj q).symm
            · intro e; have q := back e; rw [eb] at q; exact z4 (Option.some.inj q).symm
            · intro e; have q := back e; rw [ea] at q; exact z3 (Option.some.inj q).symm
/-- all pairs are calls of n people -/
def Calls (n : Nat) (qs : List (Nat × Nat)) : Prop := ∀ q ∈ qs, q.1 < q.2 ∧ q.2 < n
/-- the calls done one after another -/
def runs (qs : List (Nat × Nat)) (ps : List Nat) : List Nat := qs.foldl (fun fs q => jn fs q.1 q.2) ps
theorem runs_take {qs : List (Nat × Nat)} {ps : List Nat} {i : Nat} {q : Nat × Nat} (h : qs[i]? = some q) : runs (qs.take (i + 1)) ps = jn (runs (qs.take i) ps) q.1 q.2 := by
  unfold runs
  rw [List.take_add_one, h, List.foldl_append]
  rfl
theorem runs_pair {n : Nat} : ∀ (qs : List (Nat × Nat)) {ps : List Nat}, IsPair n ps → Calls n qs → IsPair n (runs qs ps)
  | [], _, h, _ => h
  | q :: r, ps, h, hc => by
    have h1 := hc q List.mem_cons_self
    exact runs_pair r (jn_pair h (by omega) (by omega) h1.2) (fun x hx => hc x (List.mem_cons_of_mem _ hx))
theorem Calls.take {n : Nat} {qs : List (Nat × Nat)} (h : Calls n qs) (i : Nat) : Calls n (qs.take i) := fun q hq => h q (List.mem_of_mem_take hq)
end Pc
namespace Pc
open PySem PySem.Spec PyProof.Rows L2 RZ
section
variable {P : Program} {w : World} {K : PySem.W.Frag} {mg : Str → Option Value} {base : Heap}
/-! ### drawn calls -/
def spSomeCalls : Sp := fun vs H Q _ => ∃ (b : Addr) (k n m : Nat), vs = [.ref b, .int n, .int m] ∧ Box (k + 2 * m + 10) H b ∧ 2 ≤ n ∧ n ≤ 1000 ∧ m ≤ 1000 ∧
  ∀ (H' : Hp) (p : Addr) (as : List Addr) (qs : List (Nat × Nat)), Calls n qs → qs.length ≤ m → H p = none → H' p = some (.lst (as.map V.ref)) → Prs H' as qs → Keep b H H' → Box k H' b → Q (.ref p) H'
theorem ok_some_calls (T : Env K mg) : FnOk P w K mg base CX0 3 T.f_some_calls T.d_some_calls ["_law_box_here", "_law_count", "_law_most"] spSomeCalls := by
  have GT : FnOk P w K mg base CX0 1 T.f_take T.d_take ["_law_box_here", "_law_span"] spTake := ok_take T
  have GO : FnOk P w K mg base CX0 2 T.f_of T.d_of ["_law_box_here", "_law_some"] (spOf K) := ok_of T
  have GA : FnOk P w K mg base CX0 2 T.f_any_call T.d_any_call ["_law_box_here", "_law_count"] spAnyCall := ok_any_call T
  refine T.F_some_calls.ok sc_some_calls (fun vs H Q E h => ?_) (fun cdv A outer s H vs Q E hr h => ?_)
  · obtain ⟨b, k, n, m, rfl, _⟩ := h
    rfl
  · obtain ⟨b, k, n, m, rfl, hB, h2, hn, hm, q⟩ := h
    have h1 := hr.mono (show 1 ≤ 2 by decide)
    refine ⟨_, pss_cons (ps_set (i := 3) sc_some_calls.nd rfl (.inr rfl) (pe_call GO hr (by rfl) T.g_of T.F_of.kp T.b_of .nil pass0 (pa_cons (pv 0) (pa_cons (pe_lst (pa_cons (pv 1) (pa_cons (pv 1) (pa_cons
        (pe_callB (call_max2 rfl) (by rfl) T.n_max (by decide +kernel) (pa_cons pe_int (pa_cons (pe_op op_fdiv (pv 1) pe_int) pa_nil))) pa_nil)))) pa_nil)))) <|
      pss_one (ps_ret (pe_lc (own := [("_law_turn", 4)]) (g := gName 4) (tt := tYes) rfl sc_some_calls.nd
        (pi_range1 (by rfl) T.n_range (pa_cons (pe_call GT h1 (by rfl) T.g_take T.F_take.kp T.b_take .nil pass0 (pa_cons (pv 0) (pa_cons (pe_op op_add (pv 2) pe_int) pa_nil))) pa_nil))
        (blkOk_by (N := N_some_calls) (sc := defScope s_some_calls) (by decide +kernel))
        (fun _ _ _ _ _ => pg_name (i := 4) sc_some_calls.nd rfl (.inl rfl)) (fun _ _ _ _ _ => pts_nil)
        (fun _ _ _ _ _ => pe_call GA hr (by rfl) T.g_any_call T.F_any_call.kp T.b_any_call .nil pass0 (pa_cons (pv 0) (pa_cons (pv 3) pa_nil))))), ?_⟩
    refine ⟨.ref b, rfl, .int n, rfl, .int n, rfl, .int n, rfl, n, 2, rfl, rfl, ⟨by decide, by decide⟩, 2, _, rfl, by show 3 ≤ sizeLine; decide, fun l nl => ?_⟩
    have sl : Same H _ := same_new (o := .lst [.int n, .int n, .int (if (n : Int) / 2 > 2 then (n : Int) / 2 else 2)]) nl
    refine ⟨b, l, k + 2 * m + 9, _, rfl, hB.same sl, (hB.ne_new nl).symm, upd_same, by show 0 < 3; decide, by show 3 ≤ 1000; decide, fun H1 i v hv k1 hB1 => ?_⟩
    -- whatever was chosen
    have hw : ∃ u : Nat, v = .int u ∧ 2 ≤ u ∧ u ≤ n := by
      have hi := get_lt hv
      have hi3 : i < 3 := hi
      have mx : ∃ u : Nat, (if (n : Int) / 2 > 2 then (n : Int) / 2 else 2) = (u : Int) ∧ 2 ≤ u ∧ u ≤ n := by
        by_cases c : (n : Int) / 2 > 2
        · exact ⟨n / 2, by rw [if_pos c]; omega, by omega, by omega⟩
        · exact ⟨2, by rw [if_neg c]; rfl, by omega, h2⟩
      obtain ⟨u, eu, hu⟩ := mx
      rcases (show i = 0 ∨ i = 1 ∨ i = 2 by omega) with z | z | z
      · subst z; exact ⟨n, (Option.some.inj hv).symm, h2, Nat.le_refl _⟩
      · subst z; exact ⟨n, (Option.some.inj hv).symm, h2, Nat.le_refl _⟩
      · subst z
        refine ⟨u, ?_, hu⟩
        rw [← eu]
        exact (Option.some.inj hv).symm
    obtain ⟨u, rfl, hu2, hun⟩ := hw
    refine ⟨.ref b, rfl, .int m, rfl, m, 1, rfl, rfl, b, k + 2 * m + 8, (m : Int) + 1, rfl, hB1, by omega, by omega, fun r H2 r0 r1 hB2 k2 => ?_⟩
    refine ⟨r, rfl, by omega, by omega, fun D nD => ?_⟩
    have bD : b ≠ D := hB2.ne_new nD
    have k02 : Keep b H H2 := (Keep.of_same sl).trans (k1.trans k2)
    have nD0 : H D = none := by
      cases e : H D with
      | none => rfl
      | some o => rw [k02 D o bD.symm e] at nD; cases nD
    refine lc_range (n := r.toNat) (fun j H' => Keep b H2 H' ∧ Box (k + 2 * m + 8 - 2 * j) H' b ∧ ∃ (as : List Addr) (qs : List (Nat × Nat)), H' D = some (.lst (as.map V.ref)) ∧ Prs H' as qs ∧ Calls n qs ∧ qs.length = j)
      ⟨Keep.of_same (same_new nD), (hB2.same (same_new nD)), [], [], upd_same, .nil, fun q hq => by simp at hq, rfl⟩ (fun j H' hj hPv => ?_) (fun H' hPv => ?_)
    · obtain ⟨k3, hB3, as, qs, eD, hA, hc, hql⟩ := hPv
      refine ⟨rfl, yes_if ⟨_, rfl, _, rfl, b, k + 2 * m + 8 - 2 * (j + 1), u, rfl, hB3.mono (by omega), hu2, by omega, fun H4 t x y hxy hy nt et k4 hB4 => ?_⟩⟩
      have eD4 := k4 _ _ bD.symm eD
      have ntD : t ≠ D := fun z => by rw [z, eD4] at et; cases et
      obtain ⟨yb, hyb⟩ := hB3.lst
      refine ⟨_, eD4, small1000 (by rw [List.length_map, hA.length]; omega), fun a o na ha => ?_, hB4.keep (c := D) keep_upd bD, as ++ [t], qs ++ [(x, y)], ?_, ?_, ?_, ?_⟩
      · rw [upd_ne (ne_of_none ha nD)]; exact k4 _ _ na (k3 _ _ na ha)
      · rw [upd_same, List.map_append]; rfl
      · refine prs_append (prs_keep (b := D) keep_upd eD4 (prs_keep k4 hyb hA)) (.cons ?_ .nil)
        rw [upd_ne ntD]; exact et
      · intro q hq
        rcases List.mem_append.mp hq with z | z
        · exact hc q z
        · rw [List.mem_singleton.mp z]; exact ⟨hxy, by show y < n; omega⟩
      · rw [List.length_append, hql]; rfl
    · obtain ⟨k3, hB3, as, qs, eD, hA, hc, hql⟩ := hPv
      exact q H' D as qs hc (by omega) nD0 eD hA (k02.trans k3) (hB3.mono (by omega))
end
end Pc
namespace Pc
open PySem PySem.Spec PyProof.Rows L2 RZ
/-! ### lists of tuples of numbers -/
def Tups (H : Hp) (as : List Addr) (ls : List (List Nat)) : Prop := Paired (fun a l => H a = some (.tup (nv l))) as ls
theorem Tups.length {H : Hp} {as : List Addr} {ls : List (List Nat)} (h : Tups H as ls) : as.length = ls.length := Paired.length h
theorem tups_same {H H' : Hp} (e : Same H H') : ∀ {as : List Addr} {ls : List (List Nat)}, Tups H as ls → Tups H' as ls
  | _, _, .nil => .nil
  | _, _, .cons h r => .cons (e _ _ h) (tups_same e r)
theorem tups_keep {b : Addr} {H H' : Hp} {ys : List V} (k : Keep b H H') (hb : H b = some (.lst ys)) : ∀ {as : List Addr} {ls : List (List Nat)}, Tups H as ls → Tups H' as ls
  | _, _, .nil => .nil
  | _, _, .cons h r => .cons (k.tup hb h) (tups_keep k hb r)
theorem tups_append {H : Hp} : ∀ {as bs : List Addr} {ls ms : List (List Nat)}, Tups H as ls → Tups H bs ms → Tups H (as ++ bs) (ls ++ ms)
  | _, _, _, _, .nil, s => s
  | _, _, _, _, .cons h r, s => .cons h (tups_append r s)
theorem tups_get {H : Hp} : ∀ {as : List Addr} {ls : List (List Nat)} {i : Nat} {a : Addr}, Tups H as ls → as[i]? = some a → ∃ l, ls[i]? = some l ∧ H a = some (.tup (nv l))
  | _, _, _, _, .nil, h => by simp at h
  | _, _, 0, _, .cons (b := p) h _, e => by
    cases Option.some.inj e
    exact ⟨p, rfl, h⟩
  | _, _, i + 1, a, .cons _ r, e => tups_get (i := i) r e
def td (l : List Nat) : PyData := .tuple (nd l)
theorem tups_dp {K : PySem.W.Frag} {H : Hp} : ∀ {as : List Addr} {ls : List (List Nat)}, Tups H as ls → DpAll K H (as.map V.ref) (ls.map td)
  | _, _, .nil => .nil
  | _, _, .cons (b := l) h r => .cons (.tup (.inl (.inl h)) (dp_nats l)) (tups_dp r)
theorem fine_tds {ls : List (List Nat)} {n m : Nat} (h : ∀ l ∈ ls, l.length ≤ m ∧ ∀ i ∈ l, i < 2 ^ 60) (hn : ls.length ≤ n) (hb : n ≤ 100000) (hm : m ≤ 100000) : Fine 2 (n * (m * 63 + 5) + 3) (.list (ls.map td)) :=
  fine_list (fun d hd => by
    obtain ⟨l, hl, rfl⟩ := List.mem_map.mp hd
    exact fine_tup (h l hl).2 (h l hl).1 hm) (by rw [List.length_map]; exact hn) hb
/-- the pairings before the first call and behind each -/
def alongs (qs : List (Nat × Nat)) (ps : List Nat) (i : Nat) : List (List Nat) := (List.range (i + 1)).map fun j => runs (qs.take j) ps
theorem alongs_zero (qs : List (Nat × Nat)) (ps : List Nat) : alongs qs ps 0 = [ps] := rfl
theorem alongs_succ (qs : List (Nat × Nat)) (ps : List Nat) (i : Nat) : alongs qs ps (i + 1) = alongs qs ps i ++ [runs (qs.take (i + 1)) ps] := by
  unfold alongs
  rw [List.range_succ, List.map_append]
  rfl
theorem alongs_len (qs : List (Nat × Nat)) (ps : List Nat) (i : Nat) : (alongs qs ps i).length = i + 1 := by
  unfold alongs
  rw [List.length_map, List.length_range]
theorem alongs_mem {n i : Nat} {qs : List (Nat × Nat)} {ps l : List Nat} (hP : IsPair n ps) (hc : Calls n qs) (h : l ∈ alongs qs ps i) : IsPair n l := by
  obtain ⟨j, _, rfl⟩ := List.mem_map.mp h
  exact runs_pair _ hP (hc.take j)
end Pc
namespace Pc
open PySem PySem.Spec PyProof.Rows L2 RZ
/-! ### sheets as lists of natural numbers -/
/-- the empty sheet of n people -/
def emp (n : Nat) : List Nat := (List.range (2 * n)).map fun e => (e + n) % (2 * n)
theorem emp_len (n : Nat) : (emp n).length = 2 * n := by unfold emp; rw [List.length_map, List.length_range]
theorem emp_get {n e : Nat} (h : e < 2 * n) : (emp n)[e]? = some ((e + n) % (2 * n)) := by
  unfold emp
  rw [List.getElem?_map, List.getElem?_range h]
  rfl
theorem emp_lo {n e : Nat} (h : e < n) : (emp n)[e]? = some (n + e) := by
  rw [emp_get (by omega), Nat.mod_eq_of_lt (by omega), Nat.add_comm]
theorem emp_hi {n e : Nat} (h : e < n) : (emp n)[n + e]? = some e := by
  rw [emp_get (by omega), show n + e + n = e + 1 * (2 * n) by omega, Nat.add_mul_mod_self_right, Nat.mod_eq_of_lt (by omega)]
theorem emp_pair {n : Nat} (hn : 0 < n) : IsPair (2 * n) (emp n) := by
  refine ⟨emp_len n, fun x hx => ?_⟩
  by_cases h : x < n
  · exact ⟨n + x, emp_lo h, by omega, by omega, emp_hi h⟩
  · have e : x = n + (x - n) := by omega
    refine ⟨x - n, ?_, by omega, by omega, ?_⟩
    · have := emp_hi (n := n) (e := x - n) (by omega)
      rw [← e] at this; exact this
    · have := emp_lo (n := n) (e := x - n) (by omega)
      rw [← e] at this; exact this
/-- the calls at the lower ends -/
def low (n : Nat) (qs : List (Nat × Nat)) : List (Nat × Nat) := qs.map fun q => (n + q.1, n + q.2)
theorem low_calls {n : Nat} {qs : List (Nat × Nat)} (h : Calls n qs) : Calls (2 * n) (low n qs) := fun q hq => by
  obtain ⟨r, hr, rfl⟩ := List.mem_map.mp hq
  have := h r hr
  exact ⟨by show n + r.1 < n + r.2; omega, by show n + r.2 < 2 * n; omega⟩
theorem low_take (n : Nat) (qs : List (Nat × Nat)) (i : Nat) : (low n qs).take i = low n (qs.take i) := by unfold low; rw [List.map_take]
theorem low_get {n i : Nat} {qs : List (Nat × Nat)} {q : Nat × Nat} (h : qs[i]? = some q) : (low n qs)[i]? = some (n + q.1, n + q.2) := by
  unfold low; rw [List.getElem?_map, h]; rfl
/-- the sheet with calls added -/
def shw (n : Nat) (qs : List (Nat × Nat)) (fs : List Nat) : List Nat := runs (low n qs) fs
theorem shw_take {n i : Nat} {qs : List (Nat × Nat)} {fs : List Nat} {q : Nat × Nat} (h : qs[i]? = some q) : shw n (qs.take (i + 1)) fs = jn (shw n (qs.take i) fs) (n + q.1) (n + q.2) := by
  unfold shw
  rw [← low_take, ← low_take, runs_take (low_get h)]
theorem shw_pair {n : Nat} {qs : List (Nat × Nat)} {fs : List Nat} (hP : IsPair (2 * n) fs) (h : Calls n qs) : IsPair (2 * n) (shw n qs fs) := runs_pair _ hP (low_calls h)
/-- the other order of the stores -/
theorem jn_alt {n : Nat} {fs : List Nat} (h : IsPair n fs) {a b c d : Nat} (hab : a ≠ b) (ea : fs[a]? = some c) (eb : fs[b]? = some d) (hcb : c ≠ b) : (((fs.set c d).set d c).set a b).set b a = jn fs a b := by
  obtain ⟨x1, x2, x3, x4, l1, l2, l3, l4⟩ := four h hab ea eb hcb
  have hl := h.len
  refine List.ext_getElem? fun z => ?_
  rw [jn_get h hab ea eb hcb]
  by_cases z2 : z = b
  · subst z2
    rw [List.getElem?_set_self (by simp only [List.length_set]; omega), if_neg hab.symm, if_pos rfl]
  · rw [List.getElem?_set_ne (Ne.symm z2)]
    by_cases z1 : z = a
    · subst z1
      rw [List.getElem?_set_self (by simp only [List.length_set]; omega), if_pos rfl]
    · rw [List.getElem?_set_ne (Ne.symm z1), if_neg z1, if_neg z2]
      by_cases z4 : z = d
      · subst z4
        rw [List.getElem?_set_self (by simp only [List.length_set]; omega), if_neg (Ne.symm x4), if_pos rfl]
      · rw [List.getElem?_set_ne (Ne.symm z4)]
        by_cases z3 : z = c
        · subst z3
          rw [List.getElem?_set_self (by omega), if_pos rfl]
        · rw [List.getElem?_set_ne (Ne.symm z3), if_neg z3, if_neg z4]
theorem range_shift (n : Nat) : rgV (n : Int) (2 * (n : Int)) = nv ((List.range n).map fun i => n + i) := by
  unfold rgV nv
  rw [show (2 * (n : Int) - (n : Int)).toNat = n by omega, List.map_map]
  refine List.map_congr_left fun i _ => ?_
  show V.int ((n : Int) + (i : Nat)) = V.int (((n + i : Nat) : Int))
  rw [show (((n + i : Nat) : Int)) = (n : Int) + (i : Nat) by omega]
/-- strands in any order: the upper ends in turn, the lower ends as drawn -/
def SInv (n : Nat) (ls fs : List Nat) (t : Nat) : Prop := fs.length = 2 * n ∧ ∀ j, j < t → ∀ l, ls[j]? = some l → fs[j]? = some l ∧ fs[l]? = some j
theorem SInv.step {n : Nat} {ls fs : List Nat} {t l : Nat} (hp : ls.Perm ((List.range n).map fun i => n + i)) (h : SInv n ls fs t) (hl : ls[t]? = some l) : SInv n ls ((fs.set t l).set l t) (t + 1) := by
  have hln : ls.length = n := by rw [hp.length_eq, List.length_map, List.length_range]
  have hnd : ls.Nodup := hp.nodup_iff.mpr (List.Pairwise.map _ (fun a b (hab : a ≠ b) => show n + a ≠ n + b by omega) List.nodup_range)
  have big : ∀ {j x : Nat}, ls[j]? = some x → n ≤ x ∧ x < 2 * n := fun hx => by
    obtain ⟨i, hi, e⟩ := List.mem_map.mp (hp.mem_iff.mp (List.mem_of_getElem? hx))
    have := List.mem_range.mp hi
    omega
  have ht : t < n := by rw [← hln]; exact get_lt hl
  have hb := big hl
  obtain ⟨h1, h2⟩ := h
  refine ⟨by simp only [List.length_set]; exact h1, fun j hj x hx => ?_⟩
  have hjn : j < n := by rw [← hln]; exact get_lt hx
  have hbx := big hx
  by_cases e : j = t
  · subst e
    cases Option.some.inj (hl.symm.trans hx)
    exact ⟨by rw [List.getElem?_set_ne (by omega), List.getElem?_set_self (by omega)], by rw [List.getElem?_set_self (by simp only [List.length_set]; omega)]⟩
  · obtain ⟨g1, g2⟩ := h2 j (by omega) x hx
    have xl : l ≠ x := fun z => by subst z; exact e (nd_ix hnd hx hl)
    exact ⟨by rw [List.getElem?_set_ne (by omega), List.getElem?_set_ne (by omega)]; exact g1, by rw [List.getElem?_set_ne xl, List.getElem?_set_ne (by omega)]; exact g2⟩
theorem SInv.done {n : Nat} {ls fs : List Nat} (hp : ls.Perm ((List.range n).map fun i => n + i)) (h : SInv n ls fs n) : IsPair (2 * n) fs := by
  have hln : ls.length = n := by rw [hp.length_eq, List.length_map, List.length_range]
  refine ⟨h.1, fun x hx => ?_⟩
  by_cases e : x < n
  · obtain ⟨l, hl⟩ := get_some (l := ls) (i := x) (by omega)
    obtain ⟨i, hi, e'⟩ := List.mem_map.mp (hp.mem_iff.mp (List.mem_of_getElem? hl))
    have := List.mem_range.mp hi
    obtain ⟨g1, g2⟩ := h.2 x e l hl
    exact ⟨l, g1, by omega, by omega, g2⟩
  · have hm : x ∈ ls := hp.mem_iff.mpr (List.mem_map.mpr ⟨x - n, List.mem_range.mpr (by omega), by omega⟩)
    obtain ⟨j, hj, ej⟩ := List.mem_iff_getElem.mp hm
    obtain ⟨g1, g2⟩ := h.2 j (by omega) x (by rw [List.getElem?_eq_getElem hj, ej])
    exact ⟨j, g2, by omega, by omega, g1⟩
theorem emp_step (n i : Nat) (h : i < 2 * n) : (emp n).take (i + 1) = (emp n).take i ++ [(i + n) % (2 * n)] := by
  rw [List.take_add_one, emp_get h]
  rfl
theorem nv_snoc' (l : List Nat) (x : Nat) : nv l ++ [.int (x : Int)] = nv (l ++ [x]) := by
  unfold nv
  rw [List.map_append]; rfl
theorem mod_cast_n (i n : Nat) : ((0 : Int) + (i : Nat) + (n : Int)) % (2 * (n : Int)) = (((i + n) % (2 * n) : Nat) : Int) := by
  have h : (((i + n) % (2 * n) : Nat) : Int) = ((i + n : Nat) : Int) % ((2 * n : Nat) : Int) := Int.natCast_emod _ _
  rw [h, Int.natCast_add, Int.natCast_mul, Int.zero_add]
  rfl
end Pc
namespace Pc
open PySem PySem.Spec PyProof.Rows L2 RZ
/-! ### pairs that are chosen from a range -/
def selN (c : Nat → Bool) (g : Nat → Nat × Nat) (i : Nat) : List (Nat × Nat) := ((List.range i).filter c).map g
theorem selN_yes {c : Nat → Bool} {g : Nat → Nat × Nat} {i : Nat} (h : c i = true) : selN c g (i + 1) = selN c g i ++ [g i] := by
  unfold selN
  rw [List.range_succ, List.filter_append, List.map_append, List.filter_cons_of_pos h, List.filter_nil, List.map_cons, List.map_nil]
theorem selN_no {c : Nat → Bool} {g : Nat → Nat × Nat} {i : Nat} (h : c i = false) : selN c g (i + 1) = selN c g i := by
  unfold selN
  rw [List.range_succ, List.filter_append, List.map_append, List.filter_cons_of_neg (by rw [h]; decide), List.filter_nil, List.map_nil, List.append_nil]
theorem selN_len (c : Nat → Bool) (g : Nat → Nat × Nat) (i : Nat) : (selN c g i).length ≤ i := by
  unfold selN
  rw [List.length_map]
  exact Nat.le_trans (List.length_filter_le _ _) (by rw [List.length_range]; exact Nat.le_refl _)
theorem selN_mem {c : Nat → Bool} {g : Nat → Nat × Nat} {i : Nat} {p : Nat × Nat} : p ∈ selN c g i ↔ ∃ x, x < i ∧ c x = true ∧ g x = p := by
  unfold selN
  rw [List.mem_map]
  constructor
  · rintro ⟨x, hx, e⟩
    have := List.mem_filter.mp hx
    exact ⟨x, List.mem_range.mp this.1, this.2, e⟩
  · rintro ⟨x, h1, h2, e⟩
    exact ⟨x, List.mem_filter.mpr ⟨List.mem_range.mpr h1, h2⟩, e⟩
/-- one more pair is put to the list -/
theorem sel_step {H H1 : Hp} {D u : Addr} {as : List Addr} {c : Nat → Bool} {g : Nat → Nat × Nat} {i : Nat} {v1 v2 : V} (nD : H D = none) (sm : Same H H1) (eD : H1 D = some (.lst (as.map V.ref))) (hA : Prs H1 as (selN c g i)) (hc : c i = true) (nu : H1 u = none)
    (hv : [v1, v2] = [V.int ((g i).1 : Int), V.int ((g i).2 : Int)]) (hi : i ≤ 999) : ∃ acc, (upd H1 u (.tup [v1, v2])) D = some (.lst acc) ∧ acc.length < sizeLine ∧
      (Same H (upd (upd H1 u (.tup [v1, v2])) D (.lst (acc ++ [.ref u]))) ∧ ∃ as' : List Addr, (upd (upd H1 u (.tup [v1, v2])) D (.lst (acc ++ [.ref u]))) D = some (.lst (as'.map V.ref)) ∧ Prs (upd (upd H1 u (.tup [v1, v2])) D (.lst (acc ++ [.ref u]))) as' (selN c g (i + 1))) := by
  have su : Same H1 (upd H1 u (.tup [v1, v2])) := same_new nu
  have nuD : u ≠ D := fun e => by rw [e, eD] at nu; cases nu
  refine ⟨_, su _ _ eD, ?_, fun b' o hb => ?_, as ++ [u], ?_, ?_⟩
  · rw [List.length_map, hA.length]
    have := selN_len c g i
    exact small1000 (by omega)
  · rw [upd_ne (ne_of_none hb nD)]; exact su _ _ (sm _ _ hb)
  · rw [upd_same, List.map_append]; rfl
  · rw [selN_yes hc]
    refine prs_append (prs_keep (b := D) (ys := as.map V.ref) keep_upd (su _ _ eD) (prs_same su hA)) (.cons ?_ .nil)
    rw [upd_ne nuD, upd_same, hv]
theorem ix_sq {K : PySem.W.Frag} {H : Hp} {a : Addr} {xs : List V} {i : Int} {v : V} {Q : VK} (h : Sq K H a xs) (e : atI xs i = some v) (q : Q v H) : rIx K (.ref a) (.int i) H Q :=
  h.elim (fun z => .inl ⟨a, xs, i, v, rfl, rfl, z, e, q⟩) (fun z => .inr (.inl ⟨a, xs, i, v, rfl, rfl, z, e, q⟩))
/-! ### upper pairs, lower pairs, strands -/
def upC (fs : List Nat) (n x : Nat) : Bool := decide (x < fs.getD x 0) && decide (fs.getD x 0 < n)
def upG (fs : List Nat) (x : Nat) : Nat × Nat := (x, fs.getD x 0)
def loC (fs : List Nat) (n x : Nat) : Bool := decide (n + x < fs.getD (n + x) 0)
def loG (fs : List Nat) (n x : Nat) : Nat × Nat := (x, fs.getD (n + x) 0 - n)
def stC (fs : List Nat) (n x : Nat) : Bool := decide (n ≤ fs.getD x 0)
def stG (fs : List Nat) (n x : Nat) : Nat × Nat := (x, fs.getD x 0 - n)
def ups (fs : List Nat) (n : Nat) : List (Nat × Nat) := selN (upC fs n) (upG fs) n
def los (fs : List Nat) (n : Nat) : List (Nat × Nat) := selN (loC fs n) (loG fs n) n
def sts (fs : List Nat) (n : Nat) : List (Nat × Nat) := selN (stC fs n) (stG fs n) n
theorem ups_mem {n : Nat} {fs : List Nat} (h : IsPair (2 * n) fs) {p : Nat × Nat} (hp : p ∈ ups fs n) : fs[p.1]? = some p.2 ∧ p.1 < p.2 ∧ p.2 < n := by
  obtain ⟨x, hx, hc, e⟩ := selN_mem.mp hp
  obtain ⟨y, ey, _⟩ := h.par x (by omega)
  unfold upC at hc
  rw [getD_of ey, Bool.and_eq_true, decide_eq_true_iff, decide_eq_true_iff] at hc
  subst e
  show fs[x]? = some (fs.getD x 0) ∧ x < fs.getD x 0 ∧ fs.getD x 0 < n
  rw [getD_of ey]
  exact ⟨ey, hc.1, hc.2⟩
theorem los_mem {n : Nat} {fs : List Nat} (h : IsPair (2 * n) fs) {p : Nat × Nat} (hp : p ∈ los fs n) : fs[n + p.1]? = some (n + p.2) ∧ p.1 < p.2 ∧ p.2 < n := by
  obtain ⟨x, hx, hc, e⟩ := selN_mem.mp hp
  obtain ⟨y, ey, hy, _⟩ := h.par (n + x) (by omega)
  unfold loC at hc
  rw [getD_of ey, decide_eq_true_iff] at hc
  subst e
  show fs[n + x]? = some (n + (fs.getD (n + x) 0 - n)) ∧ x < fs.getD (n + x) 0 - n ∧ fs.getD (n + x) 0 - n < n
  rw [getD_of ey, show n + (y - n) = y by omega]
  exact ⟨ey, by omega, by omega⟩
theorem sts_mem {n : Nat} {fs : List Nat} (h : IsPair (2 * n) fs) {p : Nat × Nat} (hp : p ∈ sts fs n) : fs[p.1]? = some (n + p.2) ∧ p.1 < n ∧ p.2 < n := by
  obtain ⟨x, hx, hc, e⟩ := selN_mem.mp hp
  obtain ⟨y, ey, hy, _⟩ := h.par x (by omega)
  unfold stC at hc
  rw [getD_of ey, decide_eq_true_iff] at hc
  subst e
  show fs[x]? = some (n + (fs.getD x 0 - n)) ∧ x < n ∧ fs.getD x 0 - n < n
  rw [getD_of ey, show n + (y - n) = y by omega]
  exact ⟨ey, by omega, by omega⟩
/-- all joins of a sheet, as pairs of ends -/
def jns (fs : List Nat) (n : Nat) : List (Nat × Nat) := ups fs n ++ ((los fs n).map (fun p => (n + p.1, n + p.2)) ++ (sts fs n).map (fun p => (p.1, n + p.2)))
theorem jns_ok {n : Nat} {fs : List Nat} (h : IsPair (2 * n) fs) : ∀ p ∈ jns fs n, fs[p.1]? = some p.2 ∧ p.1 < p.2 := fun p hp => by
  rcases List.mem_append.mp hp with z | z
  · have := ups_mem h z; exact ⟨this.1, this.2.1⟩
  · rcases List.mem_append.mp z with z | z
    · obtain ⟨r, hr, rfl⟩ := List.mem_map.mp z
      have := los_mem h hr
      exact ⟨this.1, by show n + r.1 < n + r.2; omega⟩
    · obtain ⟨r, hr, rfl⟩ := List.mem_map.mp z
      have := sts_mem h hr
      exact ⟨this.1, by show r.1 < n + r.2; omega⟩
theorem sel_fst {c : Nat → Bool} {g : Nat → Nat × Nat} {i : Nat} (h : ∀ x, (g x).1 = x) : (selN c g i).map Prod.fst = (List.range i).filter c := by
  unfold selN
  rw [List.map_map]
  conv => rhs; rw [← List.map_id ((List.range i).filter c)]
  exact List.map_congr_left fun x _ => h x
theorem jns_nodup {n : Nat} {fs : List Nat} (h : IsPair (2 * n) fs) : ((jns fs n).map Prod.fst).Nodup := by
  have e1 : (ups fs n).map Prod.fst = (List.range n).filter (upC fs n) := sel_fst fun _ => rfl
  have e2 : ((los fs n).map (fun p => (n + p.1, n + p.2))).map Prod.fst = ((List.range n).filter (loC fs n)).map (fun x => n + x) := by
    rw [← sel_fst (c := loC fs n) (g := loG fs n) (i := n) fun _ => rfl, List.map_map, List.map_map]; rfl
  have e3 : ((sts fs n).map (fun p => (p.1, n + p.2))).map Prod.fst = (List.range n).filter (stC fs n) := by
    rw [← sel_fst (c := stC fs n) (g := stG fs n) (i := n) fun _ => rfl, List.map_map]; rfl
  unfold jns
  rw [List.map_append, List.map_append, e1, e2, e3]
  have nr : (List.range n).Nodup := List.nodup_range
  refine List.nodup_append.mpr ⟨nr.filter _, List.nodup_append.mpr ⟨?_, nr.filter _, fun a ha b hb => ?_⟩, fun a ha b hb => ?_⟩
  · exact List.Pairwise.map _ (fun a b (hab : a ≠ b) => show n + a ≠ n + b by omega) (nr.filter _)
  · obtain ⟨x, _, rfl⟩ := List.mem_map.mp ha
    have := List.mem_range.mp (List.mem_filter.mp hb).1
    omega
  · have ha1 := List.mem_range.mp (List.mem_filter.mp ha).1
    have ha2 := (List.mem_filter.mp ha).2
    unfold upC at ha2
    rw [Bool.and_eq_true, decide_eq_true_iff, decide_eq_true_iff] at ha2
    rcases List.mem_append.mp hb with z | z
    · obtain ⟨x, _, rfl⟩ := List.mem_map.mp z; omega
    · have hb2 := (List.mem_filter.mp z).2
      unfold stC at hb2
      rw [decide_eq_true_iff] at hb2
      intro e; subst e; omega
theorem jns_all {n : Nat} {fs : List Nat} (h : IsPair (2 * n) fs) {z y : Nat} (e : fs[z]? = some y) (hz : z < y) : (z, y) ∈ jns fs n := by
  obtain ⟨_, hy, hz2, _⟩ := h.back e
  unfold jns
  by_cases c : z < n
  · by_cases d : y < n
    · refine List.mem_append.mpr (.inl (selN_mem.mpr ⟨z, c, ?_, ?_⟩))
      · unfold upC; rw [getD_of e, decide_eq_true hz, decide_eq_true d]; rfl
      · unfold upG; rw [getD_of e]
    · refine List.mem_append.mpr (.inr (List.mem_append.mpr (.inr (List.mem_map.mpr ⟨(z, y - n), selN_mem.mpr ⟨z, c, ?_, ?_⟩, ?_⟩))))
      · unfold stC; rw [getD_of e]; exact decide_eq_true (by omega)
      · unfold stG; rw [getD_of e]
      · show (z, n + (y - n)) = (z, y); rw [show n + (y - n) = y by omega]
  · have e' : fs[n + (z - n)]? = some y := by rw [show n + (z - n) = z by omega]; exact e
    refine List.mem_append.mpr (.inr (List.mem_append.mpr (.inl (List.mem_map.mpr ⟨(z - n, y - n), selN_mem.mpr ⟨z - n, by omega, ?_, ?_⟩, ?_⟩))))
    · unfold loC; rw [getD_of e']; exact decide_eq_true (by omega)
    · unfold loG; rw [getD_of e']
    · show (n + (z - n), n + (y - n)) = (z, y); rw [show n + (z - n) = z by omega, show n + (y - n) = y by omega]
/-- the ends of joins in a row -/
def flat : List (Nat × Nat) → List Nat
  | [] => []
  | p :: r => p.1 :: p.2 :: flat r
theorem flat_app : ∀ a b : List (Nat × Nat), flat (a ++ b) = flat a ++ flat b
  | [], _ => rfl
  | p :: r, b => by show p.1 :: p.2 :: flat (r ++ b) = _; rw [flat_app r b]; rfl
theorem flat_mem : ∀ {l : List (Nat × Nat)} {z : Nat}, z ∈ flat l ↔ ∃ p ∈ l, z = p.1 ∨ z = p.2
  | [], z => by simp [flat]
  | p :: r, z => by
    show z ∈ p.1 :: p.2 :: flat r ↔ _
    rw [List.mem_cons, List.mem_cons, flat_mem (l := r)]
    constructor
    · rintro (e | e | ⟨q, hq, e⟩)
      · exact ⟨p, List.mem_cons_self, .inl e⟩
      · exact ⟨p, List.mem_cons_self, .inr e⟩
      · exact ⟨q, List.mem_cons_of_mem _ hq, e⟩
    · rintro ⟨q, hq, e⟩
      rcases List.mem_cons.mp hq with z | z
      · subst z; exact e.elim .inl (fun e => .inr (.inl e))
      · exact .inr (.inr ⟨q, z, e⟩)
theorem flat_len : ∀ l : List (Nat × Nat), (flat l).length = 2 * l.length
  | [] => rfl
  | p :: r => by show (flat r).length + 1 + 1 = 2 * (r.length + 1); rw [flat_len r]; omega
theorem flat_nodup {n : Nat} {fs : List Nat} (h : IsPair n fs) : ∀ {l : List (Nat × Nat)}, (∀ p ∈ l, fs[p.1]? = some p.2 ∧ p.1 < p.2) → (l.map Prod.fst).Nodup → (flat l).Nodup
  | [], _, _ => List.nodup_nil
  | p :: r, ho, hd => by
    have hp := ho p List.mem_cons_self
    obtain ⟨n1, n2⟩ := List.nodup_cons.mp (show (p.1 :: r.map Prod.fst).Nodup from hd)
    have hr : ∀ q ∈ r, fs[q.1]? = some q.2 ∧ q.1 < q.2 := fun q hq => ho q (List.mem_cons_of_mem _ hq)
    have ih := flat_nodup h hr n2
    have bp := (h.back hp.1).1
    have ne1 : ∀ q ∈ r, p.1 ≠ q.1 := fun q hq e => n1 (List.mem_map.mpr ⟨q, hq, e.symm⟩)
    show (p.1 :: p.2 :: flat r).Nodup
    refine List.nodup_cons.mpr ⟨fun hm => ?_, List.nodup_cons.mpr ⟨fun hm => ?_, ih⟩⟩
    · rcases List.mem_cons.mp hm with e | e
      · omega
      · obtain ⟨q, hq, e⟩ := flat_mem.mp e
        have hq' := hr q hq
        rcases e with e | e
        · exact ne1 q hq e
        · have bq := (h.back hq'.1).1
          rw [← e, hp.1] at bq
          have := Option.some.inj bq
          omega
    · obtain ⟨q, hq, e⟩ := flat_mem.mp hm
      have hq' := hr q hq
      rcases e with e | e
      · have e1 := hq'.1
        rw [← e, bp] at e1
        have := Option.some.inj e1
        omega
      · have bq := (h.back hq'.1).1
        rw [← e, bp] at bq
        exact ne1 q hq (Option.some.inj bq)
theorem jns_perm {n : Nat} {fs : List Nat} (h : IsPair (2 * n) fs) : (flat (jns fs n)).Perm (List.range (2 * n)) := by
  refine (List.perm_ext_iff_of_nodup (flat_nodup h (jns_ok h) (jns_nodup h)) List.nodup_range).mpr fun z => ?_
  rw [flat_mem, List.mem_range]
  constructor
  · rintro ⟨p, hp, e⟩
    obtain ⟨b1, b2, b3, _⟩ := h.back (jns_ok h p hp).1
    rcases e with e | e <;> omega
  · intro hz
    obtain ⟨y, ey, hy, hne, eb⟩ := h.par z hz
    by_cases c : z < y
    · exact ⟨_, jns_all h ey c, .inl rfl⟩
    · exact ⟨_, jns_all h eb (by omega), .inr rfl⟩
theorem flat_two {f : Nat → Bool} : ∀ {l : List (Nat × Nat)}, (∀ p ∈ l, f p.1 = true ∧ f p.2 = true) → (flat l).countP f = 2 * l.length
  | [], _ => rfl
  | p :: r, h => by
    have hp := h p List.mem_cons_self
    show (p.1 :: p.2 :: flat r).countP f = _
    rw [List.countP_cons_of_pos hp.1, List.countP_cons_of_pos hp.2, flat_two fun q hq => h q (List.mem_cons_of_mem _ hq), List.length_cons]
    omega
theorem flat_none {f : Nat → Bool} : ∀ {l : List (Nat × Nat)}, (∀ p ∈ l, f p.1 = false ∧ f p.2 = false) → (flat l).countP f = 0
  | [], _ => rfl
  | p :: r, h => by
    have hp := h p List.mem_cons_self
    show (p.1 :: p.2 :: flat r).countP f = _
    rw [List.countP_cons_of_neg (by rw [hp.1]; decide), List.countP_cons_of_neg (by rw [hp.2]; decide), flat_none fun q hq => h q (List.mem_cons_of_mem _ hq)]
theorem flat_one {f : Nat → Bool} : ∀ {l : List (Nat × Nat)}, (∀ p ∈ l, f p.1 = true ∧ f p.2 = false) → (flat l).countP f = l.length
  | [], _ => rfl
  | p :: r, h => by
    have hp := h p List.mem_cons_self
    show (p.1 :: p.2 :: flat r).countP f = _
    rw [List.countP_cons_of_pos hp.1, List.countP_cons_of_neg (by rw [hp.2]; decide), flat_one fun q hq => h q (List.mem_cons_of_mem _ hq), List.length_cons]
theorem range_low (n : Nat) : (List.range (2 * n)).countP (fun z => decide (z < n)) = n := by
  rw [show 2 * n = n + n by omega, List.range_add, List.countP_append, List.countP_eq_length.mpr (fun a ha => decide_eq_true (List.mem_range.mp ha)), List.countP_eq_zero.mpr (fun a ha => ?_), List.length_range, Nat.add_zero]
  obtain ⟨x, _, rfl⟩ := List.mem_map.mp ha
  rw [decide_eq_true_iff]; omega
theorem ups_los {n : Nat} {fs : List Nat} (h : IsPair (2 * n) fs) : (ups fs n).length = (los fs n).length := by
  have hp := jns_perm h
  have hl := hp.length_eq
  have hc := hp.countP_eq (fun z => decide (z < n))
  rw [range_low] at hc
  rw [flat_len, List.length_range] at hl
  unfold jns at hc hl
  rw [List.length_append, List.length_append, List.length_map, List.length_map] at hl
  have x1 : (flat (ups fs n)).countP (fun z => decide (z < n)) = 2 * (ups fs n).length := flat_two fun p hp => by
    have := ups_mem h hp
    exact ⟨decide_eq_true (by omega), decide_eq_true (by omega)⟩
  have x2 : (flat ((los fs n).map (fun p => (n + p.1, n + p.2)))).countP (fun z => decide (z < n)) = 0 := flat_none fun p hp => by
    obtain ⟨r, hr, rfl⟩ := List.mem_map.mp hp
    exact ⟨decide_eq_false (by show ¬ n + r.1 < n; omega), decide_eq_false (by show ¬ n + r.2 < n; omega)⟩
  have x3 : (flat ((sts fs n).map (fun p => (p.1, n + p.2)))).countP (fun z => decide (z < n)) = ((sts fs n).map (fun p => (p.1, n + p.2))).length := flat_one fun p hp => by
    obtain ⟨r, hr, rfl⟩ := List.mem_map.mp hp
    have := sts_mem h hr
    exact ⟨decide_eq_true (by show r.1 < n; omega), decide_eq_false (by show ¬ n + r.2 < n; omega)⟩
  rw [flat_app, flat_app, List.countP_append, List.countP_append, x1, x2, x3, List.length_map] at hc
  omega
end Pc
namespace Pc
open PySem PySem.Spec PyProof.Rows L2 RZ
section
variable {P : Program} {w : World} {K : PySem.W.Frag} {mg : Str → Option Value} {base : Heap}
/-! ### the law's own sheet of a word -/
def spSheetOf (K : PySem.W.Frag) : Sp := fun vs H Q _ => ∃ (n : Nat) (wd : Addr) (us : List V) (as : List Addr) (qs : List (Nat × Nat)), vs = [.int n, .ref wd] ∧ SqL K H wd us ∧ us = as.map V.ref ∧ Prs H as qs ∧ Calls n qs ∧ 2 ≤ n ∧ n ≤ 1000 ∧
  ∀ (H' : Hp) (t : Addr), Same H H' → H t = none → H' t = some (.tup (nv (shw n qs (emp n)))) → Q (.ref t) H'
theorem ok_sheet_of (T : Env K mg) : FnOk P w K mg base CX0 1 T.f_sheet_of T.d_sheet_of ["_law_count", "_law_cries"] (spSheetOf K) := by
  refine T.F_sheet_of.ok sc_sheet_of (fun vs H Q E h => ?_) (fun cdv A outer s H vs Q E hr h => ?_)
  · obtain ⟨n, wd, us, as, qs, rfl, _⟩ := h
    rfl
  · obtain ⟨n, wd, us, as, qs, rfl, hS, rfl, hA, hc, h2, hn, q⟩ := h
    refine ⟨_, pss_cons (ps_setLc (i := 2) (own := [("_law_end", 7)]) (g := gName 7) (tt := tYes) (te := tOp (rI (fun _ j => 0 < j) fun i j => .int (i % j)) (tOp (rI0 fun i j => .int (i + j)) (tVar 7) (tVar 0)) (tOp (rI CMul fun i j => .int (i * j)) (tC (.int 2)) (tVar 0))) rfl sc_sheet_of.nd rfl rfl (sw_true rfl rfl rfl (by decide +kernel))
          (pi_range1 (by rfl) T.n_range (pa_cons (pe_op op_mul pe_int (pv 0)) pa_nil)) (blkOk_by (N := N_sheet_of) (sc := defScope s_sheet_of) (by decide +kernel)) (fun _ _ _ _ _ => pg_name (i := 7) sc_sheet_of.nd rfl (.inl rfl)) (fun _ _ _ _ _ => pts_nil)
          (fun _ _ _ _ _ => pe_op op_mod (pe_op op_add (pv 7) (pv 0)) (pe_op op_mul pe_int (pv 0)))) <|
      pss_cons (ps_for PassesOwn.never rfl (pi_list (pv 1)) (pg_tup (by rfl) (pgs_cons (pg_name (i := 3) sc_sheet_of.nd rfl (.inl rfl)) (pgs_cons (pg_name (i := 4) sc_sheet_of.nd rfl (.inl rfl)) pgs_nil)))
        (pss_cons (ps_par (by rfl) sc_sheet_of.nd (i := 5) (j := 6) rfl rfl (by decide) rfl rfl (pa_cons (pe_ix ix_list (pv 2) (pe_op op_add (pv 0) (pv 3)) (fun _ _ => rfl)) (pa_cons (pe_ix ix_list (pv 2) (pe_op op_add (pv 0) (pv 4)) (fun _ _ => rfl)) pa_nil)) (by rfl)) <|
        pss_one (ps_if (pt_cmpR op_ne (pv 5) (pe_op op_add (pv 0) (pv 4)) (nomark _))
          (pss_cons (ps_asg (pe_tup (pa_cons (pv 6) (pa_cons (pv 5) pa_nil))) (pg_tup rfl (pgs_cons (pg_sub (pv 2) (pv 5) set_list) (pgs_cons (pg_sub (pv 2) (pv 6) set_list) pgs_nil)))) <|
          pss_one (ps_asg (pe_tup (pa_cons (pe_op op_add (pv 0) (pv 4)) (pa_cons (pe_op op_add (pv 0) (pv 3)) pa_nil))) (pg_tup rfl (pgs_cons (pg_sub (pv 2) (pe_op op_add (pv 0) (pv 3)) set_list) (pgs_cons (pg_sub (pv 2) (pe_op op_add (pv 0) (pv 4)) set_list) pgs_nil))))) pss_nil))) <|
      pss_one (ps_ret (pe_callTy call_tuple_of (by rfl) T.n_tuple (by decide +kernel) (pa_cons (pv 2) pa_nil))), ?_⟩
    have hE := emp_pair (n := n) (by omega)
    refine ⟨_, rfl, 2, n, rfl, rfl, .inl ⟨by decide, by decide⟩, _, rfl, by omega, by omega, fun D nD => ?_⟩
    rw [show (2 * (n : Int)).toNat = 2 * n by omega]
    refine lc_range (n := 2 * n) (fun i H' => Same H H' ∧ H' D = some (.lst (nv ((emp n).take i)))) ⟨same_new nD, upd_same⟩ (fun i H' hi hPv => ?_) (fun H1 hPv => ?_)
    · obtain ⟨sm, eD⟩ := hPv
      refine ⟨rfl, yes_if ⟨_, rfl, _, rfl, _, _, rfl, rfl, _, rfl, 2, n, rfl, rfl, .inl ⟨by decide, by decide⟩, _, _, rfl, rfl, (show (0 : Int) < 2 * (n : Int) by omega), _, eD, line_big (by rw [nv_length, List.length_take]; omega), fun b o hb => ?_, ?_⟩⟩
      · rw [upd_ne (ne_of_none hb nD)]; exact sm _ _ hb
      · rw [upd_same, emp_step n i hi, ← nv_snoc']
        show some (HO.lst (nv ((emp n).take i) ++ [V.int (((0 : Int) + (i : Nat) + (n : Int)) % (2 * (n : Int)))])) = _
        rw [mod_cast_n]
    · obtain ⟨s1, eD⟩ := hPv
      rw [← emp_len n, List.take_length] at eD
      refine ⟨.ref wd, rfl, wd, rfl, ⟨_, s1.seq hS⟩, ?_⟩
      refine for_list (xs := as.map V.ref) (fun i σ H' => Same H H' ∧ ∃ (y3 y4 y5 y6 : Option V), σ = [some (.int n), some (.ref wd), some (.ref D), y3, y4, y5, y6, none] ∧ H' D = some (.lst (nv (shw n (qs.take i) (emp n))))) ⟨s1, none, none, none, none, rfl, eD⟩ (fun i σ H' _ h => h.1.seq hS) (fun i x σ H' hx h => ?_) (fun σ H' h => ?_)
      · obtain ⟨sm, y3, y4, y5, y6, rfl, e1⟩ := h
        rw [List.getElem?_map] at hx
        cases et : as[i]? with
        | none => rw [et] at hx; cases hx
        | some t =>
        rw [et] at hx
        cases Option.some.inj hx
        obtain ⟨r, er, ht⟩ := prs_get hA et
        have hcr := hc r (List.mem_of_getElem? er)
        have hPi := shw_pair hE (hc.take i)
        obtain ⟨u, ea, hu, _⟩ := hPi.par (n + r.1) (by omega)
        obtain ⟨v, eb, hv, _⟩ := hPi.par (n + r.2) (by omega)
        have hl := hPi.len
        have c1 : (n : Int) + (r.1 : Int) = ((n + r.1 : Nat) : Int) := by omega
        have c2 : (n : Int) + (r.2 : Int) = ((n + r.2 : Nat) : Int) := by omega
        have a1 : atI (nv (shw n (qs.take i) (emp n))) ((n : Int) + (r.1 : Int)) = some (.int u) := by rw [c1]; exact nv_at ea
        have a2 : atI (nv (shw n (qs.take i) (emp n))) ((n : Int) + (r.2 : Int)) = some (.int v) := by rw [c2]; exact nv_at eb
        refine ⟨t, _, rfl, .inl (.inl (sm _ _ ht)), rfl, _, _, rfl, _, _, rfl, rfl, ?_⟩
        refine ⟨.ref D, rfl, _, rfl, _, rfl, _, _, rfl, rfl, D, _, _, _, rfl, rfl, .inl (.inl e1), a1, .ref D, rfl, _, rfl, _, rfl, _, _, rfl, rfl, D, _, _, _, rfl, rfl, .inl (.inl e1), a2, _, _, rfl, ?_⟩
        refine ⟨_, rfl, _, rfl, _, rfl, _, _, rfl, rfl, rfl, _, rfl, ite2 (fun c => ?_) (fun c => ?_)⟩
        · have hne : u ≠ n + r.2 := fun z => by
            have c' : (!decide (V.int (u : Int) = V.int ((n : Int) + (r.2 : Int)))) = true := c
            rw [c2, z, decide_eq_true rfl] at c'
            exact absurd c' (by decide)
          have ln : ∀ {l : List V}, l.length = 2 * n → ∀ {i : Nat}, i < 2 * n → ixN l.length (i : Int) = some i := fun {l} hl2 {i} hi => ixN_nat (by rw [hl2]; exact hi)
          refine ⟨_, rfl, _, rfl, by show 2 ≤ sizeLine; decide, fun tp ntp => ?_⟩
          have Dt : D ≠ tp := ne_of_none e1 ntp
          have s2 : Same H' _ := same_new (o := .tup [.int v, .int u]) ntp
          refine ⟨tp, _, rfl, .inl (.inl upd_same), rfl, _, _, rfl, .ref D, rfl, _, rfl, D, _, _, u, rfl, rfl, s2 _ _ e1, ln (by rw [nv_length, hl]) hu, ?_⟩
          refine ⟨_, _, rfl, .ref D, rfl, _, rfl, D, _, _, v, rfl, rfl, upd_same, ln (by rw [List.length_set, nv_length, hl]) hv, rfl, ?_⟩
          refine ⟨_, rfl, _, rfl, _, _, rfl, rfl, _, rfl, _, rfl, _, _, rfl, rfl, by show 2 ≤ sizeLine; decide, fun tq ntq => ?_⟩
          have Dq : D ≠ tq := ne_of_none upd_same ntq
          refine ⟨tq, _, rfl, .inl (.inl upd_same), rfl, _, _, rfl, .ref D, rfl, _, rfl, _, rfl, _, _, rfl, rfl, D, _, _, n + r.1, rfl, rfl, same_new ntq _ _ upd_same, ?_, ?_⟩
          · rw [c1]
            exact ln (by simp only [List.length_set]; rw [nv_length, hl]) (by omega)
          refine ⟨_, _, rfl, .ref D, rfl, _, rfl, _, rfl, _, _, rfl, rfl, D, _, _, n + r.2, rfl, rfl, upd_same, ?_, rfl, ?_⟩
          · rw [c2]
            exact ln (by simp only [List.length_set]; rw [nv_length, hl]) (by omega)
          refine ⟨fun b o hb => ?_, _, _, _, _, rfl, ?_⟩
          · have nb : b ≠ D := ne_of_none hb nD
            rw [upd_ne nb, upd_ne nb]
            refine same_new ntq _ _ ?_
            rw [upd_ne nb, upd_ne nb]
            exact s2 _ _ (sm _ _ hb)
          · rw [upd_same]
            dsimp only
            rw [c1, c2, nv_set, nv_set, nv_set, nv_set, shw_take er, jn_alt hPi (by omega) ea eb hne]
        · have heq : u = n + r.2 := by
            by_cases z : u = n + r.2
            · exact z
            · exact absurd (by rw [decide_eq_false (fun y => z (by have := V.int.inj y; omega))]; rfl) c
          subst heq
          refine ⟨sm, _, _, _, _, rfl, ?_⟩
          rw [shw_take er, jn_same ea]
          exact e1
      · obtain ⟨sm, y3, y4, y5, y6, rfl, e1⟩ := h
        rw [List.length_map, hA.length, List.take_length] at e1
        exact ⟨.ref D, rfl, D, _, rfl, .inl ⟨.inl (.inl e1), fun t nt => q _ t (sm.trans (same_new nt)) (sm.free nt) upd_same⟩⟩
end
end Pc
namespace Pc
open PySem PySem.Spec PyProof.Rows L2 RZ
section
variable {P : Program} {w : World} {K : PySem.W.Frag} {mg : Str → Option Value} {base : Heap}
/-! ### a drawn sheet -/
def spAnyPage : Sp := fun vs H Q _ => ∃ (b : Addr) (k n : Nat), vs = [.ref b, .int n] ∧ Box (k + 6 * n + 20) H b ∧ 2 ≤ n ∧ n ≤ 100 ∧
  ∀ (H' : Hp) (p : Addr) (fs : List Nat), IsPair (2 * n) fs → Keep b H H' → Box k H' b → H p = none → H' p = some (.tup (nv fs)) → Q (.ref p) H'
theorem keep_free {b p : Addr} {k : Nat} {H H' : Hp} (hk : Keep b H H') (hB : Box k H' b) (h : H' p = none) : H p = none := by
  cases e : H p with
  | none => rfl
  | some o =>
    by_cases hb : p = b
    · subst hb
      obtain ⟨y, hy⟩ := hB.lst
      rw [hy] at h; cases h
    · rw [hk p o hb e] at h; cases h
theorem ok_any_page (T : Env K mg) : FnOk P w K mg base CX0 4 T.f_any_page T.d_any_page ["_law_box_here", "_law_count"] spAnyPage := by
  have GT : FnOk P w K mg base CX0 1 T.f_take T.d_take ["_law_box_here", "_law_span"] spTake := ok_take T
  have GC : FnOk P w K mg base CX0 3 T.f_some_calls T.d_some_calls ["_law_box_here", "_law_count", "_law_most"] spSomeCalls := ok_some_calls T
  have GS : FnOk P w K mg base CX0 2 T.f_strewn T.d_strewn ["_law_box_here", "_law_some"] (spStrewn K) := ok_strewn T
  have GP : FnOk P w K mg base CX0 1 T.f_paired T.d_paired ["_law_order"] (spPaired K) := ok_paired T
  have GH : FnOk P w K mg base CX0 1 T.f_sheet_of T.d_sheet_of ["_law_count", "_law_cries"] (spSheetOf K) := ok_sheet_of T
  refine T.F_any_page.ok sc_any_page (fun vs H Q E h => ?_) (fun cdv A outer s H vs Q E hr h => ?_)
  · obtain ⟨b, k, n, rfl, _⟩ := h
    rfl
  · obtain ⟨b, k, n, rfl, hB, h2, hn, q⟩ := h
    have h1 := hr.mono (show 1 ≤ 3 by decide)
    have h22 := hr.mono (show 2 ≤ 3 by decide)
    refine ⟨_, pss_cons (ps_set (i := 2) sc_any_page.nd rfl (.inl rfl) (pe_call GT h1 (by rfl) T.g_take T.F_take.kp T.b_take .nil pass0 (pa_cons (pv 0) (pa_cons pe_int pa_nil)))) <|
      pss_cons (ps_if (pt_cmpR op_gt (pv 2) pe_int (nomark _)) (pss_one (ps_ret (pe_call GH h1 (by rfl) T.g_sheet_of T.F_sheet_of.kp T.b_sheet_of .nil pass0 (pa_cons (pv 1) (pa_cons (pe_call GC hr (by rfl) T.g_some_calls T.F_some_calls.kp T.b_some_calls .nil pass0 (pa_cons (pv 0) (pa_cons (pv 1) (pa_cons (pe_op op_mul pe_int (pv 1)) pa_nil)))) pa_nil))))) pss_nil) <|
      pss_cons (ps_if (pt_cmpR op_eq (pv 2) pe_int (nomark _)) (pss_one (ps_ret (pe_call GP h1 (by rfl) T.g_paired T.F_paired.kp T.b_paired .nil pass0 (pa_cons (pe_call GS h22 (by rfl) T.g_strewn T.F_strewn.kp T.b_strewn .nil pass0 (pa_cons (pv 0) (pa_cons (pe_listRg rfl (by rfl) T.n_list (prg_1 (by rfl) T.n_range (pe_op op_mul pe_int (pv 1)))) pa_nil))) pa_nil)))) pss_nil) <|
      pss_cons (ps_par (by rfl) sc_any_page.nd (i := 3) (j := 4) rfl rfl (by decide) rfl rfl (pa_cons (pe_call GS h22 (by rfl) T.g_strewn T.F_strewn.kp T.b_strewn .nil pass0 (pa_cons (pv 0) (pa_cons (pe_listRg rfl (by rfl) T.n_list (prg_2 (by rfl) T.n_range (pv 1) (pe_op op_mul pe_int (pv 1)))) pa_nil))) (pa_cons (pe_op op_rep (pe_lst (pa_cons pe_int pa_nil)) (pe_op op_mul pe_int (pv 1))) pa_nil)) (by rfl)) <|
      pss_cons (ps_for PassesOwn.never rfl (pi_enum (by rfl) T.n_enumerate (pa_cons (pv 3) pa_nil)) (pg_tup (by rfl) (pgs_cons (pg_name (i := 5) sc_any_page.nd rfl (.inl rfl)) (pgs_cons (pg_name (i := 6) sc_any_page.nd rfl (.inl rfl)) pgs_nil)))
        (pss_one (ps_asg (pe_tup (pa_cons (pv 6) (pa_cons (pv 5) pa_nil))) (pg_tup rfl (pgs_cons (pg_sub (pv 4) (pv 5) set_list) (pgs_cons (pg_sub (pv 4) (pv 6) set_list) pgs_nil)))))) <|
      pss_one (ps_ret (pe_callTy call_tuple_of (by rfl) T.n_tuple (by decide +kernel) (pa_cons (pv 4) pa_nil))), ?_⟩
    refine ⟨.ref b, rfl, b, k + 6 * n + 19, 4, rfl, hB, by decide, by decide, fun r H1 r0 r1 hB1 k1 => ?_⟩
    have c2n : (2 * (n : Int)) = ((2 * n : Nat) : Int) := by omega
    refine ⟨_, rfl, _, _, rfl, rfl, _, rfl, ite2 (fun c => ?_) (fun c => ?_)⟩
    · -- of a word
      refine ⟨_, rfl, .ref b, rfl, _, rfl, _, rfl, 2, n, rfl, rfl, .inl ⟨by decide, by decide⟩, b, k, n, 2 * n, ?_, hB1.mono (by omega), h2, by omega, by omega, fun H2 p as qs hc hl np ep hA k2 hB2 => ?_⟩
      · show [V.ref b, V.int n, V.int (2 * (n : Int))] = _
        rw [c2n]
      refine ⟨n, p, _, as, qs, rfl, .inl (.inl ep), rfl, hA, hc, h2, by omega, fun H3 t s3 nt et => ?_⟩
      have k3 : Keep b H H3 := (k1.trans k2).trans (Keep.of_same s3)
      exact q H3 t _ (shw_pair (emp_pair (by omega)) hc) k3 (hB2.same s3) (keep_free (k1.trans k2) hB2 nt) et
    · refine ⟨_, rfl, rfl, _, rfl, ite2 (fun c' => ?_) (fun c' => ?_)⟩
      · -- any joins
        refine ⟨.ref b, rfl, _, rfl, 2, n, rfl, rfl, .inl ⟨by decide, by decide⟩, _, rfl, RgOk.of_le (by decide) (by omega) (by decide) (by omega), fun a na => ?_⟩
        have s1 : Same H1 _ := same_new (o := .lst (rgV 0 (2 * (n : Int)))) na
        have hl : (rgV 0 (2 * (n : Int))).length = 2 * n := by rw [rgV_length]; omega
        refine ⟨b, a, k, _, rfl, (hB1.same s1).mono (by rw [hl]; omega), .inl (.inl upd_same), by rw [hl]; omega, fun H2 p2 ys hp hk2 hb2 np2 ep2 => ?_⟩
        obtain ⟨os, e1, e2⟩ := perm_map_inv (fun (i : Nat) => V.int (i : Int)) hp.symm (List.range (2 * n)) (by rw [c2n]; exact rg_nv (2 * n))
        have ep3 : H2 p2 = some (.lst (nv os)) := by rw [ep2, e1]; rfl
        refine ⟨p2, os, 2 * n, rfl, .inl (.inl ep3), e2, by omega, by omega, fun H3 p ps hps s3 np ep => ?_⟩
        have k02 : Keep b H H2 := k1.trans ((Keep.of_same s1).trans hk2)
        exact q H3 p ps hps (k02.trans (Keep.of_same s3)) (hb2.same s3) (keep_free k02 hb2 np) ep
      · -- strands
        refine ⟨.ref b, rfl, _, rfl, _, rfl, 2, n, rfl, rfl, .inl ⟨by decide, by decide⟩, _, _, rfl, rfl, RgOk.of_le (by omega) (by omega) (by omega) (by omega), fun a na => ?_⟩
        have s1 : Same H1 _ := same_new (o := .lst (rgV (n : Int) (2 * (n : Int)))) na
        have hl : (rgV (n : Int) (2 * (n : Int))).length = n := by rw [rgV_length]; omega
        refine ⟨b, a, k, _, rfl, (hB1.same s1).mono (by rw [hl]; omega), .inl (.inl upd_same), by rw [hl]; omega, fun H2 p2 ys hp hk2 hb2 np2 ep2 => ?_⟩
        obtain ⟨ls, e1, e2⟩ := perm_map_inv (fun (i : Nat) => V.int (i : Int)) hp.symm ((List.range n).map fun i => n + i) (range_shift n)
        have ep3 : H2 p2 = some (.lst (nv ls)) := by rw [ep2, e1]; rfl
        have hll : ls.length = n := by rw [e2.length_eq, List.length_map, List.length_range]
        have k02 : Keep b H H2 := k1.trans ((Keep.of_same s1).trans hk2)
        refine ⟨by show 1 ≤ sizeLine; decide, fun e ne => ?_⟩
        have s2 : Same H2 _ := same_new (o := .lst [.int 0]) ne
        refine ⟨_, rfl, 2, n, rfl, rfl, .inl ⟨by decide, by decide⟩, e, _, [.int 0], rfl, rfl, upd_same, by omega, by omega, ?_, fun f nf => ⟨_, _, rfl, ?_⟩⟩
        · show 1 * Int.toNat (2 * (n : Int)) ≤ sizeLine
          exact Nat.le_of_lt (small1000 (by omega))
        have e0 : (List.replicate (2 * (n : Int)).toNat [V.int 0]).flatten = nv (List.replicate (2 * n) 0) := by
          rw [rep_flat, show (2 * (n : Int)).toNat = 2 * n by omega]
          unfold nv
          rw [List.map_replicate]; rfl
        have s3 : Same H2 _ := s2.trans (same_new (o := .lst (List.replicate (2 * (n : Int)).toNat [V.int 0]).flatten) nf)
        have nf0 : H2 f = none := s2.free nf
        refine ⟨.ref p2, rfl, p2, _, rfl, .inl (.inl (s3 _ _ ep3)), ?_⟩
        refine for_it (walk_enum (xs := nv ls)) (fun i σ H' => Same H2 H' ∧ ∃ (y5 y6 : Option V) (fs : List Nat), σ = [some (.ref b), some (.int (n : Int)), some (.int r), some (.ref p2), some (.ref f), y5, y6] ∧ H' f = some (.lst (nv fs)) ∧ SInv n ls fs i)
          ⟨s3, none, none, List.replicate (2 * n) 0, rfl, by rw [upd_same, e0], by rw [List.length_replicate], fun j hj => absurd hj (Nat.not_lt_zero _)⟩ (fun i σ H' _ h => .inl (.inl (h.1 _ _ ep3))) (fun i x σ H3 H4 hi h y => ?_) (fun σ H' h => ?_)
        · obtain ⟨sm, y5, y6, fs, rfl, ef, si⟩ := h
          obtain ⟨tp, v1, v2, rfl, ntp, rfl, g1, g2⟩ := y
          have ev1 : v1 = .int (i : Nat) := (Option.some.inj g1).symm
          obtain ⟨l, el, ev2⟩ := nv_get' g2
          subst ev1 ev2
          have hlt : n ≤ l ∧ l < 2 * n := by
            obtain ⟨i', hi', e'⟩ := List.mem_map.mp (e2.mem_iff.mp (List.mem_of_getElem? el))
            have := List.mem_range.mp hi'
            omega
          have hin : i < n := by rw [← hll]; exact get_lt el
          have s4 : Same H3 _ := same_new (o := .tup [.int (i : Nat), .int l]) ntp
          refine ⟨tp, _, rfl, .inl (.inl upd_same), rfl, _, _, rfl, _, _, rfl, rfl, _, rfl, _, rfl, by show 2 ≤ sizeLine; decide, fun tq ntq => ?_⟩
          have s5 := same_new (o := .tup [.int l, .int (i : Nat)]) ntq
          have ef5 := s5 _ _ (s4 _ _ ef)
          refine ⟨tq, _, rfl, .inl (.inl upd_same), rfl, _, _, rfl, .ref f, rfl, _, rfl, f, _, _, i, rfl, rfl, ef5, ixN_nat (by rw [nv_length, si.1]; omega), ?_⟩
          refine ⟨_, _, rfl, .ref f, rfl, _, rfl, f, _, _, l, rfl, rfl, upd_same, ixN_nat (by rw [List.length_set, nv_length, si.1]; omega), rfl, ?_⟩
          refine ⟨fun a' o ha => ?_, _, _, (fs.set i l).set l i, rfl, ?_, si.step e2 el⟩
          · have na' : a' ≠ f := ne_of_none ha nf0
            rw [upd_ne na', upd_ne na']; exact s5 _ _ (s4 _ _ (sm _ _ ha))
          · rw [upd_same, nv_set, nv_set]
        · obtain ⟨sm, y5, y6, fs, rfl, ef, si⟩ := h
          rw [nv_length, hll] at si
          refine ⟨.ref f, rfl, f, _, rfl, .inl ⟨.inl (.inl ef), fun t nt => ?_⟩⟩
          have st := sm.trans (same_new (o := .tup (nv fs)) nt)
          exact q _ t fs (si.done e2) (k02.trans (Keep.of_same st)) (hb2.same st) (keep_free k02 hb2 (sm.free nt)) upd_same
end
end Pc
namespace Pc
open PySem PySem.Spec PyProof.Rows L2 RZ
/-! ### the heap without some objects -/
open Classical in
noncomputable def off (S : Addr → Prop) (H : Hp) : Hp := fun a => if S a then none else H a
theorem off_le {S : Addr → Prop} {H : Hp} : Same (off S H) H := fun a o h => by
  unfold off at h
  by_cases e : S a
  · rw [if_pos e] at h; cases h
  · rw [if_neg e] at h; exact h
theorem off_keep {S : Addr → Prop} {b : Addr} {H H' : Hp} (hb : S b) (k : Keep b H H') : Same (off S H) (off S H') := fun a o h => by
  unfold off at h ⊢
  by_cases e : S a
  · rw [if_pos e] at h; cases h
  · rw [if_neg e] at h ⊢; exact k a o (fun z => e (z ▸ hb)) h
theorem off_same {S : Addr → Prop} {H H' : Hp} (s : Same H H') : Same (off S H) (off S H') := fun a o h => by
  unfold off at h ⊢
  by_cases e : S a
  · rw [if_pos e] at h; cases h
  · rw [if_neg e] at h ⊢; exact s a o h
theorem off_get {S : Addr → Prop} {a : Addr} {H : Hp} {o : HO} (h : ¬ S a) (e : H a = some o) : off S H a = some o := by
  unfold off; rw [if_neg h]; exact e
theorem off_more {S S' : Addr → Prop} {H : Hp} (h : ∀ a, S a → S' a) : Same (off S' H) (off S H) := fun a o e => by
  unfold off at e ⊢
  by_cases z : S' a
  · rw [if_pos z] at e; cases e
  · rw [if_neg z] at e; rw [if_neg (fun y => z (h a y))]; exact e
/-- all of S is there -/
def Has (S : Addr → Prop) (H : Hp) : Prop := ∀ a, S a → ∃ o, H a = some o
theorem Has.same {S : Addr → Prop} {H H' : Hp} (h : Has S H) (s : Same H H') : Has S H' := fun a ha => let ⟨o, e⟩ := h a ha; ⟨o, s _ _ e⟩
theorem Has.new {S : Addr → Prop} {H : Hp} {p : Addr} (h : Has S H) (np : H p = none) : ¬ S p := fun z => by
  obtain ⟨o, e⟩ := h p z
  rw [np] at e; cases e
/-! ### data that is written out -/
def tD (K : PySem.W.Frag) (S : Addr → Prop) (d : PyData) : TE := fun _ H Q => Has S H ∧ ∀ v H', Same H H' → Dp K (off S H') v d → Q v H'
def tDs (K : PySem.W.Frag) (S : Addr → Prop) (ds : List PyData) : TA := fun _ H Q => Has S H ∧ ∀ vs H', Same H H' → DpAll K (off S H') vs ds → Q vs H'
section
variable {X : Cx} {S : Addr → Prop}
theorem pd_of {e : Expr} {t : TE} {v : V} {d : PyData} (h : PE X e t) (ht : ∀ σ H (Q : VK), Q v H → t σ H Q) (hd : ∀ H, Dp X.K H v d) : PE X e (tD X.K S d) := ⟨fun pins s σ H Q I q => h.run pins s σ H Q I (ht σ H Q (q.2 _ _ (fun _ _ z => z) (hd _)))⟩
theorem pd_int {i : Int} {j pos} : PE X (.Constant (.int i) j pos) (tD X.K S (.int i)) := pd_of pe_int (fun _ _ _ q => q) fun _ => .int i
theorem pd_bl {i : Bool} {j pos} : PE X (.Constant (.bool i) j pos) (tD X.K S (.bool i)) := pd_of pe_bl (fun _ _ _ q => q) fun _ => .bl i
theorem pd_non {j pos} : PE X (.Constant .none j pos) (tD X.K S .none) := pd_of pe_non (fun _ _ _ q => q) fun _ => .non
theorem pd_str {x : Str} {j pos} : PE X (.Constant (.str x) j pos) (tD X.K S (.str x)) := pd_of pe_str (fun _ _ _ q => q) fun _ => .str x
theorem pd_nil : PA X [] (tDs X.K S []) := ⟨fun pos pins s σ H Q I h => pa_nil.run pos pins s σ H Q I (h.2 _ _ (fun _ _ z => z) .nil)⟩
theorem pd_cons {e : Expr} {es : List Expr} {d : PyData} {ds : List PyData} (ha : PE X e (tD X.K S d)) (hr : PA X es (tDs X.K S ds)) (hs : starEach (e :: es) X.env = (false, eval e X.env) :: starEach es X.env := by rfl) : PA X (e :: es) (tDs X.K S (d :: ds)) :=
  ⟨fun pos pins s σ H Q I h => (pa_cons ha hr hs).run pos pins s σ H Q I ⟨h.1, fun v H1 s1 d1 => ⟨h.1.same s1, fun vs H2 s2 d2 => h.2 (v :: vs) H2 (s1.trans s2) (.cons (dp_same (off_same s2) d1) d2)⟩⟩⟩
theorem pd_tup {es : List Expr} {ds : List PyData} {x1} {pos : Pos} (h : PA X es (tDs X.K S ds)) (hl : ds.length ≤ 100000 := by decide) : PE X (.Tuple es x1 pos) (tD X.K S (.tuple ds)) :=
  ⟨fun pins s σ H Q I hq => (pe_tup h).run pins s σ H Q I ⟨hq.1, fun vs H1 s1 d1 => ⟨by rw [dpa_len d1]; exact Nat.le_of_lt (line_big hl), fun p np => hq.2 _ _ (s1.trans (same_new np)) (.tup (.inl (.inl (off_get ((hq.1.same s1).new np) upd_same))) (dpa_same (off_same (same_new np)) d1))⟩⟩⟩
theorem pd_lst {es : List Expr} {ds : List PyData} {pos : Pos} (h : PA X es (tDs X.K S ds)) (hl : ds.length ≤ 100000 := by decide) : PE X (.List es pos) (tD X.K S (.list ds)) :=
  ⟨fun pins s σ H Q I hq => (pe_lst h).run pins s σ H Q I ⟨hq.1, fun vs H1 s1 d1 => ⟨by rw [dpa_len d1]; exact Nat.le_of_lt (line_big hl), fun p np => hq.2 _ _ (s1.trans (same_new np)) (.lst (.inl (.inl (off_get ((hq.1.same s1).new np) upd_same))) (dpa_same (off_same (same_new np)) d1))⟩⟩⟩
end
/-! ### the kinds -/
def tyN : PyData → String
  | .none => "NoneType"
  | .bool _ => "bool"
  | .int _ => "int"
  | .str _ => "str"
  | .list _ => "list"
  | .tuple _ => "tuple"
  | .dict _ => "dict"
theorem dp_ty {K : PySem.W.Frag} {H : Hp} : ∀ {v : V} {d : PyData}, Dp K H v d → TyX K H v (.type (tyN d))
  | _, _, .non => .base .non
  | _, _, .bl b => .base (.bl b)
  | _, _, .int i => .base (.int i)
  | _, _, .str x => .base (.str x)
  | _, _, .lst h _ => ty_lst h
  | _, _, .tup h _ => ty_tup h
def isI : PyData → Bool
  | .int _ | .bool _ => true
  | _ => false
def isB : PyData → Bool
  | .bool _ => true
  | _ => false
def isT : PyData → Bool
  | .tuple _ => true
  | _ => false
def isL : PyData → Bool
  | .list _ => true
  | _ => false
theorem k_int {K : PySem.W.Frag} {H : Hp} {v : V} {d : PyData} (h : Dp K H v d) : PySem.W.kitOne K (.type (tyN d)) (.type "int") = some (isI d) := by
  cases h
  · exact one_none_int
  · exact one_bool_int
  · exact one_int_int
  · exact one_str_int
  · exact one_list_int
  · exact one_tuple_int
theorem k_bool {K : PySem.W.Frag} {H : Hp} {v : V} {d : PyData} (h : Dp K H v d) : PySem.W.kitOne K (.type (tyN d)) (.type "bool") = some (isB d) := by
  cases h
  · exact one_none_bool
  · exact one_bool_bool
  · exact one_int_bool
  · exact one_str_bool
  · exact one_list_bool
  · exact one_tuple_bool
theorem k_tuple {K : PySem.W.Frag} {H : Hp} {v : V} {d : PyData} (h : Dp K H v d) : PySem.W.kitOne K (.type (tyN d)) (.type "tuple") = some (isT d) := by
  cases h
  · exact one_none_tuple
  · exact one_bool_tuple
  · exact one_int_tuple
  · exact one_str_tuple
  · exact one_list_tuple
  · exact one_tuple_tuple
theorem k_list {K : PySem.W.Frag} {H : Hp} {v : V} {d : PyData} (h : Dp K H v d) : PySem.W.kitOne K (.type (tyN d)) (.type "list") = some (isL d) := by
  cases h
  · exact one_none_list
  · exact one_bool_list
  · exact one_int_list
  · exact one_str_list
  · exact one_list_list
  · exact one_tuple_list
theorem k_lt {K : PySem.W.Frag} {H : Hp} {v : V} {d : PyData} (h : Dp K H v d) : PySem.W.kitAny K (.type (tyN d)) [.type "list", .type "tuple"] = some (isL d || isT d) := by
  cases h
  · exact any_lt_none
  · exact any_lt_bool
  · exact any_lt_int
  · exact any_lt_str
  · exact any_lt_list
  · exact any_lt_tuple
/-! ### joined in pairs -/
def belowB (n : Nat) : PyData → Bool
  | .int i => decide (0 ≤ i) && decide (i < (n : Int))
  | _ => false
def natOf : PyData → Nat
  | .int i => i.toNat
  | _ => 0
def pairB (fs : List Nat) (i : Nat) : Bool := !decide (fs.getD i 0 = i) && decide (fs.getD (fs.getD i 0) 0 = i)
def joinB (ds : List PyData) : Bool := ds.all (belowB ds.length) && (List.range ds.length).all (pairB (ds.map natOf))
theorem below_nats {K : PySem.W.Frag} {H : Hp} {n : Nat} : ∀ {vs : List V} {ds : List PyData}, DpAll K H vs ds → ds.all (belowB n) = true → vs = nv (ds.map natOf) ∧ ∀ x ∈ ds.map natOf, x < n
  | _, _, .nil, _ => ⟨rfl, fun x hx => by simp at hx⟩
  | _, _, .cons (d := d) (ds := ds) h r, e => by
    rw [List.all_cons, Bool.and_eq_true] at e
    obtain ⟨e1, e2⟩ := e
    obtain ⟨g1, g2⟩ := below_nats r e2
    cases h with
    | int i =>
      unfold belowB at e1
      rw [Bool.and_eq_true, decide_eq_true_iff, decide_eq_true_iff] at e1
      refine ⟨?_, fun x hx => ?_⟩
      · rw [g1]
        show V.int i :: nv (ds.map natOf) = V.int ((i.toNat : Nat) : Int) :: nv (ds.map natOf)
        rw [show ((i.toNat : Nat) : Int) = i by omega]
      · rcases List.mem_cons.mp (show x ∈ i.toNat :: ds.map natOf from hx) with z | z
        · omega
        · exact g2 x z
    | non => cases e1
    | bl => cases e1
    | str => cases e1
    | lst => cases e1
    | tup => cases e1
def joinD : PyData → Bool
  | .tuple ds => joinB ds
  | _ => false
def isPairB : PyData → Bool
  | .tuple ds => joinB ds && decide (0 < ds.length)
  | _ => false
theorem all_take_bl {α : Type} (f : α → Bool) {l : List α} {i : Nat} {x : α} (h : l[i]? = some x) : ((l.take (i + 1)).map f).map V.bl = ((l.take i).map f).map V.bl ++ [V.bl (f x)] := by
  rw [List.take_add_one, h, List.map_append, List.map_append]
  rfl
end Pc
namespace Pc
open PySem PySem.Spec PyProof.Rows L2 RZ
/-- a comprehension over a list or a tuple that stays as it is -/
theorem lc_seq' {K : PySem.W.Frag} {a : Addr} {xs : List V} {g : TG} {tt : TT} {te : TE} {vs : List Nat} {σ : L2.St} {H0 H1 : Hp} {Qd : Addr → Hp → Prop} (hS : Sq K H0 a xs) (s0 : Same H0 H1)
    (step : ∀ D, H1 D = none → ∃ Pv : Nat → Hp → Prop, Pv 0 (upd H1 D (.lst [])) ∧ (∀ i H', Pv i H' → Same H0 H') ∧ (∀ i x H', xs[i]? = some x → Pv i H' → g x (wipe σ vs) H' fun σ2 H2 => wipe σ2 vs = wipe σ vs ∧ tt σ2 H2 fun b H3 =>
      if b = true then te σ2 H3 fun y H4 => ∃ acc, H4 D = some (.lst acc) ∧ acc.length < sizeLine ∧ Pv (i + 1) (upd H4 D (.lst (acc ++ [y]))) else Pv (i + 1) H3) ∧ ∀ H', Pv xs.length H' → Qd D H') :
    ((∃ ys, SqL K H1 a ys) ∧ ∀ D, H1 D = none → ∃ W : Nat → Nat → Hp → Prop, (∃ m, W 0 m (upd H1 D (.lst []))) ∧ ∀ i m H, W i m H → ((Itl K a).stop i H ∧ Qd D H) ∨ ((Itl K a).go i H ∧ ∃ Nx : Hp → Prop, (∀ H', Nx H' → ∃ m', m' < m ∧ W (i + 1) m' H') ∧ ∀ x H', (Itl K a).yld i H x H' → g x (wipe σ vs) H' fun σ2 H2 => wipe σ2 vs = wipe σ vs ∧ tt σ2 H2 fun b H3 =>
        if b = true then te σ2 H3 fun y H4 => ∃ acc, H4 D = some (.lst acc) ∧ acc.length < sizeLine ∧ Nx (upd H4 D (.lst (acc ++ [y]))) else Nx H3)) ∨
    ((∃ ys, SqT K H1 a ys) ∧ ∀ D, H1 D = none → ∃ W : Nat → Nat → Hp → Prop, (∃ m, W 0 m (upd H1 D (.lst []))) ∧ ∀ i m H, W i m H → ((Itt K a).stop i H ∧ Qd D H) ∨ ((Itt K a).go i H ∧ ∃ Nx : Hp → Prop, (∀ H', Nx H' → ∃ m', m' < m ∧ W (i + 1) m' H') ∧ ∀ x H', (Itt K a).yld i H x H' → g x (wipe σ vs) H' fun σ2 H2 => wipe σ2 vs = wipe σ vs ∧ tt σ2 H2 fun b H3 =>
        if b = true then te σ2 H3 fun y H4 => ∃ acc, H4 D = some (.lst acc) ∧ acc.length < sizeLine ∧ Nx (upd H4 D (.lst (acc ++ [y]))) else Nx H3)) := by
  rcases hS with h | h
  · refine .inl ⟨⟨_, s0.seq h⟩, fun D nD => ?_⟩
    obtain ⟨Pv, h0, hst, hs, hd⟩ := step D nD
    exact lc_list Pv h0 (fun i H' _ p => (hst i H' p).seq h) hs hd
  · refine .inr ⟨⟨_, same_tup s0 h⟩, fun D nD => ?_⟩
    obtain ⟨Pv, h0, hst, hs, hd⟩ := step D nD
    exact lc_tup Pv h0 (fun i H' _ p => same_tup (hst i H' p) h) hs hd
end Pc
namespace Pc
open PySem PySem.Spec PyProof.Rows L2 RZ
/-! ### data of any kind: leaves, weight -/
mutual
def okD (B : Nat) : PyData → Prop
  | .none | .bool _ => True
  | .int i => i.natAbs ≤ B
  | .str x => PyData.strOk x = true
  | .list xs | .tuple xs => okAll B xs
  | .dict _ => False
def okAll (B : Nat) : List PyData → Prop
  | [] => True
  | x :: xs => okD B x ∧ okAll B xs
end
mutual
def wt : PyData → Nat
  | .none | .bool _ => 5
  | .int _ => 130
  | .str x => 10 * x.length + 2
  | .list xs | .tuple xs => 3 + wtAll xs
  | .dict _ => 0
def wtAll : List PyData → Nat
  | [] => 0
  | x :: xs => wt x + 2 + wtAll xs
end
theorem okAll_iff {B : Nat} : ∀ {ds : List PyData}, okAll B ds ↔ ∀ x ∈ ds, okD B x
  | [] => ⟨fun _ x hx => by simp at hx, fun _ => trivial⟩
  | d :: r => by
    show okD B d ∧ okAll B r ↔ _
    rw [okAll_iff (ds := r)]
    constructor
    · rintro ⟨h1, h2⟩ x hx
      rcases List.mem_cons.mp hx with z | z
      · rw [z]; exact h1
      · exact h2 x z
    · exact fun h => ⟨h d List.mem_cons_self, fun x hx => h x (List.mem_cons_of_mem _ hx)⟩
mutual
theorem okD_mono {B C : Nat} (h : B ≤ C) : ∀ {d : PyData}, okD B d → okD C d
  | .none, _ => trivial
  | .bool _, _ => trivial
  | .int i, e => Nat.le_trans (show i.natAbs ≤ B from e) h
  | .str _, e => e
  | .list _, e => okAll_mono h (show okAll B _ from e)
  | .tuple _, e => okAll_mono h (show okAll B _ from e)
  | .dict _, e => e
theorem okAll_mono {B C : Nat} (h : B ≤ C) : ∀ {ds : List PyData}, okAll B ds → okAll C ds
  | [], _ => trivial
  | _ :: _, ⟨a, b⟩ => ⟨okD_mono h a, okAll_mono h b⟩
end
theorem wtAll_app : ∀ a b : List PyData, wtAll (a ++ b) = wtAll a + wtAll b
  | [], b => (Nat.zero_add _).symm
  | x :: r, b => by show wt x + 2 + wtAll (r ++ b) = wt x + 2 + wtAll r + wtAll b; rw [wtAll_app r b]; omega
theorem wtAll_get : ∀ {ds : List PyData} {i : Nat} {x : PyData}, ds[i]? = some x → wt x + 2 ≤ wtAll ds
  | [], _, _, h => by simp at h
  | d :: r, 0, _, h => by cases Option.some.inj h; show _ ≤ wt d + 2 + wtAll r; omega
  | d :: r, i + 1, x, h => Nat.le_trans (wtAll_get (ds := r) (i := i) h) (by show _ ≤ wt d + 2 + wtAll r; omega)
theorem wtAll_set : ∀ {ds : List PyData} {i : Nat} {x : PyData} (y : PyData), ds[i]? = some x → wtAll (ds.set i y) + wt x = wtAll ds + wt y
  | [], _, _, _, h => by simp at h
  | d :: r, 0, _, y, h => by cases Option.some.inj h; show wt y + 2 + wtAll r + wt d = wt d + 2 + wtAll r + wt y; omega
  | d :: r, i + 1, x, y, h => by
    have := wtAll_set (ds := r) (i := i) y h
    show wt d + 2 + wtAll (r.set i y) + wt x = wt d + 2 + wtAll r + wt y
    omega
theorem wtAll_len : ∀ ds : List PyData, 2 * ds.length ≤ wtAll ds
  | [] => Nat.le_refl _
  | d :: r => by have := wtAll_len r; show 2 * (r.length + 1) ≤ wt d + 2 + wtAll r; omega
theorem wtAll_nd : ∀ l : List Nat, wtAll (nd l) = 132 * l.length
  | [] => rfl
  | x :: r => by show 130 + 2 + wtAll (nd r) = 132 * (r.length + 1); rw [wtAll_nd r]; omega
theorem strOk_signs {x : Str} (h : PyData.strOk x = true) : ∀ c ∈ x.cps.toList, c < 16 ^ 8 := fun c hc => by
  unfold PyData.strOk at h
  rw [← Array.all_toList] at h
  have h2 := of_decide_eq_true (List.all_eq_true.mp h c hc)
  exact Nat.lt_of_lt_of_le h2 (by decide)
theorem strOk_of (t : String) : PyData.strOk (Str.ofString t) = true := by
  unfold PyData.strOk
  rw [← Array.all_toList]
  refine List.all_eq_true.mpr fun c hc => decide_eq_true ?_
  rw [Str.ofString_eq_toList] at hc
  have hc' : c ∈ t.toList.map Char.toNat := by simpa using hc
  obtain ⟨z, _, rfl⟩ := List.mem_map.mp hc'
  have := z.valid
  rcases this with h | h
  · exact Nat.lt_of_lt_of_le h (by decide)
  · exact h.2
mutual
theorem shown_wt {B : Nat} (hB : B < 2 ^ 126) : ∀ {d : PyData}, okD B d → d.shown.length ≤ wt d
  | .none, _ => by decide
  | .bool b, _ => by cases b <;> decide
  | .int i, e => by
    have e' : i.natAbs ≤ B := e
    show (Str.ofString (toString i)).length ≤ 130
    rw [str_len]
    exact Nat.le_trans (int_text_length_le (k := 126) (by decide) (log_lt (by omega) (by decide))) (by decide)
  | .str x, e => by
    show (reprText x).length ≤ 10 * x.length + 2
    exact StrLaws.reprText_len x (strOk_signs e)
  | .list xs, e => by
    have h := shownAll_wt hB (show okAll B xs from e)
    have h3 := listText_len_le (PyData.shownAll xs)
    show (listText (PyData.shownAll xs)).length ≤ 3 + wtAll xs
    omega
  | .tuple xs, e => by
    have h := shownAll_wt hB (show okAll B xs from e)
    have h3 := tupleText_len_le (PyData.shownAll xs)
    show (tupleText (PyData.shownAll xs)).length ≤ 3 + wtAll xs
    omega
  | .dict _, e => e.elim
theorem shownAll_wt {B : Nat} (hB : B < 2 ^ 126) : ∀ {ds : List PyData}, okAll B ds → ((PyData.shownAll ds).map (·.length)).sum + 2 * (PyData.shownAll ds).length ≤ wtAll ds
  | [], _ => Nat.le_refl _
  | d :: r, ⟨e1, e2⟩ => by
    have h1 := shown_wt hB e1
    have h2 := shownAll_wt hB e2
    show ((d.shown :: PyData.shownAll r).map (·.length)).sum + 2 * ((PyData.shownAll r).length + 1) ≤ wt d + 2 + wtAll r
    rw [List.map_cons, List.sum_cons]
    omega
end
mutual
theorem okD_lay {B : Nat} : ∀ {d : PyData}, okD B d → d.canLay0 = true
  | .none, _ => rfl
  | .bool _, _ => rfl
  | .int _, _ => rfl
  | .str _, e => e
  | .list _, e => okAll_lay (show okAll B _ from e)
  | .tuple _, e => okAll_lay (show okAll B _ from e)
  | .dict _, e => e.elim
theorem okAll_lay {B : Nat} : ∀ {ds : List PyData}, okAll B ds → PyData.canLayAll0 ds = true
  | [], _ => rfl
  | d :: r, ⟨a, b⟩ => by show (d.canLay0 && PyData.canLayAll0 r) = true; rw [okD_lay a, okAll_lay b]; rfl
end
mutual
theorem okD_show {B : Nat} (hB : B < 2 ^ 126) : ∀ {d : PyData}, okD B d → d.showable = true
  | .none, _ => rfl
  | .bool _, _ => rfl
  | .int i, e => decide_eq_true (Nat.lt_of_lt_of_le (log_lt (k := 126) (Nat.lt_of_le_of_lt (show i.natAbs ≤ B from e) hB) (by decide)) (by decide))
  | .str _, _ => rfl
  | .list _, e => okAll_show hB (show okAll B _ from e)
  | .tuple _, e => okAll_show hB (show okAll B _ from e)
  | .dict _, e => e.elim
theorem okAll_show {B : Nat} (hB : B < 2 ^ 126) : ∀ {ds : List PyData}, okAll B ds → PyData.showableAll ds = true
  | [], _ => rfl
  | d :: r, ⟨a, b⟩ => by show (d.showable && PyData.showableAll r) = true; rw [okD_show hB a, okAll_show hB b]; rfl
end
mutual
theorem nar_wt : ∀ {d : PyData}, wt d ≤ 100000 → narrow d
  | .none, _ => trivial
  | .bool _, _ => trivial
  | .int _, _ => trivial
  | .str _, _ => trivial
  | .list xs, h => by
    have h' : 3 + wtAll xs ≤ 100000 := h
    have := wtAll_len xs
    exact ⟨by omega, narAll_wt (by omega)⟩
  | .tuple xs, h => by
    have h' : 3 + wtAll xs ≤ 100000 := h
    have := wtAll_len xs
    exact ⟨by omega, narAll_wt (by omega)⟩
  | .dict _, _ => trivial
theorem narAll_wt : ∀ {ds : List PyData}, wtAll ds ≤ 100000 → narrowAll ds
  | [], _ => trivial
  | d :: r, h => by
    have h' : wt d + 2 + wtAll r ≤ 100000 := h
    exact ⟨nar_wt (by omega), narAll_wt (by omega)⟩
end
theorem okD_fine {B m k : Nat} {d : PyData} (hB : B < 2 ^ 126) (h : okD B d) (hw : wt d ≤ m) (hm : m ≤ 100000) (hd : d.depth ≤ k) : Fine k m d :=
  ⟨okD_lay h, okD_show hB h, hd, nar_wt (by omega), Nat.le_trans (shown_wt hB h) hw⟩
/-! ### parts of lists of data -/
section
variable {K : PySem.W.Frag} {H : Hp}
theorem dpa_take : ∀ {vs : List V} {ds : List PyData} (i : Nat), DpAll K H vs ds → DpAll K H (vs.take i) (ds.take i)
  | _, _, 0, _ => .nil
  | _, _, _ + 1, .nil => .nil
  | _, _, i + 1, .cons h r => .cons h (dpa_take i r)
theorem dpa_drop : ∀ {vs : List V} {ds : List PyData} (i : Nat), DpAll K H vs ds → DpAll K H (vs.drop i) (ds.drop i)
  | _, _, 0, h => h
  | _, _, _ + 1, .nil => .nil
  | _, _, i + 1, .cons _ r => dpa_drop i r
theorem dpa_app : ∀ {vs us : List V} {ds es : List PyData}, DpAll K H vs ds → DpAll K H us es → DpAll K H (vs ++ us) (ds ++ es)
  | _, _, _, _, .nil, s => s
  | _, _, _, _, .cons h r, s => .cons h (dpa_app r s)
theorem dpa_set : ∀ {vs : List V} {ds : List PyData} (i : Nat) {v : V} {d : PyData}, DpAll K H vs ds → Dp K H v d → DpAll K H (vs.set i v) (ds.set i d)
  | _, _, _, _, _, .nil, _ => .nil
  | _, _, 0, _, _, .cons _ r, h => .cons h r
  | _, _, i + 1, _, _, .cons g r, h => .cons g (dpa_set i r h)
end
theorem cut_to (vs : List V) (i : Nat) : cutV vs none (some (i : Int)) = vs.take i := by
  unfold cutV
  rw [HT.sIx_none, HT.sIx_nat, List.drop_zero, Nat.sub_zero]
  by_cases h : i ≤ vs.length
  · rw [Nat.min_eq_left h]
  · rw [Nat.min_eq_right (by omega), List.take_of_length_le (Nat.le_refl _), List.take_of_length_le (by omega)]
theorem cut_from (vs : List V) (i : Nat) : cutV vs (some (i : Int)) none = vs.drop i := by
  unfold cutV
  rw [HT.sIx_none, HT.sIx_nat]
  by_cases h : i ≤ vs.length
  · rw [Nat.min_eq_left h, List.take_of_length_le (by rw [List.length_drop]; omega)]
  · rw [Nat.min_eq_right (by omega), List.drop_of_length_le (Nat.le_refl _), List.drop_of_length_le (by omega), List.take_nil]
end Pc
namespace Pc
open PySem PySem.Spec PyProof.Rows L2 RZ
/-! ### tuple(range(i, j, c)) -/
def rgC (i c : Int) (n : Nat) : List V := (List.range n).map fun k => V.int (i + (k : Nat) * c)
def rgCD (i c : Int) (n : Nat) : List PyData := (List.range n).map fun k => PyData.int (i + (k : Nat) * c)
theorem dpa_map {K : PySem.W.Frag} {H : Hp} (g : Nat → Int) : ∀ l : List Nat, DpAll K H (l.map fun k => V.int (g k)) (l.map fun k => PyData.int (g k))
  | [] => .nil
  | _ :: r => .cons (.int _) (dpa_map g r)
theorem dpa_rgC {K : PySem.W.Frag} {H : Hp} (i c : Int) (n : Nat) : DpAll K H (rgC i c n) (rgCD i c n) := dpa_map (fun k => i + (k : Nat) * c) _
theorem wt_ints (g : Nat → Int) : ∀ l : List Nat, wtAll (l.map fun k => PyData.int (g k)) = 132 * l.length
  | [] => rfl
  | x :: r => by show 130 + 2 + wtAll (r.map fun k => PyData.int (g k)) = 132 * (r.length + 1); rw [wt_ints g r]; omega
theorem wt_rgCD (i c : Int) (n : Nat) : wtAll (rgCD i c n) = 132 * n := by unfold rgCD; rw [wt_ints, List.length_range]
theorem depth_rgCD (i c : Int) (n : Nat) : PyData.depthAll (rgCD i c n) ≤ 0 := all_depth fun d hd => by
  obtain ⟨k, _, rfl⟩ := List.mem_map.mp hd
  exact Nat.le_refl _
def tTupRgC (ta : TA) : TE := fun σ H Q => ta σ H fun vs H1 => ∃ (i j c : Int) (n : Nat), vs = [.int i, .int j, .int c] ∧ RgC i j c n ∧ n ≤ 2 ^ 20 ∧ ∀ q, H1 q = none → Q (.ref q) (upd H1 q (.tup (rgC i c n)))
theorem vals_rgC {i c : Int} {n : Nat} {acc : Array Value} (h : ItemsOf (fun k v => ∃ t, v = .int (i + k * c) t) acc n) : Vals (rgC i c n) acc.toList := by
  have e : acc.toList.length = n := by rw [Array.length_toList]; exact h.1
  unfold rgC
  rw [← e]
  refine vals_of_get acc.toList _ fun j u hj => ?_
  obtain ⟨t, rfl⟩ := h.2 j u (by rw [← hj, Array.getElem?_toList])
  exact ⟨t, rfl⟩
theorem pe_tupRgC {X : Cx} {a b c : Expr} {ta : TA} {p pos p2 pos2 : Pos} (hc : X.calm = true) (hg : Gl X "tuple") (hm : X.mg "tuple" = none) (hg2 : Gl X "range") (hm2 : X.mg "range" = none) (ha : PA X [a, b, c] ta)
    (na : starEach [.Call (.Name "range" p2) [a, b, c] [] pos2] X.env = (false, eval (.Call (.Name "range" p2) [a, b, c] [] pos2) X.env) :: starEach [] X.env := by rfl)
    (hs : starEach [a, b, c] X.env = (false, eval a X.env) :: starEach [b, c] X.env := by rfl) (hpl : (backTo pos2 (starEach [b, c] X.env)).any (·.1) = false := by rfl) :
    PE X (.Call (.Name "tuple" p) [.Call (.Name "range" p2) [a, b, c] [] pos2] [] pos) (tTupRgC ta) := by
  refine ⟨fun pins s σ H Q I h => ?_⟩
  refine Call_ (ld_blt I hg hm boot_tuple (PyProof.Rows.callWith_type1 (args_cons ?_ na) na))
  refine Call_ (ld_blt I hg2 hm2 boot_range (PyProof.Rows.callWith_type1 (thn (ha.run pos2 pins s σ H _ I h) fun us s1 ⟨vs, H1, I1, r1, q1⟩ => ?_) hs hpl))
  obtain ⟨i, j, k, n, e, ⟨c0, c1, c2, c3⟩, hn, q⟩ := q1
  subst e
  cases r1 with
  | cons r rr =>
    cases rr with
    | cons r' rr =>
      cases rr with
      | cons r'' rr =>
        cases rr
        obtain ⟨t, rfl⟩ := r
        obtain ⟨t', rfl⟩ := r'
        obtain ⟨t'', rfl⟩ := r''
        refine call_range_3 c0 ?_ (.inl (PyProof.noPylong_small c1))
        refine args_nil ?_
        have I2 : Inv X pins σ H1 { s1 with heap := s1.heap.push { cls := .type "range", data := .fields #[.int i t, .int j t', .int k t''] } } := I1.kept (t' := s1.toks) fun b o e => Heap.get?_push_of_some _ e
        refine call_tuple_range (n := n) (I2.ok.hd hc) (IsRange.new ..) c2 c3 (Nat.le_trans hn (by decide)) fun h' tk acc hk hi => ?_
        have I3 := I2.kept (t' := tk) hk
        refine ⟨.ref h'.objs.size, upd H1 h'.objs.size (.tup (rgC i k n)), I3.laid (t' := tk) (fun c o e => Heap.get?_push_of_some _ e) (Nat.le_refl _) (show ObjOk X.prog X.w _ _ _ (.tup (rgC i k n)) from ⟨?_, acc.toList, vals_rgC hi, ?_⟩), rfl, q _ (I3.hok.fresh (Nat.le_refl _))⟩
        · unfold rgC; rw [List.length_map, List.length_range, sizeLine_eq]; omega
        · rw [Array.toArray_toList]; exact IsTup.new _ _
/-! ### repr of any data -/
theorem call_reprV {X : Cx} (hgd : X.A.guards = some []) (hu : X.A.units + 64 < cLine) : CallR X (.builtin "repr") (fun xs H Q => ∃ (v : V) (d : PyData), xs = [v] ∧ Dp X.K H v d ∧ d.canLay0 = true ∧ d.showable = true ∧ d.depth ≤ 60 ∧ d.shown.length ≤ sizeLine ∧ Q (.str d.shown) H) := by
  intro pins s σ H xs us Q I r h
  obtain ⟨v, d, rfl, hd, hl, hs, hdp, hz, q⟩ := h
  obtain ⟨u, rfl, ru⟩ := vals1 r
  cases hd with
  | non => cases ru; exact PySem.P.repr_of_none ⟨.str _, H, I.tok _, ⟨_, rfl⟩, q⟩
  | bl b => cases ru; exact PySem.P.repr_of_bool ⟨.str _, H, I.tok _, ⟨_, rfl⟩, q⟩
  | int i =>
    obtain ⟨t, rfl⟩ := ru
    exact PySem.P.repr_of_int (of_decide_eq_true hs) ⟨.str _, H, I.tok _, ⟨_, rfl⟩, q⟩
  | str x =>
    obtain ⟨t, rfl⟩ := ru
    exact PySem.P.repr_of_str ⟨.str _, H, I.tok _, ⟨_, rfl⟩, q⟩ hz
  | lst hS hA =>
    exact call_reprD hgd hu pins s σ H _ _ Q I r ⟨_, _, rfl, .lst hS hA, hl, hs, hdp, hz, q⟩
  | tup hS hA =>
    exact call_reprD hgd hu pins s σ H _ _ Q I r ⟨_, _, rfl, .tup hS hA, hl, hs, hdp, hz, q⟩
end Pc
namespace Pc
open PySem PySem.Spec PyProof.Rows L2 RZ
section
variable {P : Program} {w : World} {K : PySem.W.Frag} {mg : Str → Option Value} {base : Heap}
/-! ### the looks at calls: valid ones raise nothing -/
def spCheckPerson : Sp := fun vs H Q _ => ∃ (n u : Nat), vs = [.int n, .int u] ∧ u < n ∧ Q .non H
theorem ok_p_check_person (T : Env K mg) : FnOk P w K mg base CX0 1 T.f_p_check_person T.d_p_check_person ["size", "person"] spCheckPerson := by
  refine T.F_p_check_person.ok sc_p_check_person (fun vs H Q E h => ?_) (fun cdv A outer s H vs Q E hr h => ?_)
  · obtain ⟨n, u, rfl, _⟩ := h
    rfl
  · obtain ⟨n, u, rfl, hu, q⟩ := h
    refine ⟨_, pss_one (ps_if (pt_not (pt_chain op_le op_lt pe_int (pv 1) (pv 0))) pss_never pss_nil), ?_⟩
    refine ⟨_, rfl, 0, u, rfl, rfl, _, rfl, ?_⟩
    rw [decide_eq_true (show (0 : Int) ≤ (u : Int) by omega)]
    refine iteT ⟨.int n, rfl, u, n, rfl, rfl, _, rfl, ?_⟩
    rw [decide_eq_true (show (u : Int) < (n : Int) by omega)]
    exact iteN q
end
end Pc
namespace Pc
open PySem PySem.Spec PyProof.Rows L2 RZ
section
variable {P : Program} {w : World} {K : PySem.W.Frag} {mg : Str → Option Value} {base : Heap}
/-! ### the number of people of a sheet -/
def spPeople (K : PySem.W.Frag) : Sp := fun vs H Q _ => ∃ (a : Addr) (fs : List Nat) (n : Nat), vs = [.ref a] ∧ Sq K H a (nv fs) ∧ fs.length = 2 * n ∧ Q (.int n) H
theorem ok_p_people_of (T : Env K mg) : FnOk P w K mg base CX0 1 T.f_p_people_of T.d_p_people_of ["sheet"] (spPeople K) := by
  refine T.F_p_people_of.ok sc_p_people_of (fun vs H Q E h => ?_) (fun cdv A outer s H vs Q E hr h => ?_)
  · obtain ⟨a, fs, n, rfl, _⟩ := h
    rfl
  · obtain ⟨a, fs, n, rfl, hS, hl, q⟩ := h
    refine ⟨_, pss_one (ps_ret (pe_op op_fdiv (pe_callB call_len_seq (by rfl) T.n_len PySem.boot_len (pa_cons (pv 0) pa_nil)) pe_int)), ?_⟩
    refine ⟨.ref a, rfl, a, _, rfl, hS, _, 2, rfl, rfl, ⟨by decide, by decide⟩, ?_⟩
    show Q (.int (((nv fs).length : Int) / 2)) H
    rw [nv_length, hl, show (((2 * n : Nat) : Int) / 2) = (n : Int) by omega]
    exact q
end
end Pc
namespace Pc
/-! ### ways along a sheet and a pairing -/
/-- nodup numbers below n are n at most -/
theorem few_below : ∀ (n : Nat) (l : List Nat), l.Nodup → (∀ x ∈ l, x < n) → l.length ≤ n
  | 0, l, _, h => by
    cases l with
    | nil => exact Nat.le_refl _
    | cons a r => exact absurd (h a List.mem_cons_self) (Nat.not_lt_zero _)
  | n + 1, l, hd, h => by
    by_cases hm : n ∈ l
    · have h1 : (l.erase n).length = l.length - 1 := List.length_erase_of_mem hm
      have h2 := few_below n (l.erase n) (hd.erase n) (fun x hx => by
        have hx' := (hd.mem_erase_iff).mp hx
        have := h x hx'.2
        have := hx'.1
        omega)
      omega
    · have h2 := few_below n l hd (fun x hx => by
        have := h x hx
        have : x ≠ n := fun e => hm (e ▸ hx)
        omega)
      omega
/-- a function on the first n + 1 numbers into the n first ones takes one value twice -/
theorem pigeon (n : Nat) (f : Nat → Nat) (h : ∀ i, i ≤ n → f i < n) : ∃ i j, i < j ∧ j ≤ n ∧ f i = f j := by
  apply Classical.byContradiction
  intro hn
  have hd : ((List.range (n + 1)).map f).Nodup := by
    rw [List.nodup_iff_pairwise_ne, List.pairwise_map]
    refine List.Pairwise.imp_of_mem ?_ List.pairwise_lt_range
    intro a b ha hb hab e
    exact hn ⟨a, b, hab, by have := List.mem_range.mp hb; omega, e⟩
  have := few_below n _ hd (fun x hx => by
    obtain ⟨i, hi, rfl⟩ := List.mem_map.mp hx
    exact h i (by have := List.mem_range.mp hi; omega))
  rw [List.length_map, List.length_range] at this
  omega
section
variable (fs ps : List Nat) (n : Nat)
/-- the whole way from an end: along the join, along the couple, and so on until a lower end -/
inductive Trail : Nat → List Nat → Prop
  | stop {z : Nat} : n ≤ fs.getD z 0 → Trail z [z, fs.getD z 0]
  | go {z : Nat} {l : List Nat} : fs.getD z 0 < n → Trail (ps.getD (fs.getD z 0) 0) l → Trail z (z :: fs.getD z 0 :: l)
/-- where the steps of a way begin -/
def hop (z : Nat) : Nat → Nat
  | 0 => z
  | k + 1 => ps.getD (fs.getD (hop z k) 0) 0
end
theorem IsPair.d {n : Nat} {ps : List Nat} (h : IsPair n ps) {x : Nat} (hx : x < n) : ps.getD x 0 < n ∧ ps.getD x 0 ≠ x ∧ ps.getD (ps.getD x 0) 0 = x ∧ ps[x]? = some (ps.getD x 0) := by
  obtain ⟨y, h1, h2, h3, h4⟩ := h.par x hx
  rw [getD_of h1]
  exact ⟨h2, h3, getD_of h4, h1⟩
theorem IsPair.inj {n : Nat} {ps : List Nat} (h : IsPair n ps) {x y : Nat} (hx : x < n) (hy : y < n) (e : ps.getD x 0 = ps.getD y 0) : x = y := by
  rw [← (h.d hx).2.2.1, ← (h.d hy).2.2.1, e]
theorem Trail.det {fs ps : List Nat} {n z : Nat} {l m : List Nat} (h : Trail fs ps n z l) : Trail fs ps n z m → l = m := by
  induction h generalizing m with
  | stop h1 => intro h; cases h with
    | stop _ => rfl
    | go h2 _ => omega
  | go h1 _ ih => intro h; cases h with
    | stop h2 => omega
    | go _ h3 => rw [ih h3]
theorem Trail.len {fs ps : List Nat} {n z : Nat} {l : List Nat} (h : Trail fs ps n z l) : 2 ≤ l.length ∧ l.length % 2 = 0 ∧ n ≤ l.getLastD 0 := by
  induction h with
  | stop h1 => exact ⟨Nat.le_refl _, by simp only [List.length_cons, List.length_nil], h1⟩
  | @go z l h1 _ ih =>
    refine ⟨by simp only [List.length_cons]; omega, by simp only [List.length_cons]; omega, ?_⟩
    cases l with
    | nil => exact absurd ih.1 (by decide)
    | cons a r => exact ih.2.2
theorem hop_step (fs ps : List Nat) (z k : Nat) : hop fs ps (ps.getD (fs.getD z 0) 0) k = hop fs ps z (k + 1) := by
  induction k with
  | zero => rfl
  | succ k ih => rw [hop, ih]; rfl
theorem trail_of {fs ps : List Nat} {n : Nat} : ∀ (m z : Nat), n ≤ fs.getD (hop fs ps z m) 0 → ∃ l, Trail fs ps n z l ∧ l.length ≤ 2 * m + 2
  | 0, z, h => ⟨_, .stop h, Nat.le_refl _⟩
  | m + 1, z, h => by
    by_cases c : fs.getD z 0 < n
    · obtain ⟨l, h1, h2⟩ := trail_of m (ps.getD (fs.getD z 0) 0) (by rw [hop_step]; exact h)
      exact ⟨_, .go c h1, by simp only [List.length_cons]; omega⟩
    · exact ⟨_, .stop (by omega), by simp only [List.length_cons, List.length_nil]; omega⟩
/-- every way from a lower end comes to a lower end -/
theorem trail_ex {fs ps : List Nat} {n : Nat} (hF : IsPair (2 * n) fs) (hP : IsPair n ps) {z : Nat} (hz : n ≤ z) (hz2 : z < 2 * n) : ∃ l, Trail fs ps n z l ∧ l.length ≤ 2 * n + 2 := by
  apply Classical.byContradiction
  intro hn
  have small : ∀ k, k ≤ n → fs.getD (hop fs ps z k) 0 < n := fun k hk => by
    apply Classical.byContradiction
    intro h
    obtain ⟨l, h1, h2⟩ := trail_of (fs := fs) (ps := ps) (n := n) k z (by omega)
    exact hn ⟨l, h1, by omega⟩
  have hl : ∀ k, k ≤ n → hop fs ps z k < 2 * n ∧ (0 < k → hop fs ps z k < n) := fun k hk => by
    cases k with
    | zero => exact ⟨hz2, fun h => absurd h (Nat.lt_irrefl _)⟩
    | succ k =>
      have := (hP.d (small k (by omega))).1
      exact ⟨by show ps.getD _ 0 < 2 * n; omega, fun _ => this⟩
  have diff : ∀ i j, i < j → j ≤ n → hop fs ps z i ≠ hop fs ps z j := fun i => by
    induction i with
    | zero =>
      intro j hj hn2 e
      have := (hl j hn2).2 hj
      have e' : z = hop fs ps z j := e
      omega
    | succ i ih =>
      intro j hj hn2 e
      cases j with
      | zero => omega
      | succ j =>
        have e1 : fs.getD (hop fs ps z i) 0 = fs.getD (hop fs ps z j) 0 := hP.inj (small i (by omega)) (small j (by omega)) e
        exact ih j (by omega) (by omega) (hF.inj (hl i (by omega)).1 (hl j (by omega)).1 e1)
  obtain ⟨i, j, h1, h2, h3⟩ := pigeon n (fun k => fs.getD (hop fs ps z k) 0) small
  exact diff i j h1 h2 (hF.inj (hl i (by omega)).1 (hl j h2).1 h3)
/-- the way of a lower end, and where it ends -/
noncomputable def trl (fs ps : List Nat) (n z : Nat) : List Nat := open Classical in if h : ∃ l, Trail fs ps n z l then h.choose else []
noncomputable def far (fs ps : List Nat) (n z : Nat) : Nat := (trl fs ps n z).getLastD 0
theorem Trail.eq {fs ps : List Nat} {n z : Nat} {l : List Nat} (h : Trail fs ps n z l) : trl fs ps n z = l := by
  unfold trl
  rw [dif_pos ⟨l, h⟩]
  exact (Exists.choose_spec (⟨l, h⟩ : ∃ l, Trail fs ps n z l)).det h
theorem trl_trail {fs ps : List Nat} {n : Nat} (hF : IsPair (2 * n) fs) (hP : IsPair n ps) {z : Nat} (hz : n ≤ z) (hz2 : z < 2 * n) : Trail fs ps n z (trl fs ps n z) ∧ (trl fs ps n z).length ≤ 2 * n + 2 := by
  obtain ⟨l, h1, h2⟩ := trail_ex hF hP hz hz2
  rw [h1.eq]; exact ⟨h1, h2⟩
/-- what is read -/
noncomputable def rd (fs ps : List Nat) (n : Nat) : List Nat := (List.range n).map fun x => far fs ps n (n + x) - n
end Pc
namespace Pc
theorem lastc {l : List Nat} (h : 2 ≤ l.length) (a b d : Nat) : (a :: b :: l).getLastD d = l.getLastD d := by
  cases l with
  | nil => exact absurd h (by decide)
  | cons x r => rfl
theorem Trail.last {fs ps : List Nat} {n z : Nat} {l : List Nat} (hF : IsPair (2 * n) fs) (hP : IsPair n ps) (h : Trail fs ps n z l) : z < 2 * n → l.getLastD 0 < 2 * n := by
  induction h with
  | @stop z h1 => intro hz; exact (hF.d hz).1
  | @go z l h1 h2 ih =>
    intro hz
    rw [lastc h2.len.1]
    have := (hP.d h1).1
    exact ih (by omega)
theorem Trail.rev {fs ps : List Nat} {n z : Nat} {l : List Nat} (hF : IsPair (2 * n) fs) (hP : IsPair n ps) (h : Trail fs ps n z l) : z < 2 * n → ∀ t : List Nat, (n ≤ z → t = []) → (z < n → Trail fs ps n (ps.getD z 0) t) → Trail fs ps n (l.getLastD 0) (l.reverse ++ t) := by
  have one : ∀ {z : Nat} {t : List Nat}, z < 2 * n → (n ≤ z → t = []) → (z < n → Trail fs ps n (ps.getD z 0) t) → Trail fs ps n (fs.getD z 0) (fs.getD z 0 :: z :: t) := fun {z t} hz h1 h2 => by
    have e := (hF.d hz).2.2.1
    by_cases c : z < n
    · have := Trail.go (fs := fs) (ps := ps) (n := n) (z := fs.getD z 0) (l := t) (by rw [e]; exact c) (by rw [e]; exact h2 c)
      rw [e] at this; exact this
    · rw [h1 (by omega)]
      have := Trail.stop (fs := fs) (ps := ps) (n := n) (z := fs.getD z 0) (by rw [e]; omega)
      rw [e] at this; exact this
  induction h with
  | @stop z h1 => intro hz t a b; exact one hz a b
  | @go z l h1 h2 ih =>
    intro hz t a b
    have hz' := hP.d h1
    rw [lastc h2.len.1]
    have := ih (by omega) (fs.getD z 0 :: z :: t) (fun x => by omega) (fun _ => by rw [hz'.2.2.1]; exact one hz a b)
    simp only [List.reverse_cons, List.append_assoc, List.cons_append, List.nil_append]
    exact this
theorem Trail.back {fs ps : List Nat} {n z : Nat} {l : List Nat} (hF : IsPair (2 * n) fs) (hP : IsPair n ps) (h : Trail fs ps n z l) (hz : n ≤ z) (hz2 : z < 2 * n) : Trail fs ps n (l.getLastD 0) l.reverse := by
  have := h.rev hF hP hz2 [] (fun _ => rfl) (fun h => by omega)
  rw [List.append_nil] at this; exact this
theorem Trail.head {fs ps : List Nat} {n z : Nat} {l : List Nat} (h : Trail fs ps n z l) : l[0]? = some z := by
  cases h <;> rfl
theorem Trail.adj {fs ps : List Nat} {n z : Nat} {l : List Nat} (hF : IsPair (2 * n) fs) (hP : IsPair n ps) (h : Trail fs ps n z l) : z < 2 * n → ∀ i x, l[i]? = some x → l[i + 1]? ≠ some x := by
  induction h with
  | @stop z h1 =>
    intro hz i x h1 h2
    have hi : i + 1 < 2 := get_lt h2
    have : i = 0 := by omega
    subst this
    have e1 : z = x := Option.some.inj h1
    have e2 : fs.getD z 0 = x := Option.some.inj h2
    exact (hF.d hz).2.1 (e2.trans e1.symm)
  | @go z l h1 h2 ih =>
    intro hz i x g1 g2
    have hz' := hP.d h1
    cases i with
    | zero =>
      have e1 : z = x := Option.some.inj g1
      have e2 : fs.getD z 0 = x := Option.some.inj g2
      exact (hF.d hz).2.1 (e2.trans e1.symm)
    | succ i =>
      cases i with
      | zero =>
        have e1 : fs.getD z 0 = x := Option.some.inj g1
        have e2 : some (ps.getD (fs.getD z 0) 0) = some x := h2.head.symm.trans g2
        exact hz'.2.1 ((Option.some.inj e2).trans e1.symm)
      | succ i => exact ih (by omega) i x g1 g2
theorem last_get {l : List Nat} (h : 0 < l.length) : l[l.length - 1]? = some (l.getLastD 0) := by
  cases l with
  | nil => exact absurd h (by decide)
  | cons a r => rw [← List.getLast?_eq_getElem?, List.getLast?_eq_some_getLast (List.cons_ne_nil a r), List.getLastD_cons, ← List.getLast_eq_getLastD (h := List.cons_ne_nil a r)]
theorem far_is {fs ps : List Nat} {n z : Nat} {l : List Nat} (h : Trail fs ps n z l) : far fs ps n z = l.getLastD 0 := by
  unfold far; rw [h.eq]
theorem far_d {fs ps : List Nat} {n : Nat} (hF : IsPair (2 * n) fs) (hP : IsPair n ps) {z : Nat} (hz : n ≤ z) (hz2 : z < 2 * n) : n ≤ far fs ps n z ∧ far fs ps n z < 2 * n ∧ far fs ps n (far fs ps n z) = z ∧ far fs ps n z ≠ z := by
  obtain ⟨l, h1, _⟩ := trail_ex hF hP hz hz2
  have hb := h1.back hF hP hz hz2
  have hl := h1.len
  have e := far_is h1
  have e2 := far_is hb
  rw [e, e2]
  refine ⟨hl.2.2, h1.last hF hP hz2, ?_, fun c => ?_⟩
  · have g := last_get (l := l.reverse) (by rw [List.length_reverse]; omega)
    rw [List.length_reverse, List.getElem?_reverse (by omega), show l.length - 1 - (l.length - 1) = 0 by omega, h1.head] at g
    exact (Option.some.inj g).symm
  · rw [c] at hb
    have e3 : l = l.reverse := h1.det hb
    obtain ⟨k, hk⟩ : ∃ k, l.length = 2 * k := ⟨l.length / 2, by omega⟩
    have g1 : l[k - 1]? = l[k]? := by
      have g : l[k - 1]? = l.reverse[k - 1]? := congrArg (fun (m : List Nat) => m[k - 1]?) e3
      rw [List.getElem?_reverse (by omega), show l.length - 1 - (k - 1) = k by omega] at g
      exact g
    have lt : k - 1 < l.length := by omega
    exact h1.adj hF hP hz2 (k - 1) l[k - 1] (List.getElem?_eq_getElem lt) (by rw [show k - 1 + 1 = k by omega, ← g1]; exact List.getElem?_eq_getElem lt)
theorem rd_len (fs ps : List Nat) (n : Nat) : (rd fs ps n).length = n := by unfold rd; rw [List.length_map, List.length_range]
theorem rd_get (fs ps : List Nat) {n x : Nat} (h : x < n) : (rd fs ps n)[x]? = some (far fs ps n (n + x) - n) := by
  unfold rd; rw [List.getElem?_map, List.getElem?_range h]; rfl
theorem rd_pair {fs ps : List Nat} {n : Nat} (hF : IsPair (2 * n) fs) (hP : IsPair n ps) : IsPair n (rd fs ps n) := by
  refine ⟨rd_len _ _ _, fun x hx => ?_⟩
  obtain ⟨h1, h2, h3, h4⟩ := far_d hF hP (z := n + x) (by omega) (by omega)
  refine ⟨_, rd_get fs ps hx, by omega, by omega, ?_⟩
  rw [rd_get fs ps (by omega), show n + (far fs ps n (n + x) - n) = far fs ps n (n + x) by omega, h3, show n + x - n = x by omega]
/-- a sheet that differs only at four ends -/
structure Near (fs gs : List Nat) (n A B c d : Nat) : Prop where
  la : n ≤ A
  lb : n ≤ B
  ab : A ≠ B
  fc : fs.getD c 0 = A
  un : ∀ z, fs.getD z 0 = A → z = c
  fd : fs.getD d 0 = B
  fb : fs.getD B 0 = d
  gc : gs.getD c 0 = d
  eq : ∀ z, z ≠ A → z ≠ B → z ≠ c → z ≠ d → gs.getD z 0 = fs.getD z 0
theorem Trail.near {fs gs ps : List Nat} {n A B c d z : Nat} {l : List Nat} (hP : IsPair n ps) (N : Near fs gs n A B c d) (h : Trail fs ps n z l) : z ≠ A → z ≠ B → l.getLastD 0 ≠ A → l.getLastD 0 ≠ B → Trail gs ps n z l := by
  have la := N.la
  have lb := N.lb
  induction h with
  | @stop z h1 =>
    intro hA hB eA eB
    have e : gs.getD z 0 = fs.getD z 0 := N.eq z hA hB (fun e => eA (by rw [e]; exact N.fc)) (fun e => eB (by rw [e]; exact N.fd))
    rw [← e]; exact .stop (by rw [e]; exact h1)
  | @go z l h1 h2 ih =>
    intro hA hB eA eB
    rw [lastc h2.len.1] at eA eB
    have e : gs.getD z 0 = fs.getD z 0 := N.eq z hA hB (fun e => by rw [e, N.fc] at h1; omega) (fun e => by rw [e, N.fd] at h1; omega)
    have hz' := (hP.d h1).1
    have t := ih (by omega) (by omega) eA eB
    rw [← e] at h1 t ⊢
    exact .go h1 t
theorem Trail.over {fs gs ps : List Nat} {n A B c d z : Nat} {l m : List Nat} (hP : IsPair n ps) (N : Near fs gs n A B c d) (hm : Trail fs ps n B m) (mA : m.getLastD 0 ≠ A) (mB : m.getLastD 0 ≠ B) (h : Trail fs ps n z l) : z ≠ A → z ≠ B → l.getLastD 0 = A → ∃ k, Trail gs ps n z k ∧ k.getLastD 0 = m.getLastD 0 := by
  have la := N.la
  have lb := N.lb
  have fb := N.fb
  induction h with
  | @stop z h1 =>
    intro hA hB eA
    by_cases zc : z = c
    · subst zc
      cases hm with
      | stop h => 
        refine ⟨_, .stop (by rw [N.gc, ← fb]; exact h), ?_⟩
        rw [N.gc, ← fb]; rfl
      | @go _ m h h2 =>
        rw [lastc h2.len.1] at mA mB ⊢
        rw [fb] at h h2
        have := hP.d h
        refine ⟨_, .go (by rw [N.gc]; exact h) (by rw [N.gc]; exact h2.near hP N (by omega) (by omega) mA mB), ?_⟩
        rw [lastc h2.len.1]
    · exact absurd (N.un z eA) zc
  | @go z l h1 h2 ih =>
    intro hA hB eA
    rw [lastc h2.len.1] at eA
    have e : gs.getD z 0 = fs.getD z 0 := N.eq z hA hB (fun e => by rw [e, N.fc] at h1; omega) (fun e => by rw [e, N.fd] at h1; omega)
    have hz' := (hP.d h1).1
    obtain ⟨k, t1, t2⟩ := ih (by omega) (by omega) eA
    rw [← e] at h1 t1
    refine ⟨_, .go h1 t1, ?_⟩
    rw [lastc t1.len.1]; exact t2

theorem jn_near {fs : List Nat} {n A B : Nat} (hF : IsPair (2 * n) fs) (hA : n ≤ A) (hB : n ≤ B) (hA2 : A < 2 * n) (hB2 : B < 2 * n) (hab : A ≠ B) (hc : fs.getD A 0 ≠ B) : Near fs (jn fs A B) n A B (fs.getD A 0) (fs.getD B 0) ∧ Near fs (jn fs A B) n B A (fs.getD B 0) (fs.getD A 0) ∧ (jn fs A B).getD A 0 = B ∧ (jn fs A B).getD B 0 = A := by
  obtain ⟨a1, a2, a3, a4⟩ := hF.d hA2
  obtain ⟨b1, b2, b3, b4⟩ := hF.d hB2
  have G := jn_get hF hab a4 b4 hc
  obtain ⟨x1, x2, x3, x4, _⟩ := four hF hab a4 b4 hc
  have D : ∀ z, (jn fs A B).getD z 0 = ((jn fs A B)[z]?).getD 0 := fun z => List.getD_eq_getElem?_getD
  have un : ∀ {X : Nat}, n ≤ X → X < 2 * n → ∀ z, fs.getD z 0 = X → z = fs.getD X 0 := fun {X} h1 h2 z e => by
    by_cases hz : z < 2 * n
    · rw [← e, (hF.d hz).2.2.1]
    · rw [List.getD_eq_getElem?_getD, List.getElem?_eq_none (by rw [hF.len]; omega)] at e
      have e' : 0 = X := e
      omega
  have E : ∀ z, z ≠ A → z ≠ B → z ≠ fs.getD A 0 → z ≠ fs.getD B 0 → (jn fs A B).getD z 0 = fs.getD z 0 := fun z h1 h2 h3 h4 => by
    rw [D, G, if_neg h1, if_neg h2, if_neg h3, if_neg h4, ← List.getD_eq_getElem?_getD]
  refine ⟨⟨hA, hB, hab, a3, un hA hA2, b3, rfl, ?_, E⟩, ⟨hB, hA, hab.symm, b3, un hB hB2, a3, rfl, ?_, fun z h1 h2 h3 h4 => E z h2 h1 h4 h3⟩, ?_, ?_⟩
  · rw [D, G, if_neg x1, if_neg hc, if_pos rfl]; rfl
  · rw [D, G, if_neg x3, if_neg x2, if_neg (Ne.symm x4), if_pos rfl]; rfl
  · rw [D, G, if_pos rfl]; rfl
  · rw [D, G, if_neg hab.symm, if_pos rfl]; rfl
theorem IsPair.ofd {fs : List Nat} {n x y : Nat} (h : IsPair n fs) (hx : x < n) (e : fs.getD x 0 = y) : fs[x]? = some y := by
  rw [← e]; exact (h.d hx).2.2.2
/-- a call added to a sheet is a call behind what is read -/
theorem rd_jn {fs ps : List Nat} {n a b : Nat} (hF : IsPair (2 * n) fs) (hP : IsPair n ps) (hab : a ≠ b) (ha : a < n) (hb : b < n) : rd (jn fs (n + a) (n + b)) ps n = jn (rd fs ps n) a b := by
  have hR := rd_pair hF hP
  by_cases hc : fs.getD (n + a) 0 = n + b
  · rw [jn_same (hF.ofd (by omega) hc)]
    have t : Trail fs ps n (n + a) [n + a, n + b] := by
      have := Trail.stop (fs := fs) (ps := ps) (n := n) (z := n + a) (by rw [hc]; omega)
      rw [hc] at this; exact this
    refine (jn_same ?_).symm
    rw [rd_get fs ps ha, far_is t]
    show some (n + b - n) = some b
    rw [Nat.add_sub_cancel_left]
  · obtain ⟨N1, N2, gA, gB⟩ := jn_near hF (A := n + a) (B := n + b) (by omega) (by omega) (by omega) (by omega) (by omega) hc
    have hF' : IsPair (2 * n) (jn fs (n + a) (n + b)) := jn_pair hF (by omega) (by omega) (by omega)
    have fA := far_d hF hP (z := n + a) (by omega) (by omega)
    have fB := far_d hF hP (z := n + b) (by omega) (by omega)
    have tA : Trail (jn fs (n + a) (n + b)) ps n (n + a) [n + a, n + b] := by
      have := Trail.stop (fs := jn fs (n + a) (n + b)) (ps := ps) (n := n) (z := n + a) (by rw [gA]; omega)
      rw [gA] at this; exact this
    have tB : Trail (jn fs (n + a) (n + b)) ps n (n + b) [n + b, n + a] := by
      have := Trail.stop (fs := jn fs (n + a) (n + b)) (ps := ps) (n := n) (z := n + b) (by rw [gB]; omega)
      rw [gB] at this; exact this
    obtain ⟨lA, hlA, _⟩ := trail_ex hF hP (z := n + a) (by omega) (by omega)
    obtain ⟨lB, hlB, _⟩ := trail_ex hF hP (z := n + b) (by omega) (by omega)
    have eA := far_is hlA
    have eB := far_is hlB
    have ga := rd_get fs ps ha
    have gb := rd_get fs ps hb
    refine List.ext_getElem? fun x => ?_
    by_cases hx : x < n
    · rw [rd_get _ ps hx]
      have fX := far_d hF hP (z := n + x) (by omega) (by omega)
      obtain ⟨lX, hlX, _⟩ := trail_ex hF hP (z := n + x) (by omega) (by omega)
      have eX := far_is hlX
      by_cases xa : x = a
      · subst xa
        rw [far_is tA, show [n + x, n + b].getLastD 0 - n = b by show n + b - n = b; omega]
        by_cases c : far fs ps n (n + x) - n = b
        · rw [jn_same (by rw [rd_get fs ps hx, c]), rd_get fs ps hx, c]
        · rw [jn_get hR hab ga gb c, if_pos rfl]
      · by_cases xb : x = b
        · subst xb
          rw [far_is tB, show [n + x, n + a].getLastD 0 - n = a by show n + a - n = a; omega]
          by_cases c : far fs ps n (n + a) - n = x
          · rw [jn_same (by rw [rd_get fs ps ha, c]), rd_get fs ps hx, show n + x = far fs ps n (n + a) by omega, fA.2.2.1, Nat.add_sub_cancel_left]
          · rw [jn_get hR hab ga gb c, if_neg (Ne.symm hab), if_pos rfl]
        · by_cases yA : far fs ps n (n + x) = n + a
          · -- the way of x came to a
            have e1 : far fs ps n (n + a) = n + x := by rw [← yA]; exact fX.2.2.1
            have e2 : far fs ps n (n + b) ≠ n + a := fun z => by
              have := fB.2.2.1
              rw [z, e1] at this; omega
            obtain ⟨k, k1, k2⟩ := Trail.over hP N1 hlB (by rw [← eB]; exact e2) (by rw [← eB]; exact fB.2.2.2) hlX (by omega) (by omega) (by rw [← eX]; exact yA)
            rw [far_is k1, k2, ← eB, jn_get hR hab ga gb (by omega), if_neg xa, if_neg xb, if_pos (by omega)]
          · by_cases yB : far fs ps n (n + x) = n + b
            · have e1 : far fs ps n (n + b) = n + x := by rw [← yB]; exact fX.2.2.1
              have e2 : far fs ps n (n + a) ≠ n + b := fun z => by
                have := fA.2.2.1
                rw [z, e1] at this; omega
              obtain ⟨k, k1, k2⟩ := Trail.over hP N2 hlA (by rw [← eA]; exact e2) (by rw [← eA]; exact fA.2.2.2) hlX (by omega) (by omega) (by rw [← eX]; exact yB)
              have e3 : far fs ps n (n + a) ≠ n + x := fun z => by
                have := fA.2.2.1
                rw [z, yB] at this; omega
              rw [far_is k1, k2, ← eA, jn_get hR hab ga gb (by omega), if_neg xa, if_neg xb, if_neg (by omega), if_pos (by omega)]
            · have t := hlX.near hP N1 (by omega) (by omega) (by rw [← eX]; exact yA) (by rw [← eX]; exact yB)
              rw [far_is t, ← eX, ← rd_get fs ps hx]
              by_cases c : far fs ps n (n + a) - n = b
              · rw [jn_same (by rw [rd_get fs ps ha, c])]
              · have e1 : far fs ps n (n + a) ≠ n + x := fun z => by
                  have := fA.2.2.1
                  rw [z] at this; exact yA this
                have e2 : far fs ps n (n + b) ≠ n + x := fun z => by
                  have := fB.2.2.1
                  rw [z] at this; exact yB this
                rw [jn_get hR hab ga gb c, if_neg xa, if_neg xb, if_neg (by omega), if_neg (by omega)]
    · rw [List.getElem?_eq_none (by rw [rd_len]; omega), List.getElem?_eq_none (by rw [jn_len, rd_len]; omega)]
end Pc
namespace Pc
theorem rd_emp {ps : List Nat} {n : Nat} (hn : 0 < n) (hP : IsPair n ps) : rd (emp n) ps n = ps := by
  refine List.ext_getElem? fun x => ?_
  by_cases hx : x < n
  · obtain ⟨h1, _, _, h4⟩ := hP.d hx
    have e1 : (emp n).getD (n + x) 0 = x := getD_of (emp_hi hx)
    have e2 : (emp n).getD (ps.getD x 0) 0 = n + ps.getD x 0 := getD_of (emp_lo h1)
    have t2 := Trail.stop (fs := emp n) (ps := ps) (n := n) (z := ps.getD x 0) (by rw [e2]; omega)
    have t := Trail.go (fs := emp n) (ps := ps) (n := n) (z := n + x) (by rw [e1]; exact hx) (by rw [e1]; exact t2)
    rw [rd_get _ ps hx, far_is t, h4]
    show some ((emp n).getD (ps.getD x 0) 0 - n) = _
    rw [e2, Nat.add_sub_cancel_left]
  · rw [List.getElem?_eq_none (by rw [rd_len]; omega), List.getElem?_eq_none (by rw [hP.len]; omega)]
theorem rd_runs {n : Nat} {ps : List Nat} (hP : IsPair n ps) : ∀ (qs : List (Nat × Nat)) {fs : List Nat}, IsPair (2 * n) fs → Calls n qs → rd (shw n qs fs) ps n = runs qs (rd fs ps n)
  | [], _, _, _ => rfl
  | q :: r, fs, hF, hc => by
    have h1 := hc q List.mem_cons_self
    have h2 := rd_runs hP r (jn_pair hF (a := n + q.1) (b := n + q.2) (by omega) (by omega) (by omega)) (fun x hx => hc x (List.mem_cons_of_mem _ hx))
    rw [rd_jn hF hP (by omega) (by omega) h1.2] at h2
    exact h2
/-- guarantee (a) -/
theorem rd_word {n : Nat} {ps : List Nat} {qs : List (Nat × Nat)} (hn : 0 < n) (hP : IsPair n ps) (hc : Calls n qs) : rd (shw n qs (emp n)) ps n = runs qs ps := by
  rw [rd_runs hP qs (emp_pair hn) hc, rd_emp hn hP]
end Pc
namespace Pc
open PySem PySem.Spec PyProof.Rows L2 RZ
section
variable {P : Program} {w : World} {K : PySem.W.Frag} {mg : Str → Option Value} {base : Heap}
/-! ### numbers of people that are equal -/
def spCheckSizes : Sp := fun vs H Q _ => ∃ n : Nat, vs = [.int n, .int n] ∧ Q .non H
theorem ok_p_check_sizes (T : Env K mg) : FnOk P w K mg base CX0 1 T.f_p_check_sizes T.d_p_check_sizes ["first", "second"] spCheckSizes := by
  refine T.F_p_check_sizes.ok sc_p_check_sizes (fun vs H Q E h => ?_) (fun cdv A outer s H vs Q E hr h => ?_)
  · obtain ⟨n, rfl, _⟩ := h
    rfl
  · obtain ⟨n, rfl, q⟩ := h
    refine ⟨_, pss_one (ps_if (pt_cmpR op_ne (pv 0) (pv 1) (nomark _)) pss_never pss_nil), ?_⟩
    refine ⟨_, rfl, _, rfl, rfl, _, rfl, ite2 (fun c => ?_) (fun _ => q)⟩
    rw [decide_eq_true rfl] at c
    exact absurd c (by decide)
end
end Pc
namespace Pc
open PySem PySem.Spec PyProof.Rows L2 RZ
theorem last_nv (l : List Nat) (z : Nat) : atI (nv (l ++ [z])) (-1) = some (.int (z : Int)) := by
  unfold nv
  rw [List.map_append]
  exact atI_last _ _
theorem last_nv' (l : List Nat) (y z : Nat) : atI (nv (l ++ [y, z])) (-1) = some (.int (z : Int)) := by
  rw [show l ++ [y, z] = (l ++ [y]) ++ [z] by rw [List.append_assoc]; rfl]
  exact last_nv _ _
theorem last_trl {l : List Nat} (h : 2 ≤ l.length) : atI (nv l) (-1) = some (.int ((l.getLastD 0 : Nat) : Int)) := by
  have hne : l ≠ [] := fun e => by rw [e] at h; exact absurd h (by decide)
  have e : l = l.dropLast ++ [l.getLastD 0] := by
    have h1 := List.dropLast_concat_getLast hne
    have h2 := last_get (l := l) (by omega)
    rw [← List.getLast?_eq_getElem?, List.getLast?_eq_some_getLast hne] at h2
    rw [← Option.some.inj h2]; exact h1.symm
  rw [e, show (l.dropLast ++ [l.getLastD 0]).getLastD 0 = l.getLastD 0 by rw [← e]]
  exact last_nv _ _
section
variable {P : Program} {w : World} {K : PySem.W.Frag} {mg : Str → Option Value} {base : Heap}
/-! ### reading -/
/-- the way of a person -/
def spFPath (K : PySem.W.Frag) : Sp := fun vs H Q _ => ∃ (a p : Addr) (fs ps : List Nat) (n x : Nat), vs = [.ref a, .ref p, .int x] ∧ Sq K H a (nv fs) ∧ Sq K H p (nv ps) ∧ IsPair (2 * n) fs ∧ IsPair n ps ∧ x < n ∧ n ≤ 500 ∧
  ∀ (H' : Hp) (t : Addr), Same H H' → H t = none → H' t = some (.lst (nv (trl fs ps n (n + x)))) → Q (.ref t) H'
theorem ok_p_followed_path (T : Env K mg) : FnOk P w K mg base CX0 2 T.f_p_followed_path T.d_p_followed_path ["sheet", "pairing", "person"] (spFPath K) := by
  have G0 : FnOk P w K mg base CX0 1 T.f_p_people_of T.d_p_people_of ["sheet"] (spPeople K) := ok_p_people_of T
  refine T.F_p_followed_path.ok sc_p_followed_path (fun vs H Q E h => ?_) (fun cdv A outer s H vs Q E hr h => ?_)
  · obtain ⟨a, p, fs, ps, n, x, rfl, _⟩ := h
    rfl
  · obtain ⟨a, p, fs, ps, n, x, rfl, ha, hp, hF, hP, hx, hn, q⟩ := h
    refine ⟨_, pss_cons (ps_set (i := 3) sc_p_followed_path.nd rfl (.inl rfl) (pe_call G0 hr (by rfl) T.g_p_people_of T.F_p_people_of.kp T.b_p_people_of .nil pass0 (pa_cons (pv 0) pa_nil))) <|
      pss_cons (ps_set (i := 4) sc_p_followed_path.nd rfl (.inl rfl) (pe_lst (pa_cons (pe_op op_add (pv 3) (pv 2)) (pa_cons (pe_ix ix_seq (pv 0) (pe_op op_add (pv 3) (pv 2)) (fun _ _ => rfl)) pa_nil)))) <|
      pss_cons (ps_while PassesOwn.never (pt_cmpR op_lt (pe_ix ix_list (pv 4) (pe_un un_neg pe_int) (fun _ _ => rfl)) (pv 3) (nomark _))
        (pss_cons (ps_set (i := 5) sc_p_followed_path.nd rfl (.inl rfl) (pe_ix ix_seq (pv 1) (pe_ix ix_list (pv 4) (pe_un un_neg pe_int) (fun _ _ => rfl)) (fun _ _ => rfl))) <|
        pss_cons (ps_expr (pe_bm PySem.F.plainAttrs_list PySem.F.slot_list_append PySem.F.type_list_append mt_append (pv 4) (pa_cons (pv 5) pa_nil))) <|
        pss_one (ps_expr (pe_bm PySem.F.plainAttrs_list PySem.F.slot_list_append PySem.F.type_list_append mt_append (pv 4) (pa_cons (pe_ix ix_seq (pv 0) (pv 5) (fun _ _ => rfl)) pa_nil))))) <|
      pss_one (ps_ret (pv 4)), ?_⟩
    have hl := hF.len
    have c1 : (n : Int) + (x : Int) = ((n + x : Nat) : Int) := by omega
    obtain ⟨d1, _, _, d4⟩ := hF.d (x := n + x) (by omega)
    have a1 : atI (nv fs) ((n : Int) + (x : Int)) = some (.int ((fs.getD (n + x) 0 : Nat) : Int)) := by rw [c1]; exact nv_at d4
    obtain ⟨ht, htl⟩ := trl_trail hF hP (z := n + x) (by omega) (by omega)
    refine ⟨.ref a, rfl, a, fs, n, rfl, ha, hl, ?_⟩
    refine ⟨_, rfl, _, rfl, _, _, rfl, rfl, .ref a, rfl, _, rfl, _, rfl, _, _, rfl, rfl, ix_sq ha a1 ⟨by show 2 ≤ sizeLine; decide, fun e ne => ?_⟩⟩
    have e0 : (upd H e (.lst [.int ((n : Int) + (x : Int)), .int ((fs.getD (n + x) 0 : Nat) : Int)])) e = some (.lst (nv ([] ++ [n + x, fs.getD (n + x) 0]))) := by
      rw [upd_same, c1]; rfl
    refine ⟨fun m σ H' => ∃ (y : Option V) (dn rest : List Nat) (z : Nat), σ = [some (.ref a), some (.ref p), some (.int x), some (.int n), some (.ref e), y] ∧ Same H H' ∧ H' e = some (.lst (nv (dn ++ [z, fs.getD z 0]))) ∧ Trail fs ps n z rest ∧ dn ++ rest = trl fs ps n (n + x) ∧ z < 2 * n ∧ rest.length = m,
      ⟨_, none, [], _, n + x, rfl, same_new ne, e0, ht, rfl, by omega, rfl⟩, fun m σ H' hW => ?_⟩
    obtain ⟨y, dn, rest, z, rfl, sm, ee, tz, et, hz, hm⟩ := hW
    have hlen : dn.length + rest.length ≤ 2 * n + 2 := by
      have := congrArg List.length et
      rw [List.length_append] at this
      omega
    have hr2 := tz.len.1
    refine ⟨.ref e, rfl, 1, rfl, e, _, -1, _, rfl, rfl, .inl (.inl ee), last_nv' _ _ _, _, rfl, _, _, rfl, rfl, _, rfl, ite2 (fun c => ?_) (fun c => ?_)⟩
    · have hc : fs.getD z 0 < n := by have := of_decide_eq_true c; omega
      cases tz with
      | stop h => omega
      | @go _ l _ tz' =>
      obtain ⟨p1, _, _, p4⟩ := hP.d hc
      obtain ⟨f1, _, _, f4⟩ := hF.d (x := ps.getD (fs.getD z 0) 0) (by omega)
      refine ⟨fun σ' H2 => ∃ (y : Option V) (dn rest : List Nat) (z : Nat), σ' = [some (.ref a), some (.ref p), some (.int x), some (.int n), some (.ref e), y] ∧ Same H H2 ∧ H2 e = some (.lst (nv (dn ++ [z, fs.getD z 0]))) ∧ Trail fs ps n z rest ∧ dn ++ rest = trl fs ps n (n + x) ∧ z < 2 * n ∧ rest.length < m,
        fun σ' H2 h2 => ?_, ?_⟩
      · obtain ⟨y', dn', rest', z', g1, g2, g3, g4, g5, g6, g7⟩ := h2
        exact ⟨_, g7, y', dn', rest', z', g1, g2, g3, g4, g5, g6, rfl⟩
      · refine ⟨.ref p, rfl, .ref e, rfl, 1, rfl, e, _, -1, _, rfl, rfl, .inl (.inl ee), last_nv' _ _ _, ix_sq (hp.same sm) (nv_at p4) ?_⟩
        have ls : ∀ {k : Nat} {l : List Nat}, l.length = dn.length + k → k ≤ 4 → (nv l).length < sizeLine := fun {k l} h1 h2 => line_big (by rw [nv_length, h1]; omega)
        refine ⟨.ref e, rfl, .inl ⟨rfl, _, .inl (.inl ee)⟩, _, rfl, e, _, _, rfl, rfl, ee, ls (k := 2) (by rw [List.length_append]; rfl) (by omega), ?_⟩
        have e1 : (upd H' e (.lst (nv (dn ++ [z, fs.getD z 0]) ++ [.int ((ps.getD (fs.getD z 0) 0 : Nat) : Int)]))) e = some (.lst (nv (dn ++ [z, fs.getD z 0] ++ [ps.getD (fs.getD z 0) 0]))) := by rw [upd_same, nv_snoc']
        have s1 : Same H (upd H' e (.lst (nv (dn ++ [z, fs.getD z 0]) ++ [.int ((ps.getD (fs.getD z 0) 0 : Nat) : Int)]))) := fun b o hb => by rw [upd_ne (ne_of_none hb ne)]; exact sm _ _ hb
        revert e1 s1
        generalize upd H' e (.lst (nv (dn ++ [z, fs.getD z 0]) ++ [.int ((ps.getD (fs.getD z 0) 0 : Nat) : Int)])) = H1
        intro e1 s1
        refine ⟨.ref e, rfl, .inl ⟨rfl, _, .inl (.inl e1)⟩, .ref a, rfl, _, rfl, ix_sq (ha.same s1) (nv_at f4) ⟨e, _, _, rfl, rfl, e1, ls (k := 3) (by rw [List.length_append, List.length_append]; rfl) (by omega), ?_⟩⟩
        refine ⟨_, dn ++ [z, fs.getD z 0], l, ps.getD (fs.getD z 0) 0, rfl, fun b o hb => ?_, ?_, tz', ?_, by omega, by rw [← hm]; simp only [List.length_cons]; omega⟩
        · rw [upd_ne (ne_of_none hb ne)]; exact s1 _ _ hb
        · rw [upd_same, nv_snoc', List.append_assoc (dn ++ [z, fs.getD z 0])]; rfl
        · rw [← et, List.append_assoc]; rfl
    · cases tz with
      | go h _ => exact absurd (decide_eq_true (show ((fs.getD z 0 : Nat) : Int) < (n : Int) by omega)) c
      | stop h =>
        rw [et] at ee
        exact ⟨.ref e, rfl, q H' e sm ne ee⟩
end
end Pc
namespace Pc
open PySem PySem.Spec PyProof.Rows L2 RZ
section
variable {P : Program} {w : World} {K : PySem.W.Frag} {mg : Str → Option Value} {base : Heap}
/-! ### the law's own reading -/
def spEnds (K : PySem.W.Frag) : Sp := fun vs H Q _ => ∃ (a p : Addr) (fs ps : List Nat) (n x : Nat), vs = [.ref a, .ref p, .int x] ∧ SqT K H a (nv fs) ∧ SqT K H p (nv ps) ∧ IsPair (2 * n) fs ∧ IsPair n ps ∧ x < n ∧ n ≤ 500 ∧
  ∀ (H' : Hp) (t : Addr), Same H H' → H t = none → H' t = some (.lst (nv (trl fs ps n (n + x)))) → Q (.ref t) H'
theorem ok_ends_from (T : Env K mg) : FnOk P w K mg base CX0 1 T.f_ends_from T.d_ends_from ["_law_page", "_law_crowd", "_law_who"] (spEnds K) := by
  refine T.F_ends_from.ok sc_ends_from (fun vs H Q E h => ?_) (fun cdv A outer s H vs Q E hr h => ?_)
  · obtain ⟨a, p, fs, ps, n, x, rfl, _⟩ := h
    rfl
  · obtain ⟨a, p, fs, ps, n, x, rfl, ha, hp, hF, hP, hx, hn, q⟩ := h
    refine ⟨_, pss_cons (ps_set (i := 3) sc_ends_from.nd rfl (.inl rfl) (pe_callB call_len_seq (by rfl) T.n_len PySem.boot_len (pa_cons (pv 1) pa_nil))) <|
      pss_cons (ps_set (i := 4) sc_ends_from.nd rfl (.inl rfl) (pe_lst (pa_cons (pe_op op_add (pv 3) (pv 2)) (pa_cons (pe_ix ix_tup (pv 0) (pe_op op_add (pv 3) (pv 2)) (fun _ _ => rfl)) pa_nil)))) <|
      pss_cons (ps_while PassesOwn.never (pt_cmpR op_lt (pe_ix ix_list (pv 4) (pe_un un_neg pe_int) (fun _ _ => rfl)) (pv 3) (nomark _))
        (pss_one (ps_set (i := 4) sc_ends_from.nd rfl (.inl rfl) (pe_op op_cat (pv 4) (pe_lst (pa_cons (pe_ix ix_tup (pv 1) (pe_ix ix_list (pv 4) (pe_un un_neg pe_int) (fun _ _ => rfl)) (fun _ _ => rfl))
          (pa_cons (pe_ix ix_tup (pv 0) (pe_ix ix_tup (pv 1) (pe_ix ix_list (pv 4) (pe_un un_neg pe_int) (fun _ _ => rfl)) (fun _ _ => rfl)) (fun _ _ => rfl)) pa_nil)))))) ) <|
      pss_one (ps_ret (pv 4)), ?_⟩
    have hl := hF.len
    have hlp : ((nv ps).length : Int) = (n : Nat) := by rw [nv_length, hP.len]
    have c1 : (n : Int) + (x : Int) = ((n + x : Nat) : Int) := by omega
    obtain ⟨d1, _, _, d4⟩ := hF.d (x := n + x) (by omega)
    have a1 : atI (nv fs) ((n : Int) + (x : Int)) = some (.int ((fs.getD (n + x) 0 : Nat) : Int)) := by rw [c1]; exact nv_at d4
    obtain ⟨ht, htl⟩ := trl_trail hF hP (z := n + x) (by omega) (by omega)
    refine ⟨.ref p, rfl, p, _, rfl, .inr hp, ?_⟩
    rw [hlp]
    refine ⟨_, rfl, _, rfl, _, _, rfl, rfl, .ref a, rfl, _, rfl, _, rfl, _, _, rfl, rfl, a, _, _, _, rfl, rfl, ha, a1, by show 2 ≤ sizeLine; decide, fun e ne => ?_⟩
    have e0 : (upd H e (.lst [.int ((n : Int) + (x : Int)), .int ((fs.getD (n + x) 0 : Nat) : Int)])) e = some (.lst (nv ([] ++ [n + x, fs.getD (n + x) 0]))) := by
      rw [upd_same, c1]; rfl
    refine ⟨fun m σ H' => ∃ (e : Addr) (dn rest : List Nat) (z : Nat), σ = [some (.ref a), some (.ref p), some (.int x), some (.int n), some (.ref e)] ∧ H e = none ∧ Same H H' ∧ H' e = some (.lst (nv (dn ++ [z, fs.getD z 0]))) ∧ Trail fs ps n z rest ∧ dn ++ rest = trl fs ps n (n + x) ∧ z < 2 * n ∧ rest.length = m,
      ⟨_, e, [], _, n + x, rfl, ne, same_new ne, e0, ht, rfl, by omega, rfl⟩, fun m σ H' hW => ?_⟩
    obtain ⟨e', dn, rest, z, rfl, ne', sm, ee, tz, et, hz, hm⟩ := hW
    have hlen : dn.length + rest.length ≤ 2 * n + 2 := by
      have := congrArg List.length et
      rw [List.length_append] at this
      omega
    have hr2 := tz.len.1
    refine ⟨.ref e', rfl, 1, rfl, e', _, -1, _, rfl, rfl, .inl (.inl ee), last_nv' _ _ _, _, rfl, _, _, rfl, rfl, _, rfl, ite2 (fun c => ?_) (fun c => ?_)⟩
    · have hc : fs.getD z 0 < n := by have := of_decide_eq_true c; omega
      cases tz with
      | stop h => omega
      | @go _ l _ tz' =>
      obtain ⟨p1, _, _, p4⟩ := hP.d hc
      obtain ⟨f1, _, _, f4⟩ := hF.d (x := ps.getD (fs.getD z 0) 0) (by omega)
      refine ⟨fun σ' H2 => ∃ (e : Addr) (dn rest : List Nat) (z : Nat), σ' = [some (.ref a), some (.ref p), some (.int x), some (.int n), some (.ref e)] ∧ H e = none ∧ Same H H2 ∧ H2 e = some (.lst (nv (dn ++ [z, fs.getD z 0]))) ∧ Trail fs ps n z rest ∧ dn ++ rest = trl fs ps n (n + x) ∧ z < 2 * n ∧ rest.length < m,
        fun σ' H2 h2 => ?_, ?_⟩
      · obtain ⟨y', dn', rest', z', g1, g2, g3, g4, g5, g6, g7, g8⟩ := h2
        exact ⟨_, g8, y', dn', rest', z', g1, g2, g3, g4, g5, g6, g7, rfl⟩
      · have hp' := same_tup sm hp
        have ha' := same_tup sm ha
        refine ⟨.ref e', rfl, .ref p, rfl, .ref e', rfl, 1, rfl, e', _, -1, _, rfl, rfl, .inl (.inl ee), last_nv' _ _ _, p, _, _, _, rfl, rfl, hp', nv_at p4, .ref a, rfl, .ref p, rfl, .ref e', rfl, 1, rfl, e', _, -1, _, rfl, rfl, .inl (.inl ee), last_nv' _ _ _, p, _, _, _, rfl, rfl, hp', nv_at p4, a, _, _, _, rfl, rfl, ha', nv_at f4, by show 2 ≤ sizeLine; decide, fun u nu => ?_⟩
        have su : Same H' _ := same_new (o := .lst [.int ((ps.getD (fs.getD z 0) 0 : Nat) : Int), .int ((fs.getD (ps.getD (fs.getD z 0) 0) 0 : Nat) : Int)]) nu
        refine ⟨e', u, _, _, rfl, rfl, su _ _ ee, upd_same, ?_, fun v nv' => ?_⟩
        · rw [nv_length, List.length_append]
          exact Nat.le_of_lt (line_big (by show dn.length + 2 + 2 ≤ 100000; omega))
        refine ⟨v, dn ++ [z, fs.getD z 0], l, ps.getD (fs.getD z 0) 0, rfl, sm.free (su.free nv'), (sm.trans su).trans (same_new nv'), ?_, tz', ?_, by omega, by rw [← hm]; simp only [List.length_cons]; omega⟩
        · rw [upd_same]
          unfold nv
          rw [List.map_append (l₁ := dn ++ [z, fs.getD z 0])]
          rfl
        · rw [← et, List.append_assoc]; rfl
    · cases tz with
      | go h _ => exact absurd (decide_eq_true (show ((fs.getD z 0 : Nat) : Int) < (n : Int) by omega)) c
      | stop h =>
        rw [et] at ee
        exact ⟨.ref e', rfl, q H' e' sm ne' ee⟩
end
end Pc
namespace Pc
open PySem PySem.Spec PyProof.Rows L2 RZ
section
variable {P : Program} {w : World} {K : PySem.W.Frag} {mg : Str → Option Value} {base : Heap}
/-! ### is it joined in pairs? whatever it is -/
def spBelowD (K : PySem.W.Frag) : Sp := fun vs H Q _ => ∃ (v : V) (d : PyData) (n : Nat), vs = [v, .int n] ∧ Dp K H v d ∧ Q (.bl (belowB n d)) H
theorem ok_p_belowD (T : Env K mg) : FnOk P w K mg base CX0 1 T.f_p_is_integer_below T.d_p_is_integer_below ["value", "limit"] (spBelowD K) := by
  refine T.F_p_is_integer_below.ok sc_p_is_integer_below (fun vs H Q E h => ?_) (fun cdv A outer s H vs Q E hr h => ?_)
  · obtain ⟨v, d, n, rfl, _⟩ := h
    rfl
  · obtain ⟨v, d, n, rfl, hd, q⟩ := h
    refine ⟨_, pss_cons (ps_if (PW.pt (pw_or (pt_not (pt_val (pe_callB call_isi (by rfl) T.n_isinstance (by decide +kernel) (pa_cons (pv 0) (pa_cons (pe_bltn (v := .ty "int") (by rfl) T.n_int (by decide +kernel) rfl) pa_nil)))))
        (pw_or1 (pt_val (pe_callB call_isi (by rfl) T.n_isinstance (by decide +kernel) (pa_cons (pv 0) (pa_cons (pe_bltn (v := .ty "bool") (by rfl) T.n_bool (by decide +kernel) rfl) pa_nil)))))))
        (pss_one (ps_ret pe_bl)) pss_nil) <|
      pss_one (ps_ret (pe_chain op_le op_lt pe_int (pv 0) (pv 1))), ?_⟩
    refine ⟨_, rfl, _, _, _, _, _, rfl, .ty _, dp_ty hd, k_int hd, _, rfl, ite2 (fun c => ?_) (fun c => ?_)⟩
    · have e : belowB n d = false := by cases hd <;> first | rfl | exact absurd (show false = true from c) Bool.false_ne_true
      rw [e] at q
      exact q
    · refine ⟨_, rfl, _, _, _, _, _, rfl, .ty _, dp_ty hd, k_bool hd, _, rfl, ite2 (fun c' => ?_) (fun c' => ?_)⟩
      · have e : belowB n d = false := by cases hd <;> first | rfl | exact absurd (show false = true from c') Bool.false_ne_true
        rw [e] at q
        exact q
      · cases hd with
        | int i =>
          refine ⟨_, rfl, _, _, rfl, rfl, _, rfl, ite2 (fun g => ⟨_, rfl, _, _, rfl, rfl, ?_⟩) (fun g => ?_)⟩
          · have e : belowB n (.int i) = decide (i < (n : Int)) := by show (decide (0 ≤ i) && decide (i < (n : Int))) = _; rw [show decide (0 ≤ i) = true from g]; rfl
            rw [e] at q; exact q
          · have e : belowB n (.int i) = false := by show (decide (0 ≤ i) && decide (i < (n : Int))) = _; rw [show decide (0 ≤ i) = false from Bool.eq_false_iff.mpr g]; rfl
            rw [e] at q; exact q
        | non => exact absurd rfl c
        | bl => exact absurd rfl c'
        | str => exact absurd rfl c
        | lst => exact absurd rfl c
        | tup => exact absurd rfl c
end
end Pc
namespace Pc
open PySem PySem.Spec PyProof.Rows L2 RZ
section
variable {P : Program} {w : World} {K : PySem.W.Frag} {mg : Str → Option Value} {base : Heap}
/-! ### path -/
theorem ok_p_path (T : Env K mg) : FnOk P w K mg base CX0 3 T.f_p_path T.d_p_path ["sheet", "pairing", "person"] (spFPath K) := by
  have G0 : FnOk P w K mg base CX0 1 T.f_p_people_of T.d_p_people_of ["sheet"] (spPeople K) := ok_p_people_of T
  have G1 : FnOk P w K mg base CX0 1 T.f_p_check_sizes T.d_p_check_sizes ["first", "second"] spCheckSizes := ok_p_check_sizes T
  have G2 : FnOk P w K mg base CX0 1 T.f_p_check_person T.d_p_check_person ["size", "person"] spCheckPerson := ok_p_check_person T
  have G3 : FnOk P w K mg base CX0 2 T.f_p_followed_path T.d_p_followed_path ["sheet", "pairing", "person"] (spFPath K) := ok_p_followed_path T
  refine T.F_p_path.ok sc_p_path (fun vs H Q E h => ?_) (fun cdv A outer s H vs Q E hr h => ?_)
  · obtain ⟨a, p, fs, ps, n, x, rfl, _⟩ := h
    rfl
  · obtain ⟨a, p, fs, ps, n, x, rfl, ha, hp, hF, hP, hx, hn, q⟩ := h
    have h1 := hr.mono (show 1 ≤ 2 by decide)
    refine ⟨_, pss_cons (ps_expr (pe_call G1 h1 (by rfl) T.g_p_check_sizes T.F_p_check_sizes.kp T.b_p_check_sizes .nil pass0 (pa_cons (pe_call G0 h1 (by rfl) T.g_p_people_of T.F_p_people_of.kp T.b_p_people_of .nil pass0 (pa_cons (pv 0) pa_nil)) (pa_cons (pe_callB call_len_seq (by rfl) T.n_len PySem.boot_len (pa_cons (pv 1) pa_nil)) pa_nil)))) <| pss_cons (ps_expr (pe_call G2 h1 (by rfl) T.g_p_check_person T.F_p_check_person.kp T.b_p_check_person .nil pass0 (pa_cons (pe_callB call_len_seq (by rfl) T.n_len PySem.boot_len (pa_cons (pv 1) pa_nil)) (pa_cons (pv 2) pa_nil)))) <| pss_one (ps_ret (pe_call G3 hr (by rfl) T.g_p_followed_path T.F_p_followed_path.kp T.b_p_followed_path .nil pass0 (pa_cons (pv 0) (pa_cons (pv 1) (pa_cons (pv 2) pa_nil))))), ?_⟩
    have hlp : ((nv ps).length : Int) = (n : Nat) := by rw [nv_length, hP.len]
    refine ⟨.ref a, rfl, a, fs, n, rfl, ha, hF.len, .ref p, rfl, p, _, rfl, hp, n, ?_, ?_⟩
    · show [V.int (n : Int), V.int ((nv ps).length : Int)] = _
      rw [hlp]
    refine ⟨.ref p, rfl, p, _, rfl, hp, _, rfl, n, x, ?_, hx, ?_⟩
    · show [V.int ((nv ps).length : Int), V.int (x : Int)] = _
      rw [hlp]
    exact ⟨_, rfl, _, rfl, _, rfl, a, p, fs, ps, n, x, rfl, ha, hp, hF, hP, hx, hn, q⟩
end
end Pc
namespace Pc
open PySem PySem.Spec PyProof.Rows L2 RZ
/-! ### xs[::-1] of a list -/
def backV {α : Type} (xs : List α) : List α := (sliceRange ((xs.length : Int) - 1) (-1) (-1)).filterMap (xs[·]?)
theorem pick_vals {xs : List V} {its : List Value} (r : Vals xs its) : ∀ l : List Nat, Vals (l.filterMap (xs[·]?)) (l.filterMap (its[·]?))
  | [] => .nil
  | i :: l => by
    cases e : xs[i]? with
    | none =>
      have h := List.getElem?_eq_none_iff.mp e
      have e2 : its[i]? = none := List.getElem?_eq_none_iff.mpr (by rw [← r.length]; exact h)
      rw [List.filterMap_cons_none e, List.filterMap_cons_none e2]
      exact pick_vals r l
    | some v =>
      obtain ⟨u, hu, ru⟩ := r.get e
      rw [List.filterMap_cons_some e, List.filterMap_cons_some hu]
      exact .cons ru (pick_vals r l)
theorem back_len {α : Type} (xs : List α) : (backV xs).length ≤ xs.length := by
  unfold backV
  exact Nat.le_trans (List.length_filterMap_le _ _) (sliceRange_length_le _ _ _ _ (fun h => absurd h (by decide)) (fun _ => ⟨Int.le_refl _, Int.le_refl _⟩))
theorem back_mem {α : Type} {xs : List α} {x : α} (h : x ∈ backV xs) : x ∈ xs := by
  obtain ⟨i, _, e⟩ := List.mem_filterMap.mp h
  exact List.mem_of_getElem? e
theorem back_nv (l : List Nat) : backV (nv l) = nv (backV l) := by
  unfold backV nv
  rw [List.length_map, List.map_filterMap]
  refine congrArg (fun f => List.filterMap f _) (funext fun i => ?_)
  rw [List.getElem?_map]
theorem slice_back (its : List Value) : slicePick its.toArray none none (some (-1)) = (backV its).toArray := by
  unfold slicePick backV
  simp [sliceBounds]
def tRevL (K : PySem.W.Frag) (te : TE) : TE := fun σ H Q => te σ H fun x H1 => ∃ a xs, x = .ref a ∧ SqL K H1 a xs ∧ ∀ p, H1 p = none → Q (.ref p) (upd H1 p (.lst (backV xs)))
theorem pe_revL {X : Cx} {e : Expr} {te : TE} {k : Nat} {p1 p2 p3 pos : Pos} (he : PE X e te) : PE X (.Subscript e (.Slice none none (some (.UnaryOp .USub (.Constant (.int 1) k p1) p2)) p3) pos) (tRevL X.K te) := by
  constructor
  intro pins s σ H Q I h
  refine Subscript_ (thn (he.run pins s σ H _ I h) fun v s1 r => ?_)
  obtain ⟨x, H1, I1, r1, a, xs, ex, hx, q⟩ := r
  subst ex
  cases r1
  have hst : PO X (some (.UnaryOp .USub (.Constant (.int 1) k p1) p2)) (tPart (tUn (rU fun i => .int (-i)) (tC (.int 1)))) := po_some (pe_un un_neg pe_int)
  refine wpAny_Slice (thn (po_none.run pins s1 σ H1 (fun o H2 => o = none ∧ H2 = H1) I1 ⟨rfl, rfl⟩) fun vl s2 ⟨l, H2, I2, pl, el, e2⟩ => ?_)
  subst el e2
  refine thn (po_none.run pins s2 σ H2 (fun o H3 => o = none ∧ H3 = H2) I2 ⟨rfl, rfl⟩) fun vu s3 ⟨u, H3, I3, pu, eu, e3⟩ => ?_
  subst eu e3
  refine thn (hst.run pins s3 σ H3 (fun o H4 => o = some (-1) ∧ H4 = H3) I3 ⟨1, rfl, -1, rfl, rfl, rfl⟩) fun vs s4 ⟨o, H4, I4, ps, eo, e4⟩ => ?_
  subst eo e4
  cases pl
  cases pu
  have I5 : Inv X pins σ H4 { s4 with heap := s4.heap.push { cls := .type "slice", data := .fields #[.none, .none, vs] } } := I4.kept (t' := s4.toks) fun b ob q => Heap.get?_push_of_some _ q
  obtain ⟨its, r, ht, hz⟩ := I5.list hx
  have hlen := r.length
  show wpAny (model X.prog X.w) X.A (subscriptTail e (.Slice none none (some (.UnaryOp .USub (.Constant (.int 1) k p1) p2)) p3) (.ref a) (.ref s4.heap.objs.size)) (EP X pins σ Q) X.xe _
  refine tail_any (ops := [.ref a, .ref s4.heap.objs.size]) ht.isList.typeIs PySem.F.slot_list_getitem.lookup ?_ (by with_unfolding_all rfl)
  refine wpAny_getItem_list_slice ht.isList (Heap.IsSliceOf.new _ .none .none vs) .none .none ps (by simp) ?_ (by rw [List.size_toArray] <;> omega)
  rw [slice_back]
  refine ⟨.ref _, _, I5.laid (t' := s4.toks) (o := .lst (backV xs)) (fun b ob q => Heap.get?_push_of_some _ q) (Nat.le_refl _) ?_, rfl, q _ (I5.hok.fresh (Nat.le_refl _))⟩
  refine ⟨Nat.le_trans (back_len xs) hz, _, 0, ?_, Heap.get?_push_size _ rfl⟩
  unfold backV
  rw [hlen]
  exact pick_vals r _
/-! ### parts of lists of numbers -/
def cutN (l : List Nat) (lo hi : Option Int) : List Nat := (l.drop (HT.sIx l.length 0 lo)).take (HT.sIx l.length l.length hi - HT.sIx l.length 0 lo)
theorem cut_nv (l : List Nat) (lo hi : Option Int) : cutV (nv l) lo hi = nv (cutN l lo hi) := by
  unfold cutV cutN nv
  rw [List.length_map, List.map_take, List.map_drop]
theorem cutN_mem {l : List Nat} {lo hi : Option Int} {x : Nat} (h : x ∈ cutN l lo hi) : x ∈ l := List.mem_of_mem_drop (List.mem_of_mem_take h)
theorem cutN_len (l : List Nat) (lo hi : Option Int) : (cutN l lo hi).length ≤ l.length := by
  unfold cutN
  rw [List.length_take, List.length_drop]
  omega
/-! ### the same list of numbers -/
def sameI (i : Int) : PyData → Bool
  | .int j => decide (j = i)
  | _ => false
def zipB (ds : List PyData) (l : List Nat) : List Bool := List.zipWith (fun d (x : Nat) => sameI (x : Int) d) ds l
def sameB (ds : List PyData) (l : List Nat) : Bool := decide (ds.length = l.length) && (zipB ds l).all id
def sameL (l : List Nat) : PyData → Bool
  | .list ds => sameB ds l
  | _ => false
theorem eqv_below {m x : Nat} (h : x < m) : ∀ d : PyData, (PyData.eqv d (.int (x : Int)) && belowB m d) = sameI (x : Int) d
  | .int i => by
    show ((i == (x : Int)) && (decide (0 ≤ i) && decide (i < (m : Int)))) = decide (i = (x : Int))
    by_cases e : i = (x : Int)
    · rw [e, decide_eq_true (show (0 : Int) ≤ (x : Int) by omega), decide_eq_true (show (x : Int) < (m : Int) by omega), decide_eq_true rfl]
      simp
    · rw [decide_eq_false e, show (i == (x : Int)) = false from beq_eq_false_iff_ne.mpr e, Bool.false_and]
  | .none => Bool.and_false _
  | .bool _ => Bool.and_false _
  | .str _ => Bool.and_false _
  | .list _ => Bool.and_false _
  | .tuple _ => Bool.and_false _
  | .dict _ => Bool.and_false _
theorem same_path {m : Nat} : ∀ (ds : List PyData) (l : List Nat), (∀ x ∈ l, x < m) → (PyData.eqvAll ds (nd l) && ds.all (belowB m)) = sameB ds l
  | [], [], _ => by simp [sameB, zipB, nd, PyData.eqvAll]
  | [], _ :: _, _ => by simp [sameB, nd, PyData.eqvAll]
  | _ :: _, [], _ => by simp [sameB, nd, PyData.eqvAll]
  | d :: r, x :: l, h => by
    have ih := same_path r l (fun y hy => h y (List.mem_cons_of_mem _ hy))
    have e1 := eqv_below (h x List.mem_cons_self) d
    have e3 : sameB (d :: r) (x :: l) = (sameI (x : Int) d && sameB r l) := by
      unfold sameB zipB
      rw [List.zipWith_cons_cons, List.all_cons, List.length_cons, List.length_cons]
      by_cases c : r.length = l.length
      · rw [decide_eq_true c, decide_eq_true (by omega), Bool.true_and, Bool.true_and]; rfl
      · rw [decide_eq_false c, decide_eq_false (by omega), Bool.false_and, Bool.false_and, Bool.and_false]
    rw [e3, ← e1, ← ih]
    show (PyData.eqvAll (d :: r) (PyData.int (x : Int) :: nd l) && (d :: r).all (belowB m)) = _
    rw [PyData.eqvAll, List.all_cons]
    cases PyData.eqv d (.int (x : Int)) <;> cases belowB m d <;> simp
theorem zipB_len {ds : List PyData} {l : List Nat} (h : ds.length = l.length) : (zipB ds l).length = ds.length := by
  unfold zipB; rw [List.length_zipWith]; omega
theorem zipB_get {ds : List PyData} {l : List Nat} {i : Nat} {d : PyData} {x : Nat} (h1 : ds[i]? = some d) (h2 : l[i]? = some x) : (zipB ds l)[i]? = some (sameI (x : Int) d) := by
  unfold zipB; rw [List.getElem?_zipWith, h1, h2]
theorem Trail.lt {fs ps : List Nat} {n z : Nat} {l : List Nat} (hF : IsPair (2 * n) fs) (hP : IsPair n ps) (h : Trail fs ps n z l) : z < 2 * n → ∀ x ∈ l, x < 2 * n := by
  induction h with
  | @stop z h1 =>
    intro hz x hx
    rcases List.mem_cons.mp hx with e | e
    · rw [e]; exact hz
    · rw [List.mem_singleton.mp e]; exact (hF.d hz).1
  | @go z l h1 h2 ih =>
    intro hz x hx
    have := (hP.d h1).1
    rcases List.mem_cons.mp hx with e | e
    · rw [e]; exact hz
    · rcases List.mem_cons.mp e with e | e
      · rw [e]; exact (hF.d hz).1
      · exact ih (by omega) x e
end Pc
namespace Pc
open PySem PySem.Spec PyProof.Rows L2 RZ
section
variable {P : Program} {w : World} {K : PySem.W.Frag} {mg : Str → Option Value} {base : Heap}
/-! ### anything against a number, and against a list of numbers -/
def spSameI (K : PySem.W.Frag) : Sp := fun vs H Q _ => ∃ (x : V) (d : PyData) (i : Int), vs = [x, .int i] ∧ Dp K H x d ∧ ∀ H', Same H H' → Q (.bl (sameI i d)) H'
theorem ok_sameI (T : Env K mg) : FnOk P w K mg base CX0 1 T.f_same T.d_same ["_law_found", "_law_due"] (spSameI K) := by
  have G : FnOk P w K mg base CX0 0 T.f_same T.d_same ["_law_found", "_law_due"] (spSame K 0) := ok_same T 0
  refine T.F_same.ok sc_same (fun vs H Q E h => ?_) (fun cdv A outer s H vs Q E hr h => ?_)
  · obtain ⟨x, d, i, rfl, _⟩ := h
    rfl
  · obtain ⟨x, d, i, rfl, hx, q⟩ := h
    refine ⟨_, pss_cons (ps_if (pt_val (pe_callB call_isiT (by rfl) T.n_isinstance (by decide +kernel) (pa_cons (pv 1) (pa_cons (pe_tup (pa_cons (pe_bltn (v := .ty "list") (by rfl) T.n_list (by decide +kernel) rfl) (pa_cons (pe_bltn (v := .ty "tuple") (by rfl) T.n_tuple (by decide +kernel) rfl) pa_nil))) pa_nil))))
        (pss_cons (ps_if (PW.pt (pw_or (pt_cmpR op_ne (pe_callB call_isi (by rfl) T.n_isinstance (by decide +kernel) (pa_cons (pv 0) (pa_cons (pe_bltn (v := .ty "list") (by rfl) T.n_list (by decide +kernel) rfl) pa_nil))) (pe_callB call_isi (by rfl) T.n_isinstance (by decide +kernel) (pa_cons (pv 1) (pa_cons (pe_bltn (v := .ty "list") (by rfl) T.n_list (by decide +kernel) rfl) pa_nil))) (nomark _))
            (pw_or1 (pt_cmpR op_ne (pe_callB call_isi (by rfl) T.n_isinstance (by decide +kernel) (pa_cons (pv 0) (pa_cons (pe_bltn (v := .ty "tuple") (by rfl) T.n_tuple (by decide +kernel) rfl) pa_nil))) (pe_callB call_isi (by rfl) T.n_isinstance (by decide +kernel) (pa_cons (pv 1) (pa_cons (pe_bltn (v := .ty "tuple") (by rfl) T.n_tuple (by decide +kernel) rfl) pa_nil))) (nomark _)))))
          (pss_one (ps_ret pe_bl)) pss_nil)
        (pss_one (ps_ret (pe_and (pe_cmpR op_eq (pe_callB call_len_seq (by rfl) T.n_len PySem.boot_len (pa_cons (pv 0) pa_nil)) (pe_callB call_len_seq (by rfl) T.n_len PySem.boot_len (pa_cons (pv 1) pa_nil)) (nomark _))
          (pe_one (pe_callB (cr_all rfl) (by rfl) T.n_all (by decide +kernel) (pa_cons
            (pe_lc (own := [("_law_mine", 2), ("_law_its", 3)]) (g := gTup K 2 (gCons (gName 2) (gCons (gName 3) gNil))) (tt := tYes) (by rfl) sc_same.nd (pi_zipA (by rfl) T.n_zip (pa_cons (pv 0) (pa_cons (pv 1) pa_nil)))
              (blkOk_by (N := N_same) (sc := defScope s_same) (by decide +kernel))
              (fun _ _ _ _ _ => pg_tup (by rfl) (pgs_cons (pg_name (i := 2) sc_same.nd rfl (.inl rfl)) (pgs_cons (pg_name (i := 3) sc_same.nd rfl (.inl rfl)) pgs_nil)))
              (fun _ _ _ _ _ => pts_nil)
              (fun _ _ _ _ _ => pe_call G hr (by rfl) T.g_same T.F_same.kp T.b_same .nil pass0 (pa_cons (pv 2) (pa_cons (pv 3) pa_nil)))) pa_nil))))))) pss_nil)
      (pss_cons (ps_if (PW.pt (pw_or (pt_cmpR op_isN (pv 1) pe_non (nomark _)) (pw_or1 (pt_val (pe_callB call_isiT (by rfl) T.n_isinstance (by decide +kernel) (pa_cons (pv 1) (pa_cons (pe_tup (pa_cons (pe_bltn (v := .ty "str") (by rfl) T.n_str (by decide +kernel) rfl) (pa_cons (pe_bltn (v := .ty "bool") (by rfl) T.n_bool (by decide +kernel) rfl) pa_nil))) pa_nil)))))))
        (pss_one (ps_ret (pe_and (pe_cmpR op_eq (pv 0) (pv 1) (nomark _))
          (pe_and (pe_cmpR op_eq (pe_callB call_isi (by rfl) T.n_isinstance (by decide +kernel) (pa_cons (pv 0) (pa_cons (pe_bltn (v := .ty "bool") (by rfl) T.n_bool (by decide +kernel) rfl) pa_nil))) (pe_callB call_isi (by rfl) T.n_isinstance (by decide +kernel) (pa_cons (pv 1) (pa_cons (pe_bltn (v := .ty "bool") (by rfl) T.n_bool (by decide +kernel) rfl) pa_nil))) (nomark _))
          (pe_one (pe_cmpR op_eq (pe_cmpR op_isN (pv 0) pe_non (nomark _)) (pe_cmpR op_isN (pv 1) pe_non (nomark _)) (nomark _))))))) pss_nil)
      (pss_one (ps_ret (pe_and (pe_callB call_isi (by rfl) T.n_isinstance (by decide +kernel) (pa_cons (pv 0) (pa_cons (pe_bltn (v := .ty "int") (by rfl) T.n_int (by decide +kernel) rfl) pa_nil)))
        (pe_and (pe_not (pe_callB call_isi (by rfl) T.n_isinstance (by decide +kernel) (pa_cons (pv 0) (pa_cons (pe_bltn (v := .ty "bool") (by rfl) T.n_bool (by decide +kernel) rfl) pa_nil)))) (pe_one (pe_cmpR op_eq (pv 0) (pv 1) (nomark _)))))))), ?_⟩
    refine ⟨_, rfl, by show 2 ≤ sizeLine; decide, fun t nt => ⟨_, t, _, _, _, _, rfl, upd_same, cls2 _ _, .base (.int i), any_lt_int, _, rfl, iteF ?_⟩⟩
    refine ⟨_, rfl, rfl, _, rfl, iteF ⟨_, rfl, by show 2 ≤ sizeLine; decide, fun u nu => ⟨_, u, _, _, _, _, rfl, upd_same, cls2 _ _, .base (.int i), any_sb_int, _, rfl, iteF ?_⟩⟩⟩
    have sm := (same_new (o := .tup [.ty "list", .ty "tuple"]) nt).trans (same_new (o := .tup [.ty "str", .ty "bool"]) nu)
    have hd := dp_same sm hx
    have fin : ∀ bb : Bool, bb = sameI i d → Q (.bl bb) _ := fun bb e => by rw [e]; exact q _ sm
    refine ⟨_, rfl, _, _, _, _, _, rfl, .ty _, dp_ty hd, k_int hd, _, rfl, ite2 (fun c => ?_) (fun c => ?_)⟩
    · refine ⟨_, rfl, _, _, _, _, _, rfl, .ty _, dp_ty hd, k_bool hd, _, rfl, _, rfl, ite2 (fun c2 => ?_) (fun c2 => ?_)⟩
      · cases hd with
        | int j =>
          refine ⟨_, rfl, _, rfl, rfl, fin _ ?_⟩
          show decide (V.int j = V.int i) = decide (j = i)
          by_cases e : j = i
          · rw [e, decide_eq_true rfl, decide_eq_true rfl]
          · rw [decide_eq_false e, decide_eq_false (fun e' => e (V.int.inj e'))]
        | non => exact absurd (show false = true from c) Bool.false_ne_true
        | bl => exact absurd (show false = true from c2) Bool.false_ne_true
        | str => exact absurd (show false = true from c) Bool.false_ne_true
        | lst => exact absurd (show false = true from c) Bool.false_ne_true
        | tup => exact absurd (show false = true from c) Bool.false_ne_true
      · refine fin _ ?_
        cases hd with
        | int j => exact absurd rfl c2
        | bl => rfl
        | non => rfl
        | str => rfl
        | lst => rfl
        | tup => rfl
    · refine fin _ ?_
      cases hd with
      | int j => exact absurd rfl c
      | bl => exact absurd rfl c
      | non => rfl
      | str => rfl
      | lst => rfl
      | tup => rfl
def spSameL (K : PySem.W.Frag) : Sp := fun vs H Q _ => ∃ (x : V) (d : PyData) (b : Addr) (l : List Nat), vs = [x, .ref b] ∧ Dp K H x d ∧ narrow d ∧ SqL K H b (nv l) ∧ ∀ H', Same H H' → Q (.bl (sameL l d)) H'
theorem ok_sameL (T : Env K mg) : FnOk P w K mg base CX0 2 T.f_same T.d_same ["_law_found", "_law_due"] (spSameL K) := by
  have G : FnOk P w K mg base CX0 1 T.f_same T.d_same ["_law_found", "_law_due"] (spSameI K) := ok_sameI T
  refine T.F_same.ok sc_same (fun vs H Q E h => ?_) (fun cdv A outer s H vs Q E hr h => ?_)
  · obtain ⟨x, d, b, l, rfl, _⟩ := h
    rfl
  · obtain ⟨x, d, b, l, rfl, hx, hw, hy, q⟩ := h
    refine ⟨_, pss_cons (ps_if (pt_val (pe_callB call_isiT (by rfl) T.n_isinstance (by decide +kernel) (pa_cons (pv 1) (pa_cons (pe_tup (pa_cons (pe_bltn (v := .ty "list") (by rfl) T.n_list (by decide +kernel) rfl) (pa_cons (pe_bltn (v := .ty "tuple") (by rfl) T.n_tuple (by decide +kernel) rfl) pa_nil))) pa_nil))))
        (pss_cons (ps_if (PW.pt (pw_or (pt_cmpR op_ne (pe_callB call_isi (by rfl) T.n_isinstance (by decide +kernel) (pa_cons (pv 0) (pa_cons (pe_bltn (v := .ty "list") (by rfl) T.n_list (by decide +kernel) rfl) pa_nil))) (pe_callB call_isi (by rfl) T.n_isinstance (by decide +kernel) (pa_cons (pv 1) (pa_cons (pe_bltn (v := .ty "list") (by rfl) T.n_list (by decide +kernel) rfl) pa_nil))) (nomark _))
            (pw_or1 (pt_cmpR op_ne (pe_callB call_isi (by rfl) T.n_isinstance (by decide +kernel) (pa_cons (pv 0) (pa_cons (pe_bltn (v := .ty "tuple") (by rfl) T.n_tuple (by decide +kernel) rfl) pa_nil))) (pe_callB call_isi (by rfl) T.n_isinstance (by decide +kernel) (pa_cons (pv 1) (pa_cons (pe_bltn (v := .ty "tuple") (by rfl) T.n_tuple (by decide +kernel) rfl) pa_nil))) (nomark _)))))
          (pss_one (ps_ret pe_bl)) pss_nil)
        (pss_one (ps_ret (pe_and (pe_cmpR op_eq (pe_callB call_len_seq (by rfl) T.n_len PySem.boot_len (pa_cons (pv 0) pa_nil)) (pe_callB call_len_seq (by rfl) T.n_len PySem.boot_len (pa_cons (pv 1) pa_nil)) (nomark _))
          (pe_one (pe_callB (cr_all rfl) (by rfl) T.n_all (by decide +kernel) (pa_cons
            (pe_lc (own := [("_law_mine", 2), ("_law_its", 3)]) (g := gTup K 2 (gCons (gName 2) (gCons (gName 3) gNil))) (tt := tYes) (by rfl) sc_same.nd (pi_zipA (by rfl) T.n_zip (pa_cons (pv 0) (pa_cons (pv 1) pa_nil)))
              (blkOk_by (N := N_same) (sc := defScope s_same) (by decide +kernel))
              (fun _ _ _ _ _ => pg_tup (by rfl) (pgs_cons (pg_name (i := 2) sc_same.nd rfl (.inl rfl)) (pgs_cons (pg_name (i := 3) sc_same.nd rfl (.inl rfl)) pgs_nil)))
              (fun _ _ _ _ _ => pts_nil)
              (fun _ _ _ _ _ => pe_call G hr (by rfl) T.g_same T.F_same.kp T.b_same .nil pass0 (pa_cons (pv 2) (pa_cons (pv 3) pa_nil)))) pa_nil))))))) pss_nil)
      (pss_cons (ps_if (PW.pt (pw_or (pt_cmpR op_isN (pv 1) pe_non (nomark _)) (pw_or1 (pt_val (pe_callB call_isiT (by rfl) T.n_isinstance (by decide +kernel) (pa_cons (pv 1) (pa_cons (pe_tup (pa_cons (pe_bltn (v := .ty "str") (by rfl) T.n_str (by decide +kernel) rfl) (pa_cons (pe_bltn (v := .ty "bool") (by rfl) T.n_bool (by decide +kernel) rfl) pa_nil))) pa_nil)))))))
        (pss_one (ps_ret (pe_and (pe_cmpR op_eq (pv 0) (pv 1) (nomark _))
          (pe_and (pe_cmpR op_eq (pe_callB call_isi (by rfl) T.n_isinstance (by decide +kernel) (pa_cons (pv 0) (pa_cons (pe_bltn (v := .ty "bool") (by rfl) T.n_bool (by decide +kernel) rfl) pa_nil))) (pe_callB call_isi (by rfl) T.n_isinstance (by decide +kernel) (pa_cons (pv 1) (pa_cons (pe_bltn (v := .ty "bool") (by rfl) T.n_bool (by decide +kernel) rfl) pa_nil))) (nomark _))
          (pe_one (pe_cmpR op_eq (pe_cmpR op_isN (pv 0) pe_non (nomark _)) (pe_cmpR op_isN (pv 1) pe_non (nomark _)) (nomark _))))))) pss_nil)
      (pss_one (ps_ret (pe_and (pe_callB call_isi (by rfl) T.n_isinstance (by decide +kernel) (pa_cons (pv 0) (pa_cons (pe_bltn (v := .ty "int") (by rfl) T.n_int (by decide +kernel) rfl) pa_nil)))
        (pe_and (pe_not (pe_callB call_isi (by rfl) T.n_isinstance (by decide +kernel) (pa_cons (pv 0) (pa_cons (pe_bltn (v := .ty "bool") (by rfl) T.n_bool (by decide +kernel) rfl) pa_nil)))) (pe_one (pe_cmpR op_eq (pv 0) (pv 1) (nomark _)))))))), ?_⟩
    refine ⟨_, rfl, by show 2 ≤ sizeLine; decide, fun t nt => ?_⟩
    have s1 : Same H (upd H t (.tup [.ty "list", .ty "tuple"])) := same_new nt
    have hy1 := Same.seq s1 hy
    have hx1 := dp_same s1 hx
    have fin : ∀ (bb : Bool) (H' : Hp), Same H H' → bb = sameL l d → Q (.bl bb) H' := fun bb H' s' e => by rw [e]; exact q _ s'
    refine ⟨_, t, _, _, _, _, rfl, upd_same, cls2 _ _, ty_lst hy1, any_lt_list, _, rfl, iteT ?_⟩
    refine ⟨_, rfl, _, _, _, _, _, rfl, .ty _, dp_ty hx1, k_list hx1, _, rfl, _, _, _, _, _, rfl, .ty _, ty_lst hy1, one_list_list, rfl, _, rfl, ite2 (fun c => ?_) (fun c => ?_)⟩
    · refine fin _ _ s1 ?_
      cases hx1 with
      | lst => exact absurd (show false = true from c) Bool.false_ne_true
      | int => rfl
      | bl => rfl
      | non => rfl
      | str => rfl
      | tup => rfl
    · cases hx with
      | int => exact absurd rfl c
      | bl => exact absurd rfl c
      | non => exact absurd rfl c
      | str => exact absurd rfl c
      | tup => exact absurd rfl c
      | lst hS0 hA =>
      rename_i a xs ds
      have hS := Same.seq s1 hS0
      have hlx := dpa_len hA
      have hw1 : ds.length ≤ 100000 := hw.1
      refine ⟨_, rfl, _, _, _, _, _, rfl, .ty _, ty_lst hS, one_list_tuple, _, rfl, _, _, _, _, _, rfl, .ty _, ty_lst hy1, one_list_tuple, rfl, _, rfl, iteNS rfl ?_⟩
      refine ⟨_, rfl, a, xs, rfl, .inl hS, _, rfl, b, _, rfl, .inl hy1, rfl, _, rfl, ite2 (fun g => ?_) (fun g => ?_)⟩
      · have hll : ds.length = l.length := by
          have := V.int.inj (of_decide_eq_true g)
          rw [nv_length] at this
          omega
        have hly : (nv l).length = l.length := nv_length l
        refine ⟨_, rfl, _, rfl, a, b, xs, _, rfl, .inl ⟨hS, hy1, fun D nD => ?_⟩⟩
        have nD0 : H D = none := s1.free nD
        have hzl := zipB_len hll
        refine lc_it (walk_zip (n := xs.length) (by omega)) (fun i H' => Same H H' ∧ H' D = some (.lst (((zipB ds l).take i).map V.bl))) ⟨s1.trans (same_new nD), upd_same⟩ (fun i H' _ h => ⟨Same.seq h.1 hS0, Same.seq h.1 hy⟩) (fun i v H1 H2 hi h yy => ?_) (fun H' h => ?_)
        · obtain ⟨sm, eD⟩ := h
          obtain ⟨tp, u, v, rfl, nT, rfl, g1, g2⟩ := yy
          obtain ⟨d1, e1, f1⟩ := dpa_get hA g1
          obtain ⟨z, ez, rfl⟩ := nv_get' g2
          have st : Same H (upd H1 tp (.tup [u, .int (z : Int)])) := sm.trans (same_new nT)
          refine ⟨tp, _, rfl, .inl (.inl upd_same), rfl, _, _, rfl, _, _, rfl, rfl, rfl, yes_if ?_⟩
          refine ⟨_, rfl, _, rfl, u, d1, (z : Int), rfl, dp_same st f1, fun H3 s3 => ⟨_, s3 _ _ (same_new nT _ _ eD), ?_, ?_, ?_⟩⟩
          · rw [List.length_map, List.length_take]
            exact line_big (by omega)
          · intro c o hc
            rw [upd_ne (ne_of_none hc nD0)]
            exact s3 _ _ (st _ _ hc)
          · rw [upd_same, List.take_add_one, zipB_get e1 ez, List.map_append]
            rfl
        · obtain ⟨sm, eD⟩ := h
          rw [show xs.length = (zipB ds l).length by omega, List.take_length] at eD
          refine ⟨D, zipB ds l, rfl, .inl (.inl eD), fin _ _ sm ?_⟩
          show (zipB ds l).all id = (decide (ds.length = l.length) && (zipB ds l).all id)
          rw [decide_eq_true hll, Bool.true_and]
      · refine fin _ _ s1 ?_
        have hne : ds.length ≠ l.length := fun e => g (decide_eq_true (by rw [hlx, e, nv_length]))
        show false = (decide (ds.length = l.length) && (zipB ds l).all id)
        rw [decide_eq_false hne, Bool.false_and]
end
end Pc
namespace Pc
open PySem PySem.Spec PyProof.Rows L2 RZ
theorem fine_nd' {l : List Nat} {n : Nat} (h : ∀ x ∈ l, x < 2 * n) (hn : n ≤ 500) (hl : l.length ≤ 2 * n + 2) : SeqAt.shaped (.list (nd l)) = true := by
  have e : nd l = (l.map fun (i : Nat) => (i : Int)).map PyData.int := by unfold nd; rw [List.map_map]; rfl
  rw [e]; exact shaped_ints _
end Pc
namespace Pc
open PySem PySem.Spec PyProof.Rows L2 RZ
section
variable {P : Program} {w : World} {K : PySem.W.Frag} {mg : Str → Option Value} {base : Heap}
/-! ### shows_path: whatever the value is -/
def spShows (K : PySem.W.Frag) : Sp := fun vs H Q _ => ∃ (a p : Addr) (fs ps : List Nat) (n x : Nat) (v : V) (d : PyData), vs = [.ref a, .ref p, .int x, v] ∧ Sq K H a (nv fs) ∧ Sq K H p (nv ps) ∧ IsPair (2 * n) fs ∧ IsPair n ps ∧ x < n ∧ n ≤ 500 ∧ Dp K H v d ∧ narrow d ∧ SeqAt.shaped d = true ∧
  ∀ (H' : Hp), Same H H' → Q (.bl (sameL (trl fs ps n (n + x)) d)) H'
theorem ok_p_shows (T : Env K mg) : FnOk P w K mg base CX0 4 T.f_p_shows_path T.d_p_shows_path ["sheet", "pairing", "person", "value"] (spShows K) := by
  have G0 : FnOk P w K mg base CX0 3 T.f_p_path T.d_p_path ["sheet", "pairing", "person"] (spFPath K) := ok_p_path T
  have G1 : FnOk P w K mg base CX0 1 T.f_p_is_integer_below T.d_p_is_integer_below ["value", "limit"] (spBelowD K) := ok_p_belowD T
  refine T.F_p_shows_path.ok sc_p_shows_path (fun vs H Q E h => ?_) (fun cdv A outer s H vs Q E hr h => ?_)
  · obtain ⟨a, p, fs, ps, n, x, v, d, rfl, _⟩ := h
    rfl
  · obtain ⟨a, p, fs, ps, n, x, v, d, rfl, ha, hp, hF, hP, hx, hn, hd, hw, hsh, q⟩ := h
    have h1 := hr.mono (show 1 ≤ 3 by decide)
    refine ⟨_, pss_cons (ps_set (i := 4) sc_p_shows_path.nd rfl (.inl rfl) (pe_call G0 hr (by rfl) T.g_p_path T.F_p_path.kp T.b_p_path .nil pass0 (pa_cons (pv 0) (pa_cons (pv 1) (pa_cons (pv 2) pa_nil))))) <|
      pss_cons (ps_if (pt_not (pt_val (pe_callB call_isi (by rfl) T.n_isinstance (by decide +kernel) (pa_cons (pv 3) (pa_cons (pe_bltn (v := .ty "list") (by rfl) T.n_list (by decide +kernel) rfl) pa_nil))))) (pss_one (ps_ret pe_bl)) pss_nil) <|
      pss_one (ps_ret (pe_and (pe_cmpR (op_eqD hr.units) (pv 3) (pv 4) (nomark _)) (pe_one (pe_callB (cr_all rfl) (by rfl) T.n_all (by decide +kernel) (pa_cons
        (pe_lc (own := [("end", 5)]) (g := gName 5) (tt := tYes) (te := tCall (spBelowD K) [] E0 (tCons (tVar 5) (tCons (tCB (fun xs H Q => ∃ p ys, xs = [V.ref p] ∧ (SqL K H p ys ∨ SqT K H p ys) ∧ Q (.int ys.length) H) (tCons (tVar 0) tNil)) tNil))) rfl sc_p_shows_path.nd (pi_seq (pv 3)) (blkOk_by (N := N_p_shows_path) (sc := defScope s_p_shows_path) (by decide +kernel))
          (fun _ _ _ _ _ => pg_name (i := 5) sc_p_shows_path.nd rfl (.inl rfl)) (fun _ _ _ _ _ => pts_nil)
          (fun _ _ _ _ _ => pe_call G1 h1 (by rfl) T.g_p_is_integer_below T.F_p_is_integer_below.kp T.b_p_is_integer_below .nil pass0 (pa_cons (pv 5) (pa_cons (pe_callB call_len_seq (by rfl) T.n_len PySem.boot_len (pa_cons (pv 0) pa_nil)) pa_nil)))) pa_nil))))), ?_⟩
    refine ⟨.ref a, rfl, .ref p, rfl, .int x, rfl, a, p, fs, ps, n, x, rfl, ha, hp, hF, hP, hx, hn, fun H1 t s1 nt et => ?_⟩
    obtain ⟨tr, trl_len⟩ := trl_trail hF hP (z := n + x) (by omega) (by omega)
    have tlt := tr.lt hF hP (by omega)
    have hd1 := dp_same s1 hd
    have fin : ∀ (bb : Bool) (H' : Hp), Same H H' → bb = sameL (trl fs ps n (n + x)) d → Q (.bl bb) H' := fun bb H' s' e => by rw [e]; exact q _ s'
    generalize trl fs ps n (n + x) = l at *
    refine ⟨_, rfl, _, _, _, _, _, rfl, .ty _, dp_ty hd1, k_list hd1, _, rfl, ite2 (fun c => ?_) (fun c => ?_)⟩
    · refine fin _ _ s1 ?_
      cases hd1 with
      | lst => exact absurd (show false = true from c) Bool.false_ne_true
      | int => rfl
      | bl => rfl
      | non => rfl
      | str => rfl
      | tup => rfl
    · cases hd with
      | int => exact absurd rfl c
      | bl => exact absurd rfl c
      | non => exact absurd rfl c
      | str => exact absurd rfl c
      | tup => exact absurd rfl c
      | lst hS hA =>
      rename_i va xs ds
      have hlx := dpa_len hA
      have hw1 : ds.length ≤ 100000 := hw.1
      have key := same_path (m := 2 * n) ds l tlt
      have hlf : ((nv fs).length : Int) = ((2 * n : Nat) : Int) := by rw [nv_length, hF.len]
      refine ⟨_, rfl, _, rfl, .list ds, .list (nd l), hd1, .lst (.inl (.inl et)) (dp_nats l), hsh, ?_, _, rfl, ite2 (fun g => ?_) (fun g => ?_)⟩
      · exact (fine_nd' tlt hn trl_len)
      · have g' : PyData.eqvAll ds (nd l) = true := g
        rw [g', Bool.true_and] at key
        refine ⟨_, rfl, va, rfl, lc_seq' (.inl hS) s1 fun D nD => ⟨fun i H' => Same H H' ∧ H' D = some (.lst (((ds.take i).map (belowB (2 * n))).map V.bl)), ⟨s1.trans (same_new nD), upd_same⟩, fun i H' h => h.1, fun i x H' hx h => ?_, fun H' h => ?_⟩⟩
        · obtain ⟨sm, eD⟩ := h
          obtain ⟨d1, ed, hd2⟩ := dpa_get hA hx
          have hi := get_lt ed
          refine ⟨rfl, yes_if ⟨_, rfl, .ref a, rfl, a, nv fs, rfl, ?_, x, d1, 2 * n, ?_, dp_same sm hd2, _, eD, ?_, fun c o hc => ?_, ?_⟩⟩
          · rcases ha with z | z
            · exact .inl (Same.seq sm z)
            · exact .inr (same_tup sm z)
          · show [x, V.int ((nv fs).length : Int)] = _
            rw [hlf]
          · rw [List.length_map, List.length_map, List.length_take]; exact line_big (by omega)
          · rw [upd_ne (ne_of_none hc (s1.free nD))]; exact sm _ _ hc
          · rw [upd_same, all_take_bl (belowB (2 * n)) ed]
        · obtain ⟨sm, eD⟩ := h
          rw [hlx, List.take_length] at eD
          refine ⟨D, ds.map (belowB (2 * n)), rfl, .inl (.inl eD), fin _ _ sm ?_⟩
          rw [List.all_map]
          exact key
      · refine fin _ _ s1 ?_
        have g' : PyData.eqvAll ds (nd l) = false := Bool.eq_false_iff.mpr g
        rw [g', Bool.false_and] at key
        exact key
end
end Pc
namespace Pc
open PySem PySem.Spec PyProof.Rows L2 RZ
/-- x //= c -/
def ipHalf : TIp := fun x y H Q => ∃ i j, x = .int i ∧ y = .int j ∧ (0 < j ∧ j < 1073741824) ∧ Q (.int (i / j)) H
theorem ip_half {X : Cx} : PIp X .FloorDiv ipHalf := by
  intro pins s σ H x y v u Q I r1 r2 h
  obtain ⟨i, j, e1, e2, hj, q⟩ := h
  subst e1 e2
  obtain ⟨t, rfl⟩ := r1
  obtain ⟨t', rfl⟩ := r2
  refine PyProof.Rows.ifloordiv_int (by omega) ?_ (.inl (PyProof.noPylong_small (by omega)))
  rw [Int.fdiv_eq_ediv_of_nonneg i (by omega)]
  exact ⟨.int _, H, I.tok _, ⟨_, rfl⟩, q⟩
theorem bl_dec (a b : Bool) : decide (V.bl a = V.bl b) = (a == b) := by cases a <;> cases b <;> rfl
end Pc
namespace Pc
theorem iteY {b : Bool} {A B : Prop} (h : b = true) (a : A) : if b = true then A else B := by rw [if_pos h]; exact a
theorem iteX {b : Bool} {A B : Prop} (h : b = false) (a : B) : if b = true then A else B := by rw [h, if_neg Bool.false_ne_true]; exact a
end Pc
namespace Pc
open PySem PySem.Spec PyProof.Rows L2 RZ
/-! ### data of small size, by its depth -/
def Sz : Nat → Nat
  | 0 => 61
  | 1 => 6303
  | 2 => 630503
  | _ => 15762628
abbrev Fi (j : Nat) (d : PyData) : Prop := Fine j (Sz j) d
theorem Sz_le : ∀ j, Sz j ≤ Sz (j + 1)
  | 0 => by decide
  | 1 => by decide
  | 2 => by decide
  | _ + 3 => Nat.le_refl _
theorem Fine.up {j : Nat} {d : PyData} (h : Fi j d) : Fi (j + 1) d := h.mono (Nat.le_succ _) (Sz_le j)
theorem Fine.sh {j : Nat} {d : PyData} (h : Fi j d) (hj : j ≤ 60 := by decide) : SeqAt.shaped d = true := Fine.shaped h (by omega)
theorem fi_int {i : Int} (h : i.natAbs < 2 ^ 60) : Fi 0 (.int i) := fine_int h
theorem fi_bl {b : Bool} : Fi 0 (.bool b) := ⟨rfl, rfl, Nat.le_refl _, trivial, by cases b <;> decide⟩
theorem fi_non : Fi 0 .none := ⟨rfl, rfl, Nat.le_refl _, trivial, by decide⟩
theorem fi_tup {l : List Nat} {m : Nat} (hl : IsPair m l) (hm : m ≤ 100) : Fi 1 (td l) := (fine_tup (n := 100) (fun i hi => by have := hl.lt i hi; omega) (by rw [hl.len]; omega) (by decide)).mono (Nat.le_refl _) (by decide)
/-- numbers of small size, not many -/
def Fw (l : List Nat) : Prop := l.length ≤ 100 ∧ ∀ i ∈ l, i < 2 ^ 60
theorem fb {l : List Nat} {m : Nat} (hl : IsPair m l) (hm : m ≤ 100) : Fw l := ⟨by rw [hl.len]; exact hm, fun i hi => by have := hl.lt i hi; omega⟩
theorem fi_tup' {l : List Nat} (h : Fw l) : Fi 1 (td l) := (fine_tup (n := 100) h.2 h.1 (by decide)).mono (Nat.le_refl _) (by decide)
theorem fi_lst {l : List Nat} (h : Fw l) : Fi 1 (.list (nd l)) := (fine_list (k := 0) (m := 61) (n := 100) (fine_nd h.2) (by rw [nd_length]; exact h.1) (by decide)).mono (Nat.le_refl _) (by decide)
theorem fi_prs {qs : List (Nat × Nat)} (h : qs.length ≤ 1000 ∧ ∀ p ∈ qs, p.1 < 2 ^ 60 ∧ p.2 < 2 ^ 60) : Fi 2 (.list (qs.map pd)) := (fine_pds (n := 1000) h.2 h.1 (by decide)).mono (Nat.le_refl _) (by decide)
theorem fa_nil {j : Nat} : ∀ d ∈ ([] : List PyData), Fi j d := fun _ h => absurd h List.not_mem_nil
theorem fa_cons {j : Nat} {d : PyData} {ds : List PyData} (h : Fi j d) (r : ∀ x ∈ ds, Fi j x) : ∀ x ∈ d :: ds, Fi j x := fun x hx => (List.mem_cons.mp hx).elim (fun e => by rw [e]; exact h) (r x)
def Few (j n : Nat) : Prop := n * (Sz j + 2) + 3 ≤ Sz (j + 1) ∧ n ≤ 100000
instance (j n : Nat) : Decidable (Few j n) := by unfold Few; infer_instance
theorem fi_list {j : Nat} {ds : List PyData} (h : ∀ d ∈ ds, Fi j d) (hn : n = ds.length := by rfl) (hf : Few j n := by decide) : Fi (j + 1) (.list ds) := (fine_list (k := j) (m := Sz j) (n := n) h (by rw [hn]; exact Nat.le_refl _) hf.2).mono (Nat.le_refl _) hf.1
theorem fi_tuple {j : Nat} {ds : List PyData} (h : ∀ d ∈ ds, Fi j d) (hn : n = ds.length := by rfl) (hf : Few j n := by decide) : Fi (j + 1) (.tuple ds) := (fine_tuple (k := j) (m := Sz j) (n := n) h (by rw [hn]; exact Nat.le_refl _) hf.2).mono (Nat.le_refl _) hf.1
theorem fi_ne {j : Nat} {d : PyData} (h : Fi j d) : (!PyData.eqv d d) = false := by
  rw [PySem.SeqAt.eqv_refl _ h.lay]; rfl
theorem fi_eq {j : Nat} {d : PyData} (h : Fi j d) : PyData.eqv d d = true := PySem.SeqAt.eqv_refl _ h.lay
/-! ### arguments by name, in another order -/
def pm10 {α : Type} : List α → List α
  | [a, b] => [b, a]
  | l => l
theorem rel_pm10 {zs : List V} {ws : List Value} (_ : zs.length = 2) (r : Vals zs ws) : Vals (pm10 zs) (pm10 ws) := by
  match zs, ws, r with
  | [], _, .nil => exact .nil
  | [_], _, .cons h .nil => exact .cons h .nil
  | [_, _], _, .cons h1 (.cons h2 .nil) => exact .cons h2 (.cons h1 .nil)
  | _ :: _ :: _ :: _, _, .cons h1 (.cons h2 (.cons h3 r)) => exact .cons h1 (.cons h2 (.cons h3 r))
def pm0 {α : Type} (l : List α) : List α := l
theorem rel_pm0 {zs : List V} {ws : List Value} (_ : zs.length = 1) (r : Vals zs ws) : Vals (pm0 zs) (pm0 ws) := r
end Pc
namespace Pc
open PySem PySem.Spec PyProof.Rows L2 RZ
theorem calls_app {n : Nat} {qs rs : List (Nat × Nat)} (h : Calls n qs) (g : Calls n rs) : Calls n (qs ++ rs) := fun q hq => (List.mem_append.mp hq).elim (h q) (g q)
end Pc
namespace Pc
open PySem PySem.Spec PyProof.Rows L2 RZ
/-- the slots, written out -/
theorem st_eq {t : TS} {D : L2.Ends} {σ : L2.St} {H : Hp} (σ' : L2.St) (h : t D σ' H) (e : σ = σ') : t D σ H := by rw [e]; exact h
end Pc
namespace Pc
open PySem PySem.Spec PyProof.Rows L2 RZ
theorem st_set {i : Nat} {v : V} {σ : L2.St} {H : Hp} {Q : L2.St → Hp → Prop} (σ' : L2.St) (h : Q σ' H) (e : σ.set i (some v) = σ') : gName i v σ H Q := by
  unfold gName
  rw [e]; exact h
end Pc
namespace Pc
open PySem PySem.Spec PyProof.Rows L2 RZ
theorem fi_same {x y : V} (e : x = y) : (!decide (x = y)) = false := by rw [decide_eq_true e]; rfl
theorem fi_is {x y : V} (e : x = y) : decide (x = y) = true := decide_eq_true e
end Pc
namespace Pc
open PySem PySem.Spec PyProof.Rows L2 RZ
theorem st_kept {D : L2.Ends} {i : Nat} {a C d : Addr} {σ1 : L2.St} {H : Hp} (σ' : L2.St) (h : D.nx σ' (upd H a (exk a (.ref C) (some d)))) (e : σ1.set i none = σ') :
    ({ nx := fun σ'' H'' => D.nx (σ''.set i none) (upd H'' a (exk a (.ref C) (some d))), rt := fun _ _ => False } : L2.Ends).nx σ1 H := by
  show D.nx (σ1.set i none) _
  rw [e]; exact h
end Pc
namespace Pc
open PySem PySem.Spec PyProof.Rows L2 RZ
theorem st_setH {i : Nat} {v : V} {σ : L2.St} {H : Hp} {Q : L2.St → Hp → Prop} (σ' : L2.St) (H' : Hp) (h : Q σ' H') (e : σ.set i (some v) = σ') (eh : H = H') : gName i v σ H Q := by
  unfold gName
  rw [e, eh]; exact h
end Pc
namespace Pc
open PySem PySem.Spec PyProof.Rows L2 RZ
/-- f(k=e, ..), f raising -/
theorem pe_kwS {X : Cx} {CX : CXT} {k : Nat} {f : Addr} {fd : FuncData} {ps ks : List Str} {sp : Sp} {E : L2.St → XK} {x : Str} {p pos : Pos} {kws : List Keyword} {tk : TA} {g : List Value → List Value} {gV : List V → List V}
    (F : FnOk X.prog X.w X.K X.mg X.base CX k f fd ps sp) (hr : Room k X.A) (hg : Gl X x) (hm : X.mg x = some (.ref f)) (hk : PySem.W.keepIn X.K (.ref f) = true)
    (hb : ∀ (s : Shared) (ws : List Value), ws.length = ks.length → BindsTo s fd ⟨[], ks.zip ws⟩ (ps.zip (g ws))) (rel : ∀ {zs : List V} {ws : List Value}, zs.length = ks.length → Vals zs ws → Vals (gV zs) (g ws)) (hx : ∀ σ, PassesAt CX X σ (E σ)) (hkw : PK X kws tk)
    (hall : (backToKw pos (keywordEach kws X.env)).all (·.1.isSome) = true := by rfl) (hks : (backToKw pos (keywordEach kws X.env)).filterMap (·.1) = ks := by rfl) (hdb : (x == ("__debug__" : Str)) = false := by decide)
    (hpl : ((backTo pos (starEach [] X.env)).any (·.1) || (backToKw pos (keywordEach kws X.env)).any (·.1.isNone)) = false := by rfl) :
    PE X (.Call (.Name x p) [] kws pos) (fun σ H Q => tk σ H fun zs H1 => zs.length = ks.length ∧ sp (gV zs) H1 Q (E σ)) := by
  constructor
  intro pins s σ H Q I h
  refine wpAny_Call_Name_kw (ld_glob I hg hm ?_ hdb)
  refine PySem.W.callWith_KW0 (h₀ := X.base) I.ok.mod.kin hk hall (thn (hkw.run pos pins s σ H _ I h) ?_) hpl
  rintro ws s2 ⟨zs, H2, I2, rz, hz, q⟩
  refine ⟨I2.kIn, ?_⟩
  rw [hks]
  refine wpAny_call (codeAny_mono (F.run X.A X.stack s2 H2 ⟨[], ks.zip ws⟩ (g ws) (gV zs) Q (E σ) hr I2.env0 (hb s2 ws (by rw [← rz.length, hz])) (rel hz rz) q) ?_)
  intro res s' hq
  cases res with
  | error e => exact hx σ pins H2 s2 e s' I2 hq
  | ok fl =>
    cases fl with
    | ret u => exact I2.after hq
    | next => exact hq.elim
    | brk => exact hq.elim
    | cont => exact hq.elim
end Pc
namespace Pc
open PySem PySem.Spec PyProof.Rows L2 RZ
/-! ### one of some defs, called -/
def FOk (X : Cx) (CX : CXT) (f : Addr) (sp : Sp) : Prop := ∃ (k : Nat) (fd : FuncData) (ps : List Str), FnOk X.prog X.w X.K X.mg X.base CX k f fd ps sp ∧ Room k X.A ∧ PySem.W.keepIn X.K (.ref f) = true ∧ Binds X.K fd ps []
def tCallF (cs : List (Addr × Sp)) (E : L2.St → XK) (tf : TE) (t : TA) : TE := fun σ H Q => tf σ H fun v H1 => ∃ (f : Addr) (sp : Sp), (f, sp) ∈ cs ∧ v = .ref f ∧ t σ H1 fun vs H2 => sp vs H2 Q (E σ)
theorem fall_nil {X : Cx} {CX : CXT} : ∀ c ∈ ([] : List (Addr × Sp)), FOk X CX c.1 c.2 := fun _ h => absurd h List.not_mem_nil
theorem fall_cons {X : Cx} {CX : CXT} {f : Addr} {sp : Sp} {cs : List (Addr × Sp)} (h : FOk X CX f sp) (r : ∀ c ∈ cs, FOk X CX c.1 c.2) : ∀ c ∈ (f, sp) :: cs, FOk X CX c.1 c.2 := fun c hc => (List.mem_cons.mp hc).elim (fun e => by rw [e]; exact h) (r c)
theorem pe_callF {X : Cx} {CX : CXT} {cs : List (Addr × Sp)} {E : L2.St → XK} {fe e : Expr} {es : List Expr} {tf : TE} {t : TA} {pos : Pos} (hall : ∀ c ∈ cs, FOk X CX c.1 c.2) (hx : ∀ σ, PassesAt CX X σ (E σ)) (hf : PE X fe tf) (ha : PA X (e :: es) t)
    (ht : eval (.Call fe (e :: es) [] pos) X.env = (do callWith pos (← eval fe X.env) [] (backTo pos (starEach (e :: es) X.env)) (backToKw pos (keywordEach [] X.env))) := by rfl)
    (he : starEach (e :: es) X.env = (false, eval e X.env) :: starEach es X.env := by rfl) (hpl : (backTo pos (starEach es X.env)).any (·.1) = false := by rfl) : PE X (.Call fe (e :: es) [] pos) (tCallF cs E tf t) := by
  refine ⟨fun pins s σ H Q I h => ?_⟩
  refine Call_ (thn (hf.run pins s σ H _ I h) fun u s1 ⟨y, H1, I1, ry, f, sp, hm, ey, q⟩ => ?_) ht
  subst ey
  obtain rfl : u = Value.ref f := ry
  obtain ⟨k, fd, ps, F, hr, hk, hb⟩ := hall _ hm
  refine PySem.W.callWith_K (h₀ := X.base) I1.ok.mod.kin hk (thn (ha.run pos pins s1 σ H1 _ I1 q) fun us s2 ⟨vs, H2, I2, r, q2⟩ => ⟨I2.kIn, ?_⟩) he hpl
  exact run_fnS F hr hb (hx σ) I2 r q2
/-- C(e, ..), the arguments never come -/
theorem pe_callN {X : Cx} {f : Addr} {x : Str} {p pos : Pos} {e : Expr} {es : List Expr} {t : TA} (hg : Gl X x) (hm : X.mg x = some (.ref f)) (hk : PySem.W.keepIn X.K (.ref f) = true) (ha : PA X (e :: es) t) (hdb : (x == ("__debug__" : Str)) = false := by decide)
    (he : starEach (e :: es) X.env = (false, eval e X.env) :: starEach es X.env := by rfl) (hpl : (backTo pos (starEach es X.env)).any (·.1) = false := by rfl) :
    PE X (.Call (.Name x p) (e :: es) [] pos) (fun σ H _ => t σ H fun _ _ => False) := by
  refine ⟨fun pins s σ H Q I h => ?_⟩
  refine wpAny_Call_Name_kw (ld_glob I hg hm ?_ hdb)
  exact PySem.W.callWith_K (h₀ := X.base) I.ok.mod.kin hk (thn (ha.run pos pins s σ H _ I h) fun us s1 ⟨vs, H1, I1, r, q⟩ => q.elim) he hpl
end Pc
namespace Pc
open PySem PySem.Spec PyProof.Rows L2 RZ
section
variable {P : Program} {w : World} {K : PySem.W.Frag} {mg : Str → Option Value} {base : Heap}
/-! ### somebody who is not there -/
def spPersonX (C : Addr) : Sp := fun vs H _ E => ∃ n u : Int, vs = [.int n, .int u] ∧ ¬ (0 ≤ u ∧ u < n) ∧ Flies C "person" (.int u) H E
theorem okx_p_check_person (T : Env K mg) : FnOk P w K mg base (L2.CX P w) 3 T.f_p_check_person T.d_p_check_person ["size", "person"] (spPersonX T.C_NoPerson) := by
  refine T.F_p_check_person.okX sc_p_check_person (fun vs H Q E h => ?_) (fun cdv A outer s H vs Q E hr h => ?_)
  · obtain ⟨n, u, rfl, _⟩ := h
    rfl
  · obtain ⟨n, u, rfl, hu, hF⟩ := h
    refine ⟨_, pss_one (ps_if (pt_not (pt_chain op_le op_lt pe_int (pv 1) (pv 0))) (pss_one (ps_raise rfl (takes_of rfl rfl rfl rfl) (pmk_e T.own_NoPerson bsL.fb T.iC_NoPerson T.tI_NoPerson (ok_i_NoPerson T) hr T.b_i_NoPerson pass0 (by rfl) T.gC_NoPerson (pa_cons (pv 1) pa_nil)))) pss_nil), ?_⟩
    refine ⟨_, rfl, 0, u, rfl, rfl, _, rfl, ?_⟩
    by_cases c : (0 : Int) ≤ u
    · rw [decide_eq_true c]
      refine iteT ⟨_, rfl, u, n, rfl, rfl, _, rfl, ?_⟩
      rw [decide_eq_false (show ¬ u < n from fun z => hu ⟨c, z⟩)]
      exact iteY rfl ⟨_, rfl, raised1 hF⟩
    · rw [decide_eq_false c]
      exact iteF ⟨_, rfl, iteY rfl ⟨_, rfl, raised1 hF⟩⟩
end
end Pc
namespace Pc
open PySem PySem.Spec PyProof.Rows L2 RZ
section
variable {P : Program} {w : World} {K : PySem.W.Frag} {mg : Str → Option Value} {base : Heap}
/-! ### a path of nobody -/
def OP (K : PySem.W.Frag) (C : Addr) (a b : Addr) (u : Int) (H : Hp) (E : XK) : Prop := ∃ (f g : List Nat) (n : Nat), Sq K H a (nv f) ∧ f.length = 2 * n ∧ Sq K H b (nv g) ∧ g.length = n ∧ ¬ (0 ≤ u ∧ u < n) ∧ Flies C "person" (.int u) H E
theorem OP.same {C a b : Addr} {u : Int} {H H' : Hp} {E : XK} (h : OP K C a b u H E) (s : Same H H') : OP K C a b u H' E := by
  obtain ⟨f, g, n, ha, hf, hb, hg, hu, hF⟩ := h
  exact ⟨f, g, n, ha.same s, hf, hb.same s, hg, hu, hF.same s⟩
def spP3 (K : PySem.W.Frag) (C : Addr) : Sp := fun vs H _ E => ∃ (a b : Addr) (u : Int), vs = [.ref a, .ref b, .int u] ∧ OP K C a b u H E
def spP4 (K : PySem.W.Frag) (C : Addr) : Sp := fun vs H _ E => ∃ (a b : Addr) (u : Int) (v : V), vs = [.ref a, .ref b, .int u, v] ∧ OP K C a b u H E
theorem okx_p_path (T : Env K mg) : FnOk P w K mg base (L2.CX P w) 4 T.f_p_path T.d_p_path ["sheet", "pairing", "person"] (spP3 K T.C_NoPerson) := by
  have G0 : FnOk P w K mg base CX0 1 T.f_p_people_of T.d_p_people_of ["sheet"] (spPeople K) := ok_p_people_of T
  have GC : FnOk P w K mg base CX0 1 T.f_p_check_sizes T.d_p_check_sizes ["first", "second"] spCheckSizes := ok_p_check_sizes T
  have GX : FnOk P w K mg base (L2.CX P w) 3 T.f_p_check_person T.d_p_check_person ["size", "person"] (spPersonX T.C_NoPerson) := okx_p_check_person T
  refine T.F_p_path.okX sc_p_path (fun vs H Q E h => ?_) (fun cdv A outer s H vs Q E hr h => ?_)
  · obtain ⟨a, b, u, rfl, _⟩ := h
    rfl
  · obtain ⟨a, b, u, rfl, f, g, n, ha, hf, hb, hg, hu, hF⟩ := h
    have h1 := hr.mono (show 1 ≤ 3 by decide)
    refine ⟨_, pss_cons (ps_expr (pe_call GC h1 (by rfl) T.g_p_check_sizes T.F_p_check_sizes.kp T.b_p_check_sizes .nil pass0 (pa_cons (pe_call G0 h1 (by rfl) T.g_p_people_of T.F_p_people_of.kp T.b_p_people_of .nil pass0 (pa_cons (pv 0) pa_nil)) (pa_cons (pe_callB call_len_seq (by rfl) T.n_len PySem.boot_len (pa_cons (pv 1) pa_nil)) pa_nil)))) <|
      pss_cons (ps_expr (pe_callS GX hr (by rfl) T.g_p_check_person T.F_p_check_person.kp T.b_p_check_person (fun σ => passAt (takes_of rfl rfl rfl rfl) σ) (pa_cons (pe_callB call_len_seq (by rfl) T.n_len PySem.boot_len (pa_cons (pv 1) pa_nil)) (pa_cons (pv 2) pa_nil)))) pss_never, ?_⟩
    refine ⟨.ref a, rfl, a, f, n, rfl, ha, hf, .ref b, rfl, b, _, rfl, hb, n, (by rw [nv_length, hg]; rfl), ?_⟩
    exact ⟨.ref b, rfl, b, _, rfl, hb, _, rfl, n, u, (by rw [nv_length, hg]), hu, hF⟩
theorem okx_p_couples_on (T : Env K mg) : FnOk P w K mg base (L2.CX P w) 5 T.f_p_couples_on T.d_p_couples_on ["sheet", "pairing", "person"] (spP3 K T.C_NoPerson) := by
  have GP : FnOk P w K mg base (L2.CX P w) 4 T.f_p_path T.d_p_path ["sheet", "pairing", "person"] (spP3 K T.C_NoPerson) := okx_p_path T
  refine T.F_p_couples_on.okX sc_p_couples_on (fun vs H Q E h => ?_) (fun cdv A outer s H vs Q E hr h => ?_)
  · obtain ⟨a, b, u, rfl, _⟩ := h
    rfl
  · obtain ⟨a, b, u, rfl, hO⟩ := h
    refine ⟨_, pss_cons (ps_set (i := 3) sc_p_couples_on.nd rfl (by first | exact .inl rfl | exact .inr rfl) (pe_callS GP hr (by rfl) T.g_p_path T.F_p_path.kp T.b_p_path (fun σ => passAt (takes_of rfl rfl rfl rfl) σ) (pa_cons (pv 0) (pa_cons (pv 1) (pa_cons (pv 2) pa_nil))))) pss_never, ?_⟩
    exact ⟨.ref a, rfl, .ref b, rfl, _, rfl, a, b, u, rfl, hO⟩
theorem okx_p_shows_path (T : Env K mg) : FnOk P w K mg base (L2.CX P w) 5 T.f_p_shows_path T.d_p_shows_path ["sheet", "pairing", "person", "value"] (spP4 K T.C_NoPerson) := by
  have GP : FnOk P w K mg base (L2.CX P w) 4 T.f_p_path T.d_p_path ["sheet", "pairing", "person"] (spP3 K T.C_NoPerson) := okx_p_path T
  refine T.F_p_shows_path.okX sc_p_shows_path (fun vs H Q E h => ?_) (fun cdv A outer s H vs Q E hr h => ?_)
  · obtain ⟨a, b, u, v, rfl, _⟩ := h
    rfl
  · obtain ⟨a, b, u, v, rfl, hO⟩ := h
    refine ⟨_, pss_cons (ps_set (i := 4) sc_p_shows_path.nd rfl (by first | exact .inl rfl | exact .inr rfl) (pe_callS GP hr (by rfl) T.g_p_path T.F_p_path.kp T.b_p_path (fun σ => passAt (takes_of rfl rfl rfl rfl) σ) (pa_cons (pv 0) (pa_cons (pv 1) (pa_cons (pv 2) pa_nil))))) pss_never, ?_⟩
    exact ⟨.ref a, rfl, .ref b, rfl, _, rfl, a, b, u, rfl, hO⟩
def spRefused13 (K : PySem.W.Frag) : Sp := fun vs H Q _ => ∃ (i : Int) (a b : Addr) (u : Int) (f g : List Nat) (n : Nat), vs = [.int i, .ref a, .ref b, .int u] ∧ Sq K H a (nv f) ∧ f.length = 2 * n ∧ Sq K H b (nv g) ∧ g.length = n ∧ ¬ (0 ≤ u ∧ u < n) ∧ 0 ≤ i ∧ i < 3 ∧ ∀ H', Same H H' → Q (.int u) H'
theorem ok_refused (T : Env K mg) : FnOk P w K mg base CX0 6 T.f_refused T.d_refused ["_law_sort", "_law_page", "_law_crowd", "_law_far"] (spRefused13 K) := by
  have GS : FnOk P w K mg base (L2.CX P w) 5 T.f_p_shows_path T.d_p_shows_path ["sheet", "pairing", "person", "value"] (spP4 K T.C_NoPerson) := okx_p_shows_path T
  refine T.F_refused.ok sc_refused (fun vs H Q E h => ?_) (fun cdv A outer s H vs Q E hr h => ?_)
  · obtain ⟨i, a, b, u, f, g, n, rfl, _⟩ := h
    rfl
  · obtain ⟨i, a, b, u, f, g, n, rfl, ha, hf, hb, hg, hu, h0, h3, q⟩ := h
    refine ⟨_, pss_cons (ps_set (i := 4) sc_refused.nd rfl (.inl rfl) pe_non) <|
      pss_cons (ps_try_kept (i := 5) (cs := [.ref T.C_NoPerson, .ref T.C_NoNumber, .ref T.C_NotResult]) rfl rfl rfl sc_refused.nd rfl rfl (.cons ⟨_, _, rfl, by rfl, by decide, .inl T.gC_NoPerson⟩ (.cons ⟨_, _, rfl, by rfl, by decide, .inl T.gC_NoNumber⟩ (.cons ⟨_, _, rfl, by rfl, by decide, .inl T.gC_NotResult⟩ .nil))) (by show 3 ≤ 1000; decide)
        (fun W pn xe tk _ => pss_one (ps_if (pt_cmpR op_lt (pv 0) pe_int (nomark _)) (pss_one (ps_expr (pe_callF (cs := [(T.f_p_path, spP3 K T.C_NoPerson), (T.f_p_couples_on, spP3 K T.C_NoPerson)]) (fall_cons (sp := spP3 K T.C_NoPerson) ⟨5, _, _, (okx_p_path T).mono (by decide), hr, T.F_p_path.kp, T.b_p_path⟩ (fall_cons (sp := spP3 K T.C_NoPerson) ⟨5, _, _, (okx_p_couples_on T).mono (by decide), hr, T.F_p_couples_on.kp, T.b_p_couples_on⟩ fall_nil)) (fun σ => passAt tk σ) (pe_ix (r := rIxL K) ix_list (pe_lst (pa_cons (pe_glob (v := .ref T.f_p_path) (by rfl) T.g_p_path rfl) (pa_cons (pe_glob (v := .ref T.f_p_couples_on) (by rfl) T.g_p_couples_on rfl) pa_nil))) (pv 0) (fun _ _ => rfl)) (pa_cons (pv 1) (pa_cons (pv 2) (pa_cons (pv 3) pa_nil)))))) (pss_one (ps_expr (pe_callS GS hr (by rfl) T.g_p_shows_path T.F_p_shows_path.kp T.b_p_shows_path (fun σ => passAt tk σ) (pa_cons (pv 1) (pa_cons (pv 2) (pa_cons (pv 3) (pa_cons (pe_lst pa_nil) pa_nil)))))))))
        (fun a oe pn => pss_one (ps_set (i := 4) sc_refused.nd rfl (.inl rfl) (pv 5)))) <|
      pss_cons (ps_set (i := 6) sc_refused.nd rfl (.inl rfl) (pe_and (pe_callB call_isk (by rfl) T.n_isinstance (by decide +kernel) (pa_cons (pv 4) (pa_cons (pe_glob (v := .ref T.C_NoPerson) (by rfl) T.gC_NoPerson rfl) pa_nil))) (pe_one (pe_callB call_isk (by rfl) T.n_isinstance (by decide +kernel) (pa_cons (pv 4) (pa_cons (pe_bltn (v := .ty "LookupError") (by rfl) T.n_LookupError (by decide +kernel) rfl) pa_nil)))))) <|
      pss_one (ps_ret (pe_ifExp (PW.pt (pw_and (pt_val (pv 6)) (pw_and1 (pt_not (pt_val (pe_callB call_iskT (by rfl) T.n_isinstance (by decide +kernel) (pa_cons (pv 4) (pa_cons (pe_tup (pa_cons (pe_glob (v := .ref T.C_NoNumber) (by rfl) T.gC_NoNumber rfl) (pa_cons (pe_glob (v := .ref T.C_NotResult) (by rfl) T.gC_NotResult rfl) (pa_cons (pe_bltn (v := .ty "IndexError") (by rfl) T.n_IndexError (by decide +kernel) rfl) (pa_cons (pe_bltn (v := .ty "KeyError") (by rfl) T.n_KeyError (by decide +kernel) rfl) pa_nil))))) pa_nil)))))))) (pe_kf (pv 4)) pe_non)), ?_⟩
    refine st_set [some (.int i), some (.ref a), some (.ref b), some (.int u), some .non, none, none] ?_ rfl
    refine ⟨_, rfl, _, _, rfl, rfl, _, rfl, ?_⟩
    by_cases c : i < 2
    · refine iteY (decide_eq_true c) ?_
      refine ⟨(by show 2 ≤ sizeLine; decide), fun l nl => ?_⟩
      have s1 : Same H (upd H l (.lst [V.ref T.f_p_path, V.ref T.f_p_couples_on])) := same_new nl
      rcases (show i = 0 ∨ i = 1 by omega) with z | z
      · subst z
        refine ⟨_, rfl, l, _, _, V.ref T.f_p_path, rfl, rfl, .inl (.inl upd_same), rfl, T.f_p_path, spP3 K T.C_NoPerson, (.head _), rfl, _, rfl, _, rfl, _, rfl, a, b, u, rfl, f, g, n, ha.same s1, hf, hb.same s1, hg, hu, kept1 (hits_of [true, false, false] rfl (.cons T.ee_NoPerson (.cons T.ex_NoPerson_NoNumber (.cons T.ex_NoPerson_NotResult .nil)))) fun d H2 z s2 nd ed nx ne => ⟨_, rfl, ?_⟩⟩
        have hK : Kept (upd H2 z (exk z (.ref T.C_NoPerson) (some d))) z T.C_NoPerson (some d) := .mk1 ed nx
        have s3 : Same H (upd H2 z (exk z (.ref T.C_NoPerson) (some d))) := (s1.trans s2).trans (same_new nx)
        replace ed := same_new (o := exk z (.ref T.C_NoPerson) (some d)) nx _ _ ed
        refine st_set [some (.int 0), some (.ref a), some (.ref b), some (.int u), some (.ref z), some (.ref z), none] ?_ rfl
        refine st_kept [some (.int 0), some (.ref a), some (.ref b), some (.int u), some (.ref z), none, none] ?_ rfl
        refine ⟨_, rfl, z, _, _, _, _, _, rfl, hK, T.kpt_NoPerson, .own _, T.kk_NoPerson, _, rfl, iteY rfl ?_⟩
        refine ⟨_, rfl, z, _, _, _, _, _, rfl, hK, T.kpt_NoPerson, .ty _, T.kb_NoPerson_LookupError, ?_⟩
        refine st_set [some (.int 0), some (.ref a), some (.ref b), some (.int u), some (.ref z), none, some (.bl true)] ?_ rfl
        refine ⟨_, rfl, _, rfl, iteY rfl ?_⟩
        refine ⟨_, rfl, (by show 4 ≤ sizeLine; decide), fun l2 nl2 => ⟨z, _, _, l2, _, _, _, rfl, hK.same (same_new nl2), T.kpt_NoPerson, upd_same, (.cons (.own _) (.cons (.own _) (.cons (.ty _) (.cons (.ty _) .nil)))), (kit_cons T.ki_NoPerson_NoNumber (kit_cons T.ki_NoPerson_NotResult (kit_cons T.kb_NoPerson_IndexError (kit_cons T.kb_NoPerson_KeyError kit_nil)))), _, rfl, iteY rfl ?_⟩⟩
        exact ⟨_, rfl, z, _, _, _, _, rfl, (hK.same (same_new nl2)).1, T.kpt_NoPerson, T.no_NoPerson, same_new nl2 _ _ ed, rfl, q _ (s3.trans (same_new nl2))⟩
      · subst z
        refine ⟨_, rfl, l, _, _, V.ref T.f_p_couples_on, rfl, rfl, .inl (.inl upd_same), rfl, T.f_p_couples_on, spP3 K T.C_NoPerson, (.tail _ (.head _)), rfl, _, rfl, _, rfl, _, rfl, a, b, u, rfl, f, g, n, ha.same s1, hf, hb.same s1, hg, hu, kept1 (hits_of [true, false, false] rfl (.cons T.ee_NoPerson (.cons T.ex_NoPerson_NoNumber (.cons T.ex_NoPerson_NotResult .nil)))) fun d H2 z s2 nd ed nx ne => ⟨_, rfl, ?_⟩⟩
        have hK : Kept (upd H2 z (exk z (.ref T.C_NoPerson) (some d))) z T.C_NoPerson (some d) := .mk1 ed nx
        have s3 : Same H (upd H2 z (exk z (.ref T.C_NoPerson) (some d))) := (s1.trans s2).trans (same_new nx)
        replace ed := same_new (o := exk z (.ref T.C_NoPerson) (some d)) nx _ _ ed
        refine st_set [some (.int 1), some (.ref a), some (.ref b), some (.int u), some (.ref z), some (.ref z), none] ?_ rfl
        refine st_kept [some (.int 1), some (.ref a), some (.ref b), some (.int u), some (.ref z), none, none] ?_ rfl
        refine ⟨_, rfl, z, _, _, _, _, _, rfl, hK, T.kpt_NoPerson, .own _, T.kk_NoPerson, _, rfl, iteY rfl ?_⟩
        refine ⟨_, rfl, z, _, _, _, _, _, rfl, hK, T.kpt_NoPerson, .ty _, T.kb_NoPerson_LookupError, ?_⟩
        refine st_set [some (.int 1), some (.ref a), some (.ref b), some (.int u), some (.ref z), none, some (.bl true)] ?_ rfl
        refine ⟨_, rfl, _, rfl, iteY rfl ?_⟩
        refine ⟨_, rfl, (by show 4 ≤ sizeLine; decide), fun l2 nl2 => ⟨z, _, _, l2, _, _, _, rfl, hK.same (same_new nl2), T.kpt_NoPerson, upd_same, (.cons (.own _) (.cons (.own _) (.cons (.ty _) (.cons (.ty _) .nil)))), (kit_cons T.ki_NoPerson_NoNumber (kit_cons T.ki_NoPerson_NotResult (kit_cons T.kb_NoPerson_IndexError (kit_cons T.kb_NoPerson_KeyError kit_nil)))), _, rfl, iteY rfl ?_⟩⟩
        exact ⟨_, rfl, z, _, _, _, _, rfl, (hK.same (same_new nl2)).1, T.kpt_NoPerson, T.no_NoPerson, same_new nl2 _ _ ed, rfl, q _ (s3.trans (same_new nl2))⟩
    refine iteX (decide_eq_false c) ⟨_, rfl, _, rfl, _, rfl, (by show 0 ≤ sizeLine; decide), fun l nl => ?_⟩
    have s1 : Same H (upd H l (.lst [])) := same_new nl
    refine ⟨a, b, u, _, rfl, f, g, n, ha.same s1, hf, hb.same s1, hg, hu, kept1 (hits_of [true, false, false] rfl (.cons T.ee_NoPerson (.cons T.ex_NoPerson_NoNumber (.cons T.ex_NoPerson_NotResult .nil)))) fun d H2 z s2 nd ed nx ne => ⟨_, rfl, ?_⟩⟩
    have hK : Kept (upd H2 z (exk z (.ref T.C_NoPerson) (some d))) z T.C_NoPerson (some d) := .mk1 ed nx
    have s3 : Same H (upd H2 z (exk z (.ref T.C_NoPerson) (some d))) := (s1.trans s2).trans (same_new nx)
    replace ed := same_new (o := exk z (.ref T.C_NoPerson) (some d)) nx _ _ ed
    refine st_set [some (.int i), some (.ref a), some (.ref b), some (.int u), some (.ref z), some (.ref z), none] ?_ rfl
    refine st_kept [some (.int i), some (.ref a), some (.ref b), some (.int u), some (.ref z), none, none] ?_ rfl
    refine ⟨_, rfl, z, _, _, _, _, _, rfl, hK, T.kpt_NoPerson, .own _, T.kk_NoPerson, _, rfl, iteY rfl ?_⟩
    refine ⟨_, rfl, z, _, _, _, _, _, rfl, hK, T.kpt_NoPerson, .ty _, T.kb_NoPerson_LookupError, ?_⟩
    refine st_set [some (.int i), some (.ref a), some (.ref b), some (.int u), some (.ref z), none, some (.bl true)] ?_ rfl
    refine ⟨_, rfl, _, rfl, iteY rfl ?_⟩
    refine ⟨_, rfl, (by show 4 ≤ sizeLine; decide), fun l2 nl2 => ⟨z, _, _, l2, _, _, _, rfl, hK.same (same_new nl2), T.kpt_NoPerson, upd_same, (.cons (.own _) (.cons (.own _) (.cons (.ty _) (.cons (.ty _) .nil)))), (kit_cons T.ki_NoPerson_NoNumber (kit_cons T.ki_NoPerson_NotResult (kit_cons T.kb_NoPerson_IndexError (kit_cons T.kb_NoPerson_KeyError kit_nil)))), _, rfl, iteY rfl ?_⟩⟩
    exact ⟨_, rfl, z, _, _, _, _, rfl, (hK.same (same_new nl2)).1, T.kpt_NoPerson, T.no_NoPerson, same_new nl2 _ _ ed, rfl, q _ (s3.trans (same_new nl2))⟩
end
end Pc
namespace Pc
open PySem PySem.Spec PyProof.Rows L2 RZ
/-! ### pairs, sorted, whatever they are (pk and perm_refs are also in lib43: never both) -/
def pk (H : Hp) : V → Int × Int := fun v => match v with
  | .ref t => match H t with
    | some (.tup [.int i, .int j]) => (i, j)
    | _ => (0, 0)
  | _ => (0, 0)
theorem pk_of {H : Hp} {t : Addr} {i j : Int} (h : H t = some (.tup [.int i, .int j])) : pk H (.ref t) = (i, j) := by
  unfold pk
  simp only [h]
theorem perm_refs {ys : List V} {as : List Addr} (h : ys.Perm (as.map V.ref)) : ∃ bs : List Addr, ys = bs.map V.ref ∧ bs.Perm as := by
  obtain ⟨bs, e1, e2⟩ := perm_map_inv V.ref h.symm as rfl
  exact ⟨bs, e1, e2⟩
def leP (p q : Nat × Nat) : Bool := decide (p.1 < q.1) || (decide (p.1 = q.1) && decide (p.2 ≤ q.2))
def srt (qs : List (Nat × Nat)) : List (Nat × Nat) := qs.mergeSort leP
theorem srt_perm (qs : List (Nat × Nat)) : (srt qs).Perm qs := List.mergeSort_perm qs leP
theorem leP_iff {p q : Nat × Nat} : leP p q = true ↔ ¬ (q.1 < p.1 ∨ (q.1 = p.1 ∧ q.2 < p.2)) := by
  unfold leP
  rw [Bool.or_eq_true, Bool.and_eq_true, decide_eq_true_iff, decide_eq_true_iff, decide_eq_true_iff]
  omega
theorem srt_asc (qs : List (Nat × Nat)) : (srt qs).Pairwise (fun p q => ¬ (q.1 < p.1 ∨ (q.1 = p.1 ∧ q.2 < p.2))) := by
  refine List.Pairwise.imp (R := fun p q => leP p q = true) (fun {a b} h => leP_iff.mp h) (List.pairwise_mergeSort (fun a b c h1 h2 => ?_) (fun a b => ?_) qs)
  · rw [leP_iff] at h1 h2 ⊢; omega
  · rw [Bool.or_eq_true, leP_iff, leP_iff]; omega
theorem asc_srt {rs ts : List (Nat × Nat)} (hp : rs.Perm ts) (h1 : rs.Pairwise (fun p q => ¬ (q.1 < p.1 ∨ (q.1 = p.1 ∧ q.2 < p.2)))) (h3 : ts.Pairwise (fun p q => ¬ (q.1 < p.1 ∨ (q.1 = p.1 ∧ q.2 < p.2)))) : rs = ts := by
  refine List.Perm.eq_of_pairwise (le := fun p q : Nat × Nat => ¬ (q.1 < p.1 ∨ (q.1 = p.1 ∧ q.2 < p.2))) (fun a b _ _ hab hba => ?_) h1 h3 hp
  obtain ⟨a1, a2⟩ := a
  obtain ⟨b1, b2⟩ := b
  simp only at hab hba
  have : a1 = b1 := by omega
  have : a2 = b2 := by omega
  subst a1 a2; rfl
theorem sort_prsL {K : PySem.W.Frag} {H : Hp} {a : Addr} {as : List Addr} {qs : List (Nat × Nat)} {Q : VK} (hS : SqL K H a (as.map V.ref)) (hA : Prs H as qs)
    (h : ∀ (p : Addr) (bs : List Addr), H p = none → Prs H bs (srt qs) → Q (.ref p) (upd H p (.lst (bs.map V.ref)))) : rSortedPO K [.ref a] H Q := by
  refine ⟨a, _, pk H, rfl, hS, fun x hx => ?_, fun ys p sr st np => ?_⟩
  · obtain ⟨t, ht, rfl⟩ := List.mem_map.mp hx
    obtain ⟨i, hi⟩ := List.getElem?_of_mem ht
    obtain ⟨r, hr, e⟩ := prs_get hA hi
    exact ⟨t, rfl, by rw [pk_of e]; exact e⟩
  · obtain ⟨bs, rfl, hb⟩ := perm_refs st.perm
    obtain ⟨rs, hrs, hB⟩ := paired_perm hb.symm qs hA
    have hB' : Prs H bs rs := hB
    have h1 : rs.Pairwise (fun p q => ¬ (q.1 < p.1 ∨ (q.1 = p.1 ∧ q.2 < p.2))) := by
      rw [List.pairwise_iff_getElem]
      intro i j hi hj hij
      have hl := hB'.length
      have sr' : (bs.map V.ref).Pairwise (fun x y => ltP (pk H) y x = false) := sr
      rw [List.pairwise_iff_getElem] at sr'
      have h5 := sr' i j (by rw [List.length_map]; omega) (by rw [List.length_map]; omega) hij
      rw [List.getElem_map, List.getElem_map] at h5
      obtain ⟨p1, e1, g1⟩ := prs_get hB' (List.getElem?_eq_getElem (show i < bs.length by omega))
      obtain ⟨p2, e2, g2⟩ := prs_get hB' (List.getElem?_eq_getElem (show j < bs.length by omega))
      have h6 : SrtO.lexB (pk H (.ref bs[j])) (pk H (.ref bs[i])) = false := h5
      rw [pk_of g1, pk_of g2] at h6
      have h7 := SrtO.lexB_no.mp h6
      rw [List.getElem?_eq_getElem hi] at e1
      rw [List.getElem?_eq_getElem hj] at e2
      rw [Option.some.inj e1, Option.some.inj e2]
      simp only at h7
      omega
    have e : rs = srt qs := asc_srt (hrs.trans (srt_perm qs).symm) h1 (srt_asc qs)
    rw [e] at hB'
    exact h p bs np hB'
theorem srt_len (qs : List (Nat × Nat)) : (srt qs).length = qs.length := (srt_perm qs).length_eq
end Pc
namespace Pc
open PySem PySem.Spec PyProof.Rows L2 RZ
/-! ### the couples on a path -/
def stp (E : List Nat) : List (Nat × Nat) := (List.range ((E.length - 1) / 2)).map fun i => (E.getD (2 * i + 1) 0, E.getD (2 * i + 2) 0)
def mms (qs : List (Nat × Nat)) : List (Nat × Nat) := qs.map fun p => (min p.1 p.2, max p.1 p.2)
theorem stp_len (E : List Nat) : (stp E).length = (E.length - 1) / 2 := by unfold stp; rw [List.length_map, List.length_range]
theorem mms_len (qs : List (Nat × Nat)) : (mms qs).length = qs.length := by unfold mms; rw [List.length_map]
theorem int_min (i j : Nat) : (if (j : Int) < (i : Int) then (j : Int) else (i : Int)) = ((min i j : Nat) : Int) := by split <;> omega
theorem int_max (i j : Nat) : (if (j : Int) > (i : Int) then (j : Int) else (i : Int)) = ((max i j : Nat) : Int) := by split <;> omega
open PySem PySem.Spec PyProof.Rows L2 RZ in
theorem rgc_path {m : Nat} (h : m ≤ 100000) : RgC 1 ((m : Int) - 1) 2 ((m - 1) / 2) := by
  have e : Builtin.Range.rangeSize 1 ((m : Int) - 1) 2 = (((m - 1) / 2 : Nat) : Int) := by
    unfold Builtin.Range.rangeSize
    rw [if_pos (by decide)]
    split <;> omega
  refine ⟨by decide, by decide, ?_, e⟩
  unfold Builtin.Range.small
  rw [e, fits_long (i := 1) (by decide) (by decide), fits_long (i := (m : Int) - 1) (by omega) (by omega), fits_long (i := 2) (by decide) (by decide), fits_long (i := (((m - 1) / 2 : Nat) : Int)) (by omega) (by omega), if_pos (by decide), fits_long (i := (m : Int) - 1 + (2 - 1)) (by omega) (by omega), Bool.or_true]
  rfl
section
variable {P : Program} {w : World} {K : PySem.W.Frag} {mg : Str → Option Value} {base : Heap}
def spCouplesOn (K : PySem.W.Frag) : Sp := fun vs H Q _ => ∃ (a p : Addr) (fs ps : List Nat) (n x : Nat), vs = [.ref a, .ref p, .int x] ∧ Sq K H a (nv fs) ∧ Sq K H p (nv ps) ∧ IsPair (2 * n) fs ∧ IsPair n ps ∧ x < n ∧ n ≤ 500 ∧ (trl fs ps n (n + x)).length ≤ 1000 ∧
  ∀ (H' : Hp) (t : Addr) (bs : List Addr), Same H H' → H t = none → H' t = some (.lst (bs.map V.ref)) → Prs H' bs (srt (mms (stp (trl fs ps n (n + x))))) → Q (.ref t) H'
theorem ok_p_couples_on (T : Env K mg) : FnOk P w K mg base CX0 4 T.f_p_couples_on T.d_p_couples_on ["sheet", "pairing", "person"] (spCouplesOn K) := by
  have GP : FnOk P w K mg base CX0 3 T.f_p_path T.d_p_path ["sheet", "pairing", "person"] (spFPath K) := ok_p_path T
  refine T.F_p_couples_on.ok sc_p_couples_on (fun vs H Q E h => ?_) (fun cdv A outer s H vs Q E hr h => ?_)
  · obtain ⟨a, p, fs, ps, n, x, rfl, _⟩ := h
    rfl
  · obtain ⟨a, p, fs, ps, n, x, rfl, ha, hp, hF, hP, hx, hn, hL, q⟩ := h
    obtain ⟨L, hLd⟩ : ∃ L, L = trl fs ps n (n + x) := ⟨_, rfl⟩
    rw [← hLd] at hL q
    refine ⟨_, pss_cons (ps_set (i := 3) sc_p_couples_on.nd rfl (by first | exact .inl rfl | exact .inr rfl) (pe_call GP hr (by rfl) T.g_p_path T.F_p_path.kp T.b_p_path .nil pass0 (pa_cons (pv 0) (pa_cons (pv 1) (pa_cons (pv 2) pa_nil))))) <|
      pss_cons (ps_setLc (i := 4) (own := [("at", 5)]) (g := gName 5) (tt := tYes) (te := tTup (tCons (tOp (rIxL K) (tVar 3) (tVar 5)) (tCons (tOp (rIxL K) (tVar 3) (tOp (rI0 fun i j => .int (i + j)) (tVar 5) (tC (.int 1)))) tNil))) rfl sc_p_couples_on.nd rfl rfl (sw_true rfl rfl rfl (by decide +kernel))
        (pi_range3 (by rfl) T.n_range (pa_cons pe_int (pa_cons (pe_op op_sub (pe_callB call_len_seq (by rfl) T.n_len PySem.boot_len (pa_cons (pv 3) pa_nil)) pe_int) (pa_cons pe_int pa_nil)))) (blkOk_by (N := N_p_couples_on) (sc := defScope s_p_couples_on) (by decide +kernel)) (fun _ _ _ _ _ => pg_name (i := 5) sc_p_couples_on.nd rfl (.inl rfl)) (fun _ _ _ _ _ => pts_nil)
        (fun _ _ _ _ _ => pe_tup (pa_cons (pe_ix ix_list (pv 3) (pv 5) (fun _ _ => rfl)) (pa_cons (pe_ix ix_list (pv 3) (pe_op op_add (pv 5) pe_int) (fun _ _ => rfl)) pa_nil)))) <|
      pss_one (ps_ret (pe_callB cr_sortedPO (by rfl) T.n_sorted (by decide +kernel) (pa_cons (pe_lc (own := [("x", 6), ("y", 7)]) (g := gTup K 2 (gCons (gName 6) (gCons (gName 7) gNil))) (tt := tYes) (by rfl) sc_p_couples_on.nd (pi_list (pv 4)) (blkOk_by (N := N_p_couples_on) (sc := defScope s_p_couples_on) (by decide +kernel)) (fun _ _ _ _ _ => pg_tup (by rfl) (pgs_cons (pg_name (i := 6) sc_p_couples_on.nd rfl (.inl rfl)) (pgs_cons (pg_name (i := 7) sc_p_couples_on.nd rfl (.inl rfl)) pgs_nil))) (fun _ _ _ _ _ => pts_nil)
        (fun _ _ _ _ _ => pe_tup (pa_cons (pe_callB (call_min2 rfl) (by rfl) T.n_min (by decide +kernel) (pa_cons (pv 6) (pa_cons (pv 7) pa_nil))) (pa_cons (pe_callB (call_max2 rfl) (by rfl) T.n_max (by decide +kernel) (pa_cons (pv 6) (pa_cons (pv 7) pa_nil))) pa_nil)))) pa_nil))), ?_⟩
    refine ⟨.ref a, rfl, .ref p, rfl, _, rfl, a, p, fs, ps, n, x, rfl, ha, hp, hF, hP, hx, hn, fun H1 l s1 nl el => ?_⟩
    rw [← hLd] at el
    refine st_set [some (.ref a), some (.ref p), some (.int x), some (.ref l), none, none, none, none] ?_ rfl
    refine ⟨_, rfl, l, _, rfl, .inl (.inl (.inl el)), _, 1, rfl, rfl, 1, _, 2, (L.length - 1) / 2, rfl, ?_, fun D nD => ?_⟩
    · show RgC 1 (((nv L).length : Int) - 1) 2 _
      rw [nv_length]; exact rgc_path (by omega)
    refine lc_it (walk_rangeC (n := (L.length - 1) / 2)) (fun i H' => Same H1 H' ∧ ∃ as : List Addr, H' D = some (.lst (as.map V.ref)) ∧ Prs H' as ((stp L).take i)) ⟨same_new nD, [], upd_same, .nil⟩ (fun _ _ _ _ => trivial) (fun i x' H2 H3 hi hPv yy => ?_) (fun H' hPv => ?_)
    · obtain ⟨sm, as, eD, hA⟩ := hPv
      obtain ⟨rfl, rfl⟩ := yy
      have g1 : L[2 * i + 1]? = some (L.getD (2 * i + 1) 0) := by rw [List.getD_eq_getElem?_getD, List.getElem?_eq_getElem (by omega)]; rfl
      have g2 : L[2 * i + 2]? = some (L.getD (2 * i + 2) 0) := by rw [List.getD_eq_getElem?_getD, List.getElem?_eq_getElem (by omega)]; rfl
      have ea : atI (nv L) ((1 : Int) + (i : Nat) * 2) = some (.int ((L.getD (2 * i + 1) 0 : Nat) : Int)) := by
        rw [show (1 : Int) + (i : Nat) * 2 = ((2 * i + 1 : Nat) : Int) by omega]; exact nv_at g1
      have eb : atI (nv L) ((1 : Int) + (i : Nat) * 2 + 1) = some (.int ((L.getD (2 * i + 2) 0 : Nat) : Int)) := by
        rw [show (1 : Int) + (i : Nat) * 2 + 1 = ((2 * i + 2 : Nat) : Int) by omega]; exact nv_at g2
      have hl : SqL K H3 l (nv L) := .inl (.inl (sm _ _ el))
      refine ⟨rfl, yes_if ⟨_, rfl, _, rfl, l, _, _, _, rfl, rfl, hl, ea, _, rfl, _, rfl, _, 1, rfl, rfl, l, _, _, _, rfl, rfl, hl, eb, by show 2 ≤ sizeLine; decide, fun u nu => ⟨_, same_new nu _ _ eD, ?_, fun z o hz => ?_, as ++ [u], ?_, ?_⟩⟩⟩
      · rw [List.length_map, hA.length, List.length_take]; exact small1000 (by omega)
      · rw [upd_ne (ne_of_none hz nD)]; exact same_new nu _ _ (sm _ _ hz)
      · rw [upd_same, List.map_append]; rfl
      · have uD : u ≠ D := fun z => by rw [z, eD] at nu; cases nu
        have ej : (stp L)[i]? = some (L.getD (2 * i + 1) 0, L.getD (2 * i + 2) 0) := by unfold stp; rw [List.getElem?_map, List.getElem?_range hi]; rfl
        rw [List.take_add_one, ej]
        refine prs_append (prs_keep (b := D) keep_upd (same_new nu _ _ eD) (prs_same (same_new nu) hA)) (.cons ?_ .nil)
        rw [upd_ne uD, upd_same]
    obtain ⟨s2, as, eD, hA⟩ := hPv
    rw [← stp_len, List.take_length] at hA
    refine st_set [some (.ref a), some (.ref p), some (.int x), some (.ref l), some (.ref D), none, none, none] ?_ rfl
    refine ⟨_, rfl, D, rfl, ⟨_, .inl (.inl eD)⟩, fun G nG => ?_⟩
    refine lc_list (xs := as.map V.ref) (fun i H2 => Same H' H2 ∧ ∃ cs : List Addr, H2 G = some (.lst (cs.map V.ref)) ∧ Prs H2 cs ((mms (stp L)).take i)) ⟨same_new nG, [], upd_same, .nil⟩ (fun i H2 _ h => .inl (.inl (h.1 _ _ eD))) (fun i v H2 hv h => ?_) (fun H2 h => ?_)
    · obtain ⟨sm, cs, eG, hC⟩ := h
      rw [List.getElem?_map] at hv
      obtain ⟨u, hu', rfl⟩ := Option.map_eq_some_iff.mp hv
      obtain ⟨r, er, hu⟩ := prs_get hA hu'
      refine ⟨u, _, rfl, .inl (.inl (sm _ _ hu)), rfl, _, _, rfl, _, _, rfl, rfl, rfl, yes_if ⟨_, rfl, _, rfl, _, _, rfl, _, rfl, _, rfl, _, _, rfl, by show 2 ≤ sizeLine; decide, fun z nz => ⟨_, same_new nz _ _ eG, ?_, fun y o hy => ?_, cs ++ [z], ?_, ?_⟩⟩⟩
      · rw [List.length_map, hC.length, List.length_take]; have := get_lt er; rw [stp_len] at this; exact small1000 (by omega)
      · rw [upd_ne (ne_of_none hy nG)]; exact same_new nz _ _ (sm _ _ hy)
      · rw [upd_same, List.map_append]; rfl
      · have zG : z ≠ G := fun e => by rw [e, eG] at nz; cases nz
        have ej : (mms (stp L))[i]? = some (min r.1 r.2, max r.1 r.2) := by unfold mms; rw [List.getElem?_map, er]; rfl
        rw [List.take_add_one, ej]
        refine prs_append (prs_keep (b := G) keep_upd (same_new nz _ _ eG) (prs_same (same_new nz) hC)) (.cons ?_ .nil)
        rw [upd_ne zG, upd_same, int_min, int_max]
    obtain ⟨s3, cs, eG, hC⟩ := h
    rw [List.length_map, hA.length, ← mms_len (stp L), List.take_length] at hC
    exact sort_prsL (.inl (.inl eG)) hC fun t bs nt hB => q _ t bs (((s1.trans s2).trans s3).trans (same_new nt)) (((s1.trans s2).trans s3).free nt) upd_same (prs_same (same_new nt) hB)
end
end Pc
namespace Pc
open PySem PySem.Spec PyProof.Rows L2 RZ
/-! ### for k13 (pm210 also in lib46, keep_free' in snip_any_web, q_dec in lib47: never both) -/
def pm210 {α : Type} : List α → List α
  | [a, b, c] => [c, b, a]
  | l => l
theorem rel_pm210 {zs : List V} {ws : List Value} (_ : zs.length = 3) (r : Vals zs ws) : Vals (pm210 zs) (pm210 ws) := by
  match zs, ws, r with
  | [], _, .nil => exact .nil
  | [_], _, .cons h .nil => exact .cons h .nil
  | [_, _], _, .cons h1 (.cons h2 .nil) => exact .cons h1 (.cons h2 .nil)
  | [_, _, _], _, .cons h1 (.cons h2 (.cons h3 .nil)) => exact .cons h3 (.cons h2 (.cons h1 .nil))
  | _ :: _ :: _ :: _ :: _, _, .cons h1 (.cons h2 (.cons h3 (.cons h4 r))) => exact .cons h1 (.cons h2 (.cons h3 (.cons h4 r)))
theorem keep_free' {b p : Addr} {k : Nat} {H H' : Hp} (hk : Keep b H H') (hB : Box k H' b) (h : H' p = none) : H p = none := by
  cases e : H p with
  | none => rfl
  | some o => rw [hk p o (hB.ne_new h).symm e] at h; cases h
theorem q_dec {Q : VK} {x y : V} {H : Hp} (e : x = y) (h : Q (.bl true) H) : Q (.bl (decide (x = y))) H := by rw [decide_eq_true e]; exact h
theorem nv_ne_ref : ∀ (l : List Nat) (a : Addr) (r : List V), nv l ≠ V.ref a :: r
  | [], _, _ => fun h => by cases h
  | _ :: _, _, _ => fun h => by injection h with h1 h2; cases h1
theorem zipB_self : ∀ l : List Nat, (zipB (nd l) l).all id = true
  | [] => rfl
  | x :: l => by
    show (decide ((x : Int) = (x : Int)) && (zipB (nd l) l).all id) = true
    rw [zipB_self l, decide_eq_true rfl]; rfl
theorem sameL_self (l : List Nat) : sameL l (.list (nd l)) = true := by
  show (decide ((nd l).length = l.length) && (zipB (nd l) l).all id) = true
  rw [zipB_self, nd_length, decide_eq_true rfl]; rfl
theorem fps13 {L : List Nat} {m : Nat} (h : L.length ≤ m) (hm : m ≤ 1000) {k : Nat} (hk : k < 2 ^ 60) (hk0 : 0 < k) (hl : ∀ z ∈ L, z < k) : (srt (mms (stp L))).length ≤ 1000 ∧ ∀ p ∈ srt (mms (stp L)), p.1 < 2 ^ 60 ∧ p.2 < 2 ^ 60 := by
  refine ⟨by rw [srt_len, mms_len, stp_len]; omega, fun p hp => ?_⟩
  have h1 := (srt_perm _).mem_iff.mp hp
  unfold mms at h1
  obtain ⟨r, hr, rfl⟩ := List.mem_map.mp h1
  unfold stp at hr
  obtain ⟨i, _, rfl⟩ := List.mem_map.mp hr
  have g : ∀ j, L.getD j 0 < k := fun j => by
    rw [List.getD_eq_getElem?_getD]
    cases e : L[j]? with
    | none => exact hk0
    | some x => exact hl x (List.mem_of_getElem? e)
  have g1 := g (2 * i + 1)
  have g2 := g (2 * i + 2)
  show min _ _ < 2 ^ 60 ∧ max _ _ < 2 ^ 60
  omega
end Pc
namespace Pc
open PySem PySem.Spec PyProof.Rows L2 RZ
section
variable {P : Program} {w : World} {K : PySem.W.Frag} {mg : Str → Option Value} {base : Heap}
def spRight : Sp := fun vs H Q _ => ∃ (b : Addr) (n : Nat), vs = [.ref b] ∧ Box (n + 1000) H b ∧ ∀ H', Keep b H H' → Box n H' b → Q (.bl true) H'
theorem kw_p_path_210 (T : Env K mg) : ∀ (s : Shared) (ws : List Value), ws.length = (["person", "pairing", "sheet"] : List Str).length → BindsTo s T.d_p_path ⟨[], (["person", "pairing", "sheet"] : List Str).zip ws⟩ ((["sheet", "pairing", "person"] : List Str).zip (pm210 ws)) :=
  kw_to T.F_p_path fun _ _ _ _ _ _ ws hl => match ws, hl with | [_, _, _], _ => rfl
theorem kw_p_couples_on_210 (T : Env K mg) : ∀ (s : Shared) (ws : List Value), ws.length = (["person", "pairing", "sheet"] : List Str).length → BindsTo s T.d_p_couples_on ⟨[], (["person", "pairing", "sheet"] : List Str).zip ws⟩ ((["sheet", "pairing", "person"] : List Str).zip (pm210 ws)) :=
  kw_to T.F_p_couples_on fun _ _ _ _ _ _ ws hl => match ws, hl with | [_, _, _], _ => rfl
theorem ok_right (T : Env K mg) : FnG P w K mg base CX0 8 T.f_right T.d_right ["_law_box_here"] spRight := by
  have GT : FnOk P w K mg base CX0 1 T.f_take T.d_take ["_law_box_here", "_law_span"] spTake := ok_take T
  have GE : FnOk P w K mg base CX0 5 T.f_same T.d_same ["_law_found", "_law_due"] (spSame K 4) := (ok_same T 4).mono (by decide)
  have GS : FnOk P w K mg base CX0 2 T.f_strewn T.d_strewn ["_law_box_here", "_law_some"] (spStrewn K) := ok_strewn T
  have GP : FnOk P w K mg base CX0 4 T.f_any_page T.d_any_page ["_law_box_here", "_law_count"] spAnyPage := ok_any_page T
  have GR : FnOk P w K mg base CX0 3 T.f_random T.d_random ["_law_box_here", "_law_count"] spRandom := ok_random T
  have GN : FnOk P w K mg base CX0 1 T.f_ends_from T.d_ends_from ["_law_page", "_law_crowd", "_law_who"] (spEnds K) := ok_ends_from T
  have Gp : FnOk P w K mg base CX0 3 T.f_p_path T.d_p_path ["sheet", "pairing", "person"] (spFPath K) := ok_p_path T
  have Gc : FnOk P w K mg base CX0 4 T.f_p_couples_on T.d_p_couples_on ["sheet", "pairing", "person"] (spCouplesOn K) := ok_p_couples_on T
  have Gw : FnOk P w K mg base CX0 4 T.f_p_shows_path T.d_p_shows_path ["sheet", "pairing", "person", "value"] (spShows K) := ok_p_shows T
  have GM : FnOk P w K mg base CX0 6 T.f_refused T.d_refused ["_law_sort", "_law_page", "_law_crowd", "_law_far"] (spRefused13 K) := ok_refused T
  refine fun_g T.F_right sc_right (fun vs H Q E h => ?_) (fun cdv A outer s H vs Q E hr hgd h => ?_)
  · obtain ⟨b, n, rfl, _⟩ := h
    rfl
  · obtain ⟨b, n, rfl, hB, q⟩ := h
    have h1 := hr.mono (show 1 ≤ 7 by decide)
    have h2 := hr.mono (show 2 ≤ 7 by decide)
    have h3 := hr.mono (show 3 ≤ 7 by decide)
    have h4 := hr.mono (show 4 ≤ 7 by decide)
    have h5 := hr.mono (show 5 ≤ 7 by decide)
    have h6 := hr.mono (show 6 ≤ 7 by decide)
    have kH : Keep b H H := Keep.refl _ _
    refine ⟨_, pss_cons (ps_set (i := 1) sc_right.nd rfl (.inl rfl) (pe_op op_add pe_int (pe_op op_mul pe_int (pe_call GT h1 (by rfl) T.g_take T.F_take.kp T.b_take .nil pass0 (pa_cons (pv 0) (pa_cons pe_int pa_nil)))))) <|
      pss_cons (ps_asg (pe_tup (pa_cons (pe_call GP h4 (by rfl) T.g_any_page T.F_any_page.kp T.b_any_page .nil pass0 (pa_cons (pv 0) (pa_cons (pv 1) pa_nil))) (pa_cons (pe_call GR h3 (by rfl) T.g_random T.F_random.kp T.b_random .nil pass0 (pa_cons (pv 0) (pa_cons (pv 1) pa_nil))) pa_nil))) (pg_tup rfl (pgs_cons (pg_name (i := 2) sc_right.nd rfl (.inr rfl)) (pgs_cons (pg_name (i := 3) sc_right.nd rfl (.inr rfl)) pgs_nil)))) <|
      pss_cons (ps_set (i := 4) sc_right.nd rfl (.inl rfl) (pe_callB (call_reprD hgd hr.units) (by rfl) T.n_repr (by decide +kernel) (pa_cons (pe_lst (pa_cons (pv 2) (pa_cons (pv 3) pa_nil))) pa_nil))) <|
      pss_cons (ps_for PassesOwn.never rfl (pi_list (pe_slice sl_list (pe_call GS h2 (by rfl) T.g_strewn T.F_strewn.kp T.b_strewn .nil pass0 (pa_cons (pv 0) (pa_cons (pe_listRg rfl (by rfl) T.n_list (prg_1 (by rfl) T.n_range (pv 1))) pa_nil))) po_none (po_some pe_int))) (pg_name (i := 5) sc_right.nd rfl (.inl rfl)) (pss_cons (ps_set (i := 6) sc_right.nd rfl (.inr rfl) (pe_call GN h1 (by rfl) T.g_ends_from T.F_ends_from.kp T.b_ends_from .nil pass0 (pa_cons (pv 2) (pa_cons (pv 3) (pa_cons (pv 5) pa_nil))))) <|
      pss_cons (ps_setLc (i := 7) (own := [("_law_k", 12)]) (g := gName 12) (tt := tYes) (te := tTup (tCons (tCB (fun xs H Q => ∃ i j, xs = [.int i, .int j] ∧ Q (.int (if j < i then j else i)) H) (tCons (tOp (rIxL K) (tVar 6) (tVar 12)) (tCons (tOp (rIxL K) (tVar 6) (tOp (rI0 fun i j => .int (i + j)) (tVar 12) (tC (.int 1)))) tNil))) (tCons (tCB (fun xs H Q => ∃ i j, xs = [.int i, .int j] ∧ Q (.int (if j > i then j else i)) H) (tCons (tOp (rIxL K) (tVar 6) (tVar 12)) (tCons (tOp (rIxL K) (tVar 6) (tOp (rI0 fun i j => .int (i + j)) (tVar 12) (tC (.int 1)))) tNil))) tNil))) rfl sc_right.nd rfl rfl (sw_true rfl rfl rfl (by decide +kernel)) (pi_range3 (by rfl) T.n_range (pa_cons pe_int (pa_cons (pe_op op_sub (pe_callB call_len_seq (by rfl) T.n_len PySem.boot_len (pa_cons (pv 6) pa_nil)) pe_int) (pa_cons pe_int pa_nil)))) (blkOk_by (N := N_right) (sc := defScope s_right) (by decide +kernel)) (fun _ _ _ _ _ => pg_name (i := 12) sc_right.nd rfl (.inl rfl)) (fun _ _ _ _ _ => pts_nil) (fun _ _ _ _ _ => pe_tup (pa_cons (pe_callB (call_min2 rfl) (by rfl) T.n_min (by decide +kernel) (pa_cons (pe_ix ix_list (pv 6) (pv 12) (fun _ _ => rfl)) (pa_cons (pe_ix ix_list (pv 6) (pe_op op_add (pv 12) pe_int) (fun _ _ => rfl)) pa_nil))) (pa_cons (pe_callB (call_max2 rfl) (by rfl) T.n_max (by decide +kernel) (pa_cons (pe_ix ix_list (pv 6) (pv 12) (fun _ _ => rfl)) (pa_cons (pe_ix ix_list (pv 6) (pe_op op_add (pv 12) pe_int) (fun _ _ => rfl)) pa_nil))) pa_nil)))) <|
      pss_cons (ps_set (i := 8) sc_right.nd rfl (.inl rfl) (pe_lst (pa_cons (pe_call Gp h3 (by rfl) T.g_p_path T.F_p_path.kp T.b_p_path .nil pass0 (pa_cons (pv 2) (pa_cons (pv 3) (pa_cons (pv 5) pa_nil)))) (pa_cons (pe_kw (gV := pm210) Gp h3 (by rfl) T.g_p_path T.F_p_path.kp (kw_p_path_210 T) (rel_pm210) pass0 (pk_cons (pv 5) (pk_cons (pe_callTy call_list_of (by rfl) T.n_list (by decide +kernel) (pa_cons (pv 3) pa_nil)) (pk_cons (pe_callTy call_list_of (by rfl) T.n_list (by decide +kernel) (pa_cons (pv 2) pa_nil)) pk_nil)))) pa_nil)))) <|
      pss_cons (ps_set (i := 9) sc_right.nd rfl (.inl rfl) (pe_lst (pa_cons (pe_call Gc h4 (by rfl) T.g_p_couples_on T.F_p_couples_on.kp T.b_p_couples_on .nil pass0 (pa_cons (pv 2) (pa_cons (pv 3) (pa_cons (pv 5) pa_nil)))) (pa_cons (pe_kw (gV := pm210) Gc h4 (by rfl) T.g_p_couples_on T.F_p_couples_on.kp (kw_p_couples_on_210 T) (rel_pm210) pass0 (pk_cons (pv 5) (pk_cons (pe_callTy call_list_of (by rfl) T.n_list (by decide +kernel) (pa_cons (pv 3) pa_nil)) (pk_cons (pe_callTy call_list_of (by rfl) T.n_list (by decide +kernel) (pa_cons (pv 2) pa_nil)) pk_nil)))) pa_nil)))) <|
      pss_cons (ps_if (PW.pt (pw_or (pt_not (pt_val (pe_call GE h5 (by rfl) T.g_same T.F_same.kp T.b_same .nil pass0 (pa_cons (pv 8) (pa_cons (pe_lst (pa_cons (pv 6) (pa_cons (pv 6) pa_nil))) pa_nil))))) (pw_or1 (pt_not (pt_val (pe_call GE h5 (by rfl) T.g_same T.F_same.kp T.b_same .nil pass0 (pa_cons (pv 9) (pa_cons (pe_op op_rep (pe_lst (pa_cons (pe_callB cr_sortedPO (by rfl) T.n_sorted (by decide +kernel) (pa_cons (pv 7) pa_nil)) pa_nil)) pe_int) pa_nil)))))))) (pss_one (ps_ret pe_bl)) pss_nil) <|
      pss_cons (ps_expr (pe_bm PySem.F.plainAttrs_list PySem.F.slot_list_append PySem.F.type_list_append mt_append (pe_ix ix_list (pv 8) pe_int (fun _ _ => rfl)) (pa_cons pe_str pa_nil))) <|
      pss_cons (ps_expr (pe_bm PySem.F.plainAttrs_list PySem.F.slot_list_append PySem.F.type_list_append mt_append (pe_ix ix_list (pv 9) pe_int (fun _ _ => rfl)) (pa_cons pe_str pa_nil))) <|
      pss_cons (ps_set (i := 10) sc_right.nd rfl (.inl rfl) (pe_lst (pa_cons (pe_call Gp h3 (by rfl) T.g_p_path T.F_p_path.kp T.b_p_path .nil pass0 (pa_cons (pv 2) (pa_cons (pv 3) (pa_cons (pv 5) pa_nil)))) (pa_cons (pe_call Gc h4 (by rfl) T.g_p_couples_on T.F_p_couples_on.kp T.b_p_couples_on .nil pass0 (pa_cons (pv 2) (pa_cons (pv 3) (pa_cons (pv 5) pa_nil)))) (pa_cons (pe_call Gw h4 (by rfl) T.g_p_shows_path T.F_p_shows_path.kp T.b_p_shows_path .nil pass0 (pa_cons (pv 2) (pa_cons (pv 3) (pa_cons (pv 5) (pa_cons (pv 6) pa_nil))))) pa_nil))))) <|
      pss_one (ps_if (pt_not (pt_val (pe_call GE h5 (by rfl) T.g_same T.F_same.kp T.b_same .nil pass0 (pa_cons (pv 10) (pa_cons (pe_lst (pa_cons (pv 6) (pa_cons (pe_callB cr_sortedPO (by rfl) T.n_sorted (by decide +kernel) (pa_cons (pv 7) pa_nil)) (pa_cons pe_bl pa_nil)))) pa_nil))))) (pss_one (ps_ret pe_bl)) pss_nil))) <|
      pss_cons (ps_for PassesOwn.never rfl (pi_tup (pe_tup (pa_cons (pe_un un_neg pe_int) (pa_cons (pv 1) (pa_cons (pe_op op_add (pv 1) (pe_call GT h1 (by rfl) T.g_take T.F_take.kp T.b_take .nil pass0 (pa_cons (pv 0) (pa_cons pe_int pa_nil)))) (pa_cons (pe_un un_neg (pe_op op_pow pe_int pe_int)) (pa_cons (pe_op op_pow pe_int pe_int) pa_nil))))))) (pg_name (i := 11) sc_right.nd rfl (.inr rfl)) (pss_one (ps_if (pt_not (pt_val (pe_call GE h5 (by rfl) T.g_same T.F_same.kp T.b_same .nil pass0 (pa_cons (pe_lc (own := [("_law_sort", 13)]) (g := gName 13) (tt := tYes) (te := tCall (spRefused13 K) [] (fun _ _ _ => False) (tCons (tVar 13) (tCons (tVar 2) (tCons (tVar 3) (tCons (tVar 11) tNil))))) (by rfl) sc_right.nd (pi_range1 (by rfl) T.n_range (pa_cons pe_int pa_nil)) (blkOk_by (N := N_right) (sc := defScope s_right) (by decide +kernel)) (fun _ _ _ _ _ => pg_name (i := 13) sc_right.nd rfl (.inl rfl)) (fun _ _ _ _ _ => pts_nil) (fun _ _ _ _ _ => (pe_call GM h6 (by rfl) T.g_refused T.F_refused.kp T.b_refused .nil pass0 (pa_cons (pv 13) (pa_cons (pv 2) (pa_cons (pv 3) (pa_cons (pv 11) pa_nil))))))) (pa_cons (pe_op op_rep (pe_lst (pa_cons (pv 11) pa_nil)) pe_int) pa_nil))))) (pss_one (ps_ret pe_bl)) pss_nil))) <|
      pss_one (ps_ret (pe_cmpR op_eq (pe_callB (call_reprD hgd hr.units) (by rfl) T.n_repr (by decide +kernel) (pa_cons (pe_lst (pa_cons (pv 2) (pa_cons (pv 3) pa_nil))) pa_nil)) (pv 4) (nomark _))), ?_⟩
    refine ⟨_, rfl, b, n + 999, 10, rfl, hB.mono (by omega), by decide, by decide, fun r1 H2 ra3 rb4 hB5 k6 => ?_⟩
    obtain ⟨y_hy7, hy7⟩ := hB.lst
    clear hB
    have hB := hB5
    replace kH := kH.trans k6
    refine ⟨_, _, rfl, rfl, .inl ⟨by omega, by omega⟩, _, _, rfl, rfl, ?_⟩
    have hn : 2 + 2 * r1.toNat ≤ 20 := by omega
    have hn2 : 2 ≤ 2 + 2 * r1.toNat := by omega
    have hev : (2 + 2 * r1.toNat) % 2 = 0 := by omega
    rw [show (fun i j => V.int (i + j)) 2 ((fun i j => i * j) 2 r1) = V.int ((2 + 2 * r1.toNat : Nat) : Int) from congrArg V.int (show (2 + 2 * r1 : Int) = _ by omega)]
    revert hn hn2 hev; generalize 2 + 2 * r1.toNat = N; intro hn hn2 hev
    first | refine st_set [some (.ref b), some (.int (N : Nat)), none, none, none, none, none, none, none, none, none, none, none, none] ?_ rfl | refine st_eq [some (.ref b), some (.int (N : Nat)), none, none, none, none, none, none, none, none, none, none, none, none] ?_ rfl
    refine ⟨_, rfl, _, rfl, b, n + 859, N, rfl, hB.mono (by omega), by omega, by omega, fun H8 t9 fs10 hf11 k12 hB13 n14 e_t9 => ?_⟩
    obtain ⟨y_hy15, hy15⟩ := hB.lst
    clear hB
    have hB := hB13
    replace kH := kH.trans k12
    refine ⟨_, rfl, _, rfl, b, n + 839, N, rfl, hB.mono (by omega), by omega, by omega, fun H16 t17 ps18 hp19 k20 hB21 n22 e_t17 => ?_⟩
    obtain ⟨y_hy23, hy23⟩ := hB.lst
    replace e_t9 := k20.tup hy23 e_t9
    clear hB
    have hB := hB21
    replace kH := kH.trans k20
    refine ⟨(by show 2 ≤ sizeLine; decide), fun l24 nl24 => ?_⟩
    have s25 : Same H16 (upd H16 l24 (.tup [.ref t9, .ref t17])) := same_new nl24
    have e_l24 : upd H16 l24 (.tup [.ref t9, .ref t17]) l24 = some (.tup [.ref t9, .ref t17]) := upd_same
    revert s25 e_l24; generalize upd H16 l24 (.tup [.ref t9, .ref t17]) = H26; intro s25 e_l24
    replace e_t9 := s25 _ _ e_t9
    replace e_t17 := s25 _ _ e_t17
    replace hB := hB.same s25
    replace kH := kH.trans (Keep.of_same s25)
    refine ⟨l24, _, rfl, .inl (.inl e_l24), rfl, _, _, rfl, _, _, rfl, rfl, ?_⟩
    first | refine st_set [some (.ref b), some (.int (N : Nat)), some (.ref t9), some (.ref t17), none, none, none, none, none, none, none, none, none, none] ?_ rfl | refine st_eq [some (.ref b), some (.int (N : Nat)), some (.ref t9), some (.ref t17), none, none, none, none, none, none, none, none, none, none] ?_ rfl
    refine ⟨_, rfl, _, rfl, (by show 2 ≤ sizeLine; decide), fun l27 nl27 => ?_⟩
    have ne_l27 : l27 ≠ b := (hB.ne_new nl27).symm
    have s28 : Same H26 (upd H26 l27 (.lst [.ref t9, .ref t17])) := same_new nl27
    have e_l27 : upd H26 l27 (.lst [.ref t9, .ref t17]) l27 = some (.lst [.ref t9, .ref t17]) := upd_same
    revert s28 e_l27; generalize upd H26 l27 (.lst [.ref t9, .ref t17]) = H29; intro s28 e_l27
    replace e_t9 := s28 _ _ e_t9
    replace e_t17 := s28 _ _ e_t17
    replace hB := hB.same s28
    replace kH := kH.trans (Keep.of_same s28)
    have fk30 : Fi 2 (.list [td (fs10), td (ps18)]) := fi_list (j := 1) (n := 2) (fa_cons (fi_tup hf11 (by omega)) (fa_cons (fi_tup hp19 (by omega)) fa_nil)) rfl (by decide)
    refine ⟨l27, _, rfl, .lst (.inl (.inl e_l27)) (.cons (.tup (.inl (.inl e_t9)) (dp_nats _)) (.cons (.tup (.inl (.inl e_t17)) (dp_nats _)) .nil)), fk30.lay, fk30.show_, Nat.le_trans fk30.depth (by decide), Nat.le_trans fk30.len (by decide), ?_⟩
    first | refine st_set [some (.ref b), some (.int (N : Nat)), some (.ref t9), some (.ref t17), some (.str (PyData.shown (.list [td (fs10), td (ps18)]))), none, none, none, none, none, none, none, none, none] ?_ rfl | refine st_eq [some (.ref b), some (.int (N : Nat)), some (.ref t9), some (.ref t17), some (.str (PyData.shown (.list [td (fs10), td (ps18)]))), none, none, none, none, none, none, none, none, none] ?_ rfl
    refine ⟨_, rfl, _, rfl, N, rfl, RgOk.of_le (by decide) (by omega) (by decide) (by omega), fun rl nrl => ?_⟩
    have sr : Same H29 _ := same_new (o := .lst (rgV 0 (N : Int))) nrl
    have hrl : (rgV 0 (N : Int)).length = N := by rw [rgV_length]; omega
    refine ⟨b, rl, n + 819, _, rfl, (hB.same sr).mono (by rw [hrl]; omega), .inl (.inl upd_same), by rw [hrl]; omega, fun Hd p2 ys hys kd hBd np2 ep2 => ?_⟩
    obtain ⟨os, eo1, eo2⟩ := perm_map_inv (fun (i : Nat) => V.int (i : Int)) hys.symm (List.range N) (rg_nv N)
    replace ep2 : Hd p2 = some (.lst (nv os)) := by rw [ep2, eo1]; rfl
    replace kd := (Keep.of_same (b := b) sr).trans kd
    obtain ⟨y_hy31, hy31⟩ := hB.lst
    replace e_t9 := kd.tup hy31 e_t9
    replace e_t17 := kd.tup hy31 e_t17
    clear hB
    have hB := hBd
    replace kH := kH.trans kd
    refine ⟨6, rfl, p2, _, rfl, .inl (.inl ep2), fun p3 np3 => ?_⟩
    rw [cut_nv]
    have hlt : ∀ x ∈ cutN os none (some 6), x < N := fun x hx => List.mem_range.mp (eo2.mem_iff.mp (cutN_mem hx))
    have ne_p3 : p3 ≠ b := (hB.ne_new np3).symm
    have s32 : Same Hd (upd Hd p3 (.lst (nv (cutN os none (some 6))))) := same_new np3
    have e_p3 : upd Hd p3 (.lst (nv (cutN os none (some 6)))) p3 = some (.lst (nv (cutN os none (some 6)))) := upd_same
    revert s32 e_p3; generalize upd Hd p3 (.lst (nv (cutN os none (some 6)))) = H33; intro s32 e_p3
    replace e_t9 := s32 _ _ e_t9
    replace e_t17 := s32 _ _ e_t17
    replace hB := hB.same s32
    replace kH := kH.trans (Keep.of_same s32)
    revert hlt e_p3; generalize cutN os none (some 6) = ws; intro hlt e_p3
    clear ep2 eo1 eo2 hys
    refine ⟨p3, rfl, ⟨_, .inl (.inl e_p3)⟩, ?_⟩
    refine for_list (xs := nv ws) (fun i σ H' => Keep b H H' ∧ Box (n + 819) H' b ∧ H' t9 = some (.tup (nv (fs10))) ∧ H' t17 = some (.tup (nv (ps18))) ∧ H' p3 = some (.lst (nv (ws))) ∧ ∃ (y_who y_due y_pairs y_heard y_told y_again : Option V), σ = [some (.ref b), some (.int (N : Nat)), some (.ref t9), some (.ref t17), some (.str (PyData.shown (.list [td (fs10), td (ps18)]))), y_who, y_due, y_pairs, y_heard, y_told, y_again, none, none, none]) ⟨kH, hB, e_t9, e_t17, e_p3, _, _, _, _, _, _, rfl⟩ (fun i σ H' _ h => .inl (.inl h.2.2.2.2.1)) (fun i x σ Hi hx hPv => ?_) (fun σ Hi hPv => ?_)
    · clear kH hB e_p3
      obtain ⟨kH, hB, e_t9, e_t17, e_p3, y_who, y_due, y_pairs, y_heard, y_told, y_again, rfl⟩ := hPv
      obtain ⟨who, ew, rfl⟩ := nv_get' hx
      have hw : who < N := hlt who (List.mem_of_getElem? ew)
      refine st_set [some (.ref b), some (.int (N : Nat)), some (.ref t9), some (.ref t17), some (.str (PyData.shown (.list [td (fs10), td (ps18)]))), some (.int (who : Nat)), y_due, y_pairs, y_heard, y_told, y_again, none, none, none] ?_ rfl
      refine ⟨_, rfl, _, rfl, _, rfl, t9, t17, fs10, ps18, N, who, rfl, .inl (.inl e_t9), .inl (.inl e_t17), hf11, hp19, hw, by omega, fun H34 t35 s36 n37 e_t35 => ?_⟩
      obtain ⟨tr, hLl⟩ := trl_trail hf11 hp19 (z := N + who) (by omega) (by omega)
      have hLt := tr.lt hf11 hp19 (by omega)
      obtain ⟨L, hLd⟩ : ∃ L, L = trl fs10 ps18 N (N + who) := ⟨_, rfl⟩
      rw [← hLd] at e_t35 hLl hLt
      clear tr
      have hL22 : L.length ≤ 42 := by omega
      replace hLt : ∀ z ∈ L, z < 40 := fun z hz => by have := hLt z hz; omega
      have ne_t35 : t35 ≠ b := (hB.ne_new n37).symm
      replace e_t9 := s36 _ _ e_t9
      replace e_t17 := s36 _ _ e_t17
      replace e_p3 := s36 _ _ e_p3
      replace hB := hB.same s36
      replace kH := kH.trans (Keep.of_same s36)
      first | refine st_set [some (.ref b), some (.int (N : Nat)), some (.ref t9), some (.ref t17), some (.str (PyData.shown (.list [td (fs10), td (ps18)]))), some (.int (who : Nat)), some (.ref t35), y_pairs, y_heard, y_told, y_again, none, none, none] ?_ rfl | refine st_eq [some (.ref b), some (.int (N : Nat)), some (.ref t9), some (.ref t17), some (.str (PyData.shown (.list [td (fs10), td (ps18)]))), some (.int (who : Nat)), some (.ref t35), y_pairs, y_heard, y_told, y_again, none, none, none] ?_ rfl
      refine ⟨_, rfl, t35, _, rfl, .inl (.inl (.inl e_t35)), _, 1, rfl, rfl, 1, _, 2, (L.length - 1) / 2, rfl, ?_, fun D nD => ?_⟩
      · show RgC 1 (((nv L).length : Int) - 1) 2 _
        rw [nv_length]; exact rgc_path (by omega)
      refine lc_it (walk_rangeC (n := (L.length - 1) / 2)) (fun i H' => Same H34 H' ∧ ∃ as : List Addr, H' D = some (.lst (as.map V.ref)) ∧ Prs H' as ((mms (stp L)).take i)) ⟨same_new nD, [], upd_same, .nil⟩ (fun _ _ _ _ => trivial) (fun i x' H2 H3 hi hPv yy => ?_) (fun H' hPv => ?_)
      · obtain ⟨sm, as, eD, hA⟩ := hPv
        obtain ⟨rfl, rfl⟩ := yy
        have g1 : L[2 * i + 1]? = some (L.getD (2 * i + 1) 0) := by rw [List.getD_eq_getElem?_getD, List.getElem?_eq_getElem (by omega)]; rfl
        have g2 : L[2 * i + 2]? = some (L.getD (2 * i + 2) 0) := by rw [List.getD_eq_getElem?_getD, List.getElem?_eq_getElem (by omega)]; rfl
        have ea : atI (nv L) ((1 : Int) + (i : Nat) * 2) = some (.int ((L.getD (2 * i + 1) 0 : Nat) : Int)) := by
          rw [show (1 : Int) + (i : Nat) * 2 = ((2 * i + 1 : Nat) : Int) by omega]; exact nv_at g1
        have eb : atI (nv L) ((1 : Int) + (i : Nat) * 2 + 1) = some (.int ((L.getD (2 * i + 2) 0 : Nat) : Int)) := by
          rw [show (1 : Int) + (i : Nat) * 2 + 1 = ((2 * i + 2 : Nat) : Int) by omega]; exact nv_at g2
        have hl : SqL K H3 t35 (nv L) := .inl (.inl (sm _ _ e_t35))
        refine ⟨rfl, yes_if ⟨_, rfl, _, rfl, t35, _, _, _, rfl, rfl, hl, ea, _, rfl, _, rfl, _, 1, rfl, rfl, t35, _, _, _, rfl, rfl, hl, eb, _, _, rfl, _, rfl, _, rfl, t35, _, _, _, rfl, rfl, hl, ea, _, rfl, _, rfl, _, 1, rfl, rfl, t35, _, _, _, rfl, rfl, hl, eb, _, _, rfl, by show 2 ≤ sizeLine; decide, fun u nu => ⟨_, same_new nu _ _ eD, ?_, fun z o hz => ?_, as ++ [u], ?_, ?_⟩⟩⟩
        · rw [List.length_map, hA.length, List.length_take]; exact small1000 (by omega)
        · rw [upd_ne (ne_of_none hz nD)]; exact same_new nu _ _ (sm _ _ hz)
        · rw [upd_same, List.map_append]; rfl
        · have uD : u ≠ D := fun z => by rw [z, eD] at nu; cases nu
          have ej : (mms (stp L))[i]? = some (min (L.getD (2 * i + 1) 0) (L.getD (2 * i + 2) 0), max (L.getD (2 * i + 1) 0) (L.getD (2 * i + 2) 0)) := by unfold mms stp; rw [List.getElem?_map, List.getElem?_map, List.getElem?_range hi]; rfl
          rw [List.take_add_one, ej]
          refine prs_append (prs_keep (b := D) keep_upd (same_new nu _ _ eD) (prs_same (same_new nu) hA)) (.cons ?_ .nil)
          rw [upd_ne uD, upd_same, int_min, int_max]
      obtain ⟨sD, asD, e_D, hA_D⟩ := hPv
      rw [← stp_len, ← mms_len (stp L), List.take_length] at hA_D
      have ne_D : D ≠ b := (hB.ne_new nD).symm
      revert sD e_D hA_D; generalize H' = HD; intro sD e_D hA_D
      replace e_t9 := sD _ _ e_t9
      replace e_t17 := sD _ _ e_t17
      replace e_p3 := sD _ _ e_p3
      replace e_t35 := sD _ _ e_t35
      replace hB := hB.same sD
      replace kH := kH.trans (Keep.of_same sD)
      first | refine st_set [some (.ref b), some (.int (N : Nat)), some (.ref t9), some (.ref t17), some (.str (PyData.shown (.list [td (fs10), td (ps18)]))), some (.int (who : Nat)), some (.ref t35), some (.ref D), y_heard, y_told, y_again, none, none, none] ?_ rfl | refine st_eq [some (.ref b), some (.int (N : Nat)), some (.ref t9), some (.ref t17), some (.str (PyData.shown (.list [td (fs10), td (ps18)]))), some (.int (who : Nat)), some (.ref t35), some (.ref D), y_heard, y_told, y_again, none, none, none] ?_ rfl
      refine ⟨_, rfl, _, rfl, _, rfl, t9, t17, fs10, ps18, N, who, rfl, .inr (.inl (.inl e_t9)), .inr (.inl (.inl e_t17)), hf11, hp19, hw, by omega, fun H38 t39 s40 n41 e_t39 => ?_⟩
      rw [← hLd] at e_t39
      have ne_t39 : t39 ≠ b := (hB.ne_new n41).symm
      have n0_t39 : H t39 = none := keep_free' kH hB n41
      have ap_p3_t39 : p3 ≠ t39 := ne_of_none e_p3 n41
      have ap_t39_p3 := ap_p3_t39.symm
      have ap_t35_t39 : t35 ≠ t39 := ne_of_none e_t35 n41
      have ap_t39_t35 := ap_t35_t39.symm
      have ap_D_t39 : D ≠ t39 := ne_of_none e_D n41
      have ap_t39_D := ap_D_t39.symm
      replace e_t9 := s40 _ _ e_t9
      replace e_t17 := s40 _ _ e_t17
      replace e_p3 := s40 _ _ e_p3
      replace e_t35 := s40 _ _ e_t35
      replace e_D := s40 _ _ e_D
      replace hA_D := prs_same s40 hA_D
      replace hB := hB.same s40
      replace kH := kH.trans (Keep.of_same s40)
      refine ⟨_, rfl, _, rfl, t17, _, rfl, .inr (.inl (.inl e_t17)), fun l42 nl42 => ?_⟩
      have ne_l42 : l42 ≠ b := (hB.ne_new nl42).symm
      have s43 : Same H38 (upd H38 l42 (.lst (nv (ps18)))) := same_new nl42
      have e_l42 : upd H38 l42 (.lst (nv (ps18))) l42 = some (.lst (nv (ps18))) := upd_same
      revert s43 e_l42; generalize upd H38 l42 (.lst (nv (ps18))) = H44; intro s43 e_l42
      replace e_t9 := s43 _ _ e_t9
      replace e_t17 := s43 _ _ e_t17
      replace e_p3 := s43 _ _ e_p3
      replace e_t35 := s43 _ _ e_t35
      replace e_D := s43 _ _ e_D
      replace hA_D := prs_same s43 hA_D
      replace e_t39 := s43 _ _ e_t39
      replace hB := hB.same s43
      replace kH := kH.trans (Keep.of_same s43)
      refine ⟨_, rfl, t9, _, rfl, .inr (.inl (.inl e_t9)), fun l45 nl45 => ?_⟩
      have ne_l45 : l45 ≠ b := (hB.ne_new nl45).symm
      have s46 : Same H44 (upd H44 l45 (.lst (nv (fs10)))) := same_new nl45
      have e_l45 : upd H44 l45 (.lst (nv (fs10))) l45 = some (.lst (nv (fs10))) := upd_same
      revert s46 e_l45; generalize upd H44 l45 (.lst (nv (fs10))) = H47; intro s46 e_l45
      replace e_t9 := s46 _ _ e_t9
      replace e_t17 := s46 _ _ e_t17
      replace e_p3 := s46 _ _ e_p3
      replace e_t35 := s46 _ _ e_t35
      replace e_D := s46 _ _ e_D
      replace hA_D := prs_same s46 hA_D
      replace e_t39 := s46 _ _ e_t39
      replace e_l42 := s46 _ _ e_l42
      replace hB := hB.same s46
      replace kH := kH.trans (Keep.of_same s46)
      refine ⟨rfl, l45, l42, fs10, ps18, N, who, rfl, .inl (.inl (.inl e_l45)), .inl (.inl (.inl e_l42)), hf11, hp19, hw, by omega, fun H48 t49 s50 n51 e_t49 => ?_⟩
      rw [← hLd] at e_t49
      have ne_t49 : t49 ≠ b := (hB.ne_new n51).symm
      have n0_t49 : H t49 = none := keep_free' kH hB n51
      have ap_p3_t49 : p3 ≠ t49 := ne_of_none e_p3 n51
      have ap_t49_p3 := ap_p3_t49.symm
      have ap_t35_t49 : t35 ≠ t49 := ne_of_none e_t35 n51
      have ap_t49_t35 := ap_t35_t49.symm
      have ap_D_t49 : D ≠ t49 := ne_of_none e_D n51
      have ap_t49_D := ap_D_t49.symm
      have ap_t39_t49 : t39 ≠ t49 := ne_of_none e_t39 n51
      have ap_t49_t39 := ap_t39_t49.symm
      have ap_l42_t49 : l42 ≠ t49 := ne_of_none e_l42 n51
      have ap_t49_l42 := ap_l42_t49.symm
      have ap_l45_t49 : l45 ≠ t49 := ne_of_none e_l45 n51
      have ap_t49_l45 := ap_l45_t49.symm
      replace e_t9 := s50 _ _ e_t9
      replace e_t17 := s50 _ _ e_t17
      replace e_p3 := s50 _ _ e_p3
      replace e_t35 := s50 _ _ e_t35
      replace e_D := s50 _ _ e_D
      replace hA_D := prs_same s50 hA_D
      replace e_t39 := s50 _ _ e_t39
      replace e_l42 := s50 _ _ e_l42
      replace e_l45 := s50 _ _ e_l45
      replace hB := hB.same s50
      replace kH := kH.trans (Keep.of_same s50)
      refine ⟨(by show 2 ≤ sizeLine; decide), fun l52 nl52 => ?_⟩
      have ne_l52 : l52 ≠ b := (hB.ne_new nl52).symm
      have s53 : Same H48 (upd H48 l52 (.lst [.ref t39, .ref t49])) := same_new nl52
      have e_l52 : upd H48 l52 (.lst [.ref t39, .ref t49]) l52 = some (.lst [.ref t39, .ref t49]) := upd_same
      revert s53 e_l52; generalize upd H48 l52 (.lst [.ref t39, .ref t49]) = H54; intro s53 e_l52
      replace e_t9 := s53 _ _ e_t9
      replace e_t17 := s53 _ _ e_t17
      replace e_p3 := s53 _ _ e_p3
      replace e_t35 := s53 _ _ e_t35
      replace e_D := s53 _ _ e_D
      replace hA_D := prs_same s53 hA_D
      replace e_t39 := s53 _ _ e_t39
      replace e_l42 := s53 _ _ e_l42
      replace e_l45 := s53 _ _ e_l45
      replace e_t49 := s53 _ _ e_t49
      replace hB := hB.same s53
      replace kH := kH.trans (Keep.of_same s53)
      first | refine st_set [some (.ref b), some (.int (N : Nat)), some (.ref t9), some (.ref t17), some (.str (PyData.shown (.list [td (fs10), td (ps18)]))), some (.int (who : Nat)), some (.ref t35), some (.ref D), some (.ref l52), y_told, y_again, none, none, none] ?_ rfl | refine st_eq [some (.ref b), some (.int (N : Nat)), some (.ref t9), some (.ref t17), some (.str (PyData.shown (.list [td (fs10), td (ps18)]))), some (.int (who : Nat)), some (.ref t35), some (.ref D), some (.ref l52), y_told, y_again, none, none, none] ?_ rfl
      refine ⟨_, rfl, _, rfl, _, rfl, t9, t17, fs10, ps18, N, who, rfl, .inr (.inl (.inl e_t9)), .inr (.inl (.inl e_t17)), hf11, hp19, hw, by omega, by rw [← hLd]; omega, fun H55 t56 as57 s58 n59 e_t56 hA_t56 => ?_⟩
      rw [← hLd] at hA_t56
      have ne_t56 : t56 ≠ b := (hB.ne_new n59).symm
      have n0_t56 : H t56 = none := keep_free' kH hB n59
      have ap_p3_t56 : p3 ≠ t56 := ne_of_none e_p3 n59
      have ap_t56_p3 := ap_p3_t56.symm
      have ap_t35_t56 : t35 ≠ t56 := ne_of_none e_t35 n59
      have ap_t56_t35 := ap_t35_t56.symm
      have ap_D_t56 : D ≠ t56 := ne_of_none e_D n59
      have ap_t56_D := ap_D_t56.symm
      have ap_t39_t56 : t39 ≠ t56 := ne_of_none e_t39 n59
      have ap_t56_t39 := ap_t39_t56.symm
      have ap_t49_t56 : t49 ≠ t56 := ne_of_none e_t49 n59
      have ap_t56_t49 := ap_t49_t56.symm
      have ap_l52_t56 : l52 ≠ t56 := ne_of_none e_l52 n59
      have ap_t56_l52 := ap_l52_t56.symm
      replace e_t9 := s58 _ _ e_t9
      replace e_t17 := s58 _ _ e_t17
      replace e_p3 := s58 _ _ e_p3
      replace e_t35 := s58 _ _ e_t35
      replace e_D := s58 _ _ e_D
      replace hA_D := prs_same s58 hA_D
      replace e_t39 := s58 _ _ e_t39
      replace e_t49 := s58 _ _ e_t49
      replace e_l52 := s58 _ _ e_l52
      replace hB := hB.same s58
      replace kH := kH.trans (Keep.of_same s58)
      refine ⟨_, rfl, _, rfl, t17, _, rfl, .inr (.inl (.inl e_t17)), fun l60 nl60 => ?_⟩
      have ne_l60 : l60 ≠ b := (hB.ne_new nl60).symm
      have s61 : Same H55 (upd H55 l60 (.lst (nv (ps18)))) := same_new nl60
      have e_l60 : upd H55 l60 (.lst (nv (ps18))) l60 = some (.lst (nv (ps18))) := upd_same
      revert s61 e_l60; generalize upd H55 l60 (.lst (nv (ps18))) = H62; intro s61 e_l60
      replace e_t9 := s61 _ _ e_t9
      replace e_t17 := s61 _ _ e_t17
      replace e_p3 := s61 _ _ e_p3
      replace e_t35 := s61 _ _ e_t35
      replace e_D := s61 _ _ e_D
      replace hA_D := prs_same s61 hA_D
      replace e_t39 := s61 _ _ e_t39
      replace e_t49 := s61 _ _ e_t49
      replace e_l52 := s61 _ _ e_l52
      replace e_t56 := s61 _ _ e_t56
      replace hA_t56 := prs_same s61 hA_t56
      replace hB := hB.same s61
      replace kH := kH.trans (Keep.of_same s61)
      refine ⟨_, rfl, t9, _, rfl, .inr (.inl (.inl e_t9)), fun l63 nl63 => ?_⟩
      have ne_l63 : l63 ≠ b := (hB.ne_new nl63).symm
      have s64 : Same H62 (upd H62 l63 (.lst (nv (fs10)))) := same_new nl63
      have e_l63 : upd H62 l63 (.lst (nv (fs10))) l63 = some (.lst (nv (fs10))) := upd_same
      revert s64 e_l63; generalize upd H62 l63 (.lst (nv (fs10))) = H65; intro s64 e_l63
      replace e_t9 := s64 _ _ e_t9
      replace e_t17 := s64 _ _ e_t17
      replace e_p3 := s64 _ _ e_p3
      replace e_t35 := s64 _ _ e_t35
      replace e_D := s64 _ _ e_D
      replace hA_D := prs_same s64 hA_D
      replace e_t39 := s64 _ _ e_t39
      replace e_t49 := s64 _ _ e_t49
      replace e_l52 := s64 _ _ e_l52
      replace e_t56 := s64 _ _ e_t56
      replace hA_t56 := prs_same s64 hA_t56
      replace e_l60 := s64 _ _ e_l60
      replace hB := hB.same s64
      replace kH := kH.trans (Keep.of_same s64)
      refine ⟨rfl, l63, l60, fs10, ps18, N, who, rfl, .inl (.inl (.inl e_l63)), .inl (.inl (.inl e_l60)), hf11, hp19, hw, by omega, by rw [← hLd]; omega, fun H66 t67 as68 s69 n70 e_t67 hA_t67 => ?_⟩
      rw [← hLd] at hA_t67
      have ne_t67 : t67 ≠ b := (hB.ne_new n70).symm
      have n0_t67 : H t67 = none := keep_free' kH hB n70
      have ap_p3_t67 : p3 ≠ t67 := ne_of_none e_p3 n70
      have ap_t67_p3 := ap_p3_t67.symm
      have ap_t35_t67 : t35 ≠ t67 := ne_of_none e_t35 n70
      have ap_t67_t35 := ap_t35_t67.symm
      have ap_D_t67 : D ≠ t67 := ne_of_none e_D n70
      have ap_t67_D := ap_D_t67.symm
      have ap_t39_t67 : t39 ≠ t67 := ne_of_none e_t39 n70
      have ap_t67_t39 := ap_t39_t67.symm
      have ap_t49_t67 : t49 ≠ t67 := ne_of_none e_t49 n70
      have ap_t67_t49 := ap_t49_t67.symm
      have ap_l52_t67 : l52 ≠ t67 := ne_of_none e_l52 n70
      have ap_t67_l52 := ap_l52_t67.symm
      have ap_t56_t67 : t56 ≠ t67 := ne_of_none e_t56 n70
      have ap_t67_t56 := ap_t56_t67.symm
      have ap_l60_t67 : l60 ≠ t67 := ne_of_none e_l60 n70
      have ap_t67_l60 := ap_l60_t67.symm
      have ap_l63_t67 : l63 ≠ t67 := ne_of_none e_l63 n70
      have ap_t67_l63 := ap_l63_t67.symm
      replace e_t9 := s69 _ _ e_t9
      replace e_t17 := s69 _ _ e_t17
      replace e_p3 := s69 _ _ e_p3
      replace e_t35 := s69 _ _ e_t35
      replace e_D := s69 _ _ e_D
      replace hA_D := prs_same s69 hA_D
      replace e_t39 := s69 _ _ e_t39
      replace e_t49 := s69 _ _ e_t49
      replace e_l52 := s69 _ _ e_l52
      replace e_t56 := s69 _ _ e_t56
      replace hA_t56 := prs_same s69 hA_t56
      replace e_l60 := s69 _ _ e_l60
      replace e_l63 := s69 _ _ e_l63
      replace hB := hB.same s69
      replace kH := kH.trans (Keep.of_same s69)
      refine ⟨(by show 2 ≤ sizeLine; decide), fun l71 nl71 => ?_⟩
      have ne_l71 : l71 ≠ b := (hB.ne_new nl71).symm
      have s72 : Same H66 (upd H66 l71 (.lst [.ref t56, .ref t67])) := same_new nl71
      have e_l71 : upd H66 l71 (.lst [.ref t56, .ref t67]) l71 = some (.lst [.ref t56, .ref t67]) := upd_same
      revert s72 e_l71; generalize upd H66 l71 (.lst [.ref t56, .ref t67]) = H73; intro s72 e_l71
      replace e_t9 := s72 _ _ e_t9
      replace e_t17 := s72 _ _ e_t17
      replace e_p3 := s72 _ _ e_p3
      replace e_t35 := s72 _ _ e_t35
      replace e_D := s72 _ _ e_D
      replace hA_D := prs_same s72 hA_D
      replace e_t39 := s72 _ _ e_t39
      replace e_t49 := s72 _ _ e_t49
      replace e_l52 := s72 _ _ e_l52
      replace e_t56 := s72 _ _ e_t56
      replace hA_t56 := prs_same s72 hA_t56
      replace e_l60 := s72 _ _ e_l60
      replace e_l63 := s72 _ _ e_l63
      replace e_t67 := s72 _ _ e_t67
      replace hA_t67 := prs_same s72 hA_t67
      replace hB := hB.same s72
      replace kH := kH.trans (Keep.of_same s72)
      first | refine st_set [some (.ref b), some (.int (N : Nat)), some (.ref t9), some (.ref t17), some (.str (PyData.shown (.list [td (fs10), td (ps18)]))), some (.int (who : Nat)), some (.ref t35), some (.ref D), some (.ref l52), some (.ref l71), y_again, none, none, none] ?_ rfl | refine st_eq [some (.ref b), some (.int (N : Nat)), some (.ref t9), some (.ref t17), some (.str (PyData.shown (.list [td (fs10), td (ps18)]))), some (.int (who : Nat)), some (.ref t35), some (.ref D), some (.ref l52), some (.ref l71), y_again, none, none, none] ?_ rfl
      refine ⟨_, rfl, _, rfl, _, rfl, (by show 2 ≤ sizeLine; decide), fun l74 nl74 => ?_⟩
      have ne_l74 : l74 ≠ b := (hB.ne_new nl74).symm
      have s75 : Same H73 (upd H73 l74 (.lst [.ref t35, .ref t35])) := same_new nl74
      have e_l74 : upd H73 l74 (.lst [.ref t35, .ref t35]) l74 = some (.lst [.ref t35, .ref t35]) := upd_same
      revert s75 e_l74; generalize upd H73 l74 (.lst [.ref t35, .ref t35]) = H76; intro s75 e_l74
      replace e_t9 := s75 _ _ e_t9
      replace e_t17 := s75 _ _ e_t17
      replace e_p3 := s75 _ _ e_p3
      replace e_t35 := s75 _ _ e_t35
      replace e_D := s75 _ _ e_D
      replace hA_D := prs_same s75 hA_D
      replace e_t39 := s75 _ _ e_t39
      replace e_t49 := s75 _ _ e_t49
      replace e_l52 := s75 _ _ e_l52
      replace e_t56 := s75 _ _ e_t56
      replace hA_t56 := prs_same s75 hA_t56
      replace e_t67 := s75 _ _ e_t67
      replace hA_t67 := prs_same s75 hA_t67
      replace e_l71 := s75 _ _ e_l71
      replace hB := hB.same s75
      replace kH := kH.trans (Keep.of_same s75)
      have fk77 : Fi 2 (.list [.list (nd (L)), .list (nd (L))]) := fi_list (j := 1) (n := 2) (fa_cons (fi_lst (⟨by omega, fun z hz => by have := hLt z hz; omega⟩)) (fa_cons (fi_lst (⟨by omega, fun z hz => by have := hLt z hz; omega⟩)) fa_nil)) rfl (by decide)
      refine ⟨_, _, _, rfl, .lst (.inl (.inl e_l52)) (.cons (.lst (.inl (.inl e_t39)) (dp_nats _)) (.cons (.lst (.inl (.inl e_t49)) (dp_nats _)) .nil)), .lst (.inl (.inl e_l74)) (.cons (.lst (.inl (.inl e_t35)) (dp_nats _)) (.cons (.lst (.inl (.inl e_t35)) (dp_nats _)) .nil)), Nat.lt_succ_of_le (Nat.le_trans fk77.depth (by decide)), fk77.nar, fun H78 s79 => ?_⟩
      replace e_t9 := s79 _ _ e_t9
      replace e_t17 := s79 _ _ e_t17
      replace e_p3 := s79 _ _ e_p3
      replace e_t35 := s79 _ _ e_t35
      replace e_D := s79 _ _ e_D
      replace hA_D := prs_same s79 hA_D
      replace e_t39 := s79 _ _ e_t39
      replace e_t49 := s79 _ _ e_t49
      replace e_l52 := s79 _ _ e_l52
      replace e_t56 := s79 _ _ e_t56
      replace hA_t56 := prs_same s79 hA_t56
      replace e_t67 := s79 _ _ e_t67
      replace hA_t67 := prs_same s79 hA_t67
      replace e_l71 := s79 _ _ e_l71
      replace e_l74 := s79 _ _ e_l74
      replace hB := hB.same s79
      replace kH := kH.trans (Keep.of_same s79)
      refine ⟨true, rfl, iteN ?_⟩
      refine ⟨_, rfl, _, rfl, ?_⟩
      try unfold tNil
      refine sort_prsL (K := K) (.inl (.inl e_D)) hA_D fun l80 bs81 nl80 hA_l80 => ?_
      have ne_l80 : l80 ≠ b := (hB.ne_new nl80).symm
      have s82 : Same H78 (upd H78 l80 (.lst (bs81.map V.ref))) := same_new nl80
      have e_l80 : upd H78 l80 (.lst (bs81.map V.ref)) l80 = some (.lst (bs81.map V.ref)) := upd_same
      replace hA_l80 := prs_same s82 hA_l80
      revert s82 e_l80 hA_l80; generalize upd H78 l80 (.lst (bs81.map V.ref)) = H83; intro s82 e_l80 hA_l80
      replace e_t9 := s82 _ _ e_t9
      replace e_t17 := s82 _ _ e_t17
      replace e_p3 := s82 _ _ e_p3
      replace e_t35 := s82 _ _ e_t35
      replace e_D := s82 _ _ e_D
      replace hA_D := prs_same s82 hA_D
      replace e_t39 := s82 _ _ e_t39
      replace e_t49 := s82 _ _ e_t49
      replace e_l52 := s82 _ _ e_l52
      replace e_t56 := s82 _ _ e_t56
      replace hA_t56 := prs_same s82 hA_t56
      replace e_t67 := s82 _ _ e_t67
      replace hA_t67 := prs_same s82 hA_t67
      replace e_l71 := s82 _ _ e_l71
      replace hB := hB.same s82
      replace kH := kH.trans (Keep.of_same s82)
      refine ⟨(by show 1 ≤ sizeLine; decide), fun l84 nl84 => ?_⟩
      have ne_l84 : l84 ≠ b := (hB.ne_new nl84).symm
      have s85 : Same H83 (upd H83 l84 (.lst [.ref l80])) := same_new nl84
      have e_l84 : upd H83 l84 (.lst [.ref l80]) l84 = some (.lst [.ref l80]) := upd_same
      revert s85 e_l84; generalize upd H83 l84 (.lst [.ref l80]) = H86; intro s85 e_l84
      replace e_t9 := s85 _ _ e_t9
      replace e_t17 := s85 _ _ e_t17
      replace e_p3 := s85 _ _ e_p3
      replace e_t35 := s85 _ _ e_t35
      replace e_D := s85 _ _ e_D
      replace hA_D := prs_same s85 hA_D
      replace e_t39 := s85 _ _ e_t39
      replace e_t49 := s85 _ _ e_t49
      replace e_l52 := s85 _ _ e_l52
      replace e_t56 := s85 _ _ e_t56
      replace hA_t56 := prs_same s85 hA_t56
      replace e_t67 := s85 _ _ e_t67
      replace hA_t67 := prs_same s85 hA_t67
      replace e_l71 := s85 _ _ e_l71
      replace e_l80 := s85 _ _ e_l80
      replace hA_l80 := prs_same s85 hA_l80
      replace hB := hB.same s85
      replace kH := kH.trans (Keep.of_same s85)
      refine ⟨l84, 2, _, rfl, rfl, e_l84, by decide, by decide, (by show 1 * 2 ≤ sizeLine; decide), fun l87 nl87 => ?_⟩
      rw [show (List.replicate (Int.toNat 2) [V.ref l80]).flatten = [V.ref l80, V.ref l80] from rfl]
      have ne_l87 : l87 ≠ b := (hB.ne_new nl87).symm
      have s88 : Same H86 (upd H86 l87 (.lst [.ref l80, .ref l80])) := same_new nl87
      have e_l87 : upd H86 l87 (.lst [.ref l80, .ref l80]) l87 = some (.lst [.ref l80, .ref l80]) := upd_same
      revert s88 e_l87; generalize upd H86 l87 (.lst [.ref l80, .ref l80]) = H89; intro s88 e_l87
      replace e_t9 := s88 _ _ e_t9
      replace e_t17 := s88 _ _ e_t17
      replace e_p3 := s88 _ _ e_p3
      replace e_t35 := s88 _ _ e_t35
      replace e_D := s88 _ _ e_D
      replace hA_D := prs_same s88 hA_D
      replace e_t39 := s88 _ _ e_t39
      replace e_t49 := s88 _ _ e_t49
      replace e_l52 := s88 _ _ e_l52
      replace e_t56 := s88 _ _ e_t56
      replace hA_t56 := prs_same s88 hA_t56
      replace e_t67 := s88 _ _ e_t67
      replace hA_t67 := prs_same s88 hA_t67
      replace e_l71 := s88 _ _ e_l71
      replace e_l80 := s88 _ _ e_l80
      replace hA_l80 := prs_same s88 hA_l80
      replace e_l84 := s88 _ _ e_l84
      replace hB := hB.same s88
      replace kH := kH.trans (Keep.of_same s88)
      have fk90 : Fi 3 (.list [.list (((srt (mms (stp L)))).map pd), .list (((srt (mms (stp L)))).map pd)]) := fi_list (j := 2) (n := 2) (fa_cons (fi_prs (fps13 hL22 (by decide) (by decide) (by decide) hLt)) (fa_cons (fi_prs (fps13 hL22 (by decide) (by decide) (by decide) hLt)) fa_nil)) rfl (by decide)
      refine ⟨_, _, _, rfl, .lst (.inl (.inl e_l71)) (.cons (.lst (.inl (.inl e_t56)) (prs_dp hA_t56)) (.cons (.lst (.inl (.inl e_t67)) (prs_dp hA_t67)) .nil)), .lst (.inl (.inl e_l87)) (.cons (.lst (.inl (.inl e_l80)) (prs_dp hA_l80)) (.cons (.lst (.inl (.inl e_l80)) (prs_dp hA_l80)) .nil)), Nat.lt_succ_of_le (Nat.le_trans fk90.depth (by decide)), fk90.nar, fun H91 s92 => ?_⟩
      replace e_t9 := s92 _ _ e_t9
      replace e_t17 := s92 _ _ e_t17
      replace e_p3 := s92 _ _ e_p3
      replace e_t35 := s92 _ _ e_t35
      replace e_D := s92 _ _ e_D
      replace hA_D := prs_same s92 hA_D
      replace e_t39 := s92 _ _ e_t39
      replace e_t49 := s92 _ _ e_t49
      replace e_l52 := s92 _ _ e_l52
      replace e_t56 := s92 _ _ e_t56
      replace hA_t56 := prs_same s92 hA_t56
      replace e_t67 := s92 _ _ e_t67
      replace hA_t67 := prs_same s92 hA_t67
      replace e_l71 := s92 _ _ e_l71
      replace e_l80 := s92 _ _ e_l80
      replace hA_l80 := prs_same s92 hA_l80
      replace e_l84 := s92 _ _ e_l84
      replace e_l87 := s92 _ _ e_l87
      replace hB := hB.same s92
      replace kH := kH.trans (Keep.of_same s92)
      refine ⟨true, rfl, iteN ?_⟩
      have ap_l71_t39 : l71 ≠ t39 := fun z => by rw [z, e_t39] at e_l71; exact nv_ne_ref _ _ _ (HO.lst.inj (Option.some.inj e_l71))
      refine ⟨_, rfl, l52, _, _, _, rfl, rfl, .inl (.inl e_l52), rfl, .inl ⟨rfl, _, .inl (.inl e_t39)⟩, t39, _, _, rfl, rfl, e_t39, ?_, ?_⟩
      · rw [nv_length]; exact small1000 (by omega)
      have k93 : Keep t39 H91 (upd H91 t39 (.lst (nv (L) ++ [.str "more"]))) := keep_upd
      revert k93; generalize upd H91 t39 (.lst (nv (L) ++ [.str "more"])) = H94; intro k93
      replace e_t9 := k93.tup e_t39 e_t9
      replace e_t17 := k93.tup e_t39 e_t17
      replace e_p3 := k93 _ _ ap_p3_t39 e_p3
      replace e_t35 := k93 _ _ ap_t35_t39 e_t35
      replace e_D := k93 _ _ ap_D_t39 e_D
      replace hA_D := prs_keep k93 e_t39 hA_D
      replace e_t56 := k93 _ _ ap_t56_t39 e_t56
      replace hA_t56 := prs_keep k93 e_t39 hA_t56
      replace e_l71 := k93 _ _ ap_l71_t39 e_l71
      replace hB := hB.keep k93 ne_t39.symm
      replace kH : Keep b H H94 := fun x o nx hx => k93 x o (fun z => by rw [z, n0_t39] at hx; cases hx) (kH x o nx hx)
      clear e_l52 e_t39
      refine ⟨_, rfl, l71, _, _, _, rfl, rfl, .inl (.inl e_l71), rfl, .inl ⟨rfl, _, .inl (.inl e_t56)⟩, t56, _, _, rfl, rfl, e_t56, ?_, ?_⟩
      · rw [List.length_map, hA_t56.length]; exact small1000 (by have := (fps13 hL22 (by decide) (by decide) (by decide) hLt).1; omega)
      have k95 : Keep t56 H94 (upd H94 t56 (.lst (as57.map V.ref ++ [.str "more"]))) := keep_upd
      revert k95; generalize upd H94 t56 (.lst (as57.map V.ref ++ [.str "more"])) = H96; intro k95
      replace e_t9 := k95.tup e_t56 e_t9
      replace e_t17 := k95.tup e_t56 e_t17
      replace e_p3 := k95 _ _ ap_p3_t56 e_p3
      replace e_t35 := k95 _ _ ap_t35_t56 e_t35
      replace e_D := k95 _ _ ap_D_t56 e_D
      replace hA_D := prs_keep k95 e_t56 hA_D
      replace hB := hB.keep k95 ne_t56.symm
      replace kH : Keep b H H96 := fun x o nx hx => k95 x o (fun z => by rw [z, n0_t56] at hx; cases hx) (kH x o nx hx)
      clear e_l71 e_t56 hA_t56
      refine ⟨_, rfl, _, rfl, _, rfl, t9, t17, fs10, ps18, N, who, rfl, .inr (.inl (.inl e_t9)), .inr (.inl (.inl e_t17)), hf11, hp19, hw, by omega, fun H97 t98 s99 n100 e_t98 => ?_⟩
      rw [← hLd] at e_t98
      have ne_t98 : t98 ≠ b := (hB.ne_new n100).symm
      have n0_t98 : H t98 = none := keep_free' kH hB n100
      have ap_p3_t98 : p3 ≠ t98 := ne_of_none e_p3 n100
      have ap_t98_p3 := ap_p3_t98.symm
      have ap_t35_t98 : t35 ≠ t98 := ne_of_none e_t35 n100
      have ap_t98_t35 := ap_t35_t98.symm
      have ap_D_t98 : D ≠ t98 := ne_of_none e_D n100
      have ap_t98_D := ap_D_t98.symm
      replace e_t9 := s99 _ _ e_t9
      replace e_t17 := s99 _ _ e_t17
      replace e_p3 := s99 _ _ e_p3
      replace e_t35 := s99 _ _ e_t35
      replace e_D := s99 _ _ e_D
      replace hA_D := prs_same s99 hA_D
      replace hB := hB.same s99
      replace kH := kH.trans (Keep.of_same s99)
      refine ⟨_, rfl, _, rfl, _, rfl, t9, t17, fs10, ps18, N, who, rfl, .inr (.inl (.inl e_t9)), .inr (.inl (.inl e_t17)), hf11, hp19, hw, by omega, by rw [← hLd]; omega, fun H101 t102 as103 s104 n105 e_t102 hA_t102 => ?_⟩
      rw [← hLd] at hA_t102
      have ne_t102 : t102 ≠ b := (hB.ne_new n105).symm
      have n0_t102 : H t102 = none := keep_free' kH hB n105
      have ap_p3_t102 : p3 ≠ t102 := ne_of_none e_p3 n105
      have ap_t102_p3 := ap_p3_t102.symm
      have ap_t35_t102 : t35 ≠ t102 := ne_of_none e_t35 n105
      have ap_t102_t35 := ap_t35_t102.symm
      have ap_D_t102 : D ≠ t102 := ne_of_none e_D n105
      have ap_t102_D := ap_D_t102.symm
      have ap_t98_t102 : t98 ≠ t102 := ne_of_none e_t98 n105
      have ap_t102_t98 := ap_t98_t102.symm
      replace e_t9 := s104 _ _ e_t9
      replace e_t17 := s104 _ _ e_t17
      replace e_p3 := s104 _ _ e_p3
      replace e_t35 := s104 _ _ e_t35
      replace e_D := s104 _ _ e_D
      replace hA_D := prs_same s104 hA_D
      replace e_t98 := s104 _ _ e_t98
      replace hB := hB.same s104
      replace kH := kH.trans (Keep.of_same s104)
      have fd : Fi 1 (.list (nd L)) := fi_lst ⟨by omega, fun z hz => by have := hLt z hz; omega⟩
      refine ⟨_, rfl, _, rfl, _, rfl, _, rfl, t9, t17, fs10, ps18, N, who, _, _, rfl, .inr (.inl (.inl e_t9)), .inr (.inl (.inl e_t17)), hf11, hp19, hw, by omega, .lst (.inl (.inl e_t35)) (dp_nats _), fd.nar, fd.sh, fun H106 s107 => ?_⟩
      rw [← hLd, sameL_self]
      replace e_t9 := s107 _ _ e_t9
      replace e_t17 := s107 _ _ e_t17
      replace e_p3 := s107 _ _ e_p3
      replace e_t35 := s107 _ _ e_t35
      replace e_D := s107 _ _ e_D
      replace hA_D := prs_same s107 hA_D
      replace e_t98 := s107 _ _ e_t98
      replace e_t102 := s107 _ _ e_t102
      replace hA_t102 := prs_same s107 hA_t102
      replace hB := hB.same s107
      replace kH := kH.trans (Keep.of_same s107)
      refine ⟨(by show 3 ≤ sizeLine; decide), fun l108 nl108 => ?_⟩
      have ne_l108 : l108 ≠ b := (hB.ne_new nl108).symm
      have s109 : Same H106 (upd H106 l108 (.lst [.ref t98, .ref t102, .bl (true)])) := same_new nl108
      have e_l108 : upd H106 l108 (.lst [.ref t98, .ref t102, .bl (true)]) l108 = some (.lst [.ref t98, .ref t102, .bl (true)]) := upd_same
      revert s109 e_l108; generalize upd H106 l108 (.lst [.ref t98, .ref t102, .bl (true)]) = H110; intro s109 e_l108
      replace e_t9 := s109 _ _ e_t9
      replace e_t17 := s109 _ _ e_t17
      replace e_p3 := s109 _ _ e_p3
      replace e_t35 := s109 _ _ e_t35
      replace e_D := s109 _ _ e_D
      replace hA_D := prs_same s109 hA_D
      replace e_t98 := s109 _ _ e_t98
      replace e_t102 := s109 _ _ e_t102
      replace hA_t102 := prs_same s109 hA_t102
      replace hB := hB.same s109
      replace kH := kH.trans (Keep.of_same s109)
      first | refine st_set [some (.ref b), some (.int (N : Nat)), some (.ref t9), some (.ref t17), some (.str (PyData.shown (.list [td (fs10), td (ps18)]))), some (.int (who : Nat)), some (.ref t35), some (.ref D), some (.ref l52), some (.ref l71), some (.ref l108), none, none, none] ?_ rfl | refine st_eq [some (.ref b), some (.int (N : Nat)), some (.ref t9), some (.ref t17), some (.str (PyData.shown (.list [td (fs10), td (ps18)]))), some (.int (who : Nat)), some (.ref t35), some (.ref D), some (.ref l52), some (.ref l71), some (.ref l108), none, none, none] ?_ rfl
      refine ⟨_, rfl, _, rfl, _, rfl, ?_⟩
      try unfold tNil
      refine sort_prsL (K := K) (.inl (.inl e_D)) hA_D fun l111 bs112 nl111 hA_l111 => ?_
      have ne_l111 : l111 ≠ b := (hB.ne_new nl111).symm
      have s113 : Same H110 (upd H110 l111 (.lst (bs112.map V.ref))) := same_new nl111
      have e_l111 : upd H110 l111 (.lst (bs112.map V.ref)) l111 = some (.lst (bs112.map V.ref)) := upd_same
      replace hA_l111 := prs_same s113 hA_l111
      revert s113 e_l111 hA_l111; generalize upd H110 l111 (.lst (bs112.map V.ref)) = H114; intro s113 e_l111 hA_l111
      replace e_t9 := s113 _ _ e_t9
      replace e_t17 := s113 _ _ e_t17
      replace e_p3 := s113 _ _ e_p3
      replace e_t35 := s113 _ _ e_t35
      replace e_D := s113 _ _ e_D
      replace hA_D := prs_same s113 hA_D
      replace e_t98 := s113 _ _ e_t98
      replace e_t102 := s113 _ _ e_t102
      replace hA_t102 := prs_same s113 hA_t102
      replace e_l108 := s113 _ _ e_l108
      replace hB := hB.same s113
      replace kH := kH.trans (Keep.of_same s113)
      refine ⟨(by show 3 ≤ sizeLine; decide), fun l115 nl115 => ?_⟩
      have ne_l115 : l115 ≠ b := (hB.ne_new nl115).symm
      have s116 : Same H114 (upd H114 l115 (.lst [.ref t35, .ref l111, .bl (true)])) := same_new nl115
      have e_l115 : upd H114 l115 (.lst [.ref t35, .ref l111, .bl (true)]) l115 = some (.lst [.ref t35, .ref l111, .bl (true)]) := upd_same
      revert s116 e_l115; generalize upd H114 l115 (.lst [.ref t35, .ref l111, .bl (true)]) = H117; intro s116 e_l115
      replace e_t9 := s116 _ _ e_t9
      replace e_t17 := s116 _ _ e_t17
      replace e_p3 := s116 _ _ e_p3
      replace e_t35 := s116 _ _ e_t35
      replace e_D := s116 _ _ e_D
      replace hA_D := prs_same s116 hA_D
      replace e_t98 := s116 _ _ e_t98
      replace e_t102 := s116 _ _ e_t102
      replace hA_t102 := prs_same s116 hA_t102
      replace e_l108 := s116 _ _ e_l108
      replace e_l111 := s116 _ _ e_l111
      replace hA_l111 := prs_same s116 hA_l111
      replace hB := hB.same s116
      replace kH := kH.trans (Keep.of_same s116)
      have fk118 : Fi 3 (.list [.list (nd (L)), .list (((srt (mms (stp L)))).map pd), .bool (true)]) := fi_list (j := 2) (n := 3) (fa_cons ((fi_lst (⟨by omega, fun z hz => by have := hLt z hz; omega⟩)).up) (fa_cons (fi_prs (fps13 hL22 (by decide) (by decide) (by decide) hLt)) (fa_cons (((fi_bl).up).up) fa_nil))) rfl (by decide)
      refine ⟨_, _, _, rfl, .lst (.inl (.inl e_l108)) (.cons (.lst (.inl (.inl e_t98)) (dp_nats _)) (.cons (.lst (.inl (.inl e_t102)) (prs_dp hA_t102)) (.cons (.bl _) .nil))), .lst (.inl (.inl e_l115)) (.cons (.lst (.inl (.inl e_t35)) (dp_nats _)) (.cons (.lst (.inl (.inl e_l111)) (prs_dp hA_l111)) (.cons (.bl _) .nil))), Nat.lt_succ_of_le (Nat.le_trans fk118.depth (by decide)), fk118.nar, fun H119 s120 => ?_⟩
      replace e_t9 := s120 _ _ e_t9
      replace e_t17 := s120 _ _ e_t17
      replace e_p3 := s120 _ _ e_p3
      replace e_t35 := s120 _ _ e_t35
      replace e_D := s120 _ _ e_D
      replace hA_D := prs_same s120 hA_D
      replace e_t98 := s120 _ _ e_t98
      replace e_t102 := s120 _ _ e_t102
      replace hA_t102 := prs_same s120 hA_t102
      replace e_l108 := s120 _ _ e_l108
      replace e_l111 := s120 _ _ e_l111
      replace hA_l111 := prs_same s120 hA_l111
      replace e_l115 := s120 _ _ e_l115
      replace hB := hB.same s120
      replace kH := kH.trans (Keep.of_same s120)
      refine ⟨true, rfl, iteN ?_⟩
      exact ⟨kH, hB, e_t9, e_t17, e_p3, _, _, _, _, _, _, rfl⟩
    clear kH hB e_p3
    obtain ⟨kH, hB, e_t9, e_t17, e_p3, y_who, y_due, y_pairs, y_heard, y_told, y_again, rfl⟩ := hPv
    refine ⟨1, rfl, _, rfl, _, rfl, _, rfl, b, n + 818, 9, rfl, hB.mono (by omega), by decide, by decide, fun r121 H122 ra123 rb124 hB125 k126 => ?_⟩
    obtain ⟨y_hy127, hy127⟩ := hB.lst
    replace e_t9 := k126.tup hy127 e_t9
    replace e_t17 := k126.tup hy127 e_t17
    clear hB
    have hB := hB125
    replace kH := kH.trans k126
    refine ⟨_, _, rfl, rfl, 10, 9, rfl, rfl, ⟨by decide, by decide, by decide⟩, _, rfl, 10, 12, rfl, rfl, ⟨by decide, by decide, by decide⟩, (by show 5 ≤ sizeLine; decide), fun l128 nl128 => ?_⟩
    have s129 : Same H122 (upd H122 l128 (.tup [.int ((-1)), .int ((N : Int)), .int (((N : Int) + r121)), .int ((-((10 : Int) ^ Int.toNat 9))), .int (((10 : Int) ^ Int.toNat 12))])) := same_new nl128
    have e_l128 : upd H122 l128 (.tup [.int ((-1)), .int ((N : Int)), .int (((N : Int) + r121)), .int ((-((10 : Int) ^ Int.toNat 9))), .int (((10 : Int) ^ Int.toNat 12))]) l128 = some (.tup [.int ((-1)), .int ((N : Int)), .int (((N : Int) + r121)), .int ((-((10 : Int) ^ Int.toNat 9))), .int (((10 : Int) ^ Int.toNat 12))]) := upd_same
    revert s129 e_l128; generalize upd H122 l128 (.tup [.int ((-1)), .int ((N : Int)), .int (((N : Int) + r121)), .int ((-((10 : Int) ^ Int.toNat 9))), .int (((10 : Int) ^ Int.toNat 12))]) = H130; intro s129 e_l128
    replace e_t9 := s129 _ _ e_t9
    replace e_t17 := s129 _ _ e_t17
    replace hB := hB.same s129
    replace kH := kH.trans (Keep.of_same s129)
    refine ⟨l128, rfl, ⟨_, .inl (.inl e_l128)⟩, ?_⟩
    refine for_tup (xs := [V.int (-1), V.int (N : Int), V.int ((N : Int) + r121), V.int (-((10 : Int) ^ Int.toNat 9)), V.int ((10 : Int) ^ Int.toNat 12)]) (fun i σ H' => Keep b H H' ∧ Box (n + 818) H' b ∧ H' t9 = some (.tup (nv (fs10))) ∧ H' t17 = some (.tup (nv (ps18))) ∧ H' l128 = some (.tup [.int ((-1)), .int ((N : Int)), .int (((N : Int) + r121)), .int ((-((10 : Int) ^ Int.toNat 9))), .int (((10 : Int) ^ Int.toNat 12))]) ∧ ∃ y_far : Option V, σ = [some (.ref b), some (.int (N : Nat)), some (.ref t9), some (.ref t17), some (.str (PyData.shown (.list [td (fs10), td (ps18)]))), y_who, y_due, y_pairs, y_heard, y_told, y_again, y_far, none, none]) ⟨kH, hB, e_t9, e_t17, e_l128, _, rfl⟩ (fun i σ H' _ h => .inl (.inl h.2.2.2.2.1)) (fun i x σ Hj hx hPv => ?_) (fun σ Hj hPv => ?_)
    · clear kH hB e_t9 e_t17 e_l128
      obtain ⟨kH, hB, e_t9, e_t17, e_l128, y_far, rfl⟩ := hPv
      obtain ⟨u, rfl, hu, hu1, hu2⟩ : ∃ u : Int, x = .int u ∧ ¬ (0 ≤ u ∧ u < (N : Int)) ∧ -(2 ^ 60) < u ∧ u < 2 ^ 60 := by
        have hj : i < 5 := get_lt hx
        rcases (show i = 0 ∨ i = 1 ∨ i = 2 ∨ i = 3 ∨ i = 4 by omega) with z | z | z | z | z
        · subst z; exact ⟨_, (Option.some.inj hx).symm, by omega, by omega, by omega⟩
        · subst z; exact ⟨_, (Option.some.inj hx).symm, by omega, by omega, by omega⟩
        · subst z; exact ⟨_, (Option.some.inj hx).symm, by omega, by omega, by omega⟩
        · subst z; refine ⟨-(1000000000 : Int), (Option.some.inj hx).symm, by omega, by omega, by omega⟩
        · subst z; refine ⟨(1000000000000 : Int), (Option.some.inj hx).symm, by omega, by omega, by omega⟩
      refine st_set [some (.ref b), some (.int (N : Nat)), some (.ref t9), some (.ref t17), some (.str (PyData.shown (.list [td (fs10), td (ps18)]))), y_who, y_due, y_pairs, y_heard, y_told, y_again, some (.int (u)), none, none] ?_ rfl
      refine ⟨3, rfl, by decide, by decide, fun Dm nDm => ?_⟩
      refine lc_range (n := 3) (fun i H' => Same Hj H' ∧ H' Dm = some (.lst (List.replicate i (.int u)))) ⟨same_new nDm, upd_same⟩ (fun i H' hi hPv => ?_) (fun H' hPv => ?_)
      · obtain ⟨sm, eD⟩ := hPv
        refine ⟨rfl, yes_if ⟨_, rfl, _, rfl, _, rfl, _, rfl, (0 : Int) + (i : Nat), t9, t17, u, _, _, N, rfl, .inr (.inl (.inl (sm _ _ e_t9))), hf11.len, .inr (.inl (.inl (sm _ _ e_t17))), hp19.len, hu, by omega, by omega, fun H6 s6 => ⟨_, s6 _ _ eD, ?_, fun z o hz => ?_, ?_⟩⟩⟩
        · rw [List.length_replicate]; exact small1000 (by omega)
        · rw [upd_ne (ne_of_none hz nDm)]; exact s6 _ _ (sm _ _ hz)
        · rw [upd_same, List.replicate_succ']
      obtain ⟨sM, e_Dm⟩ := hPv
      replace e_Dm : H' Dm = some (.lst [.int u, .int u, .int u]) := e_Dm
      revert sM e_Dm; generalize H' = HM; intro sM e_Dm
      replace e_t9 := sM _ _ e_t9
      replace e_t17 := sM _ _ e_t17
      replace e_l128 := sM _ _ e_l128
      replace hB := hB.same sM
      replace kH := kH.trans (Keep.of_same sM)
      refine ⟨_, rfl, (by show 1 ≤ sizeLine; decide), fun l131 nl131 => ?_⟩
      have ne_l131 : l131 ≠ b := (hB.ne_new nl131).symm
      have s132 : Same HM (upd HM l131 (.lst [.int (u)])) := same_new nl131
      have e_l131 : upd HM l131 (.lst [.int (u)]) l131 = some (.lst [.int (u)]) := upd_same
      revert s132 e_l131; generalize upd HM l131 (.lst [.int (u)]) = H133; intro s132 e_l131
      replace e_t9 := s132 _ _ e_t9
      replace e_t17 := s132 _ _ e_t17
      replace e_l128 := s132 _ _ e_l128
      replace e_Dm := s132 _ _ e_Dm
      replace hB := hB.same s132
      replace kH := kH.trans (Keep.of_same s132)
      refine ⟨l131, 3, _, rfl, rfl, e_l131, by decide, by decide, (by show 1 * 3 ≤ sizeLine; decide), fun l134 nl134 => ?_⟩
      rw [show (List.replicate (Int.toNat 3) [V.int u]).flatten = [V.int u, V.int u, V.int u] from rfl]
      have ne_l134 : l134 ≠ b := (hB.ne_new nl134).symm
      have s135 : Same H133 (upd H133 l134 (.lst [.int (u), .int (u), .int (u)])) := same_new nl134
      have e_l134 : upd H133 l134 (.lst [.int (u), .int (u), .int (u)]) l134 = some (.lst [.int (u), .int (u), .int (u)]) := upd_same
      revert s135 e_l134; generalize upd H133 l134 (.lst [.int (u), .int (u), .int (u)]) = H136; intro s135 e_l134
      replace e_t9 := s135 _ _ e_t9
      replace e_t17 := s135 _ _ e_t17
      replace e_l128 := s135 _ _ e_l128
      replace e_Dm := s135 _ _ e_Dm
      replace e_l131 := s135 _ _ e_l131
      replace hB := hB.same s135
      replace kH := kH.trans (Keep.of_same s135)
      have fk137 : Fi 1 (.list [.int (u), .int (u), .int (u)]) := fi_list (j := 0) (n := 3) (fa_cons (fi_int (by omega)) (fa_cons (fi_int (by omega)) (fa_cons (fi_int (by omega)) fa_nil))) rfl (by decide)
      refine ⟨_, _, _, rfl, .lst (.inl (.inl e_Dm)) (.cons (.int _) (.cons (.int _) (.cons (.int _) .nil))), .lst (.inl (.inl e_l134)) (.cons (.int _) (.cons (.int _) (.cons (.int _) .nil))), Nat.lt_succ_of_le (Nat.le_trans fk137.depth (by decide)), fk137.nar, fun H138 s139 => ?_⟩
      replace e_t9 := s139 _ _ e_t9
      replace e_t17 := s139 _ _ e_t17
      replace e_l128 := s139 _ _ e_l128
      replace e_Dm := s139 _ _ e_Dm
      replace e_l131 := s139 _ _ e_l131
      replace e_l134 := s139 _ _ e_l134
      replace hB := hB.same s139
      replace kH := kH.trans (Keep.of_same s139)
      refine ⟨true, rfl, iteN ?_⟩
      exact ⟨kH, hB, e_t9, e_t17, e_l128, _, rfl⟩
    clear kH hB e_t9 e_t17 e_l128
    obtain ⟨kH, hB, e_t9, e_t17, e_l128, y_far, rfl⟩ := hPv
    refine ⟨_, rfl, _, rfl, (by show 2 ≤ sizeLine; decide), fun l140 nl140 => ?_⟩
    have ne_l140 : l140 ≠ b := (hB.ne_new nl140).symm
    have s141 : Same Hj (upd Hj l140 (.lst [.ref t9, .ref t17])) := same_new nl140
    have e_l140 : upd Hj l140 (.lst [.ref t9, .ref t17]) l140 = some (.lst [.ref t9, .ref t17]) := upd_same
    revert s141 e_l140; generalize upd Hj l140 (.lst [.ref t9, .ref t17]) = H142; intro s141 e_l140
    replace e_t9 := s141 _ _ e_t9
    replace e_t17 := s141 _ _ e_t17
    replace hB := hB.same s141
    replace kH := kH.trans (Keep.of_same s141)
    have fk143 : Fi 2 (.list [td (fs10), td (ps18)]) := fi_list (j := 1) (n := 2) (fa_cons (fi_tup hf11 (by omega)) (fa_cons (fi_tup hp19 (by omega)) fa_nil)) rfl (by decide)
    refine ⟨l140, _, rfl, .lst (.inl (.inl e_l140)) (.cons (.tup (.inl (.inl e_t9)) (dp_nats _)) (.cons (.tup (.inl (.inl e_t17)) (dp_nats _)) .nil)), fk143.lay, fk143.show_, Nat.le_trans fk143.depth (by decide), Nat.le_trans fk143.len (by decide), _, rfl, rfl, ?_⟩
    exact q_dec (Q := Q) rfl (q _ kH (hB.mono (by omega)))
end
end Pc
namespace Pc
open PySem PySem.Spec PyProof.Rows L2 RZ
section
variable {P : Program} {w : World} {K : PySem.W.Frag} {mg : Str → Option Value} {base : Heap}
/-! ### the law -/
def spLaw (K : PySem.W.Frag) : Sp := fun vs H Q _ => ∃ (a : Addr) (ns : List Int), vs = [.ref a] ∧ SqL K H a (ns.map V.int) ∧ ns.length ≤ 63 ∧ ∀ H', Q (.bl true) H'
theorem ok_law (T : Env K mg) {f : Addr} {fd : FuncData} (F : Fun K "law" "law" s_law f fd) : FnG P w K mg base CX0 9 f fd ["_law_script"] (spLaw K) := by
  have GC : FnOk P w K mg base CX0 1 T.f_cells T.d_cells ["_law_script", "_law_most"] (spCells K) := ok_cells T
  have GB : FnOk P w K mg base CX0 1 T.f_box T.d_box ["_law_script", "_law_k"] (spBox K) := ok_box T
  have GR : FnG P w K mg base CX0 8 T.f_right T.d_right ["_law_box_here"] spRight := ok_right T
  refine fun_g F sc_law (fun vs H Q E h => ?_) (fun cdv A outer s H vs Q E hr hgd h => ?_)
  · obtain ⟨a, ns, rfl, _⟩ := h
    rfl
  · obtain ⟨a, ns, rfl, hS, hn, q⟩ := h
    have h1 := hr.mono (show 1 ≤ 8 by decide)
    refine ⟨_, pss_cons (ps_set (i := 1) sc_law.nd rfl (.inl rfl) (pe_call GC h1 (by rfl) T.g_cells T.F_cells.kp T.b_cells .nil pass0 (pa_cons (pv 0) (pa_cons pe_int pa_nil)))) <|
      pss_cons (ps_for PassesOwn.never rfl (pi_range1 (by rfl) T.n_range (pa_cons (pe_callB call_len_seq (by rfl) T.n_len PySem.boot_len (pa_cons (pv 1) pa_nil)) pa_nil)) (pg_name (i := 2) sc_law.nd rfl (.inl rfl))
        (pss_cons (ps_set (i := 3) sc_law.nd rfl (.inr rfl) (pe_call GB h1 (by rfl) T.g_box T.F_box.kp T.b_box .nil pass0 (pa_cons (pv 1) (pa_cons (pv 2) pa_nil))))
        (pss_one (ps_if (pt_not (pt_val (pe_callB (cr_all rfl) (by rfl) T.n_all (by decide +kernel) (pa_cons
          (pe_lc (own := [("_law_turn", 4)]) (g := gName 4) (tt := tYes) rfl sc_law.nd (pi_range1 (by rfl) T.n_range (pa_cons pe_int pa_nil)) (blkOk_by (N := N_law) (sc := defScope s_law) (by decide +kernel))
            (fun _ _ _ _ _ => pg_name (i := 4) sc_law.nd rfl (.inl rfl)) (fun _ _ _ _ _ => pts_nil)
            (fun _ _ _ _ _ => pe_callG GR hr hgd (by rfl) T.g_right T.F_right.kp T.b_right .nil pass0 (pa_cons (pv 3) pa_nil))) pa_nil)))) (pss_one (ps_ret pe_bl)) pss_nil)))) <|
      pss_one (ps_ret pe_bl), ?_⟩
    refine ⟨.ref a, rfl, a, ns, 3, rfl, hS, hn, by decide, by decide, fun Hc p cs sc np ep hc1 hc2 => ?_⟩
    have hlen : (cs.map V.int).length = cs.length := List.length_map _
    refine ⟨.ref p, rfl, p, _, rfl, .inl (.inl (.inl ep)), _, rfl, by omega, by omega, ?_⟩
    have hj : ((cs.map V.int).length : Int).toNat = cs.length := by rw [hlen]; rfl
    rw [hj]
    refine for_range (fun i σ H' => H' p = some (.lst (cs.map V.int)) ∧ ∃ (y2 y3 y4 : Option V), σ = [some (.ref a), some (.ref p), y2, y3, y4]) ⟨ep, none, none, none, rfl⟩ (fun i σ H1 hi hPv => ?_) (fun σ H' hPv => q _)
    obtain ⟨ep1, y2, y3, y4, rfl⟩ := hPv
    refine ⟨.ref p, rfl, _, rfl, p, cs, i, ?_, .inl (.inl ep1), by omega, fun Hb b sb nb hBb => ?_⟩
    · show [V.ref p, V.int ((0 : Int) + (i : Nat))] = _
      rw [Int.zero_add]
    have epb := sb _ _ ep1
    have pb : p ≠ b := ne_of_none ep1 nb
    refine ⟨3, rfl, by decide, by decide, fun D nD => ?_⟩
    have bD : b ≠ D := hBb.ne_new nD
    have pD : p ≠ D := ne_of_none epb nD
    refine lc_range (n := 3) (fun j H' => H' p = some (.lst (cs.map V.int)) ∧ Box (1000 * (3 - j)) H' b ∧ H' D = some (.lst (List.replicate j (.bl true))))
      ⟨same_new nD _ _ epb, (hBb.same (same_new nD)).mono (by decide), upd_same⟩ (fun j H' hj hPv => ?_) (fun H' hPv => ?_)
    · obtain ⟨ep', hB', eD⟩ := hPv
      refine ⟨rfl, yes_if ⟨_, rfl, b, 1000 * (3 - (j + 1)), rfl, hB'.mono (by omega), fun H2 k2 hB2 => ⟨_, k2 _ _ bD.symm eD, ?_, ?_, ?_, ?_⟩⟩⟩
      · rw [List.length_replicate]; exact small1000 (by omega)
      · rw [upd_ne pD]; exact k2 _ _ pb ep'
      · exact hB2.keep (c := D) keep_upd bD
      · rw [upd_same, List.replicate_succ']
    · obtain ⟨ep', hB', eD⟩ := hPv
      refine ⟨D, List.replicate 3 true, rfl, by rw [List.map_replicate]; exact .inl (.inl eD), _, rfl, ?_⟩
      rw [all_rep]
      exact iteN ⟨ep', _, _, _, rfl⟩
end
end Pc
namespace Pc
open PySem PySem.Spec PyProof.Rows L2 RZ
theorem all_mk {l : PySem.W.OpenLaw} {w : World} {K : PySem.W.Frag} {h : Heap} {mg : Str → Option Value} {fa f_p_is_integer_below f_p_check_person f_p_people_of f_p_check_sizes f_p_followed_path f_p_path f_p_shows_path f_p_couples_on f_box f_take f_cells f_of f_strewn f_same f_paired f_random f_any_call f_some_calls f_sheet_of f_any_page f_ends_from f_refused f_right f_law C_NoPerson C_NoNumber C_NotResult f_i_NoPerson : Addr} (X : K.In h) (G : h.Ns mainGlobals mg) (hfa : mg "law" = some (.ref fa))
    {od_p_is_integer_below an_p_is_integer_below : Option Addr} {sl_p_is_integer_below : Array (Option Value)} {oc_p_is_integer_below kV_p_is_integer_below dc_p_is_integer_below pm_p_is_integer_below cd_p_is_integer_below ct_p_is_integer_below : Value}
    {od_p_check_person an_p_check_person : Option Addr} {sl_p_check_person : Array (Option Value)} {oc_p_check_person kV_p_check_person dc_p_check_person pm_p_check_person cd_p_check_person ct_p_check_person : Value}
    {od_p_people_of an_p_people_of : Option Addr} {sl_p_people_of : Array (Option Value)} {oc_p_people_of kV_p_people_of dc_p_people_of pm_p_people_of cd_p_people_of ct_p_people_of : Value}
    {od_p_check_sizes an_p_check_sizes : Option Addr} {sl_p_check_sizes : Array (Option Value)} {oc_p_check_sizes kV_p_check_sizes dc_p_check_sizes pm_p_check_sizes cd_p_check_sizes ct_p_check_sizes : Value}
    {od_p_followed_path an_p_followed_path : Option Addr} {sl_p_followed_path : Array (Option Value)} {oc_p_followed_path kV_p_followed_path dc_p_followed_path pm_p_followed_path cd_p_followed_path ct_p_followed_path : Value}
    {od_p_path an_p_path : Option Addr} {sl_p_path : Array (Option Value)} {oc_p_path kV_p_path dc_p_path pm_p_path cd_p_path ct_p_path : Value}
    {od_p_shows_path an_p_shows_path : Option Addr} {sl_p_shows_path : Array (Option Value)} {oc_p_shows_path kV_p_shows_path dc_p_shows_path pm_p_shows_path cd_p_shows_path ct_p_shows_path : Value}
    {od_p_couples_on an_p_couples_on : Option Addr} {sl_p_couples_on : Array (Option Value)} {oc_p_couples_on kV_p_couples_on dc_p_couples_on pm_p_couples_on cd_p_couples_on ct_p_couples_on : Value}
    {od_box an_box : Option Addr} {sl_box : Array (Option Value)} {oc_box kV_box dc_box pm_box cd_box ct_box : Value}
    {od_take an_take : Option Addr} {sl_take : Array (Option Value)} {oc_take kV_take dc_take pm_take cd_take ct_take : Value}
    {od_cells an_cells : Option Addr} {sl_cells : Array (Option Value)} {oc_cells kV_cells dc_cells pm_cells cd_cells ct_cells : Value}
    {od_of an_of : Option Addr} {sl_of : Array (Option Value)} {oc_of kV_of dc_of pm_of cd_of ct_of : Value}
    {od_strewn an_strewn : Option Addr} {sl_strewn : Array (Option Value)} {oc_strewn kV_strewn dc_strewn pm_strewn cd_strewn ct_strewn : Value}
    {od_same an_same : Option Addr} {sl_same : Array (Option Value)} {oc_same kV_same dc_same pm_same cd_same ct_same : Value}
    {od_paired an_paired : Option Addr} {sl_paired : Array (Option Value)} {oc_paired kV_paired dc_paired pm_paired cd_paired ct_paired : Value}
    {od_random an_random : Option Addr} {sl_random : Array (Option Value)} {oc_random kV_random dc_random pm_random cd_random ct_random : Value}
    {od_any_call an_any_call : Option Addr} {sl_any_call : Array (Option Value)} {oc_any_call kV_any_call dc_any_call pm_any_call cd_any_call ct_any_call : Value}
    {od_some_calls an_some_calls : Option Addr} {sl_some_calls : Array (Option Value)} {oc_some_calls kV_some_calls dc_some_calls pm_some_calls cd_some_calls ct_some_calls : Value}
    {od_sheet_of an_sheet_of : Option Addr} {sl_sheet_of : Array (Option Value)} {oc_sheet_of kV_sheet_of dc_sheet_of pm_sheet_of cd_sheet_of ct_sheet_of : Value}
    {od_any_page an_any_page : Option Addr} {sl_any_page : Array (Option Value)} {oc_any_page kV_any_page dc_any_page pm_any_page cd_any_page ct_any_page : Value}
    {od_ends_from an_ends_from : Option Addr} {sl_ends_from : Array (Option Value)} {oc_ends_from kV_ends_from dc_ends_from pm_ends_from cd_ends_from ct_ends_from : Value}
    {od_refused an_refused : Option Addr} {sl_refused : Array (Option Value)} {oc_refused kV_refused dc_refused pm_refused cd_refused ct_refused : Value}
    {od_right an_right : Option Addr} {sl_right : Array (Option Value)} {oc_right kV_right dc_right pm_right cd_right ct_right : Value}
    {od_law an_law : Option Addr} {sl_law : Array (Option Value)} {oc_law kV_law dc_law pm_law cd_law ct_law : Value}
    {nm_NoPerson qn_NoPerson : Str} {Nn_NoPerson : Addr} {bs_NoPerson : List Value} {sn_NoPerson : List Str} {sub_NoPerson : List Value} {ab_NoPerson : Bool} {col_NoPerson : Option Bool} {dd_NoPerson : Option Addr} {m0_NoPerson m1_NoPerson m2_NoPerson m3_NoPerson m5_NoPerson : Option Value} {od_i_NoPerson an_i_NoPerson : Option Addr} {sl_i_NoPerson : Array (Option Value)} {oc_i_NoPerson kV_i_NoPerson dc_i_NoPerson pm_i_NoPerson cd_i_NoPerson ct_i_NoPerson : Value}
    (a_p_is_integer_below : PySem.W.nsIn K mainGlobals "is_integer_below" = some (some (.ref f_p_is_integer_below))) (l_p_is_integer_below : K.lookup f_p_is_integer_below = some ⟨oc_p_is_integer_below, od_p_is_integer_below, .func (PySem.W.fnOf "is_integer_below" "is_integer_below" (defArgs s_p_is_integer_below) (defBody s_p_is_integer_below) (defScope s_p_is_integer_below) .none kV_p_is_integer_below dc_p_is_integer_below pm_p_is_integer_below an_p_is_integer_below cd_p_is_integer_below ct_p_is_integer_below), sl_p_is_integer_below⟩) (c_p_is_integer_below : PySem.W.codeIn K cd_p_is_integer_below "is_integer_below" = true) (k_p_is_integer_below : PySem.W.keepIn K (.ref f_p_is_integer_below) = true)
    (a_p_check_person : PySem.W.nsIn K mainGlobals "check_person" = some (some (.ref f_p_check_person))) (l_p_check_person : K.lookup f_p_check_person = some ⟨oc_p_check_person, od_p_check_person, .func (PySem.W.fnOf "check_person" "check_person" (defArgs s_p_check_person) (defBody s_p_check_person) (defScope s_p_check_person) .none kV_p_check_person dc_p_check_person pm_p_check_person an_p_check_person cd_p_check_person ct_p_check_person), sl_p_check_person⟩) (c_p_check_person : PySem.W.codeIn K cd_p_check_person "check_person" = true) (k_p_check_person : PySem.W.keepIn K (.ref f_p_check_person) = true)
    (a_p_people_of : PySem.W.nsIn K mainGlobals "people_of" = some (some (.ref f_p_people_of))) (l_p_people_of : K.lookup f_p_people_of = some ⟨oc_p_people_of, od_p_people_of, .func (PySem.W.fnOf "people_of" "people_of" (defArgs s_p_people_of) (defBody s_p_people_of) (defScope s_p_people_of) .none kV_p_people_of dc_p_people_of pm_p_people_of an_p_people_of cd_p_people_of ct_p_people_of), sl_p_people_of⟩) (c_p_people_of : PySem.W.codeIn K cd_p_people_of "people_of" = true) (k_p_people_of : PySem.W.keepIn K (.ref f_p_people_of) = true)
    (a_p_check_sizes : PySem.W.nsIn K mainGlobals "check_sizes" = some (some (.ref f_p_check_sizes))) (l_p_check_sizes : K.lookup f_p_check_sizes = some ⟨oc_p_check_sizes, od_p_check_sizes, .func (PySem.W.fnOf "check_sizes" "check_sizes" (defArgs s_p_check_sizes) (defBody s_p_check_sizes) (defScope s_p_check_sizes) .none kV_p_check_sizes dc_p_check_sizes pm_p_check_sizes an_p_check_sizes cd_p_check_sizes ct_p_check_sizes), sl_p_check_sizes⟩) (c_p_check_sizes : PySem.W.codeIn K cd_p_check_sizes "check_sizes" = true) (k_p_check_sizes : PySem.W.keepIn K (.ref f_p_check_sizes) = true)
    (a_p_followed_path : PySem.W.nsIn K mainGlobals "followed_path" = some (some (.ref f_p_followed_path))) (l_p_followed_path : K.lookup f_p_followed_path = some ⟨oc_p_followed_path, od_p_followed_path, .func (PySem.W.fnOf "followed_path" "followed_path" (defArgs s_p_followed_path) (defBody s_p_followed_path) (defScope s_p_followed_path) .none kV_p_followed_path dc_p_followed_path pm_p_followed_path an_p_followed_path cd_p_followed_path ct_p_followed_path), sl_p_followed_path⟩) (c_p_followed_path : PySem.W.codeIn K cd_p_followed_path "followed_path" = true) (k_p_followed_path : PySem.W.keepIn K (.ref f_p_followed_path) = true)
    (a_p_path : PySem.W.nsIn K mainGlobals "path" = some (some (.ref f_p_path))) (l_p_path : K.lookup f_p_path = some ⟨oc_p_path, od_p_path, .func (PySem.W.fnOf "path" "path" (defArgs s_p_path) (defBody s_p_path) (defScope s_p_path) .none kV_p_path dc_p_path pm_p_path an_p_path cd_p_path ct_p_path), sl_p_path⟩) (c_p_path : PySem.W.codeIn K cd_p_path "path" = true) (k_p_path : PySem.W.keepIn K (.ref f_p_path) = true)
    (a_p_shows_path : PySem.W.nsIn K mainGlobals "shows_path" = some (some (.ref f_p_shows_path))) (l_p_shows_path : K.lookup f_p_shows_path = some ⟨oc_p_shows_path, od_p_shows_path, .func (PySem.W.fnOf "shows_path" "shows_path" (defArgs s_p_shows_path) (defBody s_p_shows_path) (defScope s_p_shows_path) .none kV_p_shows_path dc_p_shows_path pm_p_shows_path an_p_shows_path cd_p_shows_path ct_p_shows_path), sl_p_shows_path⟩) (c_p_shows_path : PySem.W.codeIn K cd_p_shows_path "shows_path" = true) (k_p_shows_path : PySem.W.keepIn K (.ref f_p_shows_path) = true)
    (a_p_couples_on : PySem.W.nsIn K mainGlobals "couples_on" = some (some (.ref f_p_couples_on))) (l_p_couples_on : K.lookup f_p_couples_on = some ⟨oc_p_couples_on, od_p_couples_on, .func (PySem.W.fnOf "couples_on" "couples_on" (defArgs s_p_couples_on) (defBody s_p_couples_on) (defScope s_p_couples_on) .none kV_p_couples_on dc_p_couples_on pm_p_couples_on an_p_couples_on cd_p_couples_on ct_p_couples_on), sl_p_couples_on⟩) (c_p_couples_on : PySem.W.codeIn K cd_p_couples_on "couples_on" = true) (k_p_couples_on : PySem.W.keepIn K (.ref f_p_couples_on) = true)
    (a_box : PySem.W.nsIn K mainGlobals "_law_box" = some (some (.ref f_box))) (l_box : K.lookup f_box = some ⟨oc_box, od_box, .func (PySem.W.fnOf "_law_box" "_law_box" (defArgs s_box) (defBody s_box) (defScope s_box) .none kV_box dc_box pm_box an_box cd_box ct_box), sl_box⟩) (c_box : PySem.W.codeIn K cd_box "_law_box" = true) (k_box : PySem.W.keepIn K (.ref f_box) = true)
    (a_take : PySem.W.nsIn K mainGlobals "_law_take" = some (some (.ref f_take))) (l_take : K.lookup f_take = some ⟨oc_take, od_take, .func (PySem.W.fnOf "_law_take" "_law_take" (defArgs s_take) (defBody s_take) (defScope s_take) .none kV_take dc_take pm_take an_take cd_take ct_take), sl_take⟩) (c_take : PySem.W.codeIn K cd_take "_law_take" = true) (k_take : PySem.W.keepIn K (.ref f_take) = true)
    (a_cells : PySem.W.nsIn K mainGlobals "_law_cells" = some (some (.ref f_cells))) (l_cells : K.lookup f_cells = some ⟨oc_cells, od_cells, .func (PySem.W.fnOf "_law_cells" "_law_cells" (defArgs s_cells) (defBody s_cells) (defScope s_cells) .none kV_cells dc_cells pm_cells an_cells cd_cells ct_cells), sl_cells⟩) (c_cells : PySem.W.codeIn K cd_cells "_law_cells" = true) (k_cells : PySem.W.keepIn K (.ref f_cells) = true)
    (a_of : PySem.W.nsIn K mainGlobals "_law_of" = some (some (.ref f_of))) (l_of : K.lookup f_of = some ⟨oc_of, od_of, .func (PySem.W.fnOf "_law_of" "_law_of" (defArgs s_of) (defBody s_of) (defScope s_of) .none kV_of dc_of pm_of an_of cd_of ct_of), sl_of⟩) (c_of : PySem.W.codeIn K cd_of "_law_of" = true) (k_of : PySem.W.keepIn K (.ref f_of) = true)
    (a_strewn : PySem.W.nsIn K mainGlobals "_law_strewn" = some (some (.ref f_strewn))) (l_strewn : K.lookup f_strewn = some ⟨oc_strewn, od_strewn, .func (PySem.W.fnOf "_law_strewn" "_law_strewn" (defArgs s_strewn) (defBody s_strewn) (defScope s_strewn) .none kV_strewn dc_strewn pm_strewn an_strewn cd_strewn ct_strewn), sl_strewn⟩) (c_strewn : PySem.W.codeIn K cd_strewn "_law_strewn" = true) (k_strewn : PySem.W.keepIn K (.ref f_strewn) = true)
    (a_same : PySem.W.nsIn K mainGlobals "_law_same" = some (some (.ref f_same))) (l_same : K.lookup f_same = some ⟨oc_same, od_same, .func (PySem.W.fnOf "_law_same" "_law_same" (defArgs s_same) (defBody s_same) (defScope s_same) .none kV_same dc_same pm_same an_same cd_same ct_same), sl_same⟩) (c_same : PySem.W.codeIn K cd_same "_law_same" = true) (k_same : PySem.W.keepIn K (.ref f_same) = true)
    (a_paired : PySem.W.nsIn K mainGlobals "_law_paired" = some (some (.ref f_paired))) (l_paired : K.lookup f_paired = some ⟨oc_paired, od_paired, .func (PySem.W.fnOf "_law_paired" "_law_paired" (defArgs s_paired) (defBody s_paired) (defScope s_paired) .none kV_paired dc_paired pm_paired an_paired cd_paired ct_paired), sl_paired⟩) (c_paired : PySem.W.codeIn K cd_paired "_law_paired" = true) (k_paired : PySem.W.keepIn K (.ref f_paired) = true)
    (a_random : PySem.W.nsIn K mainGlobals "_law_random" = some (some (.ref f_random))) (l_random : K.lookup f_random = some ⟨oc_random, od_random, .func (PySem.W.fnOf "_law_random" "_law_random" (defArgs s_random) (defBody s_random) (defScope s_random) .none kV_random dc_random pm_random an_random cd_random ct_random), sl_random⟩) (c_random : PySem.W.codeIn K cd_random "_law_random" = true) (k_random : PySem.W.keepIn K (.ref f_random) = true)
    (a_any_call : PySem.W.nsIn K mainGlobals "_law_any_call" = some (some (.ref f_any_call))) (l_any_call : K.lookup f_any_call = some ⟨oc_any_call, od_any_call, .func (PySem.W.fnOf "_law_any_call" "_law_any_call" (defArgs s_any_call) (defBody s_any_call) (defScope s_any_call) .none kV_any_call dc_any_call pm_any_call an_any_call cd_any_call ct_any_call), sl_any_call⟩) (c_any_call : PySem.W.codeIn K cd_any_call "_law_any_call" = true) (k_any_call : PySem.W.keepIn K (.ref f_any_call) = true)
    (a_some_calls : PySem.W.nsIn K mainGlobals "_law_some_calls" = some (some (.ref f_some_calls))) (l_some_calls : K.lookup f_some_calls = some ⟨oc_some_calls, od_some_calls, .func (PySem.W.fnOf "_law_some_calls" "_law_some_calls" (defArgs s_some_calls) (defBody s_some_calls) (defScope s_some_calls) .none kV_some_calls dc_some_calls pm_some_calls an_some_calls cd_some_calls ct_some_calls), sl_some_calls⟩) (c_some_calls : PySem.W.codeIn K cd_some_calls "_law_some_calls" = true) (k_some_calls : PySem.W.keepIn K (.ref f_some_calls) = true)
    (a_sheet_of : PySem.W.nsIn K mainGlobals "_law_sheet_of" = some (some (.ref f_sheet_of))) (l_sheet_of : K.lookup f_sheet_of = some ⟨oc_sheet_of, od_sheet_of, .func (PySem.W.fnOf "_law_sheet_of" "_law_sheet_of" (defArgs s_sheet_of) (defBody s_sheet_of) (defScope s_sheet_of) .none kV_sheet_of dc_sheet_of pm_sheet_of an_sheet_of cd_sheet_of ct_sheet_of), sl_sheet_of⟩) (c_sheet_of : PySem.W.codeIn K cd_sheet_of "_law_sheet_of" = true) (k_sheet_of : PySem.W.keepIn K (.ref f_sheet_of) = true)
    (a_any_page : PySem.W.nsIn K mainGlobals "_law_any_page" = some (some (.ref f_any_page))) (l_any_page : K.lookup f_any_page = some ⟨oc_any_page, od_any_page, .func (PySem.W.fnOf "_law_any_page" "_law_any_page" (defArgs s_any_page) (defBody s_any_page) (defScope s_any_page) .none kV_any_page dc_any_page pm_any_page an_any_page cd_any_page ct_any_page), sl_any_page⟩) (c_any_page : PySem.W.codeIn K cd_any_page "_law_any_page" = true) (k_any_page : PySem.W.keepIn K (.ref f_any_page) = true)
    (a_ends_from : PySem.W.nsIn K mainGlobals "_law_ends_from" = some (some (.ref f_ends_from))) (l_ends_from : K.lookup f_ends_from = some ⟨oc_ends_from, od_ends_from, .func (PySem.W.fnOf "_law_ends_from" "_law_ends_from" (defArgs s_ends_from) (defBody s_ends_from) (defScope s_ends_from) .none kV_ends_from dc_ends_from pm_ends_from an_ends_from cd_ends_from ct_ends_from), sl_ends_from⟩) (c_ends_from : PySem.W.codeIn K cd_ends_from "_law_ends_from" = true) (k_ends_from : PySem.W.keepIn K (.ref f_ends_from) = true)
    (a_refused : PySem.W.nsIn K mainGlobals "_law_refused" = some (some (.ref f_refused))) (l_refused : K.lookup f_refused = some ⟨oc_refused, od_refused, .func (PySem.W.fnOf "_law_refused" "_law_refused" (defArgs s_refused) (defBody s_refused) (defScope s_refused) .none kV_refused dc_refused pm_refused an_refused cd_refused ct_refused), sl_refused⟩) (c_refused : PySem.W.codeIn K cd_refused "_law_refused" = true) (k_refused : PySem.W.keepIn K (.ref f_refused) = true)
    (a_right : PySem.W.nsIn K mainGlobals "_law_right" = some (some (.ref f_right))) (l_right : K.lookup f_right = some ⟨oc_right, od_right, .func (PySem.W.fnOf "_law_right" "_law_right" (defArgs s_right) (defBody s_right) (defScope s_right) .none kV_right dc_right pm_right an_right cd_right ct_right), sl_right⟩) (c_right : PySem.W.codeIn K cd_right "_law_right" = true) (k_right : PySem.W.keepIn K (.ref f_right) = true)
    (a_law : PySem.W.nsIn K mainGlobals "law" = some (some (.ref f_law))) (l_law : K.lookup f_law = some ⟨oc_law, od_law, .func (PySem.W.fnOf "law" "law" (defArgs s_law) (defBody s_law) (defScope s_law) .none kV_law dc_law pm_law an_law cd_law ct_law), sl_law⟩) (c_law : PySem.W.codeIn K cd_law "law" = true) (k_law : PySem.W.keepIn K (.ref f_law) = true)
    (aC_NoPerson : PySem.W.nsIn K mainGlobals "NoPerson" = some (some (.ref C_NoPerson)))
    (eC_NoPerson : PySem.W.subIn K (.ref C_NoPerson) (.type "BaseException") = some true)
    (tC_NoPerson : PySem.W.typeIn K (.ref C_NoPerson) = some (.type "type"))
    (is_NoPerson : PySem.W.isClsIn K C_NoPerson = true)
    (aC_NoNumber : PySem.W.nsIn K mainGlobals "NoNumber" = some (some (.ref C_NoNumber)))
    (eC_NoNumber : PySem.W.subIn K (.ref C_NoNumber) (.type "BaseException") = some true)
    (tC_NoNumber : PySem.W.typeIn K (.ref C_NoNumber) = some (.type "type"))
    (is_NoNumber : PySem.W.isClsIn K C_NoNumber = true)
    (aC_NotResult : PySem.W.nsIn K mainGlobals "NotResult" = some (some (.ref C_NotResult)))
    (eC_NotResult : PySem.W.subIn K (.ref C_NotResult) (.type "BaseException") = some true)
    (tC_NotResult : PySem.W.typeIn K (.ref C_NotResult) = some (.type "type"))
    (is_NotResult : PySem.W.isClsIn K C_NotResult = true)
    (xC_NoPerson : K.lookup C_NoPerson = some (excClassObj nm_NoPerson qn_NoPerson C_NoPerson Nn_NoPerson bs_NoPerson [.type "LookupError", .type "Exception", .type "BaseException", .type "object"] true sn_NoPerson sub_NoPerson ab_NoPerson col_NoPerson dd_NoPerson m0_NoPerson m1_NoPerson m2_NoPerson m3_NoPerson m5_NoPerson "LookupError.__new__"))
    (sa_NoPerson : PySem.W.findIn K (.ref C_NoPerson) "__setattr__" = some (some (.builtin "object.__setattr__")))
    (ga_NoPerson : PySem.W.findIn K (.ref C_NoPerson) "__getattribute__" = some (some (.builtin "BaseException.__getattribute__")))
    (gg_NoPerson : PySem.W.findIn K (.ref C_NoPerson) "__getattr__" = some none)
    (kC_NoPerson : PySem.W.keepIn K (.ref C_NoPerson) = true)
    (hC_NoPerson : PySem.W.hasDictIn K C_NoPerson = true)
    (cl_NoPerson : PySem.W.findIn K (.ref C_NoPerson) "__class__" = some (some (.builtin "object.__class__")))
    (mr_NoPerson : PySem.W.mroIn K C_NoPerson (.type "object") = some true)
    (iC_NoPerson : PySem.W.findIn K (.ref C_NoPerson) "__init__" = some (some (.ref f_i_NoPerson)))
    (tI_NoPerson : PySem.W.typeIn K (.ref f_i_NoPerson) = some (.type "function"))
    (lI_NoPerson : K.lookup f_i_NoPerson = some ⟨oc_i_NoPerson, od_i_NoPerson, .func (PySem.W.fnOf "__init__" "NoPerson.__init__" (defArgs s_i_NoPerson) (defBody s_i_NoPerson) (defScope s_i_NoPerson) .none kV_i_NoPerson dc_i_NoPerson pm_i_NoPerson an_i_NoPerson cd_i_NoPerson ct_i_NoPerson), sl_i_NoPerson⟩)
    (cI_NoPerson : PySem.W.codeIn K cd_i_NoPerson "NoPerson.__init__" = true)
    (kI_NoPerson : PySem.W.keepIn K (.ref f_i_NoPerson) = true)
    (su_NoPerson : PySem.W.subIn K (.ref C_NoPerson) (.ref C_NoPerson) = some true)
    (no_NoPerson : PySem.W.findIn K (.ref C_NoPerson) "person" = some none)
    (su_NoPerson_NoNumber : PySem.W.subIn K (.ref C_NoPerson) (.ref C_NoNumber) = some false)
    (su_NoPerson_NotResult : PySem.W.subIn K (.ref C_NoPerson) (.ref C_NotResult) = some false)
    (sb_NoPerson_LookupError : PySem.W.subIn K (.ref C_NoPerson) (.type "LookupError") = some true)
    (sb_NoPerson_IndexError : PySem.W.subIn K (.ref C_NoPerson) (.type "IndexError") = some false)
    (sb_NoPerson_KeyError : PySem.W.subIn K (.ref C_NoPerson) (.type "KeyError") = some false)
    (vV_LookupError : PySem.W.findCls K (.type "LookupError") (.type "type") "__init__" = some (.val (.builtin "LookupError.__init__")))
    (spG : PySem.W.specialIn K (.builtin "object.__class__") "__get__" = some (some (.builtin "getset_descriptor.__get__")))
    (tkG : PySem.W.takesIn K (.builtin "object.__class__") = some true)
    (z_isinstance : PySem.W.nsIn K mainGlobals "isinstance" = some none) (z_int : PySem.W.nsIn K mainGlobals "int" = some none) (z_bool : PySem.W.nsIn K mainGlobals "bool" = some none) (z_len : PySem.W.nsIn K mainGlobals "len" = some none) (z_list : PySem.W.nsIn K mainGlobals "list" = some none) (z_all : PySem.W.nsIn K mainGlobals "all" = some none) (z_min : PySem.W.nsIn K mainGlobals "min" = some none) (z_max : PySem.W.nsIn K mainGlobals "max" = some none) (z_range : PySem.W.nsIn K mainGlobals "range" = some none) (z_sorted : PySem.W.nsIn K mainGlobals "sorted" = some none) (z_abs : PySem.W.nsIn K mainGlobals "abs" = some none) (z_enumerate : PySem.W.nsIn K mainGlobals "enumerate" = some none) (z_tuple : PySem.W.nsIn K mainGlobals "tuple" = some none) (z_zip : PySem.W.nsIn K mainGlobals "zip" = some none) (z_str : PySem.W.nsIn K mainGlobals "str" = some none) (z_LookupError : PySem.W.nsIn K mainGlobals "LookupError" = some none) (z_IndexError : PySem.W.nsIn K mainGlobals "IndexError" = some none) (z_KeyError : PySem.W.nsIn K mainGlobals "KeyError" = some none) (z_repr : PySem.W.nsIn K mainGlobals "repr" = some none) :
    ∃ fd : FuncData, (∀ (s : Shared) (v : Value), BindsTo s fd ⟨[v], []⟩ [("_law_script", v)]) ∧ ∀ base : Heap, K.In base → base.Ns mainGlobals mg → FnG l.prog w K mg base CX0 9 fa fd ["_law_script"] (spLaw K) := by
  have e := hfa.symm.trans (PySem.W.mg_of X G a_law)
  cases e
  let T : Env K mg := {
    n_isinstance := PySem.W.mg_none_of X G z_isinstance,
    n_int := PySem.W.mg_none_of X G z_int,
    n_bool := PySem.W.mg_none_of X G z_bool,
    n_len := PySem.W.mg_none_of X G z_len,
    n_list := PySem.W.mg_none_of X G z_list,
    n_all := PySem.W.mg_none_of X G z_all,
    n_min := PySem.W.mg_none_of X G z_min,
    n_max := PySem.W.mg_none_of X G z_max,
    n_range := PySem.W.mg_none_of X G z_range,
    n_sorted := PySem.W.mg_none_of X G z_sorted,
    n_abs := PySem.W.mg_none_of X G z_abs,
    n_enumerate := PySem.W.mg_none_of X G z_enumerate,
    n_tuple := PySem.W.mg_none_of X G z_tuple,
    n_zip := PySem.W.mg_none_of X G z_zip,
    n_str := PySem.W.mg_none_of X G z_str,
    n_LookupError := PySem.W.mg_none_of X G z_LookupError,
    n_IndexError := PySem.W.mg_none_of X G z_IndexError,
    n_KeyError := PySem.W.mg_none_of X G z_KeyError,
    n_repr := PySem.W.mg_none_of X G z_repr,
    f_p_is_integer_below := f_p_is_integer_below, d_p_is_integer_below := _, F_p_is_integer_below := fun_mk (st := s_p_is_integer_below) l_p_is_integer_below c_p_is_integer_below k_p_is_integer_below, g_p_is_integer_below := PySem.W.mg_of X G a_p_is_integer_below,
    f_p_check_person := f_p_check_person, d_p_check_person := _, F_p_check_person := fun_mk (st := s_p_check_person) l_p_check_person c_p_check_person k_p_check_person, g_p_check_person := PySem.W.mg_of X G a_p_check_person,
    f_p_people_of := f_p_people_of, d_p_people_of := _, F_p_people_of := fun_mk (st := s_p_people_of) l_p_people_of c_p_people_of k_p_people_of, g_p_people_of := PySem.W.mg_of X G a_p_people_of,
    f_p_check_sizes := f_p_check_sizes, d_p_check_sizes := _, F_p_check_sizes := fun_mk (st := s_p_check_sizes) l_p_check_sizes c_p_check_sizes k_p_check_sizes, g_p_check_sizes := PySem.W.mg_of X G a_p_check_sizes,
    f_p_followed_path := f_p_followed_path, d_p_followed_path := _, F_p_followed_path := fun_mk (st := s_p_followed_path) l_p_followed_path c_p_followed_path k_p_followed_path, g_p_followed_path := PySem.W.mg_of X G a_p_followed_path,
    f_p_path := f_p_path, d_p_path := _, F_p_path := fun_mk (st := s_p_path) l_p_path c_p_path k_p_path, g_p_path := PySem.W.mg_of X G a_p_path,
    f_p_shows_path := f_p_shows_path, d_p_shows_path := _, F_p_shows_path := fun_mk (st := s_p_shows_path) l_p_shows_path c_p_shows_path k_p_shows_path, g_p_shows_path := PySem.W.mg_of X G a_p_shows_path,
    f_p_couples_on := f_p_couples_on, d_p_couples_on := _, F_p_couples_on := fun_mk (st := s_p_couples_on) l_p_couples_on c_p_couples_on k_p_couples_on, g_p_couples_on := PySem.W.mg_of X G a_p_couples_on,
    f_box := f_box, d_box := _, F_box := fun_mk (st := s_box) l_box c_box k_box, g_box := PySem.W.mg_of X G a_box,
    f_take := f_take, d_take := _, F_take := fun_mk (st := s_take) l_take c_take k_take, g_take := PySem.W.mg_of X G a_take,
    f_cells := f_cells, d_cells := _, F_cells := fun_mk (st := s_cells) l_cells c_cells k_cells, g_cells := PySem.W.mg_of X G a_cells,
    f_of := f_of, d_of := _, F_of := fun_mk (st := s_of) l_of c_of k_of, g_of := PySem.W.mg_of X G a_of,
    f_strewn := f_strewn, d_strewn := _, F_strewn := fun_mk (st := s_strewn) l_strewn c_strewn k_strewn, g_strewn := PySem.W.mg_of X G a_strewn,
    f_same := f_same, d_same := _, F_same := fun_mk (st := s_same) l_same c_same k_same, g_same := PySem.W.mg_of X G a_same,
    f_paired := f_paired, d_paired := _, F_paired := fun_mk (st := s_paired) l_paired c_paired k_paired, g_paired := PySem.W.mg_of X G a_paired,
    f_random := f_random, d_random := _, F_random := fun_mk (st := s_random) l_random c_random k_random, g_random := PySem.W.mg_of X G a_random,
    f_any_call := f_any_call, d_any_call := _, F_any_call := fun_mk (st := s_any_call) l_any_call c_any_call k_any_call, g_any_call := PySem.W.mg_of X G a_any_call,
    f_some_calls := f_some_calls, d_some_calls := _, F_some_calls := fun_mk (st := s_some_calls) l_some_calls c_some_calls k_some_calls, g_some_calls := PySem.W.mg_of X G a_some_calls,
    f_sheet_of := f_sheet_of, d_sheet_of := _, F_sheet_of := fun_mk (st := s_sheet_of) l_sheet_of c_sheet_of k_sheet_of, g_sheet_of := PySem.W.mg_of X G a_sheet_of,
    f_any_page := f_any_page, d_any_page := _, F_any_page := fun_mk (st := s_any_page) l_any_page c_any_page k_any_page, g_any_page := PySem.W.mg_of X G a_any_page,
    f_ends_from := f_ends_from, d_ends_from := _, F_ends_from := fun_mk (st := s_ends_from) l_ends_from c_ends_from k_ends_from, g_ends_from := PySem.W.mg_of X G a_ends_from,
    f_refused := f_refused, d_refused := _, F_refused := fun_mk (st := s_refused) l_refused c_refused k_refused, g_refused := PySem.W.mg_of X G a_refused,
    f_right := f_right, d_right := _, F_right := fun_mk (st := s_right) l_right c_right k_right, g_right := PySem.W.mg_of X G a_right,
    C_NoPerson := C_NoPerson, gC_NoPerson := PySem.W.mg_of X G aC_NoPerson,
    C_NoNumber := C_NoNumber, gC_NoNumber := PySem.W.mg_of X G aC_NoNumber,
    C_NotResult := C_NotResult, gC_NotResult := PySem.W.mg_of X G aC_NotResult,
    own_NoPerson := ⟨⟨nm_NoPerson, qn_NoPerson, Nn_NoPerson, bs_NoPerson, sn_NoPerson, sub_NoPerson, ab_NoPerson, col_NoPerson, dd_NoPerson, m0_NoPerson, m1_NoPerson, m2_NoPerson, m3_NoPerson, m5_NoPerson, xC_NoPerson⟩, over_of xC_NoPerson (by decide +kernel), sa_NoPerson, ga_NoPerson, gg_NoPerson, eC_NoPerson, tC_NoPerson, kC_NoPerson, hC_NoPerson, cl_NoPerson, mr_NoPerson⟩,
    kpt_NoPerson := ⟨ga_NoPerson, gg_NoPerson, eC_NoPerson, hC_NoPerson, cl_NoPerson, mr_NoPerson, spG, tkG⟩,
    f_i_NoPerson := f_i_NoPerson, d_i_NoPerson := _, F_i_NoPerson := fun_mk (st := s_i_NoPerson) lI_NoPerson cI_NoPerson kI_NoPerson, iC_NoPerson := iC_NoPerson, tI_NoPerson := tI_NoPerson, ee_NoPerson := exm_of' eC_NoPerson is_NoPerson tC_NoPerson su_NoPerson, kk_NoPerson := kit_own su_NoPerson is_NoPerson tC_NoPerson su_NoPerson,
    no_NoPerson := no_NoPerson,
    ex_NoPerson_NoNumber := exm_of' eC_NoNumber is_NoNumber tC_NoNumber su_NoPerson_NoNumber, ki_NoPerson_NoNumber := kit_own su_NoPerson is_NoNumber tC_NoNumber su_NoPerson_NoNumber,
    ex_NoPerson_NotResult := exm_of' eC_NotResult is_NotResult tC_NotResult su_NoPerson_NotResult, ki_NoPerson_NotResult := kit_own su_NoPerson is_NotResult tC_NotResult su_NoPerson_NotResult,
    kb_NoPerson_LookupError := kit_blt (by decide +kernel) sb_NoPerson_LookupError,
    kb_NoPerson_IndexError := kit_blt (by decide +kernel) sb_NoPerson_IndexError,
    kb_NoPerson_KeyError := kit_blt (by decide +kernel) sb_NoPerson_KeyError,
    vV_LookupError := vV_LookupError }
  exact ⟨PySem.W.fnOf "law" "law" (defArgs s_law) (defBody s_law) (defScope s_law) .none kV_law dc_law pm_law an_law cd_law ct_law, fun s v => .of_eq rfl, fun base _ _ => ok_law T (fun_mk (st := s_law) l_law c_law k_law)⟩
end Pc
open PySem PySem.W PyProof.Rows
set_option maxHeartbeats 0 in
theorem PySem.Challenge.cw_partnercall_k13_paths_holds : PySem.Challenge.rw_partnercall_k13_paths.Holds := by
  w_on; o_law; k_head; (case hw => w_witness2)
  k_fill
  refine Pc.walk_g (l := PySem.Challenge.rw_partnercall_k13_paths) (n := 63) (k := 9) (x := "_law_script") (sp := fun w => Pc.spLaw _) rfl (by decide) rfl ⟨rfl, by decide, by decide⟩ (fun w h Y => PySem.W.kIn_of Y) ?F (fun _ _ a ns hl hS => ⟨a, ns, rfl, hS, hl, fun _ => rfl⟩)
  case F =>
    intro w mg fa h KX G hmg
    refine' Pc.all_mk KX G hmg ?a_p_is_integer_below ?l_p_is_integer_below ?c_p_is_integer_below ?k_p_is_integer_below ?a_p_check_person ?l_p_check_person ?c_p_check_person ?k_p_check_person ?a_p_people_of ?l_p_people_of ?c_p_people_of ?k_p_people_of ?a_p_check_sizes ?l_p_check_sizes ?c_p_check_sizes ?k_p_check_sizes ?a_p_followed_path ?l_p_followed_path ?c_p_followed_path ?k_p_followed_path ?a_p_path ?l_p_path ?c_p_path ?k_p_path ?a_p_shows_path ?l_p_shows_path ?c_p_shows_path ?k_p_shows_path ?a_p_couples_on ?l_p_couples_on ?c_p_couples_on ?k_p_couples_on ?a_box ?l_box ?c_box ?k_box ?a_take ?l_take ?c_take ?k_take ?a_cells ?l_cells ?c_cells ?k_cells ?a_of ?l_of ?c_of ?k_of ?a_strewn ?l_strewn ?c_strewn ?k_strewn ?a_same ?l_same ?c_same ?k_same ?a_paired ?l_paired ?c_paired ?k_paired ?a_random ?l_random ?c_random ?k_random ?a_any_call ?l_any_call ?c_any_call ?k_any_call ?a_some_calls ?l_some_calls ?c_some_calls ?k_some_calls ?a_sheet_of ?l_sheet_of ?c_sheet_of ?k_sheet_of ?a_any_page ?l_any_page ?c_any_page ?k_any_page ?a_ends_from ?l_ends_from ?c_ends_from ?k_ends_from ?a_refused ?l_refused ?c_refused ?k_refused ?a_right ?l_right ?c_right ?k_right ?a_law ?l_law ?c_law ?k_law ?aC_NoPerson ?eC_NoPerson ?tC_NoPerson ?is_NoPerson ?aC_NoNumber ?eC_NoNumber ?tC_NoNumber ?is_NoNumber ?aC_NotResult ?eC_NotResult ?tC_NotResult ?is_NotResult ?xC_NoPerson ?sa_NoPerson ?ga_NoPerson ?gg_NoPerson ?kC_NoPerson ?hC_NoPerson ?cl_NoPerson ?mr_NoPerson ?iC_NoPerson ?tI_NoPerson ?lI_NoPerson ?cI_NoPerson ?kI_NoPerson ?su_NoPerson ?no_NoPerson ?su_NoPerson_NoNumber ?su_NoPerson_NotResult ?sb_NoPerson_LookupError ?sb_NoPerson_IndexError ?sb_NoPerson_KeyError ?vV_LookupError ?spG ?tkG ?z_isinstance ?z_int ?z_bool ?z_len ?z_list ?z_all ?z_min ?z_max ?z_range ?z_sorted ?z_abs ?z_enumerate ?z_tuple ?z_zip ?z_str ?z_LookupError ?z_IndexError ?z_KeyError ?z_repr
    (case a_p_is_integer_below => k_is); (case l_p_is_integer_below => k_is); (case c_p_is_integer_below => k_is); (case k_p_is_integer_below => k_is); (case a_p_check_person => k_is); (case l_p_check_person => k_is); (case c_p_check_person => k_is); (case k_p_check_person => k_is); (case a_p_people_of => k_is); (case l_p_people_of => k_is); (case c_p_people_of => k_is); (case k_p_people_of => k_is); (case a_p_check_sizes => k_is); (case l_p_check_sizes => k_is); (case c_p_check_sizes => k_is); (case k_p_check_sizes => k_is); (case a_p_followed_path => k_is); (case l_p_followed_path => k_is); (case c_p_followed_path => k_is); (case k_p_followed_path => k_is); (case a_p_path => k_is); (case l_p_path => k_is); (case c_p_path => k_is); (case k_p_path => k_is); (case a_p_shows_path => k_is); (case l_p_shows_path => k_is); (case c_p_shows_path => k_is); (case k_p_shows_path => k_is); (case a_p_couples_on => k_is); (case l_p_couples_on => k_is); (case c_p_couples_on => k_is); (case k_p_couples_on => k_is); (case a_box => k_is); (case l_box => k_is); (case c_box => k_is); (case k_box => k_is); (case a_take => k_is); (case l_take => k_is); (case c_take => k_is); (case k_take => k_is); (case a_cells => k_is); (case l_cells => k_is); (case c_cells => k_is); (case k_cells => k_is); (case a_of => k_is); (case l_of => k_is); (case c_of => k_is); (case k_of => k_is); (case a_strewn => k_is); (case l_strewn => k_is); (case c_strewn => k_is); (case k_strewn => k_is); (case a_same => k_is); (case l_same => k_is); (case c_same => k_is); (case k_same => k_is); (case a_paired => k_is); (case l_paired => k_is); (case c_paired => k_is); (case k_paired => k_is); (case a_random => k_is); (case l_random => k_is); (case c_random => k_is); (case k_random => k_is); (case a_any_call => k_is); (case l_any_call => k_is); (case c_any_call => k_is); (case k_any_call => k_is); (case a_some_calls => k_is); (case l_some_calls => k_is); (case c_some_calls => k_is); (case k_some_calls => k_is); (case a_sheet_of => k_is); (case l_sheet_of => k_is); (case c_sheet_of => k_is); (case k_sheet_of => k_is); (case a_any_page => k_is); (case l_any_page => k_is); (case c_any_page => k_is); (case k_any_page => k_is); (case a_ends_from => k_is); (case l_ends_from => k_is); (case c_ends_from => k_is); (case k_ends_from => k_is); (case a_refused => k_is); (case l_refused => k_is); (case c_refused => k_is); (case k_refused => k_is); (case a_right => k_is); (case l_right => k_is); (case c_right => k_is); (case k_right => k_is); (case a_law => k_is); (case l_law => k_is); (case c_law => k_is); (case k_law => k_is); (case aC_NoPerson => k_is); (case eC_NoPerson => k_is); (case tC_NoPerson => k_is); (case is_NoPerson => k_is); (case aC_NoNumber => k_is); (case eC_NoNumber => k_is); (case tC_NoNumber => k_is); (case is_NoNumber => k_is); (case aC_NotResult => k_is); (case eC_NotResult => k_is); (case tC_NotResult => k_is); (case is_NotResult => k_is); (case xC_NoPerson => k_is); (case sa_NoPerson => k_is); (case ga_NoPerson => k_is); (case gg_NoPerson => k_is); (case kC_NoPerson => k_is); (case hC_NoPerson => k_is); (case cl_NoPerson => k_is); (case mr_NoPerson => k_is); (case iC_NoPerson => k_is); (case tI_NoPerson => k_is); (case lI_NoPerson => k_is); (case cI_NoPerson => k_is); (case kI_NoPerson => k_is); (case su_NoPerson => k_is); (case no_NoPerson => k_is); (case su_NoPerson_NoNumber => k_is); (case su_NoPerson_NotResult => k_is); (case sb_NoPerson_LookupError => k_is); (case sb_NoPerson_IndexError => k_is); (case sb_NoPerson_KeyError => k_is); (case vV_LookupError => k_is); (case spG => k_is); (case tkG => k_is); (case z_isinstance => k_is); (case z_int => k_is); (case z_bool => k_is); (case z_len => k_is); (case z_list => k_is); (case z_all => k_is); (case z_min => k_is); (case z_max => k_is); (case z_range => k_is); (case z_sorted => k_is); (case z_abs => k_is); (case z_enumerate => k_is); (case z_tuple => k_is); (case z_zip => k_is); (case z_str => k_is); (case z_LookupError => k_is); (case z_IndexError => k_is); (case z_KeyError => k_is); (case z_repr => k_is)
