import PyProof.Rows.All
import Wide.All
import OpenK.AllK
import Wide.FinOn
import HandS.ForMost
import HandS.IsInst
import HandS.Zip
import HandS.Style
import HandS.Walk
import HandS.Flow
import HandS.Conv
import HandS.RaiseMore
import HandS.NoneIn
import HandS.WordsList
import HandS.Deep
import HandS.Exc
import HandS.ExcOwn
import HandS.WordsExc
import HandS.ExcInit
import HandS.ExcIs
import KE.KExcIs
import KE.KExcInit
import KE.KTryMore
import HandS.SortRule
import HandS.SortInts
import HandS.Strs
import PySem.Challenge.RW_partnercall_k97_other_sizes
set_option Elab.async false
set_option linter.all false
set_option maxRecDepth 100000
set_option maxHeartbeats 4000000
namespace RZ
end RZ
namespace Pc
open PySem PySem.Spec PyProof.Rows L2 RZ
/-! ### heaps -/
/-- all that was tracked, but for b, is as it was -/
def Keep (b : Addr) (H H' : Hp) : Prop := ∀ a o, a ≠ b → H a = some o → H' a = some o
theorem Keep.refl (b : Addr) (H : Hp) : Keep b H H := fun _ _ _ h => h
theorem Keep.trans {b : Addr} {H H1 H2 : Hp} (p : Keep b H H1) (q : Keep b H1 H2) : Keep b H H2 := fun a o n h => q a o n (p a o n h)
theorem Keep.of_same {b : Addr} {H H' : Hp} (s : Same H H') : Keep b H H' := fun a o _ h => s a o h
theorem same_new {H : Hp} {p : Addr} {o : HO} (h : H p = none) : Same H (upd H p o) := fun b x e => by
  rw [upd_ne (ne_of_none e h)]; exact e
theorem keep_upd {H : Hp} {b : Addr} {o : HO} : Keep b H (upd H b o) := fun a x n e => by
  rw [upd_ne n]; exact e
/-- a list, a tuple under Keep -/
theorem Keep.tup {b : Addr} {H H' : Hp} (k : Keep b H H') {a : Addr} {xs ys : List V} (hb : H b = some (.lst ys)) (h : H a = some (.tup xs)) : H' a = some (.tup xs) :=
  k a _ (fun e => by rw [e, hb] at h; cases h) h
/-! ### small numbers -/
theorem one0 (c : Prop) [Decidable c] : (0 : Int) ≤ (if c then 1 else 0) ∧ (if c then (1 : Int) else 0) ≤ 1 := by
  split <;> decide
theorem in64 {i : Int} (h : 0 ≤ i ∧ i ≤ 1) : -(2 ^ 64) < i ∧ i < 2 ^ 64 := ⟨by omega, by omega⟩
/-! ### the source of draws -/
/-- at b a source that serves n more draws -/
def Box (n : Nat) (H : Hp) (b : Addr) : Prop := ∃ x y z : Int, H b = some (.lst [.int x, .int y, .int z]) ∧ 0 ≤ x ∧ 0 ≤ y ∧ y < 2 ^ 62 ∧ 0 ≤ z ∧ z + n ≤ 1000000000
theorem Box.lst {n : Nat} {H : Hp} {b : Addr} (h : Box n H b) : ∃ ys, H b = some (.lst ys) := let ⟨_, _, _, e, _⟩ := h; ⟨_, e⟩
theorem Box.mono {n m : Nat} {H : Hp} {b : Addr} (h : Box n H b) (l : m ≤ n) : Box m H b := by
  obtain ⟨x, y, z, e, h1, h2, h3, h4, h5⟩ := h
  exact ⟨x, y, z, e, h1, h2, h3, h4, by omega⟩
theorem Box.same {n : Nat} {H H' : Hp} {b : Addr} (h : Box n H b) (s : Same H H') : Box n H' b := by
  obtain ⟨x, y, z, e, r⟩ := h
  exact ⟨x, y, z, s _ _ e, r⟩
theorem Box.keep {n : Nat} {H H' : Hp} {b c : Addr} (h : Box n H b) (k : Keep c H H') (d : b ≠ c) : Box n H' b := by
  obtain ⟨x, y, z, e, r⟩ := h
  exact ⟨x, y, z, k _ _ d e, r⟩
theorem Box.ne_new {n : Nat} {H : Hp} {b p : Addr} (h : Box n H b) (np : H p = none) : b ≠ p := by
  obtain ⟨x, y, z, e, r⟩ := h
  exact ne_of_none e np
end Pc
namespace Pc
open PySem PySem.Spec PyProof.Rows L2 RZ
/-! ### errors of the program: made -/
section
open PySem.W Builtin Builtin.ObjectAttr
variable {prog : Program} {w : World} {A : Around} {R : Result → Shared → Prop} {hp : Heap} {g : Array GenState} {d : Drawn} {t : Nat} {os : OsState} {B : String} {bmB : List Value}
/-- the first field of an error that has no dict yet -/
theorem osa_first {K : Frag} {f : Str} {tk : Tok} {v : Value} {x C : Addr} {fv : Array Value} {cd : ClassData} (SF : StoreFacts B bmB "object.__setattr__" "object") (X : K.In hp)
    (hx : hp.get? x = some { cls := .ref C, data := .fields fv }) (hcd : clsIn K C = some cd) (ho : excOver K C bmB = true) (hh : cd.hasDict = true) (hf : takerIn K C f = some none)
    (hq : ∀ h' tk' dx, (∀ b o, b ≠ x → hp.get? b = some o → h'.get? b = some o) → hp.objs.size ≤ dx → dx ≠ x →
      h'.get? x = some { cls := .ref C, dict := some dx, data := .fields fv } → h'.Ns1 dx (fun y => if y = f then some v else none) → R (.ok (.ret .none)) ⟨h', g, d, tk', os⟩) :
    codeAny (model prog w) A (.call (.builtin "object.__setattr__") ⟨[.ref x, .str f tk, v], []⟩) R ⟨hp, g, d, t, os⟩ := by
  have hne : x ≠ hp.objs.size := fun e => absurd (Heap.lt_size hx) (by rw [← e]; exact Nat.lt_irrefl x)
  have LC : Looks (model prog w) hp (classData C) cd := looks_clsIn X hcd
  refine osa_openX (s := ⟨hp, g, d, t, os⟩) (od := none) SF X ⟨hx, rfl, rfl, trivial⟩ ho hf fun b => ?_
  obtain ⟨c1, c2, c3, c4, c5, c6, c7, c8, c9, c10, c11⟩ := cd
  dsimp only at hh; subst hh
  dsimp only
  unfold storeInOwnDict ownDictForStores
  repeat (first | with_reducible refine HandSPX.store_in_new ?_ ?_ | with_reducible refine wpAny_loadPart_at hx ?_ | with_reducible refine LC.at ?_ | wp_step)
  · exact ⟨_, #[], _, (Heap.get?_update_ne _ _ _ _ hne.symm).trans (Heap.get?_push_at rfl rfl), rfl, fun e he => absurd he (by simp), fun _ => rfl⟩
  · intro h' tk' n1 n2
    refine hq h' tk' hp.objs.size (fun b o q r => ?_) (Nat.le_refl _) hne.symm ?_ n1
    · exact (n2.2 b (Nat.ne_of_lt (Heap.lt_size r))).trans ((Heap.get?_update_ne _ _ _ _ q).trans (Heap.get?_push_of_some _ r))
    · exact (n2.2 x hne).trans (Heap.get?_update_self _ (Heap.get?_push_of_some _ hx) rfl)
end
/-- what is known of a built-in error class -/
structure Bs (B newId initId : String) (bmB : List Value) : Prop where
  fb : ExcBaseFacts B newId initId bmB
  sf : StoreFacts B bmB "object.__setattr__" "object"
theorem bsV : Bs "ValueError" "ValueError.__new__" "ValueError.__init__" [.type "ValueError", .type "Exception", .type "BaseException", .type "object"] := ⟨F.excBase_ValueError, F.store_ValueError⟩
/-- an error class of the program, straight over a built-in one -/
structure Own (K : PySem.W.Frag) (newId : String) (bmB : List Value) (C : Addr) : Prop where
  cls : ∃ nm q N bs sn sub ab col dd k0 k1 k2 k3 k5, K.lookup C = some (excClassObj nm q C N bs bmB true sn sub ab col dd k0 k1 k2 k3 k5 newId)
  over : PySem.W.excOver K C bmB = true
  sa : PySem.W.findIn K (.ref C) "__setattr__" = some (some (.builtin "object.__setattr__"))
  ga : PySem.W.findIn K (.ref C) "__getattribute__" = some (some (.builtin "BaseException.__getattribute__"))
  gg : PySem.W.findIn K (.ref C) "__getattr__" = some none
  exC : PySem.W.subIn K (.ref C) (.type "BaseException") = some true
  tyC : PySem.W.typeIn K (.ref C) = some (.type "type")
  kC : PySem.W.keepIn K (.ref C) = true
  hdC : PySem.W.hasDictIn K C = true
  clC : PySem.W.findIn K (.ref C) "__class__" = some (some (.builtin "object.__class__"))
  mrO : PySem.W.mroIn K C (.type "object") = some true
theorem Own.data {K : PySem.W.Frag} {newId : String} {bmB : List Value} {C : Addr} (T : Own K newId bmB C) : ∃ cd, PySem.W.clsIn K C = some cd ∧ cd.hasDict = true := by
  obtain ⟨nm, q, N, bs, sn, sub, ab, col, dd, k0, k1, k2, k3, k5, e⟩ := T.cls
  refine ⟨{ name := nm, bases := bs, mro := .ref C :: bmB, ns := N, qualname := q, hasDict := true, slotNames := sn, subclasses := sub, abstract := ab, collection := col, hasDel := false }, ?_, rfl⟩
  unfold PySem.W.clsIn
  rw [e] <;> rfl
theorem taker_of {K : PySem.W.Frag} {C : Addr} {f : Str} (h : PySem.W.findIn K (.ref C) f = some none) : PySem.W.takerIn K C f = some none := by
  unfold PySem.W.takerIn
  rw [h]; rfl
section
variable {X : Cx} {pins : List (Addr × Obj)} {σ : L2.St} {H H1 H2 : Hp} {s : Shared} {a C dx : Addr} {f : Str} {newId initId B : String} {bmB : List Value}
/-- an object that stands in the heap, untracked and not of the entry, is tracked from now on -/
theorem adopt {o : HO} (I : Inv X pins σ H s) (hn : H a = none) (n0 : X.s_0.heap.get? a = none) (nL : a ≠ X.env.locals) (nC : ∀ x c, X.env.cells.lookup x = some c → c ≠ a) (nP : ∀ p ∈ X.pn ++ pins, p.1 ≠ a)
    (new : ObjOk X.prog X.w (upd H a o) s.heap a o) : Inv X pins σ (upd H a o) s := by
  have up : ∀ {b : Addr} {u : HO}, H b = some u → upd H a o b = some u := fun {b u} e => by rw [upd_ne (ne_of_none e hn)]; exact e
  refine ⟨I.ok, I.os, I.bare, ⟨I.base.keep, I.base.slot, fun b q e n x => ?_, I.base.there, fun b xs e => up (I.base.tups b xs e), fun b q u e => up (I.base.frzs b q u e), fun b ps e => ?_⟩, I.loc, I.cell, ?_, fun x c e => ?_, fun p hp => ?_, fun b u e => ?_, I.len⟩
  · rw [upd_ne (fun z => by rw [z, n0] at e; cases e)]
    exact I.base.free b q e n x
  · obtain ⟨m, z⟩ := I.base.tbls b ps e
    exact ⟨m, up z⟩
  · rw [upd_ne (Ne.symm nL)]; exact I.free
  · rw [upd_ne (nC x c e)]; exact I.freeC x c e
  · obtain ⟨e, n, r⟩ := I.pin p hp
    exact ⟨e, by rw [upd_ne (nP p hp)]; exact n, r⟩
  · by_cases hb : b = a
    · subst hb
      rw [upd_same] at e; cases e
      exact new
    · rw [upd_ne hb] at e
      exact (I.hok b u e).stay (fun _ _ _ z => z) (fun c z => up z) (fun c xs z => up z)
theorem low_ne {n : Nat} {b a : Addr} (h : b < n) (h' : n ≤ a) : b ≠ a := Nat.ne_of_lt (Nat.lt_of_lt_of_le h h')
/-- self.f = y -/
theorem ost_one {y : V} {u : Value} {Q : Unit → Shared → Prop} {E : Value → Shared → Prop} {A : Around} (T : Own X.K newId bmB C) (SF : StoreFacts B bmB "object.__setattr__" "object") (I : Inv X pins σ H s) (e : H a = some (exo a C none)) (hno : PySem.W.findIn X.K (.ref C) f = some none) (ry : RelV y u)
    (h : ∀ dx s', H dx = none → dx ≠ a → Inv X pins σ (upd (upd H a (exo a C (some dx))) dx (exd dx [(f, y)])) s' → Q () s') : wpAny (model X.prog X.w) A (setAttr (.ref a) f u) Q E s := by
  obtain ⟨cd, hcd, hh⟩ := T.data
  obtain ⟨t1, ho⟩ := exo_at I.hok e
  obtain ⟨hp, g, d, t, os⟩ := s
  refine PySem.W.set_plain I.kIn (ox := { cls := .ref C, dict := none, data := .fields #[.ref t1, .none, .none, .none, .bool false, .none] }) (od := none) ⟨ho, rfl, rfl, trivial⟩ T.sa ?_
  refine osa_first SF I.kIn ho hcd T.over hh (taker_of hno) fun h' tk' dx k dn dne hx hns => ?_
  have hnd : H dx = none := I.hok.fresh dn
  have J := I.write (t' := tk') (x := a) (e := a) (o := exo a C (some dx)) (by rw [e]; exact True.intro) (.inl rfl) k ⟨_, hx⟩ (exo_ok hx)
  refine h dx _ hnd dne (adopt J (by rw [upd_ne dne]; exact hnd) ?_ ?_ ?_ ?_ (exd_ok hns (relO_put (fs := []) ry fun _ => True.intro)))
  · cases z : X.s_0.heap.get? dx with
    | none => rfl
    | some o => exact absurd rfl (low_ne (Nat.lt_of_lt_of_le (Heap.lt_size z) I.sz) dn)
  · exact Ne.symm (low_ne I.lt dn)
  · intro x c ec
    obtain ⟨v, ob, eo, _⟩ := I.cell x c ec
    exact low_ne (Heap.lt_size eo) dn
  · intro p hp'
    exact low_ne (Heap.lt_size (I.pin p hp').1) dn
/-- B.__init__(self, ..) -/
theorem oinit_any {us : List Value} {Q : Value → Shared → Prop} {E : Value → Shared → Prop} {A : Around} (T : Own X.K newId bmB C) (F : ExcBaseFacts B newId initId bmB) (I : Inv X pins σ H s) (e : H a = some (exo a C none)) (hl : us.length ≤ sizeLine) (h : ∀ s', Inv X pins σ H s' → Q .none s') :
    wpAny (model X.prog X.w) A (call (.builtin initId) (.ref a :: us)) Q E s := by
  obtain ⟨nm, q, N, bs, sn, sub, ab, col, dd, k0, k1, k2, k3, k5, hC⟩ := T.cls
  obtain ⟨t1, ho⟩ := exo_at I.hok e
  obtain ⟨hp, g, d, t, os⟩ := s
  refine wpAny_call (HandSPX.init_base F (fun _ => rfl) (I.kIn _ _ hC) ho hl fun h' t2 k hx => ?_)
  have J := I.write (t' := t) (x := a) (e := a) (o := exo a C none) (by rw [e]; exact True.intro) (.inl rfl) k ⟨_, hx⟩ (exo_ok hx)
  have eu : upd H a (exo a C none) = H := by
    funext b
    unfold upd
    split
    · rename_i z; rw [z, e]
    · rfl
  rw [eu] at J
  exact h _ J
def tBi (K : PySem.W.Frag) (newId : String) (bmB : List Value) (ta : TA) : TE := fun σ H Q => ta σ H fun vs H1 => ∃ (a C : Addr) (ws : List V), vs = .ref a :: ws ∧ ws.length ≤ 1000 ∧ Own K newId bmB C ∧ H1 a = some (exo a C none) ∧ Q .non H1
def tOs (K : PySem.W.Frag) (newId : String) (bmB : List Value) (f : Str) (to te : TE) : TS := fun D σ H => te σ H fun y H1 => to σ H1 fun x H2 => ∃ a C : Addr, x = .ref a ∧ Own K newId bmB C ∧ PySem.W.findIn K (.ref C) f = some none ∧ H2 a = some (exo a C none) ∧
  ∀ dx, H2 dx = none → dx ≠ a → D.nx σ (upd (upd H2 a (exo a C (some dx))) dx (exd dx [(f, y)]))
theorem pe_binit {n : Str} {o e : Expr} {es : List Expr} {ta : TA} {p1 p2 pos : Pos} {pl : Sem Bool} (F : ExcBaseFacts B newId initId bmB) (hg : Gl X n) (hm : X.mg n = none) (hv : bootBuiltins n = some (.type B)) (hn : n ≠ "__name__") (hdb : (n == ("__debug__" : Str)) = false)
    (hty : typeOf (.type B) = pure (.type "type")) (hst : Manifest.isStub B = false) (hha : PySem.W.handedIn (.builtin initId) = true) (vV : PySem.W.findCls X.K (.type B) (.type "type") "__init__" = some (.val (.builtin initId))) (ha : PA X (e :: es) ta)
    (hc : eval (.Call (.Attribute (.Name n p1) "__init__" p2) (e :: es) [] pos) X.env = (do
      let ov ← eval (.Name n p1) X.env
      standAt p2.atName
      let (f, first) ← holding [ov] (getMethod ov "__init__" pl)
      callWith pos f first (backTo pos (starEach (e :: es) X.env)) (backToKw pos (keywordEach [] X.env))) := by rfl)
    (he : starEach (e :: es) X.env = (false, eval e X.env) :: starEach es X.env := by rfl) (hpl : (backTo pos (starEach es X.env)).any (·.1) = false := by rfl) :
    PE X (.Call (.Attribute (.Name n p1) "__init__" p2) (e :: es) [] pos) (tBi X.K newId bmB ta) := by
  refine ⟨fun pins s σ H Q I h => PySem.W.methodCall_KW (ld_blt I hg hm hv ?_ hn hdb) hc⟩
  obtain ⟨m, fr⟩ := I.fr
  refine PySem.W.method_type fr I.ok.mod.kin hty hst vV hha ?_
  show wpAny _ _ (callWith pos (Value.builtin initId) [] (backTo pos (starEach (e :: es) X.env)) []) _ _ _
  refine PyProof.Rows.callWith_method1 (thn (ha.run pos pins _ σ H _ (I.tok _) h) fun us s1 ⟨vs, H1, I1, r1, a, C, ws, ev, hl, T, ea, q⟩ => ?_) he hpl
  subst ev
  cases r1 with
  | @cons _ u0 _ ur ra rr =>
    obtain rfl : u0 = Value.ref a := ra
    exact oinit_any T F I1 ea (by rw [← Paired.length rr, sizeLine_eq]; omega) fun s' J => ⟨.non, H1, J, rfl, q⟩
theorem ps_os {o e : Expr} {to te : TE} {p' pos : Pos} (SF : StoreFacts B bmB "object.__setattr__" "object") (ho : PE X o to) (he : PE X e te) (hs : swapsWith e (some (.Attribute o f p')) pos.line X.env = pure false := by rfl) : PS X (.Assign [.Attribute o f p'] e pos) (tOs X.K newId bmB f to te) := by
  refine ⟨fun pins s σ H D I h => plainObj_wpAny_Assign_Attribute (thn (he.run pins s σ H _ I h) fun v s1 ⟨y, H1, I1, r1, q1⟩ => thn (ho.run pins s1 σ H1 _ I1 q1) fun u s2 ⟨x, H2, I2, r2, a, C, ex, T, hno, ea, q⟩ => ?_) hs⟩
  subst ex
  obtain rfl : u = Value.ref a := r2
  exact ost_one T SF I2 ea hno r1 fun dx s' n ne J => ⟨σ, _, J, q dx n ne⟩
/-- the new error is let go: the heap without it -/
theorem mk_gone {hp hp2 h2 : Heap} {g1 g2 : Array GenState} {d1 d2 : Drawn} {t1 t2 : Nat} {os1 os2 : OsState} {dv : Option Addr} (I1 : Inv X pins σ H1 ⟨hp, g1, d1, t1, os1⟩)
    (ha : hp.objs.size ≤ a) (k : ∀ b o, hp.get? b = some o → hp2.get? b = some o) (un : Un (frs X.stack) [] (upd H1 a (exo a C none)) H2 hp2 h2) (hok : HOk X.prog X.w H2 h2) (ho : os2 = os1) (hb : AllBare g2) (ea : H2 a = some (exo a C dv)) :
    ∃ (t0 : Addr) (G : Heap), Inv X pins σ (del H2 a) ⟨G, g2, d2, t2, os2⟩ ∧ (∀ b o, G.get? b = some o → h2.get? b = some o) ∧ G.get? a = none ∧
      h2.get? a = some ({ cls := .ref C, dict := dv, data := .fields #[.ref t0, .none, .none, .none, .bool false, .none] } : Obj) := by
  obtain ⟨t0, hoe⟩ := exo_at hok ea
  have hn : H1 a = none := I1.hok.fresh ha
  obtain ⟨G, g1', g2'⟩ := restrict h2 fun b => decide (b ≠ a)
  have gk : ∀ b, b ≠ a → G.get? b = h2.get? b := fun b q => g1' b (decide_eq_true q)
  have ga : G.get? a = none := g2' a (decide_eq_false (fun z => z rfl))
  have na : ∀ {b : Addr} {o : Obj}, hp.get? b = some o → b ≠ a := fun q => low_ne (Heap.lt_size q) ha
  have up : ∀ {b : Addr}, b ≠ a → H1 b = none → upd H1 a (exo a C none) b = none := fun q n => by rw [upd_ne q]; exact n
  have tr : ∀ {b : Addr} {u : HO}, H1 b = some u → upd H1 a (exo a C none) b = some u ∧ b ≠ a := fun q => ⟨by rw [upd_ne (ne_of_none q hn)]; exact q, ne_of_none q hn⟩
  have U : Un (frs X.stack) [] H1 (del H2 a) hp G := {
    keep := fun b o z n hf hx => by rw [gk b (na z)]; exact un.keep b o (k b o z) (up (na z) n) hf hx
    slot := fun b o z n hf hx => by rw [gk b (na z)]; exact un.slot b o (k b o z) (up (na z) n) hf hx
    free := fun b o z n hx => by rw [del_ne (na z)]; exact un.free b o (k b o z) (up (na z) n) hx
    there := fun b o z hx => by rw [gk b (na z)]; exact un.there b o (k b o z) hx
    tups := fun b xs z => by rw [del_ne (tr z).2]; exact un.tups b xs (tr z).1
    frzs := fun b o v z => by rw [del_ne (tr z).2]; exact un.frzs b o v (tr z).1
    tbls := fun b ps z => by rw [del_ne (tr z).2]; exact un.tbls b ps (tr z).1 }
  have hok3 : HOk X.prog X.w (del H2 a) G := fun b o z => by
    have hba : b ≠ a := fun e => by rw [e, del_same] at z; cases z
    rw [del_ne hba] at z
    have noa : ∀ {c : Addr}, H2 c = some (.own b) → c ≠ a := fun hc => at_ne ea hc exo_own
    refine (hok b o z).stay (fun c v hc y => ?_) (fun c hc => by rw [del_ne (noa hc)]; exact hc) (fun c xs hc => by rw [del_ne (at_ne ea hc exo_tup)]; exact hc)
    have hca : c ≠ a := hc.elim (fun q => by rw [q]; exact hba) noa
    rw [gk c hca]; exact y
  have J : Inv X pins σ (del H2 a) ⟨G, g2, d2, t2, os2⟩ := I1.call' (ch := []) ho U hok3 hb (fun b z => absurd z (by simp))
  refine ⟨t0, G, J, fun b o z => ?_, ga, hoe⟩
  by_cases hba : b = a
  · rw [hba, ga] at z; cases z
  · exact (gk b hba).symm.trans z
/-- C(e, ..), C's own __init__ keeping sp -/
def tMkE (C : Addr) (sp : Sp) (ta : TA) : L2.St → Hp → XK → Prop := fun σ H Q => ta σ H fun vs H1 => vs.length ≤ 1000 ∧ ∀ a, H1 a = none → sp (.ref a :: vs) (upd H1 a (exo a C none))
  (fun v H2 => v = .non ∧ ((H2 a = some (exo a C none) ∧ Q (.ref C) none (del H2 a)) ∨ ∃ (d : Addr) (fs : List (Str × V)), H2 a = some (exo a C (some d)) ∧ H2 d = some (exd d fs) ∧ Q (.ref C) (some d) (upd (del H2 a) d (.xd fs)))) (fun _ _ _ => False)
/-- what such a call leaves -/
theorem made_run {vs : List V} {us : List Value} {fI : Addr} {k : Nat} {fd : FuncData} {ps : List Str} {sp : Sp} {Q : XK} {CX : CXT} (T : Own X.K newId bmB C) (F : ExcBaseFacts B newId initId bmB) (iC : PySem.W.findIn X.K (.ref C) "__init__" = some (some (.ref fI))) (tI : PySem.W.typeIn X.K (.ref fI) = some (.type "function"))
    (F1 : FnOk X.prog X.w X.K X.mg X.base CX k fI fd ps sp) (hr : Room (k + 1) X.A) (hb : Binds X.K fd ps []) (hx : Passes CX X (fun _ _ _ => False)) (I1 : Inv X pins σ H1 s) (r1 : Vals vs us) (hz : vs.length ≤ 1000)
    (q1 : ∀ a, H1 a = none → sp (.ref a :: vs) (upd H1 a (exo a C none)) (fun v H2 => v = .non ∧ ((H2 a = some (exo a C none) ∧ Q (.ref C) none (del H2 a)) ∨ ∃ (d : Addr) (fs : List (Str × V)), H2 a = some (exo a C (some d)) ∧ H2 d = some (exd d fs) ∧ Q (.ref C) (some d) (upd (del H2 a) d (.xd fs)))) (fun _ _ _ => False)) :
    wpAny (model X.prog X.w) X.A (call (.ref C) us) (MkP X pins σ Q) X.xe s := by
  obtain ⟨nm, q, N, bs, sn, sub, ab, col, dd, k0, k1, k2, k3, k5, hC⟩ := T.cls
  obtain ⟨hp, g, dr, tk, os⟩ := s
  have hsz : hp.objs.size ≤ hp.objs.size + 1 := Nat.le_succ _
  have hq := q1 (hp.objs.size + 1) (I1.hok.fresh hsz)
  obtain ⟨hp2, ehp⟩ : ∃ hp2, hp2 = (hp.push (PySem.W.kdv_tup us)).push (HandSPX.excO C hp.objs.size) := ⟨_, rfl⟩
  have kk : ∀ b o, hp.get? b = some o → hp2.get? b = some o := fun b o e => by rw [ehp]; exact Heap.get?_push_of_some _ (Heap.get?_push_of_some _ e)
  have hget : hp2.get? (hp.objs.size + 1) = some (HandSPX.excO C hp.objs.size) := by rw [ehp]; heap_get
  have I2 : Inv X pins σ (upd H1 (hp.objs.size + 1) (exo (hp.objs.size + 1) C none)) ⟨hp2, g, dr, tk, os⟩ := I1.laid (t' := tk) kk hsz (exo_ok hget)
  have r2 : Vals (V.ref (hp.objs.size + 1) :: vs) (Value.ref (hp.objs.size + 1) :: us) := .cons rfl r1
  have hl : (Value.ref (hp.objs.size + 1) :: us ++ []).length = ps.length := by
    rw [List.append_nil, ← r2.length]; exact F1.len _ _ _ _ hq
  have hus : us.length ≤ sizeLine := by rw [← Paired.length r1, sizeLine_eq]; omega
  refine wpAny_call (HandSPX.call_own F (fun _ => rfl) (I1.kIn _ _ hC) (PySem.W.looks_findIn I1.kIn iC) (fun self => PySem.W.bind_fn I1.kIn self tI) hus ?_)
  rw [← ehp]
  refine codeAny_mono (F1.run _ X.stack _ _ ⟨Value.ref (hp.objs.size + 1) :: us, []⟩ (Value.ref (hp.objs.size + 1) :: us) _ _ (fun _ _ _ => False) (hr.make C us []) (I2.env0.make C us []) ?_ r2 hq) fun r s' hq' => ?_
  · have z := hb ⟨hp2, g, dr, tk, os⟩ (Value.ref (hp.objs.size + 1) :: us) I2.kIn hl
    rw [List.append_nil] at z; exact z
  cases r with
  | error er => exact hx pins σ _ _ er s' I2 hq'
  | ok fl =>
    cases fl with
    | ret u =>
      obtain ⟨v, H2, os2, bare2, un2, hok2, rv, ev, alt⟩ := hq'
      subst ev
      obtain ⟨h2, g2, d2, t2, os'⟩ := s'
      refine ⟨rv, ?_⟩
      rcases alt with ⟨ea, q2⟩ | ⟨d, fs, ea, ed, q2⟩
      · obtain ⟨t0, G, J, kG, ge, hoe⟩ := mk_gone (d2 := d2) (t2 := t2) I1 hsz kk un2 hok2 os2 bare2 ea
        exact ⟨_, _, _, ⟨G, g2, d2, t2, os'⟩, _, .ref C, none, rfl, J, kG, ge, hoe, ⟨rfl, rfl⟩, rfl, rfl, del_same, rfl, bare2, raises_own T.exC T.tyC, q2⟩
      · obtain ⟨t0, G, J, kG, ge, hoe⟩ := mk_gone (d2 := d2) (t2 := t2) I1 hsz kk un2 hok2 os2 bare2 ea
        have hda : d ≠ hp.objs.size + 1 := fun z => by
          rw [z] at ed
          obtain ⟨mA, ⟨ob, es, ep, e1, e2, _⟩, _⟩ := exd_at hok2 ed
          rw [hoe] at e1
          have z2 := Option.some.inj e1
          subst z2
          cases e2
        have ed' : del H2 (hp.objs.size + 1) d = some (exd d fs) := by rw [del_ne hda]; exact ed
        obtain ⟨mA, ns, rel⟩ := exd_at J.hok ed'
        have J2 := J.write (t' := t2) (h' := G) (x := d) (e := d) (o := .xd fs) (by rw [ed']; exact True.intro) (.inl rfl) (fun _ _ _ z => z) (by obtain ⟨ob, _, _, e1, _⟩ := ns; exact ⟨ob, e1⟩) ⟨mA, ns, rel⟩
        exact ⟨_, _, _, ⟨G, g2, d2, t2, os'⟩, _, .ref C, some d, rfl, J2, kG, ge, hoe, ⟨rfl, rfl⟩, rfl, rfl, by rw [upd_ne (Ne.symm hda)]; exact del_same, rfl, bare2, raises_own T.exC T.tyC, q2⟩
    | next => exact False.elim hq'
    | brk => exact False.elim hq'
    | cont => exact False.elim hq'
theorem pmk_e {x : Str} {fI : Addr} {k : Nat} {fd : FuncData} {ps : List Str} {sp : Sp} {CX : CXT} {e : Expr} {es : List Expr} {ta : TA} {p pos : Pos} (T : Own X.K newId bmB C) (F : ExcBaseFacts B newId initId bmB) (iC : PySem.W.findIn X.K (.ref C) "__init__" = some (some (.ref fI))) (tI : PySem.W.typeIn X.K (.ref fI) = some (.type "function"))
    (F1 : FnOk X.prog X.w X.K X.mg X.base CX k fI fd ps sp) (hr : Room (k + 1) X.A) (hb : Binds X.K fd ps []) (hx : Passes CX X (fun _ _ _ => False)) (hg : Gl X x) (hm : X.mg x = some (.ref C)) (ha : PA X (e :: es) ta)
    (hdb : (x == ("__debug__" : Str)) = false := by decide) (he : starEach (e :: es) X.env = (false, eval e X.env) :: starEach es X.env := by rfl) (hpl : (backTo pos (starEach es X.env)).any (·.1) = false := by rfl) :
    PMk X (.Call (.Name x p) (e :: es) [] pos) (tMkE C sp ta) := by
  intro pins s σ H Q I h
  refine wpAny_Call_Name_kw (ld_glob I hg hm ?_ hdb)
  exact PySem.W.callWith_K (h₀ := X.base) I.ok.mod.kin T.kC (thn (ha.run pos pins s σ H _ I h) fun us s1 ⟨vs, H1, I1, r1, hz, q1⟩ => ⟨I1.kIn, made_run T F iC tI F1 hr hb hx I1 r1 hz q1⟩) he hpl
end
end Pc
namespace Pc
open PySem PySem.Spec PyProof.Rows L2 RZ
/-! ### errors of the program: caught, kept, looked at -/
section
open PySem.W
variable {M : Model} {K : Frag} {h : Heap}
theorem Looks.bind' {α β : Type} {x : Sem α} {f : α → Sem β} {a : α} {b : β} (hx : Looks M h x a) (hf : Looks M h (f a) b) : Looks M h (x >>= f) b := fun A Q E s k q =>
  wpAny_bind (hx A _ E s k (hf A Q E s k q))
theorem loop_all {α β : Type} {f : α → β → Sem (ForInStep β)} {b : β} : ∀ cs : List α, (∀ c ∈ cs, Looks M h (f c b) (.yield b)) → Looks M h (forIn cs b f) b
  | [], _ => by rw [List.forIn_nil]; exact .now
  | c :: cs, hc => by
    rw [List.forIn_cons]
    exact Looks.bind' (hc c List.mem_cons_self) (loop_all cs fun c' h' => hc c' (List.mem_cons_of_mem _ h'))
theorem loop_any {α β : Type} {f : α → β → Sem (ForInStep β)} {b b1 : β} : ∀ (bs : List Bool) (cs : List α), bs.length = cs.length → bs.any id = true → (∀ (i : Nat) (c : α) (y : Bool), cs[i]? = some c → bs[i]? = some y → Looks M h (f c b) (if y = true then .done b1 else .yield b)) → Looks M h (forIn cs b f) b1
  | [], [], _, e, _ => absurd e (by decide)
  | y :: bs, c :: cs, hl, e, hc => by
    rw [List.forIn_cons]
    have h0 := hc 0 c y rfl rfl
    cases y with
    | true => exact Looks.bind' h0 .now
    | false => exact Looks.bind' h0 (loop_any bs cs (Nat.succ.inj hl) e fun i c' y' h1 h2 => hc (i + 1) c' y' h1 h2)
/-- an except clause with several classes, of which one is the error's -/
theorem exm_some {cls : Value} {cs : List Value} {tp e : Addr} {o : Obj} {n : Nat} (X : K.In h) (LT : Looks M h (typeOf (.ref e)) cls) (hp : h.get? tp = some o) (hc : o.cls = .type "tuple") (hd : o.data = .seq cs.toArray n) (bs : List Bool) (hl : bs.length = cs.length) (hb : bs.any id = true)
    (hx : ∀ (i : Nat) (c : Value) (y : Bool), cs[i]? = some c → bs[i]? = some y → exmOne K cls c = some y) : Looks M h (excMatches (.ref e) (.ref tp)) true := by
  have at_ : ∀ c ∈ cs, ∃ y, exmOne K cls c = some y := fun c hm => by
    obtain ⟨i, hi, rfl⟩ := List.getElem_of_mem hm
    exact ⟨bs[i]'(by omega), hx i _ _ (List.getElem?_eq_getElem hi) (List.getElem?_eq_getElem _)⟩
  have L0 : Looks M h (isInstance (.ref tp) (.type "tuple")) true := fun A Q E s k q => by
    refine wpAny_bind (wpAny_typeOf_ref (k _ _ hp) ?_)
    rw [hc]
    exact (Looks.of_pure isSubtype_tuple_tuple) A Q E s k q
  unfold excMatches
  refine Looks.bind' L0 ?_
  dsimp only
  rw [if_pos rfl]
  refine Looks.bind' (a := some cs.toArray) (fun A Q E s k q => wpAny_seqItems (k _ _ hp) hd q) ?_
  refine Looks.bind' (a := cs) .now ?_
  refine Looks.bind' (a := PUnit.unit) (loop_all cs fun c hm => ?_) ?_
  · obtain ⟨y, hy⟩ := at_ c hm
    refine Looks.bind' (exm_cls X hy).1 ?_
    exact .now
  refine Looks.bind' LT ?_
  refine Looks.bind' (loop_any (b1 := (some true, ())) bs cs hl hb fun i c y h1 h2 => Looks.bind' (exm_cls X (hx i c y h1 h2)).2 ?_) ?_
  · cases y <;> exact .now
  · exact .now
end
end Pc
namespace Pc
open PySem PySem.Spec PyProof.Rows L2 RZ
/-- an error that was caught and is kept: its class, its dict -/
def exk (a : Addr) (cls : Value) (d : Option Addr) : HO := .ext fun h => ∃ (oe : Obj) (vs : Array Value), h.get? a = some oe ∧ Zc cls d oe ∧ oe.data = .fields vs
theorem exk_ok {P : Program} {w : World} {H : Hp} {h : Heap} {a : Addr} {cls : Value} {d : Option Addr} {oe : Obj} {vs : Array Value} (e : h.get? a = some oe) (z : Zc cls d oe) (q : oe.data = .fields vs) : ObjOk P w H h a (exk a cls d) :=
  ⟨⟨oe, vs, e, z, q⟩, ⟨oe, e⟩, fun _ _ ⟨o, v, r, r'⟩ k => ⟨o, v, k o r, r'⟩⟩
theorem exk_at {P : Program} {w : World} {H : Hp} {h : Heap} {a : Addr} {cls : Value} {d : Option Addr} (hok : HOk P w H h) (e : H a = some (exk a cls d)) : ∃ (oe : Obj) (vs : Array Value), h.get? a = some oe ∧ Zc cls d oe ∧ oe.data = .fields vs := by
  have x : ObjOk P w H h a (.ext fun h => ∃ (oe : Obj) (vs : Array Value), h.get? a = some oe ∧ Zc cls d oe ∧ oe.data = .fields vs) := hok a _ e
  exact x.1
theorem fly_keeps {B h h' : Heap} {l : List PySem.Env} {e : Addr} {Z : Obj → Prop} (R : HandSPX.FlyingZ B l e Z h) (k : ∀ b o, h.get? b = some o → h'.get? b = some o) : HandSPX.FlyingZ B l e Z h' := by
  obtain ⟨f1, f2, f3, oe, ws, T, oT, ts, r1, r2, r3, r4, r5, r6, r7, r8⟩ := R
  exact ⟨fun b o q => k b o (f1 b o q), f2, f3.of_keeps fun b o q _ => ⟨o, k b o q, rfl⟩, oe, ws, T, oT, ts, k _ _ r1, r2, r3, r4, r5, r6, k _ _ r7, r8⟩
/-- names of classes, one by one -/
def NamesAll (X : Cx) (es : List Expr) (cs : List Value) : Prop := Paired (fun (e : Expr) c => ∃ (x : Str) (p : Pos), e = .Name x p ∧ Names X x c) es cs
theorem names_run {X : Cx} {pins : List (Addr × Obj)} {σ : L2.St} {H : Hp} {s : Shared} {E : Value → Shared → Prop} {pos : Pos} (I : Inv X pins σ H s) :
    ∀ {es : List Expr} {cs : List Value} {Q : List Value → Shared → Prop}, NamesAll X es cs → Q cs s → wpAny (model X.prog X.w) X.A (spliced (backTo pos (starEach es X.env))) Q E s := by
  intro es cs Q h
  revert Q
  induction h with
  | nil => intro Q q; exact wpAny_items_nil q
  | cons h1 _ ih =>
    intro Q q
    obtain ⟨x, p, rfl, hg, hdb, hm⟩ := h1
    refine wpAny_items_cons ?_
    rcases hm with hm | ⟨hm, hv, hn⟩
    · exact ld_glob I hg hm (ih q) hdb
    · exact ld_blt I hg hm hv (ih q) hn hdb
/-- of which classes the error is -/
def Hits (K : PySem.W.Frag) (cls : Value) (cs : List Value) : Prop := ∃ bs : List Bool, bs.length = cs.length ∧ bs.any id = true ∧ ∀ (i : Nat) (c : Value) (y : Bool), cs[i]? = some c → bs[i]? = some y → PySem.W.exmOne K cls c = some y
/-- what 'except (..) as n: suite' wishes of an error of the body (slot i is n's): the error is kept -/
def wKept (K : PySem.W.Frag) (cs : List Value) (i : Nat) (ts : Addr → TS) (D : Ends) : WX := fun cls d σ H => Hits K cls cs ∧ ∀ a, H a = none →
  ts a { nx := fun σ' H' => D.nx (σ'.set i none) (upd H' a (exk a cls d)), rt := fun _ _ => False } (σ.set i (some (.ref a))) H
section
variable {X : Cx} {n : Str} {i : Nat} {body suite : List Stmt} {b₀ : Stmt} {es : List Expr} {cs : List Value} {kk : Nat} {tpos pos pos' : Pos} {tb : WX → TS} {ts : Addr → TS}
theorem ps_try_kept (hex : X.ex = []) (hs : X.stack = X.env :: X.outer) (hf : X.env.frame = some X.env.locals) (hN : X.N.Nodup) (hi : X.N[i]? = some n) (hln : X.env.kindOf n = some .local) (hc : NamesAll X es cs) (hcl : cs.length ≤ 1000)
    (hb : ∀ (W : WX) (pn : List (Addr × Obj)) (xe : Value → Shared → Prop), Takes (X.tr pn xe) W → PassesOwn (model X.prog X.w) X.A X.env xe → PSs (X.tr pn xe) body (tb W))
    (hsu : ∀ (a : Addr) (oe : Obj) (pn : List (Addr × Obj)), PSs (X.suite a ((a, oe) :: pn)) (b₀ :: suite) (ts a)) :
    PS X (.Try body [.ExceptHandler (some (.Tuple es kk tpos)) (some n) (b₀ :: suite) pos'] [] [] pos) (fun D σ H => tb (wKept X.K cs i ts D) D σ H) := by
  refine ⟨fun pins s σ H D I h => ?_⟩
  have ok := I.ok
  have hfr : X.A.frames = some (X.env :: X.outer) := by rw [ok.frames, hs]
  refine wpAny_Try_except (wpAny_mono ((hb (wKept X.K cs i ts D) (X.pn ++ pins) (fun e s₁ => wpAny (model X.prog X.w) X.A (noteFrame e X.env) (fun _ s₂ => wpAny (model X.prog X.w) X.A (setFlight e none) (fun _ s₃ =>
    wpAny (model X.prog X.w) X.A (handleBy e X.env [.ExceptHandler (some (.Tuple es kk tpos)) (some n) (b₀ :: suite) pos']) (SP X pins D) X.xe s₃) X.xe s₂) X.xe s₁) (fun u s' xx => ?_) PassesOwn.looking).run [] s σ H D (I.toTry _) h) (fun f s1 hsp => ?_) (fun e s1 he => he))
  · obtain ⟨a, B, sI, pins', σ', H', cls, d, rfl, J', nb, up, sky, na, os, ag, ⟨bs, hbl, hba, hbx⟩, hyes⟩ := xx
    have J : Inv X pins σ' H' sI := J'.ofTry ok
    rw [hs] at sky
    show wpAny (model X.prog X.w) X.A (noteFrame (.ref a) X.env) _ _ _
    refine Sky.land Zc.steady hfr hf sky fun h3 fl3 up3 => ?_
    obtain ⟨oe3, vs3, he3, hz3, hd3⟩ := fl3.there
    have nfr : a ∉ frs (X.env :: X.outer) := fun hm => by
      obtain ⟨_, o', e', hnf⟩ := fl3.2.2.1.mem hm
      rw [he3] at e'; cases e'
      exact hnf _ hd3
    have nL : a ≠ X.env.locals := fun z => nfr (List.mem_filterMap.mpr ⟨X.env, List.mem_cons_self, by rw [hf, z]⟩)
    have nF : a ∉ X.fs := fun hm => by
      obtain ⟨e, he, q⟩ := List.mem_filterMap.mp hm
      exact nfr (List.mem_filterMap.mpr ⟨e, List.mem_cons_of_mem _ he, q⟩)
    have nI : sI.heap.get? a = none := by
      cases z : sI.heap.get? a with
      | none => rfl
      | some o =>
        have y := nb a o z (by rw [hs]; exact nfr)
        rw [fl3.2.1] at y; cases y
    have J3 : Inv X pins σ' H' { s' with heap := h3 } := J.landed nb fl3.1 (up.trans up3) os ag
    have S3 := J3.suite he3 hd3 na nL nF
    refine wpAny_handleBy_cons (codeAny_handlers_test (wpAny_Tuple_spliced (names_run (X := X.suite a ((a, oe3) :: (X.pn ++ pins))) (cs := cs) S3 (L2.Paired.mapP hc fun _ _ z => z) ⟨by rw [sizeLine_eq]; omega, ?_⟩))) (by intro q; cases q)
    dsimp only
    have kp : ∀ b o, h3.get? b = some o → (h3.push { cls := .type "tuple", data := .seq cs.toArray }).get? b = some o := fun _ _ z => Heap.get?_push_of_some _ z
    have LT : PySem.W.Looks (model X.prog X.w) (h3.push { cls := .type "tuple", data := .seq cs.toArray }) (typeOf (.ref a)) cls := fun A Q E s k q => wpAny_typeOf_ref (k _ _ (kp _ _ he3)) (by rw [hz3.1]; exact q)
    refine (exm_some (J3.kIn.keeps kp) LT (Heap.get?_push_size h3 rfl) rfl rfl bs hbl hba hbx).here ?_
    refine codeAny_handlers_suite_as (HandSPX.lands_againZ (fly_keeps fl3 kp) fun h4 fl4 up4 => ?_)
    have J4 : Inv X pins σ' H' { s' with heap := h4 } := J.landed nb fl4.1 (((up.trans up3).trans (Heap.UpToSlots.of_keeps kp)).trans up4) os ag
    obtain ⟨oe4, vs4, he4, hz4, hd4⟩ := fl4.there
    have S4 := J4.suite he4 hd4 na nL nF
    refine store_ok (X := X.suite a ((a, oe4) :: (X.pn ++ pins))) (v := .ref a) S4 hN hi (.inl hln) rfl (fun s5 S5 => ?_) (.inr hln)
    refine wpAny_mono ((hsu a oe4 (X.pn ++ pins)).run [] s5 _ H' _ S5 (hyes a na)) (fun f s6 hsp => ?_) (fun _ _ z => False.elim z)
    cases f with
    | next =>
      obtain ⟨σ6, H6, S6, q6⟩ := hsp
      refine gone_ok (X := X.suite a ((a, oe4) :: (X.pn ++ pins))) S6 hN hi hln fun s7 S7 => ⟨_, _, adopt (S7.unsuite ok) ?_ ?_ nL ?_ ?_ ?_, q6⟩
      · exact (S7.pin (a, oe4) (List.mem_append_left _ List.mem_cons_self)).2.1
      · cases z : X.s_0.heap.get? a with
        | none => rfl
        | some o =>
          obtain ⟨o', y⟩ := J.base.there a o z (by rw [hex]; exact fun q => nomatch q)
          rw [nI] at y; cases y
      · intro x c ec z
        obtain ⟨v, ob, eo, _⟩ := J.cell x c ec
        rw [z, nI] at eo; cases eo
      · intro p hp z
        have y := (J.pin p hp).1
        rw [z, nI] at y; cases y
      · exact exk_ok (S7.pin (a, oe4) (List.mem_append_left _ List.mem_cons_self)).1 hz4 hd4
    | brk => obtain ⟨σ6, H6, S6, q6⟩ := hsp; exact q6.elim
    | cont => obtain ⟨σ6, H6, S6, q6⟩ := hsp; exact q6.elim
    | ret u => obtain ⟨v6, σ6, H6, S6, r6, q6⟩ := hsp; exact q6.elim
  · cases f with
    | next => obtain ⟨σ', H', J', q⟩ := hsp; exact wpAny_execs_nil ⟨σ', H', J'.ofTry ok, q⟩
    | brk => obtain ⟨σ', H', J', q⟩ := hsp; exact ⟨σ', H', J'.ofTry ok, q⟩
    | cont => obtain ⟨σ', H', J', q⟩ := hsp; exact ⟨σ', H', J'.ofTry ok, q⟩
    | ret u => obtain ⟨v, σ', H', J', r, q⟩ := hsp; exact ⟨v, σ', H', J'.ofTry ok, r, q⟩
end
end Pc
namespace Pc
open PySem PySem.Spec PyProof.Rows L2 RZ
/-- what isinstance asks of the class of a kept error -/
structure KeptC (K : PySem.W.Frag) (C : Addr) : Prop where
  ga : PySem.W.findIn K (.ref C) "__getattribute__" = some (some (.builtin "BaseException.__getattribute__"))
  gg : PySem.W.findIn K (.ref C) "__getattr__" = some none
  exC : PySem.W.subIn K (.ref C) (.type "BaseException") = some true
  hdC : PySem.W.hasDictIn K C = true
  clC : PySem.W.findIn K (.ref C) "__class__" = some (some (.builtin "object.__class__"))
  mrO : PySem.W.mroIn K C (.type "object") = some true
  sp : PySem.W.specialIn K (.builtin "object.__class__") "__get__" = some (some (.builtin "getset_descriptor.__get__"))
  tk : PySem.W.takesIn K (.builtin "object.__class__") = some true
/-- a kept error with its dict -/
def Kept (H : Hp) (a C : Addr) (d : Option Addr) : Prop := H a = some (exk a (.ref C) d) ∧ (d = none ∨ ∃ dd fs, d = some dd ∧ H dd = some (.xd fs))
section
variable {X : Cx} {pins : List (Addr × Obj)} {σ : L2.St} {H : Hp} {s : Shared} {a C : Addr} {d : Option Addr}
theorem kept_inst (I : Inv X pins σ H s) (h : Kept H a C d) : ∃ (oe : Obj) (od : Option Obj), PySem.W.InstAt s.heap a oe C od := by
  obtain ⟨e, hd⟩ := h
  obtain ⟨oe, vs, ho, hz, hv⟩ := exk_at I.hok e
  have nc : PySem.W.notCls oe = true := by unfold PySem.W.notCls; rw [hv] <;> rfl
  rcases hd with rfl | ⟨dd, fs, rfl, ed⟩
  · exact ⟨oe, none, ho, hz.1, nc, by rw [hz.2]; trivial⟩
  · obtain ⟨mA, ⟨od, es, ep, q, _⟩, _⟩ := (show ObjOk X.prog X.w H s.heap dd (.xd fs) from I.hok dd _ ed)
    exact ⟨oe, some od, ho, hz.1, nc, by rw [hz.2]; exact q⟩
theorem kept_kit (T : KeptC X.K C) {oe : Obj} {od : Option Obj} : PySem.W.KitX X.K (.ref a) (.ref C) (fun h => PySem.W.InstAt h a oe C od) :=
  PySem.W.kitx_exc (by obtain ⟨cd, hc, _⟩ := PySem.W.any_some T.hdC; rw [hc]; rfl) T.ga T.gg T.exC T.clC T.sp T.tk T.mrO
/-- isinstance(e, c), e a kept error -/
def rIsk (K : PySem.W.Frag) : List V → Hp → VK → Prop := fun xs H Q => ∃ (a C : Addr) (d : Option Addr) (c : V) (u : Value) (b : Bool), xs = [.ref a, c] ∧ Kept H a C d ∧ KeptC K C ∧ ClsV c u ∧ PySem.W.kitOne K (.ref C) u = some b ∧ Q (.bl b) H
theorem call_isk : CallR X (.builtin "isinstance") (rIsk X.K) := by
  intro pins s σ H xs us Q I r h
  obtain ⟨a, C, d, c, u, b, rfl, hk, T, k, e, q⟩ := h
  obtain ⟨u1, u2, rfl, r1, r2⟩ := vals2 r
  cases (show u1 = Value.ref a from r1)
  have e2 := k.eq r2
  subst e2
  obtain ⟨oe, od, J⟩ := kept_inst I hk
  exact PySem.W.kia_one (kept_kit T) I.kIn J e (fun z => nomatch z) fun tk => ⟨.bl b, H, I.tok tk, rfl, q⟩
/-- isinstance(e, (c, ..)) -/
def rIskT (K : PySem.W.Frag) : List V → Hp → VK → Prop := fun xs H Q => ∃ (a C : Addr) (d : Option Addr) (tp : Addr) (cs : List V) (us : List Value) (b : Bool), xs = [.ref a, .ref tp] ∧ Kept H a C d ∧ KeptC K C ∧ H tp = some (.tup cs) ∧ Paired ClsV cs us ∧ PySem.W.kitAny K (.ref C) us = some b ∧ Q (.bl b) H
theorem call_iskT : CallR X (.builtin "isinstance") (rIskT X.K) := by
  intro pins s σ H xs us Q I r h
  obtain ⟨a, C, d, tp, cs, ws, b, rfl, hk, T, hT, k, e, q⟩ := h
  obtain ⟨u1, u2, rfl, r1, r2⟩ := vals2 r
  cases (show u1 = Value.ref a from r1)
  cases (show u2 = Value.ref tp from r2)
  obtain ⟨oe, od, J⟩ := kept_inst I hk
  obtain ⟨_, its, rv, o, h1, h2, n, h3⟩ := (show ObjOk X.prog X.w H s.heap tp (.tup cs) from I.hok tp _ hT)
  have e3 := ClsV.all k rv
  subst e3
  obtain ⟨oc, od', dt, sl⟩ := o
  simp only at h2 h3
  subst h2 h3
  exact PySem.W.kia_tup (kept_kit T) I.kIn J h1 e (fun z => nomatch z) fun tk => ⟨.bl b, H, I.tok tk, rfl, q⟩
/-- e.f, e a kept error -/
def tKf (K : PySem.W.Frag) (f : Str) (te : TE) : TE := fun σ H Q => te σ H fun x H1 => ∃ (a C dd : Addr) (fs : List (Str × V)) (v : V), x = .ref a ∧ H1 a = some (exk a (.ref C) (some dd)) ∧ KeptC K C ∧ PySem.W.findIn K (.ref C) f = some none ∧ H1 dd = some (.xd fs) ∧ fs.lookup f = some v ∧ Q v H1
theorem pe_kf {e : Expr} {te : TE} {f : Str} {pos : Pos} (he : PE X e te) (hb : attributeBase e f X.env (eval e X.env) = eval e X.env := by rfl) : PE X (.Attribute e f pos) (tKf X.K f te) := by
  refine ⟨fun pins s σ H Q I h => attr_of hb (thn (he.run pins s σ H _ I h) fun u s1 hh => ?_)⟩
  obtain ⟨x, H1, I1, rx, a, C, dd, fs, v, ex, ea, T, hno, ed, l, q⟩ := hh
  subst ex
  obtain rfl : u = Value.ref a := rx
  obtain ⟨oe, vs, ho, hz, hv⟩ := exk_at I1.hok ea
  obtain ⟨mA, hns, hr⟩ := (show ObjOk X.prog X.w H1 s1.heap dd (.xd fs) from I1.hok dd _ ed)
  obtain ⟨od, hod, hl⟩ := lookIn_ns hns
  obtain ⟨w', hw, rw'⟩ := RelO.some_of (v := v) (o := mA f) (by rw [← l]; exact hr f)
  have J : PySem.W.InstAt s1.heap a oe C (some od) := ⟨ho, hz.1, by unfold PySem.W.notCls; rw [hv] <;> rfl, by rw [hz.2]; exact hod⟩
  exact HandSPX.exc_get I1.kIn J T.ga T.gg T.exC (PySem.W.findObj_own T.hdC hno rfl (by rw [hl, hw])) (handed_of rw') ⟨v, H1, I1.tok _, rw', q⟩
end
end Pc
namespace Pc
open PySem PySem.Spec PyProof.Rows L2 RZ
/-! ### errors with one field: made, flying -/
/-- an error of the class at C with the field f flies, from the heap H on -/
def Flies (C : Addr) (f : Str) (v : V) (H : Hp) (E : XK) : Prop := ∀ d H', Same H H' → H d = none → H' d = some (.xd [(f, v)]) → E (.ref C) (some d) H'
theorem Flies.same {C : Addr} {f : Str} {v : V} {H H1 : Hp} {E : XK} (h : Flies C f v H E) (s : Same H H1) : Flies C f v H1 E := fun d H' s' n e => h d H' (s.trans s') (s.free n) e
def spInit1 (C : Addr) (f : Str) : Sp := fun vs H Q _ => ∃ (a : Addr) (v : V), vs = [.ref a, v] ∧ H a = some (exo a C none) ∧ ∀ dx, H dx = none → dx ≠ a → Q .non (upd (upd H a (exo a C (some dx))) dx (exd dx [(f, v)]))
theorem raised1 {C : Addr} {f : Str} {v : V} {H1 : Hp} {Q : XK} (h : Flies C f v H1 Q) : [v].length ≤ 1000 ∧ ∀ a, H1 a = none → spInit1 C f (.ref a :: [v]) (upd H1 a (exo a C none))
    (fun v' H2 => v' = .non ∧ ((H2 a = some (exo a C none) ∧ Q (.ref C) none (del H2 a)) ∨ ∃ (d : Addr) (fs : List (Str × V)), H2 a = some (exo a C (some d)) ∧ H2 d = some (exd d fs) ∧ Q (.ref C) (some d) (upd (del H2 a) d (.xd fs)))) (fun _ _ _ => False) := by
  refine ⟨(by show 1 ≤ 1000; decide), fun a na => ⟨a, v, rfl, upd_same, fun dx nd ne => ⟨rfl, .inr ⟨dx, [(f, v)], ?_, upd_same, h dx _ ?_ ?_ upd_same⟩⟩⟩⟩
  · rw [upd_ne (Ne.symm ne), upd_same]
  · intro b o hb
    have nd' : H1 dx = none := by rw [upd_ne ne] at nd; exact nd
    have hbd := ne_of_none hb nd'
    have hba := ne_of_none hb na
    rw [upd_ne hbd, del_ne hba, upd_ne hbd, upd_ne hba, upd_ne hba]
    exact hb
  · rw [upd_ne ne] at nd; exact nd
/-- the try's wish of such an error -/
theorem kept1 {K : PySem.W.Frag} {C : Addr} {f : Str} {v : V} {cs : List Value} {i : Nat} {ts : Addr → TS} {D : Ends} {σ : L2.St} {H : Hp} (hh : Hits K (.ref C) cs)
    (h : ∀ d H' a, Same H H' → H d = none → H' d = some (.xd [(f, v)]) → H' a = none → a ≠ d → ts a { nx := fun σ' H'' => D.nx (σ'.set i none) (upd H'' a (exk a (.ref C) (some d))), rt := fun _ _ => False } (σ.set i (some (.ref a))) H') :
    Flies C f v H (fun cls d H' => wKept K cs i ts D cls d σ H') := fun d H' s n e => ⟨hh, fun a na => h d H' a s n e na (fun z => by rw [z, e] at na; cases na)⟩
theorem Kept.mk1 {H' : Hp} {a d C : Addr} {fs : List (Str × V)} (e : H' d = some (.xd fs)) (n : H' a = none) : Kept (upd H' a (exk a (.ref C) (some d))) a C (some d) :=
  ⟨upd_same, .inr ⟨d, fs, rfl, by rw [upd_ne (ne_of_none e n)]; exact e⟩⟩
theorem Kept.same {H H' : Hp} {a C : Addr} {d : Option Addr} (h : Kept H a C d) (s : Same H H') : Kept H' a C d :=
  ⟨s _ _ h.1, h.2.imp id fun ⟨dd, fs, e, z⟩ => ⟨dd, fs, e, s _ _ z⟩⟩
theorem over_of {K : PySem.W.Frag} {C : Addr} {bmB : List Value} {newId : String} {nm q : Str} {N : Addr} {bs : List Value} {sn : List Str} {sub : List Value} {ab : Bool} {col : Option Bool} {dd : Option Addr} {k0 k1 k2 k3 k5 : Option Value}
    (h : K.lookup C = some (excClassObj nm q C N bs bmB true sn sub ab col dd k0 k1 k2 k3 k5 newId)) (ht : PySem.W.excTail bmB bmB = true) : PySem.W.excOver K C bmB = true := by
  have e : PySem.W.clsIn K C = some { name := nm, bases := bs, mro := .ref C :: bmB, ns := N, qualname := q, hasDict := true, slotNames := sn, subclasses := sub, abstract := ab, collection := col, hasDel := false } := by
    unfold PySem.W.clsIn
    rw [h] <;> rfl
  unfold PySem.W.excOver
  rw [e]
  show ((C == C) && PySem.W.excTail bmB bmB) = true
  rw [ht, beq_self_eq_true]; rfl
theorem kcls_of {K : PySem.W.Frag} {t : Value} {D : Addr} {b : Bool} (h2 : PySem.W.isClsIn K D = true) (h3 : PySem.W.typeIn K (.ref D) = some (.type "type")) (h4 : PySem.W.subIn K t (.ref D) = some b) : PySem.W.kitCls K t (.ref D) = some b := by
  have e2 : ((PySem.W.clsIn K D).isSome && PySem.W.typeIn K (.ref D) == some (.type "type")) = true := by
    have h2' : (PySem.W.clsIn K D).isSome = true := h2
    rw [h2', h3] <;> rfl
  show (if ((PySem.W.clsIn K D).isSome && PySem.W.typeIn K (.ref D) == some (.type "type")) = true then PySem.W.subIn K t (.ref D) else none) = some b
  rw [if_pos e2]
  exact h4
theorem exm_of' {K : PySem.W.Frag} {t : Value} {D : Addr} {b : Bool} (h1 : PySem.W.subIn K (.ref D) (.type "BaseException") = some true) (h2 : PySem.W.isClsIn K D = true) (h3 : PySem.W.typeIn K (.ref D) = some (.type "type")) (h4 : PySem.W.subIn K t (.ref D) = some b) : PySem.W.exmOne K t (.ref D) = some b := by
  have e1 : (PySem.W.subIn K (.ref D) (.type "BaseException") == some true) = true := by rw [h1] <;> rfl
  show (if (PySem.W.subIn K (.ref D) (.type "BaseException") == some true) = true then PySem.W.kitCls K t (.ref D) else none) = some b
  rw [if_pos e1]
  exact kcls_of h2 h3 h4
theorem kit_own {K : PySem.W.Frag} {C D : Addr} {b : Bool} (h0 : PySem.W.subIn K (.ref C) (.ref C) = some true) (h2 : PySem.W.isClsIn K D = true) (h3 : PySem.W.typeIn K (.ref D) = some (.type "type")) (h4 : PySem.W.subIn K (.ref C) (.ref D) = some b) : PySem.W.kitOne K (.ref C) (.ref D) = some b := by
  by_cases e : C = D
  · subst e
    rw [h0] at h4
    rw [← h4]
    show (if ((Value.ref C) == (Value.ref C)) = true then some true else _) = some true
    rw [if_pos (beq_self_eq_true _)]
  · have n : ((Value.ref C) == (Value.ref D)) = false := beq_false_of_ne (fun z => e (Value.ref.inj z))
    show (if ((Value.ref C) == (Value.ref D)) = true then some true else PySem.W.kitCls K (.ref C) (.ref D)) = some b
    rw [if_neg (by rw [n]; exact Bool.false_ne_true)]
    exact kcls_of h2 h3 h4
theorem kit_blt {K : PySem.W.Frag} {C : Addr} {T : String} {b : Bool} (hm : PySem.W.kitMeta T = true) (h4 : PySem.W.subIn K (.ref C) (.type T) = some b) : PySem.W.kitOne K (.ref C) (.type T) = some b := by
  have n : ((Value.ref C) == (Value.type T)) = false := beq_false_of_ne (fun z => nomatch z)
  show (if ((Value.ref C) == (Value.type T)) = true then some true else (if PySem.W.kitMeta T = true then PySem.W.subIn K (.ref C) (.type T) else none)) = some b
  rw [if_neg (by rw [n]; exact Bool.false_ne_true), if_pos hm]
  exact h4
end Pc
namespace Pc
open PySem PySem.Spec PyProof.Rows L2 RZ
theorem kit_nil {K : PySem.W.Frag} {t : Value} : PySem.W.kitAny K t [] = some false := rfl
theorem kit_cons {K : PySem.W.Frag} {t u : Value} {us : List Value} (h : PySem.W.kitOne K t u = some false) (r : PySem.W.kitAny K t us = some false) : PySem.W.kitAny K t (u :: us) = some false := by
  show (match PySem.W.kitOne K t u with | some true => some true | some false => PySem.W.kitAny K t us | none => none) = some false
  rw [h]
  exact r
theorem hits_of {K : PySem.W.Frag} {cls : Value} {cs : List Value} (bs : List Bool) (hb : bs.any id = true) (h : Paired (fun c b => PySem.W.exmOne K cls c = some b) cs bs) : Hits K cls cs :=
  ⟨bs, h.length.symm, hb, fun i c y hc hy => by
    obtain ⟨y', e, z⟩ := paired_get h hc
    rw [hy] at e; cases e
    exact z⟩
end Pc
namespace Pc
open PySem PySem.Spec PyProof.Rows L2 RZ
/-- two promises of one def -/
theorem FnOk.or {P : Program} {w : World} {K : PySem.W.Frag} {mg : Str → Option Value} {base : Heap} {CX : CXT} {k : Nat} {f : Addr} {fd : FuncData} {ps : List Str} {sp sp' : Sp} (F : FnOk P w K mg base CX k f fd ps sp) (G : FnOk P w K mg base CX k f fd ps sp') :
    FnOk P w K mg base CX k f fd ps (fun vs H Q E => sp vs H Q E ∨ sp' vs H Q E) where
  len vs H Q E h := h.elim (F.len vs H Q E) (G.len vs H Q E)
  run A outer s H args us vs Q E hr e0 hb r h := h.elim (F.run A outer s H args us vs Q E hr e0 hb r) (G.run A outer s H args us vs Q E hr e0 hb r)
end Pc
namespace Pc
open PySem PySem.Spec PyProof.Rows L2 RZ
def topS (i : Nat) : Stmt := PySem.Challenge.pw_partnercall_k97_other_sizes.main.body.getD i (.Pass ⟨0, 0, 0, 0⟩)
abbrev s_p_people_of : Stmt := topS 29
theorem sc_p_people_of : FnScope ["sheet"] ["sheet"] (defScope s_p_people_of) := ⟨rfl, rfl, rfl, by decide +kernel, rfl, by decide +kernel, by decide +kernel⟩
abbrev s_p_check_sizes : Stmt := topS 30
theorem sc_p_check_sizes : FnScope ["first", "second"] ["first", "second"] (defScope s_p_check_sizes) := ⟨rfl, rfl, rfl, by decide +kernel, rfl, by decide +kernel, by decide +kernel⟩
abbrev s_p_followed : Stmt := topS 37
theorem sc_p_followed : FnScope ["one", "other", "start"] ["one", "other"] (defScope s_p_followed) := ⟨rfl, rfl, rfl, by decide +kernel, rfl, by decide +kernel, by decide +kernel⟩
abbrev s_p_result : Stmt := topS 41
theorem sc_p_result : FnScope ["sheet", "pairing", "size", "person"] ["sheet", "pairing"] (defScope s_p_result) := ⟨rfl, rfl, rfl, by decide +kernel, rfl, by decide +kernel, by decide +kernel⟩
abbrev s_p_path : Stmt := topS 42
theorem sc_p_path : FnScope ["sheet", "pairing", "person"] ["sheet", "pairing", "person"] (defScope s_p_path) := ⟨rfl, rfl, rfl, by decide +kernel, rfl, by decide +kernel, by decide +kernel⟩
abbrev s_p_shows_path : Stmt := topS 43
theorem sc_p_shows_path : FnScope ["sheet", "pairing", "person", "value", "ends", "end"] ["sheet", "pairing", "person", "value"] (defScope s_p_shows_path) := ⟨rfl, rfl, rfl, by decide +kernel, rfl, by decide +kernel, by decide +kernel⟩
abbrev s_p_couples_on : Stmt := topS 44
theorem sc_p_couples_on : FnScope ["sheet", "pairing", "person", "ends", "steps", "at", "x", "y"] ["sheet", "pairing", "person"] (defScope s_p_couples_on) := ⟨rfl, rfl, rfl, by decide +kernel, rfl, by decide +kernel, by decide +kernel⟩
abbrev s_p_result_bar : Stmt := topS 48
theorem sc_p_result_bar : FnScope ["sheet", "pairing", "x", "y"] ["sheet", "pairing"] (defScope s_p_result_bar) := ⟨rfl, rfl, rfl, by decide +kernel, rfl, by decide +kernel, by decide +kernel⟩
abbrev s_p_check_result : Stmt := topS 49
theorem sc_p_check_result : FnScope ["sheet", "pairing", "bar"] ["sheet", "pairing"] (defScope s_p_check_result) := ⟨rfl, rfl, rfl, by decide +kernel, rfl, by decide +kernel, by decide +kernel⟩
abbrev s_p_result_number : Stmt := topS 50
theorem sc_p_result_number : FnScope ["sheet", "pairing", "people", "person"] ["sheet", "pairing"] (defScope s_p_result_number) := ⟨rfl, rfl, rfl, by decide +kernel, rfl, by decide +kernel, by decide +kernel⟩
abbrev s_p_beginnings_many : Stmt := topS 52
theorem sc_p_beginnings_many : FnScope ["sheet", "pairing"] ["sheet", "pairing"] (defScope s_p_beginnings_many) := ⟨rfl, rfl, rfl, by decide +kernel, rfl, by decide +kernel, by decide +kernel⟩
abbrev s_p_beginning_at : Stmt := topS 56
theorem sc_p_beginning_at : FnScope ["sheet", "pairing", "number", "begun", "found", "rest", "partner"] ["sheet", "pairing", "number"] (defScope s_p_beginning_at) := ⟨rfl, rfl, rfl, by decide +kernel, rfl, by decide +kernel, by decide +kernel⟩
abbrev s_p_beginning_number : Stmt := topS 57
theorem sc_p_beginning_number : FnScope ["sheet", "beginning", "begun", "number", "partner", "other", "many"] ["sheet", "beginning"] (defScope s_p_beginning_number) := ⟨rfl, rfl, rfl, by decide +kernel, rfl, by decide +kernel, by decide +kernel⟩
abbrev s_p_cycle_from : Stmt := topS 59
abbrev s_p_cycles : Stmt := topS 60
theorem sc_p_cycles : FnScope ["one", "other", "found", "seen", "person", "cycle", "member"] ["one", "other"] (defScope s_p_cycles) := ⟨rfl, rfl, rfl, by decide +kernel, rfl, by decide +kernel, by decide +kernel⟩
abbrev s_p_distance : Stmt := topS 61
theorem sc_p_distance : FnScope ["one", "other"] ["one", "other"] (defScope s_p_distance) := ⟨rfl, rfl, rfl, by decide +kernel, rfl, by decide +kernel, by decide +kernel⟩
abbrev s_p_ways_to_split : Stmt := topS 62
theorem sc_p_ways_to_split : FnScope ["sizes", "many", "calls", "couples", "step"] ["sizes"] (defScope s_p_ways_to_split) := ⟨rfl, rfl, rfl, by decide +kernel, rfl, by decide +kernel, by decide +kernel⟩
abbrev s_p_words_many : Stmt := topS 63
abbrev N_p_words_many : List Str := ["one", "other", "cycle"]
theorem sc_p_words_many : FnScope ["one", "other", "cycle"] ["one", "other"] (defScope s_p_words_many) := ⟨rfl, rfl, rfl, by decide +kernel, rfl, by decide +kernel, by decide +kernel⟩
abbrev s_p_word_at : Stmt := topS 66
theorem sc_p_word_at : FnScope ["one", "other", "number", "many", "present", "word", "rest", "step", "call"] ["one", "other", "number"] (defScope s_p_word_at) := ⟨rfl, rfl, rfl, by decide +kernel, rfl, by decide +kernel, by decide +kernel⟩
abbrev s_p_word_number : Stmt := topS 67
theorem sc_p_word_number : FnScope ["one", "other", "word", "fewest", "present", "number", "a", "b", "choices", "call", "many"] ["one", "other", "word"] (defScope s_p_word_number) := ⟨rfl, rfl, rfl, by decide +kernel, rfl, by decide +kernel, by decide +kernel⟩
abbrev s_p_leads : Stmt := topS 68
theorem sc_p_leads : FnScope ["one", "other", "value", "item"] ["one", "other", "value"] (defScope s_p_leads) := ⟨rfl, rfl, rfl, by decide +kernel, rfl, by decide +kernel, by decide +kernel⟩
abbrev s_p_do_same : Stmt := topS 81
theorem sc_p_do_same : FnScope ["one", "other", "first", "second"] ["one", "other"] (defScope s_p_do_same) := ⟨rfl, rfl, rfl, by decide +kernel, rfl, by decide +kernel, by decide +kernel⟩
abbrev s_p_parting : Stmt := topS 84
theorem sc_p_parting : FnScope ["one", "other", "first", "second", "found", "free", "couple", "person"] ["one", "other"] (defScope s_p_parting) := ⟨rfl, rfl, rfl, by decide +kernel, rfl, by decide +kernel, by decide +kernel⟩
abbrev s_p_shows_parting : Stmt := topS 85
theorem sc_p_shows_parting : FnScope ["one", "other", "value"] ["one", "other", "value"] (defScope s_p_shows_parting) := ⟨rfl, rfl, rfl, by decide +kernel, rfl, by decide +kernel, by decide +kernel⟩
abbrev s_stream : Stmt := topS 87
theorem sc_stream : FnScope ["_law_script", "_law_k", "_law_cell"] ["_law_script", "_law_k"] (defScope s_stream) := ⟨rfl, rfl, rfl, by decide +kernel, rfl, by decide +kernel, by decide +kernel⟩
abbrev s_draw : Stmt := topS 88
theorem sc_draw : FnScope ["_law_source", "_law_bound", "_law_found", "_law_once", "_law_twice"] ["_law_source", "_law_bound"] (defScope s_draw) := ⟨rfl, rfl, rfl, by decide +kernel, rfl, by decide +kernel, by decide +kernel⟩
abbrev s_folded : Stmt := topS 89
theorem sc_folded : FnScope ["_law_script", "_law_most", "_law_cells", "_law_k", "_law_cell"] ["_law_script", "_law_most"] (defScope s_folded) := ⟨rfl, rfl, rfl, by decide +kernel, rfl, by decide +kernel, by decide +kernel⟩
abbrev s_pick : Stmt := topS 90
theorem sc_pick : FnScope ["_law_source", "_law_some"] ["_law_source", "_law_some"] (defScope s_pick) := ⟨rfl, rfl, rfl, by decide +kernel, rfl, by decide +kernel, by decide +kernel⟩
abbrev s_same : Stmt := topS 91
abbrev N_same : List Str := ["_law_found", "_law_due", "_law_mine", "_law_its"]
theorem sc_same : FnScope ["_law_found", "_law_due", "_law_mine", "_law_its"] ["_law_found", "_law_due"] (defScope s_same) := ⟨rfl, rfl, rfl, by decide +kernel, rfl, by decide +kernel, by decide +kernel⟩
abbrev s_shuffled : Stmt := topS 92
theorem sc_shuffled : FnScope ["_law_source", "_law_some", "_law_left", "_law_found"] ["_law_source", "_law_some"] (defScope s_shuffled) := ⟨rfl, rfl, rfl, by decide +kernel, rfl, by decide +kernel, by decide +kernel⟩
abbrev s_random_pairing : Stmt := topS 93
theorem sc_random_pairing : FnScope ["_law_source", "_law_crowd", "_law_row", "_law_found", "_law_at"] ["_law_source", "_law_crowd"] (defScope s_random_pairing) := ⟨rfl, rfl, rfl, by decide +kernel, rfl, by decide +kernel, by decide +kernel⟩
abbrev s_pairs_door : Stmt := topS 94
theorem sc_pairs_door : FnScope ["_law_door", "_law_start", "_law_mate"] ["_law_door", "_law_start", "_law_mate"] (defScope s_pairs_door) := ⟨rfl, rfl, rfl, by decide +kernel, rfl, by decide +kernel, by decide +kernel⟩
abbrev s_sheets_door : Stmt := topS 95
theorem sc_sheets_door : FnScope ["_law_door", "_law_page", "_law_mate"] ["_law_door", "_law_page", "_law_mate"] (defScope s_sheets_door) := ⟨rfl, rfl, rfl, by decide +kernel, rfl, by decide +kernel, by decide +kernel⟩
abbrev s_both_door : Stmt := topS 96
theorem sc_both_door : FnScope ["_law_door", "_law_page", "_law_start"] ["_law_door", "_law_page", "_law_start"] (defScope s_both_door) := ⟨rfl, rfl, rfl, by decide +kernel, rfl, by decide +kernel, by decide +kernel⟩
abbrev s_refused : Stmt := topS 97
theorem sc_refused : FnScope ["_law_kind", "_law_door", "_law_thing", "_law_other_thing", "_law_caught", "error"] ["_law_kind", "_law_door", "_law_thing", "_law_other_thing"] (defScope s_refused) := ⟨rfl, rfl, rfl, by decide +kernel, rfl, by decide +kernel, by decide +kernel⟩
abbrev s_right : Stmt := topS 98
abbrev N_right : List Str := ["_law_source", "_law_crowd", "_law_far", "_law_mine", "_law_its", "_law_start", "_law_mate", "_law_page", "_law_other_page", "_law_found", "_law_hall", "_law_door"]
theorem sc_right : FnScope ["_law_source", "_law_crowd", "_law_far", "_law_mine", "_law_its", "_law_start", "_law_mate", "_law_page", "_law_other_page", "_law_found", "_law_hall", "_law_door"] ["_law_source"] (defScope s_right) := ⟨rfl, rfl, rfl, by decide +kernel, rfl, by decide +kernel, by decide +kernel⟩
abbrev s_law : Stmt := topS 99
abbrev N_law : List Str := ["_law_script", "_law_cells", "_law_k", "_law_source", "_law_turn"]
theorem sc_law : FnScope ["_law_script", "_law_cells", "_law_k", "_law_source", "_law_turn"] ["_law_script"] (defScope s_law) := ⟨rfl, rfl, rfl, by decide +kernel, rfl, by decide +kernel, by decide +kernel⟩
abbrev s_i_OtherSize : Stmt := inClass (topS 5) 0
theorem sc_i_OtherSize : FnScope ["self", "size"] ["self", "size"] (defScope s_i_OtherSize) := ⟨rfl, rfl, rfl, by decide +kernel, rfl, by decide +kernel, by decide +kernel⟩
abbrev s_m_Hall_init : Stmt := inClass (topS 78) 0
theorem sc_m_Hall_init : FnScope ["self", "pairing"] ["self", "pairing"] (defScope s_m_Hall_init) := ⟨rfl, rfl, rfl, by decide +kernel, rfl, by decide +kernel, by decide +kernel⟩
abbrev s_m_Hall_pairing : Stmt := inClass (topS 78) 12
theorem sc_m_Hall_pairing : FnScope ["self"] ["self"] (defScope s_m_Hall_pairing) := ⟨rfl, rfl, rfl, by decide +kernel, rfl, by decide +kernel, by decide +kernel⟩
abbrev s_m_Hall_deeds : Stmt := inClass (topS 78) 17
theorem sc_m_Hall_deeds : FnScope ["self"] ["self"] (defScope s_m_Hall_deeds) := ⟨rfl, rfl, rfl, by decide +kernel, rfl, by decide +kernel, by decide +kernel⟩
abbrev s_m_Hall_become : Stmt := inClass (topS 78) 5
theorem sc_m_Hall_become : FnScope ["self", "goal", "word"] ["self", "goal"] (defScope s_m_Hall_become) := ⟨rfl, rfl, rfl, by decide +kernel, rfl, by decide +kernel, by decide +kernel⟩
set_option genInjectivity false in
set_option genSizeOf false in
structure Env (K : PySem.W.Frag) (mg : Str → Option Value) where
  n_isinstance : mg "isinstance" = none
  n_int : mg "int" = none
  n_bool : mg "bool" = none
  n_len : mg "len" = none
  n_tuple : mg "tuple" = none
  n_all : mg "all" = none
  n_enumerate : mg "enumerate" = none
  n_range : mg "range" = none
  n_list : mg "list" = none
  n_set : mg "set" = none
  n_str : mg "str" = none
  n_abs : mg "abs" = none
  n_zip : mg "zip" = none
  n_ValueError : mg "ValueError" = none
  f_p_people_of : Addr
  d_p_people_of : FuncData
  F_p_people_of : Fun K "people_of" "people_of" s_p_people_of f_p_people_of d_p_people_of
  g_p_people_of : mg "people_of" = some (.ref f_p_people_of)
  f_p_check_sizes : Addr
  d_p_check_sizes : FuncData
  F_p_check_sizes : Fun K "check_sizes" "check_sizes" s_p_check_sizes f_p_check_sizes d_p_check_sizes
  g_p_check_sizes : mg "check_sizes" = some (.ref f_p_check_sizes)
  f_p_followed : Addr
  d_p_followed : FuncData
  F_p_followed : Fun K "followed" "followed" s_p_followed f_p_followed d_p_followed
  g_p_followed : mg "followed" = some (.ref f_p_followed)
  f_p_result : Addr
  d_p_result : FuncData
  F_p_result : Fun K "result" "result" s_p_result f_p_result d_p_result
  g_p_result : mg "result" = some (.ref f_p_result)
  f_p_path : Addr
  d_p_path : FuncData
  F_p_path : Fun K "path" "path" s_p_path f_p_path d_p_path
  g_p_path : mg "path" = some (.ref f_p_path)
  f_p_shows_path : Addr
  d_p_shows_path : FuncData
  F_p_shows_path : Fun K "shows_path" "shows_path" s_p_shows_path f_p_shows_path d_p_shows_path
  g_p_shows_path : mg "shows_path" = some (.ref f_p_shows_path)
  f_p_couples_on : Addr
  d_p_couples_on : FuncData
  F_p_couples_on : Fun K "couples_on" "couples_on" s_p_couples_on f_p_couples_on d_p_couples_on
  g_p_couples_on : mg "couples_on" = some (.ref f_p_couples_on)
  f_p_result_bar : Addr
  d_p_result_bar : FuncData
  F_p_result_bar : Fun K "result_bar" "result_bar" s_p_result_bar f_p_result_bar d_p_result_bar
  g_p_result_bar : mg "result_bar" = some (.ref f_p_result_bar)
  f_p_check_result : Addr
  d_p_check_result : FuncData
  F_p_check_result : Fun K "check_result" "check_result" s_p_check_result f_p_check_result d_p_check_result
  g_p_check_result : mg "check_result" = some (.ref f_p_check_result)
  f_p_result_number : Addr
  d_p_result_number : FuncData
  F_p_result_number : Fun K "result_number" "result_number" s_p_result_number f_p_result_number d_p_result_number
  g_p_result_number : mg "result_number" = some (.ref f_p_result_number)
  f_p_beginnings_many : Addr
  d_p_beginnings_many : FuncData
  F_p_beginnings_many : Fun K "beginnings_many" "beginnings_many" s_p_beginnings_many f_p_beginnings_many d_p_beginnings_many
  g_p_beginnings_many : mg "beginnings_many" = some (.ref f_p_beginnings_many)
  f_p_beginning_at : Addr
  d_p_beginning_at : FuncData
  F_p_beginning_at : Fun K "beginning_at" "beginning_at" s_p_beginning_at f_p_beginning_at d_p_beginning_at
  g_p_beginning_at : mg "beginning_at" = some (.ref f_p_beginning_at)
  f_p_beginning_number : Addr
  d_p_beginning_number : FuncData
  F_p_beginning_number : Fun K "beginning_number" "beginning_number" s_p_beginning_number f_p_beginning_number d_p_beginning_number
  g_p_beginning_number : mg "beginning_number" = some (.ref f_p_beginning_number)
  f_p_cycle_from : Addr
  d_p_cycle_from : FuncData
  F_p_cycle_from : Fun K "cycle_from" "cycle_from" s_p_cycle_from f_p_cycle_from d_p_cycle_from
  g_p_cycle_from : mg "cycle_from" = some (.ref f_p_cycle_from)
  f_p_cycles : Addr
  d_p_cycles : FuncData
  F_p_cycles : Fun K "cycles" "cycles" s_p_cycles f_p_cycles d_p_cycles
  g_p_cycles : mg "cycles" = some (.ref f_p_cycles)
  f_p_distance : Addr
  d_p_distance : FuncData
  F_p_distance : Fun K "distance" "distance" s_p_distance f_p_distance d_p_distance
  g_p_distance : mg "distance" = some (.ref f_p_distance)
  f_p_ways_to_split : Addr
  d_p_ways_to_split : FuncData
  F_p_ways_to_split : Fun K "ways_to_split" "ways_to_split" s_p_ways_to_split f_p_ways_to_split d_p_ways_to_split
  g_p_ways_to_split : mg "ways_to_split" = some (.ref f_p_ways_to_split)
  f_p_words_many : Addr
  d_p_words_many : FuncData
  F_p_words_many : Fun K "words_many" "words_many" s_p_words_many f_p_words_many d_p_words_many
  g_p_words_many : mg "words_many" = some (.ref f_p_words_many)
  f_p_word_at : Addr
  d_p_word_at : FuncData
  F_p_word_at : Fun K "word_at" "word_at" s_p_word_at f_p_word_at d_p_word_at
  g_p_word_at : mg "word_at" = some (.ref f_p_word_at)
  f_p_word_number : Addr
  d_p_word_number : FuncData
  F_p_word_number : Fun K "word_number" "word_number" s_p_word_number f_p_word_number d_p_word_number
  g_p_word_number : mg "word_number" = some (.ref f_p_word_number)
  f_p_leads : Addr
  d_p_leads : FuncData
  F_p_leads : Fun K "leads" "leads" s_p_leads f_p_leads d_p_leads
  g_p_leads : mg "leads" = some (.ref f_p_leads)
  f_p_do_same : Addr
  d_p_do_same : FuncData
  F_p_do_same : Fun K "do_same" "do_same" s_p_do_same f_p_do_same d_p_do_same
  g_p_do_same : mg "do_same" = some (.ref f_p_do_same)
  f_p_parting : Addr
  d_p_parting : FuncData
  F_p_parting : Fun K "parting" "parting" s_p_parting f_p_parting d_p_parting
  g_p_parting : mg "parting" = some (.ref f_p_parting)
  f_p_shows_parting : Addr
  d_p_shows_parting : FuncData
  F_p_shows_parting : Fun K "shows_parting" "shows_parting" s_p_shows_parting f_p_shows_parting d_p_shows_parting
  g_p_shows_parting : mg "shows_parting" = some (.ref f_p_shows_parting)
  f_stream : Addr
  d_stream : FuncData
  F_stream : Fun K "_law_stream" "_law_stream" s_stream f_stream d_stream
  g_stream : mg "_law_stream" = some (.ref f_stream)
  f_draw : Addr
  d_draw : FuncData
  F_draw : Fun K "_law_draw" "_law_draw" s_draw f_draw d_draw
  g_draw : mg "_law_draw" = some (.ref f_draw)
  f_folded : Addr
  d_folded : FuncData
  F_folded : Fun K "_law_folded" "_law_folded" s_folded f_folded d_folded
  g_folded : mg "_law_folded" = some (.ref f_folded)
  f_pick : Addr
  d_pick : FuncData
  F_pick : Fun K "_law_pick" "_law_pick" s_pick f_pick d_pick
  g_pick : mg "_law_pick" = some (.ref f_pick)
  f_same : Addr
  d_same : FuncData
  F_same : Fun K "_law_same" "_law_same" s_same f_same d_same
  g_same : mg "_law_same" = some (.ref f_same)
  f_shuffled : Addr
  d_shuffled : FuncData
  F_shuffled : Fun K "_law_shuffled" "_law_shuffled" s_shuffled f_shuffled d_shuffled
  g_shuffled : mg "_law_shuffled" = some (.ref f_shuffled)
  f_random_pairing : Addr
  d_random_pairing : FuncData
  F_random_pairing : Fun K "_law_random_pairing" "_law_random_pairing" s_random_pairing f_random_pairing d_random_pairing
  g_random_pairing : mg "_law_random_pairing" = some (.ref f_random_pairing)
  f_pairs_door : Addr
  d_pairs_door : FuncData
  F_pairs_door : Fun K "_law_pairs_door" "_law_pairs_door" s_pairs_door f_pairs_door d_pairs_door
  g_pairs_door : mg "_law_pairs_door" = some (.ref f_pairs_door)
  f_sheets_door : Addr
  d_sheets_door : FuncData
  F_sheets_door : Fun K "_law_sheets_door" "_law_sheets_door" s_sheets_door f_sheets_door d_sheets_door
  g_sheets_door : mg "_law_sheets_door" = some (.ref f_sheets_door)
  f_both_door : Addr
  d_both_door : FuncData
  F_both_door : Fun K "_law_both_door" "_law_both_door" s_both_door f_both_door d_both_door
  g_both_door : mg "_law_both_door" = some (.ref f_both_door)
  f_refused : Addr
  d_refused : FuncData
  F_refused : Fun K "_law_refused" "_law_refused" s_refused f_refused d_refused
  g_refused : mg "_law_refused" = some (.ref f_refused)
  f_right : Addr
  d_right : FuncData
  F_right : Fun K "_law_right" "_law_right" s_right f_right d_right
  g_right : mg "_law_right" = some (.ref f_right)
  C_Begun : Addr
  gC_Begun : mg "Begun" = some (.ref C_Begun)
  kc_Begun : PySem.W.keepIn K (.ref C_Begun) = true
  C_OtherSize : Addr
  gC_OtherSize : mg "OtherSize" = some (.ref C_OtherSize)
  C_NoDeed : Addr
  gC_NoDeed : mg "NoDeed" = some (.ref C_NoDeed)
  C_NoNumber : Addr
  gC_NoNumber : mg "NoNumber" = some (.ref C_NoNumber)
  C_NoPerson : Addr
  gC_NoPerson : mg "NoPerson" = some (.ref C_NoPerson)
  C_NotResult : Addr
  gC_NotResult : mg "NotResult" = some (.ref C_NotResult)
  C_NotShortest : Addr
  gC_NotShortest : mg "NotShortest" = some (.ref C_NotShortest)
  own_OtherSize : Own K "ValueError.__new__" [.type "ValueError", .type "Exception", .type "BaseException", .type "object"] C_OtherSize
  kpt_OtherSize : KeptC K C_OtherSize
  no_OtherSize : PySem.W.findIn K (.ref C_OtherSize) "size" = some none
  f_i_OtherSize : Addr
  d_i_OtherSize : FuncData
  F_i_OtherSize : Fun K "__init__" "OtherSize.__init__" s_i_OtherSize f_i_OtherSize d_i_OtherSize
  iC_OtherSize : PySem.W.findIn K (.ref C_OtherSize) "__init__" = some (some (.ref f_i_OtherSize))
  tI_OtherSize : PySem.W.typeIn K (.ref f_i_OtherSize) = some (.type "function")
  ee_OtherSize : PySem.W.exmOne K (.ref C_OtherSize) (.ref C_OtherSize) = some true
  kk_OtherSize : PySem.W.kitOne K (.ref C_OtherSize) (.ref C_OtherSize) = some true
  ex_OtherSize_NoDeed : PySem.W.exmOne K (.ref C_OtherSize) (.ref C_NoDeed) = some false
  ki_OtherSize_NoDeed : PySem.W.kitOne K (.ref C_OtherSize) (.ref C_NoDeed) = some false
  ex_OtherSize_NoNumber : PySem.W.exmOne K (.ref C_OtherSize) (.ref C_NoNumber) = some false
  ki_OtherSize_NoNumber : PySem.W.kitOne K (.ref C_OtherSize) (.ref C_NoNumber) = some false
  ex_OtherSize_NoPerson : PySem.W.exmOne K (.ref C_OtherSize) (.ref C_NoPerson) = some false
  ki_OtherSize_NoPerson : PySem.W.kitOne K (.ref C_OtherSize) (.ref C_NoPerson) = some false
  ex_OtherSize_NotResult : PySem.W.exmOne K (.ref C_OtherSize) (.ref C_NotResult) = some false
  ki_OtherSize_NotResult : PySem.W.kitOne K (.ref C_OtherSize) (.ref C_NotResult) = some false
  ex_OtherSize_NotShortest : PySem.W.exmOne K (.ref C_OtherSize) (.ref C_NotShortest) = some false
  ki_OtherSize_NotShortest : PySem.W.kitOne K (.ref C_OtherSize) (.ref C_NotShortest) = some false
  kb_OtherSize_ValueError : PySem.W.kitOne K (.ref C_OtherSize) (.type "ValueError") = some true
  vV_ValueError : PySem.W.findCls K (.type "ValueError") (.type "type") "__init__" = some (.val (.builtin "ValueError.__init__"))
  C_Hall : Addr
  gC_Hall : mg "Hall" = some (.ref C_Hall)
  cl_Hall : Cls K C_Hall
  nF_Hall_past : NoAttr K C_Hall "past"
  nF_Hall_written : NoAttr K C_Hall "written"
  f_m_Hall_init : Addr
  d_m_Hall_init : FuncData
  F_m_Hall_init : Fun K "__init__" "Hall.__init__" s_m_Hall_init f_m_Hall_init d_m_Hall_init
  mk_Hall : Mk K C_Hall f_m_Hall_init
  f_m_Hall_pairing : Addr
  d_m_Hall_pairing : FuncData
  F_m_Hall_pairing : Fun K "pairing" "Hall.pairing" s_m_Hall_pairing f_m_Hall_pairing d_m_Hall_pairing
  me_Hall_pairing : Meth K C_Hall "pairing" f_m_Hall_pairing
  f_m_Hall_deeds : Addr
  d_m_Hall_deeds : FuncData
  F_m_Hall_deeds : Fun K "deeds" "Hall.deeds" s_m_Hall_deeds f_m_Hall_deeds d_m_Hall_deeds
  me_Hall_deeds : Meth K C_Hall "deeds" f_m_Hall_deeds
  f_m_Hall_become : Addr
  d_m_Hall_become : FuncData
  F_m_Hall_become : Fun K "become" "Hall.become" s_m_Hall_become f_m_Hall_become d_m_Hall_become
  me_Hall_become : Meth K C_Hall "become" f_m_Hall_become
theorem Env.b_m_Hall_init {K : PySem.W.Frag} {mg : Str → Option Value} (T : Env K mg) : Binds K T.d_m_Hall_init ["self", "pairing"] [] := T.F_m_Hall_init.binds fun _ _ _ _ _ _ us hl => match us, hl with | [_, _], _ => rfl
theorem Env.b_m_Hall_pairing {K : PySem.W.Frag} {mg : Str → Option Value} (T : Env K mg) : Binds K T.d_m_Hall_pairing ["self"] [] := T.F_m_Hall_pairing.binds fun _ _ _ _ _ _ us hl => match us, hl with | [_], _ => rfl
theorem Env.b_m_Hall_deeds {K : PySem.W.Frag} {mg : Str → Option Value} (T : Env K mg) : Binds K T.d_m_Hall_deeds ["self"] [] := T.F_m_Hall_deeds.binds fun _ _ _ _ _ _ us hl => match us, hl with | [_], _ => rfl
theorem Env.b_m_Hall_become {K : PySem.W.Frag} {mg : Str → Option Value} (T : Env K mg) : Binds K T.d_m_Hall_become ["self", "goal"] [] := T.F_m_Hall_become.binds fun _ _ _ _ _ _ us hl => match us, hl with | [_, _], _ => rfl
theorem Env.b_i_OtherSize {K : PySem.W.Frag} {mg : Str → Option Value} (T : Env K mg) : Binds K T.d_i_OtherSize ["self", "size"] [] := T.F_i_OtherSize.binds fun _ _ _ _ _ _ us hl => match us, hl with | [_, _], _ => rfl
theorem Env.b_p_people_of {K : PySem.W.Frag} {mg : Str → Option Value} (T : Env K mg) : Binds K T.d_p_people_of ["sheet"] [] := T.F_p_people_of.binds fun _ _ _ _ _ _ us hl => match us, hl with | [_], _ => rfl
theorem Env.b_p_check_sizes {K : PySem.W.Frag} {mg : Str → Option Value} (T : Env K mg) : Binds K T.d_p_check_sizes ["first", "second"] [] := T.F_p_check_sizes.binds fun _ _ _ _ _ _ us hl => match us, hl with | [_, _], _ => rfl
theorem Env.b_p_followed {K : PySem.W.Frag} {mg : Str → Option Value} (T : Env K mg) : Binds K T.d_p_followed ["one", "other"] [] := T.F_p_followed.binds fun _ _ _ _ _ _ us hl => match us, hl with | [_, _], _ => rfl
theorem Env.b_p_result {K : PySem.W.Frag} {mg : Str → Option Value} (T : Env K mg) : Binds K T.d_p_result ["sheet", "pairing"] [] := T.F_p_result.binds fun _ _ _ _ _ _ us hl => match us, hl with | [_, _], _ => rfl
theorem Env.b_p_path {K : PySem.W.Frag} {mg : Str → Option Value} (T : Env K mg) : Binds K T.d_p_path ["sheet", "pairing", "person"] [] := T.F_p_path.binds fun _ _ _ _ _ _ us hl => match us, hl with | [_, _, _], _ => rfl
theorem Env.b_p_shows_path {K : PySem.W.Frag} {mg : Str → Option Value} (T : Env K mg) : Binds K T.d_p_shows_path ["sheet", "pairing", "person", "value"] [] := T.F_p_shows_path.binds fun _ _ _ _ _ _ us hl => match us, hl with | [_, _, _, _], _ => rfl
theorem Env.b_p_couples_on {K : PySem.W.Frag} {mg : Str → Option Value} (T : Env K mg) : Binds K T.d_p_couples_on ["sheet", "pairing", "person"] [] := T.F_p_couples_on.binds fun _ _ _ _ _ _ us hl => match us, hl with | [_, _, _], _ => rfl
theorem Env.b_p_result_bar {K : PySem.W.Frag} {mg : Str → Option Value} (T : Env K mg) : Binds K T.d_p_result_bar ["sheet", "pairing"] [] := T.F_p_result_bar.binds fun _ _ _ _ _ _ us hl => match us, hl with | [_, _], _ => rfl
theorem Env.b_p_check_result {K : PySem.W.Frag} {mg : Str → Option Value} (T : Env K mg) : Binds K T.d_p_check_result ["sheet", "pairing"] [] := T.F_p_check_result.binds fun _ _ _ _ _ _ us hl => match us, hl with | [_, _], _ => rfl
theorem Env.b_p_result_number {K : PySem.W.Frag} {mg : Str → Option Value} (T : Env K mg) : Binds K T.d_p_result_number ["sheet", "pairing"] [] := T.F_p_result_number.binds fun _ _ _ _ _ _ us hl => match us, hl with | [_, _], _ => rfl
theorem Env.b_p_beginnings_many {K : PySem.W.Frag} {mg : Str → Option Value} (T : Env K mg) : Binds K T.d_p_beginnings_many ["sheet", "pairing"] [] := T.F_p_beginnings_many.binds fun _ _ _ _ _ _ us hl => match us, hl with | [_, _], _ => rfl
theorem Env.b_p_beginning_at {K : PySem.W.Frag} {mg : Str → Option Value} (T : Env K mg) : Binds K T.d_p_beginning_at ["sheet", "pairing", "number"] [] := T.F_p_beginning_at.binds fun _ _ _ _ _ _ us hl => match us, hl with | [_, _, _], _ => rfl
theorem Env.b_p_beginning_number {K : PySem.W.Frag} {mg : Str → Option Value} (T : Env K mg) : Binds K T.d_p_beginning_number ["sheet", "beginning"] [] := T.F_p_beginning_number.binds fun _ _ _ _ _ _ us hl => match us, hl with | [_, _], _ => rfl
theorem Env.b_p_cycles {K : PySem.W.Frag} {mg : Str → Option Value} (T : Env K mg) : Binds K T.d_p_cycles ["one", "other"] [] := T.F_p_cycles.binds fun _ _ _ _ _ _ us hl => match us, hl with | [_, _], _ => rfl
theorem Env.b_p_distance {K : PySem.W.Frag} {mg : Str → Option Value} (T : Env K mg) : Binds K T.d_p_distance ["one", "other"] [] := T.F_p_distance.binds fun _ _ _ _ _ _ us hl => match us, hl with | [_, _], _ => rfl
theorem Env.b_p_ways_to_split {K : PySem.W.Frag} {mg : Str → Option Value} (T : Env K mg) : Binds K T.d_p_ways_to_split ["sizes"] [] := T.F_p_ways_to_split.binds fun _ _ _ _ _ _ us hl => match us, hl with | [_], _ => rfl
theorem Env.b_p_words_many {K : PySem.W.Frag} {mg : Str → Option Value} (T : Env K mg) : Binds K T.d_p_words_many ["one", "other"] [] := T.F_p_words_many.binds fun _ _ _ _ _ _ us hl => match us, hl with | [_, _], _ => rfl
theorem Env.b_p_word_at {K : PySem.W.Frag} {mg : Str → Option Value} (T : Env K mg) : Binds K T.d_p_word_at ["one", "other", "number"] [] := T.F_p_word_at.binds fun _ _ _ _ _ _ us hl => match us, hl with | [_, _, _], _ => rfl
theorem Env.b_p_word_number {K : PySem.W.Frag} {mg : Str → Option Value} (T : Env K mg) : Binds K T.d_p_word_number ["one", "other", "word"] [] := T.F_p_word_number.binds fun _ _ _ _ _ _ us hl => match us, hl with | [_, _, _], _ => rfl
theorem Env.b_p_leads {K : PySem.W.Frag} {mg : Str → Option Value} (T : Env K mg) : Binds K T.d_p_leads ["one", "other", "value"] [] := T.F_p_leads.binds fun _ _ _ _ _ _ us hl => match us, hl with | [_, _, _], _ => rfl
theorem Env.b_p_do_same {K : PySem.W.Frag} {mg : Str → Option Value} (T : Env K mg) : Binds K T.d_p_do_same ["one", "other"] [] := T.F_p_do_same.binds fun _ _ _ _ _ _ us hl => match us, hl with | [_, _], _ => rfl
theorem Env.b_p_parting {K : PySem.W.Frag} {mg : Str → Option Value} (T : Env K mg) : Binds K T.d_p_parting ["one", "other"] [] := T.F_p_parting.binds fun _ _ _ _ _ _ us hl => match us, hl with | [_, _], _ => rfl
theorem Env.b_p_shows_parting {K : PySem.W.Frag} {mg : Str → Option Value} (T : Env K mg) : Binds K T.d_p_shows_parting ["one", "other", "value"] [] := T.F_p_shows_parting.binds fun _ _ _ _ _ _ us hl => match us, hl with | [_, _, _], _ => rfl
theorem Env.b_stream {K : PySem.W.Frag} {mg : Str → Option Value} (T : Env K mg) : Binds K T.d_stream ["_law_script", "_law_k"] [] := T.F_stream.binds fun _ _ _ _ _ _ us hl => match us, hl with | [_, _], _ => rfl
theorem Env.b_draw {K : PySem.W.Frag} {mg : Str → Option Value} (T : Env K mg) : Binds K T.d_draw ["_law_source", "_law_bound"] [] := T.F_draw.binds fun _ _ _ _ _ _ us hl => match us, hl with | [_, _], _ => rfl
theorem Env.b_folded {K : PySem.W.Frag} {mg : Str → Option Value} (T : Env K mg) : Binds K T.d_folded ["_law_script", "_law_most"] [] := T.F_folded.binds fun _ _ _ _ _ _ us hl => match us, hl with | [_, _], _ => rfl
theorem Env.b_pick {K : PySem.W.Frag} {mg : Str → Option Value} (T : Env K mg) : Binds K T.d_pick ["_law_source", "_law_some"] [] := T.F_pick.binds fun _ _ _ _ _ _ us hl => match us, hl with | [_, _], _ => rfl
theorem Env.b_same {K : PySem.W.Frag} {mg : Str → Option Value} (T : Env K mg) : Binds K T.d_same ["_law_found", "_law_due"] [] := T.F_same.binds fun _ _ _ _ _ _ us hl => match us, hl with | [_, _], _ => rfl
theorem Env.b_shuffled {K : PySem.W.Frag} {mg : Str → Option Value} (T : Env K mg) : Binds K T.d_shuffled ["_law_source", "_law_some"] [] := T.F_shuffled.binds fun _ _ _ _ _ _ us hl => match us, hl with | [_, _], _ => rfl
theorem Env.b_random_pairing {K : PySem.W.Frag} {mg : Str → Option Value} (T : Env K mg) : Binds K T.d_random_pairing ["_law_source", "_law_crowd"] [] := T.F_random_pairing.binds fun _ _ _ _ _ _ us hl => match us, hl with | [_, _], _ => rfl
theorem Env.b_pairs_door {K : PySem.W.Frag} {mg : Str → Option Value} (T : Env K mg) : Binds K T.d_pairs_door ["_law_door", "_law_start", "_law_mate"] [] := T.F_pairs_door.binds fun _ _ _ _ _ _ us hl => match us, hl with | [_, _, _], _ => rfl
theorem Env.b_sheets_door {K : PySem.W.Frag} {mg : Str → Option Value} (T : Env K mg) : Binds K T.d_sheets_door ["_law_door", "_law_page", "_law_mate"] [] := T.F_sheets_door.binds fun _ _ _ _ _ _ us hl => match us, hl with | [_, _, _], _ => rfl
theorem Env.b_both_door {K : PySem.W.Frag} {mg : Str → Option Value} (T : Env K mg) : Binds K T.d_both_door ["_law_door", "_law_page", "_law_start"] [] := T.F_both_door.binds fun _ _ _ _ _ _ us hl => match us, hl with | [_, _, _], _ => rfl
theorem Env.b_refused {K : PySem.W.Frag} {mg : Str → Option Value} (T : Env K mg) : Binds K T.d_refused ["_law_kind", "_law_door", "_law_thing", "_law_other_thing"] [] := T.F_refused.binds fun _ _ _ _ _ _ us hl => match us, hl with | [_, _, _, _], _ => rfl
theorem Env.b_right {K : PySem.W.Frag} {mg : Str → Option Value} (T : Env K mg) : Binds K T.d_right ["_law_source"] [] := T.F_right.binds fun _ _ _ _ _ _ us hl => match us, hl with | [_], _ => rfl
end Pc
namespace Pc
open PySem PySem.Spec PyProof.Rows L2 RZ
section
variable {P : Program} {w : World} {K : PySem.W.Frag} {mg : Str → Option Value} {base : Heap}
theorem ok_i_OtherSize (T : Env K mg) : FnOk P w K mg base CX0 1 T.f_i_OtherSize T.d_i_OtherSize ["self", "size"] (spInit1 T.C_OtherSize "size") := by
  refine T.F_i_OtherSize.ok sc_i_OtherSize (fun vs H Q E h => ?_) (fun cdv A outer s H vs Q E hr h => ?_)
  · obtain ⟨a, v, rfl, _⟩ := h
    rfl
  · obtain ⟨a, v, rfl, ha, q⟩ := h
    refine ⟨_, pss_cons (ps_expr (pe_binit (o := .Constant .none 0 ⟨0, 0, 0, 0⟩) bsV.fb (by rfl) T.n_ValueError (by decide +kernel) (by decide) (by decide) (by kernel_rfl) (by decide +kernel) (by decide +kernel) T.vV_ValueError (pa_cons (pv 0) (pa_cons pe_str pa_nil)))) (pss_one (ps_os (newId := "ValueError.__new__") bsV.sf (pv 0) (pv 1))), ?_⟩
    exact ⟨.ref a, rfl, a, _, [.str _], rfl, (by show 1 ≤ 1000; decide), T.own_OtherSize, ha, v, rfl, .ref a, rfl, a, _, rfl, T.own_OtherSize, T.no_OtherSize, ha, fun dx n ne => q dx n ne⟩
end
end Pc
namespace Pc
open PySem PySem.Spec PyProof.Rows L2 RZ
section
variable {P : Program} {w : World} {K : PySem.W.Frag} {mg : Str → Option Value} {base : Heap}
/-! ### a source -/
def spBox (K : PySem.W.Frag) : Sp := fun vs H Q _ => ∃ (a : Addr) (ns : List Int) (k : Nat), vs = [.ref a, .int k] ∧ SqL K H a (ns.map V.int) ∧ k ≤ 100 ∧
  ∀ H' b, Same H H' → H b = none → Box 1000000000 H' b → Q (.ref b) H'
theorem ok_box (T : Env K mg) : FnOk P w K mg base CX0 1 T.f_stream T.d_stream ["_law_script", "_law_k"] (spBox K) := by
  refine T.F_stream.ok sc_stream (fun vs H Q E h => ?_) (fun cdv A outer s H vs Q E hr h => ?_)
  · obtain ⟨a, ns, k, rfl, _⟩ := h
    rfl
  · obtain ⟨a, ns, k, rfl, hS, hk, q⟩ := h
    refine ⟨_, pss_cons (ps_set (i := 2) sc_stream.nd rfl (.inl rfl) pe_int) <| pss_cons (ps_if (pt_cmpR op_lt (pv 1) (pe_callB call_len_seq (by rfl) T.n_len PySem.boot_len (pa_cons (pv 0) pa_nil)) (nomark _)) (pss_one (ps_set (i := 2) sc_stream.nd rfl (.inl rfl) (pe_ix ix_list (pv 0) (pv 1) (fun _ _ => rfl)))) pss_nil)
      (pss_one (ps_ret (pe_lst (pa_cons
          (pe_op op_mul (pe_callB call_abs (by rfl) T.n_abs (by decide +kernel) (pa_cons (pv 2) pa_nil))
            (pe_callTy call_int1 (by rfl) T.n_int (by decide +kernel) (pa_cons (pe_cmpR op_ge (pe_callB call_abs (by rfl) T.n_abs (by decide +kernel) (pa_cons (pv 2) pa_nil)) (pe_op op_pow pe_int pe_int) (nomark _)) pa_nil)))
        (pa_cons (pe_op op_add (pe_op op_add (pe_op op_mod (pv 2) pe_int) (pe_op op_mul pe_int (pv 1))) pe_int)
        (pa_cons pe_int pa_nil)))))), ?_⟩
    refine ⟨.int k, rfl, .ref a, rfl, a, ns.map V.int, rfl, .inl hS, _, _, rfl, rfl, _, rfl, ite2 (fun e => ?_) (fun e => ?_)⟩
    · have e1 : k < ns.length := by
        have := of_decide_eq_true e
        rw [List.length_map] at this
        omega
      refine ⟨.ref a, rfl, .int k, rfl, a, _, _, _, rfl, rfl, hS, atI_nat (v := .int ns[k]) (by rw [List.getElem?_map, List.getElem?_eq_getElem e1]; rfl), ?_⟩
      revert e; generalize ns[k] = c; intro _
      refine ⟨_, rfl, _, rfl, _, rfl, _, rfl, 10, 18, rfl, rfl, ⟨by decide, by decide, by decide⟩, _, _, rfl, rfl, .inr ⟨_, rfl, _, _, rfl, rfl, .inr (in64 (one0 _)), _, rfl, _, _, rfl, rfl, (show (0 : Int) < 2305843009213693951 by decide), _, rfl, _, _, rfl, rfl, .inl ⟨by decide, by decide⟩, _, _, rfl, rfl, _, _, rfl, rfl, ?_⟩⟩
      refine ⟨by show 3 ≤ sizeLine; decide, fun b nb => q _ b (same_new nb) nb ⟨_, _, 0, upd_same, Int.mul_nonneg ?_ (one0 _).1, ?_, ?_, by decide, by decide⟩⟩
      · split <;> omega
      · omega
      · omega
    · refine ⟨_, rfl, _, rfl, _, rfl, _, rfl, 10, 18, rfl, rfl, ⟨by decide, by decide, by decide⟩, _, _, rfl, rfl, .inr ⟨_, rfl, _, _, rfl, rfl, .inr (in64 (one0 _)), _, rfl, _, _, rfl, rfl, (show (0 : Int) < 2305843009213693951 by decide), _, rfl, _, _, rfl, rfl, .inl ⟨by decide, by decide⟩, _, _, rfl, rfl, _, _, rfl, rfl, ?_⟩⟩
      refine ⟨by show 3 ≤ sizeLine; decide, fun b nb => q _ b (same_new nb) nb ⟨_, _, 0, upd_same, Int.mul_nonneg ?_ (one0 _).1, ?_, ?_, by decide, by decide⟩⟩
      · split <;> omega
      · omega
      · omega
end
end Pc
namespace Pc
open PySem PySem.Spec PyProof.Rows L2 RZ
section
variable {P : Program} {w : World} {K : PySem.W.Frag} {mg : Str → Option Value} {base : Heap}
/-! ### a draw below a span of at most ten million -/
def spTake : Sp := fun vs H Q _ => ∃ (b : Addr) (n : Nat) (s : Int), vs = [.ref b, .int s] ∧ Box (n + 1) H b ∧ 0 < s ∧ s ≤ 10000000 ∧
  ∀ (r : Int) (H' : Hp), 0 ≤ r → r < s → Box n H' b → Keep b H H' → Q (.int r) H'
theorem ok_take (T : Env K mg) : FnOk P w K mg base CX0 1 T.f_draw T.d_draw ["_law_source", "_law_bound"] spTake := by
  refine T.F_draw.ok sc_draw (fun vs H Q E h => ?_) (fun cdv A outer s H vs Q E hr h => ?_)
  · obtain ⟨b, n, s, rfl, _⟩ := h
    rfl
  · obtain ⟨b, n, s, rfl, ⟨x, y, z, hb, hx, hy, hy2, hz, hz2⟩, hs, hs2, q⟩ := h
    refine ⟨_, pss_cons (ps_if (pt_cmpR op_gt (pe_ix ix_list (pv 0) pe_int (fun _ _ => rfl)) pe_int (nomark _))
        (pss_cons (ps_set (i := 2) sc_draw.nd rfl (.inl rfl) (pe_op op_mod (pe_ix ix_list (pv 0) pe_int (fun _ _ => rfl)) (pv 1)))
        (pss_cons (ps_asg (pe_op op_fdiv (pe_ix ix_list (pv 0) pe_int (fun _ _ => rfl)) (pv 1)) (pg_sub (pv 0) pe_int set_list))
        (pss_one (ps_ret (pv 2))))) pss_nil)
      (pss_cons (ps_if (pt_cmpR op_gt (pv 1) (pe_op op_pow pe_int pe_int) (nomark _)) pss_never pss_nil)
      (pss_cons (ps_asg (pe_op op_add (pe_ix ix_list (pv 0) pe_int (fun _ _ => rfl)) pe_int) (pg_sub (pv 0) pe_int set_list))
      (pss_cons (ps_set (i := 3) sc_draw.nd rfl (.inl rfl) (pe_op op_mod (pe_op op_mul (pe_op op_add (pe_ix ix_list (pv 0) pe_int (fun _ _ => rfl)) (pe_op op_mul pe_int (pe_ix ix_list (pv 0) pe_int (fun _ _ => rfl)))) (pe_op op_add pe_int (pe_ix ix_list (pv 0) pe_int (fun _ _ => rfl)))) pe_int))
      (pss_cons (ps_set (i := 4) sc_draw.nd rfl (.inl rfl) (pe_op op_mod (pe_op op_mul (pe_op op_add (pe_op op_add (pv 3) (pe_ix ix_list (pv 0) pe_int (fun _ _ => rfl))) (pe_op op_fdiv (pe_ix ix_list (pv 0) pe_int (fun _ _ => rfl)) pe_int)) (pe_op op_add (pe_op op_mod (pv 3) pe_int) pe_int)) pe_int))
      (pss_one (ps_ret (pe_op op_mod (pe_op op_fdiv (pe_op op_mod (pe_op op_add (pe_op op_mul (pv 4) pe_int) (pv 3)) pe_int) pe_int) (pv 1)))))))), ?_⟩
    have hS : SqL K H b [.int x, .int y, .int z] := .inl (.inl hb)
    refine ⟨.ref b, rfl, b, _, 0, .int x, rfl, rfl, hS, atI_nat (j := 0) rfl, x, 0, rfl, rfl, _, rfl, ite2 (fun e => ?_) (fun e => ?_)⟩
    · -- the number itself serves
      refine ⟨.ref b, rfl, b, _, 0, .int x, rfl, rfl, hS, atI_nat (j := 0) rfl, .int s, rfl, x, s, rfl, rfl, hs, ?_⟩
      refine ⟨.ref b, rfl, b, _, 0, .int x, rfl, rfl, hS, atI_nat (j := 0) rfl, .int s, rfl, x, s, rfl, rfl, ⟨hs, by omega⟩, .ref b, rfl, b, _, 0, 0, rfl, rfl, hb, rfl, ?_⟩
      refine ⟨_, rfl, q _ _ (Int.emod_nonneg _ (by omega)) (Int.emod_lt_of_pos _ hs) ⟨_, y, z, upd_same, ?_, hy, hy2, hz, by omega⟩ keep_upd⟩
      exact Int.ediv_nonneg hx (by omega)
    · refine ⟨.int s, rfl, 10, 7, rfl, rfl, ⟨by decide, by decide, by decide⟩, s, _, rfl, rfl, _, rfl, ite2 (fun e2 => ?_) (fun _ => ?_)⟩
      · have e3 := of_decide_eq_true e2
        have e4 : (10 : Int) ^ Int.toNat 7 = 10000000 := by decide
        rw [e4] at e3
        omega
      refine ⟨.ref b, rfl, b, _, 2, .int z, rfl, rfl, hS, atI_nat (j := 2) rfl, z, 1, rfl, rfl, .ref b, rfl, b, _, 2, 2, rfl, rfl, hb, rfl, ?_⟩
      have h2 : upd H b (.lst ([V.int x, V.int y, V.int z].set 2 (.int (z + 1)))) b = some (.lst [.int x, .int y, .int (z + 1)]) := upd_same
      have hS2 : SqL K (upd H b (.lst ([V.int x, V.int y, V.int z].set 2 (.int (z + 1))))) b [.int x, .int y, .int (z + 1)] := .inl (.inl h2)
      refine ⟨.ref b, rfl, b, _, 1, .int y, rfl, rfl, hS2, atI_nat (j := 1) rfl, .ref b, rfl, b, _, 2, .int (z + 1), rfl, rfl, hS2, atI_nat (j := 2) rfl, 48271, z + 1, rfl, rfl, .inl ⟨by decide, by decide⟩, y, _, rfl, rfl, .ref b, rfl, b, _, 2, .int (z + 1), rfl, rfl, hS2, atI_nat (j := 2) rfl, 39373, z + 1, rfl, rfl, _, _, rfl, rfl, .inr ⟨by omega, by omega⟩, _, 2147483647, rfl, rfl, (show (0 : Int) < 2147483647 by decide), ?_⟩
      have o1 : 0 ≤ (y + 48271 * (z + 1)) * (39373 + (z + 1)) % 2147483647 := Int.emod_nonneg _ (by decide)
      have o2 : (y + 48271 * (z + 1)) * (39373 + (z + 1)) % 2147483647 < 2147483647 := Int.emod_lt_of_pos _ (by decide)
      have o3 : 0 ≤ (y + 48271 * (z + 1)) * (39373 + (z + 1)) % 2147483647 % 40009 := Int.emod_nonneg _ (by decide)
      have o4 : (y + 48271 * (z + 1)) * (39373 + (z + 1)) % 2147483647 % 40009 < 40009 := Int.emod_lt_of_pos _ (by decide)
      refine ⟨_, rfl, .ref b, rfl, b, _, 2, .int (z + 1), rfl, rfl, hS2, atI_nat (j := 2) rfl, _, z + 1, rfl, rfl, .ref b, rfl, b, _, 1, .int y, rfl, rfl, hS2, atI_nat (j := 1) rfl, y, 1000003, rfl, rfl, ⟨by decide, by decide⟩, _, _, rfl, rfl, _, rfl, _, 40009, rfl, rfl, (show (0 : Int) < 40009 by decide), _, 7, rfl, rfl, _, _, rfl, rfl, .inr ⟨Int.lt_of_lt_of_le (by decide) (Int.add_le_add_right o3 7), Int.lt_trans (Int.add_lt_add_right o4 7) (by decide)⟩, _, 2147483629, rfl, rfl, (show (0 : Int) < 2147483629 by decide), ?_⟩
      refine ⟨_, rfl, _, 48271, rfl, rfl, .inr ⟨by decide, by decide⟩, _, rfl, _, _, rfl, rfl, _, 2147483587, rfl, rfl, (show (0 : Int) < 2147483587 by decide), _, 64, rfl, rfl, ⟨by decide, by decide⟩, .int s, rfl, _, s, rfl, rfl, hs, ?_⟩
      exact q _ _ (Int.emod_nonneg _ (by omega)) (Int.emod_lt_of_pos _ hs) ⟨x, y, z + 1, h2, hx, hy, hy2, by omega, by omega⟩ keep_upd
end
end Pc
namespace Pc
open PySem PySem.Spec PyProof.Rows L2 RZ
/-- what a slice of a list of ints is -/
theorem cut_ints (ns : List Int) (lo hi : Option Int) : ∃ ms : List Int, cutV (ns.map V.int) lo hi = ms.map V.int ∧ ms = (ns.drop (HT.sIx ns.length 0 lo)).take (HT.sIx ns.length ns.length hi - HT.sIx ns.length 0 lo) := by
  refine ⟨_, ?_, rfl⟩
  unfold cutV
  rw [List.length_map, List.map_take, List.map_drop]
theorem map_set_int (cs : List Int) (j : Nat) (v : Int) : (cs.map V.int).set j (.int v) = (cs.set j v).map V.int := by
  rw [List.map_set]
end Pc
namespace Pc
open PySem PySem.Spec PyProof.Rows L2 RZ
section
variable {P : Program} {w : World} {K : PySem.W.Frag} {mg : Str → Option Value} {base : Heap}
/-! ### the numbers of the script, the later ones added to the first -/
def spCells (K : PySem.W.Frag) : Sp := fun vs H Q _ => ∃ (a : Addr) (ns : List Int) (m : Nat), vs = [.ref a, .int m] ∧ SqL K H a (ns.map V.int) ∧ ns.length ≤ 63 ∧ 0 < m ∧ m ≤ 60 ∧
  ∀ H' p (cs : List Int), Same H H' → H p = none → H' p = some (.lst (cs.map V.int)) → 1 ≤ cs.length → cs.length ≤ m → Q (.ref p) H'
theorem ok_cells (T : Env K mg) : FnOk P w K mg base CX0 1 T.f_folded T.d_folded ["_law_script", "_law_most"] (spCells K) := by
  refine T.F_folded.ok sc_folded (fun vs H Q E h => ?_) (fun cdv A outer s H vs Q E hr h => ?_)
  · obtain ⟨a, ns, m, rfl, _⟩ := h
    rfl
  · obtain ⟨a, ns, m, rfl, hS, hn, hm, hm2, q⟩ := h
    refine ⟨_, pss_cons (ps_set (i := 2) sc_folded.nd rfl (.inl rfl) (pe_orT (pe_callTy call_list_of (by rfl) T.n_list (by decide +kernel) (pa_cons (pe_slice sl_list (pv 0) po_none (po_some (pv 1))) pa_nil)) (pe_one (pe_lst (pa_cons pe_int pa_nil)))))
      (pss_cons (ps_for PassesOwn.never rfl (pi_enum (by rfl) T.n_enumerate (pa_cons (pe_slice sl_list (pv 0) (po_some (pv 1)) (po_some pe_int)) pa_nil))
          (pg_tup rfl (pgs_cons (pg_name (i := 3) sc_folded.nd rfl (.inl rfl)) (pgs_cons (pg_name (i := 4) sc_folded.nd rfl (.inl rfl)) pgs_nil)))
        (pss_one (ps_asg (pe_op op_add (pe_ix ix_list (pv 2) (pe_op op_mod (pv 3) (pv 1)) (fun _ _ => rfl)) (pe_op op_mul (pv 4) (pe_op op_add (pv 3) pe_int)))
          (pg_sub (pv 2) (pe_op op_mod (pv 3) (pv 1)) set_list))))
      (pss_one (ps_ret (pv 2)))), ?_⟩
    obtain ⟨ms, e1, e2⟩ := cut_ints ns none (some (m : Int))
    obtain ⟨ls, e3, e4⟩ := cut_ints ns (some (m : Int)) (some 63)
    have f2 : ms.length = min m ns.length := by
      rw [e2, HT.sIx_none, HT.sIx_nat, List.length_take, List.drop_zero]
      omega
    have f4 : ls.length = ns.length - m := by
      rw [e4, HT.sIx_nat, show (63 : Int) = ((63 : Nat) : Int) from rfl, HT.sIx_nat, List.length_take, List.length_drop]
      omega
    -- the copy of the first ones
    refine ⟨.ref a, rfl, .int m, rfl, m, rfl, a, ns.map V.int, rfl, hS, fun c nc => ⟨c, _, rfl, .inl (.inl (.inl upd_same)), fun l nl => ?_⟩⟩
    rw [e1] at nl ⊢
    have s1 : Same H (upd (upd H c (.lst (ms.map V.int))) l (.lst (ms.map V.int))) := (same_new nc).trans (same_new nl)
    have nl0 : H l = none := (same_new nc).free nl
    have el0 : (upd (upd H c (.lst (ms.map V.int))) l (.lst (ms.map V.int))) l = some (.lst (ms.map V.int)) := upd_same
    revert s1 el0
    generalize upd (upd H c (.lst (ms.map V.int))) l (.lst (ms.map V.int)) = H0
    intro s1 el0
    refine ⟨!(ms.map V.int).isEmpty, .inl ⟨_, .inl (.inl el0), rfl⟩, ite2 (fun k => ?wa) (fun k => ?wb)⟩
    case' wa =>
      obtain ⟨cs0, g3, g4, g5, g6⟩ : ∃ cs0 : List Int, H0 l = some (.lst (cs0.map V.int)) ∧ 1 ≤ cs0.length ∧ cs0.length ≤ m ∧ (0 < ls.length → cs0.length = m) := by
        refine ⟨ms, el0, ?_, by omega, by omega⟩
        cases ms with
        | nil => exact absurd (show false = true from k) Bool.false_ne_true
        | cons x r => simp
      clear el0
    case' wb =>
      have hm0 : ms.length = 0 := by
        cases ms with
        | nil => rfl
        | cons x r => exact absurd rfl k
      refine ⟨by show 1 ≤ sizeLine; decide, fun l2 nl2 => ?_⟩
      have s3 := s1.trans (same_new (o := .lst [.int 0]) nl2)
      have nl3 := s1.free nl2
      have g3' : (upd H0 l2 (.lst [.int 0])) l2 = some (.lst [.int 0]) := upd_same
      clear nl0 s1 el0
      revert s3 g3'
      generalize upd H0 l2 (.lst [.int 0]) = H3
      intro s3 g3'
      clear nl2
      clear H0
      revert l2 nl3 H3 s3 g3'
      intro l nl0 H0 s1 g3'
      obtain ⟨cs0, g3, g4, g5, g6⟩ : ∃ cs0 : List Int, H0 l = some (.lst (cs0.map V.int)) ∧ 1 ≤ cs0.length ∧ cs0.length ≤ m ∧ (0 < ls.length → cs0.length = m) := ⟨[0], g3', by decide, hm, by omega⟩
    all_goals
      refine ⟨.ref a, rfl, .int m, rfl, m, rfl, _, rfl, a, ns.map V.int, rfl, s1.seq hS, fun d nd => ?_⟩
      rw [e3]
      refine ⟨d, ls.map V.int, rfl, .inl (.inl upd_same), ?_⟩
      have s2 : Same H _ := s1.trans (same_new (o := .lst (ls.map V.int)) nd)
      have ldd : l ≠ d := ne_of_none g3 nd
      refine for_it walk_enum (fun i σ H' => Same H H' ∧ H' d = some (.lst (ls.map V.int)) ∧ ∃ (y3 y4 : Option V) (cs : List Int), σ = [some (.ref a), some (.int m), some (.ref l), y3, y4] ∧ H' l = some (.lst (cs.map V.int)) ∧ cs.length = cs0.length)
        ⟨s2, upd_same, none, none, cs0, rfl, by rw [upd_ne ldd]; exact g3, rfl⟩ (fun i σ H' _ h => .inl (.inl h.2.1)) (fun i x σ H1 H2 hi h y => ?_) (fun σ H' h => ?_)
      · obtain ⟨sm, ed, y3, y4, cs, rfl, el, ecl⟩ := h
        obtain ⟨t, v1, v2, rfl, nt, rfl, g1, g2⟩ := y
        rw [List.length_map] at hi
        have ev1 : v1 = .int (i : Nat) := (Option.some.inj g1).symm
        have ev2 : v2 = .int ls[i] := by
          have g3 : (ls.map V.int)[i]? = some v2 := g2
          rw [List.getElem?_map, List.getElem?_eq_getElem hi] at g3
          exact (Option.some.inj g3).symm
        subst ev1 ev2
        have hml : cs.length = m := by omega
        have hlt : l ≠ t := ne_of_none el nt
        have hdt : d ≠ t := ne_of_none ed nt
        have elt : (upd H1 t (.tup [.int (i : Nat), .int ls[i]])) l = some (.lst (cs.map V.int)) := by rw [upd_ne hlt]; exact el
        have him : ((i : Int) % (m : Int)) = ((i % m : Nat) : Int) := by omega
        have hjm : i % m < cs.length := by rw [hml]; exact Nat.mod_lt _ hm
        have hix : ixN (cs.map V.int).length ((i : Int) % (m : Int)) = some (i % m) := by
          rw [him]
          unfold ixN
          rw [List.length_map, if_pos (by omega), if_pos (by omega)]; rfl
        refine ⟨t, _, rfl, .inl (.inl upd_same), rfl, _, _, rfl, _, _, rfl, rfl, ?_⟩
        refine ⟨.ref l, rfl, .int (i : Nat), rfl, .int m, rfl, (i : Nat), m, rfl, rfl, (show (0 : Int) < m by omega), l, _, _, .int cs[i % m], rfl, rfl, .inl (.inl elt), ?_, ?_⟩
        · unfold atI
          show (ixN (cs.map V.int).length ((i : Int) % (m : Int))).bind _ = _
          rw [hix]
          show (cs.map V.int)[i % m]? = _
          rw [List.getElem?_map, List.getElem?_eq_getElem hjm]; rfl
        refine ⟨.int ls[i], rfl, .int (i : Nat), rfl, (i : Nat), 2, rfl, rfl, ls[i], _, rfl, rfl, .inr ⟨by omega, by omega⟩, cs[i % m], _, rfl, rfl, .ref l, rfl, .int (i : Nat), rfl, .int m, rfl, (i : Nat), m, rfl, rfl, (show (0 : Int) < m by omega), l, _, _, i % m, rfl, rfl, elt, hix, ?_⟩
        refine ⟨?_, ?_, _, _, cs.set (i % m) (cs[i % m] + ls[i] * ((i : Nat) + 2)), rfl, ?_, ?_⟩
        · intro b o hb
          have nb : b ≠ l := ne_of_none hb nl0
          rw [upd_ne nb]
          exact same_new nt _ _ (sm b o hb)
        · rw [upd_ne ldd.symm, upd_ne hdt]; exact ed
        · rw [upd_same, ← map_set_int]
        · rw [List.length_set]; exact ecl
      · obtain ⟨sm, ed, y3, y4, cs, rfl, el, ecl⟩ := h
        exact ⟨.ref l, rfl, q _ l cs sm nl0 el (by omega) (by omega)⟩
end
end Pc
namespace Pc
open PySem PySem.Spec PyProof.Rows L2 RZ
/-! ### xs != [] for any items -/
def rNeNil (K : PySem.W.Frag) : R2 := fun x y H Q => ∃ a b xs, x = .ref a ∧ y = .ref b ∧ SqL K H a xs ∧ SqL K H b [] ∧ Q (.bl (!xs.isEmpty)) H
theorem op_neNil {X : Cx} (hu : X.A.units + 64 < cLine) : OpR X (compareOp .NotEq) (rNeNil X.K) := by
  intro pins s σ H x y v u Q I rx ry h
  obtain ⟨a, b, xs, rfl, rfl, h1, h2, q⟩ := h
  cases rx; cases ry
  obtain ⟨its, rv, p1, _⟩ := I.list h1
  obtain ⟨its2, rv2, p2, _⟩ := I.list h2
  have l1 := rv.length
  have l2 := rv2.length
  have hu0 : X.A.units < cLine := by omega
  cases xs with
  | nil =>
    have z1 : its.length = 0 := l1.symm
    have z2 : its2.length = 0 := l2.symm
    refine SeqAt.RcNeAt.lists (e := fun _ => true) p1.isList p2.isList (by simp [z1, z2]) hu0 (fun j j1 _ => ?_) X.prog X.w X.xe _ ?_
    · rw [List.size_toArray] at j1; omega
    · rw [List.size_toArray, z1]
      exact ⟨.bl false, H, I, rfl, q⟩
  | cons z r =>
    have z1 : its.length ≠ 0 := by rw [← l1]; simp
    have z2 : its2.length = 0 := l2.symm
    refine SeqAt.RcNeAt.lists_lengths p1.isList p2.isList (by simp [z2, z1]) hu0 X.prog X.w X.xe _ ?_
    exact ⟨.bl true, H, I, rfl, q⟩
theorem perm_erase {α : Type} : ∀ {l : List α} {i : Nat} (h : i < l.length), (l[i] :: l.eraseIdx i).Perm l
  | a :: r, 0, _ => List.Perm.refl _
  | a :: r, i + 1, h => (List.Perm.swap a (r[i]'(Nat.lt_of_succ_lt_succ h)) (r.eraseIdx i)).trans ((perm_erase (l := r) (i := i) (Nat.lt_of_succ_lt_succ h)).cons a)
/-- the place of an index that is not negative -/
theorem seq_ix {i : Int} {n : Nat} (h0 : 0 ≤ i) (h : i < n) : seqIndex? i n = some i.toNat := seqIndex_of h0 h
end Pc
namespace Pc
open PySem PySem.Spec PyProof.Rows L2 RZ
section
variable {P : Program} {w : World} {K : PySem.W.Frag} {mg : Str → Option Value} {base : Heap}
/-! ### some things in drawn order -/
def spStrewn (K : PySem.W.Frag) : Sp := fun vs H Q _ => ∃ (b a : Addr) (n : Nat) (xs : List V), vs = [.ref b, .ref a] ∧ Box (n + xs.length) H b ∧ SqL K H a xs ∧ xs.length ≤ 1000 ∧
  ∀ (H' : Hp) (p : Addr) (ys : List V), ys.Perm xs → Keep b H H' → Box n H' b → H p = none → H' p = some (.lst ys) → Q (.ref p) H'
theorem ok_strewn (T : Env K mg) : FnOk P w K mg base CX0 2 T.f_shuffled T.d_shuffled ["_law_source", "_law_some"] (spStrewn K) := by
  have GT : FnOk P w K mg base CX0 1 T.f_draw T.d_draw ["_law_source", "_law_bound"] spTake := ok_take T
  refine T.F_shuffled.ok sc_shuffled (fun vs H Q E h => ?_) (fun cdv A outer s H vs Q E hr h => ?_)
  · obtain ⟨b, a, n, xs, rfl, _⟩ := h
    rfl
  · obtain ⟨b, a, n, xs, rfl, hB, hS, hlen, q⟩ := h
    refine ⟨_, pss_cons (ps_par (by rfl) sc_shuffled.nd (i := 2) (j := 3) rfl rfl (by decide) rfl rfl (pa_cons (pe_callTy call_list_of (by rfl) T.n_list (by decide +kernel) (pa_cons (pv 1) pa_nil)) (pa_cons (pe_lst pa_nil) pa_nil)) (by rfl))
      (pss_cons (ps_while PassesOwn.never (pt_cmpR (op_neNil hr.units) (pv 2) (pe_lst pa_nil) (nomark _))
        (pss_one (ps_expr (pe_bm PySem.F.plainAttrs_list PySem.F.slot_list_append PySem.F.type_list_append mt_append (pv 3) (pa_cons
          (pe_bm PySem.F.plainAttrs_list PySem.F.slot_list_pop PySem.F.type_list_pop mt_popAt (pv 2) (pa_cons
            (pe_call GT hr (by rfl) T.g_draw T.F_draw.kp T.b_draw .nil pass0 (pa_cons (pv 0) (pa_cons (pe_callB call_len_seq (by rfl) T.n_len PySem.boot_len (pa_cons (pv 2) pa_nil)) pa_nil))) pa_nil)) pa_nil)))))
      (pss_one (ps_ret (pv 3)))), ?_⟩
    refine ⟨.ref a, rfl, a, xs, rfl, .inl hS, fun l nl => ⟨Nat.zero_le _, fun f nf => ⟨_, _, rfl, ?_⟩⟩⟩
    have s1 : Same H (upd (upd H l (.lst xs)) f (.lst [])) := (same_new nl).trans (same_new nf)
    have nf0 : H f = none := (same_new nl).free nf
    have hlf : l ≠ f := ne_of_none upd_same nf
    have hbl : b ≠ l := hB.ne_new nl
    have hbf : b ≠ f := hB.ne_new nf0
    refine ⟨fun m σ H' => ∃ left found : List V, σ = [some (.ref b), some (.ref a), some (.ref l), some (.ref f)] ∧ H' l = some (.lst left) ∧ H' f = some (.lst found) ∧ (left ++ found).Perm xs ∧ Box (n + left.length) H' b ∧ Keep b H H' ∧ left.length = m,
      ⟨xs.length, xs, [], rfl, by rw [upd_ne hlf, upd_same], upd_same, by rw [List.append_nil], hB.same s1, Keep.of_same s1, rfl⟩, fun m σ H' hW => ?_⟩
    obtain ⟨left, found, rfl, el, ef, hp, hb', hk, hm⟩ := hW
    refine ⟨.ref l, rfl, Nat.zero_le _, fun e ne => ⟨l, e, left, rfl, rfl, .inl (.inl ?_), .inl (.inl upd_same), _, rfl, ite2 (fun c => ?_) (fun c => ?_)⟩⟩
    · rw [upd_ne (ne_of_none el ne)]; exact el
    · -- one more is drawn
      have hl0 : 0 < left.length := by
        cases left with
        | nil => exact absurd c (by decide)
        | cons x r => exact Nat.succ_pos _
      have hll : left.length ≤ 1000 := by
        have := hp.length_eq
        rw [List.length_append] at this
        omega
      have el2 : (upd H' e (.lst [])) l = some (.lst left) := by rw [upd_ne (ne_of_none el ne)]; exact el
      have ef2 : (upd H' e (.lst [])) f = some (.lst found) := by rw [upd_ne (ne_of_none ef ne)]; exact ef
      refine ⟨fun σ' H2 => ∃ left' found' : List V, σ' = [some (.ref b), some (.ref a), some (.ref l), some (.ref f)] ∧ H2 l = some (.lst left') ∧ H2 f = some (.lst found') ∧ (left' ++ found').Perm xs ∧ Box (n + left'.length) H2 b ∧ Keep b H H2 ∧ left'.length + 1 = m,
        fun σ' H2 h2 => ?_, ?_⟩
      · obtain ⟨left', found', g1, g2, g3, g4, g5, g6, g7⟩ := h2
        exact ⟨left'.length, by omega, left', found', g1, g2, g3, g4, g5, g6, rfl⟩
      · refine ⟨.ref f, rfl, .inl ⟨rfl, _, .inl (.inl ef2)⟩, .ref l, rfl, .inl ⟨rfl, _, .inl (.inl el2)⟩, .ref b, rfl, .ref l, rfl, l, left, rfl, .inl (.inl (.inl el2)), ?_⟩
        refine ⟨b, n + (left.length - 1), left.length, rfl, (hb'.same (same_new ne)).mono (by omega), by omega, by omega, fun r H2 r0 r1 hb2 k2 => ?_⟩
        have el3 : H2 l = some (.lst left) := k2 l _ hbl.symm el2
        have ef3 : H2 f = some (.lst found) := k2 f _ hbf.symm ef2
        have hj : r.toNat < left.length := by omega
        refine ⟨l, left, r, r.toNat, left[r.toNat], rfl, rfl, el3, by omega, by omega, seq_ix r0 r1, List.getElem?_eq_getElem hj, ?_⟩
        have ef4 : (upd H2 l (.lst (left.eraseIdx r.toNat))) f = some (.lst found) := by rw [upd_ne hlf.symm]; exact ef3
        have hfl : found.length ≤ 1000 := by
          have := hp.length_eq
          rw [List.length_append] at this
          omega
        refine ⟨f, found, _, rfl, rfl, ef4, small1000 hfl, left.eraseIdx r.toNat, found ++ [left[r.toNat]], rfl, ?_, upd_same, ?_, ?_, ?_, ?_⟩
        · rw [upd_ne hlf, upd_same]
        · refine List.Perm.trans ?_ hp
          have p1 : (left[r.toNat] :: left.eraseIdx r.toNat).Perm left := perm_erase hj
          have p2 : (left.eraseIdx r.toNat ++ (found ++ [left[r.toNat]])).Perm (left[r.toNat] :: left.eraseIdx r.toNat ++ found) := by
            rw [← List.append_assoc]
            exact List.perm_append_comm.trans (by rw [List.singleton_append, List.cons_append])
          exact p2.trans (p1.append_right found)
        · have : (left.eraseIdx r.toNat).length = left.length - 1 := List.length_eraseIdx_of_lt hj
          rw [this]
          refine (hb2.keep (c := l) keep_upd hbl).keep (c := f) keep_upd hbf
        · intro x o nx hx
          have nxl : x ≠ l := ne_of_none hx nl
          have nxf : x ≠ f := ne_of_none hx nf0
          rw [upd_ne nxf, upd_ne nxl]
          exact k2 x o nx (same_new ne _ _ (hk x o nx hx))
        · rw [List.length_eraseIdx_of_lt hj]; omega
    · have hl0 : left = [] := by
        cases left with
        | nil => rfl
        | cons x r => exact absurd rfl c
      subst hl0
      have ef2 : (upd H' e (.lst [])) f = some (.lst found) := by rw [upd_ne (ne_of_none ef ne)]; exact ef
      exact ⟨.ref f, rfl, q _ f found hp (hk.trans (Keep.of_same (same_new ne))) (hb'.same (same_new ne)) nf0 ef2⟩
end
end Pc
namespace Pc
open PySem PySem.Spec PyProof.Rows L2 RZ
/-! ### pairings as lists of natural numbers -/
/-- the numbers as values -/
def nv (l : List Nat) : List V := l.map fun (i : Nat) => V.int (i : Int)
theorem nv_length (l : List Nat) : (nv l).length = l.length := List.length_map _
theorem nv_get {l : List Nat} {i x : Nat} (h : l[i]? = some x) : (nv l)[i]? = some (.int x) := by
  unfold nv; rw [List.getElem?_map, h]; rfl
theorem nv_at {l : List Nat} {i x : Nat} (h : l[i]? = some x) : atI (nv l) (i : Int) = some (.int x) := atI_nat (nv_get h)
theorem nv_set (l : List Nat) (i x : Nat) : (nv l).set i (.int (x : Int)) = nv (l.set i x) := by
  unfold nv; rw [List.map_set]
theorem nv_get' {l : List Nat} {i : Nat} {v : V} (h : (nv l)[i]? = some v) : ∃ x, l[i]? = some x ∧ v = .int (x : Int) := by
  unfold nv at h
  rw [List.getElem?_map] at h
  cases e : l[i]? with
  | none => rw [e] at h; cases h
  | some x => rw [e] at h; exact ⟨x, rfl, (Option.some.inj h).symm⟩
theorem ixN_nat {n i : Nat} (h : i < n) : ixN n (i : Int) = some i := by
  unfold ixN
  rw [if_pos (by omega), if_pos (by omega)]; rfl
theorem get_some {α : Type} {l : List α} {i : Nat} (h : i < l.length) : ∃ x, l[i]? = some x := ⟨_, List.getElem?_eq_getElem h⟩
theorem get_lt {α : Type} {l : List α} {i : Nat} {x : α} (h : l[i]? = some x) : i < l.length := (List.getElem?_eq_some_iff.mp h).1
/-- a pairing of n people -/
structure IsPair (n : Nat) (ps : List Nat) : Prop where
  len : ps.length = n
  par : ∀ x, x < n → ∃ y, ps[x]? = some y ∧ y < n ∧ y ≠ x ∧ ps[y]? = some x
/-- after t turns: the first t pairs are joined -/
def PInv (os fs : List Nat) (t : Nat) : Prop := fs.length = os.length ∧ ∀ j, j < t → ∀ x y, os[2 * j]? = some x → os[2 * j + 1]? = some y → fs[x]? = some y ∧ fs[y]? = some x
theorem PInv.step {os fs : List Nat} {t x y : Nat} (hnd : os.Nodup) (hlt : ∀ z ∈ os, z < os.length) (h : PInv os fs t) (hx : os[2 * t]? = some x) (hy : os[2 * t + 1]? = some y) :
    PInv os ((fs.set x y).set y x) (t + 1) := by
  obtain ⟨hl, hp⟩ := h
  have xl : x < fs.length := by rw [hl]; exact hlt x (List.mem_of_getElem? hx)
  have yl : y < fs.length := by rw [hl]; exact hlt y (List.mem_of_getElem? hy)
  have xy : x ≠ y := fun e => by
    subst e
    have := nd_ix hnd hx hy
    omega
  refine ⟨by rw [List.length_set, List.length_set, hl], fun j hj u v hu hv => ?_⟩
  by_cases e : j = t
  · subst e
    have e1 : u = x := Option.some.inj (hu.symm.trans hx)
    have e2 : v = y := Option.some.inj (hv.symm.trans hy)
    subst e1 e2
    refine ⟨?_, ?_⟩
    · rw [List.getElem?_set_ne (Ne.symm xy), List.getElem?_set_self xl]
    · rw [List.getElem?_set_self (by rw [List.length_set]; exact yl)]
  · obtain ⟨h1, h2⟩ := hp j (by omega) u v hu hv
    have a1 : x ≠ u := fun z => by subst z; have := nd_ix hnd hx hu; omega
    have a2 : y ≠ u := fun z => by subst z; have := nd_ix hnd hy hu; omega
    have a3 : x ≠ v := fun z => by subst z; have := nd_ix hnd hx hv; omega
    have a4 : y ≠ v := fun z => by subst z; have := nd_ix hnd hy hv; omega
    refine ⟨?_, ?_⟩
    · rw [List.getElem?_set_ne a2, List.getElem?_set_ne a1]; exact h1
    · rw [List.getElem?_set_ne a4, List.getElem?_set_ne a3]; exact h2
theorem PInv.done {os fs : List Nat} {n : Nat} (hp : os.Perm (List.range n)) (he : n % 2 = 0) (h : PInv os fs (n / 2)) : IsPair n fs := by
  have hl : os.length = n := by rw [hp.length_eq, List.length_range]
  have hnd : os.Nodup := hp.nodup_iff.mpr List.nodup_range
  refine ⟨by rw [h.1, hl], fun x hx => ?_⟩
  have hm : x ∈ os := hp.mem_iff.mpr (List.mem_range.mpr hx)
  obtain ⟨i, hi, ei⟩ := List.mem_iff_getElem.mp hm
  have gi : os[i]? = some x := by rw [List.getElem?_eq_getElem hi, ei]
  have lt_n : ∀ {k z : Nat}, os[k]? = some z → z < n := fun {k z} hz => List.mem_range.mp (hp.mem_iff.mp (List.mem_of_getElem? hz))
  by_cases hq : i % 2 = 0
  · have i1 : i + 1 < os.length := by omega
    obtain ⟨y, gy⟩ := get_some i1
    have g1 : os[2 * (i / 2)]? = some x := by rw [show 2 * (i / 2) = i by omega]; exact gi
    have g2 : os[2 * (i / 2) + 1]? = some y := by rw [show 2 * (i / 2) + 1 = i + 1 by omega]; exact gy
    obtain ⟨r1, r2⟩ := h.2 (i / 2) (by omega) x y g1 g2
    exact ⟨y, r1, lt_n gy, fun e => by subst e; have := nd_ix hnd gi gy; omega, r2⟩
  · have i1 : i - 1 < os.length := by omega
    obtain ⟨y, gy⟩ := get_some i1
    have g1 : os[2 * (i / 2)]? = some y := by rw [show 2 * (i / 2) = i - 1 by omega]; exact gy
    have g2 : os[2 * (i / 2) + 1]? = some x := by rw [show 2 * (i / 2) + 1 = i by omega]; exact gi
    obtain ⟨r1, r2⟩ := h.2 (i / 2) (by omega) y x g1 g2
    exact ⟨y, r2, lt_n gy, fun e => by subst e; have := nd_ix hnd gi gy; omega, r1⟩
/-- range(0, n, 2) -/
theorem fits_long {i : Int} (h1 : -(2 ^ 62) ≤ i) (h2 : i < 2 ^ 62) : Builtin.Range.rangeFitsLong i = true := by
  unfold Builtin.Range.rangeFitsLong
  rw [Bool.and_eq_true]
  exact ⟨decide_eq_true (by omega), decide_eq_true (by omega)⟩
theorem rgc_two {n : Nat} (h : n ≤ 1000000) : RgC 0 (n : Int) 2 ((n + 1) / 2) := by
  have e : Builtin.Range.rangeSize 0 (n : Int) 2 = (((n + 1) / 2 : Nat) : Int) := by
    unfold Builtin.Range.rangeSize
    rw [if_pos (by decide)]
    split <;> omega
  refine ⟨by decide, by decide, ?_, e⟩
  unfold Builtin.Range.small
  rw [e, fits_long (i := 0) (by decide) (by decide), fits_long (i := (n : Int)) (by omega) (by omega), fits_long (i := 2) (by decide) (by decide), fits_long (i := (((n + 1) / 2 : Nat) : Int)) (by omega) (by omega), if_pos (by decide), fits_long (i := (n : Int) + (2 - 1)) (by omega) (by omega), Bool.or_true]
  rfl
theorem rep_flat {α : Type} (n : Nat) (x : α) : (List.replicate n [x]).flatten = List.replicate n x := by
  induction n with
  | zero => rfl
  | succ n ih => rw [List.replicate_succ, List.flatten_cons, ih, List.replicate_succ]; rfl
end Pc
namespace Pc
open PySem PySem.Spec PyProof.Rows L2 RZ
section
variable {P : Program} {w : World} {K : PySem.W.Frag} {mg : Str → Option Value} {base : Heap}
/-! ### one of some -/
def spOf (K : PySem.W.Frag) : Sp := fun vs H Q _ => ∃ (b a : Addr) (n : Nat) (xs : List V), vs = [.ref b, .ref a] ∧ Box (n + 1) H b ∧ a ≠ b ∧ H a = some (.lst xs) ∧ 0 < xs.length ∧ xs.length ≤ 1000 ∧
  ∀ (H' : Hp) (i : Nat) (v : V), xs[i]? = some v → Keep b H H' → Box n H' b → Q v H'
theorem ok_of (T : Env K mg) : FnOk P w K mg base CX0 2 T.f_pick T.d_pick ["_law_source", "_law_some"] (spOf K) := by
  have GT : FnOk P w K mg base CX0 1 T.f_draw T.d_draw ["_law_source", "_law_bound"] spTake := ok_take T
  refine T.F_pick.ok sc_pick (fun vs H Q E h => ?_) (fun cdv A outer s H vs Q E hr h => ?_)
  · obtain ⟨b, a, n, xs, rfl, _⟩ := h
    rfl
  · obtain ⟨b, a, n, xs, rfl, hB, hab, ha, h0, hl, q⟩ := h
    refine ⟨_, pss_one (ps_ret (pe_ix ix_list (pv 1) (pe_call GT hr (by rfl) T.g_draw T.F_draw.kp T.b_draw .nil pass0 (pa_cons (pv 0) (pa_cons (pe_callB call_len_seq (by rfl) T.n_len PySem.boot_len (pa_cons (pv 1) pa_nil)) pa_nil))) (fun _ _ => rfl))), ?_⟩
    refine ⟨.ref a, rfl, .ref b, rfl, .ref a, rfl, a, xs, rfl, .inl (.inl (.inl ha)), b, n, xs.length, rfl, hB, by omega, by omega, fun r H' r0 r1 hB' k => ?_⟩
    obtain ⟨v, hv⟩ := get_some (l := xs) (i := r.toNat) (by omega)
    refine ⟨a, xs, r, v, rfl, rfl, .inl (.inl (k _ _ hab ha)), ?_, q H' r.toNat v hv k hB'⟩
    have := atI_nat hv
    rw [show ((r.toNat : Nat) : Int) = r by omega] at this
    exact this
end
end Pc
namespace Pc
open PySem PySem.Spec PyProof.Rows L2 RZ
theorem perm_map_inv {α β : Type} (f : α → β) {zs ys : List β} (h : zs.Perm ys) : ∀ l : List α, zs = l.map f → ∃ l' : List α, ys = l'.map f ∧ l'.Perm l := by
  induction h with
  | nil => exact fun l e => ⟨l, e, List.Perm.refl _⟩
  | cons x _ ih =>
    intro l e
    cases l with
    | nil => cases e
    | cons a r =>
      injection e with e1 e2
      obtain ⟨l', h1, h2⟩ := ih r e2
      exact ⟨a :: l', by rw [h1, e1]; rfl, h2.cons a⟩
  | swap x y t =>
    intro l e
    cases l with
    | nil => cases e
    | cons a r =>
      cases r with
      | nil => injection e with _ e2; cases e2
      | cons b r =>
        injection e with e1 e2
        injection e2 with e2 e3
        exact ⟨b :: a :: r, by rw [e1, e2, e3]; rfl, List.Perm.swap _ _ _⟩
  | trans _ _ ih1 ih2 =>
    intro l e
    obtain ⟨l1, h1, h2⟩ := ih1 l e
    obtain ⟨l2, h3, h4⟩ := ih2 l1 h1
    exact ⟨l2, h3, h4.trans h2⟩
theorem rg_nv (n : Nat) : rgV 0 (n : Int) = nv (List.range n) := by
  unfold rgV nv
  rw [Int.sub_zero, Int.toNat_natCast]
  refine List.map_congr_left fun i _ => ?_
  rw [Int.zero_add]
end Pc
namespace Pc
open PySem PySem.Spec PyProof.Rows L2 RZ
section
variable {P : Program} {w : World} {K : PySem.W.Frag} {mg : Str → Option Value} {base : Heap}
/-! ### a drawn pairing -/
def spRandom : Sp := fun vs H Q _ => ∃ (b : Addr) (n k : Nat), vs = [.ref b, .int k] ∧ Box (n + k) H b ∧ k % 2 = 0 ∧ k ≤ 1000 ∧
  ∀ (H' : Hp) (p : Addr) (ps : List Nat), IsPair k ps → Keep b H H' → Box n H' b → H p = none → H' p = some (.tup (nv ps)) → Q (.ref p) H'
theorem ok_random (T : Env K mg) : FnOk P w K mg base CX0 3 T.f_random_pairing T.d_random_pairing ["_law_source", "_law_crowd"] spRandom := by
  have GS : FnOk P w K mg base CX0 2 T.f_shuffled T.d_shuffled ["_law_source", "_law_some"] (spStrewn K) := ok_strewn T
  refine T.F_random_pairing.ok sc_random_pairing (fun vs H Q E h => ?_) (fun cdv A outer s H vs Q E hr h => ?_)
  · obtain ⟨b, n, k, rfl, _⟩ := h
    rfl
  · obtain ⟨b0, m, n, rfl, hB, he, hn, q⟩ := h
    refine ⟨_, pss_cons (ps_par (by rfl) sc_random_pairing.nd (i := 2) (j := 3) rfl rfl (by decide) rfl rfl (pa_cons (pe_call GS hr (by rfl) T.g_shuffled T.F_shuffled.kp T.b_shuffled .nil pass0 (pa_cons (pv 0) (pa_cons (pe_listRg rfl (by rfl) T.n_list (prg_1 (by rfl) T.n_range (pv 1))) pa_nil)))
        (pa_cons (pe_op op_rep (pe_lst (pa_cons pe_int pa_nil)) (pv 1)) pa_nil)) (by rfl)) <|
      pss_cons (ps_for PassesOwn.never rfl (pi_range3 rfl T.n_range (pa_cons pe_int (pa_cons (pv 1) (pa_cons pe_int pa_nil))))
          (pg_name (i := 4) sc_random_pairing.nd rfl (.inl rfl))
        (pss_one (ps_asg (pe_tup (pa_cons (pe_ix ix_list (pv 2) (pe_op op_add (pv 4) pe_int) (fun _ _ => rfl)) (pa_cons (pe_ix ix_list (pv 2) (pv 4) (fun _ _ => rfl)) pa_nil)))
          (pg_tup rfl (pgs_cons (pg_sub (pv 3) (pe_ix ix_list (pv 2) (pv 4) (fun _ _ => rfl)) set_list) (pgs_cons (pg_sub (pv 3) (pe_ix ix_list (pv 2) (pe_op op_add (pv 4) pe_int) (fun _ _ => rfl)) set_list) pgs_nil)))))) <|
      pss_one (ps_ret (pe_callTy call_tuple_of (by rfl) T.n_tuple (by decide +kernel) (pa_cons (pv 3) pa_nil))), ?_⟩
    refine ⟨.ref b0, rfl, .int n, rfl, n, rfl, RgOk.of_le (by decide) (by omega) (by decide) (by omega), fun rl nrl => ?_⟩
    have sr : Same H _ := same_new (o := .lst (rgV 0 (n : Int))) nrl
    have hrl : (rgV 0 (n : Int)).length = n := by rw [rgV_length]; omega
    refine ⟨b0, rl, m, _, rfl, (hB.same sr).mono (by rw [hrl]; exact Nat.le_refl _), .inl (.inl upd_same), by rw [hrl]; exact hn, fun H1 a ys hpy hk2 hB1 na0 ea0 => ?_⟩
    obtain ⟨os, ee1, hp⟩ := perm_map_inv (fun (i : Nat) => V.int (i : Int)) hpy.symm (List.range n) (rg_nv n)
    have ea1 : H1 a = some (.lst (nv os)) := by rw [ea0, ee1]; rfl
    have hS : SqL K H1 a (nv os) := .inl (.inl ea1)
    have kk : Keep b0 H H1 := (Keep.of_same sr).trans hk2
    have hl : os.length = n := by rw [hp.length_eq, List.length_range]
    have hl2 : (nv os).length = n := by rw [nv_length, hl]
    have hnd : os.Nodup := hp.nodup_iff.mpr List.nodup_range
    have hlt : ∀ z ∈ os, z < os.length := fun z hz => by rw [hl]; exact List.mem_range.mp (hp.mem_iff.mp hz)
    refine ⟨by show 1 ≤ sizeLine; decide, fun e ne => ?_⟩
    have s0 : Same H1 (upd H1 e (.lst [.int 0])) := same_new ne
    refine ⟨.int n, rfl, e, _, [.int 0], rfl, rfl, upd_same, by omega, by omega, ?_, fun f nf => ⟨_, _, rfl, ?_⟩⟩
    · show 1 * Int.toNat (n : Int) ≤ sizeLine
      exact Nat.le_of_lt (small1000 (by omega))
    have s1 : Same H1 _ := s0.trans (same_new (o := .lst (List.replicate ((n : Nat) : Int).toNat [V.int 0]).flatten) nf)
    have nf0 : H1 f = none := s0.free nf
    have e0 : (List.replicate ((n : Nat) : Int).toNat [V.int 0]).flatten = nv (List.replicate n 0) := by
      rw [rep_flat, Int.toNat_natCast]
      unfold nv
      rw [List.map_replicate]; rfl
    have ef0 : (upd (upd H1 e (.lst [.int 0])) f (.lst (List.replicate ((n : Nat) : Int).toNat [V.int 0]).flatten)) f = some (.lst (nv (List.replicate n 0))) := by rw [upd_same, e0]
    refine ⟨.int n, rfl, 0, _, 2, n / 2, rfl, ?_, ?_⟩
    · have := rgc_two (n := n) (by omega)
      rw [show (n + 1) / 2 = n / 2 by omega] at this
      exact this
    refine for_rangeC (fun t σ H' => Same H1 H' ∧ ∃ (y : Option V) (fs : List Nat), σ = [some (.ref b0), some (.int n), some (.ref a), some (.ref f), y] ∧ H' f = some (.lst (nv fs)) ∧ PInv os fs t)
      ⟨s1, none, List.replicate n 0, rfl, ef0, by rw [List.length_replicate, hl], fun j hj => absurd hj (Nat.not_lt_zero _)⟩ (fun t σ H' ht h => ?_) (fun σ H' h => ?_)
    · obtain ⟨sm, y, fs, rfl, ef, pi⟩ := h
      obtain ⟨x1, g1⟩ := get_some (l := os) (i := 2 * t) (by omega)
      obtain ⟨x2, g2⟩ := get_some (l := os) (i := 2 * t + 1) (by omega)
      have hS' : SqL K H' a (nv os) := sm.seq hS
      have ea : atI (nv os) ((0 : Int) + (t : Nat) * 2) = some (.int x1) := by
        rw [show (0 : Int) + (t : Nat) * 2 = ((2 * t : Nat) : Int) by omega]; exact nv_at g1
      have eb : atI (nv os) ((0 : Int) + (t : Nat) * 2 + 1) = some (.int x2) := by
        rw [show (0 : Int) + (t : Nat) * 2 + 1 = ((2 * t + 1 : Nat) : Int) by omega]; exact nv_at g2
      have l1 : x1 < fs.length := by rw [pi.1]; exact hlt _ (List.mem_of_getElem? g1)
      have l2 : x2 < fs.length := by rw [pi.1]; exact hlt _ (List.mem_of_getElem? g2)
      refine ⟨.ref a, rfl, _, rfl, _, 1, rfl, rfl, a, _, _, _, rfl, rfl, hS', eb, .ref a, rfl, _, rfl, a, _, _, _, rfl, rfl, hS', ea, by show 2 ≤ sizeLine; decide, fun tp nt => ?_⟩
      have st : Same H' (upd H' tp (.tup [.int x2, .int x1])) := same_new nt
      have eft : (upd H' tp (.tup [.int x2, .int x1])) f = some (.lst (nv fs)) := st _ _ ef
      have nft : f ≠ tp := ne_of_none ef nt
      refine ⟨tp, _, rfl, .inl (.inl upd_same), rfl, _, _, rfl, .ref f, rfl, .ref a, rfl, _, rfl, a, _, _, _, rfl, rfl, st.seq hS', ea, f, _, _, x1, rfl, rfl, eft, ixN_nat (by rw [nv_length]; exact l1), ?_⟩
      have sq : SqL K (upd (upd H' tp (.tup [.int x2, .int x1])) f (.lst ((nv fs).set x1 (.int x2)))) a (nv os) := by
        have : ∀ b o, H1 b = some o → (upd (upd H' tp (.tup [.int x2, .int x1])) f (.lst ((nv fs).set x1 (.int x2)))) b = some o := fun b o hb => by
          rw [upd_ne (ne_of_none hb nf0)]; exact st _ _ (sm _ _ hb)
        exact Same.seq this hS
      refine ⟨_, _, rfl, .ref f, rfl, .ref a, rfl, _, rfl, _, 1, rfl, rfl, a, _, _, _, rfl, rfl, sq, eb, f, _, _, x2, rfl, rfl, upd_same, ?_, ?_⟩
      · rw [List.length_set]; exact ixN_nat (by rw [nv_length]; exact l2)
      · refine ⟨rfl, fun b o hb => ?_, _, (fs.set x1 x2).set x2 x1, rfl, ?_, pi.step hnd hlt g1 g2⟩
        · rw [upd_ne (ne_of_none hb nf0), upd_ne (ne_of_none hb nf0)]; exact st _ _ (sm _ _ hb)
        · rw [upd_same, nv_set, nv_set]
    · obtain ⟨sm, y, fs, rfl, ef, pi⟩ := h
      refine ⟨.ref f, rfl, f, _, rfl, .inl ⟨.inl (.inl ef), fun p np => ?_⟩⟩
      have sp := sm.trans (same_new (o := .tup (nv fs)) np)
      refine q _ p fs (pi.done hp he) (kk.trans (Keep.of_same sp)) (hB1.same sp) ?_ upd_same
      have np1 : H1 p = none := sm.free np
      cases e : H p with
      | none => rfl
      | some o =>
        by_cases hb : p = b0
        · subst hb
          obtain ⟨y, hy⟩ := hB1.lst
          rw [hy] at np1; cases np1
        · rw [kk p o hb e] at np1; cases np1
end
end Pc
namespace Pc
open PySem PySem.Spec PyProof.Rows L2 RZ
/-! ### data where more is tracked -/
theorem same_tup {K : PySem.W.Frag} {H H' : Hp} {a : Addr} {xs : List V} (e : Same H H') (h : SqT K H a xs) : SqT K H' a xs := by
  rcases h with (h | ⟨o, h⟩) | h
  · exact .inl (.inl (e _ _ h))
  · exact .inl (.inr ⟨o, e _ _ h⟩)
  · exact .inr h
mutual
theorem dp_same {K : PySem.W.Frag} {H H' : Hp} (e : Same H H') : ∀ {v : V} {d : PyData}, Dp K H v d → Dp K H' v d
  | _, _, .non => .non
  | _, _, .bl b => .bl b
  | _, _, .int i => .int i
  | _, _, .str x => .str x
  | _, _, .lst h a => .lst (e.seq h) (dpa_same e a)
  | _, _, .tup h a => .tup (same_tup e h) (dpa_same e a)
theorem dpa_same {K : PySem.W.Frag} {H H' : Hp} (e : Same H H') : ∀ {vs : List V} {ds : List PyData}, DpAll K H vs ds → DpAll K H' vs ds
  | _, _, .nil => .nil
  | _, _, .cons h a => .cons (dp_same e h) (dpa_same e a)
end
theorem dpa_len {K : PySem.W.Frag} {H : Hp} : ∀ {vs : List V} {ds : List PyData}, DpAll K H vs ds → vs.length = ds.length
  | _, _, .nil => rfl
  | _, _, .cons _ a => by rw [List.length_cons, List.length_cons, dpa_len a]
theorem dpa_get {K : PySem.W.Frag} {H : Hp} : ∀ {vs : List V} {ds : List PyData} {i : Nat} {v : V}, DpAll K H vs ds → vs[i]? = some v → ∃ d, ds[i]? = some d ∧ Dp K H v d
  | _, _, _, _, .nil, h => by simp at h
  | _, _, 0, _, .cons (d := d) h _, e => by
    cases Option.some.inj e
    exact ⟨d, rfl, h⟩
  | _, _, i + 1, v, .cons _ a, e => dpa_get (i := i) a e
theorem depth_get : ∀ {ds : List PyData} {i : Nat} {d : PyData}, ds[i]? = some d → d.depth ≤ PyData.depthAll ds
  | [], _, _, h => by simp at h
  | d :: r, 0, _, h => by
    cases Option.some.inj h
    exact Nat.le_max_left _ _
  | d :: r, i + 1, x, h => Nat.le_trans (depth_get (i := i) (ds := r) h) (Nat.le_max_right _ _)
mutual
/-- no list in it is longer than a hundred thousand -/
def narrow : PyData → Prop
  | .list xs => xs.length ≤ 100000 ∧ narrowAll xs
  | .tuple xs => xs.length ≤ 100000 ∧ narrowAll xs
  | _ => True
def narrowAll : List PyData → Prop
  | [] => True
  | x :: xs => narrow x ∧ narrowAll xs
end
theorem narrow_get : ∀ {ds : List PyData} {i : Nat} {d : PyData}, narrowAll ds → ds[i]? = some d → narrow d
  | [], _, _, _, h => by simp at h
  | d :: r, 0, _, n, h => by
    cases Option.some.inj h
    exact n.1
  | d :: r, i + 1, x, n, h => narrow_get (i := i) (ds := r) n.2 h
theorem narrow_of : ∀ {ds : List PyData}, (∀ d ∈ ds, narrow d) → narrowAll ds
  | [], _ => trivial
  | d :: r, h => ⟨h d List.mem_cons_self, narrow_of fun x hx => h x (List.mem_cons_of_mem _ hx)⟩
theorem line_big {n : Nat} (h : n ≤ 100000) : n < sizeLine := Nat.lt_of_le_of_lt h (by decide)
theorem ty_lst {K : PySem.W.Frag} {H : Hp} {a : Addr} {xs : List V} (h : SqL K H a xs) : TyX K H (.ref a) (.type "list") := by
  rcases h with (h | ⟨o, h⟩) | ⟨o, its, n, h, c, _⟩
  · exact .base (.lst h)
  · exact .base (.frz h)
  · exact .kList h c
theorem ty_tup {K : PySem.W.Frag} {H : Hp} {a : Addr} {xs : List V} (h : SqT K H a xs) : TyX K H (.ref a) (.type "tuple") := by
  rcases h with (h | ⟨o, h⟩) | ⟨o, its, n, h, c, _⟩
  · exact .base (.tup h)
  · exact .fTuple h
  · exact .kTuple h c
theorem kit2 {K : PySem.W.Frag} {t a b : String} {p q : Bool} (h1 : kitB t a = some p) (h2 : kitB t b = some q) : PySem.W.kitAny K (.type t) [.type a, .type b] = some (p || q) := by
  refine kitAny_cons (kit_ty h1) (fun e => kitAny_cons (kit_ty h2) (fun e2 => ?_) (fun e2 => ?_)) (fun e => ?_)
  · subst e e2; rfl
  · subst e e2; rfl
  · subst e; rfl
section
variable {K : PySem.W.Frag}
theorem any_lt_int : PySem.W.kitAny K (.type "int") [.type "list", .type "tuple"] = some false := kit2 (p := false) (q := false) (by decide +kernel) (by decide +kernel)
theorem any_bs_int : PySem.W.kitAny K (.type "int") [.type "bool", .type "str"] = some false := kit2 (p := false) (q := false) (by decide +kernel) (by decide +kernel)
theorem one_int_int : PySem.W.kitOne K (.type "int") (.type "int") = some true := kit_ty (by decide +kernel)
theorem one_int_bool : PySem.W.kitOne K (.type "int") (.type "bool") = some false := kit_ty (by decide +kernel)
theorem any_lt_none : PySem.W.kitAny K (.type "NoneType") [.type "list", .type "tuple"] = some false := kit2 (p := false) (q := false) (by decide +kernel) (by decide +kernel)
theorem one_none_bool : PySem.W.kitOne K (.type "NoneType") (.type "bool") = some false := kit_ty (by decide +kernel)
theorem any_lt_bool : PySem.W.kitAny K (.type "bool") [.type "list", .type "tuple"] = some false := kit2 (p := false) (q := false) (by decide +kernel) (by decide +kernel)
theorem any_bs_bool : PySem.W.kitAny K (.type "bool") [.type "bool", .type "str"] = some true := kit2 (p := true) (q := false) (by decide +kernel) (by decide +kernel)
theorem one_bool_bool : PySem.W.kitOne K (.type "bool") (.type "bool") = some true := kit_ty (by decide +kernel)
theorem any_lt_str : PySem.W.kitAny K (.type "str") [.type "list", .type "tuple"] = some false := kit2 (p := false) (q := false) (by decide +kernel) (by decide +kernel)
theorem any_bs_str : PySem.W.kitAny K (.type "str") [.type "bool", .type "str"] = some true := kit2 (p := false) (q := true) (by decide +kernel) (by decide +kernel)
theorem one_str_bool : PySem.W.kitOne K (.type "str") (.type "bool") = some false := kit_ty (by decide +kernel)
theorem any_lt_list : PySem.W.kitAny K (.type "list") [.type "list", .type "tuple"] = some true := kit2 (p := true) (q := false) (by decide +kernel) (by decide +kernel)
theorem one_list_list : PySem.W.kitOne K (.type "list") (.type "list") = some true := kit_ty (by decide +kernel)
theorem one_list_tuple : PySem.W.kitOne K (.type "list") (.type "tuple") = some false := kit_ty (by decide +kernel)
theorem any_lt_tuple : PySem.W.kitAny K (.type "tuple") [.type "list", .type "tuple"] = some true := kit2 (p := false) (q := true) (by decide +kernel) (by decide +kernel)
theorem one_tuple_list : PySem.W.kitOne K (.type "tuple") (.type "list") = some false := kit_ty (by decide +kernel)
theorem one_tuple_tuple : PySem.W.kitOne K (.type "tuple") (.type "tuple") = some true := kit_ty (by decide +kernel)
end
theorem cls2 (a b : String) : Paired ClsV [.ty a, .ty b] [.type a, .type b] := .cons (.ty a) (.cons (.ty b) .nil)
/-- zip of two tuples -/
theorem walk_zipT {K : PySem.W.Frag} {a b : Addr} {xs ys : List V} {n : Nat} (hn : n = min xs.length ys.length) : Walk (ItzT K a b) n (fun H => SqT K H a xs ∧ SqT K H b ys) (YPair (fun i => xs[i]?) (fun i => ys[i]?)) := by
  subst hn
  refine ⟨fun i _ hi q => ?_, fun _ q => ⟨xs, ys, q.1, q.2, by omega⟩, fun i H v H' _ q y => ?_⟩
  · obtain ⟨x, hx⟩ := get_some (l := xs) (i := i) (by omega)
    obtain ⟨z, hz⟩ := get_some (l := ys) (i := i) (by omega)
    exact ⟨xs, ys, x, z, q.1, q.2, hx, hz⟩
  · obtain ⟨T, x, z, h1, h2, h3, h4, h5⟩ := y
    exact ⟨T, x, z, h1, h2, h3, h4 xs q.1, h5 ys q.2⟩
theorem fn_never {P : Program} {w : World} {K : PySem.W.Frag} {mg : Str → Option Value} {base : Heap} {CX : CXT} {k : Nat} {f : Addr} {fd : FuncData} {ps : List Str} {sp : Sp} (h : ∀ vs H Q E, ¬ sp vs H Q E) : FnOk P w K mg base CX k f fd ps sp :=
  ⟨fun vs H Q E q => absurd q (h vs H Q E), fun _ _ _ H _ _ vs Q E _ _ _ _ q => absurd q (h vs H Q E)⟩
/-- a comprehension without a test -/
theorem yes_if {σ : L2.St} {H : Hp} {A B : Hp → Prop} (h : A H) : tYes σ H (fun b H3 => if b = true then A H3 else B H3) := by
  show if true = true then A H else B H
  exact iteT h
theorem all_rep : ∀ n : Nat, (List.replicate n true).all id = true
  | 0 => rfl
  | n + 1 => by rw [List.replicate_succ, List.all_cons, all_rep n]; rfl
end Pc
namespace Pc
open PySem PySem.Spec PyProof.Rows L2 RZ
section
variable {P : Program} {w : World} {K : PySem.W.Frag} {mg : Str → Option Value} {base : Heap}
/-! ### the same data twice -/
def spSame (K : PySem.W.Frag) (n : Nat) : Sp := fun vs H Q _ => ∃ (x y : V) (d : PyData), vs = [x, y] ∧ Dp K H x d ∧ Dp K H y d ∧ d.depth < n ∧ narrow d ∧ ∀ H', Same H H' → Q (.bl true) H'
theorem same_step (T : Env K mg) (n : Nat) (G : FnOk P w K mg base CX0 n T.f_same T.d_same ["_law_found", "_law_due"] (spSame K n)) : FnOk P w K mg base CX0 (n + 1) T.f_same T.d_same ["_law_found", "_law_due"] (spSame K (n + 1)) := by
  refine T.F_same.ok sc_same (fun vs H Q E h => ?_) (fun cdv A outer s H vs Q E hr h => ?_)
  · obtain ⟨x, y, d, rfl, _⟩ := h
    rfl
  · obtain ⟨x, y, d, rfl, hx, hy, hd, hw, q⟩ := h
    refine ⟨_, pss_cons (ps_if (pt_val (pe_callB call_isiT (by rfl) T.n_isinstance (by decide +kernel) (pa_cons (pv 1) (pa_cons (pe_tup (pa_cons (pe_bltn (v := .ty "list") (by rfl) T.n_list (by decide +kernel) rfl) (pa_cons (pe_bltn (v := .ty "tuple") (by rfl) T.n_tuple (by decide +kernel) rfl) pa_nil))) pa_nil))))
        (pss_cons (ps_if (PW.pt (pw_or (pt_cmpR op_ne (pe_callB call_isi (by rfl) T.n_isinstance (by decide +kernel) (pa_cons (pv 0) (pa_cons (pe_bltn (v := .ty "list") (by rfl) T.n_list (by decide +kernel) rfl) pa_nil))) (pe_callB call_isi (by rfl) T.n_isinstance (by decide +kernel) (pa_cons (pv 1) (pa_cons (pe_bltn (v := .ty "list") (by rfl) T.n_list (by decide +kernel) rfl) pa_nil))) (nomark _))
            (pw_or1 (pt_cmpR op_ne (pe_callB call_isi (by rfl) T.n_isinstance (by decide +kernel) (pa_cons (pv 0) (pa_cons (pe_bltn (v := .ty "tuple") (by rfl) T.n_tuple (by decide +kernel) rfl) pa_nil))) (pe_callB call_isi (by rfl) T.n_isinstance (by decide +kernel) (pa_cons (pv 1) (pa_cons (pe_bltn (v := .ty "tuple") (by rfl) T.n_tuple (by decide +kernel) rfl) pa_nil))) (nomark _)))))
          (pss_one (ps_ret pe_bl)) pss_nil)
        (pss_one (ps_ret (pe_and (pe_cmpR op_eq (pe_callB call_len_seq (by rfl) T.n_len PySem.boot_len (pa_cons (pv 0) pa_nil)) (pe_callB call_len_seq (by rfl) T.n_len PySem.boot_len (pa_cons (pv 1) pa_nil)) (nomark _))
          (pe_one (pe_callB (cr_all rfl) (by rfl) T.n_all (by decide +kernel) (pa_cons
            (pe_lc (own := [("_law_mine", 2), ("_law_its", 3)]) (g := gTup K 2 (gCons (gName 2) (gCons (gName 3) gNil))) (tt := tYes) (by rfl) sc_same.nd (pi_zipA (by rfl) T.n_zip (pa_cons (pv 0) (pa_cons (pv 1) pa_nil)))
              (blkOk_by (N := N_same) (sc := defScope s_same) (by decide +kernel))
              (fun _ _ _ _ _ => pg_tup (by rfl) (pgs_cons (pg_name (i := 2) sc_same.nd rfl (.inl rfl)) (pgs_cons (pg_name (i := 3) sc_same.nd rfl (.inl rfl)) pgs_nil)))
              (fun _ _ _ _ _ => pts_nil)
              (fun _ _ _ _ _ => pe_call G hr (by rfl) T.g_same T.F_same.kp T.b_same .nil pass0 (pa_cons (pv 2) (pa_cons (pv 3) pa_nil)))) pa_nil))))))) pss_nil)
      (pss_cons (ps_if (PW.pt (pw_or (pt_cmpR op_isN (pv 1) pe_non (nomark _)) (pw_or1 (pt_val (pe_callB call_isiT (by rfl) T.n_isinstance (by decide +kernel) (pa_cons (pv 1) (pa_cons (pe_tup (pa_cons (pe_bltn (v := .ty "bool") (by rfl) T.n_bool (by decide +kernel) rfl) (pa_cons (pe_bltn (v := .ty "str") (by rfl) T.n_str (by decide +kernel) rfl) pa_nil))) pa_nil)))))))
        (pss_one (ps_ret (pe_and (pe_cmpR op_eq (pv 0) (pv 1) (nomark _))
          (pe_and (pe_cmpR op_eq (pe_callB call_isi (by rfl) T.n_isinstance (by decide +kernel) (pa_cons (pv 0) (pa_cons (pe_bltn (v := .ty "bool") (by rfl) T.n_bool (by decide +kernel) rfl) pa_nil))) (pe_callB call_isi (by rfl) T.n_isinstance (by decide +kernel) (pa_cons (pv 1) (pa_cons (pe_bltn (v := .ty "bool") (by rfl) T.n_bool (by decide +kernel) rfl) pa_nil))) (nomark _))
          (pe_one (pe_cmpR op_eq (pe_cmpR op_isN (pv 0) pe_non (nomark _)) (pe_cmpR op_isN (pv 1) pe_non (nomark _)) (nomark _))))))) pss_nil)
      (pss_one (ps_ret (pe_and (pe_callB call_isi (by rfl) T.n_isinstance (by decide +kernel) (pa_cons (pv 0) (pa_cons (pe_bltn (v := .ty "int") (by rfl) T.n_int (by decide +kernel) rfl) pa_nil)))
        (pe_and (pe_not (pe_callB call_isi (by rfl) T.n_isinstance (by decide +kernel) (pa_cons (pv 0) (pa_cons (pe_bltn (v := .ty "bool") (by rfl) T.n_bool (by decide +kernel) rfl) pa_nil)))) (pe_one (pe_cmpR op_eq (pv 0) (pv 1) (nomark _)))))))), ?_⟩
    cases d with
    | dict _ => cases hx
    | int i =>
      cases hx; cases hy
      refine ⟨_, rfl, by show 2 ≤ sizeLine; decide, fun t nt => ⟨_, t, _, _, _, _, rfl, upd_same, cls2 _ _, .base (.int i), any_lt_int, _, rfl, iteF ?_⟩⟩
      refine ⟨_, rfl, rfl, _, rfl, iteF ⟨_, rfl, by show 2 ≤ sizeLine; decide, fun u nu => ⟨_, u, _, _, _, _, rfl, upd_same, cls2 _ _, .base (.int i), any_bs_int, _, rfl, iteF ?_⟩⟩⟩
      refine ⟨_, rfl, _, _, _, _, _, rfl, .ty _, .base (.int i), one_int_int, _, rfl, iteT ⟨_, rfl, _, _, _, _, _, rfl, .ty _, .base (.int i), one_int_bool, _, rfl, _, rfl, iteT ⟨_, rfl, _, rfl, rfl, ?_⟩⟩⟩
      rw [decide_eq_true rfl]
      exact q _ ((same_new nt).trans (same_new nu))
    | none =>
      cases hx; cases hy
      refine ⟨_, rfl, by show 2 ≤ sizeLine; decide, fun t nt => ⟨_, t, _, _, _, _, rfl, upd_same, cls2 _ _, .base .non, any_lt_none, _, rfl, iteF ?_⟩⟩
      refine ⟨_, rfl, rfl, _, rfl, iteT ?_⟩
      refine ⟨_, rfl, _, rfl, rfl, _, rfl, iteT ⟨_, rfl, _, _, _, _, _, rfl, .ty _, .base .non, one_none_bool, _, rfl, _, _, _, _, _, rfl, .ty _, .base .non, one_none_bool, rfl, _, rfl, iteT ⟨_, rfl, rfl, _, rfl, rfl, rfl, ?_⟩⟩⟩
      exact q _ (same_new nt)
    | bool b =>
      cases hx; cases hy
      refine ⟨_, rfl, by show 2 ≤ sizeLine; decide, fun t nt => ⟨_, t, _, _, _, _, rfl, upd_same, cls2 _ _, .base (.bl b), any_lt_bool, _, rfl, iteF ?_⟩⟩
      refine ⟨_, rfl, rfl, _, rfl, iteF ⟨_, rfl, by show 2 ≤ sizeLine; decide, fun u nu => ⟨_, u, _, _, _, _, rfl, upd_same, cls2 _ _, .base (.bl b), any_bs_bool, _, rfl, iteT ?_⟩⟩⟩
      refine ⟨_, rfl, _, rfl, rfl, _, rfl, ?_⟩
      rw [decide_eq_true rfl]
      refine iteT ⟨_, rfl, _, _, _, _, _, rfl, .ty _, .base (.bl b), one_bool_bool, _, rfl, _, _, _, _, _, rfl, .ty _, .base (.bl b), one_bool_bool, rfl, _, rfl, iteT ⟨_, rfl, rfl, _, rfl, rfl, rfl, ?_⟩⟩
      rw [decide_eq_true rfl]
      exact q _ ((same_new nt).trans (same_new nu))
    | str z =>
      cases hx; cases hy
      refine ⟨_, rfl, by show 2 ≤ sizeLine; decide, fun t nt => ⟨_, t, _, _, _, _, rfl, upd_same, cls2 _ _, .base (.str z), any_lt_str, _, rfl, iteF ?_⟩⟩
      refine ⟨_, rfl, rfl, _, rfl, iteF ⟨_, rfl, by show 2 ≤ sizeLine; decide, fun u nu => ⟨_, u, _, _, _, _, rfl, upd_same, cls2 _ _, .base (.str z), any_bs_str, _, rfl, iteT ?_⟩⟩⟩
      refine ⟨_, rfl, _, rfl, rfl, _, rfl, ?_⟩
      rw [decide_eq_true rfl]
      refine iteT ⟨_, rfl, _, _, _, _, _, rfl, .ty _, .base (.str z), one_str_bool, _, rfl, _, _, _, _, _, rfl, .ty _, .base (.str z), one_str_bool, rfl, _, rfl, iteT ⟨_, rfl, rfl, _, rfl, rfl, rfl, ?_⟩⟩
      rw [decide_eq_true rfl]
      exact q _ ((same_new nt).trans (same_new nu))
    | list ds =>
      cases hx with
      | lst hsx hax =>
      cases hy with
      | lst hsy hay =>
      rename_i a xs b ys
      have hlx := dpa_len hax
      have hly := dpa_len hay
      obtain ⟨hw1, hw2⟩ := hw
      refine ⟨_, rfl, by show 2 ≤ sizeLine; decide, fun t nt => ?_⟩
      have s1 : Same H (upd H t (.tup [.ty "list", .ty "tuple"])) := same_new nt
      have hsx1 := Same.seq s1 hsx
      have hsy1 := Same.seq s1 hsy
      refine ⟨_, t, _, _, _, _, rfl, upd_same, cls2 _ _, ty_lst hsy1, any_lt_list, _, rfl, iteT ?_⟩
      refine ⟨_, rfl, _, _, _, _, _, rfl, .ty _, ty_lst hsx1, one_list_list, _, rfl, _, _, _, _, _, rfl, .ty _, ty_lst hsy1, one_list_list, rfl, _, rfl, iteNS rfl ?_⟩
      refine ⟨_, rfl, _, _, _, _, _, rfl, .ty _, ty_lst hsx1, one_list_tuple, _, rfl, _, _, _, _, _, rfl, .ty _, ty_lst hsy1, one_list_tuple, rfl, _, rfl, iteNS rfl ?_⟩
      refine ⟨_, rfl, a, xs, rfl, .inl hsx1, _, rfl, b, ys, rfl, .inl hsy1, rfl, _, rfl, ?_⟩
      rw [decide_eq_true (show V.int (xs.length : Int) = V.int (ys.length : Int) by rw [hlx, hly])]
      refine iteT ⟨_, rfl, _, rfl, a, b, xs, ys, rfl, .inl ⟨hsx1, hsy1, fun D nD => ?_⟩⟩
      have nD0 : H D = none := s1.free nD
      refine lc_it (walk_zip (n := xs.length) (by omega)) (fun i H' => Same H H' ∧ H' D = some (.lst (List.replicate i (.bl true)))) ⟨s1.trans (same_new nD), upd_same⟩ (fun i H' _ h => ⟨Same.seq h.1 hsx, Same.seq h.1 hsy⟩) (fun i v H1 H2 hi h yy => ?_) (fun H' h => ?_)
      · obtain ⟨sm, eD⟩ := h
        obtain ⟨tp, u, v, rfl, nT, rfl, g1, g2⟩ := yy
        obtain ⟨d1, e1, f1⟩ := dpa_get hax g1
        obtain ⟨d2, e2, f2⟩ := dpa_get hay g2
        cases Option.some.inj (e1.symm.trans e2)
        have st : Same H (upd H1 tp (.tup [u, v])) := sm.trans (same_new nT)
        refine ⟨tp, _, rfl, .inl (.inl upd_same), rfl, _, _, rfl, _, _, rfl, rfl, rfl, yes_if ?_⟩
        refine ⟨_, rfl, _, rfl, u, v, d1, rfl, dp_same st f1, dp_same st f2, ?_, narrow_get hw2 e1, fun H3 s3 => ⟨_, s3 _ _ (same_new nT _ _ eD), ?_, ?_, ?_⟩⟩
        · have := depth_get e1
          have hd' : PyData.depthAll ds + 1 < n + 1 := hd
          omega
        · rw [List.length_replicate]
          exact line_big (by omega)
        · intro c o hc
          rw [upd_ne (ne_of_none hc nD0)]
          exact s3 _ _ (st _ _ hc)
        · rw [upd_same, List.replicate_succ']
      · obtain ⟨sm, eD⟩ := h
        refine ⟨D, List.replicate xs.length true, rfl, ?_, ?_⟩
        · rw [List.map_replicate]
          exact .inl (.inl eD)
        · rw [all_rep]
          exact q _ sm
    | tuple ds =>
      cases hx with
      | tup hsx hax =>
      cases hy with
      | tup hsy hay =>
      rename_i a xs b ys
      have hlx := dpa_len hax
      have hly := dpa_len hay
      obtain ⟨hw1, hw2⟩ := hw
      refine ⟨_, rfl, by show 2 ≤ sizeLine; decide, fun t nt => ?_⟩
      have s1 : Same H (upd H t (.tup [.ty "list", .ty "tuple"])) := same_new nt
      have hsx1 := same_tup s1 hsx
      have hsy1 := same_tup s1 hsy
      refine ⟨_, t, _, _, _, _, rfl, upd_same, cls2 _ _, ty_tup hsy1, any_lt_tuple, _, rfl, iteT ?_⟩
      refine ⟨_, rfl, _, _, _, _, _, rfl, .ty _, ty_tup hsx1, one_tuple_list, _, rfl, _, _, _, _, _, rfl, .ty _, ty_tup hsy1, one_tuple_list, rfl, _, rfl, iteNS rfl ?_⟩
      refine ⟨_, rfl, _, _, _, _, _, rfl, .ty _, ty_tup hsx1, one_tuple_tuple, _, rfl, _, _, _, _, _, rfl, .ty _, ty_tup hsy1, one_tuple_tuple, rfl, _, rfl, iteNS rfl ?_⟩
      refine ⟨_, rfl, a, xs, rfl, .inr hsx1, _, rfl, b, ys, rfl, .inr hsy1, rfl, _, rfl, ?_⟩
      rw [decide_eq_true (show V.int (xs.length : Int) = V.int (ys.length : Int) by rw [hlx, hly])]
      refine iteT ⟨_, rfl, _, rfl, a, b, xs, ys, rfl, .inr ⟨hsx1, hsy1, fun D nD => ?_⟩⟩
      have nD0 : H D = none := s1.free nD
      refine lc_it (walk_zipT (n := xs.length) (by omega)) (fun i H' => Same H H' ∧ H' D = some (.lst (List.replicate i (.bl true)))) ⟨s1.trans (same_new nD), upd_same⟩ (fun i H' _ h => ⟨same_tup h.1 hsx, same_tup h.1 hsy⟩) (fun i v H1 H2 hi h yy => ?_) (fun H' h => ?_)
      · obtain ⟨sm, eD⟩ := h
        obtain ⟨tp, u, v, rfl, nT, rfl, g1, g2⟩ := yy
        obtain ⟨d1, e1, f1⟩ := dpa_get hax g1
        obtain ⟨d2, e2, f2⟩ := dpa_get hay g2
        cases Option.some.inj (e1.symm.trans e2)
        have st : Same H (upd H1 tp (.tup [u, v])) := sm.trans (same_new nT)
        refine ⟨tp, _, rfl, .inl (.inl upd_same), rfl, _, _, rfl, _, _, rfl, rfl, rfl, yes_if ?_⟩
        refine ⟨_, rfl, _, rfl, u, v, d1, rfl, dp_same st f1, dp_same st f2, ?_, narrow_get hw2 e1, fun H3 s3 => ⟨_, s3 _ _ (same_new nT _ _ eD), ?_, ?_, ?_⟩⟩
        · have := depth_get e1
          have hd' : PyData.depthAll ds + 1 < n + 1 := hd
          omega
        · rw [List.length_replicate]
          exact line_big (by omega)
        · intro c o hc
          rw [upd_ne (ne_of_none hc nD0)]
          exact s3 _ _ (st _ _ hc)
        · rw [upd_same, List.replicate_succ']
      · obtain ⟨sm, eD⟩ := h
        refine ⟨D, List.replicate xs.length true, rfl, ?_, ?_⟩
        · rw [List.map_replicate]
          exact .inl (.inl eD)
        · rw [all_rep]
          exact q _ sm
theorem ok_same (T : Env K mg) : ∀ n : Nat, FnOk P w K mg base CX0 n T.f_same T.d_same ["_law_found", "_law_due"] (spSame K n)
  | 0 => fn_never fun vs H Q E h => by
    obtain ⟨x, y, d, _, _, _, hd, _⟩ := h
    exact absurd hd (Nat.not_lt_zero _)
  | n + 1 => same_step T n (ok_same T n)
end
end Pc
namespace Pc
open PySem PySem.Spec PyProof.Rows L2 RZ
end Pc
namespace Pc
open PySem PySem.Spec PyProof.Rows L2 RZ
/-! ### t[::-1] of a pair -/
section
variable {prog : Program} {w : World} {A : Around} {E : Value → Shared → Prop} {s : Shared}
end
end Pc
namespace Pc
open PySem PySem.Spec PyProof.Rows L2 RZ
section
variable {P : Program} {w : World} {K : PySem.W.Frag} {mg : Str → Option Value} {base : Heap}
end
section
variable {X : Cx} {CX : CXT} {k : Nat} {f : Addr} {fd : FuncData} {ps : List Str} {sp : Sp} {x : Str} {e : Expr} {es : List Expr} {ds : List Value} {dvs : List V} {E : XK} {t : TA} {p pos : Pos}
end
end Pc
namespace Pc
open PySem PySem.Spec PyProof.Rows L2 RZ
/-! ### data of small size: its depth is at most k, its text has at most m signs -/
structure Fine (k m : Nat) (d : PyData) : Prop where
  lay : d.canLay0 = true
  show_ : d.showable = true
  depth : d.depth ≤ k
  nar : narrow d
  len : d.shown.length ≤ m
theorem Fine.mono {k m k' m' : Nat} {d : PyData} (h : Fine k m d) (hk : k ≤ k') (hm : m ≤ m') : Fine k' m' d := ⟨h.lay, h.show_, Nat.le_trans h.depth hk, h.nar, Nat.le_trans h.len hm⟩
theorem str_len (t : String) : (Str.ofString t).length = t.length := by
  rw [Str.ofString_eq_toList]
  show (t.toList.map Char.toNat).toArray.size = t.length
  rw [List.size_toArray, List.length_map, String.length_toList]
theorem log_lt {i : Int} {k : Nat} (h : i.natAbs < 2 ^ k) (hk : 0 < k) : i.natAbs.log2 < k := by
  by_cases h0 : i.natAbs = 0
  · rw [h0]; exact hk
  · exact (Nat.log2_lt h0).mpr h
theorem fine_int {i : Int} (h : i.natAbs < 2 ^ 60) : Fine 0 61 (.int i) := by
  have hl := log_lt h (by decide)
  refine ⟨rfl, decide_eq_true (Nat.lt_of_lt_of_le hl (by decide)), Nat.le_refl _, trivial, ?_⟩
  show (Str.ofString (toString i)).length ≤ 61
  rw [str_len]
  exact int_text_length_le (by decide) hl
theorem all_lay {ds : List PyData} (h : ∀ d ∈ ds, d.canLay0 = true) : PyData.canLayAll0 ds = true := by
  induction ds with
  | nil => rfl
  | cons d r ih =>
    show (d.canLay0 && PyData.canLayAll0 r) = true
    rw [h d List.mem_cons_self, ih fun x hx => h x (List.mem_cons_of_mem _ hx)]; rfl
theorem all_showable {ds : List PyData} (h : ∀ d ∈ ds, d.showable = true) : PyData.showableAll ds = true := by
  induction ds with
  | nil => rfl
  | cons d r ih =>
    show (d.showable && PyData.showableAll r) = true
    rw [h d List.mem_cons_self, ih fun x hx => h x (List.mem_cons_of_mem _ hx)]; rfl
theorem all_depth {ds : List PyData} {k : Nat} (h : ∀ d ∈ ds, d.depth ≤ k) : PyData.depthAll ds ≤ k := by
  induction ds with
  | nil => exact Nat.zero_le _
  | cons d r ih => exact Nat.max_le.mpr ⟨h d List.mem_cons_self, ih fun x hx => h x (List.mem_cons_of_mem _ hx)⟩
theorem all_shown {ds : List PyData} {m : Nat} (h : ∀ d ∈ ds, d.shown.length ≤ m) : ((PyData.shownAll ds).map (·.length)).sum ≤ ds.length * m ∧ (PyData.shownAll ds).length = ds.length := by
  induction ds with
  | nil => exact ⟨Nat.zero_le _, rfl⟩
  | cons d r ih =>
    obtain ⟨h1, h2⟩ := ih fun x hx => h x (List.mem_cons_of_mem _ hx)
    have h3 := h d List.mem_cons_self
    refine ⟨?_, congrArg (· + 1) h2⟩
    show ((d.shown :: PyData.shownAll r).map (·.length)).sum ≤ (r.length + 1) * m
    rw [List.map_cons, List.sum_cons, Nat.add_mul, Nat.one_mul]
    omega
theorem fine_list {ds : List PyData} {k m n : Nat} (h : ∀ d ∈ ds, Fine k m d) (hn : ds.length ≤ n) (hb : n ≤ 100000) : Fine (k + 1) (n * (m + 2) + 3) (.list ds) := by
  refine ⟨all_lay fun d hd => (h d hd).lay, all_showable fun d hd => (h d hd).show_, Nat.succ_le_succ (all_depth fun d hd => (h d hd).depth), ⟨Nat.le_trans hn hb, narrow_of fun d hd => (h d hd).nar⟩, ?_⟩
  obtain ⟨h1, h2⟩ := all_shown fun d hd => (h d hd).len
  have h3 := listText_len_le (PyData.shownAll ds)
  have h4 : ds.length * m ≤ n * m := Nat.mul_le_mul_right _ hn
  show (listText (PyData.shownAll ds)).length ≤ _
  rw [Nat.mul_add]
  omega
/-- numbers as data -/
def nd (l : List Nat) : List PyData := l.map fun (i : Nat) => PyData.int (i : Int)
/-! ### lists of pairs of numbers -/
/-- at the places as stand the pairs ps -/
def Prs (H : Hp) (as : List Addr) (ps : List (Nat × Nat)) : Prop := Paired (fun a (p : Nat × Nat) => H a = some (.tup [.int p.1, .int p.2])) as ps
theorem Prs.length {H : Hp} {as : List Addr} {ps : List (Nat × Nat)} (h : Prs H as ps) : as.length = ps.length := Paired.length h
end Pc
namespace Pc
open PySem PySem.Spec PyProof.Rows L2 RZ
/-! ### a list or a tuple: walked, unpacked -/
/-- a list or a tuple is read -/
def Sq (K : PySem.W.Frag) (H : Hp) (a : Addr) (xs : List V) : Prop := SqL K H a xs ∨ SqT K H a xs
theorem Sq.same {K : PySem.W.Frag} {H H' : Hp} {a : Addr} {xs : List V} (h : Sq K H a xs) (e : Same H H') : Sq K H' a xs := h.imp (fun z => e.seq z) (fun z => same_tup e z)
section
variable {X : Cx}
end
end Pc
namespace Pc
open PySem PySem.Spec PyProof.Rows L2 RZ
theorem getD_of {ps : List Nat} {x y : Nat} (h : ps[x]? = some y) : ps.getD x 0 = y := by
  rw [List.getD_eq_getElem?_getD, h]; rfl
theorem IsPair.back {n : Nat} {ps : List Nat} (h : IsPair n ps) {x y : Nat} (e : ps[x]? = some y) : ps[y]? = some x ∧ y < n ∧ x < n ∧ y ≠ x := by
  have hx : x < n := by rw [← h.len]; exact get_lt e
  obtain ⟨z, e1, e2, e3, e4⟩ := h.par x hx
  cases Option.some.inj (e.symm.trans e1)
  exact ⟨e4, e2, hx, e3⟩
/-- what pairs must be so that they make the pairing ps -/
structure Makes (qs : List (Nat × Nat)) (ps : List Nat) : Prop where
  half : 2 * qs.length = ps.length
  ok : ∀ p ∈ qs, ps[p.1]? = some p.2 ∧ ps[p.2]? = some p.1
  all : ∀ z, z < ps.length → ∃ p ∈ qs, p.1 = z ∨ p.2 = z
def CInv (ps : List Nat) (qs : List (Nat × Nat)) (fs : List Nat) (i : Nat) : Prop := fs.length = ps.length ∧ ∀ j, j < i → ∀ p, qs[j]? = some p → fs[p.1]? = ps[p.1]? ∧ fs[p.2]? = ps[p.2]?
theorem set_keeps {ps fs : List Nat} {x y z : Nat} (hy : ps[x]? = some y) (hx : x < fs.length) (h : fs[z]? = ps[z]?) : (fs.set x y)[z]? = ps[z]? := by
  by_cases e : x = z
  · subst e
    rw [List.getElem?_set_self hx, hy]
  · rw [List.getElem?_set_ne e]; exact h
theorem CInv.step {ps fs : List Nat} {qs : List (Nat × Nat)} {i : Nat} {p : Nat × Nat} (m : Makes qs ps) (h : CInv ps qs fs i) (hp : qs[i]? = some p) : CInv ps qs ((fs.set p.1 p.2).set p.2 p.1) (i + 1) := by
  obtain ⟨hl, hj⟩ := h
  obtain ⟨o1, o2⟩ := m.ok p (List.mem_of_getElem? hp)
  have l1 : p.1 < fs.length := by rw [hl]; exact get_lt o1
  have l2 : p.2 < (fs.set p.1 p.2).length := by rw [List.length_set, hl]; exact get_lt o2
  refine ⟨by rw [List.length_set, List.length_set, hl], fun j hj2 r hr => ?_⟩
  by_cases e : j = i
  · subst e
    cases Option.some.inj (hp.symm.trans hr)
    refine ⟨set_keeps o2 l2 ?_, ?_⟩
    · rw [List.getElem?_set_self l1, o1]
    · rw [List.getElem?_set_self l2, o2]
  · obtain ⟨a, b⟩ := hj j (by omega) r hr
    exact ⟨set_keeps o2 l2 (set_keeps o1 l1 a), set_keeps o2 l2 (set_keeps o1 l1 b)⟩
theorem CInv.done {ps fs : List Nat} {qs : List (Nat × Nat)} (m : Makes qs ps) (h : CInv ps qs fs qs.length) : fs = ps := by
  refine List.ext_getElem? fun z => ?_
  by_cases hz : z < ps.length
  · obtain ⟨p, hp, e⟩ := m.all z hz
    obtain ⟨i, hi, ei⟩ := List.mem_iff_getElem.mp hp
    obtain ⟨a, b⟩ := h.2 i hi p (by rw [List.getElem?_eq_getElem hi, ei])
    rcases e with e | e
    · rw [← e]; exact a
    · rw [← e]; exact b
  · rw [List.getElem?_eq_none (by rw [h.1]; omega), List.getElem?_eq_none (by omega)]
end Pc
namespace Pc
open PySem PySem.Spec PyProof.Rows L2 RZ
section
variable {K : PySem.W.Frag}
/-- the values us are the pairs qs, each a tuple or a list -/
def Items (K : PySem.W.Frag) (H : Hp) (us : List V) (qs : List (Nat × Nat)) : Prop := us.length = qs.length ∧ ∀ (i : Nat) (v : V), us[i]? = some v → ∃ (c : Addr) (p : Nat × Nat), v = .ref c ∧ qs[i]? = some p ∧ Sq K H c [.int p.1, .int p.2]
theorem Items.same {H H' : Hp} {us : List V} {qs : List (Nat × Nat)} (h : Items K H us qs) (e : Same H H') : Items K H' us qs := ⟨h.1, fun i v hv => by
  obtain ⟨c, p, h1, h2, h3⟩ := h.2 i v hv
  exact ⟨c, p, h1, h2, h3.same e⟩⟩
end
end Pc
namespace Pc
open PySem PySem.Spec PyProof.Rows L2 RZ
theorem IsPair.lt {n : Nat} {ps : List Nat} (h : IsPair n ps) : ∀ i ∈ ps, i < n := fun i hi => by
  obtain ⟨x, hx, e⟩ := List.mem_iff_getElem.mp hi
  obtain ⟨y, e1, e2, _⟩ := h.par x (by rw [← h.len]; exact hx)
  rw [List.getElem?_eq_getElem hx, e] at e1
  cases Option.some.inj e1
  exact e2
theorem Makes.lt {qs : List (Nat × Nat)} {ps : List Nat} (h : Makes qs ps) : ∀ p ∈ qs, p.1 < ps.length ∧ p.2 < ps.length := fun p hp => ⟨get_lt (h.ok p hp).1, get_lt (h.ok p hp).2⟩
theorem iteN {A B : Prop} (h : B) : if (!true) = true then A else B := by
  rw [if_neg (by decide)]
  exact h
end Pc
namespace Pc
open PySem PySem.Spec PyProof.Rows L2 RZ
/-- the four are different -/
theorem four {n : Nat} {fs : List Nat} (h : IsPair n fs) {a b c d : Nat} (hab : a ≠ b) (ea : fs[a]? = some c) (eb : fs[b]? = some d) (hcb : c ≠ b) : c ≠ a ∧ d ≠ b ∧ d ≠ a ∧ c ≠ d ∧ a < n ∧ b < n ∧ c < n ∧ d < n := by
  obtain ⟨a1, a2, a3, a4⟩ := h.back ea
  obtain ⟨b1, b2, b3, b4⟩ := h.back eb
  refine ⟨a4, b4, fun e => ?_, fun e => ?_, a3, b3, a2, b2⟩
  · rw [e, ea] at b1; exact hcb (Option.some.inj b1)
  · rw [e, b1] at a1; exact hab (Option.some.inj a1).symm
/-- all pairs are calls of n people -/
def Calls (n : Nat) (qs : List (Nat × Nat)) : Prop := ∀ q ∈ qs, q.1 < q.2 ∧ q.2 < n
theorem Calls.take {n : Nat} {qs : List (Nat × Nat)} (h : Calls n qs) (i : Nat) : Calls n (qs.take i) := fun q hq => h q (List.mem_of_mem_take hq)
end Pc
namespace Pc
open PySem PySem.Spec PyProof.Rows L2 RZ
/-! ### lists of tuples of numbers -/
def Tups (H : Hp) (as : List Addr) (ls : List (List Nat)) : Prop := Paired (fun a l => H a = some (.tup (nv l))) as ls
theorem Tups.length {H : Hp} {as : List Addr} {ls : List (List Nat)} (h : Tups H as ls) : as.length = ls.length := Paired.length h
end Pc
namespace Pc
open PySem PySem.Spec PyProof.Rows L2 RZ
/-- strands in any order: the upper ends in turn, the lower ends as drawn -/
def SInv (n : Nat) (ls fs : List Nat) (t : Nat) : Prop := fs.length = 2 * n ∧ ∀ j, j < t → ∀ l, ls[j]? = some l → fs[j]? = some l ∧ fs[l]? = some j
theorem SInv.step {n : Nat} {ls fs : List Nat} {t l : Nat} (hp : ls.Perm ((List.range n).map fun i => n + i)) (h : SInv n ls fs t) (hl : ls[t]? = some l) : SInv n ls ((fs.set t l).set l t) (t + 1) := by
  have hln : ls.length = n := by rw [hp.length_eq, List.length_map, List.length_range]
  have hnd : ls.Nodup := hp.nodup_iff.mpr (List.Pairwise.map _ (fun a b (hab : a ≠ b) => show n + a ≠ n + b by omega) List.nodup_range)
  have big : ∀ {j x : Nat}, ls[j]? = some x → n ≤ x ∧ x < 2 * n := fun hx => by
    obtain ⟨i, hi, e⟩ := List.mem_map.mp (hp.mem_iff.mp (List.mem_of_getElem? hx))
    have := List.mem_range.mp hi
    omega
  have ht : t < n := by rw [← hln]; exact get_lt hl
  have hb := big hl
  obtain ⟨h1, h2⟩ := h
  refine ⟨by simp only [List.length_set]; exact h1, fun j hj x hx => ?_⟩
  have hjn : j < n := by rw [← hln]; exact get_lt hx
  have hbx := big hx
  by_cases e : j = t
  · subst e
    cases Option.some.inj (hl.symm.trans hx)
    exact ⟨by rw [List.getElem?_set_ne (by omega), List.getElem?_set_self (by omega)], by rw [List.getElem?_set_self (by simp only [List.length_set]; omega)]⟩
  · obtain ⟨g1, g2⟩ := h2 j (by omega) x hx
    have xl : l ≠ x := fun z => by subst z; exact e (nd_ix hnd hx hl)
    exact ⟨by rw [List.getElem?_set_ne (by omega), List.getElem?_set_ne (by omega)]; exact g1, by rw [List.getElem?_set_ne xl, List.getElem?_set_ne (by omega)]; exact g2⟩
theorem SInv.done {n : Nat} {ls fs : List Nat} (hp : ls.Perm ((List.range n).map fun i => n + i)) (h : SInv n ls fs n) : IsPair (2 * n) fs := by
  have hln : ls.length = n := by rw [hp.length_eq, List.length_map, List.length_range]
  refine ⟨h.1, fun x hx => ?_⟩
  by_cases e : x < n
  · obtain ⟨l, hl⟩ := get_some (l := ls) (i := x) (by omega)
    obtain ⟨i, hi, e'⟩ := List.mem_map.mp (hp.mem_iff.mp (List.mem_of_getElem? hl))
    have := List.mem_range.mp hi
    obtain ⟨g1, g2⟩ := h.2 x e l hl
    exact ⟨l, g1, by omega, by omega, g2⟩
  · have hm : x ∈ ls := hp.mem_iff.mpr (List.mem_map.mpr ⟨x - n, List.mem_range.mpr (by omega), by omega⟩)
    obtain ⟨j, hj, ej⟩ := List.mem_iff_getElem.mp hm
    obtain ⟨g1, g2⟩ := h.2 j (by omega) x (by rw [List.getElem?_eq_getElem hj, ej])
    exact ⟨j, g2, by omega, by omega, g1⟩
end Pc
namespace Pc
open PySem PySem.Spec PyProof.Rows L2 RZ
end Pc
namespace Pc
open PySem PySem.Spec PyProof.Rows L2 RZ
section
variable {P : Program} {w : World} {K : PySem.W.Frag} {mg : Str → Option Value} {base : Heap}
/-! ### the number of people of a sheet -/
def spPeople (K : PySem.W.Frag) : Sp := fun vs H Q _ => ∃ (a : Addr) (fs : List Nat) (n : Nat), vs = [.ref a] ∧ Sq K H a (nv fs) ∧ fs.length = 2 * n ∧ Q (.int n) H
theorem ok_p_people_of (T : Env K mg) : FnOk P w K mg base CX0 1 T.f_p_people_of T.d_p_people_of ["sheet"] (spPeople K) := by
  refine T.F_p_people_of.ok sc_p_people_of (fun vs H Q E h => ?_) (fun cdv A outer s H vs Q E hr h => ?_)
  · obtain ⟨a, fs, n, rfl, _⟩ := h
    rfl
  · obtain ⟨a, fs, n, rfl, hS, hl, q⟩ := h
    refine ⟨_, pss_one (ps_ret (pe_op op_fdiv (pe_callB call_len_seq (by rfl) T.n_len PySem.boot_len (pa_cons (pv 0) pa_nil)) pe_int)), ?_⟩
    refine ⟨.ref a, rfl, a, _, rfl, hS, _, 2, rfl, rfl, ⟨by decide, by decide⟩, ?_⟩
    show Q (.int (((nv fs).length : Int) / 2)) H
    rw [nv_length, hl, show (((2 * n : Nat) : Int) / 2) = (n : Int) by omega]
    exact q
end
end Pc
namespace Pc
section
variable (fs ps : List Nat) (n : Nat)
/-- the whole way from an end: along the join, along the couple, and so on until a lower end -/
inductive Trail : Nat → List Nat → Prop
  | stop {z : Nat} : n ≤ fs.getD z 0 → Trail z [z, fs.getD z 0]
  | go {z : Nat} {l : List Nat} : fs.getD z 0 < n → Trail (ps.getD (fs.getD z 0) 0) l → Trail z (z :: fs.getD z 0 :: l)
end
theorem IsPair.d {n : Nat} {ps : List Nat} (h : IsPair n ps) {x : Nat} (hx : x < n) : ps.getD x 0 < n ∧ ps.getD x 0 ≠ x ∧ ps.getD (ps.getD x 0) 0 = x ∧ ps[x]? = some (ps.getD x 0) := by
  obtain ⟨y, h1, h2, h3, h4⟩ := h.par x hx
  rw [getD_of h1]
  exact ⟨h2, h3, getD_of h4, h1⟩
theorem IsPair.inj {n : Nat} {ps : List Nat} (h : IsPair n ps) {x y : Nat} (hx : x < n) (hy : y < n) (e : ps.getD x 0 = ps.getD y 0) : x = y := by
  rw [← (h.d hx).2.2.1, ← (h.d hy).2.2.1, e]
theorem Trail.det {fs ps : List Nat} {n z : Nat} {l m : List Nat} (h : Trail fs ps n z l) : Trail fs ps n z m → l = m := by
  induction h generalizing m with
  | stop h1 => intro h; cases h with
    | stop _ => rfl
    | go h2 _ => omega
  | go h1 _ ih => intro h; cases h with
    | stop h2 => omega
    | go _ h3 => rw [ih h3]
theorem Trail.len {fs ps : List Nat} {n z : Nat} {l : List Nat} (h : Trail fs ps n z l) : 2 ≤ l.length ∧ l.length % 2 = 0 ∧ n ≤ l.getLastD 0 := by
  induction h with
  | stop h1 => exact ⟨Nat.le_refl _, by simp only [List.length_cons, List.length_nil], h1⟩
  | @go z l h1 _ ih =>
    refine ⟨by simp only [List.length_cons]; omega, by simp only [List.length_cons]; omega, ?_⟩
    cases l with
    | nil => exact absurd ih.1 (by decide)
    | cons a r => exact ih.2.2
/-- the way of a lower end, and where it ends -/
noncomputable def trl (fs ps : List Nat) (n z : Nat) : List Nat := open Classical in if h : ∃ l, Trail fs ps n z l then h.choose else []
theorem Trail.eq {fs ps : List Nat} {n z : Nat} {l : List Nat} (h : Trail fs ps n z l) : trl fs ps n z = l := by
  unfold trl
  rw [dif_pos ⟨l, h⟩]
  exact (Exists.choose_spec (⟨l, h⟩ : ∃ l, Trail fs ps n z l)).det h
end Pc
namespace Pc
theorem lastc {l : List Nat} (h : 2 ≤ l.length) (a b d : Nat) : (a :: b :: l).getLastD d = l.getLastD d := by
  cases l with
  | nil => exact absurd h (by decide)
  | cons x r => rfl
theorem Trail.rev {fs ps : List Nat} {n z : Nat} {l : List Nat} (hF : IsPair (2 * n) fs) (hP : IsPair n ps) (h : Trail fs ps n z l) : z < 2 * n → ∀ t : List Nat, (n ≤ z → t = []) → (z < n → Trail fs ps n (ps.getD z 0) t) → Trail fs ps n (l.getLastD 0) (l.reverse ++ t) := by
  have one : ∀ {z : Nat} {t : List Nat}, z < 2 * n → (n ≤ z → t = []) → (z < n → Trail fs ps n (ps.getD z 0) t) → Trail fs ps n (fs.getD z 0) (fs.getD z 0 :: z :: t) := fun {z t} hz h1 h2 => by
    have e := (hF.d hz).2.2.1
    by_cases c : z < n
    · have := Trail.go (fs := fs) (ps := ps) (n := n) (z := fs.getD z 0) (l := t) (by rw [e]; exact c) (by rw [e]; exact h2 c)
      rw [e] at this; exact this
    · rw [h1 (by omega)]
      have := Trail.stop (fs := fs) (ps := ps) (n := n) (z := fs.getD z 0) (by rw [e]; omega)
      rw [e] at this; exact this
  induction h with
  | @stop z h1 => intro hz t a b; exact one hz a b
  | @go z l h1 h2 ih =>
    intro hz t a b
    have hz' := hP.d h1
    rw [lastc h2.len.1]
    have := ih (by omega) (fs.getD z 0 :: z :: t) (fun x => by omega) (fun _ => by rw [hz'.2.2.1]; exact one hz a b)
    simp only [List.reverse_cons, List.append_assoc, List.cons_append, List.nil_append]
    exact this
theorem Trail.back {fs ps : List Nat} {n z : Nat} {l : List Nat} (hF : IsPair (2 * n) fs) (hP : IsPair n ps) (h : Trail fs ps n z l) (hz : n ≤ z) (hz2 : z < 2 * n) : Trail fs ps n (l.getLastD 0) l.reverse := by
  have := h.rev hF hP hz2 [] (fun _ => rfl) (fun h => by omega)
  rw [List.append_nil] at this; exact this
theorem Trail.head {fs ps : List Nat} {n z : Nat} {l : List Nat} (h : Trail fs ps n z l) : l[0]? = some z := by
  cases h <;> rfl
/-- a sheet that differs only at four ends -/
structure Near (fs gs : List Nat) (n A B c d : Nat) : Prop where
  la : n ≤ A
  lb : n ≤ B
  ab : A ≠ B
  fc : fs.getD c 0 = A
  un : ∀ z, fs.getD z 0 = A → z = c
  fd : fs.getD d 0 = B
  fb : fs.getD B 0 = d
  gc : gs.getD c 0 = d
  eq : ∀ z, z ≠ A → z ≠ B → z ≠ c → z ≠ d → gs.getD z 0 = fs.getD z 0
theorem Trail.near {fs gs ps : List Nat} {n A B c d z : Nat} {l : List Nat} (hP : IsPair n ps) (N : Near fs gs n A B c d) (h : Trail fs ps n z l) : z ≠ A → z ≠ B → l.getLastD 0 ≠ A → l.getLastD 0 ≠ B → Trail gs ps n z l := by
  have la := N.la
  have lb := N.lb
  induction h with
  | @stop z h1 =>
    intro hA hB eA eB
    have e : gs.getD z 0 = fs.getD z 0 := N.eq z hA hB (fun e => eA (by rw [e]; exact N.fc)) (fun e => eB (by rw [e]; exact N.fd))
    rw [← e]; exact .stop (by rw [e]; exact h1)
  | @go z l h1 h2 ih =>
    intro hA hB eA eB
    rw [lastc h2.len.1] at eA eB
    have e : gs.getD z 0 = fs.getD z 0 := N.eq z hA hB (fun e => by rw [e, N.fc] at h1; omega) (fun e => by rw [e, N.fd] at h1; omega)
    have hz' := (hP.d h1).1
    have t := ih (by omega) (by omega) eA eB
    rw [← e] at h1 t ⊢
    exact .go h1 t
theorem Trail.over {fs gs ps : List Nat} {n A B c d z : Nat} {l m : List Nat} (hP : IsPair n ps) (N : Near fs gs n A B c d) (hm : Trail fs ps n B m) (mA : m.getLastD 0 ≠ A) (mB : m.getLastD 0 ≠ B) (h : Trail fs ps n z l) : z ≠ A → z ≠ B → l.getLastD 0 = A → ∃ k, Trail gs ps n z k ∧ k.getLastD 0 = m.getLastD 0 := by
  have la := N.la
  have lb := N.lb
  have fb := N.fb
  induction h with
  | @stop z h1 =>
    intro hA hB eA
    by_cases zc : z = c
    · subst zc
      cases hm with
      | stop h => 
        refine ⟨_, .stop (by rw [N.gc, ← fb]; exact h), ?_⟩
        rw [N.gc, ← fb]; rfl
      | @go _ m h h2 =>
        rw [lastc h2.len.1] at mA mB ⊢
        rw [fb] at h h2
        have := hP.d h
        refine ⟨_, .go (by rw [N.gc]; exact h) (by rw [N.gc]; exact h2.near hP N (by omega) (by omega) mA mB), ?_⟩
        rw [lastc h2.len.1]
    · exact absurd (N.un z eA) zc
  | @go z l h1 h2 ih =>
    intro hA hB eA
    rw [lastc h2.len.1] at eA
    have e : gs.getD z 0 = fs.getD z 0 := N.eq z hA hB (fun e => by rw [e, N.fc] at h1; omega) (fun e => by rw [e, N.fd] at h1; omega)
    have hz' := (hP.d h1).1
    obtain ⟨k, t1, t2⟩ := ih (by omega) (by omega) eA
    rw [← e] at h1 t1
    refine ⟨_, .go h1 t1, ?_⟩
    rw [lastc t1.len.1]; exact t2

end Pc
namespace Pc
end Pc
namespace Pc
open PySem PySem.Spec PyProof.Rows L2 RZ
end Pc
namespace Pc
theorem iteY {b : Bool} {A B : Prop} (h : b = true) (a : A) : if b = true then A else B := by rw [if_pos h]; exact a
theorem iteX {b : Bool} {A B : Prop} (h : b = false) (a : B) : if b = true then A else B := by rw [h, if_neg Bool.false_ne_true]; exact a
end Pc
namespace Pc
open PySem PySem.Spec PyProof.Rows L2 RZ
end Pc
namespace Pc
open PySem PySem.Spec PyProof.Rows L2 RZ
/-! ### data of small size, by its depth -/
def Sz : Nat → Nat
  | 0 => 61
  | 1 => 6303
  | 2 => 630503
  | _ => 15762628
abbrev Fi (j : Nat) (d : PyData) : Prop := Fine j (Sz j) d
theorem Sz_le : ∀ j, Sz j ≤ Sz (j + 1)
  | 0 => by decide
  | 1 => by decide
  | 2 => by decide
  | _ + 3 => Nat.le_refl _
theorem Fine.up {j : Nat} {d : PyData} (h : Fi j d) : Fi (j + 1) d := h.mono (Nat.le_succ _) (Sz_le j)
theorem fi_int {i : Int} (h : i.natAbs < 2 ^ 60) : Fi 0 (.int i) := fine_int h
/-- numbers of small size, not many -/
def Fw (l : List Nat) : Prop := l.length ≤ 100 ∧ ∀ i ∈ l, i < 2 ^ 60
theorem fb {l : List Nat} {m : Nat} (hl : IsPair m l) (hm : m ≤ 100) : Fw l := ⟨by rw [hl.len]; exact hm, fun i hi => by have := hl.lt i hi; omega⟩
theorem fa_nil {j : Nat} : ∀ d ∈ ([] : List PyData), Fi j d := fun _ h => absurd h List.not_mem_nil
theorem fa_cons {j : Nat} {d : PyData} {ds : List PyData} (h : Fi j d) (r : ∀ x ∈ ds, Fi j x) : ∀ x ∈ d :: ds, Fi j x := fun x hx => (List.mem_cons.mp hx).elim (fun e => by rw [e]; exact h) (r x)
def Few (j n : Nat) : Prop := n * (Sz j + 2) + 3 ≤ Sz (j + 1) ∧ n ≤ 100000
instance (j n : Nat) : Decidable (Few j n) := by unfold Few; infer_instance
theorem fi_list {j : Nat} {ds : List PyData} (h : ∀ d ∈ ds, Fi j d) (hn : n = ds.length := by rfl) (hf : Few j n := by decide) : Fi (j + 1) (.list ds) := (fine_list (k := j) (m := Sz j) (n := n) h (by rw [hn]; exact Nat.le_refl _) hf.2).mono (Nat.le_refl _) hf.1
end Pc
namespace Pc
open PySem PySem.Spec PyProof.Rows L2 RZ
end Pc
namespace Pc
open PySem PySem.Spec PyProof.Rows L2 RZ
/-- the slots, written out -/
theorem st_eq {t : TS} {D : L2.Ends} {σ : L2.St} {H : Hp} (σ' : L2.St) (h : t D σ' H) (e : σ = σ') : t D σ H := by rw [e]; exact h
end Pc
namespace Pc
open PySem PySem.Spec PyProof.Rows L2 RZ
theorem st_set {i : Nat} {v : V} {σ : L2.St} {H : Hp} {Q : L2.St → Hp → Prop} (σ' : L2.St) (h : Q σ' H) (e : σ.set i (some v) = σ') : gName i v σ H Q := by
  unfold gName
  rw [e]; exact h
end Pc
namespace Pc
open PySem PySem.Spec PyProof.Rows L2 RZ
theorem fi_same {x y : V} (e : x = y) : (!decide (x = y)) = false := by rw [decide_eq_true e]; rfl
end Pc
namespace Pc
open PySem PySem.Spec PyProof.Rows L2 RZ
theorem st_kept {D : L2.Ends} {i : Nat} {a C d : Addr} {σ1 : L2.St} {H : Hp} (σ' : L2.St) (h : D.nx σ' (upd H a (exk a (.ref C) (some d)))) (e : σ1.set i none = σ') :
    ({ nx := fun σ'' H'' => D.nx (σ''.set i none) (upd H'' a (exk a (.ref C) (some d))), rt := fun _ _ => False } : L2.Ends).nx σ1 H := by
  show D.nx (σ1.set i none) _
  rw [e]; exact h
end Pc
namespace Pc
open PySem PySem.Spec PyProof.Rows L2 RZ
end Pc
namespace Pc
open PySem PySem.Spec PyProof.Rows L2 RZ
/-! ### one of some defs, called -/
def FOk (X : Cx) (CX : CXT) (f : Addr) (sp : Sp) : Prop := ∃ (k : Nat) (fd : FuncData) (ps : List Str), FnOk X.prog X.w X.K X.mg X.base CX k f fd ps sp ∧ Room k X.A ∧ PySem.W.keepIn X.K (.ref f) = true ∧ Binds X.K fd ps []
def tCallF (cs : List (Addr × Sp)) (E : L2.St → XK) (tf : TE) (t : TA) : TE := fun σ H Q => tf σ H fun v H1 => ∃ (f : Addr) (sp : Sp), (f, sp) ∈ cs ∧ v = .ref f ∧ t σ H1 fun vs H2 => sp vs H2 Q (E σ)
theorem fall_nil {X : Cx} {CX : CXT} : ∀ c ∈ ([] : List (Addr × Sp)), FOk X CX c.1 c.2 := fun _ h => absurd h List.not_mem_nil
theorem fall_cons {X : Cx} {CX : CXT} {f : Addr} {sp : Sp} {cs : List (Addr × Sp)} (h : FOk X CX f sp) (r : ∀ c ∈ cs, FOk X CX c.1 c.2) : ∀ c ∈ (f, sp) :: cs, FOk X CX c.1 c.2 := fun c hc => (List.mem_cons.mp hc).elim (fun e => by rw [e]; exact h) (r c)
theorem pe_callF {X : Cx} {CX : CXT} {cs : List (Addr × Sp)} {E : L2.St → XK} {fe e : Expr} {es : List Expr} {tf : TE} {t : TA} {pos : Pos} (hall : ∀ c ∈ cs, FOk X CX c.1 c.2) (hx : ∀ σ, PassesAt CX X σ (E σ)) (hf : PE X fe tf) (ha : PA X (e :: es) t)
    (ht : eval (.Call fe (e :: es) [] pos) X.env = (do callWith pos (← eval fe X.env) [] (backTo pos (starEach (e :: es) X.env)) (backToKw pos (keywordEach [] X.env))) := by rfl)
    (he : starEach (e :: es) X.env = (false, eval e X.env) :: starEach es X.env := by rfl) (hpl : (backTo pos (starEach es X.env)).any (·.1) = false := by rfl) : PE X (.Call fe (e :: es) [] pos) (tCallF cs E tf t) := by
  refine ⟨fun pins s σ H Q I h => ?_⟩
  refine Call_ (thn (hf.run pins s σ H _ I h) fun u s1 ⟨y, H1, I1, ry, f, sp, hm, ey, q⟩ => ?_) ht
  subst ey
  obtain rfl : u = Value.ref f := ry
  obtain ⟨k, fd, ps, F, hr, hk, hb⟩ := hall _ hm
  refine PySem.W.callWith_K (h₀ := X.base) I1.ok.mod.kin hk (thn (ha.run pos pins s1 σ H1 _ I1 q) fun us s2 ⟨vs, H2, I2, r, q2⟩ => ⟨I2.kIn, ?_⟩) he hpl
  exact run_fnS F hr hb (hx σ) I2 r q2
/-- C(e, ..), the arguments never come -/
theorem pe_callN {X : Cx} {f : Addr} {x : Str} {p pos : Pos} {e : Expr} {es : List Expr} {t : TA} (hg : Gl X x) (hm : X.mg x = some (.ref f)) (hk : PySem.W.keepIn X.K (.ref f) = true) (ha : PA X (e :: es) t) (hdb : (x == ("__debug__" : Str)) = false := by decide)
    (he : starEach (e :: es) X.env = (false, eval e X.env) :: starEach es X.env := by rfl) (hpl : (backTo pos (starEach es X.env)).any (·.1) = false := by rfl) :
    PE X (.Call (.Name x p) (e :: es) [] pos) (fun σ H _ => t σ H fun _ _ => False) := by
  refine ⟨fun pins s σ H Q I h => ?_⟩
  refine wpAny_Call_Name_kw (ld_glob I hg hm ?_ hdb)
  exact PySem.W.callWith_K (h₀ := X.base) I.ok.mod.kin hk (thn (ha.run pos pins s σ H _ I h) fun us s1 ⟨vs, H1, I1, r, q⟩ => q.elim) he hpl
end Pc
namespace Pc
open PySem PySem.Spec PyProof.Rows L2 RZ
section
variable {P : Program} {w : World} {K : PySem.W.Frag} {mg : Str → Option Value} {base : Heap}
end
end Pc
namespace Pc
/-! ### the cycles of two pairings -/
theorem nd_len : ∀ (n : Nat) (l : List Nat), l.Nodup → (∀ y ∈ l, y < n) → l.length ≤ n
  | 0, [], _, _ => Nat.le_refl _
  | 0, y :: _, _, h => absurd (h y List.mem_cons_self) (Nat.not_lt_zero _)
  | n + 1, l, hd, h => by
    have h1 := nd_len n (l.erase n) (hd.erase n) (fun y hy => by
      have h2 := (hd.mem_erase_iff).mp hy
      have h3 := h y h2.2
      have h4 := h2.1
      omega)
    rw [List.length_erase] at h1
    split at h1 <;> omega
inductive LapEnd (a b : List Nat) : List Nat → Nat → List Nat → Prop
  | stop {l : List Nat} {z : Nat} : z ∈ l → LapEnd a b l z l
  | go {l r : List Nat} {z : Nat} : z ∉ l → LapEnd a b (l ++ [z, a.getD z 0]) (b.getD (a.getD z 0) 0) r → LapEnd a b l z r
theorem LapEnd.det {a b l r r' : List Nat} {z : Nat} (h : LapEnd a b l z r) : LapEnd a b l z r' → r = r' := by
  induction h with
  | stop h1 => intro h2; cases h2 with
    | stop _ => rfl
    | go h3 _ => exact absurd h1 h3
  | go h1 _ ih => intro h2; cases h2 with
    | stop h3 => exact absurd h3 h1
    | go _ h4 => exact ih h4
structure LpI (a b : List Nat) (n x : Nat) (l : List Nat) (z : Nat) : Prop where
  nd : l.Nodup
  lt : ∀ y ∈ l, y < n
  zl : z < n
  xl : x < n
  ca : ∀ y ∈ l, a.getD y 0 ∈ l
  st : l ≠ [] → x ∈ l ∧ b.getD z 0 ∈ l ∧ b.getD z 0 ≠ x
  s0 : l = [] → z = x
  cb : ∀ y ∈ l, y ≠ x → y ≠ b.getD z 0 → b.getD y 0 ∈ l ∧ b.getD y 0 ≠ x ∧ b.getD y 0 ≠ b.getD z 0
theorem LpI.start {a b : List Nat} {n x : Nat} (hx : x < n) : LpI a b n x [] x :=
  ⟨List.nodup_nil, fun _ h => absurd h List.not_mem_nil, hx, hx, fun _ h => absurd h List.not_mem_nil, fun h => absurd rfl h, fun _ => rfl, fun _ h => absurd h List.not_mem_nil⟩
theorem LpI.step {a b : List Nat} {n x z : Nat} {l : List Nat} (ha : IsPair n a) (hb : IsPair n b) (h : LpI a b n x l z) (hz : z ∉ l) : LpI a b n x (l ++ [z, a.getD z 0]) (b.getD (a.getD z 0) 0) := by
  obtain ⟨a1, a2, a3, _⟩ := ha.d h.zl
  obtain ⟨b1, b2, b3, _⟩ := hb.d a1
  obtain ⟨c1, c2, c3, _⟩ := hb.d h.zl
  have haz : a.getD z 0 ∉ l := fun hm => hz (by have := h.ca _ hm; rwa [a3] at this)
  have hxz : l ≠ [] → z ≠ x := fun hl e => hz (by rw [e]; exact (h.st hl).1)
  have hnil : ∀ y ∈ l, l ≠ [] := fun y hy e => by rw [e] at hy; exact absurd hy List.not_mem_nil
  refine ⟨?_, ?_, b1, h.xl, ?_, ?_, ?_, ?_⟩
  · refine List.nodup_append.mpr ⟨h.nd, ?_, fun y hy w hw => ?_⟩
    · exact List.nodup_cons.mpr ⟨fun hm => a2 (List.mem_singleton.mp hm).symm, List.nodup_cons.mpr ⟨List.not_mem_nil, List.nodup_nil⟩⟩
    · rcases List.mem_cons.mp hw with e | hw
      · exact fun e2 => hz (by rw [← e, ← e2]; exact hy)
      · exact fun e2 => haz (by rw [← List.mem_singleton.mp hw, ← e2]; exact hy)
  · intro y hy
    rcases List.mem_append.mp hy with hy | hy
    · exact h.lt y hy
    · rcases List.mem_cons.mp hy with e | hy
      · rw [e]; exact h.zl
      · rw [List.mem_singleton.mp hy]; exact a1
  · intro y hy
    refine List.mem_append.mpr ?_
    rcases List.mem_append.mp hy with hy | hy
    · exact .inl (h.ca y hy)
    · rcases List.mem_cons.mp hy with e | hy
      · rw [e]; exact .inr (List.mem_cons_of_mem _ List.mem_cons_self)
      · rw [List.mem_singleton.mp hy, a3]; exact .inr List.mem_cons_self
  · intro _
    rw [b3]
    refine ⟨?_, List.mem_append.mpr (.inr (List.mem_cons_of_mem _ List.mem_cons_self)), ?_⟩
    · by_cases e : l = []
      · rw [h.s0 e]; exact List.mem_append.mpr (.inr List.mem_cons_self)
      · exact List.mem_append.mpr (.inl (h.st e).1)
    · by_cases e : l = []
      · rw [← h.s0 e]; exact a2
      · exact fun e2 => haz (by rw [e2]; exact (h.st e).1)
  · intro e; exact absurd e (by simp)
  · intro y hy hyx hyz
    rw [b3] at hyz ⊢
    rcases List.mem_append.mp hy with hy | hy
    · by_cases e : y = b.getD z 0
      · rw [e, c3]
        exact ⟨List.mem_append.mpr (.inr List.mem_cons_self), hxz (hnil _ hy), fun e => a2 e.symm⟩
      · obtain ⟨h1, h2, _⟩ := h.cb y hy hyx e
        exact ⟨List.mem_append.mpr (.inl h1), h2, fun e2 => haz (by rw [← e2]; exact h1)⟩
    · rcases List.mem_cons.mp hy with e | hy
      · by_cases e2 : l = []
        · exact absurd (e.trans (h.s0 e2)) hyx
        · rw [e]
          obtain ⟨h1, h2, h3⟩ := h.st e2
          exact ⟨List.mem_append.mpr (.inl h2), h3, fun e3 => haz (by rw [← e3]; exact h2)⟩
      · exact absurd (List.mem_singleton.mp hy) hyz
theorem LpI.done {a b : List Nat} {n x z : Nat} {l : List Nat} (hb : IsPair n b) (h : LpI a b n x l z) (hz : z ∈ l) : z = x := by
  by_cases e : z = x
  · exact e
  · exact absurd rfl (h.cb z hz e (fun e2 => (hb.d h.zl).2.1 e2.symm)).2.2
theorem LpI.room {a b : List Nat} {n x z : Nat} {l : List Nat} (ha : IsPair n a) (hb : IsPair n b) (h : LpI a b n x l z) (hz : z ∉ l) : l.length + 2 ≤ n := by
  have h1 := h.step ha hb hz
  have h2 := nd_len n _ h1.nd h1.lt
  rw [List.length_append] at h2
  exact h2
theorem LpI.some {a b : List Nat} {n x : Nat} (ha : IsPair n a) (hb : IsPair n b) : ∀ (k : Nat) (l : List Nat) (z : Nat), n - l.length ≤ k → LpI a b n x l z → ∃ r, LapEnd a b l z r
  | 0, l, z, hk, h => by
    by_cases hz : z ∈ l
    · exact ⟨_, .stop hz⟩
    · have := h.room ha hb hz; omega
  | k + 1, l, z, hk, h => by
    by_cases hz : z ∈ l
    · exact ⟨_, .stop hz⟩
    · have := h.room ha hb hz
      obtain ⟨r, hr⟩ := LpI.some ha hb k _ _ (by rw [List.length_append]; show n - (l.length + 2) ≤ k; omega) (h.step ha hb hz)
      exact ⟨r, .go hz hr⟩
theorem LapEnd.out {a b : List Nat} {n x : Nat} (ha : IsPair n a) (hb : IsPair n b) {M : List Nat} (ca : ∀ y ∈ M, a.getD y 0 ∈ M) (cb : ∀ y ∈ M, b.getD y 0 ∈ M) {l r : List Nat} {z : Nat} (h : LapEnd a b l z r) :
    LpI a b n x l z → z ∉ M → (∀ y ∈ l, y ∉ M) → ∀ y ∈ r, y ∉ M := by
  induction h with
  | stop _ => intro _ _ h; exact h
  | @go l' r' z' hz _ ih =>
    intro hi hzM hl
    obtain ⟨a1, _, a3, _⟩ := ha.d hi.zl
    obtain ⟨_, _, b3, _⟩ := hb.d a1
    have haM : a.getD z' 0 ∉ M := fun e => hzM (by have := ca _ e; rwa [a3] at this)
    refine ih (hi.step ha hb hz) (fun e => haM (by have := cb _ e; rwa [b3] at this)) fun y hy => ?_
    rcases List.mem_append.mp hy with hy | hy
    · exact hl y hy
    · rcases List.mem_cons.mp hy with e | hy
      · rw [e]; exact hzM
      · rw [List.mem_singleton.mp hy]; exact haM
/-- the cycles found up to a person -/
inductive Rn (a b : List Nat) : Nat → List (List Nat) → Prop
  | zero : Rn a b 0 []
  | skip {i : Nat} {ls : List (List Nat)} : Rn a b i ls → i ∈ ls.flatten → Rn a b (i + 1) ls
  | new {i : Nat} {ls : List (List Nat)} {r : List Nat} : Rn a b i ls → i ∉ ls.flatten → LapEnd a b [] i r → Rn a b (i + 1) (ls ++ [r])
theorem Rn.det {a b : List Nat} {i : Nat} {ls : List (List Nat)} (h : Rn a b i ls) : ∀ {ms : List (List Nat)}, Rn a b i ms → ls = ms := by
  induction h with
  | zero => intro ms h2; cases h2; rfl
  | skip h1 hm ih => intro ms h2; cases h2 with
    | skip h3 _ => exact ih h3
    | new h3 hn _ => rw [← ih h3] at hn; exact absurd hm hn
  | new h1 hn he ih => intro ms h2; cases h2 with
    | skip h3 hm => rw [← ih h3] at hm; exact absurd hm hn
    | new h3 _ he' => rw [ih h3, he.det he']
structure RnI (a b : List Nat) (n i : Nat) (ls : List (List Nat)) : Prop where
  nd : ls.flatten.Nodup
  lt : ∀ y ∈ ls.flatten, y < n
  ca : ∀ y ∈ ls.flatten, a.getD y 0 ∈ ls.flatten
  cb : ∀ y ∈ ls.flatten, b.getD y 0 ∈ ls.flatten
  al : ∀ y, y < i → y ∈ ls.flatten
  ne : ∀ l ∈ ls, l ≠ []
theorem RnI.len {a b : List Nat} {n i : Nat} {ls : List (List Nat)} (h : RnI a b n i ls) : ls.flatten.length ≤ n := nd_len n _ h.nd h.lt
end Pc
namespace Pc
open PySem PySem.Spec PyProof.Rows L2 RZ
end Pc
namespace Pc
open PySem PySem.Spec PyProof.Rows L2 RZ
section
variable {P : Program} {w : World} {K : PySem.W.Frag} {mg : Str → Option Value} {base : Heap}
end
end Pc
namespace Pc
/-! ### how many shortest words -/
def bin : Nat → Nat → Nat
  | _, 0 => 1
  | 0, _ + 1 => 0
  | n + 1, k + 1 => bin n k + bin n (k + 1)
theorem bin_zero (n : Nat) : bin n 0 = 1 := by cases n <;> rfl
theorem bin_step : ∀ n k : Nat, (n + 1) * bin n k = bin (n + 1) (k + 1) * (k + 1)
  | 0, 0 => rfl
  | 0, k + 1 => by
    show 1 * 0 = (0 + bin 0 (k + 1 + 1)) * (k + 1 + 1)
    show 1 * 0 = (0 + 0) * (k + 1 + 1)
    simp
  | n + 1, 0 => by
    have h := bin_step n 0
    rw [bin_zero] at h ⊢
    show (n + 1 + 1) * 1 = (bin (n + 1) 0 + bin (n + 1) 1) * (0 + 1)
    rw [bin_zero]
    simp only [Nat.zero_add, Nat.mul_one] at h ⊢
    omega
  | n + 1, k + 1 => by
    have h1 := bin_step n k
    have h2 := bin_step n (k + 1)
    show (n + 1 + 1) * bin (n + 1) (k + 1) = (bin (n + 1) (k + 1) + bin (n + 1) (k + 1 + 1)) * (k + 1 + 1)
    have e : bin (n + 1) (k + 1) = bin n k + bin n (k + 1) := rfl
    rw [Nat.add_mul (bin (n + 1) (k + 1)), ← h2, Nat.mul_add (bin (n + 1) (k + 1)) (k + 1) 1, ← h1, Nat.mul_one, Nat.add_mul (n + 1) 1, Nat.one_mul]
    have e2 : (n + 1) * bin (n + 1) (k + 1) = (n + 1) * bin n k + (n + 1) * bin n (k + 1) := by rw [e, Nat.mul_add]
    omega
def fct : Nat → Nat
  | 0 => 1
  | n + 1 => fct n * (n + 1)
/-- the program, after j steps -/
def ws (M c h j : Nat) : Nat := M * 2 ^ j * bin (c + j) j * h ^ (j - 1)
theorem ws_div (M c h j : Nat) : ws M c h j * 2 * (c + j + 1) / (j + 1) = M * 2 ^ (j + 1) * bin (c + j + 1) (j + 1) * h ^ (j - 1) := by
  have h1 := bin_step (c + j) j
  have e : ws M c h j * 2 * (c + j + 1) = M * 2 ^ (j + 1) * bin (c + j + 1) (j + 1) * h ^ (j - 1) * (j + 1) := by
    unfold ws
    calc M * 2 ^ j * bin (c + j) j * h ^ (j - 1) * 2 * (c + j + 1) = M * (2 ^ j * 2) * ((c + j + 1) * bin (c + j) j) * h ^ (j - 1) := by ac_rfl
      _ = M * (2 ^ j * 2) * (bin (c + j + 1) (j + 1) * (j + 1)) * h ^ (j - 1) := by rw [h1]
      _ = M * 2 ^ (j + 1) * bin (c + j + 1) (j + 1) * h ^ (j - 1) * (j + 1) := by rw [Nat.pow_succ]; ac_rfl
  rw [e, Nat.mul_div_cancel _ (Nat.succ_pos j)]
theorem ws_one (M c h : Nat) : ws M c h 0 * 2 * (c + 0 + 1) / (0 + 1) = ws M c h 1 := by rw [ws_div]; rfl
theorem ws_more (M c h j : Nat) (hj : 1 ≤ j) : ws M c h j * 2 * (c + j + 1) / (j + 1) * h = ws M c h (j + 1) := by
  rw [ws_div]; unfold ws
  rw [show j + 1 - 1 = (j - 1) + 1 by omega, Nat.pow_succ h (j - 1), ← Nat.mul_assoc, show c + (j + 1) = c + j + 1 by omega]
/-- the law, after t steps -/
def fd (M c t : Nat) : Nat := M * 2 ^ t * bin (c + t) t * fct t
theorem ws_zero (M c h : Nat) : ws M c h 0 = M := by unfold ws; rw [bin_zero]; show M * 1 * 1 * 1 = M; simp
/-- the state in front of the i-th cycle -/
def wyM (hs : List Nat) (i : Nat) : Nat × Nat := (hs.take i).foldl (fun s h => (ws s.1 s.2 h (h - 1), s.2 + (h - 1))) (1, 0)
theorem wyM_step {hs : List Nat} {i h : Nat} (e : hs[i]? = some h) : wyM hs (i + 1) = (ws (wyM hs i).1 (wyM hs i).2 h (h - 1), (wyM hs i).2 + (h - 1)) := by
  unfold wyM; rw [List.take_add_one, e, List.foldl_append]; rfl
def wyE (hs : List Nat) : Nat := (wyM hs hs.length).1
theorem wyM_calls (hs : List Nat) (h : ∀ x ∈ hs, x ≤ 1000) : ∀ i, (wyM hs i).2 ≤ 1000 * i
  | 0 => Nat.le_refl _
  | i + 1 => by
    have ih := wyM_calls hs h i
    cases e : hs[i]? with
    | none =>
      have e1 : hs.take (i + 1) = hs.take i := by rw [List.take_add_one, e]; simp
      have e2 : wyM hs (i + 1) = wyM hs i := by unfold wyM; rw [e1]
      rw [e2]; omega
    | some x =>
      rw [wyM_step e]
      have := h x (List.mem_of_getElem? e)
      show (wyM hs i).2 + (x - 1) ≤ _
      omega
theorem LapEnd.sub {a b : List Nat} {M : List Nat} (ca : ∀ y ∈ M, a.getD y 0 ∈ M) (cb : ∀ y ∈ M, b.getD y 0 ∈ M) {l r : List Nat} {z : Nat} (h : LapEnd a b l z r) : z ∈ M → (∀ y ∈ l, y ∈ M) → ∀ y ∈ r, y ∈ M := by
  induction h with
  | stop _ => intro _ h; exact h
  | go _ _ ih =>
    intro hz hl
    have h1 := ca _ hz
    refine ih (cb _ h1) fun y hy => ?_
    rcases List.mem_append.mp hy with hy | hy
    · exact hl y hy
    · rcases List.mem_cons.mp hy with e | hy
      · rw [e]; exact hz
      · rw [List.mem_singleton.mp hy]; exact h1
def hv (ls : List (List Nat)) : List Nat := ls.map fun l => l.length / 2
end Pc
namespace Pc
open PySem PySem.Spec PyProof.Rows L2 RZ
/-- x *= c, both small -/
def ipMul : TIp := fun x y H Q => ∃ i j, x = .int i ∧ y = .int j ∧ CMul i j ∧ Q (.int (i * j)) H
theorem ip_mul {X : Cx} : PIp X .Mult ipMul := by
  intro pins s σ H x y v u Q I r1 r2 h
  obtain ⟨i, j, e1, e2, hj, q⟩ := h
  subst e1 e2
  obtain ⟨t, rfl⟩ := r1
  obtain ⟨t', rfl⟩ := r2
  exact PyProof.Rows.imul_int ⟨.int _, H, I.tok _, ⟨_, rfl⟩, q⟩ hj.ok
end Pc
namespace Pc
open PySem PySem.Spec PyProof.Rows L2 RZ
section
variable {P : Program} {w : World} {K : PySem.W.Frag} {mg : Str → Option Value} {base : Heap}
/-! ### how many shortest words, by the program -/
def spWays (K : PySem.W.Frag) : Sp := fun vs H Q _ => ∃ (t : Addr) (hs : List Nat), vs = [.ref t] ∧ SqL K H t (nv hs) ∧ (∀ x ∈ hs, 1 ≤ x ∧ x ≤ 1000) ∧ hs.length ≤ 1000 ∧ Q (.int (wyE hs : Nat)) H
theorem ok_p_ways_to_split (T : Env K mg) : FnOk P w K mg base CX0 1 T.f_p_ways_to_split T.d_p_ways_to_split ["sizes"] (spWays K) := by
  refine T.F_p_ways_to_split.ok sc_p_ways_to_split (fun vs H Q E h => ?_) (fun cdv A outer s H vs Q E hr h => ?_)
  · obtain ⟨t, hs, rfl, _⟩ := h
    rfl
  · obtain ⟨t, hs, rfl, ht, hh, hln, q⟩ := h
    refine ⟨_, pss_cons (ps_set (i := 1) sc_p_ways_to_split.nd rfl (.inl rfl) pe_int) <|
      pss_cons (ps_set (i := 2) sc_p_ways_to_split.nd rfl (.inl rfl) pe_int) <|
      pss_cons (ps_for PassesOwn.never rfl (pi_list (pv 0)) (pg_name (i := 3) sc_p_ways_to_split.nd rfl (.inl rfl))
        (pss_one (ps_for PassesOwn.never rfl (pi_range2 (by rfl) T.n_range (pa_cons pe_int (pa_cons (pv 3) pa_nil))) (pg_name (i := 4) sc_p_ways_to_split.nd rfl (.inl rfl))
          (pss_cons (ps_aug (i := 2) sc_p_ways_to_split.nd rfl (.inl rfl) pe_int ip_add) <|
          pss_cons (ps_set (i := 1) sc_p_ways_to_split.nd rfl (.inl rfl) (pe_op op_fdiv (pe_op op_mul (pe_op op_mul (pv 1) pe_int) (pv 2)) (pv 4))) <|
          pss_one (ps_if (pt_cmpR op_gt (pv 4) pe_int (nomark _)) (pss_one (ps_aug (i := 1) sc_p_ways_to_split.nd rfl (.inl rfl) (pv 3) ip_mul)) pss_nil))))) <|
      pss_one (ps_ret (pv 1)), ?_⟩
    refine ⟨.ref t, rfl, t, rfl, ⟨_, ht⟩, ?_⟩
    refine for_list (xs := nv hs) (fun i σ H' => H' = H ∧ ∃ y3 y4 : Option V, σ = [some (.ref t), some (.int ((wyM hs i).1 : Nat)), some (.int ((wyM hs i).2 : Nat)), y3, y4]) ⟨rfl, none, none, rfl⟩ (fun i σ H' _ h => by rw [h.1]; exact ht) (fun i x σ H' hx h => ?_) (fun σ H' h => ?_)
    · obtain ⟨rfl, y3, y4, rfl⟩ := h
      obtain ⟨u, hu, rfl⟩ := nv_get' hx
      obtain ⟨hu1, hu2⟩ := hh u (List.mem_of_getElem? hu)
      obtain ⟨M, hM⟩ : ∃ M, M = (wyM hs i).1 := ⟨_, rfl⟩
      obtain ⟨c, hc⟩ : ∃ c, c = (wyM hs i).2 := ⟨_, rfl⟩
      have hst := wyM_step hu
      have hcl := wyM_calls hs (fun x hx => (hh x hx).2) i
      have hil := get_lt hu
      rw [← hc] at hcl
      rw [← hM, ← hc] at hst ⊢
      rw [hst]
      refine st_set [some (.ref t), some (.int (M : Nat)), some (.int (c : Nat)), some (.int (u : Nat)), y4] ?_ rfl
      refine ⟨_, rfl, 1, u, rfl, ⟨by decide, by decide, by omega, by omega⟩, ?_⟩
      rw [show ((u : Int) - 1).toNat = u - 1 by omega]
      refine for_range (n := u - 1) (fun j σ H2 => H2 = H' ∧ ∃ y4 : Option V, σ = [some (.ref t), some (.int (ws M c u j : Nat)), some (.int ((c + j : Nat) : Int)), some (.int (u : Nat)), y4]) ⟨rfl, y4, by rw [ws_zero]; rfl⟩ (fun j σ H2 hj h2 => ?_) (fun σ H2 h2 => ?_)
      · obtain ⟨rfl, y4, rfl⟩ := h2
        refine st_set [some (.ref t), some (.int (ws M c u j : Nat)), some (.int ((c + j : Nat) : Int)), some (.int (u : Nat)), some (.int ((1 : Int) + (j : Nat)))] ?_ rfl
        refine ⟨_, rfl, _, _, rfl, rfl, ?_⟩
        refine st_eq (t := tSeq _ _) [some (.ref t), some (.int (ws M c u j : Nat)), some (.int ((c + j + 1 : Nat) : Int)), some (.int (u : Nat)), some (.int ((1 : Int) + (j : Nat)))] ?_ (by rw [show ((c + j + 1 : Nat) : Int) = ((c + j : Nat) : Int) + 1 by omega]; rfl)
        refine ⟨_, rfl, _, _, rfl, rfl, .inr ⟨by decide, by decide⟩, _, rfl, _, _, rfl, rfl, .inr ⟨by omega, by omega⟩, _, rfl, _, _, rfl, rfl, ⟨by omega, by omega⟩, ?_⟩
        have ed : ((ws M c u j : Nat) : Int) * 2 * ((c + j + 1 : Nat) : Int) / ((1 : Int) + (j : Nat)) = ((ws M c u j * 2 * (c + j + 1) / (j + 1) : Nat) : Int) := by
          rw [show (1 : Int) + (j : Nat) = ((j + 1 : Nat) : Int) by omega, Int.natCast_ediv, Int.natCast_mul, Int.natCast_mul]; rfl
        refine st_set [some (.ref t), some (.int (ws M c u j * 2 * (c + j + 1) / (j + 1) : Nat)), some (.int ((c + j + 1 : Nat) : Int)), some (.int (u : Nat)), some (.int ((1 : Int) + (j : Nat)))] ?_ (by rw [← ed]; rfl)
        refine ⟨_, rfl, _, _, rfl, rfl, _, rfl, ite2 (fun z => ?_) (fun z => ?_)⟩
        · have hj1 : 1 ≤ j := by have := of_decide_eq_true z; omega
          refine ⟨_, rfl, _, rfl, _, _, rfl, rfl, .inr ⟨by omega, by omega⟩, rfl, some (.int ((1 : Int) + (j : Nat))), ?_⟩
          show [some (V.ref t), some (V.int (((ws M c u j * 2 * (c + j + 1) / (j + 1) : Nat) : Int) * (u : Nat))), some (V.int ((c + j + 1 : Nat) : Int)), some (V.int (u : Nat)), some (V.int ((1 : Int) + (j : Nat)))] = _
          rw [← ws_more M c u j hj1, Int.natCast_mul, show ((c + (j + 1) : Nat) : Int) = ((c + j + 1 : Nat) : Int) by omega]
        · have hj0 : j = 0 := by
            by_cases e : j = 0
            · exact e
            · exact absurd (decide_eq_true (show (1 : Int) + (j : Nat) > 1 by omega)) z
          subst hj0
          exact ⟨rfl, _, by rw [ws_one]⟩
      · obtain ⟨rfl, y4, rfl⟩ := h2
        exact ⟨rfl, _, _, by rfl⟩
    · obtain ⟨rfl, y3, y4, rfl⟩ := h
      rw [nv_length]
      exact ⟨_, rfl, q⟩
end
end Pc
namespace Pc
open PySem PySem.Spec PyProof.Rows L2 RZ
section
variable {P : Program} {w : World} {K : PySem.W.Frag} {mg : Str → Option Value} {base : Heap}
end
end Pc
namespace Pc
open PySem PySem.Spec PyProof.Rows L2 RZ
section
variable {P : Program} {w : World} {K : PySem.W.Frag} {mg : Str → Option Value} {base : Heap}
/-! ### numbers of people that differ -/
def spCheckSizesX (C : Addr) : Sp := fun vs H _ E => ∃ m n : Int, vs = [.int m, .int n] ∧ m ≠ n ∧ Flies C "size" (.int n) H E
theorem okx_p_check_sizes (T : Env K mg) : FnOk P w K mg base (L2.CX P w) 3 T.f_p_check_sizes T.d_p_check_sizes ["first", "second"] (spCheckSizesX T.C_OtherSize) := by
  refine T.F_p_check_sizes.okX sc_p_check_sizes (fun vs H Q E h => ?_) (fun cdv A outer s H vs Q E hr h => ?_)
  · obtain ⟨m, n, rfl, _⟩ := h
    rfl
  · obtain ⟨m, n, rfl, hmn, hF⟩ := h
    refine ⟨_, pss_one (ps_if (pt_cmpR op_ne (pv 0) (pv 1) (nomark _)) (pss_one (ps_raise rfl (takes_of rfl rfl rfl rfl) (pmk_e T.own_OtherSize bsV.fb T.iC_OtherSize T.tI_OtherSize (ok_i_OtherSize T) hr T.b_i_OtherSize pass0 (by rfl) T.gC_OtherSize (pa_cons (pv 1) pa_nil)))) pss_nil), ?_⟩
    refine ⟨_, rfl, _, rfl, rfl, _, rfl, ite2 (fun c => ?_) (fun c => ?_)⟩
    · exact ⟨_, rfl, raised1 hF⟩
    · exact absurd (show (!decide (V.int m = V.int n)) = true by rw [decide_eq_false (fun z => hmn (V.int.inj z))]; rfl) c
end
end Pc
namespace Pc
open PySem PySem.Spec PyProof.Rows L2 RZ
section
variable {P : Program} {w : World} {K : PySem.W.Frag} {mg : Str → Option Value} {base : Heap}
/-! ### another number of people: the second one a pairing (OS) or a sheet (OB) -/
def OS (K : PySem.W.Frag) (C : Addr) (a b : Addr) (H : Hp) (E : XK) : Prop := ∃ (f g : List Nat) (m n : Nat), Sq K H a (nv f) ∧ f.length = 2 * m ∧ Sq K H b (nv g) ∧ g.length = n ∧ m ≠ n ∧ Flies C "size" (.int n) H E
def OB (K : PySem.W.Frag) (C : Addr) (a b : Addr) (H : Hp) (E : XK) : Prop := ∃ (f g : List Nat) (m n : Nat), Sq K H a (nv f) ∧ f.length = 2 * m ∧ Sq K H b (nv g) ∧ g.length = 2 * n ∧ m ≠ n ∧ Flies C "size" (.int n) H E
def spS2 (K : PySem.W.Frag) (C : Addr) : Sp := fun vs H _ E => ∃ a b : Addr, vs = [.ref a, .ref b] ∧ OS K C a b H E
def spS3 (K : PySem.W.Frag) (C : Addr) : Sp := fun vs H _ E => ∃ (a b : Addr) (x : V), vs = [.ref a, .ref b, x] ∧ OS K C a b H E
def spS4 (K : PySem.W.Frag) (C : Addr) : Sp := fun vs H _ E => ∃ (a b : Addr) (x y : V), vs = [.ref a, .ref b, x, y] ∧ OS K C a b H E
def spB2 (K : PySem.W.Frag) (C : Addr) : Sp := fun vs H _ E => ∃ a b : Addr, vs = [.ref a, .ref b] ∧ OB K C a b H E
def spB3 (K : PySem.W.Frag) (C : Addr) : Sp := fun vs H _ E => ∃ (a b : Addr) (x : V), vs = [.ref a, .ref b, x] ∧ OB K C a b H E
theorem okx_p_path (T : Env K mg) : FnOk P w K mg base (L2.CX P w) 4 T.f_p_path T.d_p_path ["sheet", "pairing", "person"] (spS3 K T.C_OtherSize) := by
  have G0 : FnOk P w K mg base CX0 1 T.f_p_people_of T.d_p_people_of ["sheet"] (spPeople K) := ok_p_people_of T
  have GC : FnOk P w K mg base (L2.CX P w) 3 T.f_p_check_sizes T.d_p_check_sizes ["first", "second"] (spCheckSizesX T.C_OtherSize) := okx_p_check_sizes T
  refine T.F_p_path.okX sc_p_path (fun vs H Q E h => ?_) (fun cdv A outer s H vs Q E hr h => ?_)
  · obtain ⟨a, b, x, rfl, _⟩ := h
    rfl
  · obtain ⟨a, b, x, rfl, f, g, m, n, ha, hf, hb, hg, hmn, hF⟩ := h
    refine ⟨_, pss_cons (ps_expr (pe_callS GC hr (by rfl) T.g_p_check_sizes T.F_p_check_sizes.kp T.b_p_check_sizes (fun σ => passAt (takes_of rfl rfl rfl rfl) σ) (pa_cons (pe_call G0 (hr.mono (by decide)) (by rfl) T.g_p_people_of T.F_p_people_of.kp T.b_p_people_of .nil pass0 (pa_cons (pv 0) pa_nil)) (pa_cons (pe_callB call_len_seq (by rfl) T.n_len PySem.boot_len (pa_cons (pv 1) pa_nil)) pa_nil)))) pss_never, ?_⟩
    exact ⟨.ref a, rfl, a, f, m, rfl, ha, hf, .ref b, rfl, b, _, rfl, hb, m, n, (by rw [nv_length, hg]), by omega, hF⟩
theorem okx_p_result (T : Env K mg) : FnOk P w K mg base (L2.CX P w) 4 T.f_p_result T.d_p_result ["sheet", "pairing"] (spS2 K T.C_OtherSize) := by
  have G0 : FnOk P w K mg base CX0 1 T.f_p_people_of T.d_p_people_of ["sheet"] (spPeople K) := ok_p_people_of T
  have GC : FnOk P w K mg base (L2.CX P w) 3 T.f_p_check_sizes T.d_p_check_sizes ["first", "second"] (spCheckSizesX T.C_OtherSize) := okx_p_check_sizes T
  refine T.F_p_result.okX sc_p_result (fun vs H Q E h => ?_) (fun cdv A outer s H vs Q E hr h => ?_)
  · obtain ⟨a, b, rfl, _⟩ := h
    rfl
  · obtain ⟨a, b, rfl, f, g, m, n, ha, hf, hb, hg, hmn, hF⟩ := h
    refine ⟨_, pss_cons (ps_set (i := 2) sc_p_result.nd rfl ((by first | exact .inl rfl | exact .inr rfl)) (pe_call G0 (hr.mono (by decide)) (by rfl) T.g_p_people_of T.F_p_people_of.kp T.b_p_people_of .nil pass0 (pa_cons (pv 0) pa_nil))) <| pss_cons (ps_expr (pe_callS GC hr (by rfl) T.g_p_check_sizes T.F_p_check_sizes.kp T.b_p_check_sizes (fun σ => passAt (takes_of rfl rfl rfl rfl) σ) (pa_cons (pv 2) (pa_cons (pe_callB call_len_seq (by rfl) T.n_len PySem.boot_len (pa_cons (pv 1) pa_nil)) pa_nil)))) pss_never, ?_⟩
    exact ⟨.ref a, rfl, a, f, m, rfl, ha, hf, _, rfl, .ref b, rfl, b, _, rfl, hb, m, n, (by rw [nv_length, hg]), by omega, hF⟩
theorem okx_p_result_bar (T : Env K mg) : FnOk P w K mg base (L2.CX P w) 4 T.f_p_result_bar T.d_p_result_bar ["sheet", "pairing"] (spS2 K T.C_OtherSize) := by
  have G0 : FnOk P w K mg base CX0 1 T.f_p_people_of T.d_p_people_of ["sheet"] (spPeople K) := ok_p_people_of T
  have GC : FnOk P w K mg base (L2.CX P w) 3 T.f_p_check_sizes T.d_p_check_sizes ["first", "second"] (spCheckSizesX T.C_OtherSize) := okx_p_check_sizes T
  refine T.F_p_result_bar.okX sc_p_result_bar (fun vs H Q E h => ?_) (fun cdv A outer s H vs Q E hr h => ?_)
  · obtain ⟨a, b, rfl, _⟩ := h
    rfl
  · obtain ⟨a, b, rfl, f, g, m, n, ha, hf, hb, hg, hmn, hF⟩ := h
    refine ⟨_, pss_cons (ps_expr (pe_callS GC hr (by rfl) T.g_p_check_sizes T.F_p_check_sizes.kp T.b_p_check_sizes (fun σ => passAt (takes_of rfl rfl rfl rfl) σ) (pa_cons (pe_call G0 (hr.mono (by decide)) (by rfl) T.g_p_people_of T.F_p_people_of.kp T.b_p_people_of .nil pass0 (pa_cons (pv 0) pa_nil)) (pa_cons (pe_callB call_len_seq (by rfl) T.n_len PySem.boot_len (pa_cons (pv 1) pa_nil)) pa_nil)))) pss_never, ?_⟩
    exact ⟨.ref a, rfl, a, f, m, rfl, ha, hf, .ref b, rfl, b, _, rfl, hb, m, n, (by rw [nv_length, hg]), by omega, hF⟩
theorem okx_p_do_same (T : Env K mg) : FnOk P w K mg base (L2.CX P w) 4 T.f_p_do_same T.d_p_do_same ["one", "other"] (spB2 K T.C_OtherSize) := by
  have G0 : FnOk P w K mg base CX0 1 T.f_p_people_of T.d_p_people_of ["sheet"] (spPeople K) := ok_p_people_of T
  have GC : FnOk P w K mg base (L2.CX P w) 3 T.f_p_check_sizes T.d_p_check_sizes ["first", "second"] (spCheckSizesX T.C_OtherSize) := okx_p_check_sizes T
  refine T.F_p_do_same.okX sc_p_do_same (fun vs H Q E h => ?_) (fun cdv A outer s H vs Q E hr h => ?_)
  · obtain ⟨a, b, rfl, _⟩ := h
    rfl
  · obtain ⟨a, b, rfl, f, g, m, n, ha, hf, hb, hg, hmn, hF⟩ := h
    refine ⟨_, pss_cons (ps_expr (pe_callS GC hr (by rfl) T.g_p_check_sizes T.F_p_check_sizes.kp T.b_p_check_sizes (fun σ => passAt (takes_of rfl rfl rfl rfl) σ) (pa_cons (pe_call G0 (hr.mono (by decide)) (by rfl) T.g_p_people_of T.F_p_people_of.kp T.b_p_people_of .nil pass0 (pa_cons (pv 0) pa_nil)) (pa_cons (pe_call G0 (hr.mono (by decide)) (by rfl) T.g_p_people_of T.F_p_people_of.kp T.b_p_people_of .nil pass0 (pa_cons (pv 1) pa_nil)) pa_nil)))) pss_never, ?_⟩
    exact ⟨.ref a, rfl, a, f, m, rfl, ha, hf, .ref b, rfl, b, g, n, rfl, hb, hg, m, n, rfl, by omega, hF⟩
theorem okx_p_shows_parting (T : Env K mg) : FnOk P w K mg base (L2.CX P w) 4 T.f_p_shows_parting T.d_p_shows_parting ["one", "other", "value"] (spB3 K T.C_OtherSize) := by
  have G0 : FnOk P w K mg base CX0 1 T.f_p_people_of T.d_p_people_of ["sheet"] (spPeople K) := ok_p_people_of T
  have GC : FnOk P w K mg base (L2.CX P w) 3 T.f_p_check_sizes T.d_p_check_sizes ["first", "second"] (spCheckSizesX T.C_OtherSize) := okx_p_check_sizes T
  refine T.F_p_shows_parting.okX sc_p_shows_parting (fun vs H Q E h => ?_) (fun cdv A outer s H vs Q E hr h => ?_)
  · obtain ⟨a, b, x, rfl, _⟩ := h
    rfl
  · obtain ⟨a, b, x, rfl, f, g, m, n, ha, hf, hb, hg, hmn, hF⟩ := h
    refine ⟨_, pss_cons (ps_expr (pe_callS GC hr (by rfl) T.g_p_check_sizes T.F_p_check_sizes.kp T.b_p_check_sizes (fun σ => passAt (takes_of rfl rfl rfl rfl) σ) (pa_cons (pe_call G0 (hr.mono (by decide)) (by rfl) T.g_p_people_of T.F_p_people_of.kp T.b_p_people_of .nil pass0 (pa_cons (pv 0) pa_nil)) (pa_cons (pe_call G0 (hr.mono (by decide)) (by rfl) T.g_p_people_of T.F_p_people_of.kp T.b_p_people_of .nil pass0 (pa_cons (pv 1) pa_nil)) pa_nil)))) pss_never, ?_⟩
    exact ⟨.ref a, rfl, a, f, m, rfl, ha, hf, .ref b, rfl, b, g, n, rfl, hb, hg, m, n, rfl, by omega, hF⟩
theorem okx_p_shows_path (T : Env K mg) : FnOk P w K mg base (L2.CX P w) 5 T.f_p_shows_path T.d_p_shows_path ["sheet", "pairing", "person", "value"] (spS4 K T.C_OtherSize) := by
  have GP : FnOk P w K mg base (L2.CX P w) 4 T.f_p_path T.d_p_path ["sheet", "pairing", "person"] (spS3 K T.C_OtherSize) := okx_p_path T
  refine T.F_p_shows_path.okX sc_p_shows_path (fun vs H Q E h => ?_) (fun cdv A outer s H vs Q E hr h => ?_)
  · obtain ⟨a, b, x, y, rfl, _⟩ := h
    rfl
  · obtain ⟨a, b, x, y, rfl, f, g, m, n, ha, hf, hb, hg, hmn, hF⟩ := h
    refine ⟨_, pss_cons (ps_set (i := 4) sc_p_shows_path.nd rfl (.inl rfl) (pe_callS GP hr (by rfl) T.g_p_path T.F_p_path.kp T.b_p_path (fun σ => passAt (takes_of rfl rfl rfl rfl) σ) (pa_cons (pv 0) (pa_cons (pv 1) (pa_cons (pv 2) pa_nil))))) pss_never, ?_⟩
    exact ⟨.ref a, rfl, .ref b, rfl, x, rfl, a, b, x, rfl, f, g, m, n, ha, hf, hb, hg, hmn, hF⟩
theorem okx_p_couples_on (T : Env K mg) : FnOk P w K mg base (L2.CX P w) 5 T.f_p_couples_on T.d_p_couples_on ["sheet", "pairing", "person"] (spS3 K T.C_OtherSize) := by
  have GP : FnOk P w K mg base (L2.CX P w) 4 T.f_p_path T.d_p_path ["sheet", "pairing", "person"] (spS3 K T.C_OtherSize) := okx_p_path T
  refine T.F_p_couples_on.okX sc_p_couples_on (fun vs H Q E h => ?_) (fun cdv A outer s H vs Q E hr h => ?_)
  · obtain ⟨a, b, x, rfl, _⟩ := h
    rfl
  · obtain ⟨a, b, x, rfl, f, g, m, n, ha, hf, hb, hg, hmn, hF⟩ := h
    refine ⟨_, pss_cons (ps_set (i := 3) sc_p_couples_on.nd rfl ((by first | exact .inl rfl | exact .inr rfl)) (pe_callS GP hr (by rfl) T.g_p_path T.F_p_path.kp T.b_p_path (fun σ => passAt (takes_of rfl rfl rfl rfl) σ) (pa_cons (pv 0) (pa_cons (pv 1) (pa_cons (pv 2) pa_nil))))) pss_never, ?_⟩
    exact ⟨.ref a, rfl, .ref b, rfl, x, rfl, a, b, x, rfl, f, g, m, n, ha, hf, hb, hg, hmn, hF⟩
theorem okx_p_check_result (T : Env K mg) : FnOk P w K mg base (L2.CX P w) 5 T.f_p_check_result T.d_p_check_result ["sheet", "pairing"] (spS2 K T.C_OtherSize) := by
  have GP : FnOk P w K mg base (L2.CX P w) 4 T.f_p_result_bar T.d_p_result_bar ["sheet", "pairing"] (spS2 K T.C_OtherSize) := okx_p_result_bar T
  refine T.F_p_check_result.okX sc_p_check_result (fun vs H Q E h => ?_) (fun cdv A outer s H vs Q E hr h => ?_)
  · obtain ⟨a, b, rfl, _⟩ := h
    rfl
  · obtain ⟨a, b, rfl, f, g, m, n, ha, hf, hb, hg, hmn, hF⟩ := h
    refine ⟨_, pss_cons (ps_set (i := 2) sc_p_check_result.nd rfl (.inl rfl) (pe_callS GP hr (by rfl) T.g_p_result_bar T.F_p_result_bar.kp T.b_p_result_bar (fun σ => passAt (takes_of rfl rfl rfl rfl) σ) (pa_cons (pv 0) (pa_cons (pv 1) pa_nil)))) pss_never, ?_⟩
    exact ⟨.ref a, rfl, .ref b, rfl, a, b, rfl, f, g, m, n, ha, hf, hb, hg, hmn, hF⟩
theorem okx_p_result_number (T : Env K mg) : FnOk P w K mg base (L2.CX P w) 6 T.f_p_result_number T.d_p_result_number ["sheet", "pairing"] (spS2 K T.C_OtherSize) := by
  have GP : FnOk P w K mg base (L2.CX P w) 5 T.f_p_check_result T.d_p_check_result ["sheet", "pairing"] (spS2 K T.C_OtherSize) := okx_p_check_result T
  refine T.F_p_result_number.okX sc_p_result_number (fun vs H Q E h => ?_) (fun cdv A outer s H vs Q E hr h => ?_)
  · obtain ⟨a, b, rfl, _⟩ := h
    rfl
  · obtain ⟨a, b, rfl, f, g, m, n, ha, hf, hb, hg, hmn, hF⟩ := h
    refine ⟨_, pss_cons (ps_expr (pe_callS GP hr (by rfl) T.g_p_check_result T.F_p_check_result.kp T.b_p_check_result (fun σ => passAt (takes_of rfl rfl rfl rfl) σ) (pa_cons (pv 0) (pa_cons (pv 1) pa_nil)))) pss_never, ?_⟩
    exact ⟨.ref a, rfl, .ref b, rfl, a, b, rfl, f, g, m, n, ha, hf, hb, hg, hmn, hF⟩
theorem okx_p_beginning_at (T : Env K mg) : FnOk P w K mg base (L2.CX P w) 6 T.f_p_beginning_at T.d_p_beginning_at ["sheet", "pairing", "number"] (spS3 K T.C_OtherSize) := by
  have GP : FnOk P w K mg base (L2.CX P w) 5 T.f_p_check_result T.d_p_check_result ["sheet", "pairing"] (spS2 K T.C_OtherSize) := okx_p_check_result T
  refine T.F_p_beginning_at.okX sc_p_beginning_at (fun vs H Q E h => ?_) (fun cdv A outer s H vs Q E hr h => ?_)
  · obtain ⟨a, b, x, rfl, _⟩ := h
    rfl
  · obtain ⟨a, b, x, rfl, f, g, m, n, ha, hf, hb, hg, hmn, hF⟩ := h
    refine ⟨_, pss_cons (ps_expr (pe_callS GP hr (by rfl) T.g_p_check_result T.F_p_check_result.kp T.b_p_check_result (fun σ => passAt (takes_of rfl rfl rfl rfl) σ) (pa_cons (pv 0) (pa_cons (pv 1) pa_nil)))) pss_never, ?_⟩
    exact ⟨.ref a, rfl, .ref b, rfl, a, b, rfl, f, g, m, n, ha, hf, hb, hg, hmn, hF⟩
theorem okx_p_beginnings_many (T : Env K mg) : FnOk P w K mg base (L2.CX P w) 5 T.f_p_beginnings_many T.d_p_beginnings_many ["sheet", "pairing"] (spS2 K T.C_OtherSize) := by
  have GP : FnOk P w K mg base (L2.CX P w) 4 T.f_p_result_bar T.d_p_result_bar ["sheet", "pairing"] (spS2 K T.C_OtherSize) := okx_p_result_bar T
  refine T.F_p_beginnings_many.okX sc_p_beginnings_many (fun vs H Q E h => ?_) (fun cdv A outer s H vs Q E hr h => ?_)
  · obtain ⟨a, b, rfl, _⟩ := h
    rfl
  · obtain ⟨a, b, rfl, f, g, m, n, ha, hf, hb, hg, hmn, hF⟩ := h
    refine ⟨_, pss_cons (ps_if (pt_cmp (pc_notN (pe_callS GP hr (by rfl) T.g_p_result_bar T.F_p_result_bar.kp T.b_p_result_bar (fun σ => passAt (takes_of rfl rfl rfl rfl) σ) (pa_cons (pv 0) (pa_cons (pv 1) pa_nil))))) (pss_one (ps_ret pe_int)) pss_nil) pss_never, ?_⟩
    exact ⟨.ref a, rfl, .ref b, rfl, a, b, rfl, f, g, m, n, ha, hf, hb, hg, hmn, hF⟩
theorem okx_p_beginning_number (T : Env K mg) : FnOk P w K mg base (L2.CX P w) 5 T.f_p_beginning_number T.d_p_beginning_number ["sheet", "beginning"] (spS2 K T.C_OtherSize) := by
  have GP : FnOk P w K mg base (L2.CX P w) 4 T.f_p_result T.d_p_result ["sheet", "pairing"] (spS2 K T.C_OtherSize) := okx_p_result T
  refine T.F_p_beginning_number.okX sc_p_beginning_number (fun vs H Q E h => ?_) (fun cdv A outer s H vs Q E hr h => ?_)
  · obtain ⟨a, b, rfl, _⟩ := h
    rfl
  · obtain ⟨a, b, rfl, f, g, m, n, ha, hf, hb, hg, hmn, hF⟩ := h
    refine ⟨_, pss_cons (ps_set (i := 2) sc_p_beginning_number.nd rfl ((by first | exact .inl rfl | exact .inr rfl)) (pe_callN (by rfl) T.gC_Begun T.kc_Begun (pa_cons (pv 0) (pa_cons (pe_callS GP hr (by rfl) T.g_p_result T.F_p_result.kp T.b_p_result (fun σ => passAt (takes_of rfl rfl rfl rfl) σ) (pa_cons (pv 0) (pa_cons (pv 1) pa_nil))) pa_nil)))) pss_never, ?_⟩
    exact ⟨.ref a, rfl, .ref a, rfl, .ref b, rfl, a, b, rfl, f, g, m, n, ha, hf, hb, hg, hmn, hF⟩
theorem okx_p_parting (T : Env K mg) : FnOk P w K mg base (L2.CX P w) 5 T.f_p_parting T.d_p_parting ["one", "other"] (spB2 K T.C_OtherSize) := by
  have GP : FnOk P w K mg base (L2.CX P w) 4 T.f_p_do_same T.d_p_do_same ["one", "other"] (spB2 K T.C_OtherSize) := okx_p_do_same T
  refine T.F_p_parting.okX sc_p_parting (fun vs H Q E h => ?_) (fun cdv A outer s H vs Q E hr h => ?_)
  · obtain ⟨a, b, rfl, _⟩ := h
    rfl
  · obtain ⟨a, b, rfl, f, g, m, n, ha, hf, hb, hg, hmn, hF⟩ := h
    refine ⟨_, pss_cons (ps_if (pt_val (pe_callS GP hr (by rfl) T.g_p_do_same T.F_p_do_same.kp T.b_p_do_same (fun σ => passAt (takes_of rfl rfl rfl rfl) σ) (pa_cons (pv 0) (pa_cons (pv 1) pa_nil)))) (pss_one (ps_ret pe_non)) pss_nil) pss_never, ?_⟩
    exact ⟨.ref a, rfl, .ref b, rfl, a, b, rfl, f, g, m, n, ha, hf, hb, hg, hmn, hF⟩
end
end Pc
namespace Pc
open PySem PySem.Spec PyProof.Rows L2 RZ
section
variable {P : Program} {w : World} {K : PySem.W.Frag} {mg : Str → Option Value} {base : Heap}
/-! ### two pairings of different sizes -/
def OT (K : PySem.W.Frag) (C : Addr) (a b : Addr) (H : Hp) (E : XK) : Prop := ∃ (f g : List Nat), Sq K H a (nv f) ∧ Sq K H b (nv g) ∧ f.length ≠ g.length ∧ Flies C "size" (.int (g.length : Nat)) H E
theorem OT.same {C a b : Addr} {H H' : Hp} {E : XK} (h : OT K C a b H E) (s : Same H H') : OT K C a b H' E := by
  obtain ⟨f, g, ha, hb, hmn, hF⟩ := h
  exact ⟨f, g, ha.same s, hb.same s, hmn, hF.same s⟩
def spT2 (K : PySem.W.Frag) (C : Addr) : Sp := fun vs H _ E => ∃ a b : Addr, vs = [.ref a, .ref b] ∧ OT K C a b H E
def spT3 (K : PySem.W.Frag) (C : Addr) : Sp := fun vs H _ E => ∃ (a b : Addr) (x : V), vs = [.ref a, .ref b, x] ∧ OT K C a b H E
theorem okx_p_cycles (T : Env K mg) : FnOk P w K mg base (L2.CX P w) 4 T.f_p_cycles T.d_p_cycles ["one", "other"] (spT2 K T.C_OtherSize) := by
  have GC : FnOk P w K mg base (L2.CX P w) 3 T.f_p_check_sizes T.d_p_check_sizes ["first", "second"] (spCheckSizesX T.C_OtherSize) := okx_p_check_sizes T
  refine T.F_p_cycles.okX sc_p_cycles (fun vs H Q E h => ?_) (fun cdv A outer s H vs Q E hr h => ?_)
  · obtain ⟨a, b, rfl, _⟩ := h
    rfl
  · obtain ⟨a, b, rfl, f, g, ha, hb, hmn, hF⟩ := h
    refine ⟨_, pss_cons (ps_expr (pe_callS GC hr (by rfl) T.g_p_check_sizes T.F_p_check_sizes.kp T.b_p_check_sizes (fun σ => passAt (takes_of rfl rfl rfl rfl) σ) (pa_cons (pe_callB call_len_seq (by rfl) T.n_len PySem.boot_len (pa_cons (pv 0) pa_nil)) (pa_cons (pe_callB call_len_seq (by rfl) T.n_len PySem.boot_len (pa_cons (pv 1) pa_nil)) pa_nil)))) pss_never, ?_⟩
    exact ⟨.ref a, rfl, a, _, rfl, ha, .ref b, rfl, b, _, rfl, hb, _, _, (by rw [nv_length, nv_length]), by omega, hF⟩
theorem okx_p_leads (T : Env K mg) : FnOk P w K mg base (L2.CX P w) 4 T.f_p_leads T.d_p_leads ["one", "other", "value"] (spT3 K T.C_OtherSize) := by
  have GC : FnOk P w K mg base (L2.CX P w) 3 T.f_p_check_sizes T.d_p_check_sizes ["first", "second"] (spCheckSizesX T.C_OtherSize) := okx_p_check_sizes T
  refine T.F_p_leads.okX sc_p_leads (fun vs H Q E h => ?_) (fun cdv A outer s H vs Q E hr h => ?_)
  · obtain ⟨a, b, x, rfl, _⟩ := h
    rfl
  · obtain ⟨a, b, x, rfl, f, g, ha, hb, hmn, hF⟩ := h
    refine ⟨_, pss_cons (ps_expr (pe_callS GC hr (by rfl) T.g_p_check_sizes T.F_p_check_sizes.kp T.b_p_check_sizes (fun σ => passAt (takes_of rfl rfl rfl rfl) σ) (pa_cons (pe_callB call_len_seq (by rfl) T.n_len PySem.boot_len (pa_cons (pv 0) pa_nil)) (pa_cons (pe_callB call_len_seq (by rfl) T.n_len PySem.boot_len (pa_cons (pv 1) pa_nil)) pa_nil)))) pss_never, ?_⟩
    exact ⟨.ref a, rfl, a, _, rfl, ha, .ref b, rfl, b, _, rfl, hb, _, _, (by rw [nv_length, nv_length]), by omega, hF⟩
theorem okx_p_distance (T : Env K mg) : FnOk P w K mg base (L2.CX P w) 5 T.f_p_distance T.d_p_distance ["one", "other"] (spT2 K T.C_OtherSize) := by
  have GC : FnOk P w K mg base (L2.CX P w) 4 T.f_p_cycles T.d_p_cycles ["one", "other"] (spT2 K T.C_OtherSize) := okx_p_cycles T
  refine T.F_p_distance.okX sc_p_distance (fun vs H Q E h => ?_) (fun cdv A outer s H vs Q E hr h => ?_)
  · obtain ⟨a, b, rfl, _⟩ := h
    rfl
  · obtain ⟨a, b, rfl, hO⟩ := h
    obtain ⟨f, g, ha, hb, hmn, hF⟩ := id hO
    refine ⟨_, pss_one (ps_ret (pe_op op_sub (pe_op op_fdiv (pe_callB call_len_seq (by rfl) T.n_len PySem.boot_len (pa_cons (pv 0) pa_nil)) pe_int) (pe_callB call_len_seq (by rfl) T.n_len PySem.boot_len (pa_cons (pe_callS GC hr (by rfl) T.g_p_cycles T.F_p_cycles.kp T.b_p_cycles (fun σ => passAt (takes_of rfl rfl rfl rfl) σ) (pa_cons (pv 0) (pa_cons (pv 1) pa_nil))) pa_nil)))), ?_⟩
    exact ⟨.ref a, rfl, a, _, rfl, ha, _, 2, rfl, rfl, ⟨by decide, by decide⟩, .ref a, rfl, .ref b, rfl, a, b, rfl, hO⟩
theorem okx_p_words_many (T : Env K mg) : FnOk P w K mg base (L2.CX P w) 5 T.f_p_words_many T.d_p_words_many ["one", "other"] (spT2 K T.C_OtherSize) := by
  have GC : FnOk P w K mg base (L2.CX P w) 4 T.f_p_cycles T.d_p_cycles ["one", "other"] (spT2 K T.C_OtherSize) := okx_p_cycles T
  have GW : FnOk P w K mg base CX0 1 T.f_p_ways_to_split T.d_p_ways_to_split ["sizes"] (spWays K) := ok_p_ways_to_split T
  refine T.F_p_words_many.okX sc_p_words_many (fun vs H Q E h => ?_) (fun cdv A outer s H vs Q E hr h => ?_)
  · obtain ⟨a, b, rfl, _⟩ := h
    rfl
  · obtain ⟨a, b, rfl, hO⟩ := h
    refine ⟨_, pss_one (ps_ret (pe_call GW (hr.mono (by decide)) (by rfl) T.g_p_ways_to_split T.F_p_ways_to_split.kp T.b_p_ways_to_split .nil pass0 (pa_cons
      (pe_lc (own := [("cycle", 2)]) (g := gName 2) (tt := tYes) rfl sc_p_words_many.nd (pi_list (pe_callS GC hr (by rfl) T.g_p_cycles T.F_p_cycles.kp T.b_p_cycles (fun σ => passAt (takes_of rfl rfl rfl rfl) σ) (pa_cons (pv 0) (pa_cons (pv 1) pa_nil)))) (blkOk_by (N := N_p_words_many) (sc := defScope s_p_words_many) (by decide +kernel)) (fun _ _ _ _ _ => pg_name (i := 2) sc_p_words_many.nd rfl (.inl rfl)) (fun _ _ _ _ _ => pts_nil)
        (fun _ _ _ _ _ => pe_op op_fdiv (pe_callB (r := fun xs H Q => ∃ p ys, xs = [.ref p] ∧ (SqL K H p ys ∨ SqT K H p ys) ∧ Q (.int ys.length) H) call_len_seq (by rfl) T.n_len PySem.boot_len (pa_cons (pv 2) pa_nil)) pe_int)) pa_nil))), ?_⟩
    exact ⟨.ref a, rfl, .ref b, rfl, a, b, rfl, hO⟩
theorem okx_p_word_at (T : Env K mg) : FnOk P w K mg base (L2.CX P w) 6 T.f_p_word_at T.d_p_word_at ["one", "other", "number"] (spT3 K T.C_OtherSize) := by
  have GW : FnOk P w K mg base (L2.CX P w) 5 T.f_p_words_many T.d_p_words_many ["one", "other"] (spT2 K T.C_OtherSize) := okx_p_words_many T
  refine T.F_p_word_at.okX sc_p_word_at (fun vs H Q E h => ?_) (fun cdv A outer s H vs Q E hr h => ?_)
  · obtain ⟨a, b, x, rfl, _⟩ := h
    rfl
  · obtain ⟨a, b, x, rfl, hO⟩ := h
    refine ⟨_, pss_cons (ps_set (i := 3) sc_p_word_at.nd rfl (by first | exact .inl rfl | exact .inr rfl) (pe_callS GW hr (by rfl) T.g_p_words_many T.F_p_words_many.kp T.b_p_words_many (fun σ => passAt (takes_of rfl rfl rfl rfl) σ) (pa_cons (pv 0) (pa_cons (pv 1) pa_nil)))) pss_never, ?_⟩
    exact ⟨.ref a, rfl, .ref b, rfl, a, b, rfl, hO⟩
end
end Pc
namespace Pc
open PySem PySem.Spec PyProof.Rows L2 RZ
/-! ### o.m(e, ..) that raises -/
def tMethS (C : Addr) (m : Str) (sp : Sp) (E : L2.St → XK) (ta : TE) (t : TA) : TE := fun σ H Q => ta σ H fun x H1 => ∃ a dx fs, x = .ref a ∧ H1 a = some (.ins C dx fs) ∧ fs.lookup m = none ∧ t σ H1 fun vs H2 => sp (.ref a :: vs) H2 Q (E σ)
section
variable {X : Cx} {CX : CXT} {k : Nat} {f C : Addr} {fd : FuncData} {ps : List Str} {sp : Sp} {E : L2.St → XK} {x m : Str} {p pos apos : Pos} {e o : Expr} {es : List Expr} {ta : TE} {t : TA}
theorem pe_mS {pl : Sem Bool} (he : PE X o ta) (c : Cls X.K C) (hm : Meth X.K C m f) (F : FnOk X.prog X.w X.K X.mg X.base CX k f fd ps sp) (hr : Room k X.A) (hb : Binds X.K fd ps []) (hx : ∀ σ, PassesAt CX X σ (E σ)) (ha : PA X (e :: es) t)
    (hst : starEach (e :: es) X.env = (false, eval e X.env) :: starEach es X.env := by rfl) (hpl : (backTo pos (starEach es X.env)).any (·.1) = false := by rfl)
    (ht : eval (.Call (.Attribute o m apos) (e :: es) [] pos) X.env = (do
      let ov ← eval o X.env
      standAt apos.atName
      let (f, first) ← holding [ov] (getMethod ov m pl)
      callWith pos f first (backTo pos (starEach (e :: es) X.env)) (backToKw pos (keywordEach [] X.env))) := by rfl) :
    PE X (.Call (.Attribute o m apos) (e :: es) [] pos) (tMethS C m sp E ta t) := by
  refine ⟨fun pins s σ H Q I h => ?_⟩
  refine PySem.W.methodCall_KW (pl := pl) (thn (he.run pins s σ H _ I h) fun u s1 ⟨x, H1, I1, rx, a, dx, fs, ex, ea, l, q⟩ => ?_) ht
  subst ex
  obtain rfl : u = Value.ref a := rx
  refine getmeth_ok I1 ea c hm l ?_
  refine PySem.W.callWith_K (first := [.ref a]) (h₀ := X.base) I.ok.mod.kin hm.kp (thn (ha.run pos pins s1 σ H1 _ I1 q) fun us s2 ⟨vs, H2, I2, r, q2⟩ => ⟨I2.kIn, ?_⟩) hst hpl
  exact run_fnS (us := .ref a :: us) (vs := .ref a :: vs) F hr hb (hx σ) I2 (.cons rfl r) q2
end
/-! ### a hall that has just been made -/
theorem kw_pw : ¬ (("past" : Str) = "written") := by decide +kernel
def hfl (p q : Addr) : List (Str × V) := putF "written" (.ref q) (putF "past" (.ref p) [])
theorem hfl_past (p q : Addr) : (hfl p q).lookup ("past" : Str) = some (.ref p) := by
  unfold hfl
  rw [lookup_putF, if_neg kw_pw, lookup_putF, if_pos rfl]
theorem hfl_no (p q : Addr) {m : Str} (h1 : ¬ m = "written") (h2 : ¬ m = "past") : (hfl p q).lookup m = none := by
  unfold hfl
  rw [lookup_putF, if_neg h1, lookup_putF, if_neg h2]
  all_goals rfl
def HallAt (C : Addr) (H : Hp) (x : Addr) (t : Addr) : Prop := ∃ dx p q u, H x = some (.ins C dx (hfl p q)) ∧ H p = some (.lst [.ref u]) ∧ H u = some (.tup [.ref t, .non])
theorem HallAt.same {C x t : Addr} {H H' : Hp} (h : HallAt C H x t) (s : Same H H') : HallAt C H' x t := by
  obtain ⟨dx, p, q, u, h1, h2, h3⟩ := h
  exact ⟨dx, p, q, u, s _ _ h1, s _ _ h2, s _ _ h3⟩
end Pc
namespace Pc
open PySem PySem.Spec PyProof.Rows L2 RZ
section
variable {P : Program} {w : World} {K : PySem.W.Frag} {mg : Str → Option Value} {base : Heap}
def spHallInit (K : PySem.W.Frag) (C : Addr) : Sp := fun vs H Q _ => ∃ (x dx a : Addr) (ys : List V), vs = [.ref x, .ref a] ∧ H x = some (.ins C dx []) ∧ SqT K H a ys ∧
  ∀ H', (∀ b o, b ≠ x → H b = some o → H' b = some o) → HallAt C H' x a → Q .non H'
theorem ok_m_Hall_init (T : Env K mg) : FnOk P w K mg base CX0 1 T.f_m_Hall_init T.d_m_Hall_init ["self", "pairing"] (spHallInit K T.C_Hall) := by
  refine T.F_m_Hall_init.ok sc_m_Hall_init (fun vs H Q E h => ?_) (fun cdv A outer s H vs Q E hr h => ?_)
  · obtain ⟨x, dx, a, ys, rfl, _⟩ := h
    rfl
  · obtain ⟨x, dx, a, ys, rfl, hx, ha, q⟩ := h
    refine ⟨_, pss_cons (ps_fld (pv 0) (pe_lst (pa_cons (pe_tup (pa_cons (pe_callTy call_tuple_of (by rfl) T.n_tuple (by decide +kernel) (pa_cons (pv 1) pa_nil)) (pa_cons pe_non pa_nil))) pa_nil)) rfl) <|
      pss_one (ps_fld (pv 0) (pe_lst pa_nil) rfl), ?_⟩
    refine ⟨_, rfl, a, ys, rfl, .inr ⟨ha, by show 2 ≤ sizeLine; decide, fun u nu => ⟨by show 1 ≤ sizeLine; decide, fun p np => ?_⟩⟩⟩
    have s1 : Same H (upd H u (.tup [.ref a, .non])) := same_new nu
    have s2 := s1.trans (same_new (o := .lst [.ref u]) np)
    have xu : x ≠ u := ne_of_none hx nu
    have xp : x ≠ p := ne_of_none (s1 _ _ hx) np
    have up : u ≠ p := ne_of_none upd_same np
    refine ⟨_, rfl, x, T.C_Hall, dx, [], rfl, s2 _ _ hx, T.cl_Hall, T.nF_Hall_past, (by show 0 < 1000; decide), by show 0 ≤ sizeLine; decide, fun g ng => ?_⟩
    have xg : x ≠ g := ne_of_none upd_same ng
    have ng0 : (upd (upd H u (.tup [.ref a, .non])) p (.lst [.ref u])) g = none := by rw [upd_ne xg.symm] at ng; exact ng
    have gp : p ≠ g := ne_of_none upd_same ng0
    have gu : u ≠ g := ne_of_none (by rw [upd_ne up, upd_same]) ng0
    refine ⟨_, rfl, x, T.C_Hall, dx, _, rfl, by rw [upd_ne xg, upd_same], T.cl_Hall, T.nF_Hall_written, (by show 1 < 1000; decide), ?_⟩
    refine q _ (fun b o bx hb => ?_) ⟨dx, p, g, u, upd_same, ?_, ?_⟩
    · rw [upd_ne bx, upd_ne (ne_of_none (s2 _ _ hb) ng0), upd_ne bx]; exact s2 _ _ hb
    · rw [upd_ne xp.symm, upd_ne gp, upd_ne xp.symm, upd_same]
    · rw [upd_ne xu.symm, upd_ne gu, upd_ne xu.symm, upd_ne up, upd_same]
def spHallPairing (C : Addr) : Sp := fun vs H Q _ => ∃ (x t : Addr), vs = [.ref x] ∧ HallAt C H x t ∧ Q (.ref t) H
theorem ok_m_Hall_pairing (T : Env K mg) : FnOk P w K mg base CX0 1 T.f_m_Hall_pairing T.d_m_Hall_pairing ["self"] (spHallPairing T.C_Hall) := by
  refine T.F_m_Hall_pairing.ok sc_m_Hall_pairing (fun vs H Q E h => ?_) (fun cdv A outer s H vs Q E hr h => ?_)
  · obtain ⟨x, t, rfl, _⟩ := h
    rfl
  · obtain ⟨x, t, rfl, ⟨dx, p, q', u, h1, h2, h3⟩, q⟩ := h
    refine ⟨_, pss_one (ps_ret (pe_ix ix_tup (pe_ix ix_list (pe_fld (pv 0) rfl) (pe_un un_neg pe_int) (fun _ _ => rfl)) pe_int (fun _ _ => rfl))), ?_⟩
    exact ⟨_, rfl, x, T.C_Hall, dx, _, _, rfl, h1, T.cl_Hall, T.nF_Hall_past, hfl_past _ _, 1, rfl, p, _, -1, _, rfl, rfl, .inl (.inl h2), rfl, u, _, 0, _, rfl, rfl, .inl (.inl h3), rfl, q⟩
def spHallDeeds (C : Addr) : Sp := fun vs H Q _ => ∃ (x t : Addr), vs = [.ref x] ∧ HallAt C H x t ∧ Q (.int 0) H
theorem ok_m_Hall_deeds (T : Env K mg) : FnOk P w K mg base CX0 1 T.f_m_Hall_deeds T.d_m_Hall_deeds ["self"] (spHallDeeds T.C_Hall) := by
  refine T.F_m_Hall_deeds.ok sc_m_Hall_deeds (fun vs H Q E h => ?_) (fun cdv A outer s H vs Q E hr h => ?_)
  · obtain ⟨x, t, rfl, _⟩ := h
    rfl
  · obtain ⟨x, t, rfl, ⟨dx, p, q', u, h1, h2, h3⟩, q⟩ := h
    refine ⟨_, pss_one (ps_ret (pe_op op_sub (pe_callB call_len_seq (by rfl) T.n_len PySem.boot_len (pa_cons (pe_fld (pv 0) rfl) pa_nil)) pe_int)), ?_⟩
    exact ⟨_, rfl, x, T.C_Hall, dx, _, _, rfl, h1, T.cl_Hall, T.nF_Hall_past, hfl_past _ _, p, _, rfl, .inl (.inl (.inl h2)), _, 1, rfl, rfl, q⟩
end
end Pc
namespace Pc
open PySem PySem.Spec PyProof.Rows L2 RZ
section
variable {P : Program} {w : World} {K : PySem.W.Frag} {mg : Str → Option Value} {base : Heap}
theorem okB_p_followed (T : Env K mg) : FnOk P w K mg base (L2.CX P w) 4 T.f_p_followed T.d_p_followed ["one", "other"] (spB2 K T.C_OtherSize) := by
  have G0 : FnOk P w K mg base CX0 1 T.f_p_people_of T.d_p_people_of ["sheet"] (spPeople K) := ok_p_people_of T
  have G1 : FnOk P w K mg base (L2.CX P w) 3 T.f_p_check_sizes T.d_p_check_sizes ["first", "second"] (spCheckSizesX T.C_OtherSize) := okx_p_check_sizes T
  refine T.F_p_followed.okX sc_p_followed (fun vs H Q E h => ?_) (fun cdv A outer s H vs Q E hr h => ?_)
  · obtain ⟨a, b, rfl, _⟩ := h
    rfl
  · obtain ⟨a, b, rfl, f, g, m, n, ha, hf, hb, hg, hmn, hF⟩ := h
    have h1 := hr.mono (show 1 ≤ 3 by decide)
    refine ⟨_, pss_cons (ps_expr (pe_callS G1 hr (by rfl) T.g_p_check_sizes T.F_p_check_sizes.kp T.b_p_check_sizes (fun σ => passAt (takes_of rfl rfl rfl rfl) σ) (pa_cons (pe_call G0 h1 (by rfl) T.g_p_people_of T.F_p_people_of.kp T.b_p_people_of .nil pass0 (pa_cons (pv 0) pa_nil)) (pa_cons (pe_call G0 h1 (by rfl) T.g_p_people_of T.F_p_people_of.kp T.b_p_people_of .nil pass0 (pa_cons (pv 1) pa_nil)) pa_nil)))) pss_never, ?_⟩
    exact ⟨.ref a, rfl, a, f, m, rfl, ha, hf, .ref b, rfl, b, g, n, rfl, hb, hg, m, n, rfl, by omega, hF⟩
theorem okx_p_word_number (T : Env K mg) : FnOk P w K mg base (L2.CX P w) 6 T.f_p_word_number T.d_p_word_number ["one", "other", "word"] (spT3 K T.C_OtherSize) := by
  have GD : FnOk P w K mg base (L2.CX P w) 5 T.f_p_distance T.d_p_distance ["one", "other"] (spT2 K T.C_OtherSize) := okx_p_distance T
  refine T.F_p_word_number.okX sc_p_word_number (fun vs H Q E h => ?_) (fun cdv A outer s H vs Q E hr h => ?_)
  · obtain ⟨a, b, x, rfl, _⟩ := h
    rfl
  · obtain ⟨a, b, x, rfl, hO⟩ := h
    refine ⟨_, pss_cons (ps_set (i := 3) sc_p_word_number.nd rfl (by first | exact .inl rfl | exact .inr rfl) (pe_callS GD hr (by rfl) T.g_p_distance T.F_p_distance.kp T.b_p_distance (fun σ => passAt (takes_of rfl rfl rfl rfl) σ) (pa_cons (pv 0) (pa_cons (pv 1) pa_nil)))) pss_never, ?_⟩
    exact ⟨.ref a, rfl, .ref b, rfl, a, b, rfl, hO⟩
def spBecomeX (K : PySem.W.Frag) (C D : Addr) : Sp := fun vs H _ E => ∃ (x a b : Addr), vs = [.ref x, .ref b] ∧ HallAt D H x a ∧ OT K C a b H E
theorem okx_m_Hall_become (T : Env K mg) : FnOk P w K mg base (L2.CX P w) 7 T.f_m_Hall_become T.d_m_Hall_become ["self", "goal"] (spBecomeX K T.C_OtherSize T.C_Hall) := by
  have GA : FnOk P w K mg base (L2.CX P w) 6 T.f_p_word_at T.d_p_word_at ["one", "other", "number"] (spT3 K T.C_OtherSize) := okx_p_word_at T
  have GP : FnOk P w K mg base CX0 1 T.f_m_Hall_pairing T.d_m_Hall_pairing ["self"] (spHallPairing T.C_Hall) := ok_m_Hall_pairing T
  refine T.F_m_Hall_become.okX sc_m_Hall_become (fun vs H Q E h => ?_) (fun cdv A outer s H vs Q E hr h => ?_)
  · obtain ⟨x, a, b, rfl, _⟩ := h
    rfl
  · obtain ⟨x, a, b, rfl, hH, hO⟩ := h
    have h1 := hr.mono (show 1 ≤ 6 by decide)
    refine ⟨_, pss_cons (ps_set (i := 2) sc_m_Hall_become.nd rfl (.inl rfl) (pe_callS GA hr (by rfl) T.g_p_word_at T.F_p_word_at.kp T.b_p_word_at (fun σ => passAt (takes_of rfl rfl rfl rfl) σ) (pa_cons (pe_meth0 (pv 0) T.cl_Hall T.me_Hall_pairing GP h1 T.b_m_Hall_pairing .nil pass0) (pa_cons (pv 1) (pa_cons pe_int pa_nil))))) pss_never, ?_⟩
    obtain ⟨dx, p, q', u, g1, g2, g3⟩ := id hH
    exact ⟨_, rfl, x, dx, _, rfl, g1, hfl_no _ _ (by decide +kernel) (by decide +kernel), x, a, rfl, hH, .ref b, rfl, a, b, _, rfl, hO⟩
end
end Pc
namespace Pc
open PySem PySem.Spec PyProof.Rows L2 RZ
section
variable {P : Program} {w : World} {K : PySem.W.Frag} {mg : Str → Option Value} {base : Heap}
theorem OS.same {C a b : Addr} {H H' : Hp} {E : XK} (h : OS K C a b H E) (s : Same H H') : OS K C a b H' E := by
  obtain ⟨f, g, m, n, ha, hf, hb, hg, hmn, hF⟩ := h
  exact ⟨f, g, m, n, ha.same s, hf, hb.same s, hg, hmn, hF.same s⟩
theorem OB.same {C a b : Addr} {H H' : Hp} {E : XK} (h : OB K C a b H E) (s : Same H H') : OB K C a b H' E := by
  obtain ⟨f, g, m, n, ha, hf, hb, hg, hmn, hF⟩ := h
  exact ⟨f, g, m, n, ha.same s, hf, hb.same s, hg, hmn, hF.same s⟩
def spPD (K : PySem.W.Frag) (C : Addr) : Sp := fun vs H _ E => ∃ (d : Int) (a b : Addr) (ys : List V), vs = [.int d, .ref a, .ref b] ∧ 0 ≤ d ∧ d < 7 ∧ SqT K H a ys ∧ OT K C a b H E
def spSD (K : PySem.W.Frag) (C : Addr) : Sp := fun vs H _ E => ∃ (d : Int) (a b : Addr), vs = [.int d, .ref a, .ref b] ∧ 0 ≤ d ∧ d < 4 ∧ OB K C a b H E
def spBD (K : PySem.W.Frag) (C : Addr) : Sp := fun vs H _ E => ∃ (d : Int) (a b : Addr), vs = [.int d, .ref a, .ref b] ∧ 0 ≤ d ∧ d < 9 ∧ OS K C a b H E
theorem okx_pairs_door (T : Env K mg) : FnOk P w K mg base (L2.CX P w) 8 T.f_pairs_door T.d_pairs_door ["_law_door", "_law_start", "_law_mate"] (spPD K T.C_OtherSize) := by
  have GL : FnOk P w K mg base (L2.CX P w) 7 T.f_p_leads T.d_p_leads ["one", "other", "value"] (spT3 K T.C_OtherSize) := (okx_p_leads T).mono (by decide)
  have GA : FnOk P w K mg base (L2.CX P w) 7 T.f_p_word_at T.d_p_word_at ["one", "other", "number"] (spT3 K T.C_OtherSize) := (okx_p_word_at T).mono (by decide)
  have GN : FnOk P w K mg base (L2.CX P w) 7 T.f_p_word_number T.d_p_word_number ["one", "other", "word"] (spT3 K T.C_OtherSize) := (okx_p_word_number T).mono (by decide)
  have GI : FnOk P w K mg base CX0 1 T.f_m_Hall_init T.d_m_Hall_init ["self", "pairing"] (spHallInit K T.C_Hall) := ok_m_Hall_init T
  have GB : FnOk P w K mg base (L2.CX P w) 7 T.f_m_Hall_become T.d_m_Hall_become ["self", "goal"] (spBecomeX K T.C_OtherSize T.C_Hall) := okx_m_Hall_become T
  refine T.F_pairs_door.okX sc_pairs_door (fun vs H Q E h => ?_) (fun cdv A outer s H vs Q E hr h => ?_)
  · obtain ⟨d, a, b, ys, rfl, _⟩ := h
    rfl
  · obtain ⟨d, a, b, ys, rfl, h0, h7, hT, hO⟩ := h
    have h2 := hr.mono (show 2 ≤ 7 by decide)
    refine ⟨_, pss_cons (ps_if (pt_cmpR op_lt (pv 0) pe_int (nomark _)) (pss_one (ps_ret (pe_callF (cs := [(T.f_p_distance, spT2 K T.C_OtherSize), (T.f_p_words_many, spT2 K T.C_OtherSize), (T.f_p_cycles, spT2 K T.C_OtherSize)]) (fall_cons (sp := spT2 K T.C_OtherSize) ⟨7, _, _, (okx_p_distance T).mono (by decide), hr, T.F_p_distance.kp, T.b_p_distance⟩ (fall_cons (sp := spT2 K T.C_OtherSize) ⟨7, _, _, (okx_p_words_many T).mono (by decide), hr, T.F_p_words_many.kp, T.b_p_words_many⟩ (fall_cons (sp := spT2 K T.C_OtherSize) ⟨7, _, _, (okx_p_cycles T).mono (by decide), hr, T.F_p_cycles.kp, T.b_p_cycles⟩ fall_nil))) (fun σ => passAt (takes_of rfl rfl rfl rfl) σ) (pe_ix (r := rIxL K) ix_list (pe_lst (pa_cons (pe_glob (v := .ref T.f_p_distance) (by rfl) T.g_p_distance rfl) (pa_cons (pe_glob (v := .ref T.f_p_words_many) (by rfl) T.g_p_words_many rfl) (pa_cons (pe_glob (v := .ref T.f_p_cycles) (by rfl) T.g_p_cycles rfl) pa_nil)))) (pv 0) (fun _ _ => rfl)) (pa_cons (pv 1) (pa_cons (pv 2) pa_nil))))) pss_nil) <|
      pss_cons (ps_if (pt_cmpR op_lt (pv 0) pe_int (nomark _)) (pss_one (ps_ret (pe_ifExp (pt_cmpR op_eq (pv 0) pe_int (nomark _)) (pe_callS GL hr (by rfl) T.g_p_leads T.F_p_leads.kp T.b_p_leads (fun σ => passAt (takes_of rfl rfl rfl rfl) σ) (pa_cons (pv 1) (pa_cons (pv 2) (pa_cons pe_non pa_nil)))) (pe_callS GA hr (by rfl) T.g_p_word_at T.F_p_word_at.kp T.b_p_word_at (fun σ => passAt (takes_of rfl rfl rfl rfl) σ) (pa_cons (pv 1) (pa_cons (pv 2) (pa_cons (pe_un un_neg pe_int) pa_nil))))))) pss_nil) <|
      pss_one (ps_ret (pe_ifExp (pt_cmpR op_eq (pv 0) pe_int (nomark _)) (pe_callS GN hr (by rfl) T.g_p_word_number T.F_p_word_number.kp T.b_p_word_number (fun σ => passAt (takes_of rfl rfl rfl rfl) σ) (pa_cons (pv 1) (pa_cons (pv 2) (pa_cons (pe_lst (pa_cons (pe_tup (pa_cons pe_int (pa_cons pe_int pa_nil))) pa_nil)) pa_nil)))) (pe_mS (pe_make T.mk_Hall GI h2 (by rfl) T.gC_Hall T.b_m_Hall_init .nil pass0 (pa_cons (pv 1) pa_nil)) T.cl_Hall T.me_Hall_become GB hr T.b_m_Hall_become (fun σ => passAt (takes_of rfl rfl rfl rfl) σ) (pa_cons (pv 2) pa_nil)))), ?_⟩
    refine ⟨_, rfl, _, _, rfl, rfl, _, rfl, ?_⟩
    by_cases c1 : d < 3
    · refine iteY (decide_eq_true c1) ?_
      rcases (show d = 0 ∨ d = 1 ∨ d = 2 by omega) with rfl | rfl | rfl
      · exact ⟨(by show 3 ≤ sizeLine; decide), fun l nl => ⟨_, rfl, l, _, _, V.ref T.f_p_distance, rfl, rfl, .inl (.inl upd_same), rfl, T.f_p_distance, spT2 K T.C_OtherSize, (.head _), rfl, _, rfl, _, rfl, a, b, rfl, hO.same (same_new nl)⟩⟩
      · exact ⟨(by show 3 ≤ sizeLine; decide), fun l nl => ⟨_, rfl, l, _, _, V.ref T.f_p_words_many, rfl, rfl, .inl (.inl upd_same), rfl, T.f_p_words_many, spT2 K T.C_OtherSize, (.tail _ (.head _)), rfl, _, rfl, _, rfl, a, b, rfl, hO.same (same_new nl)⟩⟩
      · exact ⟨(by show 3 ≤ sizeLine; decide), fun l nl => ⟨_, rfl, l, _, _, V.ref T.f_p_cycles, rfl, rfl, .inl (.inl upd_same), rfl, T.f_p_cycles, spT2 K T.C_OtherSize, (.tail _ (.tail _ (.head _))), rfl, _, rfl, _, rfl, a, b, rfl, hO.same (same_new nl)⟩⟩
    refine iteX (decide_eq_false c1) ⟨_, rfl, _, _, rfl, rfl, _, rfl, ?_⟩
    by_cases c2 : d < 5
    · refine iteY (decide_eq_true c2) ⟨_, rfl, rfl, _, rfl, ?_⟩
      rcases (show d = 3 ∨ d = 4 by omega) with rfl | rfl
      · exact iteY rfl ⟨_, rfl, _, rfl, a, b, _, rfl, hO⟩
      · exact iteX rfl ⟨_, rfl, _, rfl, 1, rfl, a, b, _, rfl, hO⟩
    refine iteX (decide_eq_false c2) ⟨_, rfl, rfl, _, rfl, ?_⟩
    rcases (show d = 5 ∨ d = 6 by omega) with rfl | rfl
    · exact iteY rfl ⟨_, rfl, _, rfl, (by show 2 ≤ sizeLine; decide), fun u nu => ⟨(by show 1 ≤ sizeLine; decide), fun l nl => ⟨a, b, _, rfl, (hO.same (same_new nu)).same (same_new nl)⟩⟩⟩
    refine iteX rfl ⟨_, rfl, fun x dx nx ndx nex => ?_⟩
    have s0 : Same H (upd (upd H dx (.own x)) x (.ins T.C_Hall dx [])) := fun y o e => by rw [upd_ne (ne_of_none e nx), upd_ne (ne_of_none e ndx)]; exact e
    refine ⟨x, dx, a, ys, rfl, upd_same, same_tup s0 hT, fun H1 k1 hH => ⟨rfl, ?_⟩⟩
    obtain ⟨dx', p, q', u, g1, g2, g3⟩ := id hH
    have s1 : Same H H1 := fun y o e => k1 y o (ne_of_none e nx) (s0 y o e)
    exact ⟨x, dx', _, rfl, g1, hfl_no _ _ (by decide +kernel) (by decide +kernel), _, rfl, x, a, b, rfl, hH, hO.same s1⟩
theorem okx_sheets_door (T : Env K mg) : FnOk P w K mg base (L2.CX P w) 8 T.f_sheets_door T.d_sheets_door ["_law_door", "_law_page", "_law_mate"] (spSD K T.C_OtherSize) := by
  have GP : FnOk P w K mg base (L2.CX P w) 7 T.f_p_shows_parting T.d_p_shows_parting ["one", "other", "value"] (spB3 K T.C_OtherSize) := (okx_p_shows_parting T).mono (by decide)
  refine T.F_sheets_door.okX sc_sheets_door (fun vs H Q E h => ?_) (fun cdv A outer s H vs Q E hr h => ?_)
  · obtain ⟨d, a, b, rfl, _⟩ := h
    rfl
  · obtain ⟨d, a, b, rfl, h0, h4, hO⟩ := h
    refine ⟨_, pss_cons (ps_if (pt_cmpR op_lt (pv 0) pe_int (nomark _)) (pss_one (ps_ret (pe_callF (cs := [(T.f_p_followed, spB2 K T.C_OtherSize), (T.f_p_do_same, spB2 K T.C_OtherSize), (T.f_p_parting, spB2 K T.C_OtherSize)]) (fall_cons (sp := spB2 K T.C_OtherSize) ⟨7, _, _, (okB_p_followed T).mono (by decide), hr, T.F_p_followed.kp, T.b_p_followed⟩ (fall_cons (sp := spB2 K T.C_OtherSize) ⟨7, _, _, (okx_p_do_same T).mono (by decide), hr, T.F_p_do_same.kp, T.b_p_do_same⟩ (fall_cons (sp := spB2 K T.C_OtherSize) ⟨7, _, _, (okx_p_parting T).mono (by decide), hr, T.F_p_parting.kp, T.b_p_parting⟩ fall_nil))) (fun σ => passAt (takes_of rfl rfl rfl rfl) σ) (pe_ix (r := rIxL K) ix_list (pe_lst (pa_cons (pe_glob (v := .ref T.f_p_followed) (by rfl) T.g_p_followed rfl) (pa_cons (pe_glob (v := .ref T.f_p_do_same) (by rfl) T.g_p_do_same rfl) (pa_cons (pe_glob (v := .ref T.f_p_parting) (by rfl) T.g_p_parting rfl) pa_nil)))) (pv 0) (fun _ _ => rfl)) (pa_cons (pv 1) (pa_cons (pv 2) pa_nil))))) pss_nil) <|
      pss_one (ps_ret (pe_callS GP hr (by rfl) T.g_p_shows_parting T.F_p_shows_parting.kp T.b_p_shows_parting (fun σ => passAt (takes_of rfl rfl rfl rfl) σ) (pa_cons (pv 1) (pa_cons (pv 2) (pa_cons pe_non pa_nil))))), ?_⟩
    refine ⟨_, rfl, _, _, rfl, rfl, _, rfl, ?_⟩
    by_cases c1 : d < 3
    · refine iteY (decide_eq_true c1) ?_
      rcases (show d = 0 ∨ d = 1 ∨ d = 2 by omega) with rfl | rfl | rfl
      · exact ⟨(by show 3 ≤ sizeLine; decide), fun l nl => ⟨_, rfl, l, _, _, V.ref T.f_p_followed, rfl, rfl, .inl (.inl upd_same), rfl, T.f_p_followed, spB2 K T.C_OtherSize, (.head _), rfl, _, rfl, _, rfl, a, b, rfl, hO.same (same_new nl)⟩⟩
      · exact ⟨(by show 3 ≤ sizeLine; decide), fun l nl => ⟨_, rfl, l, _, _, V.ref T.f_p_do_same, rfl, rfl, .inl (.inl upd_same), rfl, T.f_p_do_same, spB2 K T.C_OtherSize, (.tail _ (.head _)), rfl, _, rfl, _, rfl, a, b, rfl, hO.same (same_new nl)⟩⟩
      · exact ⟨(by show 3 ≤ sizeLine; decide), fun l nl => ⟨_, rfl, l, _, _, V.ref T.f_p_parting, rfl, rfl, .inl (.inl upd_same), rfl, T.f_p_parting, spB2 K T.C_OtherSize, (.tail _ (.tail _ (.head _))), rfl, _, rfl, _, rfl, a, b, rfl, hO.same (same_new nl)⟩⟩
    refine iteX (decide_eq_false c1) ?_
    exact ⟨_, rfl, _, rfl, a, b, _, rfl, hO⟩
theorem okx_both_door (T : Env K mg) : FnOk P w K mg base (L2.CX P w) 8 T.f_both_door T.d_both_door ["_law_door", "_law_page", "_law_start"] (spBD K T.C_OtherSize) := by
  have GB : FnOk P w K mg base (L2.CX P w) 7 T.f_p_beginning_at T.d_p_beginning_at ["sheet", "pairing", "number"] (spS3 K T.C_OtherSize) := (okx_p_beginning_at T).mono (by decide)
  have GW : FnOk P w K mg base (L2.CX P w) 7 T.f_p_shows_path T.d_p_shows_path ["sheet", "pairing", "person", "value"] (spS4 K T.C_OtherSize) := (okx_p_shows_path T).mono (by decide)
  refine T.F_both_door.okX sc_both_door (fun vs H Q E h => ?_) (fun cdv A outer s H vs Q E hr h => ?_)
  · obtain ⟨d, a, b, rfl, _⟩ := h
    rfl
  · obtain ⟨d, a, b, rfl, h0, h9, hO⟩ := h
    refine ⟨_, pss_cons (ps_if (pt_cmpR op_lt (pv 0) pe_int (nomark _)) (pss_one (ps_ret (pe_callF (cs := [(T.f_p_result, spS2 K T.C_OtherSize), (T.f_p_result_bar, spS2 K T.C_OtherSize), (T.f_p_result_number, spS2 K T.C_OtherSize), (T.f_p_beginnings_many, spS2 K T.C_OtherSize), (T.f_p_beginning_number, spS2 K T.C_OtherSize)]) (fall_cons (sp := spS2 K T.C_OtherSize) ⟨7, _, _, (okx_p_result T).mono (by decide), hr, T.F_p_result.kp, T.b_p_result⟩ (fall_cons (sp := spS2 K T.C_OtherSize) ⟨7, _, _, (okx_p_result_bar T).mono (by decide), hr, T.F_p_result_bar.kp, T.b_p_result_bar⟩ (fall_cons (sp := spS2 K T.C_OtherSize) ⟨7, _, _, (okx_p_result_number T).mono (by decide), hr, T.F_p_result_number.kp, T.b_p_result_number⟩ (fall_cons (sp := spS2 K T.C_OtherSize) ⟨7, _, _, (okx_p_beginnings_many T).mono (by decide), hr, T.F_p_beginnings_many.kp, T.b_p_beginnings_many⟩ (fall_cons (sp := spS2 K T.C_OtherSize) ⟨7, _, _, (okx_p_beginning_number T).mono (by decide), hr, T.F_p_beginning_number.kp, T.b_p_beginning_number⟩ fall_nil))))) (fun σ => passAt (takes_of rfl rfl rfl rfl) σ) (pe_ix (r := rIxL K) ix_list (pe_lst (pa_cons (pe_glob (v := .ref T.f_p_result) (by rfl) T.g_p_result rfl) (pa_cons (pe_glob (v := .ref T.f_p_result_bar) (by rfl) T.g_p_result_bar rfl) (pa_cons (pe_glob (v := .ref T.f_p_result_number) (by rfl) T.g_p_result_number rfl) (pa_cons (pe_glob (v := .ref T.f_p_beginnings_many) (by rfl) T.g_p_beginnings_many rfl) (pa_cons (pe_glob (v := .ref T.f_p_beginning_number) (by rfl) T.g_p_beginning_number rfl) pa_nil)))))) (pv 0) (fun _ _ => rfl)) (pa_cons (pv 1) (pa_cons (pv 2) pa_nil))))) pss_nil) <|
      pss_cons (ps_if (pt_cmpR op_eq (pv 0) pe_int (nomark _)) (pss_one (ps_ret (pe_callS GB hr (by rfl) T.g_p_beginning_at T.F_p_beginning_at.kp T.b_p_beginning_at (fun σ => passAt (takes_of rfl rfl rfl rfl) σ) (pa_cons (pv 1) (pa_cons (pv 2) (pa_cons (pe_un un_neg pe_int) pa_nil)))))) pss_nil) <|
      pss_one (ps_ret (pe_ifExp (pt_cmpR op_eq (pv 0) pe_int (nomark _)) (pe_callS GW hr (by rfl) T.g_p_shows_path T.F_p_shows_path.kp T.b_p_shows_path (fun σ => passAt (takes_of rfl rfl rfl rfl) σ) (pa_cons (pv 1) (pa_cons (pv 2) (pa_cons (pe_un un_neg pe_int) (pa_cons pe_non pa_nil))))) (pe_callF (cs := [(T.f_p_path, spS3 K T.C_OtherSize), (T.f_p_couples_on, spS3 K T.C_OtherSize)]) (fall_cons (sp := spS3 K T.C_OtherSize) ⟨7, _, _, (okx_p_path T).mono (by decide), hr, T.F_p_path.kp, T.b_p_path⟩ (fall_cons (sp := spS3 K T.C_OtherSize) ⟨7, _, _, (okx_p_couples_on T).mono (by decide), hr, T.F_p_couples_on.kp, T.b_p_couples_on⟩ fall_nil)) (fun σ => passAt (takes_of rfl rfl rfl rfl) σ) (pe_ix (r := rIxL K) ix_list (pe_lst (pa_cons (pe_glob (v := .ref T.f_p_path) (by rfl) T.g_p_path rfl) (pa_cons (pe_glob (v := .ref T.f_p_couples_on) (by rfl) T.g_p_couples_on rfl) pa_nil))) (pe_op op_sub (pv 0) pe_int) (fun _ _ => rfl)) (pa_cons (pv 1) (pa_cons (pv 2) (pa_cons (pe_un un_neg pe_int) pa_nil)))))), ?_⟩
    refine ⟨_, rfl, _, _, rfl, rfl, _, rfl, ?_⟩
    by_cases c1 : d < 5
    · refine iteY (decide_eq_true c1) ?_
      rcases (show d = 0 ∨ d = 1 ∨ d = 2 ∨ d = 3 ∨ d = 4 by omega) with rfl | rfl | rfl | rfl | rfl
      · exact ⟨(by show 5 ≤ sizeLine; decide), fun l nl => ⟨_, rfl, l, _, _, V.ref T.f_p_result, rfl, rfl, .inl (.inl upd_same), rfl, T.f_p_result, spS2 K T.C_OtherSize, (.head _), rfl, _, rfl, _, rfl, a, b, rfl, hO.same (same_new nl)⟩⟩
      · exact ⟨(by show 5 ≤ sizeLine; decide), fun l nl => ⟨_, rfl, l, _, _, V.ref T.f_p_result_bar, rfl, rfl, .inl (.inl upd_same), rfl, T.f_p_result_bar, spS2 K T.C_OtherSize, (.tail _ (.head _)), rfl, _, rfl, _, rfl, a, b, rfl, hO.same (same_new nl)⟩⟩
      · exact ⟨(by show 5 ≤ sizeLine; decide), fun l nl => ⟨_, rfl, l, _, _, V.ref T.f_p_result_number, rfl, rfl, .inl (.inl upd_same), rfl, T.f_p_result_number, spS2 K T.C_OtherSize, (.tail _ (.tail _ (.head _))), rfl, _, rfl, _, rfl, a, b, rfl, hO.same (same_new nl)⟩⟩
      · exact ⟨(by show 5 ≤ sizeLine; decide), fun l nl => ⟨_, rfl, l, _, _, V.ref T.f_p_beginnings_many, rfl, rfl, .inl (.inl upd_same), rfl, T.f_p_beginnings_many, spS2 K T.C_OtherSize, (.tail _ (.tail _ (.tail _ (.head _)))), rfl, _, rfl, _, rfl, a, b, rfl, hO.same (same_new nl)⟩⟩
      · exact ⟨(by show 5 ≤ sizeLine; decide), fun l nl => ⟨_, rfl, l, _, _, V.ref T.f_p_beginning_number, rfl, rfl, .inl (.inl upd_same), rfl, T.f_p_beginning_number, spS2 K T.C_OtherSize, (.tail _ (.tail _ (.tail _ (.tail _ (.head _))))), rfl, _, rfl, _, rfl, a, b, rfl, hO.same (same_new nl)⟩⟩
    refine iteX (decide_eq_false c1) ⟨_, rfl, rfl, _, rfl, ?_⟩
    rcases (show d = 5 ∨ d = 6 ∨ d = 7 ∨ d = 8 by omega) with rfl | rfl | rfl | rfl
    · exact iteY rfl ⟨_, rfl, _, rfl, 1, rfl, a, b, _, rfl, hO⟩
    · exact iteX rfl ⟨_, rfl, rfl, _, rfl, iteY rfl ⟨_, rfl, _, rfl, 1, rfl, a, b, _, _, rfl, hO⟩⟩
    · exact iteX rfl ⟨_, rfl, rfl, _, rfl, iteX rfl ⟨(by show 2 ≤ sizeLine; decide), fun l nl => ⟨_, rfl, _, _, rfl, rfl, l, _, _, V.ref T.f_p_path, rfl, rfl, .inl (.inl upd_same), rfl, T.f_p_path, spS3 K T.C_OtherSize, (.head _), rfl, _, rfl, _, rfl, 1, rfl, a, b, _, rfl, hO.same (same_new nl)⟩⟩⟩
    · exact iteX rfl ⟨_, rfl, rfl, _, rfl, iteX rfl ⟨(by show 2 ≤ sizeLine; decide), fun l nl => ⟨_, rfl, _, _, rfl, rfl, l, _, _, V.ref T.f_p_couples_on, rfl, rfl, .inl (.inl upd_same), rfl, T.f_p_couples_on, spS3 K T.C_OtherSize, (.tail _ (.head _)), rfl, _, rfl, _, rfl, 1, rfl, a, b, _, rfl, hO.same (same_new nl)⟩⟩⟩
def spRef97 (K : PySem.W.Frag) : Sp := fun vs H Q _ => ∃ (k d : Int) (a b : Addr) (f g : List Nat) (m n : Nat), vs = [.int k, .int d, .ref a, .ref b] ∧ SqT K H a (nv f) ∧ SqT K H b (nv g) ∧ m ≠ n ∧ ((k = 0 ∧ 0 ≤ d ∧ d < 7 ∧ f.length = m ∧ g.length = n) ∨ (k = 1 ∧ 0 ≤ d ∧ d < 4 ∧ f.length = 2 * m ∧ g.length = 2 * n) ∨ (k = 2 ∧ 0 ≤ d ∧ d < 9 ∧ f.length = 2 * m ∧ g.length = n)) ∧ ∀ H', Same H H' → Q (.int (n : Nat)) H'
theorem ok_refused (T : Env K mg) : FnOk P w K mg base CX0 9 T.f_refused T.d_refused ["_law_kind", "_law_door", "_law_thing", "_law_other_thing"] (spRef97 K) := by
  have GP := okx_pairs_door (P := P) (w := w) (base := base) T
  have GS := okx_sheets_door (P := P) (w := w) (base := base) T
  have GB := okx_both_door (P := P) (w := w) (base := base) T
  refine T.F_refused.ok sc_refused (fun vs H Q E h => ?_) (fun cdv A outer s H vs Q E hr h => ?_)
  · obtain ⟨k, d, a, b, f, g, m, n, rfl, _⟩ := h
    rfl
  · obtain ⟨k, d, a, b, f, g, m, n, rfl, ha, hb, hmn, hk, q⟩ := h
    refine ⟨_, pss_cons (ps_set (i := 4) sc_refused.nd rfl (.inl rfl) pe_non) <|
      pss_cons (ps_try_kept (i := 5) (cs := [.ref T.C_NoDeed, .ref T.C_NoNumber, .ref T.C_NoPerson, .ref T.C_NotResult, .ref T.C_NotShortest, .ref T.C_OtherSize]) rfl rfl rfl sc_refused.nd rfl rfl (.cons ⟨_, _, rfl, by rfl, by decide, .inl T.gC_NoDeed⟩ (.cons ⟨_, _, rfl, by rfl, by decide, .inl T.gC_NoNumber⟩ (.cons ⟨_, _, rfl, by rfl, by decide, .inl T.gC_NoPerson⟩ (.cons ⟨_, _, rfl, by rfl, by decide, .inl T.gC_NotResult⟩ (.cons ⟨_, _, rfl, by rfl, by decide, .inl T.gC_NotShortest⟩ (.cons ⟨_, _, rfl, by rfl, by decide, .inl T.gC_OtherSize⟩ .nil)))))) (by show 6 ≤ 1000; decide)
        (fun W pn xe tk _ => pss_one (ps_if (pt_cmpR op_eq (pv 0) pe_int (nomark _)) (pss_one (ps_expr (pe_callS GP hr (by rfl) T.g_pairs_door T.F_pairs_door.kp T.b_pairs_door (fun σ => passAt tk σ) (pa_cons (pv 1) (pa_cons (pv 2) (pa_cons (pv 3) pa_nil)))))) (pss_one (ps_if (pt_cmpR op_eq (pv 0) pe_int (nomark _)) (pss_one (ps_expr (pe_callS GS hr (by rfl) T.g_sheets_door T.F_sheets_door.kp T.b_sheets_door (fun σ => passAt tk σ) (pa_cons (pv 1) (pa_cons (pv 2) (pa_cons (pv 3) pa_nil)))))) (pss_one (ps_expr (pe_callS GB hr (by rfl) T.g_both_door T.F_both_door.kp T.b_both_door (fun σ => passAt tk σ) (pa_cons (pv 1) (pa_cons (pv 2) (pa_cons (pv 3) pa_nil))))))))))
        (fun a oe pn => pss_one (ps_set (i := 4) sc_refused.nd rfl (.inl rfl) (pv 5)))) <|
      pss_cons (ps_if (PW.pt (pw_or (pt_not (pt_val (pe_callB call_isk (by rfl) T.n_isinstance (by decide +kernel) (pa_cons (pv 4) (pa_cons (pe_glob (v := .ref T.C_OtherSize) (by rfl) T.gC_OtherSize rfl) pa_nil))))) (pw_or1 (pt_val (pe_callB call_iskT (by rfl) T.n_isinstance (by decide +kernel) (pa_cons (pv 4) (pa_cons (pe_tup (pa_cons (pe_glob (v := .ref T.C_NotResult) (by rfl) T.gC_NotResult rfl) (pa_cons (pe_glob (v := .ref T.C_NotShortest) (by rfl) T.gC_NotShortest rfl) pa_nil))) pa_nil))))))) (pss_one (ps_ret pe_non)) pss_nil) <|
      pss_one (ps_ret (pe_ifExp (pt_val (pe_callB call_isk (by rfl) T.n_isinstance (by decide +kernel) (pa_cons (pv 4) (pa_cons (pe_bltn (v := .ty "ValueError") (by rfl) T.n_ValueError (by decide +kernel) rfl) pa_nil)))) (pe_kf (pv 4)) pe_non)), ?_⟩
    refine st_set [some (.int k), some (.int d), some (.ref a), some (.ref b), some .non, none] ?_ rfl
    rcases hk with ⟨rfl, d0, d1, hf, hg⟩ | ⟨rfl, d0, d1, hf, hg⟩ | ⟨rfl, d0, d1, hf, hg⟩
    · subst hg
      refine ⟨_, rfl, rfl, _, rfl, iteY rfl ⟨_, rfl, _, rfl, _, rfl, d, a, b, _, rfl, d0, d1, ha, f, g, .inr ha, .inr hb, by omega, kept1 (hits_of [false, false, false, false, false, true] rfl (.cons T.ex_OtherSize_NoDeed (.cons T.ex_OtherSize_NoNumber (.cons T.ex_OtherSize_NoPerson (.cons T.ex_OtherSize_NotResult (.cons T.ex_OtherSize_NotShortest (.cons T.ee_OtherSize .nil))))))) fun dd H2 z s2 nd ed nx ne => ⟨_, rfl, ?_⟩⟩⟩
      have hK : Kept (upd H2 z (exk z (.ref T.C_OtherSize) (some dd))) z T.C_OtherSize (some dd) := .mk1 ed nx
      have s3 : Same H (upd H2 z (exk z (.ref T.C_OtherSize) (some dd))) := s2.trans (same_new nx)
      replace ed := same_new (o := exk z (.ref T.C_OtherSize) (some dd)) nx _ _ ed
      refine st_set [some (.int 0), some (.int d), some (.ref a), some (.ref b), some (.ref z), some (.ref z)] ?_ rfl
      refine st_kept [some (.int 0), some (.int d), some (.ref a), some (.ref b), some (.ref z), none] ?_ rfl
      refine ⟨_, rfl, z, _, _, _, _, _, rfl, hK, T.kpt_OtherSize, .own _, T.kk_OtherSize, true, rfl, iteN ?_⟩
      refine ⟨_, rfl, (by show 2 ≤ sizeLine; decide), fun l2 nl2 => ⟨z, _, _, l2, _, _, _, rfl, hK.same (same_new nl2), T.kpt_OtherSize, upd_same, (.cons (.own _) (.cons (.own _) .nil)), (kit_cons T.ki_OtherSize_NotResult (kit_cons T.ki_OtherSize_NotShortest kit_nil)), _, rfl, iteX rfl ?_⟩⟩
      refine ⟨_, rfl, z, _, _, _, _, _, rfl, hK.same (same_new nl2), T.kpt_OtherSize, .ty _, T.kb_OtherSize_ValueError, _, rfl, iteY rfl ?_⟩
      exact ⟨_, rfl, z, _, _, _, _, rfl, (hK.same (same_new nl2)).1, T.kpt_OtherSize, T.no_OtherSize, same_new nl2 _ _ ed, rfl, q _ (s3.trans (same_new nl2))⟩
    · refine ⟨_, rfl, rfl, _, rfl, iteX rfl ⟨_, rfl, rfl, _, rfl, iteY rfl ⟨_, rfl, _, rfl, _, rfl, d, a, b, rfl, d0, d1, f, g, m, n, .inr ha, hf, .inr hb, hg, hmn, kept1 (hits_of [false, false, false, false, false, true] rfl (.cons T.ex_OtherSize_NoDeed (.cons T.ex_OtherSize_NoNumber (.cons T.ex_OtherSize_NoPerson (.cons T.ex_OtherSize_NotResult (.cons T.ex_OtherSize_NotShortest (.cons T.ee_OtherSize .nil))))))) fun dd H2 z s2 nd ed nx ne => ⟨_, rfl, ?_⟩⟩⟩⟩
      have hK : Kept (upd H2 z (exk z (.ref T.C_OtherSize) (some dd))) z T.C_OtherSize (some dd) := .mk1 ed nx
      have s3 : Same H (upd H2 z (exk z (.ref T.C_OtherSize) (some dd))) := s2.trans (same_new nx)
      replace ed := same_new (o := exk z (.ref T.C_OtherSize) (some dd)) nx _ _ ed
      refine st_set [some (.int 1), some (.int d), some (.ref a), some (.ref b), some (.ref z), some (.ref z)] ?_ rfl
      refine st_kept [some (.int 1), some (.int d), some (.ref a), some (.ref b), some (.ref z), none] ?_ rfl
      refine ⟨_, rfl, z, _, _, _, _, _, rfl, hK, T.kpt_OtherSize, .own _, T.kk_OtherSize, true, rfl, iteN ?_⟩
      refine ⟨_, rfl, (by show 2 ≤ sizeLine; decide), fun l2 nl2 => ⟨z, _, _, l2, _, _, _, rfl, hK.same (same_new nl2), T.kpt_OtherSize, upd_same, (.cons (.own _) (.cons (.own _) .nil)), (kit_cons T.ki_OtherSize_NotResult (kit_cons T.ki_OtherSize_NotShortest kit_nil)), _, rfl, iteX rfl ?_⟩⟩
      refine ⟨_, rfl, z, _, _, _, _, _, rfl, hK.same (same_new nl2), T.kpt_OtherSize, .ty _, T.kb_OtherSize_ValueError, _, rfl, iteY rfl ?_⟩
      exact ⟨_, rfl, z, _, _, _, _, rfl, (hK.same (same_new nl2)).1, T.kpt_OtherSize, T.no_OtherSize, same_new nl2 _ _ ed, rfl, q _ (s3.trans (same_new nl2))⟩
    · refine ⟨_, rfl, rfl, _, rfl, iteX rfl ⟨_, rfl, rfl, _, rfl, iteX rfl ⟨_, rfl, _, rfl, _, rfl, d, a, b, rfl, d0, d1, f, g, m, n, .inr ha, hf, .inr hb, hg, hmn, kept1 (hits_of [false, false, false, false, false, true] rfl (.cons T.ex_OtherSize_NoDeed (.cons T.ex_OtherSize_NoNumber (.cons T.ex_OtherSize_NoPerson (.cons T.ex_OtherSize_NotResult (.cons T.ex_OtherSize_NotShortest (.cons T.ee_OtherSize .nil))))))) fun dd H2 z s2 nd ed nx ne => ⟨_, rfl, ?_⟩⟩⟩⟩
      have hK : Kept (upd H2 z (exk z (.ref T.C_OtherSize) (some dd))) z T.C_OtherSize (some dd) := .mk1 ed nx
      have s3 : Same H (upd H2 z (exk z (.ref T.C_OtherSize) (some dd))) := s2.trans (same_new nx)
      replace ed := same_new (o := exk z (.ref T.C_OtherSize) (some dd)) nx _ _ ed
      refine st_set [some (.int 2), some (.int d), some (.ref a), some (.ref b), some (.ref z), some (.ref z)] ?_ rfl
      refine st_kept [some (.int 2), some (.int d), some (.ref a), some (.ref b), some (.ref z), none] ?_ rfl
      refine ⟨_, rfl, z, _, _, _, _, _, rfl, hK, T.kpt_OtherSize, .own _, T.kk_OtherSize, true, rfl, iteN ?_⟩
      refine ⟨_, rfl, (by show 2 ≤ sizeLine; decide), fun l2 nl2 => ⟨z, _, _, l2, _, _, _, rfl, hK.same (same_new nl2), T.kpt_OtherSize, upd_same, (.cons (.own _) (.cons (.own _) .nil)), (kit_cons T.ki_OtherSize_NotResult (kit_cons T.ki_OtherSize_NotShortest kit_nil)), _, rfl, iteX rfl ?_⟩⟩
      refine ⟨_, rfl, z, _, _, _, _, _, rfl, hK.same (same_new nl2), T.kpt_OtherSize, .ty _, T.kb_OtherSize_ValueError, _, rfl, iteY rfl ?_⟩
      exact ⟨_, rfl, z, _, _, _, _, rfl, (hK.same (same_new nl2)).1, T.kpt_OtherSize, T.no_OtherSize, same_new nl2 _ _ ed, rfl, q _ (s3.trans (same_new nl2))⟩
end
end Pc
namespace Pc
open PySem PySem.Spec PyProof.Rows L2 RZ
section
variable {P : Program} {w : World} {K : PySem.W.Frag} {mg : Str → Option Value} {base : Heap}
def spRight : Sp := fun vs H Q _ => ∃ (b : Addr) (n : Nat), vs = [.ref b] ∧ Box (n + 1000) H b ∧ ∀ H', Keep b H H' → Box n H' b → Q (.bl true) H'
theorem ok_right (T : Env K mg) : FnOk P w K mg base CX0 10 T.f_right T.d_right ["_law_source"] spRight := by
  have GT : FnOk P w K mg base CX0 1 T.f_draw T.d_draw ["_law_source", "_law_bound"] spTake := ok_take T
  have GE : FnOk P w K mg base CX0 5 T.f_same T.d_same ["_law_found", "_law_due"] (spSame K 4) := (ok_same T 4).mono (by decide)
  have GO : FnOk P w K mg base CX0 2 T.f_pick T.d_pick ["_law_source", "_law_some"] (spOf K) := ok_of T
  have GR : FnOk P w K mg base CX0 3 T.f_random_pairing T.d_random_pairing ["_law_source", "_law_crowd"] spRandom := ok_random T
  have GF : FnOk P w K mg base CX0 9 T.f_refused T.d_refused ["_law_kind", "_law_door", "_law_thing", "_law_other_thing"] (spRef97 K) := ok_refused T
  have GI : FnOk P w K mg base CX0 1 T.f_m_Hall_init T.d_m_Hall_init ["self", "pairing"] (spHallInit K T.C_Hall) := ok_m_Hall_init T
  have GHp : FnOk P w K mg base CX0 1 T.f_m_Hall_pairing T.d_m_Hall_pairing ["self"] (spHallPairing T.C_Hall) := ok_m_Hall_pairing T
  have GHd : FnOk P w K mg base CX0 1 T.f_m_Hall_deeds T.d_m_Hall_deeds ["self"] (spHallDeeds T.C_Hall) := ok_m_Hall_deeds T
  refine T.F_right.ok sc_right (fun vs H Q E h => ?_) (fun cdv A outer s H vs Q E hr h => ?_)
  · obtain ⟨b, n, rfl, _⟩ := h
    rfl
  · obtain ⟨b, n, rfl, hB, q⟩ := h
    have h1 := hr.mono (show 1 ≤ 9 by decide)
    have h2 := hr.mono (show 2 ≤ 9 by decide)
    have h3 := hr.mono (show 3 ≤ 9 by decide)
    have h4 := hr.mono (show 4 ≤ 9 by decide)
    have h5 := hr.mono (show 5 ≤ 9 by decide)
    have h6 := hr.mono (show 6 ≤ 9 by decide)
    have h7 := hr.mono (show 7 ≤ 9 by decide)
    have h8 := hr.mono (show 8 ≤ 9 by decide)
    have kH : Keep b H H := Keep.refl _ _
    refine ⟨_, pss_cons (ps_set (i := 1) sc_right.nd rfl (.inl rfl) (pe_op op_add pe_int (pe_op op_mul pe_int (pe_call GT h1 (by rfl) T.g_draw T.F_draw.kp T.b_draw .nil pass0 (pa_cons (pv 0) (pa_cons pe_int pa_nil)))))) <|
      pss_cons (ps_set (i := 2) sc_right.nd rfl (.inl rfl) (pe_call GO h2 (by rfl) T.g_pick T.F_pick.kp T.b_pick .nil pass0 (pa_cons (pv 0) (pa_cons (pe_lst (pa_cons pe_int (pa_cons (pe_op op_add (pv 1) pe_int) (pa_cons (pe_op op_add (pv 1) pe_int) pa_nil)))) pa_nil)))) <|
      pss_cons (ps_set (i := 2) sc_right.nd rfl (.inl rfl) (pe_ifExp (pt_cmpR op_eq (pv 2) (pv 1) (nomark _)) (pe_op op_add (pv 1) pe_int) (pv 2))) <|
      pss_cons (ps_for PassesOwn.never rfl (pi_tup (pe_tup (pa_cons (pe_tup (pa_cons (pv 1) (pa_cons (pv 2) pa_nil))) (pa_cons (pe_tup (pa_cons (pv 2) (pa_cons (pv 1) pa_nil))) pa_nil)))) (pg_tup (by rfl) (pgs_cons (pg_name (i := 3) sc_right.nd rfl (.inl rfl)) (pgs_cons (pg_name (i := 4) sc_right.nd rfl (.inl rfl)) pgs_nil))) (pss_cons (ps_asg (pe_tup (pa_cons (pe_call GR h3 (by rfl) T.g_random_pairing T.F_random_pairing.kp T.b_random_pairing .nil pass0 (pa_cons (pv 0) (pa_cons (pv 3) pa_nil))) (pa_cons (pe_call GR h3 (by rfl) T.g_random_pairing T.F_random_pairing.kp T.b_random_pairing .nil pass0 (pa_cons (pv 0) (pa_cons (pv 4) pa_nil))) pa_nil))) (pg_tup rfl (pgs_cons (pg_name (i := 5) sc_right.nd rfl (.inr rfl)) (pgs_cons (pg_name (i := 6) sc_right.nd rfl (.inr rfl)) pgs_nil)))) <|
      pss_cons (ps_asg (pe_tup (pa_cons (pe_call GR h3 (by rfl) T.g_random_pairing T.F_random_pairing.kp T.b_random_pairing .nil pass0 (pa_cons (pv 0) (pa_cons (pe_op op_mul pe_int (pv 3)) pa_nil))) (pa_cons (pe_call GR h3 (by rfl) T.g_random_pairing T.F_random_pairing.kp T.b_random_pairing .nil pass0 (pa_cons (pv 0) (pa_cons (pe_op op_mul pe_int (pv 4)) pa_nil))) pa_nil))) (pg_tup rfl (pgs_cons (pg_name (i := 7) sc_right.nd rfl (.inr rfl)) (pgs_cons (pg_name (i := 8) sc_right.nd rfl (.inr rfl)) pgs_nil)))) <|
      pss_cons (ps_setLc (i := 9) (own := [("_law_door", 11)]) (g := gName 11) (tt := tYes) (te := tCall (spRef97 K) [] (fun _ _ _ => False) (tCons (tC (.int 0)) (tCons (tVar 11) (tCons (tVar 5) (tCons (tVar 6) tNil))))) rfl sc_right.nd rfl rfl (sw_true rfl rfl rfl (by decide +kernel)) (pi_range1 (by rfl) T.n_range (pa_cons pe_int pa_nil)) (blkOk_by (N := N_right) (sc := defScope s_right) (by decide +kernel)) (fun _ _ _ _ _ => pg_name (i := 11) sc_right.nd rfl (.inl rfl)) (fun _ _ _ _ _ => pts_nil) (fun _ _ _ _ _ => (pe_call GF hr (by rfl) T.g_refused T.F_refused.kp T.b_refused .nil pass0 (pa_cons pe_int (pa_cons (pv 11) (pa_cons (pv 5) (pa_cons (pv 6) pa_nil))))))) <|
      pss_cons (ps_set (i := 9) sc_right.nd rfl (.inl rfl) (pe_op op_cat (pv 9) (pe_lc (own := [("_law_door", 11)]) (g := gName 11) (tt := tYes) (te := tCall (spRef97 K) [] (fun _ _ _ => False) (tCons (tC (.int 1)) (tCons (tVar 11) (tCons (tVar 7) (tCons (tVar 8) tNil))))) (by rfl) sc_right.nd (pi_range1 (by rfl) T.n_range (pa_cons pe_int pa_nil)) (blkOk_by (N := N_right) (sc := defScope s_right) (by decide +kernel)) (fun _ _ _ _ _ => pg_name (i := 11) sc_right.nd rfl (.inl rfl)) (fun _ _ _ _ _ => pts_nil) (fun _ _ _ _ _ => (pe_call GF hr (by rfl) T.g_refused T.F_refused.kp T.b_refused .nil pass0 (pa_cons pe_int (pa_cons (pv 11) (pa_cons (pv 7) (pa_cons (pv 8) pa_nil))))))))) <|
      pss_cons (ps_set (i := 9) sc_right.nd rfl (.inl rfl) (pe_op op_cat (pv 9) (pe_lc (own := [("_law_door", 11)]) (g := gName 11) (tt := tYes) (te := tCall (spRef97 K) [] (fun _ _ _ => False) (tCons (tC (.int 2)) (tCons (tVar 11) (tCons (tVar 7) (tCons (tVar 6) tNil))))) (by rfl) sc_right.nd (pi_range1 (by rfl) T.n_range (pa_cons pe_int pa_nil)) (blkOk_by (N := N_right) (sc := defScope s_right) (by decide +kernel)) (fun _ _ _ _ _ => pg_name (i := 11) sc_right.nd rfl (.inl rfl)) (fun _ _ _ _ _ => pts_nil) (fun _ _ _ _ _ => (pe_call GF hr (by rfl) T.g_refused T.F_refused.kp T.b_refused .nil pass0 (pa_cons pe_int (pa_cons (pv 11) (pa_cons (pv 7) (pa_cons (pv 6) pa_nil))))))))) <|
      pss_cons (ps_if (pt_not (pt_val (pe_call GE h5 (by rfl) T.g_same T.F_same.kp T.b_same .nil pass0 (pa_cons (pv 9) (pa_cons (pe_op op_rep (pe_lst (pa_cons (pv 4) pa_nil)) pe_int) pa_nil))))) (pss_one (ps_ret pe_bl)) pss_nil) <|
      pss_cons (ps_set (i := 10) sc_right.nd rfl (.inl rfl) (pe_make T.mk_Hall GI h2 (by rfl) T.gC_Hall T.b_m_Hall_init .nil pass0 (pa_cons (pv 5) pa_nil))) <|
      pss_one (ps_if (PW.pt (pw_or (pt_cmpR op_ne (pe_call GF hr (by rfl) T.g_refused T.F_refused.kp T.b_refused .nil pass0 (pa_cons pe_int (pa_cons pe_int (pa_cons (pe_meth0 (pv 10) T.cl_Hall T.me_Hall_pairing GHp h1 T.b_m_Hall_pairing .nil pass0) (pa_cons (pv 6) pa_nil))))) (pv 4) (nomark _)) (pw_or1 (pt_cmpR op_ne (pe_meth0 (pv 10) T.cl_Hall T.me_Hall_deeds GHd h1 T.b_m_Hall_deeds .nil pass0) pe_int (nomark _))))) (pss_one (ps_ret pe_bl)) pss_nil))) <|
      pss_one (ps_ret pe_bl), ?_⟩
    refine ⟨_, rfl, b, n + 999, 5, rfl, hB.mono (by omega), by decide, by decide, fun r1 H2 ra3 rb4 hB5 k6 => ?_⟩
    obtain ⟨y_hy7, hy7⟩ := hB.lst
    clear hB
    have hB := hB5
    replace kH := kH.trans k6
    refine ⟨_, _, rfl, rfl, .inl ⟨by omega, by omega⟩, _, _, rfl, rfl, ?_⟩
    have hn : 2 + 2 * r1.toNat ≤ 10 := by omega
    have hn2 : 2 ≤ 2 + 2 * r1.toNat := by omega
    have hev : (2 + 2 * r1.toNat) % 2 = 0 := by omega
    rw [show (fun i j => V.int (i + j)) 2 ((fun i j => i * j) 2 r1) = V.int ((2 + 2 * r1.toNat : Nat) : Int) from congrArg V.int (show (2 + 2 * r1 : Int) = _ by omega)]
    revert hn hn2 hev; generalize 2 + 2 * r1.toNat = N; intro hn hn2 hev
    first | refine st_set [some (.ref b), some (.int (N : Nat)), none, none, none, none, none, none, none, none, none, none] ?_ rfl | refine st_eq [some (.ref b), some (.int (N : Nat)), none, none, none, none, none, none, none, none, none, none] ?_ rfl | refine st_eq (t := tSeq _ _) [some (.ref b), some (.int (N : Nat)), none, none, none, none, none, none, none, none, none, none] ?_ rfl
    refine ⟨_, rfl, _, rfl, _, _, rfl, rfl, _, rfl, _, _, rfl, rfl, (by show 3 ≤ sizeLine; decide), fun lw nlw => ?_⟩
    refine ⟨b, lw, n + 998, _, rfl, (hB.same (same_new nlw)).mono (by omega), (hB.ne_new nlw).symm, upd_same, (by show 0 < 3; decide), (by show 3 ≤ 1000; decide), fun Hw ix vx hvx kw hBw => ?_⟩
    obtain ⟨W, rfl, hw2, hw20, hwe⟩ : ∃ W : Nat, vx = .int (W : Nat) ∧ 2 ≤ W ∧ W ≤ 18 ∧ W % 2 = 0 := by
      have hj : ix < 3 := get_lt hvx
      rcases (show ix = 0 ∨ ix = 1 ∨ ix = 2 by omega) with z | z | z
      · subst z; exact ⟨2, (Option.some.inj hvx).symm.trans (congrArg V.int (show (2 : Int) = ((2 : Nat) : Int) by omega)), by omega, by omega, by omega⟩
      · subst z; exact ⟨N + 2, (Option.some.inj hvx).symm.trans (congrArg V.int (show (N : Int) + 2 = ((N + 2 : Nat) : Int) by omega)), by omega, by omega, by omega⟩
      · subst z; exact ⟨N + 8, (Option.some.inj hvx).symm.trans (congrArg V.int (show (N : Int) + 8 = ((N + 8 : Nat) : Int) by omega)), by omega, by omega, by omega⟩
    clear hvx hB
    have hB := hBw
    replace kH := (kH.trans (Keep.of_same (same_new nlw))).trans kw
    first | refine st_set [some (.ref b), some (.int (N : Nat)), some (.int (W : Nat)), none, none, none, none, none, none, none, none, none] ?_ rfl | refine st_eq [some (.ref b), some (.int (N : Nat)), some (.int (W : Nat)), none, none, none, none, none, none, none, none, none] ?_ rfl | refine st_eq (t := tSeq _ _) [some (.ref b), some (.int (N : Nat)), some (.int (W : Nat)), none, none, none, none, none, none, none, none, none] ?_ rfl
    refine ⟨_, rfl, _, rfl, rfl, _, rfl, ?_⟩
    by_cases cw : W = N
    · skip
      refine iteY (by rw [cw]; exact decide_eq_true rfl) ⟨_, rfl, _, _, rfl, rfl, ?_⟩
      rw [show (fun i j => V.int (i + j)) (N : Int) 2 = V.int ((N + 2 : Nat) : Int) from congrArg V.int (show (N : Int) + 2 = _ by omega)]
      have hu2 : 2 ≤ N + 2 := by omega
      have hu20 : N + 2 ≤ 18 := by omega
      have hue : (N + 2) % 2 = 0 := by omega
      have hun : N + 2 ≠ N := by omega
      clear cw
      revert hu2 hu20 hue hun; generalize N + 2 = U; intro hu2 hu20 hue hun
      refine st_set [some (.ref b), some (.int (N : Nat)), some (.int (U : Nat)), none, none, none, none, none, none, none, none, none] ?_ rfl
      refine ⟨_, rfl, _, rfl, (by show 2 ≤ sizeLine; decide), fun t1 nt1 => ?_⟩
      have s8 : Same Hw (upd Hw t1 (.tup [.int (N : Nat), .int (U : Nat)])) := same_new nt1
      have e_t1 : upd Hw t1 (.tup [.int (N : Nat), .int (U : Nat)]) t1 = some (.tup [.int (N : Nat), .int (U : Nat)]) := upd_same
      revert s8 e_t1; generalize upd Hw t1 (.tup [.int (N : Nat), .int (U : Nat)]) = H9; intro s8 e_t1
      replace hB := hB.same s8
      replace kH := kH.trans (Keep.of_same s8)
      refine ⟨_, rfl, _, rfl, (by show 2 ≤ sizeLine; decide), fun t2 nt2 => ⟨(by show 2 ≤ sizeLine; decide), fun t3 nt3 => ?_⟩⟩
      have e_t3 : upd (upd H9 t2 (.tup [.int (U : Nat), .int (N : Nat)])) t3 (.tup [.ref t1, .ref t2]) t3 = some (.tup [.ref t1, .ref t2]) := upd_same
      have e_t2 := same_new (o := .tup [.ref t1, .ref t2]) nt3 t2 _ upd_same
      have s23 := (same_new (o := .tup [.int (U : Nat), .int (N : Nat)]) nt2).trans (same_new (o := .tup [.ref t1, .ref t2]) nt3)
      revert e_t3 e_t2 s23; generalize upd (upd H9 t2 (.tup [.int (U : Nat), .int (N : Nat)])) t3 (.tup [.ref t1, .ref t2]) = H23; intro e_t3 e_t2 s23
      replace e_t1 := s23 _ _ e_t1
      replace hB := hB.same s23
      replace kH := kH.trans (Keep.of_same s23)
      refine ⟨t3, rfl, ⟨_, .inl (.inl e_t3)⟩, ?_⟩
      refine for_tup (xs := [V.ref t1, V.ref t2]) (fun i σ H' => Keep b H H' ∧ Box (n + (758 + 120 * (2 - i))) H' b ∧ H' t1 = some (.tup [.int (N : Nat), .int (U : Nat)]) ∧ H' t2 = some (.tup [.int (U : Nat), .int (N : Nat)]) ∧ H' t3 = some (.tup [.ref t1, .ref t2]) ∧ ∃ (y_mine y_its y_start y_mate y_page y_other_page y_found y_hall : Option V), σ = [some (.ref b), some (.int (N : Nat)), some (.int (U : Nat)), y_mine, y_its, y_start, y_mate, y_page, y_other_page, y_found, y_hall, none]) ⟨kH, hB.mono (by omega), e_t1, e_t2, e_t3, _, _, _, _, _, _, _, _, rfl⟩ (fun i σ H' _ h => .inl (.inl h.2.2.2.2.1)) (fun i x σ Hi hx hPv => ?_) (fun σ Hi hPv => ?_)
      · clear kH hB e_t1 e_t2 e_t3
        obtain ⟨kH, hB, e_t1, e_t2, e_t3, y_mine, y_its, y_start, y_mate, y_page, y_other_page, y_found, y_hall, rfl⟩ := hPv
        have hi2 : i < 2 := get_lt hx
        obtain ⟨m, hm⟩ : ∃ z, z = n + (758 + 120 * (2 - (i + 1))) := ⟨_, rfl⟩
        replace hB : Box (m + 120) Hi b := hB.mono (by omega)
        obtain ⟨u, An, Bn, rfl, e_u, hAB, hA1, hA2, hB1, hB2⟩ : ∃ (u : Addr) (An Bn : Nat), x = .ref u ∧ Hi u = some (.tup [.int (An : Nat), .int (Bn : Nat)]) ∧ An ≠ Bn ∧ An % 2 = 0 ∧ An ≤ 18 ∧ Bn % 2 = 0 ∧ Bn ≤ 18 := by
          rcases (show i = 0 ∨ i = 1 by omega) with z | z
          · subst z; exact ⟨t1, N, U, (Option.some.inj hx).symm, e_t1, by omega, by omega, by omega, by omega, by omega⟩
          · subst z; exact ⟨t2, U, N, (Option.some.inj hx).symm, e_t2, by omega, by omega, by omega, by omega, by omega⟩
        have hABs : An + Bn ≤ 28 := by
          rcases (show i = 0 ∨ i = 1 by omega) with z | z
          · subst z
            have e := Option.some.inj hx
            cases e
            rw [e_t1] at e_u
            have e' := HO.tup.inj (Option.some.inj e_u)
            injection e' with e1 e2
            injection e2 with e2 e3
            have := V.int.inj e1
            have := V.int.inj e2
            omega
          · subst z
            have e := Option.some.inj hx
            cases e
            rw [e_t2] at e_u
            have e' := HO.tup.inj (Option.some.inj e_u)
            injection e' with e1 e2
            injection e2 with e2 e3
            have := V.int.inj e1
            have := V.int.inj e2
            omega
        refine ⟨u, _, rfl, .inl (.inl e_u), rfl, _, _, rfl, _, _, rfl, rfl, ?_⟩
        refine ⟨_, rfl, _, rfl, b, m + (36 + (84 - An)), An, rfl, hB.mono (by omega), by omega, by omega, fun H10 t11 ps12 hp13 k14 hB15 n16 e_t11 => ?_⟩
        obtain ⟨y_hy17, hy17⟩ := hB.lst
        replace e_t1 := k14.tup hy17 e_t1
        replace e_t2 := k14.tup hy17 e_t2
        replace e_t3 := k14.tup hy17 e_t3
        clear hB
        have hB := hB15
        replace kH := kH.trans k14
        refine ⟨_, rfl, _, rfl, b, m + (36 + (84 - An - Bn)), Bn, rfl, hB.mono (by omega), by omega, by omega, fun H18 t19 ps20 hp21 k22 hB23 n24 e_t19 => ?_⟩
        obtain ⟨y_hy25, hy25⟩ := hB.lst
        replace e_t1 := k22.tup hy25 e_t1
        replace e_t2 := k22.tup hy25 e_t2
        replace e_t3 := k22.tup hy25 e_t3
        replace e_t11 := k22.tup hy25 e_t11
        clear hB
        have hB := hB23
        replace kH := kH.trans k22
        refine ⟨(by show 2 ≤ sizeLine; decide), fun l26 nl26 => ?_⟩
        have s27 : Same H18 (upd H18 l26 (.tup [.ref t11, .ref t19])) := same_new nl26
        have e_l26 : upd H18 l26 (.tup [.ref t11, .ref t19]) l26 = some (.tup [.ref t11, .ref t19]) := upd_same
        revert s27 e_l26; generalize upd H18 l26 (.tup [.ref t11, .ref t19]) = H28; intro s27 e_l26
        replace e_t1 := s27 _ _ e_t1
        replace e_t2 := s27 _ _ e_t2
        replace e_t3 := s27 _ _ e_t3
        replace e_t11 := s27 _ _ e_t11
        replace e_t19 := s27 _ _ e_t19
        replace hB := hB.same s27
        replace kH := kH.trans (Keep.of_same s27)
        refine ⟨l26, _, rfl, .inl (.inl e_l26), rfl, _, _, rfl, _, _, rfl, rfl, ?_⟩
        first | refine st_set [some (.ref b), some (.int (N : Nat)), some (.int (U : Nat)), some (.int (An : Nat)), some (.int (Bn : Nat)), some (.ref t11), some (.ref t19), y_page, y_other_page, y_found, y_hall, none] ?_ rfl | refine st_eq [some (.ref b), some (.int (N : Nat)), some (.int (U : Nat)), some (.int (An : Nat)), some (.int (Bn : Nat)), some (.ref t11), some (.ref t19), y_page, y_other_page, y_found, y_hall, none] ?_ rfl | refine st_eq (t := tSeq _ _) [some (.ref b), some (.int (N : Nat)), some (.int (U : Nat)), some (.int (An : Nat)), some (.int (Bn : Nat)), some (.ref t11), some (.ref t19), y_page, y_other_page, y_found, y_hall, none] ?_ rfl
        refine ⟨_, rfl, _, rfl, 2, _, rfl, rfl, .inl ⟨by decide, by decide⟩, b, m + (36 + (84 - An - Bn - 2 * An)), (2 * An), rfl, hB.mono (by omega), by omega, by omega, fun H29 t30 ps31 hp32 k33 hB34 n35 e_t30 => ?_⟩
        obtain ⟨y_hy36, hy36⟩ := hB.lst
        replace e_t1 := k33.tup hy36 e_t1
        replace e_t2 := k33.tup hy36 e_t2
        replace e_t3 := k33.tup hy36 e_t3
        replace e_t11 := k33.tup hy36 e_t11
        replace e_t19 := k33.tup hy36 e_t19
        clear hB
        have hB := hB34
        replace kH := kH.trans k33
        refine ⟨_, rfl, _, rfl, 2, _, rfl, rfl, .inl ⟨by decide, by decide⟩, b, m + (36 + (84 - An - Bn - 2 * An - 2 * Bn)), (2 * Bn), rfl, hB.mono (by omega), by omega, by omega, fun H37 t38 ps39 hp40 k41 hB42 n43 e_t38 => ?_⟩
        obtain ⟨y_hy44, hy44⟩ := hB.lst
        replace e_t1 := k41.tup hy44 e_t1
        replace e_t2 := k41.tup hy44 e_t2
        replace e_t3 := k41.tup hy44 e_t3
        replace e_t11 := k41.tup hy44 e_t11
        replace e_t19 := k41.tup hy44 e_t19
        replace e_t30 := k41.tup hy44 e_t30
        clear hB
        have hB := hB42
        replace kH := kH.trans k41
        refine ⟨(by show 2 ≤ sizeLine; decide), fun l45 nl45 => ?_⟩
        have s46 : Same H37 (upd H37 l45 (.tup [.ref t30, .ref t38])) := same_new nl45
        have e_l45 : upd H37 l45 (.tup [.ref t30, .ref t38]) l45 = some (.tup [.ref t30, .ref t38]) := upd_same
        revert s46 e_l45; generalize upd H37 l45 (.tup [.ref t30, .ref t38]) = H47; intro s46 e_l45
        replace e_t1 := s46 _ _ e_t1
        replace e_t2 := s46 _ _ e_t2
        replace e_t3 := s46 _ _ e_t3
        replace e_t11 := s46 _ _ e_t11
        replace e_t19 := s46 _ _ e_t19
        replace e_t30 := s46 _ _ e_t30
        replace e_t38 := s46 _ _ e_t38
        replace hB := hB.same s46
        replace kH := kH.trans (Keep.of_same s46)
        refine ⟨l45, _, rfl, .inl (.inl e_l45), rfl, _, _, rfl, _, _, rfl, rfl, ?_⟩
        first | refine st_set [some (.ref b), some (.int (N : Nat)), some (.int (U : Nat)), some (.int (An : Nat)), some (.int (Bn : Nat)), some (.ref t11), some (.ref t19), some (.ref t30), some (.ref t38), y_found, y_hall, none] ?_ rfl | refine st_eq [some (.ref b), some (.int (N : Nat)), some (.int (U : Nat)), some (.int (An : Nat)), some (.int (Bn : Nat)), some (.ref t11), some (.ref t19), some (.ref t30), some (.ref t38), y_found, y_hall, none] ?_ rfl | refine st_eq (t := tSeq _ _) [some (.ref b), some (.int (N : Nat)), some (.int (U : Nat)), some (.int (An : Nat)), some (.int (Bn : Nat)), some (.ref t11), some (.ref t19), some (.ref t30), some (.ref t38), y_found, y_hall, none] ?_ rfl
        refine ⟨7, rfl, by decide, by decide, fun D48 nD48 => ?_⟩
        refine lc_range (n := 7) (fun i H' => Same H47 H' ∧ H' D48 = some (.lst (List.replicate i (.int (Bn : Nat))))) ⟨same_new nD48, upd_same⟩ (fun i H' hi hPv => ?_) (fun H' hPv => ?_)
        · obtain ⟨sm, eD⟩ := hPv
          refine ⟨rfl, yes_if ⟨_, rfl, _, rfl, _, rfl, 0, (0 : Int) + (i : Nat), t11, t19, ps12, ps20, An, Bn, rfl, .inl (.inl (sm _ _ e_t11)), .inl (.inl (sm _ _ e_t19)), hAB, .inl ⟨rfl, by omega, by omega, hp13.len, hp21.len⟩, fun H6 s6 => ⟨_, s6 _ _ eD, ?_, fun z o hz => ?_, ?_⟩⟩⟩
          · rw [List.length_replicate]; exact small1000 (by omega)
          · rw [upd_ne (ne_of_none hz nD48)]; exact s6 _ _ (sm _ _ hz)
          · rw [upd_same, List.replicate_succ']
        obtain ⟨s49, e_D48⟩ := hPv
        replace e_D48 : H' D48 = some (.lst [.int (Bn : Nat), .int (Bn : Nat), .int (Bn : Nat), .int (Bn : Nat), .int (Bn : Nat), .int (Bn : Nat), .int (Bn : Nat)]) := e_D48
        revert s49 e_D48; generalize H' = H50; intro s49 e_D48
        have ne_D48 : D48 ≠ b := (hB.ne_new nD48).symm
        replace e_t1 := s49 _ _ e_t1
        replace e_t2 := s49 _ _ e_t2
        replace e_t3 := s49 _ _ e_t3
        replace e_t11 := s49 _ _ e_t11
        replace e_t19 := s49 _ _ e_t19
        replace e_t30 := s49 _ _ e_t30
        replace e_t38 := s49 _ _ e_t38
        replace hB := hB.same s49
        replace kH := kH.trans (Keep.of_same s49)
        first | refine st_set [some (.ref b), some (.int (N : Nat)), some (.int (U : Nat)), some (.int (An : Nat)), some (.int (Bn : Nat)), some (.ref t11), some (.ref t19), some (.ref t30), some (.ref t38), some (.ref D48), y_hall, none] ?_ rfl | refine st_eq [some (.ref b), some (.int (N : Nat)), some (.int (U : Nat)), some (.int (An : Nat)), some (.int (Bn : Nat)), some (.ref t11), some (.ref t19), some (.ref t30), some (.ref t38), some (.ref D48), y_hall, none] ?_ rfl | refine st_eq (t := tSeq _ _) [some (.ref b), some (.int (N : Nat)), some (.int (U : Nat)), some (.int (An : Nat)), some (.int (Bn : Nat)), some (.ref t11), some (.ref t19), some (.ref t30), some (.ref t38), some (.ref D48), y_hall, none] ?_ rfl
        refine ⟨_, rfl, 4, rfl, by decide, by decide, fun D51 nD51 => ?_⟩
        refine lc_range (n := 4) (fun i H' => Same H50 H' ∧ H' D51 = some (.lst (List.replicate i (.int (Bn : Nat))))) ⟨same_new nD51, upd_same⟩ (fun i H' hi hPv => ?_) (fun H' hPv => ?_)
        · obtain ⟨sm, eD⟩ := hPv
          refine ⟨rfl, yes_if ⟨_, rfl, _, rfl, _, rfl, 1, (0 : Int) + (i : Nat), t30, t38, ps31, ps39, An, Bn, rfl, .inl (.inl (sm _ _ e_t30)), .inl (.inl (sm _ _ e_t38)), hAB, .inr (.inl ⟨rfl, by omega, by omega, hp32.len, hp40.len⟩), fun H6 s6 => ⟨_, s6 _ _ eD, ?_, fun z o hz => ?_, ?_⟩⟩⟩
          · rw [List.length_replicate]; exact small1000 (by omega)
          · rw [upd_ne (ne_of_none hz nD51)]; exact s6 _ _ (sm _ _ hz)
          · rw [upd_same, List.replicate_succ']
        obtain ⟨s52, e_D51⟩ := hPv
        replace e_D51 : H' D51 = some (.lst [.int (Bn : Nat), .int (Bn : Nat), .int (Bn : Nat), .int (Bn : Nat)]) := e_D51
        revert s52 e_D51; generalize H' = H53; intro s52 e_D51
        have ne_D51 : D51 ≠ b := (hB.ne_new nD51).symm
        replace e_t1 := s52 _ _ e_t1
        replace e_t2 := s52 _ _ e_t2
        replace e_t3 := s52 _ _ e_t3
        replace e_t11 := s52 _ _ e_t11
        replace e_t19 := s52 _ _ e_t19
        replace e_t30 := s52 _ _ e_t30
        replace e_t38 := s52 _ _ e_t38
        replace e_D48 := s52 _ _ e_D48
        replace hB := hB.same s52
        replace kH := kH.trans (Keep.of_same s52)
        refine ⟨D48, D51, _, _, rfl, rfl, e_D48, e_D51, (by show 7 + 4 ≤ sizeLine; decide), fun l54 nl54 => ?_⟩
        rw [show ([V.int (Bn : Nat), V.int (Bn : Nat), V.int (Bn : Nat), V.int (Bn : Nat), V.int (Bn : Nat), V.int (Bn : Nat), V.int (Bn : Nat)] : List V) ++ [V.int (Bn : Nat), V.int (Bn : Nat), V.int (Bn : Nat), V.int (Bn : Nat)] = [V.int (Bn : Nat), V.int (Bn : Nat), V.int (Bn : Nat), V.int (Bn : Nat), V.int (Bn : Nat), V.int (Bn : Nat), V.int (Bn : Nat), V.int (Bn : Nat), V.int (Bn : Nat), V.int (Bn : Nat), V.int (Bn : Nat)] from rfl]
        have ne_l54 : l54 ≠ b := (hB.ne_new nl54).symm
        have s55 : Same H53 (upd H53 l54 (.lst [.int (Bn : Nat), .int (Bn : Nat), .int (Bn : Nat), .int (Bn : Nat), .int (Bn : Nat), .int (Bn : Nat), .int (Bn : Nat), .int (Bn : Nat), .int (Bn : Nat), .int (Bn : Nat), .int (Bn : Nat)])) := same_new nl54
        have e_l54 : upd H53 l54 (.lst [.int (Bn : Nat), .int (Bn : Nat), .int (Bn : Nat), .int (Bn : Nat), .int (Bn : Nat), .int (Bn : Nat), .int (Bn : Nat), .int (Bn : Nat), .int (Bn : Nat), .int (Bn : Nat), .int (Bn : Nat)]) l54 = some (.lst [.int (Bn : Nat), .int (Bn : Nat), .int (Bn : Nat), .int (Bn : Nat), .int (Bn : Nat), .int (Bn : Nat), .int (Bn : Nat), .int (Bn : Nat), .int (Bn : Nat), .int (Bn : Nat), .int (Bn : Nat)]) := upd_same
        revert s55 e_l54; generalize upd H53 l54 (.lst [.int (Bn : Nat), .int (Bn : Nat), .int (Bn : Nat), .int (Bn : Nat), .int (Bn : Nat), .int (Bn : Nat), .int (Bn : Nat), .int (Bn : Nat), .int (Bn : Nat), .int (Bn : Nat), .int (Bn : Nat)]) = H56; intro s55 e_l54
        replace e_t1 := s55 _ _ e_t1
        replace e_t2 := s55 _ _ e_t2
        replace e_t3 := s55 _ _ e_t3
        replace e_t11 := s55 _ _ e_t11
        replace e_t19 := s55 _ _ e_t19
        replace e_t30 := s55 _ _ e_t30
        replace e_t38 := s55 _ _ e_t38
        replace e_D48 := s55 _ _ e_D48
        replace e_D51 := s55 _ _ e_D51
        replace hB := hB.same s55
        replace kH := kH.trans (Keep.of_same s55)
        first | refine st_set [some (.ref b), some (.int (N : Nat)), some (.int (U : Nat)), some (.int (An : Nat)), some (.int (Bn : Nat)), some (.ref t11), some (.ref t19), some (.ref t30), some (.ref t38), some (.ref l54), y_hall, none] ?_ rfl | refine st_eq [some (.ref b), some (.int (N : Nat)), some (.int (U : Nat)), some (.int (An : Nat)), some (.int (Bn : Nat)), some (.ref t11), some (.ref t19), some (.ref t30), some (.ref t38), some (.ref l54), y_hall, none] ?_ rfl | refine st_eq (t := tSeq _ _) [some (.ref b), some (.int (N : Nat)), some (.int (U : Nat)), some (.int (An : Nat)), some (.int (Bn : Nat)), some (.ref t11), some (.ref t19), some (.ref t30), some (.ref t38), some (.ref l54), y_hall, none] ?_ rfl
        refine ⟨_, rfl, 9, rfl, by decide, by decide, fun D57 nD57 => ?_⟩
        refine lc_range (n := 9) (fun i H' => Same H56 H' ∧ H' D57 = some (.lst (List.replicate i (.int (Bn : Nat))))) ⟨same_new nD57, upd_same⟩ (fun i H' hi hPv => ?_) (fun H' hPv => ?_)
        · obtain ⟨sm, eD⟩ := hPv
          refine ⟨rfl, yes_if ⟨_, rfl, _, rfl, _, rfl, 2, (0 : Int) + (i : Nat), t30, t19, ps31, ps20, An, Bn, rfl, .inl (.inl (sm _ _ e_t30)), .inl (.inl (sm _ _ e_t19)), hAB, .inr (.inr ⟨rfl, by omega, by omega, hp32.len, hp21.len⟩), fun H6 s6 => ⟨_, s6 _ _ eD, ?_, fun z o hz => ?_, ?_⟩⟩⟩
          · rw [List.length_replicate]; exact small1000 (by omega)
          · rw [upd_ne (ne_of_none hz nD57)]; exact s6 _ _ (sm _ _ hz)
          · rw [upd_same, List.replicate_succ']
        obtain ⟨s58, e_D57⟩ := hPv
        replace e_D57 : H' D57 = some (.lst [.int (Bn : Nat), .int (Bn : Nat), .int (Bn : Nat), .int (Bn : Nat), .int (Bn : Nat), .int (Bn : Nat), .int (Bn : Nat), .int (Bn : Nat), .int (Bn : Nat)]) := e_D57
        revert s58 e_D57; generalize H' = H59; intro s58 e_D57
        have ne_D57 : D57 ≠ b := (hB.ne_new nD57).symm
        replace e_t1 := s58 _ _ e_t1
        replace e_t2 := s58 _ _ e_t2
        replace e_t3 := s58 _ _ e_t3
        replace e_t11 := s58 _ _ e_t11
        replace e_t19 := s58 _ _ e_t19
        replace e_t30 := s58 _ _ e_t30
        replace e_t38 := s58 _ _ e_t38
        replace e_l54 := s58 _ _ e_l54
        replace hB := hB.same s58
        replace kH := kH.trans (Keep.of_same s58)
        refine ⟨l54, D57, _, _, rfl, rfl, e_l54, e_D57, (by show 11 + 9 ≤ sizeLine; decide), fun l60 nl60 => ?_⟩
        rw [show ([V.int (Bn : Nat), V.int (Bn : Nat), V.int (Bn : Nat), V.int (Bn : Nat), V.int (Bn : Nat), V.int (Bn : Nat), V.int (Bn : Nat), V.int (Bn : Nat), V.int (Bn : Nat), V.int (Bn : Nat), V.int (Bn : Nat)] : List V) ++ [V.int (Bn : Nat), V.int (Bn : Nat), V.int (Bn : Nat), V.int (Bn : Nat), V.int (Bn : Nat), V.int (Bn : Nat), V.int (Bn : Nat), V.int (Bn : Nat), V.int (Bn : Nat)] = [V.int (Bn : Nat), V.int (Bn : Nat), V.int (Bn : Nat), V.int (Bn : Nat), V.int (Bn : Nat), V.int (Bn : Nat), V.int (Bn : Nat), V.int (Bn : Nat), V.int (Bn : Nat), V.int (Bn : Nat), V.int (Bn : Nat), V.int (Bn : Nat), V.int (Bn : Nat), V.int (Bn : Nat), V.int (Bn : Nat), V.int (Bn : Nat), V.int (Bn : Nat), V.int (Bn : Nat), V.int (Bn : Nat), V.int (Bn : Nat)] from rfl]
        have ne_l60 : l60 ≠ b := (hB.ne_new nl60).symm
        have s61 : Same H59 (upd H59 l60 (.lst [.int (Bn : Nat), .int (Bn : Nat), .int (Bn : Nat), .int (Bn : Nat), .int (Bn : Nat), .int (Bn : Nat), .int (Bn : Nat), .int (Bn : Nat), .int (Bn : Nat), .int (Bn : Nat), .int (Bn : Nat), .int (Bn : Nat), .int (Bn : Nat), .int (Bn : Nat), .int (Bn : Nat), .int (Bn : Nat), .int (Bn : Nat), .int (Bn : Nat), .int (Bn : Nat), .int (Bn : Nat)])) := same_new nl60
        have e_l60 : upd H59 l60 (.lst [.int (Bn : Nat), .int (Bn : Nat), .int (Bn : Nat), .int (Bn : Nat), .int (Bn : Nat), .int (Bn : Nat), .int (Bn : Nat), .int (Bn : Nat), .int (Bn : Nat), .int (Bn : Nat), .int (Bn : Nat), .int (Bn : Nat), .int (Bn : Nat), .int (Bn : Nat), .int (Bn : Nat), .int (Bn : Nat), .int (Bn : Nat), .int (Bn : Nat), .int (Bn : Nat), .int (Bn : Nat)]) l60 = some (.lst [.int (Bn : Nat), .int (Bn : Nat), .int (Bn : Nat), .int (Bn : Nat), .int (Bn : Nat), .int (Bn : Nat), .int (Bn : Nat), .int (Bn : Nat), .int (Bn : Nat), .int (Bn : Nat), .int (Bn : Nat), .int (Bn : Nat), .int (Bn : Nat), .int (Bn : Nat), .int (Bn : Nat), .int (Bn : Nat), .int (Bn : Nat), .int (Bn : Nat), .int (Bn : Nat), .int (Bn : Nat)]) := upd_same
        revert s61 e_l60; generalize upd H59 l60 (.lst [.int (Bn : Nat), .int (Bn : Nat), .int (Bn : Nat), .int (Bn : Nat), .int (Bn : Nat), .int (Bn : Nat), .int (Bn : Nat), .int (Bn : Nat), .int (Bn : Nat), .int (Bn : Nat), .int (Bn : Nat), .int (Bn : Nat), .int (Bn : Nat), .int (Bn : Nat), .int (Bn : Nat), .int (Bn : Nat), .int (Bn : Nat), .int (Bn : Nat), .int (Bn : Nat), .int (Bn : Nat)]) = H62; intro s61 e_l60
        replace e_t1 := s61 _ _ e_t1
        replace e_t2 := s61 _ _ e_t2
        replace e_t3 := s61 _ _ e_t3
        replace e_t11 := s61 _ _ e_t11
        replace e_t19 := s61 _ _ e_t19
        replace e_t30 := s61 _ _ e_t30
        replace e_t38 := s61 _ _ e_t38
        replace e_l54 := s61 _ _ e_l54
        replace e_D57 := s61 _ _ e_D57
        replace hB := hB.same s61
        replace kH := kH.trans (Keep.of_same s61)
        first | refine st_set [some (.ref b), some (.int (N : Nat)), some (.int (U : Nat)), some (.int (An : Nat)), some (.int (Bn : Nat)), some (.ref t11), some (.ref t19), some (.ref t30), some (.ref t38), some (.ref l60), y_hall, none] ?_ rfl | refine st_eq [some (.ref b), some (.int (N : Nat)), some (.int (U : Nat)), some (.int (An : Nat)), some (.int (Bn : Nat)), some (.ref t11), some (.ref t19), some (.ref t30), some (.ref t38), some (.ref l60), y_hall, none] ?_ rfl | refine st_eq (t := tSeq _ _) [some (.ref b), some (.int (N : Nat)), some (.int (U : Nat)), some (.int (An : Nat)), some (.int (Bn : Nat)), some (.ref t11), some (.ref t19), some (.ref t30), some (.ref t38), some (.ref l60), y_hall, none] ?_ rfl
        refine ⟨_, rfl, _, rfl, (by show 1 ≤ sizeLine; decide), fun l63 nl63 => ?_⟩
        have ne_l63 : l63 ≠ b := (hB.ne_new nl63).symm
        have s64 : Same H62 (upd H62 l63 (.lst [.int (Bn : Nat)])) := same_new nl63
        have e_l63 : upd H62 l63 (.lst [.int (Bn : Nat)]) l63 = some (.lst [.int (Bn : Nat)]) := upd_same
        revert s64 e_l63; generalize upd H62 l63 (.lst [.int (Bn : Nat)]) = H65; intro s64 e_l63
        replace e_t1 := s64 _ _ e_t1
        replace e_t2 := s64 _ _ e_t2
        replace e_t3 := s64 _ _ e_t3
        replace e_t11 := s64 _ _ e_t11
        replace e_t19 := s64 _ _ e_t19
        replace e_t30 := s64 _ _ e_t30
        replace e_t38 := s64 _ _ e_t38
        replace e_l60 := s64 _ _ e_l60
        replace hB := hB.same s64
        replace kH := kH.trans (Keep.of_same s64)
        refine ⟨l63, 20, _, rfl, rfl, e_l63, by decide, by decide, (by show 1 * 20 ≤ sizeLine; decide), fun l66 nl66 => ?_⟩
        rw [show (List.replicate (Int.toNat 20) [V.int (Bn : Nat)]).flatten = [V.int (Bn : Nat), V.int (Bn : Nat), V.int (Bn : Nat), V.int (Bn : Nat), V.int (Bn : Nat), V.int (Bn : Nat), V.int (Bn : Nat), V.int (Bn : Nat), V.int (Bn : Nat), V.int (Bn : Nat), V.int (Bn : Nat), V.int (Bn : Nat), V.int (Bn : Nat), V.int (Bn : Nat), V.int (Bn : Nat), V.int (Bn : Nat), V.int (Bn : Nat), V.int (Bn : Nat), V.int (Bn : Nat), V.int (Bn : Nat)] from rfl]
        have ne_l66 : l66 ≠ b := (hB.ne_new nl66).symm
        have s67 : Same H65 (upd H65 l66 (.lst [.int (Bn : Nat), .int (Bn : Nat), .int (Bn : Nat), .int (Bn : Nat), .int (Bn : Nat), .int (Bn : Nat), .int (Bn : Nat), .int (Bn : Nat), .int (Bn : Nat), .int (Bn : Nat), .int (Bn : Nat), .int (Bn : Nat), .int (Bn : Nat), .int (Bn : Nat), .int (Bn : Nat), .int (Bn : Nat), .int (Bn : Nat), .int (Bn : Nat), .int (Bn : Nat), .int (Bn : Nat)])) := same_new nl66
        have e_l66 : upd H65 l66 (.lst [.int (Bn : Nat), .int (Bn : Nat), .int (Bn : Nat), .int (Bn : Nat), .int (Bn : Nat), .int (Bn : Nat), .int (Bn : Nat), .int (Bn : Nat), .int (Bn : Nat), .int (Bn : Nat), .int (Bn : Nat), .int (Bn : Nat), .int (Bn : Nat), .int (Bn : Nat), .int (Bn : Nat), .int (Bn : Nat), .int (Bn : Nat), .int (Bn : Nat), .int (Bn : Nat), .int (Bn : Nat)]) l66 = some (.lst [.int (Bn : Nat), .int (Bn : Nat), .int (Bn : Nat), .int (Bn : Nat), .int (Bn : Nat), .int (Bn : Nat), .int (Bn : Nat), .int (Bn : Nat), .int (Bn : Nat), .int (Bn : Nat), .int (Bn : Nat), .int (Bn : Nat), .int (Bn : Nat), .int (Bn : Nat), .int (Bn : Nat), .int (Bn : Nat), .int (Bn : Nat), .int (Bn : Nat), .int (Bn : Nat), .int (Bn : Nat)]) := upd_same
        revert s67 e_l66; generalize upd H65 l66 (.lst [.int (Bn : Nat), .int (Bn : Nat), .int (Bn : Nat), .int (Bn : Nat), .int (Bn : Nat), .int (Bn : Nat), .int (Bn : Nat), .int (Bn : Nat), .int (Bn : Nat), .int (Bn : Nat), .int (Bn : Nat), .int (Bn : Nat), .int (Bn : Nat), .int (Bn : Nat), .int (Bn : Nat), .int (Bn : Nat), .int (Bn : Nat), .int (Bn : Nat), .int (Bn : Nat), .int (Bn : Nat)]) = H68; intro s67 e_l66
        replace e_t1 := s67 _ _ e_t1
        replace e_t2 := s67 _ _ e_t2
        replace e_t3 := s67 _ _ e_t3
        replace e_t11 := s67 _ _ e_t11
        replace e_t19 := s67 _ _ e_t19
        replace e_t30 := s67 _ _ e_t30
        replace e_t38 := s67 _ _ e_t38
        replace e_l60 := s67 _ _ e_l60
        replace e_l63 := s67 _ _ e_l63
        replace hB := hB.same s67
        replace kH := kH.trans (Keep.of_same s67)
        have fk69 : Fi 1 (.list [.int ((Bn : Nat)), .int ((Bn : Nat)), .int ((Bn : Nat)), .int ((Bn : Nat)), .int ((Bn : Nat)), .int ((Bn : Nat)), .int ((Bn : Nat)), .int ((Bn : Nat)), .int ((Bn : Nat)), .int ((Bn : Nat)), .int ((Bn : Nat)), .int ((Bn : Nat)), .int ((Bn : Nat)), .int ((Bn : Nat)), .int ((Bn : Nat)), .int ((Bn : Nat)), .int ((Bn : Nat)), .int ((Bn : Nat)), .int ((Bn : Nat)), .int ((Bn : Nat))]) := fi_list (j := 0) (n := 20) (fa_cons (fi_int (by omega)) (fa_cons (fi_int (by omega)) (fa_cons (fi_int (by omega)) (fa_cons (fi_int (by omega)) (fa_cons (fi_int (by omega)) (fa_cons (fi_int (by omega)) (fa_cons (fi_int (by omega)) (fa_cons (fi_int (by omega)) (fa_cons (fi_int (by omega)) (fa_cons (fi_int (by omega)) (fa_cons (fi_int (by omega)) (fa_cons (fi_int (by omega)) (fa_cons (fi_int (by omega)) (fa_cons (fi_int (by omega)) (fa_cons (fi_int (by omega)) (fa_cons (fi_int (by omega)) (fa_cons (fi_int (by omega)) (fa_cons (fi_int (by omega)) (fa_cons (fi_int (by omega)) (fa_cons (fi_int (by omega)) fa_nil)))))))))))))))))))) rfl (by decide)
        refine ⟨_, _, _, rfl, .lst (.inl (.inl e_l60)) (.cons (.int _) (.cons (.int _) (.cons (.int _) (.cons (.int _) (.cons (.int _) (.cons (.int _) (.cons (.int _) (.cons (.int _) (.cons (.int _) (.cons (.int _) (.cons (.int _) (.cons (.int _) (.cons (.int _) (.cons (.int _) (.cons (.int _) (.cons (.int _) (.cons (.int _) (.cons (.int _) (.cons (.int _) (.cons (.int _) .nil)))))))))))))))))))), .lst (.inl (.inl e_l66)) (.cons (.int _) (.cons (.int _) (.cons (.int _) (.cons (.int _) (.cons (.int _) (.cons (.int _) (.cons (.int _) (.cons (.int _) (.cons (.int _) (.cons (.int _) (.cons (.int _) (.cons (.int _) (.cons (.int _) (.cons (.int _) (.cons (.int _) (.cons (.int _) (.cons (.int _) (.cons (.int _) (.cons (.int _) (.cons (.int _) .nil)))))))))))))))))))), Nat.lt_succ_of_le (Nat.le_trans fk69.depth (by decide)), fk69.nar, fun H70 s71 => ?_⟩
        replace e_t1 := s71 _ _ e_t1
        replace e_t2 := s71 _ _ e_t2
        replace e_t3 := s71 _ _ e_t3
        replace e_t11 := s71 _ _ e_t11
        replace e_t19 := s71 _ _ e_t19
        replace e_t30 := s71 _ _ e_t30
        replace e_t38 := s71 _ _ e_t38
        replace e_l60 := s71 _ _ e_l60
        replace e_l63 := s71 _ _ e_l63
        replace e_l66 := s71 _ _ e_l66
        replace hB := hB.same s71
        replace kH := kH.trans (Keep.of_same s71)
        refine ⟨true, rfl, iteN ?_⟩
        refine ⟨_, rfl, fun xh dx nx ndx nex => ?_⟩
        have s0 : Same H70 (upd (upd H70 dx (.own xh)) xh (.ins T.C_Hall dx [])) := fun y o e => by rw [upd_ne (ne_of_none e nx), upd_ne (ne_of_none e ndx)]; exact e
        refine ⟨xh, dx, t11, nv ps12, rfl, upd_same, .inl (.inl (s0 _ _ e_t11)), fun Hh k1 hHall => ⟨rfl, ?_⟩⟩
        have s1 : Same H70 Hh := fun y o e => k1 y o (ne_of_none e nx) (s0 y o e)
        clear k1 s0
        replace e_t1 := s1 _ _ e_t1
        replace e_t2 := s1 _ _ e_t2
        replace e_t3 := s1 _ _ e_t3
        replace e_t11 := s1 _ _ e_t11
        replace e_t19 := s1 _ _ e_t19
        replace e_t30 := s1 _ _ e_t30
        replace e_t38 := s1 _ _ e_t38
        replace hB := hB.same s1
        replace kH := kH.trans (Keep.of_same s1)
        first | refine st_set [some (.ref b), some (.int (N : Nat)), some (.int (U : Nat)), some (.int (An : Nat)), some (.int (Bn : Nat)), some (.ref t11), some (.ref t19), some (.ref t30), some (.ref t38), some (.ref l60), some (.ref xh), none] ?_ rfl | refine st_eq [some (.ref b), some (.int (N : Nat)), some (.int (U : Nat)), some (.int (An : Nat)), some (.int (Bn : Nat)), some (.ref t11), some (.ref t19), some (.ref t30), some (.ref t38), some (.ref l60), some (.ref xh), none] ?_ rfl | refine st_eq (t := tSeq _ _) [some (.ref b), some (.int (N : Nat)), some (.int (U : Nat)), some (.int (An : Nat)), some (.int (Bn : Nat)), some (.ref t11), some (.ref t19), some (.ref t30), some (.ref t38), some (.ref l60), some (.ref xh), none] ?_ rfl
        obtain ⟨dh, ph, qh, uh, g1, g2, g3⟩ := id hHall
        refine ⟨_, rfl, xh, dh, _, rfl, g1, hfl_no _ _ (by decide +kernel) (by decide +kernel), xh, t11, rfl, hHall, _, rfl, 0, 6, t11, t19, ps12, ps20, An, Bn, rfl, .inl (.inl e_t11), .inl (.inl e_t19), hAB, .inl ⟨rfl, by decide, by decide, hp13.len, hp21.len⟩, fun Hq sq => ?_⟩
        replace e_t1 := sq _ _ e_t1
        replace e_t2 := sq _ _ e_t2
        replace e_t3 := sq _ _ e_t3
        replace e_t11 := sq _ _ e_t11
        replace e_t19 := sq _ _ e_t19
        replace e_t30 := sq _ _ e_t30
        replace e_t38 := sq _ _ e_t38
        replace hB := hB.same sq
        replace kH := kH.trans (Keep.of_same sq)
        replace hHall := hHall.same sq
        replace g1 := sq _ _ g1
        refine ⟨_, rfl, rfl, _, rfl, iteX (fi_same rfl) ?_⟩
        refine ⟨_, rfl, xh, dh, _, rfl, g1, hfl_no _ _ (by decide +kernel) (by decide +kernel), xh, t11, rfl, hHall, rfl, _, rfl, iteX (fi_same rfl) ?_⟩
        exact ⟨kH, hB.mono (by omega), e_t1, e_t2, e_t3, _, _, _, _, _, _, _, _, rfl⟩
      clear kH hB e_t1 e_t2 e_t3
      obtain ⟨kH, hB, e_t1, e_t2, e_t3, y_mine, y_its, y_start, y_mate, y_page, y_other_page, y_found, y_hall, rfl⟩ := hPv
      exact q _ kH (hB.mono (by omega))
    · skip
      refine iteX (decide_eq_false (fun z => cw (by have := V.int.inj z; omega))) ⟨_, rfl, ?_⟩
      obtain ⟨U, hU⟩ : ∃ U, U = W := ⟨_, rfl⟩
      rw [← hU] at cw hw2 hw20 hwe ⊢
      have hu2 := hw2; have hu20 := hw20; have hue := hwe; have hun := cw
      refine st_set [some (.ref b), some (.int (N : Nat)), some (.int (U : Nat)), none, none, none, none, none, none, none, none, none] ?_ rfl
      refine ⟨_, rfl, _, rfl, (by show 2 ≤ sizeLine; decide), fun t1 nt1 => ?_⟩
      have s72 : Same Hw (upd Hw t1 (.tup [.int (N : Nat), .int (U : Nat)])) := same_new nt1
      have e_t1 : upd Hw t1 (.tup [.int (N : Nat), .int (U : Nat)]) t1 = some (.tup [.int (N : Nat), .int (U : Nat)]) := upd_same
      revert s72 e_t1; generalize upd Hw t1 (.tup [.int (N : Nat), .int (U : Nat)]) = H73; intro s72 e_t1
      replace hB := hB.same s72
      replace kH := kH.trans (Keep.of_same s72)
      refine ⟨_, rfl, _, rfl, (by show 2 ≤ sizeLine; decide), fun t2 nt2 => ⟨(by show 2 ≤ sizeLine; decide), fun t3 nt3 => ?_⟩⟩
      have e_t3 : upd (upd H73 t2 (.tup [.int (U : Nat), .int (N : Nat)])) t3 (.tup [.ref t1, .ref t2]) t3 = some (.tup [.ref t1, .ref t2]) := upd_same
      have e_t2 := same_new (o := .tup [.ref t1, .ref t2]) nt3 t2 _ upd_same
      have s23 := (same_new (o := .tup [.int (U : Nat), .int (N : Nat)]) nt2).trans (same_new (o := .tup [.ref t1, .ref t2]) nt3)
      revert e_t3 e_t2 s23; generalize upd (upd H73 t2 (.tup [.int (U : Nat), .int (N : Nat)])) t3 (.tup [.ref t1, .ref t2]) = H23; intro e_t3 e_t2 s23
      replace e_t1 := s23 _ _ e_t1
      replace hB := hB.same s23
      replace kH := kH.trans (Keep.of_same s23)
      refine ⟨t3, rfl, ⟨_, .inl (.inl e_t3)⟩, ?_⟩
      refine for_tup (xs := [V.ref t1, V.ref t2]) (fun i σ H' => Keep b H H' ∧ Box (n + (758 + 120 * (2 - i))) H' b ∧ H' t1 = some (.tup [.int (N : Nat), .int (U : Nat)]) ∧ H' t2 = some (.tup [.int (U : Nat), .int (N : Nat)]) ∧ H' t3 = some (.tup [.ref t1, .ref t2]) ∧ ∃ (y_mine y_its y_start y_mate y_page y_other_page y_found y_hall : Option V), σ = [some (.ref b), some (.int (N : Nat)), some (.int (U : Nat)), y_mine, y_its, y_start, y_mate, y_page, y_other_page, y_found, y_hall, none]) ⟨kH, hB.mono (by omega), e_t1, e_t2, e_t3, _, _, _, _, _, _, _, _, rfl⟩ (fun i σ H' _ h => .inl (.inl h.2.2.2.2.1)) (fun i x σ Hi hx hPv => ?_) (fun σ Hi hPv => ?_)
      · clear kH hB e_t1 e_t2 e_t3
        obtain ⟨kH, hB, e_t1, e_t2, e_t3, y_mine, y_its, y_start, y_mate, y_page, y_other_page, y_found, y_hall, rfl⟩ := hPv
        have hi2 : i < 2 := get_lt hx
        obtain ⟨m, hm⟩ : ∃ z, z = n + (758 + 120 * (2 - (i + 1))) := ⟨_, rfl⟩
        replace hB : Box (m + 120) Hi b := hB.mono (by omega)
        obtain ⟨u, An, Bn, rfl, e_u, hAB, hA1, hA2, hB1, hB2⟩ : ∃ (u : Addr) (An Bn : Nat), x = .ref u ∧ Hi u = some (.tup [.int (An : Nat), .int (Bn : Nat)]) ∧ An ≠ Bn ∧ An % 2 = 0 ∧ An ≤ 18 ∧ Bn % 2 = 0 ∧ Bn ≤ 18 := by
          rcases (show i = 0 ∨ i = 1 by omega) with z | z
          · subst z; exact ⟨t1, N, U, (Option.some.inj hx).symm, e_t1, by omega, by omega, by omega, by omega, by omega⟩
          · subst z; exact ⟨t2, U, N, (Option.some.inj hx).symm, e_t2, by omega, by omega, by omega, by omega, by omega⟩
        have hABs : An + Bn ≤ 28 := by
          rcases (show i = 0 ∨ i = 1 by omega) with z | z
          · subst z
            have e := Option.some.inj hx
            cases e
            rw [e_t1] at e_u
            have e' := HO.tup.inj (Option.some.inj e_u)
            injection e' with e1 e2
            injection e2 with e2 e3
            have := V.int.inj e1
            have := V.int.inj e2
            omega
          · subst z
            have e := Option.some.inj hx
            cases e
            rw [e_t2] at e_u
            have e' := HO.tup.inj (Option.some.inj e_u)
            injection e' with e1 e2
            injection e2 with e2 e3
            have := V.int.inj e1
            have := V.int.inj e2
            omega
        refine ⟨u, _, rfl, .inl (.inl e_u), rfl, _, _, rfl, _, _, rfl, rfl, ?_⟩
        refine ⟨_, rfl, _, rfl, b, m + (36 + (84 - An)), An, rfl, hB.mono (by omega), by omega, by omega, fun H74 t75 ps76 hp77 k78 hB79 n80 e_t75 => ?_⟩
        obtain ⟨y_hy81, hy81⟩ := hB.lst
        replace e_t1 := k78.tup hy81 e_t1
        replace e_t2 := k78.tup hy81 e_t2
        replace e_t3 := k78.tup hy81 e_t3
        clear hB
        have hB := hB79
        replace kH := kH.trans k78
        refine ⟨_, rfl, _, rfl, b, m + (36 + (84 - An - Bn)), Bn, rfl, hB.mono (by omega), by omega, by omega, fun H82 t83 ps84 hp85 k86 hB87 n88 e_t83 => ?_⟩
        obtain ⟨y_hy89, hy89⟩ := hB.lst
        replace e_t1 := k86.tup hy89 e_t1
        replace e_t2 := k86.tup hy89 e_t2
        replace e_t3 := k86.tup hy89 e_t3
        replace e_t75 := k86.tup hy89 e_t75
        clear hB
        have hB := hB87
        replace kH := kH.trans k86
        refine ⟨(by show 2 ≤ sizeLine; decide), fun l90 nl90 => ?_⟩
        have s91 : Same H82 (upd H82 l90 (.tup [.ref t75, .ref t83])) := same_new nl90
        have e_l90 : upd H82 l90 (.tup [.ref t75, .ref t83]) l90 = some (.tup [.ref t75, .ref t83]) := upd_same
        revert s91 e_l90; generalize upd H82 l90 (.tup [.ref t75, .ref t83]) = H92; intro s91 e_l90
        replace e_t1 := s91 _ _ e_t1
        replace e_t2 := s91 _ _ e_t2
        replace e_t3 := s91 _ _ e_t3
        replace e_t75 := s91 _ _ e_t75
        replace e_t83 := s91 _ _ e_t83
        replace hB := hB.same s91
        replace kH := kH.trans (Keep.of_same s91)
        refine ⟨l90, _, rfl, .inl (.inl e_l90), rfl, _, _, rfl, _, _, rfl, rfl, ?_⟩
        first | refine st_set [some (.ref b), some (.int (N : Nat)), some (.int (U : Nat)), some (.int (An : Nat)), some (.int (Bn : Nat)), some (.ref t75), some (.ref t83), y_page, y_other_page, y_found, y_hall, none] ?_ rfl | refine st_eq [some (.ref b), some (.int (N : Nat)), some (.int (U : Nat)), some (.int (An : Nat)), some (.int (Bn : Nat)), some (.ref t75), some (.ref t83), y_page, y_other_page, y_found, y_hall, none] ?_ rfl | refine st_eq (t := tSeq _ _) [some (.ref b), some (.int (N : Nat)), some (.int (U : Nat)), some (.int (An : Nat)), some (.int (Bn : Nat)), some (.ref t75), some (.ref t83), y_page, y_other_page, y_found, y_hall, none] ?_ rfl
        refine ⟨_, rfl, _, rfl, 2, _, rfl, rfl, .inl ⟨by decide, by decide⟩, b, m + (36 + (84 - An - Bn - 2 * An)), (2 * An), rfl, hB.mono (by omega), by omega, by omega, fun H93 t94 ps95 hp96 k97 hB98 n99 e_t94 => ?_⟩
        obtain ⟨y_hy100, hy100⟩ := hB.lst
        replace e_t1 := k97.tup hy100 e_t1
        replace e_t2 := k97.tup hy100 e_t2
        replace e_t3 := k97.tup hy100 e_t3
        replace e_t75 := k97.tup hy100 e_t75
        replace e_t83 := k97.tup hy100 e_t83
        clear hB
        have hB := hB98
        replace kH := kH.trans k97
        refine ⟨_, rfl, _, rfl, 2, _, rfl, rfl, .inl ⟨by decide, by decide⟩, b, m + (36 + (84 - An - Bn - 2 * An - 2 * Bn)), (2 * Bn), rfl, hB.mono (by omega), by omega, by omega, fun H101 t102 ps103 hp104 k105 hB106 n107 e_t102 => ?_⟩
        obtain ⟨y_hy108, hy108⟩ := hB.lst
        replace e_t1 := k105.tup hy108 e_t1
        replace e_t2 := k105.tup hy108 e_t2
        replace e_t3 := k105.tup hy108 e_t3
        replace e_t75 := k105.tup hy108 e_t75
        replace e_t83 := k105.tup hy108 e_t83
        replace e_t94 := k105.tup hy108 e_t94
        clear hB
        have hB := hB106
        replace kH := kH.trans k105
        refine ⟨(by show 2 ≤ sizeLine; decide), fun l109 nl109 => ?_⟩
        have s110 : Same H101 (upd H101 l109 (.tup [.ref t94, .ref t102])) := same_new nl109
        have e_l109 : upd H101 l109 (.tup [.ref t94, .ref t102]) l109 = some (.tup [.ref t94, .ref t102]) := upd_same
        revert s110 e_l109; generalize upd H101 l109 (.tup [.ref t94, .ref t102]) = H111; intro s110 e_l109
        replace e_t1 := s110 _ _ e_t1
        replace e_t2 := s110 _ _ e_t2
        replace e_t3 := s110 _ _ e_t3
        replace e_t75 := s110 _ _ e_t75
        replace e_t83 := s110 _ _ e_t83
        replace e_t94 := s110 _ _ e_t94
        replace e_t102 := s110 _ _ e_t102
        replace hB := hB.same s110
        replace kH := kH.trans (Keep.of_same s110)
        refine ⟨l109, _, rfl, .inl (.inl e_l109), rfl, _, _, rfl, _, _, rfl, rfl, ?_⟩
        first | refine st_set [some (.ref b), some (.int (N : Nat)), some (.int (U : Nat)), some (.int (An : Nat)), some (.int (Bn : Nat)), some (.ref t75), some (.ref t83), some (.ref t94), some (.ref t102), y_found, y_hall, none] ?_ rfl | refine st_eq [some (.ref b), some (.int (N : Nat)), some (.int (U : Nat)), some (.int (An : Nat)), some (.int (Bn : Nat)), some (.ref t75), some (.ref t83), some (.ref t94), some (.ref t102), y_found, y_hall, none] ?_ rfl | refine st_eq (t := tSeq _ _) [some (.ref b), some (.int (N : Nat)), some (.int (U : Nat)), some (.int (An : Nat)), some (.int (Bn : Nat)), some (.ref t75), some (.ref t83), some (.ref t94), some (.ref t102), y_found, y_hall, none] ?_ rfl
        refine ⟨7, rfl, by decide, by decide, fun D112 nD112 => ?_⟩
        refine lc_range (n := 7) (fun i H' => Same H111 H' ∧ H' D112 = some (.lst (List.replicate i (.int (Bn : Nat))))) ⟨same_new nD112, upd_same⟩ (fun i H' hi hPv => ?_) (fun H' hPv => ?_)
        · obtain ⟨sm, eD⟩ := hPv
          refine ⟨rfl, yes_if ⟨_, rfl, _, rfl, _, rfl, 0, (0 : Int) + (i : Nat), t75, t83, ps76, ps84, An, Bn, rfl, .inl (.inl (sm _ _ e_t75)), .inl (.inl (sm _ _ e_t83)), hAB, .inl ⟨rfl, by omega, by omega, hp77.len, hp85.len⟩, fun H6 s6 => ⟨_, s6 _ _ eD, ?_, fun z o hz => ?_, ?_⟩⟩⟩
          · rw [List.length_replicate]; exact small1000 (by omega)
          · rw [upd_ne (ne_of_none hz nD112)]; exact s6 _ _ (sm _ _ hz)
          · rw [upd_same, List.replicate_succ']
        obtain ⟨s113, e_D112⟩ := hPv
        replace e_D112 : H' D112 = some (.lst [.int (Bn : Nat), .int (Bn : Nat), .int (Bn : Nat), .int (Bn : Nat), .int (Bn : Nat), .int (Bn : Nat), .int (Bn : Nat)]) := e_D112
        revert s113 e_D112; generalize H' = H114; intro s113 e_D112
        have ne_D112 : D112 ≠ b := (hB.ne_new nD112).symm
        replace e_t1 := s113 _ _ e_t1
        replace e_t2 := s113 _ _ e_t2
        replace e_t3 := s113 _ _ e_t3
        replace e_t75 := s113 _ _ e_t75
        replace e_t83 := s113 _ _ e_t83
        replace e_t94 := s113 _ _ e_t94
        replace e_t102 := s113 _ _ e_t102
        replace hB := hB.same s113
        replace kH := kH.trans (Keep.of_same s113)
        first | refine st_set [some (.ref b), some (.int (N : Nat)), some (.int (U : Nat)), some (.int (An : Nat)), some (.int (Bn : Nat)), some (.ref t75), some (.ref t83), some (.ref t94), some (.ref t102), some (.ref D112), y_hall, none] ?_ rfl | refine st_eq [some (.ref b), some (.int (N : Nat)), some (.int (U : Nat)), some (.int (An : Nat)), some (.int (Bn : Nat)), some (.ref t75), some (.ref t83), some (.ref t94), some (.ref t102), some (.ref D112), y_hall, none] ?_ rfl | refine st_eq (t := tSeq _ _) [some (.ref b), some (.int (N : Nat)), some (.int (U : Nat)), some (.int (An : Nat)), some (.int (Bn : Nat)), some (.ref t75), some (.ref t83), some (.ref t94), some (.ref t102), some (.ref D112), y_hall, none] ?_ rfl
        refine ⟨_, rfl, 4, rfl, by decide, by decide, fun D115 nD115 => ?_⟩
        refine lc_range (n := 4) (fun i H' => Same H114 H' ∧ H' D115 = some (.lst (List.replicate i (.int (Bn : Nat))))) ⟨same_new nD115, upd_same⟩ (fun i H' hi hPv => ?_) (fun H' hPv => ?_)
        · obtain ⟨sm, eD⟩ := hPv
          refine ⟨rfl, yes_if ⟨_, rfl, _, rfl, _, rfl, 1, (0 : Int) + (i : Nat), t94, t102, ps95, ps103, An, Bn, rfl, .inl (.inl (sm _ _ e_t94)), .inl (.inl (sm _ _ e_t102)), hAB, .inr (.inl ⟨rfl, by omega, by omega, hp96.len, hp104.len⟩), fun H6 s6 => ⟨_, s6 _ _ eD, ?_, fun z o hz => ?_, ?_⟩⟩⟩
          · rw [List.length_replicate]; exact small1000 (by omega)
          · rw [upd_ne (ne_of_none hz nD115)]; exact s6 _ _ (sm _ _ hz)
          · rw [upd_same, List.replicate_succ']
        obtain ⟨s116, e_D115⟩ := hPv
        replace e_D115 : H' D115 = some (.lst [.int (Bn : Nat), .int (Bn : Nat), .int (Bn : Nat), .int (Bn : Nat)]) := e_D115
        revert s116 e_D115; generalize H' = H117; intro s116 e_D115
        have ne_D115 : D115 ≠ b := (hB.ne_new nD115).symm
        replace e_t1 := s116 _ _ e_t1
        replace e_t2 := s116 _ _ e_t2
        replace e_t3 := s116 _ _ e_t3
        replace e_t75 := s116 _ _ e_t75
        replace e_t83 := s116 _ _ e_t83
        replace e_t94 := s116 _ _ e_t94
        replace e_t102 := s116 _ _ e_t102
        replace e_D112 := s116 _ _ e_D112
        replace hB := hB.same s116
        replace kH := kH.trans (Keep.of_same s116)
        refine ⟨D112, D115, _, _, rfl, rfl, e_D112, e_D115, (by show 7 + 4 ≤ sizeLine; decide), fun l118 nl118 => ?_⟩
        rw [show ([V.int (Bn : Nat), V.int (Bn : Nat), V.int (Bn : Nat), V.int (Bn : Nat), V.int (Bn : Nat), V.int (Bn : Nat), V.int (Bn : Nat)] : List V) ++ [V.int (Bn : Nat), V.int (Bn : Nat), V.int (Bn : Nat), V.int (Bn : Nat)] = [V.int (Bn : Nat), V.int (Bn : Nat), V.int (Bn : Nat), V.int (Bn : Nat), V.int (Bn : Nat), V.int (Bn : Nat), V.int (Bn : Nat), V.int (Bn : Nat), V.int (Bn : Nat), V.int (Bn : Nat), V.int (Bn : Nat)] from rfl]
        have ne_l118 : l118 ≠ b := (hB.ne_new nl118).symm
        have s119 : Same H117 (upd H117 l118 (.lst [.int (Bn : Nat), .int (Bn : Nat), .int (Bn : Nat), .int (Bn : Nat), .int (Bn : Nat), .int (Bn : Nat), .int (Bn : Nat), .int (Bn : Nat), .int (Bn : Nat), .int (Bn : Nat), .int (Bn : Nat)])) := same_new nl118
        have e_l118 : upd H117 l118 (.lst [.int (Bn : Nat), .int (Bn : Nat), .int (Bn : Nat), .int (Bn : Nat), .int (Bn : Nat), .int (Bn : Nat), .int (Bn : Nat), .int (Bn : Nat), .int (Bn : Nat), .int (Bn : Nat), .int (Bn : Nat)]) l118 = some (.lst [.int (Bn : Nat), .int (Bn : Nat), .int (Bn : Nat), .int (Bn : Nat), .int (Bn : Nat), .int (Bn : Nat), .int (Bn : Nat), .int (Bn : Nat), .int (Bn : Nat), .int (Bn : Nat), .int (Bn : Nat)]) := upd_same
        revert s119 e_l118; generalize upd H117 l118 (.lst [.int (Bn : Nat), .int (Bn : Nat), .int (Bn : Nat), .int (Bn : Nat), .int (Bn : Nat), .int (Bn : Nat), .int (Bn : Nat), .int (Bn : Nat), .int (Bn : Nat), .int (Bn : Nat), .int (Bn : Nat)]) = H120; intro s119 e_l118
        replace e_t1 := s119 _ _ e_t1
        replace e_t2 := s119 _ _ e_t2
        replace e_t3 := s119 _ _ e_t3
        replace e_t75 := s119 _ _ e_t75
        replace e_t83 := s119 _ _ e_t83
        replace e_t94 := s119 _ _ e_t94
        replace e_t102 := s119 _ _ e_t102
        replace e_D112 := s119 _ _ e_D112
        replace e_D115 := s119 _ _ e_D115
        replace hB := hB.same s119
        replace kH := kH.trans (Keep.of_same s119)
        first | refine st_set [some (.ref b), some (.int (N : Nat)), some (.int (U : Nat)), some (.int (An : Nat)), some (.int (Bn : Nat)), some (.ref t75), some (.ref t83), some (.ref t94), some (.ref t102), some (.ref l118), y_hall, none] ?_ rfl | refine st_eq [some (.ref b), some (.int (N : Nat)), some (.int (U : Nat)), some (.int (An : Nat)), some (.int (Bn : Nat)), some (.ref t75), some (.ref t83), some (.ref t94), some (.ref t102), some (.ref l118), y_hall, none] ?_ rfl | refine st_eq (t := tSeq _ _) [some (.ref b), some (.int (N : Nat)), some (.int (U : Nat)), some (.int (An : Nat)), some (.int (Bn : Nat)), some (.ref t75), some (.ref t83), some (.ref t94), some (.ref t102), some (.ref l118), y_hall, none] ?_ rfl
        refine ⟨_, rfl, 9, rfl, by decide, by decide, fun D121 nD121 => ?_⟩
        refine lc_range (n := 9) (fun i H' => Same H120 H' ∧ H' D121 = some (.lst (List.replicate i (.int (Bn : Nat))))) ⟨same_new nD121, upd_same⟩ (fun i H' hi hPv => ?_) (fun H' hPv => ?_)
        · obtain ⟨sm, eD⟩ := hPv
          refine ⟨rfl, yes_if ⟨_, rfl, _, rfl, _, rfl, 2, (0 : Int) + (i : Nat), t94, t83, ps95, ps84, An, Bn, rfl, .inl (.inl (sm _ _ e_t94)), .inl (.inl (sm _ _ e_t83)), hAB, .inr (.inr ⟨rfl, by omega, by omega, hp96.len, hp85.len⟩), fun H6 s6 => ⟨_, s6 _ _ eD, ?_, fun z o hz => ?_, ?_⟩⟩⟩
          · rw [List.length_replicate]; exact small1000 (by omega)
          · rw [upd_ne (ne_of_none hz nD121)]; exact s6 _ _ (sm _ _ hz)
          · rw [upd_same, List.replicate_succ']
        obtain ⟨s122, e_D121⟩ := hPv
        replace e_D121 : H' D121 = some (.lst [.int (Bn : Nat), .int (Bn : Nat), .int (Bn : Nat), .int (Bn : Nat), .int (Bn : Nat), .int (Bn : Nat), .int (Bn : Nat), .int (Bn : Nat), .int (Bn : Nat)]) := e_D121
        revert s122 e_D121; generalize H' = H123; intro s122 e_D121
        have ne_D121 : D121 ≠ b := (hB.ne_new nD121).symm
        replace e_t1 := s122 _ _ e_t1
        replace e_t2 := s122 _ _ e_t2
        replace e_t3 := s122 _ _ e_t3
        replace e_t75 := s122 _ _ e_t75
        replace e_t83 := s122 _ _ e_t83
        replace e_t94 := s122 _ _ e_t94
        replace e_t102 := s122 _ _ e_t102
        replace e_l118 := s122 _ _ e_l118
        replace hB := hB.same s122
        replace kH := kH.trans (Keep.of_same s122)
        refine ⟨l118, D121, _, _, rfl, rfl, e_l118, e_D121, (by show 11 + 9 ≤ sizeLine; decide), fun l124 nl124 => ?_⟩
        rw [show ([V.int (Bn : Nat), V.int (Bn : Nat), V.int (Bn : Nat), V.int (Bn : Nat), V.int (Bn : Nat), V.int (Bn : Nat), V.int (Bn : Nat), V.int (Bn : Nat), V.int (Bn : Nat), V.int (Bn : Nat), V.int (Bn : Nat)] : List V) ++ [V.int (Bn : Nat), V.int (Bn : Nat), V.int (Bn : Nat), V.int (Bn : Nat), V.int (Bn : Nat), V.int (Bn : Nat), V.int (Bn : Nat), V.int (Bn : Nat), V.int (Bn : Nat)] = [V.int (Bn : Nat), V.int (Bn : Nat), V.int (Bn : Nat), V.int (Bn : Nat), V.int (Bn : Nat), V.int (Bn : Nat), V.int (Bn : Nat), V.int (Bn : Nat), V.int (Bn : Nat), V.int (Bn : Nat), V.int (Bn : Nat), V.int (Bn : Nat), V.int (Bn : Nat), V.int (Bn : Nat), V.int (Bn : Nat), V.int (Bn : Nat), V.int (Bn : Nat), V.int (Bn : Nat), V.int (Bn : Nat), V.int (Bn : Nat)] from rfl]
        have ne_l124 : l124 ≠ b := (hB.ne_new nl124).symm
        have s125 : Same H123 (upd H123 l124 (.lst [.int (Bn : Nat), .int (Bn : Nat), .int (Bn : Nat), .int (Bn : Nat), .int (Bn : Nat), .int (Bn : Nat), .int (Bn : Nat), .int (Bn : Nat), .int (Bn : Nat), .int (Bn : Nat), .int (Bn : Nat), .int (Bn : Nat), .int (Bn : Nat), .int (Bn : Nat), .int (Bn : Nat), .int (Bn : Nat), .int (Bn : Nat), .int (Bn : Nat), .int (Bn : Nat), .int (Bn : Nat)])) := same_new nl124
        have e_l124 : upd H123 l124 (.lst [.int (Bn : Nat), .int (Bn : Nat), .int (Bn : Nat), .int (Bn : Nat), .int (Bn : Nat), .int (Bn : Nat), .int (Bn : Nat), .int (Bn : Nat), .int (Bn : Nat), .int (Bn : Nat), .int (Bn : Nat), .int (Bn : Nat), .int (Bn : Nat), .int (Bn : Nat), .int (Bn : Nat), .int (Bn : Nat), .int (Bn : Nat), .int (Bn : Nat), .int (Bn : Nat), .int (Bn : Nat)]) l124 = some (.lst [.int (Bn : Nat), .int (Bn : Nat), .int (Bn : Nat), .int (Bn : Nat), .int (Bn : Nat), .int (Bn : Nat), .int (Bn : Nat), .int (Bn : Nat), .int (Bn : Nat), .int (Bn : Nat), .int (Bn : Nat), .int (Bn : Nat), .int (Bn : Nat), .int (Bn : Nat), .int (Bn : Nat), .int (Bn : Nat), .int (Bn : Nat), .int (Bn : Nat), .int (Bn : Nat), .int (Bn : Nat)]) := upd_same
        revert s125 e_l124; generalize upd H123 l124 (.lst [.int (Bn : Nat), .int (Bn : Nat), .int (Bn : Nat), .int (Bn : Nat), .int (Bn : Nat), .int (Bn : Nat), .int (Bn : Nat), .int (Bn : Nat), .int (Bn : Nat), .int (Bn : Nat), .int (Bn : Nat), .int (Bn : Nat), .int (Bn : Nat), .int (Bn : Nat), .int (Bn : Nat), .int (Bn : Nat), .int (Bn : Nat), .int (Bn : Nat), .int (Bn : Nat), .int (Bn : Nat)]) = H126; intro s125 e_l124
        replace e_t1 := s125 _ _ e_t1
        replace e_t2 := s125 _ _ e_t2
        replace e_t3 := s125 _ _ e_t3
        replace e_t75 := s125 _ _ e_t75
        replace e_t83 := s125 _ _ e_t83
        replace e_t94 := s125 _ _ e_t94
        replace e_t102 := s125 _ _ e_t102
        replace e_l118 := s125 _ _ e_l118
        replace e_D121 := s125 _ _ e_D121
        replace hB := hB.same s125
        replace kH := kH.trans (Keep.of_same s125)
        first | refine st_set [some (.ref b), some (.int (N : Nat)), some (.int (U : Nat)), some (.int (An : Nat)), some (.int (Bn : Nat)), some (.ref t75), some (.ref t83), some (.ref t94), some (.ref t102), some (.ref l124), y_hall, none] ?_ rfl | refine st_eq [some (.ref b), some (.int (N : Nat)), some (.int (U : Nat)), some (.int (An : Nat)), some (.int (Bn : Nat)), some (.ref t75), some (.ref t83), some (.ref t94), some (.ref t102), some (.ref l124), y_hall, none] ?_ rfl | refine st_eq (t := tSeq _ _) [some (.ref b), some (.int (N : Nat)), some (.int (U : Nat)), some (.int (An : Nat)), some (.int (Bn : Nat)), some (.ref t75), some (.ref t83), some (.ref t94), some (.ref t102), some (.ref l124), y_hall, none] ?_ rfl
        refine ⟨_, rfl, _, rfl, (by show 1 ≤ sizeLine; decide), fun l127 nl127 => ?_⟩
        have ne_l127 : l127 ≠ b := (hB.ne_new nl127).symm
        have s128 : Same H126 (upd H126 l127 (.lst [.int (Bn : Nat)])) := same_new nl127
        have e_l127 : upd H126 l127 (.lst [.int (Bn : Nat)]) l127 = some (.lst [.int (Bn : Nat)]) := upd_same
        revert s128 e_l127; generalize upd H126 l127 (.lst [.int (Bn : Nat)]) = H129; intro s128 e_l127
        replace e_t1 := s128 _ _ e_t1
        replace e_t2 := s128 _ _ e_t2
        replace e_t3 := s128 _ _ e_t3
        replace e_t75 := s128 _ _ e_t75
        replace e_t83 := s128 _ _ e_t83
        replace e_t94 := s128 _ _ e_t94
        replace e_t102 := s128 _ _ e_t102
        replace e_l124 := s128 _ _ e_l124
        replace hB := hB.same s128
        replace kH := kH.trans (Keep.of_same s128)
        refine ⟨l127, 20, _, rfl, rfl, e_l127, by decide, by decide, (by show 1 * 20 ≤ sizeLine; decide), fun l130 nl130 => ?_⟩
        rw [show (List.replicate (Int.toNat 20) [V.int (Bn : Nat)]).flatten = [V.int (Bn : Nat), V.int (Bn : Nat), V.int (Bn : Nat), V.int (Bn : Nat), V.int (Bn : Nat), V.int (Bn : Nat), V.int (Bn : Nat), V.int (Bn : Nat), V.int (Bn : Nat), V.int (Bn : Nat), V.int (Bn : Nat), V.int (Bn : Nat), V.int (Bn : Nat), V.int (Bn : Nat), V.int (Bn : Nat), V.int (Bn : Nat), V.int (Bn : Nat), V.int (Bn : Nat), V.int (Bn : Nat), V.int (Bn : Nat)] from rfl]
        have ne_l130 : l130 ≠ b := (hB.ne_new nl130).symm
        have s131 : Same H129 (upd H129 l130 (.lst [.int (Bn : Nat), .int (Bn : Nat), .int (Bn : Nat), .int (Bn : Nat), .int (Bn : Nat), .int (Bn : Nat), .int (Bn : Nat), .int (Bn : Nat), .int (Bn : Nat), .int (Bn : Nat), .int (Bn : Nat), .int (Bn : Nat), .int (Bn : Nat), .int (Bn : Nat), .int (Bn : Nat), .int (Bn : Nat), .int (Bn : Nat), .int (Bn : Nat), .int (Bn : Nat), .int (Bn : Nat)])) := same_new nl130
        have e_l130 : upd H129 l130 (.lst [.int (Bn : Nat), .int (Bn : Nat), .int (Bn : Nat), .int (Bn : Nat), .int (Bn : Nat), .int (Bn : Nat), .int (Bn : Nat), .int (Bn : Nat), .int (Bn : Nat), .int (Bn : Nat), .int (Bn : Nat), .int (Bn : Nat), .int (Bn : Nat), .int (Bn : Nat), .int (Bn : Nat), .int (Bn : Nat), .int (Bn : Nat), .int (Bn : Nat), .int (Bn : Nat), .int (Bn : Nat)]) l130 = some (.lst [.int (Bn : Nat), .int (Bn : Nat), .int (Bn : Nat), .int (Bn : Nat), .int (Bn : Nat), .int (Bn : Nat), .int (Bn : Nat), .int (Bn : Nat), .int (Bn : Nat), .int (Bn : Nat), .int (Bn : Nat), .int (Bn : Nat), .int (Bn : Nat), .int (Bn : Nat), .int (Bn : Nat), .int (Bn : Nat), .int (Bn : Nat), .int (Bn : Nat), .int (Bn : Nat), .int (Bn : Nat)]) := upd_same
        revert s131 e_l130; generalize upd H129 l130 (.lst [.int (Bn : Nat), .int (Bn : Nat), .int (Bn : Nat), .int (Bn : Nat), .int (Bn : Nat), .int (Bn : Nat), .int (Bn : Nat), .int (Bn : Nat), .int (Bn : Nat), .int (Bn : Nat), .int (Bn : Nat), .int (Bn : Nat), .int (Bn : Nat), .int (Bn : Nat), .int (Bn : Nat), .int (Bn : Nat), .int (Bn : Nat), .int (Bn : Nat), .int (Bn : Nat), .int (Bn : Nat)]) = H132; intro s131 e_l130
        replace e_t1 := s131 _ _ e_t1
        replace e_t2 := s131 _ _ e_t2
        replace e_t3 := s131 _ _ e_t3
        replace e_t75 := s131 _ _ e_t75
        replace e_t83 := s131 _ _ e_t83
        replace e_t94 := s131 _ _ e_t94
        replace e_t102 := s131 _ _ e_t102
        replace e_l124 := s131 _ _ e_l124
        replace e_l127 := s131 _ _ e_l127
        replace hB := hB.same s131
        replace kH := kH.trans (Keep.of_same s131)
        have fk133 : Fi 1 (.list [.int ((Bn : Nat)), .int ((Bn : Nat)), .int ((Bn : Nat)), .int ((Bn : Nat)), .int ((Bn : Nat)), .int ((Bn : Nat)), .int ((Bn : Nat)), .int ((Bn : Nat)), .int ((Bn : Nat)), .int ((Bn : Nat)), .int ((Bn : Nat)), .int ((Bn : Nat)), .int ((Bn : Nat)), .int ((Bn : Nat)), .int ((Bn : Nat)), .int ((Bn : Nat)), .int ((Bn : Nat)), .int ((Bn : Nat)), .int ((Bn : Nat)), .int ((Bn : Nat))]) := fi_list (j := 0) (n := 20) (fa_cons (fi_int (by omega)) (fa_cons (fi_int (by omega)) (fa_cons (fi_int (by omega)) (fa_cons (fi_int (by omega)) (fa_cons (fi_int (by omega)) (fa_cons (fi_int (by omega)) (fa_cons (fi_int (by omega)) (fa_cons (fi_int (by omega)) (fa_cons (fi_int (by omega)) (fa_cons (fi_int (by omega)) (fa_cons (fi_int (by omega)) (fa_cons (fi_int (by omega)) (fa_cons (fi_int (by omega)) (fa_cons (fi_int (by omega)) (fa_cons (fi_int (by omega)) (fa_cons (fi_int (by omega)) (fa_cons (fi_int (by omega)) (fa_cons (fi_int (by omega)) (fa_cons (fi_int (by omega)) (fa_cons (fi_int (by omega)) fa_nil)))))))))))))))))))) rfl (by decide)
        refine ⟨_, _, _, rfl, .lst (.inl (.inl e_l124)) (.cons (.int _) (.cons (.int _) (.cons (.int _) (.cons (.int _) (.cons (.int _) (.cons (.int _) (.cons (.int _) (.cons (.int _) (.cons (.int _) (.cons (.int _) (.cons (.int _) (.cons (.int _) (.cons (.int _) (.cons (.int _) (.cons (.int _) (.cons (.int _) (.cons (.int _) (.cons (.int _) (.cons (.int _) (.cons (.int _) .nil)))))))))))))))))))), .lst (.inl (.inl e_l130)) (.cons (.int _) (.cons (.int _) (.cons (.int _) (.cons (.int _) (.cons (.int _) (.cons (.int _) (.cons (.int _) (.cons (.int _) (.cons (.int _) (.cons (.int _) (.cons (.int _) (.cons (.int _) (.cons (.int _) (.cons (.int _) (.cons (.int _) (.cons (.int _) (.cons (.int _) (.cons (.int _) (.cons (.int _) (.cons (.int _) .nil)))))))))))))))))))), Nat.lt_succ_of_le (Nat.le_trans fk133.depth (by decide)), fk133.nar, fun H134 s135 => ?_⟩
        replace e_t1 := s135 _ _ e_t1
        replace e_t2 := s135 _ _ e_t2
        replace e_t3 := s135 _ _ e_t3
        replace e_t75 := s135 _ _ e_t75
        replace e_t83 := s135 _ _ e_t83
        replace e_t94 := s135 _ _ e_t94
        replace e_t102 := s135 _ _ e_t102
        replace e_l124 := s135 _ _ e_l124
        replace e_l127 := s135 _ _ e_l127
        replace e_l130 := s135 _ _ e_l130
        replace hB := hB.same s135
        replace kH := kH.trans (Keep.of_same s135)
        refine ⟨true, rfl, iteN ?_⟩
        refine ⟨_, rfl, fun xh dx nx ndx nex => ?_⟩
        have s0 : Same H134 (upd (upd H134 dx (.own xh)) xh (.ins T.C_Hall dx [])) := fun y o e => by rw [upd_ne (ne_of_none e nx), upd_ne (ne_of_none e ndx)]; exact e
        refine ⟨xh, dx, t75, nv ps76, rfl, upd_same, .inl (.inl (s0 _ _ e_t75)), fun Hh k1 hHall => ⟨rfl, ?_⟩⟩
        have s1 : Same H134 Hh := fun y o e => k1 y o (ne_of_none e nx) (s0 y o e)
        clear k1 s0
        replace e_t1 := s1 _ _ e_t1
        replace e_t2 := s1 _ _ e_t2
        replace e_t3 := s1 _ _ e_t3
        replace e_t75 := s1 _ _ e_t75
        replace e_t83 := s1 _ _ e_t83
        replace e_t94 := s1 _ _ e_t94
        replace e_t102 := s1 _ _ e_t102
        replace hB := hB.same s1
        replace kH := kH.trans (Keep.of_same s1)
        first | refine st_set [some (.ref b), some (.int (N : Nat)), some (.int (U : Nat)), some (.int (An : Nat)), some (.int (Bn : Nat)), some (.ref t75), some (.ref t83), some (.ref t94), some (.ref t102), some (.ref l124), some (.ref xh), none] ?_ rfl | refine st_eq [some (.ref b), some (.int (N : Nat)), some (.int (U : Nat)), some (.int (An : Nat)), some (.int (Bn : Nat)), some (.ref t75), some (.ref t83), some (.ref t94), some (.ref t102), some (.ref l124), some (.ref xh), none] ?_ rfl | refine st_eq (t := tSeq _ _) [some (.ref b), some (.int (N : Nat)), some (.int (U : Nat)), some (.int (An : Nat)), some (.int (Bn : Nat)), some (.ref t75), some (.ref t83), some (.ref t94), some (.ref t102), some (.ref l124), some (.ref xh), none] ?_ rfl
        obtain ⟨dh, ph, qh, uh, g1, g2, g3⟩ := id hHall
        refine ⟨_, rfl, xh, dh, _, rfl, g1, hfl_no _ _ (by decide +kernel) (by decide +kernel), xh, t75, rfl, hHall, _, rfl, 0, 6, t75, t83, ps76, ps84, An, Bn, rfl, .inl (.inl e_t75), .inl (.inl e_t83), hAB, .inl ⟨rfl, by decide, by decide, hp77.len, hp85.len⟩, fun Hq sq => ?_⟩
        replace e_t1 := sq _ _ e_t1
        replace e_t2 := sq _ _ e_t2
        replace e_t3 := sq _ _ e_t3
        replace e_t75 := sq _ _ e_t75
        replace e_t83 := sq _ _ e_t83
        replace e_t94 := sq _ _ e_t94
        replace e_t102 := sq _ _ e_t102
        replace hB := hB.same sq
        replace kH := kH.trans (Keep.of_same sq)
        replace hHall := hHall.same sq
        replace g1 := sq _ _ g1
        refine ⟨_, rfl, rfl, _, rfl, iteX (fi_same rfl) ?_⟩
        refine ⟨_, rfl, xh, dh, _, rfl, g1, hfl_no _ _ (by decide +kernel) (by decide +kernel), xh, t75, rfl, hHall, rfl, _, rfl, iteX (fi_same rfl) ?_⟩
        exact ⟨kH, hB.mono (by omega), e_t1, e_t2, e_t3, _, _, _, _, _, _, _, _, rfl⟩
      clear kH hB e_t1 e_t2 e_t3
      obtain ⟨kH, hB, e_t1, e_t2, e_t3, y_mine, y_its, y_start, y_mate, y_page, y_other_page, y_found, y_hall, rfl⟩ := hPv
      exact q _ kH (hB.mono (by omega))
end
end Pc
namespace Pc
open PySem PySem.Spec PyProof.Rows L2 RZ
section
variable {P : Program} {w : World} {K : PySem.W.Frag} {mg : Str → Option Value} {base : Heap}
/-! ### the law -/
def spLaw (K : PySem.W.Frag) : Sp := fun vs H Q _ => ∃ (a : Addr) (ns : List Int), vs = [.ref a] ∧ SqL K H a (ns.map V.int) ∧ ns.length ≤ 63 ∧ ∀ H', Q (.bl true) H'
theorem ok_law (T : Env K mg) {f : Addr} {fd : FuncData} (F : Fun K "law" "law" s_law f fd) : FnOk P w K mg base CX0 11 f fd ["_law_script"] (spLaw K) := by
  have GC : FnOk P w K mg base CX0 1 T.f_folded T.d_folded ["_law_script", "_law_most"] (spCells K) := ok_cells T
  have GB : FnOk P w K mg base CX0 1 T.f_stream T.d_stream ["_law_script", "_law_k"] (spBox K) := ok_box T
  have GR : FnOk P w K mg base CX0 10 T.f_right T.d_right ["_law_source"] spRight := ok_right T
  refine F.ok sc_law (fun vs H Q E h => ?_) (fun cdv A outer s H vs Q E hr h => ?_)
  · obtain ⟨a, ns, rfl, _⟩ := h
    rfl
  · obtain ⟨a, ns, rfl, hS, hn, q⟩ := h
    have h1 := hr.mono (show 1 ≤ 10 by decide)
    refine ⟨_, pss_cons (ps_set (i := 1) sc_law.nd rfl (.inl rfl) (pe_call GC h1 (by rfl) T.g_folded T.F_folded.kp T.b_folded .nil pass0 (pa_cons (pv 0) (pa_cons pe_int pa_nil)))) <|
      pss_cons (ps_for PassesOwn.never rfl (pi_range1 (by rfl) T.n_range (pa_cons (pe_callB call_len_seq (by rfl) T.n_len PySem.boot_len (pa_cons (pv 1) pa_nil)) pa_nil)) (pg_name (i := 2) sc_law.nd rfl (.inl rfl))
        (pss_cons (ps_set (i := 3) sc_law.nd rfl (.inr rfl) (pe_call GB h1 (by rfl) T.g_stream T.F_stream.kp T.b_stream .nil pass0 (pa_cons (pv 1) (pa_cons (pv 2) pa_nil))))
        (pss_one (ps_if (pt_not (pt_val (pe_callB (cr_all rfl) (by rfl) T.n_all (by decide +kernel) (pa_cons
          (pe_lc (own := [("_law_turn", 4)]) (g := gName 4) (tt := tYes) rfl sc_law.nd (pi_range1 (by rfl) T.n_range (pa_cons pe_int pa_nil)) (blkOk_by (N := N_law) (sc := defScope s_law) (by decide +kernel))
            (fun _ _ _ _ _ => pg_name (i := 4) sc_law.nd rfl (.inl rfl)) (fun _ _ _ _ _ => pts_nil)
            (fun _ _ _ _ _ => pe_call GR hr (by rfl) T.g_right T.F_right.kp T.b_right .nil pass0 (pa_cons (pv 3) pa_nil))) pa_nil)))) (pss_one (ps_ret pe_bl)) pss_nil)))) <|
      pss_one (ps_ret pe_bl), ?_⟩
    refine ⟨.ref a, rfl, a, ns, 3, rfl, hS, hn, by decide, by decide, fun Hc p cs sc np ep hc1 hc2 => ?_⟩
    have hlen : (cs.map V.int).length = cs.length := List.length_map _
    refine ⟨.ref p, rfl, p, _, rfl, .inl (.inl (.inl ep)), _, rfl, by omega, by omega, ?_⟩
    have hj : ((cs.map V.int).length : Int).toNat = cs.length := by rw [hlen]; rfl
    rw [hj]
    refine for_range (fun i σ H' => H' p = some (.lst (cs.map V.int)) ∧ ∃ (y2 y3 y4 : Option V), σ = [some (.ref a), some (.ref p), y2, y3, y4]) ⟨ep, none, none, none, rfl⟩ (fun i σ H1 hi hPv => ?_) (fun σ H' hPv => q _)
    obtain ⟨ep1, y2, y3, y4, rfl⟩ := hPv
    refine ⟨.ref p, rfl, _, rfl, p, cs, i, ?_, .inl (.inl ep1), by omega, fun Hb b sb nb hBb => ?_⟩
    · show [V.ref p, V.int ((0 : Int) + (i : Nat))] = _
      rw [Int.zero_add]
    have epb := sb _ _ ep1
    have pb : p ≠ b := ne_of_none ep1 nb
    refine ⟨2, rfl, by decide, by decide, fun D nD => ?_⟩
    have bD : b ≠ D := hBb.ne_new nD
    have pD : p ≠ D := ne_of_none epb nD
    refine lc_range (n := 2) (fun j H' => H' p = some (.lst (cs.map V.int)) ∧ Box (1000 * (2 - j)) H' b ∧ H' D = some (.lst (List.replicate j (.bl true))))
      ⟨same_new nD _ _ epb, (hBb.same (same_new nD)).mono (by decide), upd_same⟩ (fun j H' hj hPv => ?_) (fun H' hPv => ?_)
    · obtain ⟨ep', hB', eD⟩ := hPv
      refine ⟨rfl, yes_if ⟨_, rfl, b, 1000 * (2 - (j + 1)), rfl, hB'.mono (by omega), fun H2 k2 hB2 => ⟨_, k2 _ _ bD.symm eD, ?_, ?_, ?_, ?_⟩⟩⟩
      · rw [List.length_replicate]; exact small1000 (by omega)
      · rw [upd_ne pD]; exact k2 _ _ pb ep'
      · exact hB2.keep (c := D) keep_upd bD
      · rw [upd_same, List.replicate_succ']
    · obtain ⟨ep', hB', eD⟩ := hPv
      refine ⟨D, List.replicate 2 true, rfl, by rw [List.map_replicate]; exact .inl (.inl eD), _, rfl, ?_⟩
      rw [all_rep]
      exact iteN ⟨ep', _, _, _, rfl⟩
end
end Pc
namespace Pc
open PySem PySem.Spec PyProof.Rows L2 RZ
theorem all_mk {l : PySem.W.OpenLaw} {w : World} {K : PySem.W.Frag} {h : Heap} {mg : Str → Option Value} {fa f_p_people_of f_p_check_sizes f_p_followed f_p_result f_p_path f_p_shows_path f_p_couples_on f_p_result_bar f_p_check_result f_p_result_number f_p_beginnings_many f_p_beginning_at f_p_beginning_number f_p_cycle_from f_p_cycles f_p_distance f_p_ways_to_split f_p_words_many f_p_word_at f_p_word_number f_p_leads f_p_do_same f_p_parting f_p_shows_parting f_stream f_draw f_folded f_pick f_same f_shuffled f_random_pairing f_pairs_door f_sheets_door f_both_door f_refused f_right f_law C_Begun C_OtherSize C_NoDeed C_NoNumber C_NoPerson C_NotResult C_NotShortest f_i_OtherSize C_Hall f_m_Hall_init f_m_Hall_pairing f_m_Hall_deeds f_m_Hall_become : Addr} (X : K.In h) (G : h.Ns mainGlobals mg) (hfa : mg "law" = some (.ref fa))
    {od_p_people_of an_p_people_of : Option Addr} {sl_p_people_of : Array (Option Value)} {oc_p_people_of kV_p_people_of dc_p_people_of pm_p_people_of cd_p_people_of ct_p_people_of : Value}
    {od_p_check_sizes an_p_check_sizes : Option Addr} {sl_p_check_sizes : Array (Option Value)} {oc_p_check_sizes kV_p_check_sizes dc_p_check_sizes pm_p_check_sizes cd_p_check_sizes ct_p_check_sizes : Value}
    {od_p_followed an_p_followed : Option Addr} {sl_p_followed : Array (Option Value)} {oc_p_followed kV_p_followed dc_p_followed pm_p_followed cd_p_followed ct_p_followed : Value}
    {od_p_result an_p_result : Option Addr} {sl_p_result : Array (Option Value)} {oc_p_result kV_p_result dc_p_result pm_p_result cd_p_result ct_p_result : Value}
    {od_p_path an_p_path : Option Addr} {sl_p_path : Array (Option Value)} {oc_p_path kV_p_path dc_p_path pm_p_path cd_p_path ct_p_path : Value}
    {od_p_shows_path an_p_shows_path : Option Addr} {sl_p_shows_path : Array (Option Value)} {oc_p_shows_path kV_p_shows_path dc_p_shows_path pm_p_shows_path cd_p_shows_path ct_p_shows_path : Value}
    {od_p_couples_on an_p_couples_on : Option Addr} {sl_p_couples_on : Array (Option Value)} {oc_p_couples_on kV_p_couples_on dc_p_couples_on pm_p_couples_on cd_p_couples_on ct_p_couples_on : Value}
    {od_p_result_bar an_p_result_bar : Option Addr} {sl_p_result_bar : Array (Option Value)} {oc_p_result_bar kV_p_result_bar dc_p_result_bar pm_p_result_bar cd_p_result_bar ct_p_result_bar : Value}
    {od_p_check_result an_p_check_result : Option Addr} {sl_p_check_result : Array (Option Value)} {oc_p_check_result kV_p_check_result dc_p_check_result pm_p_check_result cd_p_check_result ct_p_check_result : Value}
    {od_p_result_number an_p_result_number : Option Addr} {sl_p_result_number : Array (Option Value)} {oc_p_result_number kV_p_result_number dc_p_result_number pm_p_result_number cd_p_result_number ct_p_result_number : Value}
    {od_p_beginnings_many an_p_beginnings_many : Option Addr} {sl_p_beginnings_many : Array (Option Value)} {oc_p_beginnings_many kV_p_beginnings_many dc_p_beginnings_many pm_p_beginnings_many cd_p_beginnings_many ct_p_beginnings_many : Value}
    {od_p_beginning_at an_p_beginning_at : Option Addr} {sl_p_beginning_at : Array (Option Value)} {oc_p_beginning_at kV_p_beginning_at dc_p_beginning_at pm_p_beginning_at cd_p_beginning_at ct_p_beginning_at : Value}
    {od_p_beginning_number an_p_beginning_number : Option Addr} {sl_p_beginning_number : Array (Option Value)} {oc_p_beginning_number kV_p_beginning_number dc_p_beginning_number pm_p_beginning_number cd_p_beginning_number ct_p_beginning_number : Value}
    {od_p_cycle_from an_p_cycle_from : Option Addr} {sl_p_cycle_from : Array (Option Value)} {oc_p_cycle_from kV_p_cycle_from dc_p_cycle_from pm_p_cycle_from cd_p_cycle_from ct_p_cycle_from : Value}
    {od_p_cycles an_p_cycles : Option Addr} {sl_p_cycles : Array (Option Value)} {oc_p_cycles kV_p_cycles dc_p_cycles pm_p_cycles cd_p_cycles ct_p_cycles : Value}
    {od_p_distance an_p_distance : Option Addr} {sl_p_distance : Array (Option Value)} {oc_p_distance kV_p_distance dc_p_distance pm_p_distance cd_p_distance ct_p_distance : Value}
    {od_p_ways_to_split an_p_ways_to_split : Option Addr} {sl_p_ways_to_split : Array (Option Value)} {oc_p_ways_to_split kV_p_ways_to_split dc_p_ways_to_split pm_p_ways_to_split cd_p_ways_to_split ct_p_ways_to_split : Value}
    {od_p_words_many an_p_words_many : Option Addr} {sl_p_words_many : Array (Option Value)} {oc_p_words_many kV_p_words_many dc_p_words_many pm_p_words_many cd_p_words_many ct_p_words_many : Value}
    {od_p_word_at an_p_word_at : Option Addr} {sl_p_word_at : Array (Option Value)} {oc_p_word_at kV_p_word_at dc_p_word_at pm_p_word_at cd_p_word_at ct_p_word_at : Value}
    {od_p_word_number an_p_word_number : Option Addr} {sl_p_word_number : Array (Option Value)} {oc_p_word_number kV_p_word_number dc_p_word_number pm_p_word_number cd_p_word_number ct_p_word_number : Value}
    {od_p_leads an_p_leads : Option Addr} {sl_p_leads : Array (Option Value)} {oc_p_leads kV_p_leads dc_p_leads pm_p_leads cd_p_leads ct_p_leads : Value}
    {od_p_do_same an_p_do_same : Option Addr} {sl_p_do_same : Array (Option Value)} {oc_p_do_same kV_p_do_same dc_p_do_same pm_p_do_same cd_p_do_same ct_p_do_same : Value}
    {od_p_parting an_p_parting : Option Addr} {sl_p_parting : Array (Option Value)} {oc_p_parting kV_p_parting dc_p_parting pm_p_parting cd_p_parting ct_p_parting : Value}
    {od_p_shows_parting an_p_shows_parting : Option Addr} {sl_p_shows_parting : Array (Option Value)} {oc_p_shows_parting kV_p_shows_parting dc_p_shows_parting pm_p_shows_parting cd_p_shows_parting ct_p_shows_parting : Value}
    {od_stream an_stream : Option Addr} {sl_stream : Array (Option Value)} {oc_stream kV_stream dc_stream pm_stream cd_stream ct_stream : Value}
    {od_draw an_draw : Option Addr} {sl_draw : Array (Option Value)} {oc_draw kV_draw dc_draw pm_draw cd_draw ct_draw : Value}
    {od_folded an_folded : Option Addr} {sl_folded : Array (Option Value)} {oc_folded kV_folded dc_folded pm_folded cd_folded ct_folded : Value}
    {od_pick an_pick : Option Addr} {sl_pick : Array (Option Value)} {oc_pick kV_pick dc_pick pm_pick cd_pick ct_pick : Value}
    {od_same an_same : Option Addr} {sl_same : Array (Option Value)} {oc_same kV_same dc_same pm_same cd_same ct_same : Value}
    {od_shuffled an_shuffled : Option Addr} {sl_shuffled : Array (Option Value)} {oc_shuffled kV_shuffled dc_shuffled pm_shuffled cd_shuffled ct_shuffled : Value}
    {od_random_pairing an_random_pairing : Option Addr} {sl_random_pairing : Array (Option Value)} {oc_random_pairing kV_random_pairing dc_random_pairing pm_random_pairing cd_random_pairing ct_random_pairing : Value}
    {od_pairs_door an_pairs_door : Option Addr} {sl_pairs_door : Array (Option Value)} {oc_pairs_door kV_pairs_door dc_pairs_door pm_pairs_door cd_pairs_door ct_pairs_door : Value}
    {od_sheets_door an_sheets_door : Option Addr} {sl_sheets_door : Array (Option Value)} {oc_sheets_door kV_sheets_door dc_sheets_door pm_sheets_door cd_sheets_door ct_sheets_door : Value}
    {od_both_door an_both_door : Option Addr} {sl_both_door : Array (Option Value)} {oc_both_door kV_both_door dc_both_door pm_both_door cd_both_door ct_both_door : Value}
    {od_refused an_refused : Option Addr} {sl_refused : Array (Option Value)} {oc_refused kV_refused dc_refused pm_refused cd_refused ct_refused : Value}
    {od_right an_right : Option Addr} {sl_right : Array (Option Value)} {oc_right kV_right dc_right pm_right cd_right ct_right : Value}
    {od_law an_law : Option Addr} {sl_law : Array (Option Value)} {oc_law kV_law dc_law pm_law cd_law ct_law : Value}
    {nm_OtherSize qn_OtherSize : Str} {Nn_OtherSize : Addr} {bs_OtherSize : List Value} {sn_OtherSize : List Str} {sub_OtherSize : List Value} {ab_OtherSize : Bool} {col_OtherSize : Option Bool} {dd_OtherSize : Option Addr} {m0_OtherSize m1_OtherSize m2_OtherSize m3_OtherSize m5_OtherSize : Option Value} {od_i_OtherSize an_i_OtherSize : Option Addr} {sl_i_OtherSize : Array (Option Value)} {oc_i_OtherSize kV_i_OtherSize dc_i_OtherSize pm_i_OtherSize cd_i_OtherSize ct_i_OtherSize : Value}
    {od_m_Hall_init an_m_Hall_init : Option Addr} {sl_m_Hall_init : Array (Option Value)} {oc_m_Hall_init kV_m_Hall_init dc_m_Hall_init pm_m_Hall_init cd_m_Hall_init ct_m_Hall_init : Value}
    {od_m_Hall_pairing an_m_Hall_pairing : Option Addr} {sl_m_Hall_pairing : Array (Option Value)} {oc_m_Hall_pairing kV_m_Hall_pairing dc_m_Hall_pairing pm_m_Hall_pairing cd_m_Hall_pairing ct_m_Hall_pairing : Value}
    {od_m_Hall_deeds an_m_Hall_deeds : Option Addr} {sl_m_Hall_deeds : Array (Option Value)} {oc_m_Hall_deeds kV_m_Hall_deeds dc_m_Hall_deeds pm_m_Hall_deeds cd_m_Hall_deeds ct_m_Hall_deeds : Value}
    {od_m_Hall_become an_m_Hall_become : Option Addr} {sl_m_Hall_become : Array (Option Value)} {oc_m_Hall_become kV_m_Hall_become dc_m_Hall_become pm_m_Hall_become cd_m_Hall_become ct_m_Hall_become : Value}
    (a_p_people_of : PySem.W.nsIn K mainGlobals "people_of" = some (some (.ref f_p_people_of))) (l_p_people_of : K.lookup f_p_people_of = some ⟨oc_p_people_of, od_p_people_of, .func (PySem.W.fnOf "people_of" "people_of" (defArgs s_p_people_of) (defBody s_p_people_of) (defScope s_p_people_of) .none kV_p_people_of dc_p_people_of pm_p_people_of an_p_people_of cd_p_people_of ct_p_people_of), sl_p_people_of⟩) (c_p_people_of : PySem.W.codeIn K cd_p_people_of "people_of" = true) (k_p_people_of : PySem.W.keepIn K (.ref f_p_people_of) = true)
    (a_p_check_sizes : PySem.W.nsIn K mainGlobals "check_sizes" = some (some (.ref f_p_check_sizes))) (l_p_check_sizes : K.lookup f_p_check_sizes = some ⟨oc_p_check_sizes, od_p_check_sizes, .func (PySem.W.fnOf "check_sizes" "check_sizes" (defArgs s_p_check_sizes) (defBody s_p_check_sizes) (defScope s_p_check_sizes) .none kV_p_check_sizes dc_p_check_sizes pm_p_check_sizes an_p_check_sizes cd_p_check_sizes ct_p_check_sizes), sl_p_check_sizes⟩) (c_p_check_sizes : PySem.W.codeIn K cd_p_check_sizes "check_sizes" = true) (k_p_check_sizes : PySem.W.keepIn K (.ref f_p_check_sizes) = true)
    (a_p_followed : PySem.W.nsIn K mainGlobals "followed" = some (some (.ref f_p_followed))) (l_p_followed : K.lookup f_p_followed = some ⟨oc_p_followed, od_p_followed, .func (PySem.W.fnOf "followed" "followed" (defArgs s_p_followed) (defBody s_p_followed) (defScope s_p_followed) .none kV_p_followed dc_p_followed pm_p_followed an_p_followed cd_p_followed ct_p_followed), sl_p_followed⟩) (c_p_followed : PySem.W.codeIn K cd_p_followed "followed" = true) (k_p_followed : PySem.W.keepIn K (.ref f_p_followed) = true)
    (a_p_result : PySem.W.nsIn K mainGlobals "result" = some (some (.ref f_p_result))) (l_p_result : K.lookup f_p_result = some ⟨oc_p_result, od_p_result, .func (PySem.W.fnOf "result" "result" (defArgs s_p_result) (defBody s_p_result) (defScope s_p_result) .none kV_p_result dc_p_result pm_p_result an_p_result cd_p_result ct_p_result), sl_p_result⟩) (c_p_result : PySem.W.codeIn K cd_p_result "result" = true) (k_p_result : PySem.W.keepIn K (.ref f_p_result) = true)
    (a_p_path : PySem.W.nsIn K mainGlobals "path" = some (some (.ref f_p_path))) (l_p_path : K.lookup f_p_path = some ⟨oc_p_path, od_p_path, .func (PySem.W.fnOf "path" "path" (defArgs s_p_path) (defBody s_p_path) (defScope s_p_path) .none kV_p_path dc_p_path pm_p_path an_p_path cd_p_path ct_p_path), sl_p_path⟩) (c_p_path : PySem.W.codeIn K cd_p_path "path" = true) (k_p_path : PySem.W.keepIn K (.ref f_p_path) = true)
    (a_p_shows_path : PySem.W.nsIn K mainGlobals "shows_path" = some (some (.ref f_p_shows_path))) (l_p_shows_path : K.lookup f_p_shows_path = some ⟨oc_p_shows_path, od_p_shows_path, .func (PySem.W.fnOf "shows_path" "shows_path" (defArgs s_p_shows_path) (defBody s_p_shows_path) (defScope s_p_shows_path) .none kV_p_shows_path dc_p_shows_path pm_p_shows_path an_p_shows_path cd_p_shows_path ct_p_shows_path), sl_p_shows_path⟩) (c_p_shows_path : PySem.W.codeIn K cd_p_shows_path "shows_path" = true) (k_p_shows_path : PySem.W.keepIn K (.ref f_p_shows_path) = true)
    (a_p_couples_on : PySem.W.nsIn K mainGlobals "couples_on" = some (some (.ref f_p_couples_on))) (l_p_couples_on : K.lookup f_p_couples_on = some ⟨oc_p_couples_on, od_p_couples_on, .func (PySem.W.fnOf "couples_on" "couples_on" (defArgs s_p_couples_on) (defBody s_p_couples_on) (defScope s_p_couples_on) .none kV_p_couples_on dc_p_couples_on pm_p_couples_on an_p_couples_on cd_p_couples_on ct_p_couples_on), sl_p_couples_on⟩) (c_p_couples_on : PySem.W.codeIn K cd_p_couples_on "couples_on" = true) (k_p_couples_on : PySem.W.keepIn K (.ref f_p_couples_on) = true)
    (a_p_result_bar : PySem.W.nsIn K mainGlobals "result_bar" = some (some (.ref f_p_result_bar))) (l_p_result_bar : K.lookup f_p_result_bar = some ⟨oc_p_result_bar, od_p_result_bar, .func (PySem.W.fnOf "result_bar" "result_bar" (defArgs s_p_result_bar) (defBody s_p_result_bar) (defScope s_p_result_bar) .none kV_p_result_bar dc_p_result_bar pm_p_result_bar an_p_result_bar cd_p_result_bar ct_p_result_bar), sl_p_result_bar⟩) (c_p_result_bar : PySem.W.codeIn K cd_p_result_bar "result_bar" = true) (k_p_result_bar : PySem.W.keepIn K (.ref f_p_result_bar) = true)
    (a_p_check_result : PySem.W.nsIn K mainGlobals "check_result" = some (some (.ref f_p_check_result))) (l_p_check_result : K.lookup f_p_check_result = some ⟨oc_p_check_result, od_p_check_result, .func (PySem.W.fnOf "check_result" "check_result" (defArgs s_p_check_result) (defBody s_p_check_result) (defScope s_p_check_result) .none kV_p_check_result dc_p_check_result pm_p_check_result an_p_check_result cd_p_check_result ct_p_check_result), sl_p_check_result⟩) (c_p_check_result : PySem.W.codeIn K cd_p_check_result "check_result" = true) (k_p_check_result : PySem.W.keepIn K (.ref f_p_check_result) = true)
    (a_p_result_number : PySem.W.nsIn K mainGlobals "result_number" = some (some (.ref f_p_result_number))) (l_p_result_number : K.lookup f_p_result_number = some ⟨oc_p_result_number, od_p_result_number, .func (PySem.W.fnOf "result_number" "result_number" (defArgs s_p_result_number) (defBody s_p_result_number) (defScope s_p_result_number) .none kV_p_result_number dc_p_result_number pm_p_result_number an_p_result_number cd_p_result_number ct_p_result_number), sl_p_result_number⟩) (c_p_result_number : PySem.W.codeIn K cd_p_result_number "result_number" = true) (k_p_result_number : PySem.W.keepIn K (.ref f_p_result_number) = true)
    (a_p_beginnings_many : PySem.W.nsIn K mainGlobals "beginnings_many" = some (some (.ref f_p_beginnings_many))) (l_p_beginnings_many : K.lookup f_p_beginnings_many = some ⟨oc_p_beginnings_many, od_p_beginnings_many, .func (PySem.W.fnOf "beginnings_many" "beginnings_many" (defArgs s_p_beginnings_many) (defBody s_p_beginnings_many) (defScope s_p_beginnings_many) .none kV_p_beginnings_many dc_p_beginnings_many pm_p_beginnings_many an_p_beginnings_many cd_p_beginnings_many ct_p_beginnings_many), sl_p_beginnings_many⟩) (c_p_beginnings_many : PySem.W.codeIn K cd_p_beginnings_many "beginnings_many" = true) (k_p_beginnings_many : PySem.W.keepIn K (.ref f_p_beginnings_many) = true)
    (a_p_beginning_at : PySem.W.nsIn K mainGlobals "beginning_at" = some (some (.ref f_p_beginning_at))) (l_p_beginning_at : K.lookup f_p_beginning_at = some ⟨oc_p_beginning_at, od_p_beginning_at, .func (PySem.W.fnOf "beginning_at" "beginning_at" (defArgs s_p_beginning_at) (defBody s_p_beginning_at) (defScope s_p_beginning_at) .none kV_p_beginning_at dc_p_beginning_at pm_p_beginning_at an_p_beginning_at cd_p_beginning_at ct_p_beginning_at), sl_p_beginning_at⟩) (c_p_beginning_at : PySem.W.codeIn K cd_p_beginning_at "beginning_at" = true) (k_p_beginning_at : PySem.W.keepIn K (.ref f_p_beginning_at) = true)
    (a_p_beginning_number : PySem.W.nsIn K mainGlobals "beginning_number" = some (some (.ref f_p_beginning_number))) (l_p_beginning_number : K.lookup f_p_beginning_number = some ⟨oc_p_beginning_number, od_p_beginning_number, .func (PySem.W.fnOf "beginning_number" "beginning_number" (defArgs s_p_beginning_number) (defBody s_p_beginning_number) (defScope s_p_beginning_number) .none kV_p_beginning_number dc_p_beginning_number pm_p_beginning_number an_p_beginning_number cd_p_beginning_number ct_p_beginning_number), sl_p_beginning_number⟩) (c_p_beginning_number : PySem.W.codeIn K cd_p_beginning_number "beginning_number" = true) (k_p_beginning_number : PySem.W.keepIn K (.ref f_p_beginning_number) = true)
    (a_p_cycle_from : PySem.W.nsIn K mainGlobals "cycle_from" = some (some (.ref f_p_cycle_from))) (l_p_cycle_from : K.lookup f_p_cycle_from = some ⟨oc_p_cycle_from, od_p_cycle_from, .func (PySem.W.fnOf "cycle_from" "cycle_from" (defArgs s_p_cycle_from) (defBody s_p_cycle_from) (defScope s_p_cycle_from) .none kV_p_cycle_from dc_p_cycle_from pm_p_cycle_from an_p_cycle_from cd_p_cycle_from ct_p_cycle_from), sl_p_cycle_from⟩) (c_p_cycle_from : PySem.W.codeIn K cd_p_cycle_from "cycle_from" = true) (k_p_cycle_from : PySem.W.keepIn K (.ref f_p_cycle_from) = true)
    (a_p_cycles : PySem.W.nsIn K mainGlobals "cycles" = some (some (.ref f_p_cycles))) (l_p_cycles : K.lookup f_p_cycles = some ⟨oc_p_cycles, od_p_cycles, .func (PySem.W.fnOf "cycles" "cycles" (defArgs s_p_cycles) (defBody s_p_cycles) (defScope s_p_cycles) .none kV_p_cycles dc_p_cycles pm_p_cycles an_p_cycles cd_p_cycles ct_p_cycles), sl_p_cycles⟩) (c_p_cycles : PySem.W.codeIn K cd_p_cycles "cycles" = true) (k_p_cycles : PySem.W.keepIn K (.ref f_p_cycles) = true)
    (a_p_distance : PySem.W.nsIn K mainGlobals "distance" = some (some (.ref f_p_distance))) (l_p_distance : K.lookup f_p_distance = some ⟨oc_p_distance, od_p_distance, .func (PySem.W.fnOf "distance" "distance" (defArgs s_p_distance) (defBody s_p_distance) (defScope s_p_distance) .none kV_p_distance dc_p_distance pm_p_distance an_p_distance cd_p_distance ct_p_distance), sl_p_distance⟩) (c_p_distance : PySem.W.codeIn K cd_p_distance "distance" = true) (k_p_distance : PySem.W.keepIn K (.ref f_p_distance) = true)
    (a_p_ways_to_split : PySem.W.nsIn K mainGlobals "ways_to_split" = some (some (.ref f_p_ways_to_split))) (l_p_ways_to_split : K.lookup f_p_ways_to_split = some ⟨oc_p_ways_to_split, od_p_ways_to_split, .func (PySem.W.fnOf "ways_to_split" "ways_to_split" (defArgs s_p_ways_to_split) (defBody s_p_ways_to_split) (defScope s_p_ways_to_split) .none kV_p_ways_to_split dc_p_ways_to_split pm_p_ways_to_split an_p_ways_to_split cd_p_ways_to_split ct_p_ways_to_split), sl_p_ways_to_split⟩) (c_p_ways_to_split : PySem.W.codeIn K cd_p_ways_to_split "ways_to_split" = true) (k_p_ways_to_split : PySem.W.keepIn K (.ref f_p_ways_to_split) = true)
    (a_p_words_many : PySem.W.nsIn K mainGlobals "words_many" = some (some (.ref f_p_words_many))) (l_p_words_many : K.lookup f_p_words_many = some ⟨oc_p_words_many, od_p_words_many, .func (PySem.W.fnOf "words_many" "words_many" (defArgs s_p_words_many) (defBody s_p_words_many) (defScope s_p_words_many) .none kV_p_words_many dc_p_words_many pm_p_words_many an_p_words_many cd_p_words_many ct_p_words_many), sl_p_words_many⟩) (c_p_words_many : PySem.W.codeIn K cd_p_words_many "words_many" = true) (k_p_words_many : PySem.W.keepIn K (.ref f_p_words_many) = true)
    (a_p_word_at : PySem.W.nsIn K mainGlobals "word_at" = some (some (.ref f_p_word_at))) (l_p_word_at : K.lookup f_p_word_at = some ⟨oc_p_word_at, od_p_word_at, .func (PySem.W.fnOf "word_at" "word_at" (defArgs s_p_word_at) (defBody s_p_word_at) (defScope s_p_word_at) .none kV_p_word_at dc_p_word_at pm_p_word_at an_p_word_at cd_p_word_at ct_p_word_at), sl_p_word_at⟩) (c_p_word_at : PySem.W.codeIn K cd_p_word_at "word_at" = true) (k_p_word_at : PySem.W.keepIn K (.ref f_p_word_at) = true)
    (a_p_word_number : PySem.W.nsIn K mainGlobals "word_number" = some (some (.ref f_p_word_number))) (l_p_word_number : K.lookup f_p_word_number = some ⟨oc_p_word_number, od_p_word_number, .func (PySem.W.fnOf "word_number" "word_number" (defArgs s_p_word_number) (defBody s_p_word_number) (defScope s_p_word_number) .none kV_p_word_number dc_p_word_number pm_p_word_number an_p_word_number cd_p_word_number ct_p_word_number), sl_p_word_number⟩) (c_p_word_number : PySem.W.codeIn K cd_p_word_number "word_number" = true) (k_p_word_number : PySem.W.keepIn K (.ref f_p_word_number) = true)
    (a_p_leads : PySem.W.nsIn K mainGlobals "leads" = some (some (.ref f_p_leads))) (l_p_leads : K.lookup f_p_leads = some ⟨oc_p_leads, od_p_leads, .func (PySem.W.fnOf "leads" "leads" (defArgs s_p_leads) (defBody s_p_leads) (defScope s_p_leads) .none kV_p_leads dc_p_leads pm_p_leads an_p_leads cd_p_leads ct_p_leads), sl_p_leads⟩) (c_p_leads : PySem.W.codeIn K cd_p_leads "leads" = true) (k_p_leads : PySem.W.keepIn K (.ref f_p_leads) = true)
    (a_p_do_same : PySem.W.nsIn K mainGlobals "do_same" = some (some (.ref f_p_do_same))) (l_p_do_same : K.lookup f_p_do_same = some ⟨oc_p_do_same, od_p_do_same, .func (PySem.W.fnOf "do_same" "do_same" (defArgs s_p_do_same) (defBody s_p_do_same) (defScope s_p_do_same) .none kV_p_do_same dc_p_do_same pm_p_do_same an_p_do_same cd_p_do_same ct_p_do_same), sl_p_do_same⟩) (c_p_do_same : PySem.W.codeIn K cd_p_do_same "do_same" = true) (k_p_do_same : PySem.W.keepIn K (.ref f_p_do_same) = true)
    (a_p_parting : PySem.W.nsIn K mainGlobals "parting" = some (some (.ref f_p_parting))) (l_p_parting : K.lookup f_p_parting = some ⟨oc_p_parting, od_p_parting, .func (PySem.W.fnOf "parting" "parting" (defArgs s_p_parting) (defBody s_p_parting) (defScope s_p_parting) .none kV_p_parting dc_p_parting pm_p_parting an_p_parting cd_p_parting ct_p_parting), sl_p_parting⟩) (c_p_parting : PySem.W.codeIn K cd_p_parting "parting" = true) (k_p_parting : PySem.W.keepIn K (.ref f_p_parting) = true)
    (a_p_shows_parting : PySem.W.nsIn K mainGlobals "shows_parting" = some (some (.ref f_p_shows_parting))) (l_p_shows_parting : K.lookup f_p_shows_parting = some ⟨oc_p_shows_parting, od_p_shows_parting, .func (PySem.W.fnOf "shows_parting" "shows_parting" (defArgs s_p_shows_parting) (defBody s_p_shows_parting) (defScope s_p_shows_parting) .none kV_p_shows_parting dc_p_shows_parting pm_p_shows_parting an_p_shows_parting cd_p_shows_parting ct_p_shows_parting), sl_p_shows_parting⟩) (c_p_shows_parting : PySem.W.codeIn K cd_p_shows_parting "shows_parting" = true) (k_p_shows_parting : PySem.W.keepIn K (.ref f_p_shows_parting) = true)
    (a_stream : PySem.W.nsIn K mainGlobals "_law_stream" = some (some (.ref f_stream))) (l_stream : K.lookup f_stream = some ⟨oc_stream, od_stream, .func (PySem.W.fnOf "_law_stream" "_law_stream" (defArgs s_stream) (defBody s_stream) (defScope s_stream) .none kV_stream dc_stream pm_stream an_stream cd_stream ct_stream), sl_stream⟩) (c_stream : PySem.W.codeIn K cd_stream "_law_stream" = true) (k_stream : PySem.W.keepIn K (.ref f_stream) = true)
    (a_draw : PySem.W.nsIn K mainGlobals "_law_draw" = some (some (.ref f_draw))) (l_draw : K.lookup f_draw = some ⟨oc_draw, od_draw, .func (PySem.W.fnOf "_law_draw" "_law_draw" (defArgs s_draw) (defBody s_draw) (defScope s_draw) .none kV_draw dc_draw pm_draw an_draw cd_draw ct_draw), sl_draw⟩) (c_draw : PySem.W.codeIn K cd_draw "_law_draw" = true) (k_draw : PySem.W.keepIn K (.ref f_draw) = true)
    (a_folded : PySem.W.nsIn K mainGlobals "_law_folded" = some (some (.ref f_folded))) (l_folded : K.lookup f_folded = some ⟨oc_folded, od_folded, .func (PySem.W.fnOf "_law_folded" "_law_folded" (defArgs s_folded) (defBody s_folded) (defScope s_folded) .none kV_folded dc_folded pm_folded an_folded cd_folded ct_folded), sl_folded⟩) (c_folded : PySem.W.codeIn K cd_folded "_law_folded" = true) (k_folded : PySem.W.keepIn K (.ref f_folded) = true)
    (a_pick : PySem.W.nsIn K mainGlobals "_law_pick" = some (some (.ref f_pick))) (l_pick : K.lookup f_pick = some ⟨oc_pick, od_pick, .func (PySem.W.fnOf "_law_pick" "_law_pick" (defArgs s_pick) (defBody s_pick) (defScope s_pick) .none kV_pick dc_pick pm_pick an_pick cd_pick ct_pick), sl_pick⟩) (c_pick : PySem.W.codeIn K cd_pick "_law_pick" = true) (k_pick : PySem.W.keepIn K (.ref f_pick) = true)
    (a_same : PySem.W.nsIn K mainGlobals "_law_same" = some (some (.ref f_same))) (l_same : K.lookup f_same = some ⟨oc_same, od_same, .func (PySem.W.fnOf "_law_same" "_law_same" (defArgs s_same) (defBody s_same) (defScope s_same) .none kV_same dc_same pm_same an_same cd_same ct_same), sl_same⟩) (c_same : PySem.W.codeIn K cd_same "_law_same" = true) (k_same : PySem.W.keepIn K (.ref f_same) = true)
    (a_shuffled : PySem.W.nsIn K mainGlobals "_law_shuffled" = some (some (.ref f_shuffled))) (l_shuffled : K.lookup f_shuffled = some ⟨oc_shuffled, od_shuffled, .func (PySem.W.fnOf "_law_shuffled" "_law_shuffled" (defArgs s_shuffled) (defBody s_shuffled) (defScope s_shuffled) .none kV_shuffled dc_shuffled pm_shuffled an_shuffled cd_shuffled ct_shuffled), sl_shuffled⟩) (c_shuffled : PySem.W.codeIn K cd_shuffled "_law_shuffled" = true) (k_shuffled : PySem.W.keepIn K (.ref f_shuffled) = true)
    (a_random_pairing : PySem.W.nsIn K mainGlobals "_law_random_pairing" = some (some (.ref f_random_pairing))) (l_random_pairing : K.lookup f_random_pairing = some ⟨oc_random_pairing, od_random_pairing, .func (PySem.W.fnOf "_law_random_pairing" "_law_random_pairing" (defArgs s_random_pairing) (defBody s_random_pairing) (defScope s_random_pairing) .none kV_random_pairing dc_random_pairing pm_random_pairing an_random_pairing cd_random_pairing ct_random_pairing), sl_random_pairing⟩) (c_random_pairing : PySem.W.codeIn K cd_random_pairing "_law_random_pairing" = true) (k_random_pairing : PySem.W.keepIn K (.ref f_random_pairing) = true)
    (a_pairs_door : PySem.W.nsIn K mainGlobals "_law_pairs_door" = some (some (.ref f_pairs_door))) (l_pairs_door : K.lookup f_pairs_door = some ⟨oc_pairs_door, od_pairs_door, .func (PySem.W.fnOf "_law_pairs_door" "_law_pairs_door" (defArgs s_pairs_door) (defBody s_pairs_door) (defScope s_pairs_door) .none kV_pairs_door dc_pairs_door pm_pairs_door an_pairs_door cd_pairs_door ct_pairs_door), sl_pairs_door⟩) (c_pairs_door : PySem.W.codeIn K cd_pairs_door "_law_pairs_door" = true) (k_pairs_door : PySem.W.keepIn K (.ref f_pairs_door) = true)
    (a_sheets_door : PySem.W.nsIn K mainGlobals "_law_sheets_door" = some (some (.ref f_sheets_door))) (l_sheets_door : K.lookup f_sheets_door = some ⟨oc_sheets_door, od_sheets_door, .func (PySem.W.fnOf "_law_sheets_door" "_law_sheets_door" (defArgs s_sheets_door) (defBody s_sheets_door) (defScope s_sheets_door) .none kV_sheets_door dc_sheets_door pm_sheets_door an_sheets_door cd_sheets_door ct_sheets_door), sl_sheets_door⟩) (c_sheets_door : PySem.W.codeIn K cd_sheets_door "_law_sheets_door" = true) (k_sheets_door : PySem.W.keepIn K (.ref f_sheets_door) = true)
    (a_both_door : PySem.W.nsIn K mainGlobals "_law_both_door" = some (some (.ref f_both_door))) (l_both_door : K.lookup f_both_door = some ⟨oc_both_door, od_both_door, .func (PySem.W.fnOf "_law_both_door" "_law_both_door" (defArgs s_both_door) (defBody s_both_door) (defScope s_both_door) .none kV_both_door dc_both_door pm_both_door an_both_door cd_both_door ct_both_door), sl_both_door⟩) (c_both_door : PySem.W.codeIn K cd_both_door "_law_both_door" = true) (k_both_door : PySem.W.keepIn K (.ref f_both_door) = true)
    (a_refused : PySem.W.nsIn K mainGlobals "_law_refused" = some (some (.ref f_refused))) (l_refused : K.lookup f_refused = some ⟨oc_refused, od_refused, .func (PySem.W.fnOf "_law_refused" "_law_refused" (defArgs s_refused) (defBody s_refused) (defScope s_refused) .none kV_refused dc_refused pm_refused an_refused cd_refused ct_refused), sl_refused⟩) (c_refused : PySem.W.codeIn K cd_refused "_law_refused" = true) (k_refused : PySem.W.keepIn K (.ref f_refused) = true)
    (a_right : PySem.W.nsIn K mainGlobals "_law_right" = some (some (.ref f_right))) (l_right : K.lookup f_right = some ⟨oc_right, od_right, .func (PySem.W.fnOf "_law_right" "_law_right" (defArgs s_right) (defBody s_right) (defScope s_right) .none kV_right dc_right pm_right an_right cd_right ct_right), sl_right⟩) (c_right : PySem.W.codeIn K cd_right "_law_right" = true) (k_right : PySem.W.keepIn K (.ref f_right) = true)
    (a_law : PySem.W.nsIn K mainGlobals "law" = some (some (.ref f_law))) (l_law : K.lookup f_law = some ⟨oc_law, od_law, .func (PySem.W.fnOf "law" "law" (defArgs s_law) (defBody s_law) (defScope s_law) .none kV_law dc_law pm_law an_law cd_law ct_law), sl_law⟩) (c_law : PySem.W.codeIn K cd_law "law" = true) (k_law : PySem.W.keepIn K (.ref f_law) = true)
    (aC_Begun : PySem.W.nsIn K mainGlobals "Begun" = some (some (.ref C_Begun)))
    (kc_Begun : PySem.W.keepIn K (.ref C_Begun) = true)
    (aC_OtherSize : PySem.W.nsIn K mainGlobals "OtherSize" = some (some (.ref C_OtherSize)))
    (eC_OtherSize : PySem.W.subIn K (.ref C_OtherSize) (.type "BaseException") = some true)
    (tC_OtherSize : PySem.W.typeIn K (.ref C_OtherSize) = some (.type "type"))
    (is_OtherSize : PySem.W.isClsIn K C_OtherSize = true)
    (aC_NoDeed : PySem.W.nsIn K mainGlobals "NoDeed" = some (some (.ref C_NoDeed)))
    (eC_NoDeed : PySem.W.subIn K (.ref C_NoDeed) (.type "BaseException") = some true)
    (tC_NoDeed : PySem.W.typeIn K (.ref C_NoDeed) = some (.type "type"))
    (is_NoDeed : PySem.W.isClsIn K C_NoDeed = true)
    (aC_NoNumber : PySem.W.nsIn K mainGlobals "NoNumber" = some (some (.ref C_NoNumber)))
    (eC_NoNumber : PySem.W.subIn K (.ref C_NoNumber) (.type "BaseException") = some true)
    (tC_NoNumber : PySem.W.typeIn K (.ref C_NoNumber) = some (.type "type"))
    (is_NoNumber : PySem.W.isClsIn K C_NoNumber = true)
    (aC_NoPerson : PySem.W.nsIn K mainGlobals "NoPerson" = some (some (.ref C_NoPerson)))
    (eC_NoPerson : PySem.W.subIn K (.ref C_NoPerson) (.type "BaseException") = some true)
    (tC_NoPerson : PySem.W.typeIn K (.ref C_NoPerson) = some (.type "type"))
    (is_NoPerson : PySem.W.isClsIn K C_NoPerson = true)
    (aC_NotResult : PySem.W.nsIn K mainGlobals "NotResult" = some (some (.ref C_NotResult)))
    (eC_NotResult : PySem.W.subIn K (.ref C_NotResult) (.type "BaseException") = some true)
    (tC_NotResult : PySem.W.typeIn K (.ref C_NotResult) = some (.type "type"))
    (is_NotResult : PySem.W.isClsIn K C_NotResult = true)
    (aC_NotShortest : PySem.W.nsIn K mainGlobals "NotShortest" = some (some (.ref C_NotShortest)))
    (eC_NotShortest : PySem.W.subIn K (.ref C_NotShortest) (.type "BaseException") = some true)
    (tC_NotShortest : PySem.W.typeIn K (.ref C_NotShortest) = some (.type "type"))
    (is_NotShortest : PySem.W.isClsIn K C_NotShortest = true)
    (xC_OtherSize : K.lookup C_OtherSize = some (excClassObj nm_OtherSize qn_OtherSize C_OtherSize Nn_OtherSize bs_OtherSize [.type "ValueError", .type "Exception", .type "BaseException", .type "object"] true sn_OtherSize sub_OtherSize ab_OtherSize col_OtherSize dd_OtherSize m0_OtherSize m1_OtherSize m2_OtherSize m3_OtherSize m5_OtherSize "ValueError.__new__"))
    (sa_OtherSize : PySem.W.findIn K (.ref C_OtherSize) "__setattr__" = some (some (.builtin "object.__setattr__")))
    (ga_OtherSize : PySem.W.findIn K (.ref C_OtherSize) "__getattribute__" = some (some (.builtin "BaseException.__getattribute__")))
    (gg_OtherSize : PySem.W.findIn K (.ref C_OtherSize) "__getattr__" = some none)
    (kC_OtherSize : PySem.W.keepIn K (.ref C_OtherSize) = true)
    (hC_OtherSize : PySem.W.hasDictIn K C_OtherSize = true)
    (cl_OtherSize : PySem.W.findIn K (.ref C_OtherSize) "__class__" = some (some (.builtin "object.__class__")))
    (mr_OtherSize : PySem.W.mroIn K C_OtherSize (.type "object") = some true)
    (iC_OtherSize : PySem.W.findIn K (.ref C_OtherSize) "__init__" = some (some (.ref f_i_OtherSize)))
    (tI_OtherSize : PySem.W.typeIn K (.ref f_i_OtherSize) = some (.type "function"))
    (lI_OtherSize : K.lookup f_i_OtherSize = some ⟨oc_i_OtherSize, od_i_OtherSize, .func (PySem.W.fnOf "__init__" "OtherSize.__init__" (defArgs s_i_OtherSize) (defBody s_i_OtherSize) (defScope s_i_OtherSize) .none kV_i_OtherSize dc_i_OtherSize pm_i_OtherSize an_i_OtherSize cd_i_OtherSize ct_i_OtherSize), sl_i_OtherSize⟩)
    (cI_OtherSize : PySem.W.codeIn K cd_i_OtherSize "OtherSize.__init__" = true)
    (kI_OtherSize : PySem.W.keepIn K (.ref f_i_OtherSize) = true)
    (su_OtherSize : PySem.W.subIn K (.ref C_OtherSize) (.ref C_OtherSize) = some true)
    (no_OtherSize : PySem.W.findIn K (.ref C_OtherSize) "size" = some none)
    (su_OtherSize_NoDeed : PySem.W.subIn K (.ref C_OtherSize) (.ref C_NoDeed) = some false)
    (su_OtherSize_NoNumber : PySem.W.subIn K (.ref C_OtherSize) (.ref C_NoNumber) = some false)
    (su_OtherSize_NoPerson : PySem.W.subIn K (.ref C_OtherSize) (.ref C_NoPerson) = some false)
    (su_OtherSize_NotResult : PySem.W.subIn K (.ref C_OtherSize) (.ref C_NotResult) = some false)
    (su_OtherSize_NotShortest : PySem.W.subIn K (.ref C_OtherSize) (.ref C_NotShortest) = some false)
    (sb_OtherSize_ValueError : PySem.W.subIn K (.ref C_OtherSize) (.type "ValueError") = some true)
    (vV_ValueError : PySem.W.findCls K (.type "ValueError") (.type "type") "__init__" = some (.val (.builtin "ValueError.__init__")))
    (spG : PySem.W.specialIn K (.builtin "object.__class__") "__get__" = some (some (.builtin "getset_descriptor.__get__")))
    (tkG : PySem.W.takesIn K (.builtin "object.__class__") = some true)
    (aC_Hall : PySem.W.nsIn K mainGlobals "Hall" = some (some (.ref C_Hall)))
    (pg_Hall : PySem.W.plainGet K C_Hall Str.empty = true)
    (hd_Hall : PySem.W.hasDictIn K C_Hall = true)
    (po_Hall : PySem.W.plainOver K C_Hall = true)
    (sa_Hall : PySem.W.findIn K (.ref C_Hall) "__setattr__" = some (some (.builtin "object.__setattr__")))
    (mk_Hall : PySem.W.makesIn K C_Hall = true)
    (kc_Hall : PySem.W.keepIn K (.ref C_Hall) = true)
    (nF_Hall_past : PySem.W.findIn K (.ref C_Hall) "past" = some none)
    (nF_Hall_written : PySem.W.findIn K (.ref C_Hall) "written" = some none)
    (am_Hall_init : PySem.W.findIn K (.ref C_Hall) "__init__" = some (some (.ref f_m_Hall_init)))
    (im_Hall_init : PySem.W.isFn K (.ref f_m_Hall_init) = true)
    (lm_Hall_init : K.lookup f_m_Hall_init = some ⟨oc_m_Hall_init, od_m_Hall_init, .func (PySem.W.fnOf "__init__" "Hall.__init__" (defArgs s_m_Hall_init) (defBody s_m_Hall_init) (defScope s_m_Hall_init) .none kV_m_Hall_init dc_m_Hall_init pm_m_Hall_init an_m_Hall_init cd_m_Hall_init ct_m_Hall_init), sl_m_Hall_init⟩)
    (cm_Hall_init : PySem.W.codeIn K cd_m_Hall_init "Hall.__init__" = true)
    (km_Hall_init : PySem.W.keepIn K (.ref f_m_Hall_init) = true)
    (am_Hall_pairing : PySem.W.findIn K (.ref C_Hall) "pairing" = some (some (.ref f_m_Hall_pairing)))
    (im_Hall_pairing : PySem.W.isFn K (.ref f_m_Hall_pairing) = true)
    (lm_Hall_pairing : K.lookup f_m_Hall_pairing = some ⟨oc_m_Hall_pairing, od_m_Hall_pairing, .func (PySem.W.fnOf "pairing" "Hall.pairing" (defArgs s_m_Hall_pairing) (defBody s_m_Hall_pairing) (defScope s_m_Hall_pairing) .none kV_m_Hall_pairing dc_m_Hall_pairing pm_m_Hall_pairing an_m_Hall_pairing cd_m_Hall_pairing ct_m_Hall_pairing), sl_m_Hall_pairing⟩)
    (cm_Hall_pairing : PySem.W.codeIn K cd_m_Hall_pairing "Hall.pairing" = true)
    (km_Hall_pairing : PySem.W.keepIn K (.ref f_m_Hall_pairing) = true)
    (am_Hall_deeds : PySem.W.findIn K (.ref C_Hall) "deeds" = some (some (.ref f_m_Hall_deeds)))
    (im_Hall_deeds : PySem.W.isFn K (.ref f_m_Hall_deeds) = true)
    (lm_Hall_deeds : K.lookup f_m_Hall_deeds = some ⟨oc_m_Hall_deeds, od_m_Hall_deeds, .func (PySem.W.fnOf "deeds" "Hall.deeds" (defArgs s_m_Hall_deeds) (defBody s_m_Hall_deeds) (defScope s_m_Hall_deeds) .none kV_m_Hall_deeds dc_m_Hall_deeds pm_m_Hall_deeds an_m_Hall_deeds cd_m_Hall_deeds ct_m_Hall_deeds), sl_m_Hall_deeds⟩)
    (cm_Hall_deeds : PySem.W.codeIn K cd_m_Hall_deeds "Hall.deeds" = true)
    (km_Hall_deeds : PySem.W.keepIn K (.ref f_m_Hall_deeds) = true)
    (am_Hall_become : PySem.W.findIn K (.ref C_Hall) "become" = some (some (.ref f_m_Hall_become)))
    (im_Hall_become : PySem.W.isFn K (.ref f_m_Hall_become) = true)
    (lm_Hall_become : K.lookup f_m_Hall_become = some ⟨oc_m_Hall_become, od_m_Hall_become, .func (PySem.W.fnOf "become" "Hall.become" (defArgs s_m_Hall_become) (defBody s_m_Hall_become) (defScope s_m_Hall_become) .none kV_m_Hall_become dc_m_Hall_become pm_m_Hall_become an_m_Hall_become cd_m_Hall_become ct_m_Hall_become), sl_m_Hall_become⟩)
    (cm_Hall_become : PySem.W.codeIn K cd_m_Hall_become "Hall.become" = true)
    (km_Hall_become : PySem.W.keepIn K (.ref f_m_Hall_become) = true)
    (z_isinstance : PySem.W.nsIn K mainGlobals "isinstance" = some none) (z_int : PySem.W.nsIn K mainGlobals "int" = some none) (z_bool : PySem.W.nsIn K mainGlobals "bool" = some none) (z_len : PySem.W.nsIn K mainGlobals "len" = some none) (z_tuple : PySem.W.nsIn K mainGlobals "tuple" = some none) (z_all : PySem.W.nsIn K mainGlobals "all" = some none) (z_enumerate : PySem.W.nsIn K mainGlobals "enumerate" = some none) (z_range : PySem.W.nsIn K mainGlobals "range" = some none) (z_list : PySem.W.nsIn K mainGlobals "list" = some none) (z_set : PySem.W.nsIn K mainGlobals "set" = some none) (z_str : PySem.W.nsIn K mainGlobals "str" = some none) (z_abs : PySem.W.nsIn K mainGlobals "abs" = some none) (z_zip : PySem.W.nsIn K mainGlobals "zip" = some none) (z_ValueError : PySem.W.nsIn K mainGlobals "ValueError" = some none) :
    ∃ fd : FuncData, (∀ (s : Shared) (v : Value), BindsTo s fd ⟨[v], []⟩ [("_law_script", v)]) ∧ ∀ base : Heap, K.In base → base.Ns mainGlobals mg → FnOk l.prog w K mg base CX0 11 fa fd ["_law_script"] (spLaw K) := by
  have e := hfa.symm.trans (PySem.W.mg_of X G a_law)
  cases e
  let T : Env K mg := {
    n_isinstance := PySem.W.mg_none_of X G z_isinstance,
    n_int := PySem.W.mg_none_of X G z_int,
    n_bool := PySem.W.mg_none_of X G z_bool,
    n_len := PySem.W.mg_none_of X G z_len,
    n_tuple := PySem.W.mg_none_of X G z_tuple,
    n_all := PySem.W.mg_none_of X G z_all,
    n_enumerate := PySem.W.mg_none_of X G z_enumerate,
    n_range := PySem.W.mg_none_of X G z_range,
    n_list := PySem.W.mg_none_of X G z_list,
    n_set := PySem.W.mg_none_of X G z_set,
    n_str := PySem.W.mg_none_of X G z_str,
    n_abs := PySem.W.mg_none_of X G z_abs,
    n_zip := PySem.W.mg_none_of X G z_zip,
    n_ValueError := PySem.W.mg_none_of X G z_ValueError,
    f_p_people_of := f_p_people_of, d_p_people_of := _, F_p_people_of := fun_mk (st := s_p_people_of) l_p_people_of c_p_people_of k_p_people_of, g_p_people_of := PySem.W.mg_of X G a_p_people_of,
    f_p_check_sizes := f_p_check_sizes, d_p_check_sizes := _, F_p_check_sizes := fun_mk (st := s_p_check_sizes) l_p_check_sizes c_p_check_sizes k_p_check_sizes, g_p_check_sizes := PySem.W.mg_of X G a_p_check_sizes,
    f_p_followed := f_p_followed, d_p_followed := _, F_p_followed := fun_mk (st := s_p_followed) l_p_followed c_p_followed k_p_followed, g_p_followed := PySem.W.mg_of X G a_p_followed,
    f_p_result := f_p_result, d_p_result := _, F_p_result := fun_mk (st := s_p_result) l_p_result c_p_result k_p_result, g_p_result := PySem.W.mg_of X G a_p_result,
    f_p_path := f_p_path, d_p_path := _, F_p_path := fun_mk (st := s_p_path) l_p_path c_p_path k_p_path, g_p_path := PySem.W.mg_of X G a_p_path,
    f_p_shows_path := f_p_shows_path, d_p_shows_path := _, F_p_shows_path := fun_mk (st := s_p_shows_path) l_p_shows_path c_p_shows_path k_p_shows_path, g_p_shows_path := PySem.W.mg_of X G a_p_shows_path,
    f_p_couples_on := f_p_couples_on, d_p_couples_on := _, F_p_couples_on := fun_mk (st := s_p_couples_on) l_p_couples_on c_p_couples_on k_p_couples_on, g_p_couples_on := PySem.W.mg_of X G a_p_couples_on,
    f_p_result_bar := f_p_result_bar, d_p_result_bar := _, F_p_result_bar := fun_mk (st := s_p_result_bar) l_p_result_bar c_p_result_bar k_p_result_bar, g_p_result_bar := PySem.W.mg_of X G a_p_result_bar,
    f_p_check_result := f_p_check_result, d_p_check_result := _, F_p_check_result := fun_mk (st := s_p_check_result) l_p_check_result c_p_check_result k_p_check_result, g_p_check_result := PySem.W.mg_of X G a_p_check_result,
    f_p_result_number := f_p_result_number, d_p_result_number := _, F_p_result_number := fun_mk (st := s_p_result_number) l_p_result_number c_p_result_number k_p_result_number, g_p_result_number := PySem.W.mg_of X G a_p_result_number,
    f_p_beginnings_many := f_p_beginnings_many, d_p_beginnings_many := _, F_p_beginnings_many := fun_mk (st := s_p_beginnings_many) l_p_beginnings_many c_p_beginnings_many k_p_beginnings_many, g_p_beginnings_many := PySem.W.mg_of X G a_p_beginnings_many,
    f_p_beginning_at := f_p_beginning_at, d_p_beginning_at := _, F_p_beginning_at := fun_mk (st := s_p_beginning_at) l_p_beginning_at c_p_beginning_at k_p_beginning_at, g_p_beginning_at := PySem.W.mg_of X G a_p_beginning_at,
    f_p_beginning_number := f_p_beginning_number, d_p_beginning_number := _, F_p_beginning_number := fun_mk (st := s_p_beginning_number) l_p_beginning_number c_p_beginning_number k_p_beginning_number, g_p_beginning_number := PySem.W.mg_of X G a_p_beginning_number,
    f_p_cycle_from := f_p_cycle_from, d_p_cycle_from := _, F_p_cycle_from := fun_mk (st := s_p_cycle_from) l_p_cycle_from c_p_cycle_from k_p_cycle_from, g_p_cycle_from := PySem.W.mg_of X G a_p_cycle_from,
    f_p_cycles := f_p_cycles, d_p_cycles := _, F_p_cycles := fun_mk (st := s_p_cycles) l_p_cycles c_p_cycles k_p_cycles, g_p_cycles := PySem.W.mg_of X G a_p_cycles,
    f_p_distance := f_p_distance, d_p_distance := _, F_p_distance := fun_mk (st := s_p_distance) l_p_distance c_p_distance k_p_distance, g_p_distance := PySem.W.mg_of X G a_p_distance,
    f_p_ways_to_split := f_p_ways_to_split, d_p_ways_to_split := _, F_p_ways_to_split := fun_mk (st := s_p_ways_to_split) l_p_ways_to_split c_p_ways_to_split k_p_ways_to_split, g_p_ways_to_split := PySem.W.mg_of X G a_p_ways_to_split,
    f_p_words_many := f_p_words_many, d_p_words_many := _, F_p_words_many := fun_mk (st := s_p_words_many) l_p_words_many c_p_words_many k_p_words_many, g_p_words_many := PySem.W.mg_of X G a_p_words_many,
    f_p_word_at := f_p_word_at, d_p_word_at := _, F_p_word_at := fun_mk (st := s_p_word_at) l_p_word_at c_p_word_at k_p_word_at, g_p_word_at := PySem.W.mg_of X G a_p_word_at,
    f_p_word_number := f_p_word_number, d_p_word_number := _, F_p_word_number := fun_mk (st := s_p_word_number) l_p_word_number c_p_word_number k_p_word_number, g_p_word_number := PySem.W.mg_of X G a_p_word_number,
    f_p_leads := f_p_leads, d_p_leads := _, F_p_leads := fun_mk (st := s_p_leads) l_p_leads c_p_leads k_p_leads, g_p_leads := PySem.W.mg_of X G a_p_leads,
    f_p_do_same := f_p_do_same, d_p_do_same := _, F_p_do_same := fun_mk (st := s_p_do_same) l_p_do_same c_p_do_same k_p_do_same, g_p_do_same := PySem.W.mg_of X G a_p_do_same,
    f_p_parting := f_p_parting, d_p_parting := _, F_p_parting := fun_mk (st := s_p_parting) l_p_parting c_p_parting k_p_parting, g_p_parting := PySem.W.mg_of X G a_p_parting,
    f_p_shows_parting := f_p_shows_parting, d_p_shows_parting := _, F_p_shows_parting := fun_mk (st := s_p_shows_parting) l_p_shows_parting c_p_shows_parting k_p_shows_parting, g_p_shows_parting := PySem.W.mg_of X G a_p_shows_parting,
    f_stream := f_stream, d_stream := _, F_stream := fun_mk (st := s_stream) l_stream c_stream k_stream, g_stream := PySem.W.mg_of X G a_stream,
    f_draw := f_draw, d_draw := _, F_draw := fun_mk (st := s_draw) l_draw c_draw k_draw, g_draw := PySem.W.mg_of X G a_draw,
    f_folded := f_folded, d_folded := _, F_folded := fun_mk (st := s_folded) l_folded c_folded k_folded, g_folded := PySem.W.mg_of X G a_folded,
    f_pick := f_pick, d_pick := _, F_pick := fun_mk (st := s_pick) l_pick c_pick k_pick, g_pick := PySem.W.mg_of X G a_pick,
    f_same := f_same, d_same := _, F_same := fun_mk (st := s_same) l_same c_same k_same, g_same := PySem.W.mg_of X G a_same,
    f_shuffled := f_shuffled, d_shuffled := _, F_shuffled := fun_mk (st := s_shuffled) l_shuffled c_shuffled k_shuffled, g_shuffled := PySem.W.mg_of X G a_shuffled,
    f_random_pairing := f_random_pairing, d_random_pairing := _, F_random_pairing := fun_mk (st := s_random_pairing) l_random_pairing c_random_pairing k_random_pairing, g_random_pairing := PySem.W.mg_of X G a_random_pairing,
    f_pairs_door := f_pairs_door, d_pairs_door := _, F_pairs_door := fun_mk (st := s_pairs_door) l_pairs_door c_pairs_door k_pairs_door, g_pairs_door := PySem.W.mg_of X G a_pairs_door,
    f_sheets_door := f_sheets_door, d_sheets_door := _, F_sheets_door := fun_mk (st := s_sheets_door) l_sheets_door c_sheets_door k_sheets_door, g_sheets_door := PySem.W.mg_of X G a_sheets_door,
    f_both_door := f_both_door, d_both_door := _, F_both_door := fun_mk (st := s_both_door) l_both_door c_both_door k_both_door, g_both_door := PySem.W.mg_of X G a_both_door,
    f_refused := f_refused, d_refused := _, F_refused := fun_mk (st := s_refused) l_refused c_refused k_refused, g_refused := PySem.W.mg_of X G a_refused,
    f_right := f_right, d_right := _, F_right := fun_mk (st := s_right) l_right c_right k_right, g_right := PySem.W.mg_of X G a_right,
    C_Begun := C_Begun, gC_Begun := PySem.W.mg_of X G aC_Begun, kc_Begun := kc_Begun,
    C_OtherSize := C_OtherSize, gC_OtherSize := PySem.W.mg_of X G aC_OtherSize,
    C_NoDeed := C_NoDeed, gC_NoDeed := PySem.W.mg_of X G aC_NoDeed,
    C_NoNumber := C_NoNumber, gC_NoNumber := PySem.W.mg_of X G aC_NoNumber,
    C_NoPerson := C_NoPerson, gC_NoPerson := PySem.W.mg_of X G aC_NoPerson,
    C_NotResult := C_NotResult, gC_NotResult := PySem.W.mg_of X G aC_NotResult,
    C_NotShortest := C_NotShortest, gC_NotShortest := PySem.W.mg_of X G aC_NotShortest,
    own_OtherSize := ⟨⟨nm_OtherSize, qn_OtherSize, Nn_OtherSize, bs_OtherSize, sn_OtherSize, sub_OtherSize, ab_OtherSize, col_OtherSize, dd_OtherSize, m0_OtherSize, m1_OtherSize, m2_OtherSize, m3_OtherSize, m5_OtherSize, xC_OtherSize⟩, over_of xC_OtherSize (by decide +kernel), sa_OtherSize, ga_OtherSize, gg_OtherSize, eC_OtherSize, tC_OtherSize, kC_OtherSize, hC_OtherSize, cl_OtherSize, mr_OtherSize⟩,
    kpt_OtherSize := ⟨ga_OtherSize, gg_OtherSize, eC_OtherSize, hC_OtherSize, cl_OtherSize, mr_OtherSize, spG, tkG⟩,
    f_i_OtherSize := f_i_OtherSize, d_i_OtherSize := _, F_i_OtherSize := fun_mk (st := s_i_OtherSize) lI_OtherSize cI_OtherSize kI_OtherSize, iC_OtherSize := iC_OtherSize, tI_OtherSize := tI_OtherSize, ee_OtherSize := exm_of' eC_OtherSize is_OtherSize tC_OtherSize su_OtherSize, kk_OtherSize := kit_own su_OtherSize is_OtherSize tC_OtherSize su_OtherSize,
    no_OtherSize := no_OtherSize,
    ex_OtherSize_NoDeed := exm_of' eC_NoDeed is_NoDeed tC_NoDeed su_OtherSize_NoDeed, ki_OtherSize_NoDeed := kit_own su_OtherSize is_NoDeed tC_NoDeed su_OtherSize_NoDeed,
    ex_OtherSize_NoNumber := exm_of' eC_NoNumber is_NoNumber tC_NoNumber su_OtherSize_NoNumber, ki_OtherSize_NoNumber := kit_own su_OtherSize is_NoNumber tC_NoNumber su_OtherSize_NoNumber,
    ex_OtherSize_NoPerson := exm_of' eC_NoPerson is_NoPerson tC_NoPerson su_OtherSize_NoPerson, ki_OtherSize_NoPerson := kit_own su_OtherSize is_NoPerson tC_NoPerson su_OtherSize_NoPerson,
    ex_OtherSize_NotResult := exm_of' eC_NotResult is_NotResult tC_NotResult su_OtherSize_NotResult, ki_OtherSize_NotResult := kit_own su_OtherSize is_NotResult tC_NotResult su_OtherSize_NotResult,
    ex_OtherSize_NotShortest := exm_of' eC_NotShortest is_NotShortest tC_NotShortest su_OtherSize_NotShortest, ki_OtherSize_NotShortest := kit_own su_OtherSize is_NotShortest tC_NotShortest su_OtherSize_NotShortest,
    kb_OtherSize_ValueError := kit_blt (by decide +kernel) sb_OtherSize_ValueError,
    vV_ValueError := vV_ValueError,
    C_Hall := C_Hall, gC_Hall := PySem.W.mg_of X G aC_Hall, cl_Hall := ⟨pg_Hall, hd_Hall, po_Hall, sa_Hall⟩,
    nF_Hall_past := nF_Hall_past,
    nF_Hall_written := nF_Hall_written,
    f_m_Hall_init := f_m_Hall_init, d_m_Hall_init := _, F_m_Hall_init := fun_mk (st := s_m_Hall_init) lm_Hall_init cm_Hall_init km_Hall_init,
    mk_Hall := ⟨mk_Hall, am_Hall_init, im_Hall_init, kc_Hall⟩,
    f_m_Hall_pairing := f_m_Hall_pairing, d_m_Hall_pairing := _, F_m_Hall_pairing := fun_mk (st := s_m_Hall_pairing) lm_Hall_pairing cm_Hall_pairing km_Hall_pairing,
    me_Hall_pairing := ⟨am_Hall_pairing, im_Hall_pairing, km_Hall_pairing⟩,
    f_m_Hall_deeds := f_m_Hall_deeds, d_m_Hall_deeds := _, F_m_Hall_deeds := fun_mk (st := s_m_Hall_deeds) lm_Hall_deeds cm_Hall_deeds km_Hall_deeds,
    me_Hall_deeds := ⟨am_Hall_deeds, im_Hall_deeds, km_Hall_deeds⟩,
    f_m_Hall_become := f_m_Hall_become, d_m_Hall_become := _, F_m_Hall_become := fun_mk (st := s_m_Hall_become) lm_Hall_become cm_Hall_become km_Hall_become,
    me_Hall_become := ⟨am_Hall_become, im_Hall_become, km_Hall_become⟩ }
  exact ⟨PySem.W.fnOf "law" "law" (defArgs s_law) (defBody s_law) (defScope s_law) .none kV_law dc_law pm_law an_law cd_law ct_law, fun s v => .of_eq rfl, fun base _ _ => ok_law T (fun_mk (st := s_law) l_law c_law k_law)⟩
end Pc
open PySem PySem.W PyProof.Rows
set_option maxHeartbeats 0 in
theorem PySem.Challenge.cw_partnercall_k97_other_sizes_holds : PySem.Challenge.rw_partnercall_k97_other_sizes.Holds := by
  w_on; o_law; k_head; (case hw => w_witness2)
  k_fill
  refine L2.walk_of (l := PySem.Challenge.rw_partnercall_k97_other_sizes) (n := 63) (k := 11) (x := "_law_script") (CX := fun _ => L2.CX0) (sp := fun w => Pc.spLaw _) rfl (by decide) rfl ⟨rfl, by decide, by decide⟩ (fun w h Y => PySem.W.kIn_of Y) ?F (fun _ _ a ns hl _ hS => ⟨a, ns, rfl, hS, hl, fun _ => rfl⟩) (fun _ _ _ _ _ h => h)
  case F =>
    intro w mg fa h KX G hmg
    refine' Pc.all_mk KX G hmg ?a_p_people_of ?l_p_people_of ?c_p_people_of ?k_p_people_of ?a_p_check_sizes ?l_p_check_sizes ?c_p_check_sizes ?k_p_check_sizes ?a_p_followed ?l_p_followed ?c_p_followed ?k_p_followed ?a_p_result ?l_p_result ?c_p_result ?k_p_result ?a_p_path ?l_p_path ?c_p_path ?k_p_path ?a_p_shows_path ?l_p_shows_path ?c_p_shows_path ?k_p_shows_path ?a_p_couples_on ?l_p_couples_on ?c_p_couples_on ?k_p_couples_on ?a_p_result_bar ?l_p_result_bar ?c_p_result_bar ?k_p_result_bar ?a_p_check_result ?l_p_check_result ?c_p_check_result ?k_p_check_result ?a_p_result_number ?l_p_result_number ?c_p_result_number ?k_p_result_number ?a_p_beginnings_many ?l_p_beginnings_many ?c_p_beginnings_many ?k_p_beginnings_many ?a_p_beginning_at ?l_p_beginning_at ?c_p_beginning_at ?k_p_beginning_at ?a_p_beginning_number ?l_p_beginning_number ?c_p_beginning_number ?k_p_beginning_number ?a_p_cycle_from ?l_p_cycle_from ?c_p_cycle_from ?k_p_cycle_from ?a_p_cycles ?l_p_cycles ?c_p_cycles ?k_p_cycles ?a_p_distance ?l_p_distance ?c_p_distance ?k_p_distance ?a_p_ways_to_split ?l_p_ways_to_split ?c_p_ways_to_split ?k_p_ways_to_split ?a_p_words_many ?l_p_words_many ?c_p_words_many ?k_p_words_many ?a_p_word_at ?l_p_word_at ?c_p_word_at ?k_p_word_at ?a_p_word_number ?l_p_word_number ?c_p_word_number ?k_p_word_number ?a_p_leads ?l_p_leads ?c_p_leads ?k_p_leads ?a_p_do_same ?l_p_do_same ?c_p_do_same ?k_p_do_same ?a_p_parting ?l_p_parting ?c_p_parting ?k_p_parting ?a_p_shows_parting ?l_p_shows_parting ?c_p_shows_parting ?k_p_shows_parting ?a_stream ?l_stream ?c_stream ?k_stream ?a_draw ?l_draw ?c_draw ?k_draw ?a_folded ?l_folded ?c_folded ?k_folded ?a_pick ?l_pick ?c_pick ?k_pick ?a_same ?l_same ?c_same ?k_same ?a_shuffled ?l_shuffled ?c_shuffled ?k_shuffled ?a_random_pairing ?l_random_pairing ?c_random_pairing ?k_random_pairing ?a_pairs_door ?l_pairs_door ?c_pairs_door ?k_pairs_door ?a_sheets_door ?l_sheets_door ?c_sheets_door ?k_sheets_door ?a_both_door ?l_both_door ?c_both_door ?k_both_door ?a_refused ?l_refused ?c_refused ?k_refused ?a_right ?l_right ?c_right ?k_right ?a_law ?l_law ?c_law ?k_law ?aC_Begun ?kc_Begun ?aC_OtherSize ?eC_OtherSize ?tC_OtherSize ?is_OtherSize ?aC_NoDeed ?eC_NoDeed ?tC_NoDeed ?is_NoDeed ?aC_NoNumber ?eC_NoNumber ?tC_NoNumber ?is_NoNumber ?aC_NoPerson ?eC_NoPerson ?tC_NoPerson ?is_NoPerson ?aC_NotResult ?eC_NotResult ?tC_NotResult ?is_NotResult ?aC_NotShortest ?eC_NotShortest ?tC_NotShortest ?is_NotShortest ?xC_OtherSize ?sa_OtherSize ?ga_OtherSize ?gg_OtherSize ?kC_OtherSize ?hC_OtherSize ?cl_OtherSize ?mr_OtherSize ?iC_OtherSize ?tI_OtherSize ?lI_OtherSize ?cI_OtherSize ?kI_OtherSize ?su_OtherSize ?no_OtherSize ?su_OtherSize_NoDeed ?su_OtherSize_NoNumber ?su_OtherSize_NoPerson ?su_OtherSize_NotResult ?su_OtherSize_NotShortest ?sb_OtherSize_ValueError ?vV_ValueError ?spG ?tkG ?aC_Hall ?pg_Hall ?hd_Hall ?po_Hall ?sa_Hall ?mk_Hall ?kc_Hall ?nF_Hall_past ?nF_Hall_written ?am_Hall_init ?im_Hall_init ?lm_Hall_init ?cm_Hall_init ?km_Hall_init ?am_Hall_pairing ?im_Hall_pairing ?lm_Hall_pairing ?cm_Hall_pairing ?km_Hall_pairing ?am_Hall_deeds ?im_Hall_deeds ?lm_Hall_deeds ?cm_Hall_deeds ?km_Hall_deeds ?am_Hall_become ?im_Hall_become ?lm_Hall_become ?cm_Hall_become ?km_Hall_become ?z_isinstance ?z_int ?z_bool ?z_len ?z_tuple ?z_all ?z_enumerate ?z_range ?z_list ?z_set ?z_str ?z_abs ?z_zip ?z_ValueError
    (case a_p_people_of => k_is); (case l_p_people_of => k_is); (case c_p_people_of => k_is); (case k_p_people_of => k_is); (case a_p_check_sizes => k_is); (case l_p_check_sizes => k_is); (case c_p_check_sizes => k_is); (case k_p_check_sizes => k_is); (case a_p_followed => k_is); (case l_p_followed => k_is); (case c_p_followed => k_is); (case k_p_followed => k_is); (case a_p_result => k_is); (case l_p_result => k_is); (case c_p_result => k_is); (case k_p_result => k_is); (case a_p_path => k_is); (case l_p_path => k_is); (case c_p_path => k_is); (case k_p_path => k_is); (case a_p_shows_path => k_is); (case l_p_shows_path => k_is); (case c_p_shows_path => k_is); (case k_p_shows_path => k_is); (case a_p_couples_on => k_is); (case l_p_couples_on => k_is); (case c_p_couples_on => k_is); (case k_p_couples_on => k_is); (case a_p_result_bar => k_is); (case l_p_result_bar => k_is); (case c_p_result_bar => k_is); (case k_p_result_bar => k_is); (case a_p_check_result => k_is); (case l_p_check_result => k_is); (case c_p_check_result => k_is); (case k_p_check_result => k_is); (case a_p_result_number => k_is); (case l_p_result_number => k_is); (case c_p_result_number => k_is); (case k_p_result_number => k_is); (case a_p_beginnings_many => k_is); (case l_p_beginnings_many => k_is); (case c_p_beginnings_many => k_is); (case k_p_beginnings_many => k_is); (case a_p_beginning_at => k_is); (case l_p_beginning_at => k_is); (case c_p_beginning_at => k_is); (case k_p_beginning_at => k_is); (case a_p_beginning_number => k_is); (case l_p_beginning_number => k_is); (case c_p_beginning_number => k_is); (case k_p_beginning_number => k_is); (case a_p_cycle_from => k_is); (case l_p_cycle_from => k_is); (case c_p_cycle_from => k_is); (case k_p_cycle_from => k_is); (case a_p_cycles => k_is); (case l_p_cycles => k_is); (case c_p_cycles => k_is); (case k_p_cycles => k_is); (case a_p_distance => k_is); (case l_p_distance => k_is); (case c_p_distance => k_is); (case k_p_distance => k_is); (case a_p_ways_to_split => k_is); (case l_p_ways_to_split => k_is); (case c_p_ways_to_split => k_is); (case k_p_ways_to_split => k_is); (case a_p_words_many => k_is); (case l_p_words_many => k_is); (case c_p_words_many => k_is); (case k_p_words_many => k_is); (case a_p_word_at => k_is); (case l_p_word_at => k_is); (case c_p_word_at => k_is); (case k_p_word_at => k_is); (case a_p_word_number => k_is); (case l_p_word_number => k_is); (case c_p_word_number => k_is); (case k_p_word_number => k_is); (case a_p_leads => k_is); (case l_p_leads => k_is); (case c_p_leads => k_is); (case k_p_leads => k_is); (case a_p_do_same => k_is); (case l_p_do_same => k_is); (case c_p_do_same => k_is); (case k_p_do_same => k_is); (case a_p_parting => k_is); (case l_p_parting => k_is); (case c_p_parting => k_is); (case k_p_parting => k_is); (case a_p_shows_parting => k_is); (case l_p_shows_parting => k_is); (case c_p_shows_parting => k_is); (case k_p_shows_parting => k_is); (case a_stream => k_is); (case l_stream => k_is); (case c_stream => k_is); (case k_stream => k_is); (case a_draw => k_is); (case l_draw => k_is); (case c_draw => k_is); (case k_draw => k_is); (case a_folded => k_is); (case l_folded => k_is); (case c_folded => k_is); (case k_folded => k_is); (case a_pick => k_is); (case l_pick => k_is); (case c_pick => k_is); (case k_pick => k_is); (case a_same => k_is); (case l_same => k_is); (case c_same => k_is); (case k_same => k_is); (case a_shuffled => k_is); (case l_shuffled => k_is); (case c_shuffled => k_is); (case k_shuffled => k_is); (case a_random_pairing => k_is); (case l_random_pairing => k_is); (case c_random_pairing => k_is); (case k_random_pairing => k_is); (case a_pairs_door => k_is); (case l_pairs_door => k_is); (case c_pairs_door => k_is); (case k_pairs_door => k_is); (case a_sheets_door => k_is); (case l_sheets_door => k_is); (case c_sheets_door => k_is); (case k_sheets_door => k_is); (case a_both_door => k_is); (case l_both_door => k_is); (case c_both_door => k_is); (case k_both_door => k_is); (case a_refused => k_is); (case l_refused => k_is); (case c_refused => k_is); (case k_refused => k_is); (case a_right => k_is); (case l_right => k_is); (case c_right => k_is); (case k_right => k_is); (case a_law => k_is); (case l_law => k_is); (case c_law => k_is); (case k_law => k_is); (case aC_Begun => k_is); (case kc_Begun => k_is); (case aC_OtherSize => k_is); (case eC_OtherSize => k_is); (case tC_OtherSize => k_is); (case is_OtherSize => k_is); (case aC_NoDeed => k_is); (case eC_NoDeed => k_is); (case tC_NoDeed => k_is); (case is_NoDeed => k_is); (case aC_NoNumber => k_is); (case eC_NoNumber => k_is); (case tC_NoNumber => k_is); (case is_NoNumber => k_is); (case aC_NoPerson => k_is); (case eC_NoPerson => k_is); (case tC_NoPerson => k_is); (case is_NoPerson => k_is); (case aC_NotResult => k_is); (case eC_NotResult => k_is); (case tC_NotResult => k_is); (case is_NotResult => k_is); (case aC_NotShortest => k_is); (case eC_NotShortest => k_is); (case tC_NotShortest => k_is); (case is_NotShortest => k_is); (case xC_OtherSize => k_is); (case sa_OtherSize => k_is); (case ga_OtherSize => k_is); (case gg_OtherSize => k_is); (case kC_OtherSize => k_is); (case hC_OtherSize => k_is); (case cl_OtherSize => k_is); (case mr_OtherSize => k_is); (case iC_OtherSize => k_is); (case tI_OtherSize => k_is); (case lI_OtherSize => k_is); (case cI_OtherSize => k_is); (case kI_OtherSize => k_is); (case su_OtherSize => k_is); (case no_OtherSize => k_is); (case su_OtherSize_NoDeed => k_is); (case su_OtherSize_NoNumber => k_is); (case su_OtherSize_NoPerson => k_is); (case su_OtherSize_NotResult => k_is); (case su_OtherSize_NotShortest => k_is); (case sb_OtherSize_ValueError => k_is); (case vV_ValueError => k_is); (case spG => k_is); (case tkG => k_is); (case aC_Hall => k_is); (case pg_Hall => k_is); (case hd_Hall => k_is); (case po_Hall => k_is); (case sa_Hall => k_is); (case mk_Hall => k_is); (case kc_Hall => k_is); (case nF_Hall_past => k_is); (case nF_Hall_written => k_is); (case am_Hall_init => k_is); (case im_Hall_init => k_is); (case lm_Hall_init => k_is); (case cm_Hall_init => k_is); (case km_Hall_init => k_is); (case am_Hall_pairing => k_is); (case im_Hall_pairing => k_is); (case lm_Hall_pairing => k_is); (case cm_Hall_pairing => k_is); (case km_Hall_pairing => k_is); (case am_Hall_deeds => k_is); (case im_Hall_deeds => k_is); (case lm_Hall_deeds => k_is); (case cm_Hall_deeds => k_is); (case km_Hall_deeds => k_is); (case am_Hall_become => k_is); (case im_Hall_become => k_is); (case lm_Hall_become => k_is); (case cm_Hall_become => k_is); (case km_Hall_become => k_is); (case z_isinstance => k_is); (case z_int => k_is); (case z_bool => k_is); (case z_len => k_is); (case z_tuple => k_is); (case z_all => k_is); (case z_enumerate => k_is); (case z_range => k_is); (case z_list => k_is); (case z_set => k_is); (case z_str => k_is); (case z_abs => k_is); (case z_zip => k_is); (case z_ValueError => k_is)

