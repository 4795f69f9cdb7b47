import PyProof.Rows.All
import Wide.All
import OpenK.AllK
import Wide.FinOn
import HandS.ForMost
import HandS.IsInst
import HandS.TupAny
import HandS.TupMul
import HandS.Wide
import HandS.Codes
import HandS.DictComp
import HandS.Walk
import HandS.Zip
import HandS.Deep
import HandS.MakeKwOnly
import HandS.SortRule
import HandS.SortInts
import HandS.TupSets
import HandS.CallRecv
import HandS.ExcInit
import HandS.ClsMeth
import HandS.ExcField
import HandS.TryMany
import HandS.Lambda
import HandS.ExcIs
import HandS.WordsExc
import HandS.Style
import HandS.Strs
import HandS.EndOwn
import KE.KStateDown
import KE.KNest
import KE.KNestM
import HandS.Defaults
import HandS.Head0
import HandS.Head1
import HandS.Head2
import HandS.HeadHook1
import HandS.HeadHook2
import HandS.HeadHook3
import HandS.HeadHook4
import HandS.HeadWalk
import KE.GoesMore
import KE.KExcInit
import KE.KExcIs
import HandS.OwnEq
import HandS.Nested
import HandS.Zip
import KE.KDictZip
import HandS.Text
import HandS.Deep
import KE.KSortTupAny
import HandS.Conv
import HandS.SortInts
import HandS.FStr
import KE.KCallOwn
import PySem.Challenge.RW_tearboard_k03_books_told
set_option Elab.async false
set_option linter.all false
set_option maxRecDepth 100000
set_option maxHeartbeats 4000000
namespace TB
open PySem PySem.Spec PyProof.Rows L2
def topS (i : Nat) : Stmt := PySem.Challenge.pw_tearboard_k03_books_told.main.body.getD i (.Pass ⟨0, 0, 0, 0⟩)
/-! heaps -/
theorem same_upd {H : Hp} {p : Addr} {o : HO} (h : H p = none) : Same H (upd H p o) := fun b x e => by
  rw [upd_ne (ne_of_none e h)]
  exact e
/-- all that was tracked is as it was, but at b -/
def Off (b : Addr) (H H' : Hp) : Prop := ∀ a o, a ≠ b → H a = some o → H' a = some o
theorem Off.refl {b : Addr} {H : Hp} : Off b H H := fun _ _ _ h => h
theorem Off.trans {b : Addr} {H H1 H2 : Hp} (x : Off b H H1) (y : Off b H1 H2) : Off b H H2 := fun a o n h => y a o n (x a o n h)
theorem Off.same {b : Addr} {H H' : Hp} (x : Same H H') : Off b H H' := fun a o _ h => x a o h
theorem Off.upd {b : Addr} {H : Hp} {o : HO} : Off b H (upd H b o) := fun a x n h => by
  rw [upd_ne n]
  exact h
theorem Off.seqL {K : PySem.W.Frag} {b : Addr} {H H' : Hp} {a : Addr} {xs : List V} (x : Off b H H') (n : a ≠ b) (h : H a = some (.lst xs)) : H' a = some (.lst xs) := x a _ n h
/-- the bag of drawn numbers -/
structure Bag (H : Hp) (b c : Addr) : Prop where
  ex : ∃ (cells : List Int) (at' rest seed : Int), H b = some (.lst [.ref c, .int at', .int rest, .int seed]) ∧ H c = some (.lst (cells.map V.int)) ∧ 0 ≤ at' ∧ 0 ≤ rest ∧ 0 ≤ seed ∧ seed < 1000000000000 ∧ c ≠ b
theorem Bag.same {H H' : Hp} {b c : Addr} (h : Bag H b c) (x : Same H H') : Bag H' b c := by
  obtain ⟨cells, a, r, s, h1, h2, h3⟩ := h.ex
  exact ⟨cells, a, r, s, x _ _ h1, x _ _ h2, h3⟩
theorem Bag.ne {H : Hp} {b c p : Addr} (h : Bag H b c) (n : H p = none) : p ≠ b ∧ p ≠ c := by
  obtain ⟨cells, a, r, s, h1, h2, h3⟩ := h.ex
  exact ⟨(ne_of_none h1 n).symm, (ne_of_none h2 n).symm⟩
theorem Bag.upd {H : Hp} {b c p : Addr} {o : HO} (h : Bag H b c) (n : p ≠ b ∧ p ≠ c) : Bag (upd H p o) b c := by
  obtain ⟨cells, a, r, s, h1, h2, h3⟩ := h.ex
  refine ⟨cells, a, r, s, ?_, ?_, h3⟩
  · rw [upd_ne n.1.symm]
    exact h1
  · rw [upd_ne n.2.symm]
    exact h2
/-! ### exceptions of own classes over any of the plain built-in bases -/
/-- what the written part tells of the class at C; D is its mro behind C, B the built-in base -/
structure OexG (K : PySem.W.Frag) (C : Addr) : Prop where
  cls : ∃ (nm q : Str) (N : Addr) (bs bm : List Value) (sn : List Str) (sub : List Value) (ab : Bool) (col : Option Bool) (dd : Option Addr) (k0 k1 k2 k3 k5 : Option Value) (B nw it : String) (bmB : List Value),
    ExcBaseFacts B nw it bmB ∧ K.lookup C = some (excClassObj nm q C N bs bm true sn sub ab col dd k0 k1 k2 k3 k5 nw) ∧ (∀ Y : String, bm.contains (.type Y) = bmB.contains (.type Y)) ∧
      bmB.contains (.type "object") = true ∧ ∀ self : Value, refuseLoop self "__setattr__" (.ref C :: bm) = pure ()
  sa : PySem.W.findIn K (.ref C) "__setattr__" = some (some (.builtin "object.__setattr__"))
  exC : PySem.W.subIn K (.ref C) (.type "BaseException") = some true
  tyC : PySem.W.typeIn K (.ref C) = some (.type "type")
  kC : PySem.W.keepIn K (.ref C) = true
section
open Builtin Builtin.ObjectAttr PySem.W PySem.HandSPX
variable {prog : Program} {w : World} {A : Around} {R : Result → Shared → Prop} {hp : Heap} {g : Array GenState} {d : Drawn} {t : Nat} {os : OsState} {K : Frag} {name : Str} {tk : Tok} {v : Value} {x C : Addr} {fv : Array Value} {cd : ClassData}
/-- object.__setattr__ up to the own dict, whatever dict there is -/
theorem gosa {ox : Obj} {od : Option Obj} (hT : K.In hp) (I : InstAt hp x ox C od) (hcd : clsIn K C = some cd) (hne : cd.mro.isEmpty = false) (hob : cd.mro.contains (.type "object") = true) (hps : ∀ self : Value, refuseLoop self "__setattr__" cd.mro = pure ())
    (hno : findIn K (.ref C) name = some none)
    (hq : wpAny (model prog w) A.in1 (storeInOwnDict (.ref x) (.ref C) (.str name tk) name v false) (fun fin s' => match fin with | .done (.ret u) => R (.ok (.ret u)) s' | _ => False) (fun _ _ => False) ⟨hp, g, d, t, os⟩) :
    codeAny (model prog w) A (.call (.builtin "object.__setattr__") ⟨[.ref x, .str name tk, v], []⟩) R ⟨hp, g, d, t, os⟩ := by
  have so := PySem.F.store_object
  have isO : Looks (model prog w) hp (isInstance (.ref x) (.type "object")) true := I.type.andThen (looks_mroIn hT (by unfold mroIn; rw [hcd, Option.bind_some, if_neg (by rw [hne]; decide), hob]))
  refine codeAny_call_builtin so.slot.plain so.entry (@check_slot (model prog w) _ _ ⟨hp, g, d, t, os⟩ "object.__setattr__" "object" "__setattr__" (.ref x) [.str name tk, v] [] _ so.kind so.split isO (so.args (.ref x) (.str name tk) v) ?_)
  have lm : Looks (model prog w) hp (mroOf (.ref C)) cd.mro := (looks_clsIn hT hcd).andThen .now
  have ln : Looks (model prog w) hp (storeTaker? none) none := .now
  rw [osa_eq, refuse_eq]
  refine wpAny_bind (wpAny_bind (I.type.at (wpAny_bind (lm.at ?_))))
  rw [hps]
  refine wpAny_pure (wpAny_bind (I.type.at (wpAny_bind ((looks_findIn hT hno).at (wpAny_bind (ln.at ?_))))))
  refine wpAny_mono hq (fun fin s' z => ?_) fun _ _ z => z.elim
  rcases fin with (_ | _ | _ | _) | c <;> first | exact z | exact z.elim
/-- the first field: the dict is new -/
theorem gosa_new (hT : K.In hp) (hx : hp.get? x = some { cls := .ref C, data := .fields fv }) (hcd : clsIn K C = some cd) (hne : cd.mro.isEmpty = false) (hob : cd.mro.contains (.type "object") = true) (hps : ∀ self : Value, refuseLoop self "__setattr__" cd.mro = pure ())
    (hh : cd.hasDict = true) (hno : findIn K (.ref C) name = some none)
    (hq : ∀ h' tk' dx, (∀ b o, b ≠ x → hp.get? b = some o → h'.get? b = some o) → hp.objs.size ≤ dx → dx ≠ x → h'.get? x = some { cls := .ref C, dict := some dx, data := .fields fv } →
      h'.Ns1 dx (fun y => if y = name then some v else none) → R (.ok (.ret .none)) ⟨h', g, d, tk', os⟩) :
    codeAny (model prog w) A (.call (.builtin "object.__setattr__") ⟨[.ref x, .str name tk, v], []⟩) R ⟨hp, g, d, t, os⟩ := by
  refine gosa hT (⟨hx, rfl, rfl, trivial⟩ : InstAt hp x { cls := .ref C, data := .fields fv } C none) hcd hne hob hps hno ?_
  have lc : Looks (model prog w) hp (classData C) cd := looks_clsIn hT hcd
  have far : x ≠ hp.objs.size := Nat.ne_of_lt (Heap.lt_size hx)
  cases cd
  dsimp only at hh
  subst hh
  unfold storeInOwnDict ownDictForStores
  repeat (first | with_reducible refine store_in_new ?_ ?_ | with_reducible refine wpAny_loadPart_at hx ?_ | with_reducible refine lc.at ?_ | wp_step)
  · exact ⟨_, #[], _, (Heap.get?_update_ne _ _ _ _ far.symm).trans (Heap.get?_push_at rfl rfl), rfl, fun e he => absurd he (by simp), fun _ => rfl⟩
  · intro h' tk' hn' hs
    refine hq h' tk' hp.objs.size (fun b o hb ho => ?_) (Nat.le_refl _) far.symm ?_ hn'
    · exact (hs.2 b (Nat.ne_of_lt (Heap.lt_size ho))).trans ((Heap.get?_update_ne _ _ _ _ hb).trans (Heap.get?_push_of_some _ ho))
    · exact (hs.2 x far).trans (Heap.get?_update_self _ (Heap.get?_push_of_some _ hx) rfl)
/-- a later field: the dict is there -/
theorem gosa_old {dx : Addr} {m0 : Str → Option Value} {nl : List Str} (hT : K.In hp) (hx : hp.get? x = some { cls := .ref C, dict := some dx, data := .fields fv }) (hns : hp.Ns1 dx m0) (hw : Within m0 nl) (hz : nl.length ≤ 1000)
    (hcd : clsIn K C = some cd) (hne : cd.mro.isEmpty = false) (hob : cd.mro.contains (.type "object") = true) (hps : ∀ self : Value, refuseLoop self "__setattr__" cd.mro = pure ()) (hh : cd.hasDict = true) (hno : findIn K (.ref C) name = some none)
    (hq : ∀ h' tk', (∀ b o, b ≠ dx → hp.get? b = some o → h'.get? b = some o) → h'.Ns1 dx (fun y => if y = name then some v else m0 y) → R (.ok (.ret .none)) ⟨h', g, d, tk', os⟩) :
    codeAny (model prog w) A (.call (.builtin "object.__setattr__") ⟨[.ref x, .str name tk, v], []⟩) R ⟨hp, g, d, t, os⟩ := by
  obtain ⟨oD, _, _, hoD, _, _⟩ := hns.count hw
  refine gosa hT (⟨hx, rfl, rfl, hoD⟩ : InstAt hp x { cls := .ref C, dict := some dx, data := .fields fv } C (some oD)) hcd hne hob hps hno ?_
  have lc : Looks (model prog w) hp (classData C) cd := looks_clsIn hT hcd
  cases cd
  dsimp only at hh
  subst hh
  unfold storeInOwnDict ownDictForStores
  repeat (first | with_reducible refine PySem.OEX.store_in_old hns hw hz ?_ | with_reducible refine wpAny_loadPart_at hx ?_ | with_reducible refine lc.at ?_ | wp_step)
  intro h' tk' hn' hs
  exact hq h' tk' (fun b o hb ho => (hs.2 b hb).trans ho) hn'
end
section
variable {X : Cx} {pins : List (Addr × Obj)} {σ : L2.St} {H : Hp} {s : Shared} {a C dx : Addr} {f : Str} {y : V} {u : Value} {fs : List (Str × V)} {Q : Unit → Shared → Prop} {E : Value → Shared → Prop} {A : Around}
theorem OexG.clsD {K : PySem.W.Frag} {C : Addr} (T : OexG K C) : ∃ cd, PySem.W.clsIn K C = some cd ∧ cd.mro.isEmpty = false ∧ cd.mro.contains (.type "object") = true ∧ (∀ self : Value, refuseLoop self "__setattr__" cd.mro = pure ()) ∧ cd.hasDict = true := by
  obtain ⟨nm, q, N, bs, bm, sn, sub, ab, col, dd, k0, k1, k2, k3, k5, B, nw, it, bmB, F, hC, hc, ho, hp⟩ := T.cls
  refine ⟨{ name := nm, bases := bs, mro := .ref C :: bm, ns := N, qualname := q, hasDict := true, slotNames := sn, subclasses := sub, abstract := ab, collection := col, hasDel := false }, by unfold PySem.W.clsIn; rw [hC] <;> rfl, rfl, ?_, hp, rfl⟩
  show (Value.ref C :: bm).contains (.type "object") = true
  rw [List.contains_cons, hc, ho, Bool.or_true]
/-- self.f = y, the first field -/
theorem gost_new (T : OexG X.K C) (I : Inv X pins σ H s) (e : H a = some (exo a C none)) (hno : PySem.W.findIn X.K (.ref C) f = some none) (ry : RelV y u)
    (h : ∀ dx s', H dx = none → dx ≠ a → Inv X pins σ (upd (upd H dx (exd dx [(f, y)])) a (exo a C (some dx))) s' → Q () s') : wpAny (model X.prog X.w) A (setAttr (.ref a) f u) Q E s := by
  obtain ⟨cd, hcd, c1, c2, c3, c4⟩ := T.clsD
  obtain ⟨t1, ho⟩ := exo_at I.hok e
  obtain ⟨hp, g, dr, tk, os⟩ := s
  refine PySem.W.set_plain I.kIn (ox := { cls := .ref C, dict := none, data := .fields #[.ref t1, .none, .none, .none, .bool false, .none] }) (od := none) ⟨ho, rfl, rfl, trivial⟩ T.sa ?_
  refine gosa_new I.kIn ho hcd c1 c2 c3 c4 hno fun h' tk' dx kp big ndx hx hn => ?_
  have n0 : H dx = none := I.hok.fresh big
  have nd : ∀ {b : Addr} {o : Obj}, hp.get? b = some o → b ≠ dx := fun {b o} z => Nat.ne_of_lt (Nat.lt_of_lt_of_le (Heap.lt_size z) big)
  have na : ∀ {b : Addr}, H b = none → b ≠ a := fun {b} z1 z2 => by
    rw [z2, e] at z1
    cases z1
  have U : Un X.fs [] H (upd (upd H dx (exd dx [(f, y)])) a (exo a C (some dx))) hp h' :=
    ⟨fun b o z n _ _ => kp b o (na n) z, fun b o z n _ _ => ⟨o.slots, kp b o (na n) z⟩, fun b o z n _ => by rw [upd_ne (na n), upd_ne (nd z)]; exact n, fun b o z _ => by
      by_cases hb : b = a
      · exact ⟨_, by rw [hb]; exact hx⟩
      · exact ⟨o, kp b o hb z⟩,
     fun b xs z => by rw [upd_ne (at_ne e z exo_tup), upd_ne (ne_of_none z n0)]; exact z, fun b o w z => by rw [upd_ne (at_ne e z exo_frz), upd_ne (ne_of_none z n0)]; exact z,
     fun b ps z => ⟨#[], by rw [upd_ne (at_ne e z exo_tbl), upd_ne (ne_of_none z n0), z]; simp⟩⟩
  refine h dx _ n0 ndx (I.un (t' := tk') U fun b o z => ?_)
  by_cases hb : b = a
  · rw [hb, upd_same] at z
    cases z
    rw [hb]
    exact exo_ok hx
  rw [upd_ne hb] at z
  by_cases hd : b = dx
  · rw [hd, upd_same] at z
    cases z
    rw [hd]
    exact exd_ok hn (relO_put (fs := []) ry fun _ => True.intro)
  rw [upd_ne hd] at z
  refine (I.hok b o z).stay (fun c w hc z' => kp c w ?_ z') (fun c hc => ?_) fun c xs hc => ?_
  · rcases hc with hc | hc
    · rw [hc]
      exact hb
    · exact at_ne e hc exo_own
  · rw [upd_ne (at_ne e hc exo_own), upd_ne (ne_of_none hc n0)]
    exact hc
  · rw [upd_ne (at_ne e hc exo_tup), upd_ne (ne_of_none hc n0)]
    exact hc
/-- self.f = y, a later field -/
theorem gost_old (T : OexG X.K C) (I : Inv X pins σ H s) (e : H a = some (exo a C (some dx))) (ed : H dx = some (exd dx fs)) (hl : fs.length ≤ 900) (hno : PySem.W.findIn X.K (.ref C) f = some none) (ry : RelV y u)
    (h : ∀ s', Inv X pins σ (upd H dx (exd dx ((f, y) :: fs))) s' → Q () s') : wpAny (model X.prog X.w) A (setAttr (.ref a) f u) Q E s := by
  obtain ⟨cd, hcd, c1, c2, c3, c4⟩ := T.clsD
  obtain ⟨t1, ho⟩ := exo_at I.hok e
  obtain ⟨mA, hns, rel⟩ := exd_at I.hok ed
  have hw := within_of rel
  obtain ⟨hp, g, dr, tk, os⟩ := s
  obtain ⟨oD, _, _, hoD, _, _⟩ := hns.count hw
  refine PySem.W.set_plain I.kIn (ox := { cls := .ref C, dict := some dx, data := .fields #[.ref t1, .none, .none, .none, .bool false, .none] }) (od := some oD) ⟨ho, rfl, rfl, hoD⟩ T.sa ?_
  refine gosa_old I.kIn ho hns hw (by rw [List.length_map]; omega) hcd c1 c2 c3 c4 hno fun h' tk' kp hn => ?_
  have st : ∃ o, h'.get? dx = some o := by
    obtain ⟨o, _, _, z, _⟩ := hn
    exact ⟨o, z⟩
  exact h _ (I.write (t' := tk') (x := dx) (e := dx) (o := exd dx ((f, y) :: fs)) (by rw [ed]; exact True.intro) (.inl rfl) kp st (exd_ok hn (relO_put ry rel)))
end
/-- self.f = e, self an exception that is being made -/
def tGst (K : PySem.W.Frag) (f : Str) (to te : TE) : TS := fun D σ H => te σ H fun y H1 => to σ H1 fun x H2 => ∃ a C : Addr, x = .ref a ∧ OexG K C ∧ PySem.W.findIn K (.ref C) f = some none ∧
  ((H2 a = some (exo a C none) ∧ ∀ dx, H2 dx = none → dx ≠ a → D.nx σ (upd (upd H2 dx (exd dx [(f, y)])) a (exo a C (some dx)))) ∨
    ∃ (dx : Addr) (fs : List (Str × V)), H2 a = some (exo a C (some dx)) ∧ H2 dx = some (exd dx fs) ∧ fs.length ≤ 900 ∧ D.nx σ (upd H2 dx (exd dx ((f, y) :: fs))))
section
variable {X : Cx} {o e : Expr} {es : List Expr} {to te : TE} {ta : TA} {f : Str} {p p' p1 p2 pos : Pos}
theorem ps_gst (ho : PE X o to) (he : PE X e te) (hs : swapsWith e (some (.Attribute o f p')) pos.line X.env = pure false := by rfl) : PS X (.Assign [.Attribute o f p'] e pos) (tGst X.K f to te) := by
  refine ⟨fun pins s σ H D I h => ?_⟩
  refine plainObj_wpAny_Assign_Attribute (thn (he.run pins s σ H _ I h) fun v s1 ⟨y, H1, I1, r1, q1⟩ => thn (ho.run pins s1 σ H1 _ I1 q1) fun u s2 z => ?_) hs
  obtain ⟨x, H2, I2, r2, a, C, rfl, T, hno, q⟩ := z
  obtain rfl : u = Value.ref a := r2
  rcases q with ⟨ea, q⟩ | ⟨dx, fs, ea, ed, hl, q⟩
  · exact gost_new T I2 ea hno r1 fun dx s' n ne J => ⟨σ, _, J, q dx n ne⟩
  · exact gost_old T I2 ea ed hl hno r1 fun s' J => ⟨σ, _, J, q⟩
end
/-! ### making such an exception: C(e, ..), its own __init__ keeping sp -/
section
variable {X : Cx} {pins : List (Addr × Obj)} {σ : L2.St} {CX : CXT} {C fI : Addr} {k : Nat} {fd : FuncData} {ps : List Str} {sp : Sp} {ds : List Value} {dvs : List V}
/-- the call, its arguments at hand; G: what is wanted behind it -/
theorem gmake {H1 : Hp} {us : List Value} {vs : List V} {s1 : Shared} {Q' : VK} {G : Value → Shared → Prop} (T : OexG X.K C) (iC : PySem.W.findIn X.K (.ref C) "__init__" = some (some (.ref fI))) (tI : PySem.W.typeIn X.K (.ref fI) = some (.type "function"))
    (F1 : FnOk X.prog X.w X.K X.mg X.base CX k fI fd ps sp) (hr : Room (k + 1) X.A) (hb : Binds X.K fd ps ds) (hd : Vals dvs ds) (hx : Passes CX X (fun _ _ _ => False)) (I1 : Inv X pins σ H1 s1) (r1 : Vals vs us) (hz : vs.length ≤ 1000)
    (q1 : sp (.ref (s1.heap.objs.size + 1) :: (vs ++ dvs)) (upd H1 (s1.heap.objs.size + 1) (exo (s1.heap.objs.size + 1) C none)) Q' (fun _ _ _ => False))
    (hG : ∀ (s0 s2 : Shared) (u : Value), (∀ b o, s1.heap.get? b = some o → s0.heap.get? b = some o) → s0.os = s1.os → Inv X pins σ (upd H1 (s1.heap.objs.size + 1) (exo (s1.heap.objs.size + 1) C none)) s0 →
      CE X.stack X.prog X.w (upd H1 (s1.heap.objs.size + 1) (exo (s1.heap.objs.size + 1) C none)) s0 Q' u s2 → u = .none ∧ G (.ref (s1.heap.objs.size + 1)) s2) :
    wpAny (model X.prog X.w) X.A (call (.ref C) us) G X.xe s1 := by
  obtain ⟨nm, q, N, bs, bm, sn, sub, ab, col, dd, k0, k1, k2, k3, k5, B, nw, it, bmB, FB, hC, hc, _, _⟩ := T.cls
  obtain ⟨hp, g, dr, tk, os⟩ := s1
  dsimp only at q1 hG
  have up : ∀ b o, hp.get? b = some o → ((hp.push (PySem.W.kdv_tup us)).push (PySem.HandSPX.excO C hp.objs.size)).get? b = some o := fun b o z => Heap.get?_push_of_some _ (Heap.get?_push_of_some _ z)
  have new : ((hp.push (PySem.W.kdv_tup us)).push (PySem.HandSPX.excO C hp.objs.size)).get? (hp.objs.size + 1) = some (PySem.HandSPX.excO C hp.objs.size) := by heap_get
  have J : Inv X pins σ (upd H1 (hp.objs.size + 1) (exo (hp.objs.size + 1) C none)) ⟨(hp.push (PySem.W.kdv_tup us)).push (PySem.HandSPX.excO C hp.objs.size), g, dr, tk, os⟩ :=
    I1.laid (t' := tk) (a := hp.objs.size + 1) (o := exo (hp.objs.size + 1) C none) (h' := (hp.push (PySem.W.kdv_tup us)).push (PySem.HandSPX.excO C hp.objs.size)) up (Nat.le_succ _) (exo_ok new)
  have rr : Vals (V.ref (hp.objs.size + 1) :: (vs ++ dvs)) (Value.ref (hp.objs.size + 1) :: (us ++ ds)) := .cons rfl (r1.append hd)
  have hl : (Value.ref (hp.objs.size + 1) :: us ++ ds).length = ps.length := rr.length.symm.trans (F1.len _ _ _ _ q1)
  have hu : us.length ≤ sizeLine := by
    rw [← Paired.length r1, sizeLine_eq]
    omega
  refine wpAny_call (PySem.HandSPX.call_own FB hc (I1.kIn _ _ hC) (PySem.W.looks_findIn I1.kIn iC) (fun self => PySem.W.bind_fn I1.kIn self tI) hu ?_)
  refine codeAny_mono (F1.run _ X.stack _ _ ⟨Value.ref (hp.objs.size + 1) :: us, []⟩ (Value.ref (hp.objs.size + 1) :: (us ++ ds)) _ _ (fun _ _ _ => False) (hr.make C us []) (J.env0.make C us []) (hb _ (Value.ref (hp.objs.size + 1) :: us) J.kIn hl) rr q1) fun r s' z => ?_
  cases r with
  | error er => exact hx pins σ _ _ er s' J z
  | ok fl =>
    cases fl with
    | ret u => exact hG _ s' u up rfl J z
    | next => exact False.elim z
    | brk => exact False.elim z
    | cont => exact False.elim z
/-- .. to be raised -/
theorem gmake_x {H1 : Hp} {us : List Value} {vs : List V} {s1 : Shared} {Q : XK} (T : OexG X.K C) (iC : PySem.W.findIn X.K (.ref C) "__init__" = some (some (.ref fI))) (tI : PySem.W.typeIn X.K (.ref fI) = some (.type "function"))
    (F1 : FnOk X.prog X.w X.K X.mg X.base CX k fI fd ps sp) (hr : Room (k + 1) X.A) (hb : Binds X.K fd ps ds) (hd : Vals dvs ds) (hx : Passes CX X (fun _ _ _ => False)) (I1 : Inv X pins σ H1 s1) (r1 : Vals vs us) (hz : vs.length ≤ 1000)
    (q1 : ∀ a, H1 a = none → sp (.ref a :: (vs ++ dvs)) (upd H1 a (exo a C none))
      (fun v H2 => v = .non ∧ ∃ (d : Addr) (fs : List (Str × V)), H2 a = some (exo a C (some d)) ∧ H2 d = some (exd d fs) ∧ H1 d = none ∧ Q (.ref C) (some d) (upd (del H2 a) d (.xd fs))) (fun _ _ _ => False)) :
    wpAny (model X.prog X.w) X.A (call (.ref C) us) (MkP X pins σ Q) X.xe s1 := by
  refine gmake T iC tI F1 hr hb hd hx I1 r1 hz (q1 _ (I1.hok.fresh (Nat.le_succ _))) fun s0 s2 u up e0 J z => ?_
  obtain ⟨v, H2, os2, bare2, un2, hok2, rv, ev, d, fs, ea, ed, hd1, q2⟩ := z
  subst ev
  obtain ⟨h1, g1, d1, t1, o1⟩ := s1
  obtain ⟨h2, g2, d2, t2, o2⟩ := s2
  obtain ⟨h0, g0, d0, t0, o0⟩ := s0
  obtain rfl : o0 = o1 := e0
  exact ⟨rv, mk_end (raises_own T.exC T.tyC) I1 (Nat.le_succ _) up un2 hok2 os2 bare2 ea ed hd1 q2⟩
variable {x : Str} {p pos : Pos} {e : Expr} {es : List Expr} {ta : TA}
theorem pmk_gex (T : OexG X.K C) (iC : PySem.W.findIn X.K (.ref C) "__init__" = some (some (.ref fI))) (tI : PySem.W.typeIn X.K (.ref fI) = some (.type "function"))
    (F1 : FnOk X.prog X.w X.K X.mg X.base CX k fI fd ps sp) (hr : Room (k + 1) X.A) (hb : Binds X.K fd ps ds) (hd : Vals dvs ds) (hx : Passes CX X (fun _ _ _ => False)) (hg : Gl X x) (hm : X.mg x = some (.ref C)) (ha : PA X (e :: es) ta)
    (hdb : (x == ("__debug__" : Str)) = false := by decide) (he : starEach (e :: es) X.env = (false, eval e X.env) :: starEach es X.env := by rfl) (hpl : (backTo pos (starEach es X.env)).any (·.1) = false := by rfl) :
    PMk X (.Call (.Name x p) (e :: es) [] pos) (tMkO C sp dvs ta) := by
  intro pins s σ H Q I h
  refine wpAny_Call_Name_kw (ld_glob I hg hm ?_ hdb)
  refine PySem.W.callWith_K (h₀ := X.base) I.ok.mod.kin T.kC (thn (ha.run pos pins s σ H _ I h) fun us s1 z => ?_) he hpl
  obtain ⟨vs, H1, I1, r1, hz, q1⟩ := z
  exact ⟨I1.kIn, gmake_x T iC tI F1 hr hb hd hx I1 r1 hz q1⟩
theorem pmk_gex0 (T : OexG X.K C) (iC : PySem.W.findIn X.K (.ref C) "__init__" = some (some (.ref fI))) (tI : PySem.W.typeIn X.K (.ref fI) = some (.type "function"))
    (F1 : FnOk X.prog X.w X.K X.mg X.base CX k fI fd ps sp) (hr : Room (k + 1) X.A) (hb : Binds X.K fd ps ds) (hd : Vals dvs ds) (hx : Passes CX X (fun _ _ _ => False)) (hg : Gl X x) (hm : X.mg x = some (.ref C))
    (hdb : (x == ("__debug__" : Str)) = false := by decide) : PMk X (.Call (.Name x p) [] [] pos) (tMkO C sp dvs tNil) := by
  intro pins s σ H Q I h
  refine wpAny_Call_Name_kw (ld_glob I hg hm ?_ hdb)
  exact PySem.W.callWith_K0 I.kIn T.kC (gmake_x (us := []) T iC tI F1 hr hb hd hx I .nil h.1 h.2)
/-- C(e, ..) as a value that is kept -/
def tMkV (C : Addr) (sp : Sp) (dvs : List V) (ta : TA) : TE := fun σ H Q => ta σ H fun vs H1 => vs.length ≤ 1000 ∧ ∀ a, H1 a = none → sp (.ref a :: (vs ++ dvs)) (upd H1 a (exo a C none)) (fun v H2 => v = .non ∧ Q (.ref a) H2) (fun _ _ _ => False)
theorem gmake_v {H1 : Hp} {us : List Value} {vs : List V} {s1 : Shared} {Q : VK} (T : OexG X.K C) (iC : PySem.W.findIn X.K (.ref C) "__init__" = some (some (.ref fI))) (tI : PySem.W.typeIn X.K (.ref fI) = some (.type "function"))
    (F1 : FnOk X.prog X.w X.K X.mg X.base CX k fI fd ps sp) (hr : Room (k + 1) X.A) (hb : Binds X.K fd ps ds) (hd : Vals dvs ds) (hx : Passes CX X (fun _ _ _ => False)) (I1 : Inv X pins σ H1 s1) (r1 : Vals vs us) (hz : vs.length ≤ 1000)
    (q1 : ∀ a, H1 a = none → sp (.ref a :: (vs ++ dvs)) (upd H1 a (exo a C none)) (fun v H2 => v = .non ∧ Q (.ref a) H2) (fun _ _ _ => False)) :
    wpAny (model X.prog X.w) X.A (call (.ref C) us) (EP X pins σ Q) X.xe s1 := by
  refine gmake T iC tI F1 hr hb hd hx I1 r1 hz (q1 _ (I1.hok.fresh (Nat.le_succ _))) fun s0 s2 u up e0 J z => ?_
  obtain ⟨v, H2, J2, rv, ev, q2⟩ := J.after z
  subst ev
  exact ⟨rv, .ref (s1.heap.objs.size + 1), H2, J2, rfl, q2⟩
theorem pe_gex (T : OexG X.K C) (iC : PySem.W.findIn X.K (.ref C) "__init__" = some (some (.ref fI))) (tI : PySem.W.typeIn X.K (.ref fI) = some (.type "function"))
    (F1 : FnOk X.prog X.w X.K X.mg X.base CX k fI fd ps sp) (hr : Room (k + 1) X.A) (hb : Binds X.K fd ps ds) (hd : Vals dvs ds) (hx : Passes CX X (fun _ _ _ => False)) (hg : Gl X x) (hm : X.mg x = some (.ref C)) (ha : PA X (e :: es) ta)
    (hdb : (x == ("__debug__" : Str)) = false := by decide) (he : starEach (e :: es) X.env = (false, eval e X.env) :: starEach es X.env := by rfl) (hpl : (backTo pos (starEach es X.env)).any (·.1) = false := by rfl) :
    PE X (.Call (.Name x p) (e :: es) [] pos) (tMkV C sp dvs ta) := by
  refine ⟨fun pins s σ H Q I h => ?_⟩
  refine wpAny_Call_Name_kw (ld_glob I hg hm ?_ hdb)
  refine PySem.W.callWith_K (h₀ := X.base) I.ok.mod.kin T.kC (thn (ha.run pos pins s σ H _ I h) fun us s1 z => ?_) he hpl
  obtain ⟨vs, H1, I1, r1, hz, q1⟩ := z
  exact ⟨I1.kIn, gmake_v T iC tI F1 hr hb hd hx I1 r1 hz q1⟩
theorem pe_gex0 (T : OexG X.K C) (iC : PySem.W.findIn X.K (.ref C) "__init__" = some (some (.ref fI))) (tI : PySem.W.typeIn X.K (.ref fI) = some (.type "function"))
    (F1 : FnOk X.prog X.w X.K X.mg X.base CX k fI fd ps sp) (hr : Room (k + 1) X.A) (hb : Binds X.K fd ps ds) (hd : Vals dvs ds) (hx : Passes CX X (fun _ _ _ => False)) (hg : Gl X x) (hm : X.mg x = some (.ref C))
    (hdb : (x == ("__debug__" : Str)) = false := by decide) : PE X (.Call (.Name x p) [] [] pos) (tMkV C sp dvs tNil) := by
  refine ⟨fun pins s σ H Q I h => ?_⟩
  refine wpAny_Call_Name_kw (ld_glob I hg hm ?_ hdb)
  exact PySem.W.callWith_K0 I.kIn T.kC (gmake_v (us := []) T iC tI F1 hr hb hd hx I .nil h.1 h.2)
end
/-! ### C.m(e, ..): a plain def of a class, called by the class's name -/
/-- the class at C tells of its def g under the name m -/
structure CFn (K : PySem.W.Frag) (C : Addr) (m : Str) (g : Addr) : Prop where
  rd : PySem.W.readsIn K C (.type "type") = true
  ga : PySem.W.specialIn K (.ref C) "__getattribute__" = some (some (.builtin "type.__getattribute__"))
  at_ : PySem.W.findCls K (.ref C) (.type "type") m = some (.val (.ref g))
  kp : PySem.W.keepIn K (.ref g) = true
section
variable {X : Cx} {CX : CXT} {k : Nat} {C g : Addr} {fd : FuncData} {ps : List Str} {sp : Sp} {ds : List Value} {dvs : List V} {E : XK} {e : Expr} {es : List Expr} {c m : Str} {p pos apos : Pos} {t : TA} {pl : Sem Bool}
theorem pe_cfn (T : CFn X.K C m g) (F : FnOk X.prog X.w X.K X.mg X.base CX k g fd ps sp) (hr : Room k X.A) (hb : Binds X.K fd ps ds) (hd : Vals dvs ds) (hx : Passes CX X E) (hg : Gl X c) (hm : X.mg c = some (.ref C)) (ha : PA X (e :: es) t)
    (hdb : (c == ("__debug__" : Str)) = false := by decide) (hst : starEach (e :: es) X.env = (false, eval e X.env) :: starEach es X.env := by rfl) (hpl : (backTo pos (starEach es X.env)).any (·.1) = false := by rfl)
    (ht : eval (.Call (.Attribute (.Name c p) m apos) (e :: es) [] pos) X.env = (do
      let ov ← eval (.Name c p) X.env
      standAt apos.atName
      let (f, first) ← holding [ov] (getMethod ov m pl)
      callWith pos f first (backTo pos (starEach (e :: es) X.env)) (backToKw pos (keywordEach [] X.env))) := by rfl) :
    PE X (.Call (.Attribute (.Name c p) m apos) (e :: es) [] pos) (tCall sp dvs E t) := by
  refine ⟨fun pins s σ H Q I h => ?_⟩
  refine PySem.W.methodCall_KW (pl := pl) (ld_glob I hg hm ?_ hdb) ht
  refine PySem.W.method_cls I.kIn T.ga (PySem.W.cls_value I.kIn T.rd T.at_ rfl ?_)
  refine PySem.W.callWith_K (h₀ := X.base) (first := []) I.ok.mod.kin T.kp (thn (ha.run pos pins _ σ H _ (I.tok _) h) fun us s1 z => ?_) hst hpl
  obtain ⟨vs, H1, I1, r, q⟩ := z
  exact ⟨I1.kIn, run_fn F hr hb hd hx I1 r q⟩
end
/-! ### what the __init__s keep -/
/-- a base: self.word = word -/
def spBase (K : PySem.W.Frag) : Sp := fun vs H Q _ => ∃ (a C : Addr) (y : V), vs = [.ref a, y] ∧ OexG K C ∧ PySem.W.findIn K (.ref C) "word" = some none ∧ H a = some (exo a C none) ∧
  ∀ dx, H dx = none → dx ≠ a → Q .non (upd (upd H dx (exd dx [("word", y)])) a (exo a C (some dx)))
/-- a class of refusals: n values, kept under the names that fs tells -/
def spMade (C : Addr) (n : Nat) (fs : List V → List (Str × V)) : Sp := fun vs H Q _ => ∃ (a : Addr) (ws : List V), vs = .ref a :: ws ∧ ws.length = n ∧ H a = some (exo a C none) ∧
  ∀ (dx : Addr) (H2 : Hp), H dx = none → dx ≠ a → (∀ b, b ≠ a → b ≠ dx → H2 b = H b) → H2 a = some (exo a C (some dx)) → H2 dx = some (exd dx (fs ws)) → Q .non H2
/-- all that is wanted of a class of refusals by the def that makes one -/
structure ExcK (P : Program) (w : World) (K : PySem.W.Frag) (mg : Str → Option Value) (base : Heap) (k : Nat) (nm : Str) (C : Addr) (n : Nat) (fs : List V → List (Str × V)) : Prop where
  oex : OexG K C
  mgC : mg nm = some (.ref C)
  init : ∃ (fI : Addr) (fd : FuncData) (ps : List Str), PySem.W.findIn K (.ref C) "__init__" = some (some (.ref fI)) ∧ PySem.W.typeIn K (.ref fI) = some (.type "function") ∧ FnOk P w K mg base CX0 k fI fd ps (spMade C n fs) ∧ Binds K fd ps []
/-- the reading: nm(e, ..), to be raised -/
def tRef (C : Addr) (n : Nat) (fs : List V → List (Str × V)) (ta : TA) : L2.St → Hp → XK → Prop := fun σ H Q => ta σ H fun vs H1 => vs.length = n ∧ vs.length ≤ 1000 ∧ ∀ (d : Addr) (H2 : Hp), H1 d = none → (∀ b, b ≠ d → H1 b ≠ none → H2 b = H1 b) → H2 d = some (.xd (fs vs)) → Q (.ref C) (some d) H2
section
variable {X : Cx} {k : Nat} {nm : Str} {C : Addr} {n : Nat} {fs : List V → List (Str × V)} {p pos : Pos} {e : Expr} {es : List Expr} {ta : TA}
theorem tRef_mk {H1 : Hp} {vs : List V} {Q : XK} (hn : vs.length = n) (h : ∀ (d : Addr) (H2 : Hp), H1 d = none → (∀ b, b ≠ d → H1 b ≠ none → H2 b = H1 b) → H2 d = some (.xd (fs vs)) → Q (.ref C) (some d) H2) (a : Addr) (ha : H1 a = none) :
    spMade C n fs (.ref a :: (vs ++ [])) (upd H1 a (exo a C none))
      (fun v H2 => v = .non ∧ ∃ (d : Addr) (gs : List (Str × V)), H2 a = some (exo a C (some d)) ∧ H2 d = some (exd d gs) ∧ H1 d = none ∧ Q (.ref C) (some d) (upd (del H2 a) d (.xd gs))) (fun _ _ _ => False) := by
  refine ⟨a, vs, by rw [List.append_nil], hn, upd_same, fun dx H2 h1 h2 h3 h4 h5 => ⟨rfl, dx, _, h4, h5, ?_, ?_⟩⟩
  · rw [upd_ne h2] at h1
    exact h1
  · rw [upd_ne h2] at h1
    refine h dx _ h1 (fun b hb hb2 => ?_) upd_same
    have nb : b ≠ a := fun z => hb2 (by rw [z]; exact ha)
    rw [upd_ne hb, del_ne nb, h3 b nb hb, upd_ne nb]
theorem pmk_ref (T : ExcK X.prog X.w X.K X.mg X.base k nm C n fs) (hr : Room (k + 1) X.A) (hg : Gl X nm) (ha : PA X (e :: es) ta)
    (hdb : (nm == ("__debug__" : Str)) = false := by decide) (he : starEach (e :: es) X.env = (false, eval e X.env) :: starEach es X.env := by rfl) (hpl : (backTo pos (starEach es X.env)).any (·.1) = false := by rfl) :
    PMk X (.Call (.Name nm p) (e :: es) [] pos) (tRef C n fs ta) := by
  obtain ⟨fI, fd, ps, i1, i2, i3, i4⟩ := T.init
  intro pins s σ H Q I h
  refine wpAny_Call_Name_kw (ld_glob I hg T.mgC ?_ hdb)
  refine PySem.W.callWith_K (h₀ := X.base) I.ok.mod.kin T.oex.kC (thn (ha.run pos pins s σ H _ I h) fun us s1 z => ?_) he hpl
  obtain ⟨vs, H1, I1, r1, z1, z2, z3⟩ := z
  exact ⟨I1.kIn, gmake_x T.oex i1 i2 i3 hr i4 .nil pass0 I1 r1 z2 (tRef_mk z1 z3)⟩
theorem pmk_ref0 (T : ExcK X.prog X.w X.K X.mg X.base k nm C n fs) (hr : Room (k + 1) X.A) (hg : Gl X nm) (hdb : (nm == ("__debug__" : Str)) = false := by decide) : PMk X (.Call (.Name nm p) [] [] pos) (tRef C n fs tNil) := by
  obtain ⟨fI, fd, ps, i1, i2, i3, i4⟩ := T.init
  intro pins s σ H Q I h
  exact pmk_gex0 T.oex i1 i2 i3 hr i4 .nil pass0 hg T.mgC hdb pins s σ H Q I ⟨h.2.1, fun a ha => tRef_mk h.1 h.2.2 a ha⟩
end
/-! ### except (A, B, ..) as n: any number of classes, any number of clauses -/
section
open PySem.W
variable {M : Model} {K : Frag} {A : Around} {E : Value → Shared → Prop}
theorem exm_walk1 {cls : Value} {h : Heap} {f : Value → PUnit → Sem (ForInStep PUnit)} (hf : ∀ (c : Value) (b : Bool), exmOne K cls c = some b → Looks M h (f c PUnit.unit) (.yield PUnit.unit)) :
    ∀ (cs : List Value) (b : Bool), exmAny K cls cs = some b → Looks M h (forIn cs PUnit.unit f) PUnit.unit := by
  intro cs
  induction cs with
  | nil =>
    intro b _ A Q E s k q
    rw [List.forIn_nil]
    exact wpAny_pure q
  | cons c r ih =>
    intro b hb A Q E s k q
    obtain ⟨b1, d1, e1, e2, _⟩ := exmAny_cons hb
    rw [List.forIn_cons]
    refine wpAny_bind (hf c b1 e1 A _ E s k ?_)
    exact ih d1 e2 A Q E s k q
theorem exm_walk2 {cls : Value} {h : Heap} {f : Value → Option Bool × Unit → Sem (ForInStep (Option Bool × Unit))}
    (hf : ∀ (c : Value) (b : Bool), exmOne K cls c = some b → Looks M h (f c (none, ())) (if b = true then .done (some true, ()) else .yield (none, ()))) :
    ∀ (cs : List Value) (b : Bool), exmAny K cls cs = some b → Looks M h (forIn cs (none, ()) f) (if b = true then some true else none, ()) := by
  intro cs
  induction cs with
  | nil =>
    intro b hb A Q E s k q
    have z : some false = some b := hb
    cases z
    rw [List.forIn_nil]
    exact wpAny_pure q
  | cons c r ih =>
    intro b hb A Q E s k q
    obtain ⟨b1, d1, e1, e2, e3⟩ := exmAny_cons hb
    rw [List.forIn_cons]
    refine wpAny_bind (hf c b1 e1 A _ E s k ?_)
    cases b1 with
    | true =>
      rw [if_pos rfl]
      have z : b = true := e3
      rw [z] at q
      exact wpAny_pure q
    | false =>
      rw [if_neg Bool.false_ne_true]
      have z : b = d1 := e3
      rw [z] at q
      exact ih d1 e2 A Q E s k q
theorem exm_tupN {cs : List Value} {cls : Value} {tp e : Addr} {b : Bool} {h : Heap} (X : K.In h) (LT : Looks M h (typeOf (.ref e)) cls) (hp : h.get? tp = some { cls := .type "tuple", data := .seq cs.toArray }) (hx : exmAny K cls cs = some b) :
    Looks M h (excMatches (.ref e) (.ref tp)) b := by
  intro A Q E s k₀ q
  obtain ⟨hh, g, d, tk, os⟩ := s
  have k : ∀ b o, h.get? b = some o → hh.get? b = some o := k₀
  have isT : Looks M h (isInstance (.ref tp) (.type "tuple")) true := ((Looks.ld hp).andThen .now).andThen (Looks.of_pure isSubtype_tuple_tuple)
  have w1 := exm_walk1 (M := M) (h := h) (K := K) (cls := cls) (f := fun c __s => do
      let __do_lift ← isExcClass c
      if (!__do_lift) = true then do
          rule "try.except-non-exception-class"
          raiseErrorWords "TypeError" "catching classes that do not inherit from BaseException is not allowed"
          pure (ForInStep.yield PUnit.unit)
        else pure (ForInStep.yield PUnit.unit)) (fun c b hc A Q E s k q => wpAny_bind (((exm_cls (M := M) X hc).1.keeps k).here (by rw [if_neg (by decide)]; exact wpAny_pure q))) cs b hx
  have w2 := exm_walk2 (M := M) (h := h) (K := K) (cls := cls) (f := fun c __s => do
      let __do_lift ← isSubtype cls c
      if __do_lift = true then pure (ForInStep.done (some true, ())) else pure (ForInStep.yield (none, ())))
    (fun c b hc A Q E s k q => wpAny_bind (((exm_cls (M := M) X hc).2.keeps k).here (by cases b <;> exact wpAny_pure q))) cs b hx
  unfold excMatches
  refine wpAny_bind ((isT.keeps k).at ?_)
  dsimp only
  rw [if_pos rfl]
  first
    | refine wpAny_bind (wpAny_seqItems (k _ _ hp) rfl ?_)
    | refine wpAny_bind (wpAny_bind (wpAny_seqItems (k _ _ hp) rfl (wpAny_pure ?_)))
  dsimp only [Option.getD_some, Option.getD]
  first
    | refine wpAny_pure (wpAny_bind ((w1.keeps k).at (wpAny_bind ((LT.keeps k).at (wpAny_bind ((w2.keeps k).at ?_))))))
    | refine wpAny_bind (wpAny_pure (wpAny_bind ((w1.keeps k).at (wpAny_bind ((LT.keeps k).at (wpAny_bind ((w2.keeps k).at ?_)))))))
  cases b <;> exact wpAny_pure q
end
theorem flyZ_keeps {B : Heap} {l : List Env} {a : Addr} {Z : Obj → Prop} {h h' : Heap} (fl : HandSPX.FlyingZ B l a Z h) (k : ∀ b o, h.get? b = some o → h'.get? b = some o) : HandSPX.FlyingZ B l a Z h' := by
  obtain ⟨k1, k2, k3, oe, vs, T, oT, ts, he, hz, hd, h1, hnT, hTe, hT, hdT, h3⟩ := fl
  exact ⟨fun b o z => k b o (k1 b o z), k2, k3.of_keeps (fun b o hb _ => ⟨o, k b o hb, rfl⟩), oe, vs, T, oT, ts, k _ _ he, hz, hd, h1, hnT, hTe, k _ _ hT, hdT, h3⟩
/-- the classes that an except clause names -/
inductive NamesL (X : Cx) : List Expr → List Value → Prop
  | nil : NamesL X [] []
  | cons {x : Str} {c : Value} {p : Pos} {es : List Expr} {cs : List Value} : Names X x c → NamesL X es cs → NamesL X (.Name x p :: es) (c :: cs)
inductive TestIs (X : Cx) : Expr → List Value → Prop
  | one {x : Str} {c : Value} {p : Pos} : Names X x c → TestIs X (.Name x p) [c]
  | tup {es : List Expr} {cs : List Value} {k : Nat} {p : Pos} : NamesL X es cs → cs.length ≤ 1000 → TestIs X (.Tuple es k p) cs
section
variable {X : Cx} {a : Addr} {pn : List (Addr × Obj)} {σ : L2.St} {H : Hp} {s : Shared}
theorem name_run {x : Str} {c : Value} {p : Pos} {Q : Value → Shared → Prop} {E : Value → Shared → Prop} (S : Inv (X.suite a pn) [] σ H s) (n : Names X x c) (q : Q c s) : wpAny (model X.prog X.w) (X.A.mark (some (.ref a))) (eval (.Name x p) X.env) Q E s := by
  obtain ⟨hg, hd, hm | ⟨hm, hv, hn⟩⟩ := n
  · exact ld_glob (X := X.suite a pn) S hg hm q hd
  · exact ld_blt (X := X.suite a pn) S hg hm hv q hn hd
theorem names_run {E : Value → Shared → Prop} {pos : Pos} (S : Inv (X.suite a pn) [] σ H s) : ∀ {es : List Expr} {cs : List Value} {Q : List Value → Shared → Prop}, NamesL X es cs → Q cs s → wpAny (model X.prog X.w) (X.A.mark (some (.ref a))) (spliced (backTo pos (starEach es X.env))) Q E s := by
  intro es cs Q n
  induction n generalizing Q with
  | nil => exact fun q => wpAny_items_nil q
  | cons hn _ ih => exact fun q => wpAny_items_cons (name_run S hn (ih (Q := fun vs s2 => Q (_ :: vs) s2) q))
theorem test_run {t : Expr} {cs : List Value} {cls : Value} {b : Bool} {Q : Bool → Shared → Prop} {E : Value → Shared → Prop} (S : Inv (X.suite a pn) [] σ H s) (T : TestIs X t cs) (LT : PySem.W.Looks (model X.prog X.w) s.heap (typeOf (.ref a)) cls) (hx : PySem.W.exmAny X.K cls cs = some b)
    (hq : ∀ h', (∀ q o, s.heap.get? q = some o → h'.get? q = some o) → Q b { s with heap := h' }) :
    wpAny (model X.prog X.w) (X.A.mark (some (.ref a))) (eval t X.env) (fun c s₁ => wpAny (model X.prog X.w) (X.A.mark (some (.ref a))) (excMatches (.ref a) c) Q E s₁) E s := by
  cases T with
  | one n =>
    obtain ⟨b1, d1, e1, e2, e3⟩ := PySem.W.exmAny_cons hx
    have z : some false = some d1 := e2
    cases z
    rw [Bool.or_false] at e3
    subst e3
    exact name_run S n ((PySem.W.exm_one S.kIn LT e1).here (hq s.heap fun _ _ z => z))
  | tup n hl =>
    refine wpAny_Tuple (names_run S n ⟨by rw [sizeLine_eq]; omega, ?_⟩)
    have kp : ∀ q o, s.heap.get? q = some o → (s.heap.push { cls := .type "tuple", data := .seq cs.toArray }).get? q = some o := fun _ _ z => Heap.get?_push_of_some _ z
    exact (exm_tupN (S.kIn.keeps kp) (LT.keeps kp) (Heap.get?_push_size s.heap rfl) hx).here (hq _ kp)
end
/-- what the clauses 'except .. as n' wish of an exception of the body, one behind the other: slot i is n's -/
def wAsN (K : PySem.W.Frag) (i : Nat) (Wout : WX) (D : Ends) : List (List Value × (Addr → Value → Option Addr → TS)) → WX
  | [] => Wout
  | (cs, ts) :: r => fun cls d σ H => ∃ b, PySem.W.exmAny K cls cs = some b ∧
      (b = true → ∀ a, H a = none → ts a cls d { nx := fun σ' H' => D.nx (σ'.set i none) H', rt := D.rt, bk := fun σ' H' => D.bk (σ'.set i none) H', ct := fun σ' H' => D.ct (σ'.set i none) H' } (σ.set i (some (.ref a))) H) ∧
      (b = false → wAsN K i Wout D r cls d σ H)
inductive HdsAs (X : Cx) (n : Str) : List ExceptHandler → List (List Value × (Addr → Value → Option Addr → TS)) → Prop
  | nil : HdsAs X n [] []
  | cons {t : Expr} {cs : List Value} {ts : Addr → Value → Option Addr → TS} {b₀ : Stmt} {suite : List Stmt} {pos' : Pos} {hds : List ExceptHandler} {l : List (List Value × (Addr → Value → Option Addr → TS))} (ht : TestIs X t cs)
      (hsu : ∀ (a : Addr) (oe : Obj) (cls : Value) (d : Option Addr) (pn : List (Addr × Obj)), Zc cls d oe → (∃ vs, oe.data = .fields vs) → PSs (X.suite a ((a, oe) :: pn)) (b₀ :: suite) (ts a cls d)) (r : HdsAs X n hds l) :
      HdsAs X n (.ExceptHandler (some t) (some n) (b₀ :: suite) pos' :: hds) ((cs, ts) :: l)
section
variable {X : Cx} {n : Str} {i : Nat} {body : List Stmt} {h₀ : ExceptHandler} {hds : List ExceptHandler} {l : List (List Value × (Addr → Value → Option Addr → TS))} {pos : Pos} {tb : WX → TS} {Wout : WX}
/-- the clauses are gone through, the exception at a being caught -/
theorem hds_run (hs : X.stack = X.env :: X.outer) (hf : X.env.frame = some X.env.locals) (hN : X.N.Nodup) (hi : X.N[i]? = some n) (hln : X.env.kindOf n = some .local) (tk : Takes X Wout)
    {pins : List (Addr × Obj)} {a : Addr} {B : Heap} {sI : Shared} {σ : L2.St} {H : Hp} {cls : Value} {d : Option Addr} {D : Ends} (J : Inv X pins σ H sI) (nb : ∀ b o, sI.heap.get? b = some o → b ∉ frs X.stack → B.get? b = some o) (na : H a = none) :
    ∀ {hs' : List ExceptHandler} {l' : List (List Value × (Addr → Value → Option Addr → TS))}, HdsAs X n hs' l' → wAsN X.K i Wout D l' cls d σ H → ∀ s' : Shared, HandSPX.FlyingZ B (X.env :: X.outer) a (Zc cls d) s'.heap → sI.heap.UpToSlots s'.heap → s'.os = sI.os → AllBare s'.gens →
      wpAny (model X.prog X.w) X.A (handleBy (.ref a) X.env hs') (SP X pins D) X.xe s' := by
  intro hs' l' hk
  induction hk with
  | nil =>
    intro w s' fl up os ag
    refine wpAny_handleBy_nil ?_
    obtain ⟨_, _, _, oe, vs, T, oT, ts', he, hz, hd, h1, _⟩ := id fl
    unfold PySem.passOn
    refine wpAny_bind (wpAny_field he hd h1 ?_)
    rw [if_neg (show ¬ ((Value.ref T == Value.none) = true) from by simp)]
    have fin : wpAny (model X.prog X.w) X.A (setFlight (.ref a) X.env.frame) (fun _ s4 => wpAny (model X.prog X.w) X.A (throw (.ref a) : Sem Flow) (SP X pins D) X.xe s4) X.xe s' := by
      rw [hf]
      refine HandSPX.setFlight_upZ fl fun h4 hh4 up4 => wpAny_throw (tk _ _ ?_)
      exact ⟨a, B, sI, pins, σ, H, cls, d, rfl, J, nb, up.trans up4, .inr (.inr (by rw [hs]; exact hh4)), na, os, ag, w⟩
    first
      | exact wpAny_bind (wpAny_pure (wpAny_bind fin))
      | exact wpAny_bind fin
  | @cons t cs ts b₀ suite pos' hds2 l2 ht hsu r ih =>
    intro w s' fl up os ag
    obtain ⟨b, hb1, hyes, hno⟩ := w
    have ok := J.ok
    have J3 : Inv X pins σ H s' := J.landed nb fl.1 up os ag
    have out : ∀ {h : Heap} {o : Obj} {vs : Array Value}, h.FunFrames B (X.env :: X.outer) → h.get? a = some o → o.data = .fields vs → a ∉ frs (X.env :: X.outer) := fun {h o vs} ff e dd hm => by
      obtain ⟨_, o', e', hnf⟩ := ff.mem hm
      rw [e] at e'
      cases e'
      exact hnf _ dd
    obtain ⟨oe3, vs3, he3, hz3, hd3⟩ := fl.there
    have nfr := out fl.2.2.1 he3 hd3
    have nL : a ≠ X.env.locals := fun z => nfr (List.mem_filterMap.mpr ⟨X.env, List.mem_cons_self, by rw [hf, z]⟩)
    have nF : a ∉ X.fs := fun hm => by
      obtain ⟨e, he, q⟩ := List.mem_filterMap.mp hm
      exact nfr (List.mem_filterMap.mpr ⟨e, List.mem_cons_of_mem _ he, q⟩)
    have S3 := J3.suite he3 hd3 na nL nF
    have LT : PySem.W.Looks (model X.prog X.w) s'.heap (typeOf (.ref a)) cls := fun A Q E s k q => wpAny_typeOf_ref (k _ _ he3) (by rw [hz3.1]; exact q)
    refine wpAny_handleBy_cons (codeAny_handlers_test ?_) (by intro q; cases q)
    refine test_run S3 ht LT hb1 fun h4 kp => ?_
    have fl4 : HandSPX.FlyingZ B (X.env :: X.outer) a (Zc cls d) h4 := flyZ_keeps fl kp
    have up4 : sI.heap.UpToSlots h4 := up.trans (Heap.UpToSlots.of_keeps kp)
    cases b with
    | false =>
      show wpAny _ X.A (handleBy (.ref a) X.env hds2) _ _ _
      exact ih (hno rfl) { s' with heap := h4 } fl4 up4 os ag
    | true =>
      refine codeAny_handlers_suite_as ?_
      refine HandSPX.lands_againZ (s := { s' with heap := h4 }) fl4 fun h5 fl5 up5 => ?_
      have J5 : Inv X pins σ H { s' with heap := h5 } := J.landed nb fl5.1 (up4.trans up5) os ag
      obtain ⟨oe5, vs5, he5, hz5, hd5⟩ := fl5.there
      have S5 := J5.suite he5 hd5 na nL nF
      refine store_ok (X := X.suite a ((a, oe5) :: (X.pn ++ pins))) (v := .ref a) S5 hN hi (.inl hln) rfl (fun s6 S6 => ?_) (.inr hln)
      refine wpAny_mono ((hsu a oe5 cls d (X.pn ++ pins) hz5 ⟨_, hd5⟩).run [] s6 _ H _ S6 (hyes rfl a na)) (fun f s7 hsp => ?_) (fun _ _ z => False.elim z)
      have goes : ∀ {σ7 : L2.St} {H7 : Hp} {Q : Shared → Prop}, Inv (X.suite a ((a, oe5) :: (X.pn ++ pins))) [] σ7 H7 s7 → (∀ s8, Inv X pins (σ7.set i none) H7 s8 → Q s8) →
          wpAny (model X.prog X.w) X.A (do bindName X.env n .none; unbindBehindTheSuite X.env n pos') (fun _ s8 => Q s8) X.xe s7 := fun {σ7 H7 Q} S7 hq => gone_ok (S7.unsuite ok) hN hi hln hq
      cases f with
      | next =>
        obtain ⟨σ7, H7, S7, q7⟩ := hsp
        exact goes S7 fun s8 J8 => ⟨_, _, J8, q7⟩
      | brk =>
        obtain ⟨σ7, H7, S7, q7⟩ := hsp
        exact goes S7 fun s8 J8 => ⟨_, _, J8, q7⟩
      | cont =>
        obtain ⟨σ7, H7, S7, q7⟩ := hsp
        exact goes S7 fun s8 J8 => ⟨_, _, J8, q7⟩
      | ret u =>
        obtain ⟨v7, σ7, H7, S7, r7, q7⟩ := hsp
        exact goes S7 fun s8 J8 => ⟨_, _, _, J8, r7, q7⟩
theorem ps_try_asN (hs : X.stack = X.env :: X.outer) (hf : X.env.frame = some X.env.locals) (hN : X.N.Nodup) (hi : X.N[i]? = some n) (hln : X.env.kindOf n = some .local) (tk : Takes X Wout)
    (hb : ∀ (W : WX) (pn : List (Addr × Obj)) (xe : Value → Shared → Prop), Takes (X.tr pn xe) W → PassesOwn (model X.prog X.w) X.A X.env xe → PSs (X.tr pn xe) body (tb W))
    (hh : HdsAs X n (h₀ :: hds) l) : PS X (.Try body (h₀ :: hds) [] [] pos) (fun D σ H => tb (wAsN X.K i Wout D l) D σ H) := by
  refine ⟨fun pins s σ H D I h => ?_⟩
  have ok := I.ok
  have hfr : X.A.frames = some (X.env :: X.outer) := by rw [ok.frames, hs]
  refine wpAny_Try_except ?_
  refine wpAny_mono ((hb (wAsN X.K i Wout D l) (X.pn ++ pins) (fun e s₁ => wpAny (model X.prog X.w) X.A (noteFrame e X.env) (fun _ s₂ => wpAny (model X.prog X.w) X.A (setFlight e none) (fun _ s₃ =>
    wpAny (model X.prog X.w) X.A (handleBy e X.env (h₀ :: hds)) (SP X pins D) X.xe s₃) X.xe s₂) X.xe s₁) (fun u s' xx => ?_) PassesOwn.looking).run [] s σ H D (I.toTry _) h) (fun f s1 hsp => ?_) (fun e s1 he => he)
  · obtain ⟨a, B, sI, pins', σ', H', cls, d, rfl, J', nb, up, sky, na, os, ag, w⟩ := xx
    rw [show (X.tr (X.pn ++ pins) _).stack = X.env :: X.outer from hs] at sky
    show wpAny (model X.prog X.w) X.A (noteFrame (.ref a) X.env) _ _ _
    refine Sky.land Zc.steady hfr hf sky fun h3 fl3 up3 => ?_
    exact hds_run hs hf hN hi hln tk (J'.ofTry ok) nb na hh w { s' with heap := h3 } fl3 (up.trans up3) os ag
  · cases f with
    | next =>
      obtain ⟨σ', H', J', q⟩ := hsp
      exact wpAny_execs_nil ⟨σ', H', J'.ofTry ok, q⟩
    | brk =>
      obtain ⟨σ', H', J', q⟩ := hsp
      exact ⟨σ', H', J'.ofTry ok, q⟩
    | cont =>
      obtain ⟨σ', H', J', q⟩ := hsp
      exact ⟨σ', H', J'.ofTry ok, q⟩
    | ret u =>
      obtain ⟨v, σ', H', J', r, q⟩ := hsp
      exact ⟨v, σ', H', J'.ofTry ok, r, q⟩
end
/-! ### the head by facts: Bools over what the top has written -/
theorem funOf {K : PySem.W.Frag} {x qual : Str} {st : Stmt} {f : Addr} {fd : FuncData} (F : FunD K x qual (defArgs st) (defBody st) (defScope st) [] [] f fd) : Fun K x qual st f fd := by
  obtain ⟨oc, od, dV, kV, doc, pm, an, cdv, ct, osl, e, lk, hcd, hd, _⟩ := F.ex
  have hn : dV = .none := by
    rcases hd with ⟨_, z⟩ | ⟨z, _⟩
    · exact z
    · exact absurd rfl z
  subst hn
  exact ⟨⟨oc, od, kV, doc, pm, an, cdv, ct, osl, e, lk, hcd⟩, F.kp⟩
def dOf (a : Str × Option Str) (nm q : Str) (st : Stmt) (dfl : List He.Dv) (kwd : List (Str × He.Dv)) : He.DefD := ⟨a, nm, q, defArgs st, defBody st, defScope st, dfl, kwd⟩
def frN (n : Nat) (k : Nat → Bool) : Bool := match n with
  | 0 => k 0
  | m + 1 => k (m + 1)
theorem frN_eq (n : Nat) (k : Nat → Bool) : frN n k = k n := by
  cases n <;> rfl
def frL : List Addr → (List Addr → Bool) → Bool
  | [], k => k []
  | a :: r, k => frN a fun a => frL r fun r => k (a :: r)
theorem frL_eq : ∀ (l : List Addr) (k : List Addr → Bool), frL l k = k l
  | [], _ => rfl
  | a :: r, k => by
    show frN a (fun a => frL r fun r => k (a :: r)) = _
    rw [frN_eq, frL_eq r]
def isNw (nw : String) : List (Option Value) → Bool
  | [_, _, _, _, some (.builtin z), _] => decide (z = nw)
  | _ => false
theorem isNw_ok {nw : String} {l : List (Option Value)} (h : isNw nw l = true) : ∃ k0 k1 k2 k3 k5 : Option Value, l = [k0, k1, k2, k3, some (.builtin nw), k5] := by
  unfold isNw at h
  split at h
  · have e := of_decide_eq_true h
    subst e
    exact ⟨_, _, _, _, _, rfl⟩
  · cases h
abbrev excT (B : String) : List Value := [.type B, .type "Exception", .type "BaseException", .type "object"]
/-- a class of refusals at C under the class at CB, which stands over the built-in B -/
def oexB (K : PySem.W.Frag) (C CB : Addr) (B nw : String) : Bool := (match K.lookup C with
  | some ⟨.type t, _, .cls cd, sl⟩ => decide (t = "type") && (decide (cd.mro = .ref C :: .ref CB :: excT B) && (cd.hasDict && (!cd.hasDel && isNw nw sl.toList)))
  | _ => false) && (He.eqO (PySem.W.findIn K (.ref C) "__setattr__") (some (some (.builtin "object.__setattr__"))) && (decide (PySem.W.subIn K (.ref C) (.type "BaseException") = some true) && (decide (PySem.W.typeIn K (.ref C) = some (.type "type")) && PySem.W.keepIn K (.ref C))))
theorem oexB_ok {K : PySem.W.Frag} {C CB : Addr} {B nw it : String} (FB : ExcBaseFacts B nw it (excT B)) (S : ∀ self : Value, refuseLoop self "__setattr__" (excT B) = pure ()) (hob : (excT B).contains (.type "object") = true) (h : oexB K C CB B nw = true) : OexG K C := by
  obtain ⟨h1, h⟩ := He.ba h
  obtain ⟨h2, h⟩ := He.ba h
  obtain ⟨h3, h⟩ := He.ba h
  obtain ⟨h4, h5⟩ := He.ba h
  refine ⟨?_, He.eqO_ok h2, of_decide_eq_true h3, of_decide_eq_true h4, h5⟩
  cases q : K.lookup C with
  | none =>
    rw [q] at h1
    cases h1
  | some o =>
    obtain ⟨oc, od, dt, osl⟩ := o
    rw [q] at h1
    cases oc with
    | type t =>
      cases dt with
      | cls cd =>
        obtain ⟨n1, n2, n3, n4, n5, n6, n7, n8, n9, n10, n11⟩ := cd
        obtain ⟨a1, h1⟩ := He.ba h1
        obtain ⟨a2, h1⟩ := He.ba h1
        obtain ⟨a3, h1⟩ := He.ba h1
        obtain ⟨a4, a5⟩ := He.ba h1
        have e1 : t = "type" := of_decide_eq_true a1
        have e2 : n3 = .ref C :: .ref CB :: excT B := of_decide_eq_true a2
        have e3 : n6 = true := a3
        have e4 : n11 = false := by
          cases n11 with
          | false => rfl
          | true => cases a4
        obtain ⟨sl⟩ := osl
        obtain ⟨k0, k1, k2, k3, k5, e5⟩ := isNw_ok a5
        have e6 : sl = [k0, k1, k2, k3, some (.builtin nw), k5] := e5
        subst e1 e2 e3 e4 e6
        exact ⟨_, _, _, _, _, _, _, _, _, _, _, _, _, _, _, B, _, _, _, FB, rfl, fun Y => by rw [List.contains_cons]; rfl, hob, fun self => by rw [refuseLoop_ref, refuseLoop_ref]; exact S self⟩
      | _ => cases h1
    | _ => cases dt <;> cases h1
def cfnB (K : PySem.W.Frag) (C g : Addr) : Bool := PySem.W.readsIn K C (.type "type") && (He.eqO (PySem.W.specialIn K (.ref C) "__getattribute__") (some (some (.builtin "type.__getattribute__"))) && ((match PySem.W.findCls K (.ref C) (.type "type") "__init__" with
  | some (.val (.ref a)) => decide (a = g)
  | _ => false) && PySem.W.keepIn K (.ref g)))
theorem cfnB_ok {K : PySem.W.Frag} {C g : Addr} (h : cfnB K C g = true) : CFn K C "__init__" g := by
  obtain ⟨h1, h⟩ := He.ba h
  obtain ⟨h2, h⟩ := He.ba h
  obtain ⟨h3, h4⟩ := He.ba h
  refine ⟨h1, He.eqO_ok h2, ?_, h4⟩
  split at h3
  · rename_i a e
    have e2 : a = g := of_decide_eq_true h3
    rw [e, e2]
  · cases h3
/-- all that is looked at of the class x, under b, with these fields -/
def leafB (K : PySem.W.Frag) (x b : Str) (B nw : String) (fl : List Str) : Bool := frN (He.ga K x) fun C => frN (He.ga K b) fun CB => oexB K C CB B nw && (cfnB K CB (He.ma K CB "__init__") && (He.eqO (PySem.W.findIn K (.ref C) "__init__") (some (some (.ref (He.ma K C "__init__")))) &&
  (decide (PySem.W.typeIn K (.ref (He.ma K C "__init__")) = some (.type "function")) && (("word" : Str) :: fl).all fun f => He.eqO (PySem.W.findIn K (.ref C) f) (some none))))
structure LeafK (K : PySem.W.Frag) (x b : Str) (fl : List Str) : Prop where
  T : OexG K (He.ga K x)
  B : CFn K (He.ga K b) "__init__" (He.ma K (He.ga K b) "__init__")
  i : PySem.W.findIn K (.ref (He.ga K x)) "__init__" = some (some (.ref (He.ma K (He.ga K x) "__init__")))
  t : PySem.W.typeIn K (.ref (He.ma K (He.ga K x) "__init__")) = some (.type "function")
  n : ∀ f ∈ ("word" : Str) :: fl, PySem.W.findIn K (.ref (He.ga K x)) f = some none
theorem leafB_ok {K : PySem.W.Frag} {x b : Str} {B nw it : String} {fl : List Str} (FB : ExcBaseFacts B nw it (excT B)) (S : ∀ self : Value, refuseLoop self "__setattr__" (excT B) = pure ()) (hob : (excT B).contains (.type "object") = true) (h : leafB K x b B nw fl = true) : LeafK K x b fl := by
  unfold leafB at h
  rw [frN_eq, frN_eq] at h
  obtain ⟨h1, h⟩ := He.ba h
  obtain ⟨h2, h⟩ := He.ba h
  obtain ⟨h3, h⟩ := He.ba h
  obtain ⟨h4, h5⟩ := He.ba h
  exact ⟨oexB_ok FB S hob h1, cfnB_ok h2, He.eqO_ok h3, of_decide_eq_true h4, fun f hf => He.eqO_ok (List.all_eq_true.mp h5 f hf)⟩
theorem leafV {K : PySem.W.Frag} {x b : Str} {fl : List Str} (h : leafB K x b "ValueError" "ValueError.__new__" fl = true) : LeafK K x b fl := leafB_ok F.excBase_ValueError F.store_ValueError.passes (by decide +kernel) h
theorem leafL {K : PySem.W.Frag} {x b : Str} {fl : List Str} (h : leafB K x b "LookupError" "LookupError.__new__" fl = true) : LeafK K x b fl := leafB_ok F.excBase_LookupError F.store_LookupError.passes (by decide +kernel) h
theorem leafR {K : PySem.W.Frag} {x b : Str} {fl : List Str} (h : leafB K x b "RuntimeError" "RuntimeError.__new__" fl = true) : LeafK K x b fl := leafB_ok F.excBase_RuntimeError F.store_RuntimeError.passes (by decide +kernel) h
/-! ### the Hook: what the top's names reach in n steps, and the statics (which readsIn asks for) -/
def wide (g : Addr → Option Obj) (n : Nat) : List Addr := PySem.cStatics :: He.asD g n
theorem tabs_out {g : Addr → Option Obj} {tf : List He.Defn} {as : List Addr} (h : He.tabsB g tf (He.frT g as) = true) (p : He.Defn) (hp : p ∈ tf) :
    PySem.W.codeHdIn (He.frT g as) (He.cT (He.frT g as) p).1 (He.cT (He.frT g as) p).2 = true ∧ (He.frT g as).lookup (He.cT (He.frT g as) p).2 = none ∧ g (He.cT (He.frT g as) p).2 = some { cls := .none, data := .fields #[] } := by
  have z := List.all_eq_true.mp h p hp
  obtain ⟨z1, z2⟩ := He.ba z
  generalize (He.cT (He.frT g as) p).2 = t at z1 z2 ⊢
  cases e : g t with
  | none =>
    rw [e] at z2
    cases z2
  | some u =>
    rw [e] at z2
    exact ⟨z1, He.frT_none e z2, congrArg some (He.emptyTab_eq z2)⟩
def lookS (n : Nat) (fa : List He.Fa) (fn : List He.DefD) (tf : List He.Defn) (ex : PySem.W.Frag → Bool) (g : Addr → Option Obj) : He.AlX :=
  (He.obsT fa fn [] (He.frT g (wide g n)), ex (He.frT g (wide g n)) && He.tabsB g tf (He.frT g (wide g n)))
theorem lookS_says {n : Nat} {fa : List He.Fa} {fn : List He.DefD} {tf : List He.Defn} {ex : PySem.W.Frag → Bool} {w : World} {h : Heap} (e : lookS n fa fn tf ex h.get? = He.valX fn [] w) : He.SaysX fa fn [] tf ex w h (He.frT h.get? (wide h.get? n)) := by
  have a : _ = He.valT fn [] w := congrArg Prod.fst e
  obtain ⟨b, c⟩ := He.ba (show _ = true from congrArg Prod.snd e)
  exact { t := a, more := b, hd := fun p hp => (tabs_out c p hp).1, out := fun p hp => (tabs_out c p hp).2.1, empty := fun p hp => (tabs_out c p hp).2.2 }
def hookS (n : Nat) (fa : List He.Fa) (fn : List He.DefD) (tf : List He.Defn) (ex : PySem.W.Frag → Bool) : PySem.W.Hook :=
  { α := He.AlX, obs := fun s => lookS n fa fn tf ex s.heap.get?, val := He.valX fn [], says := fun w h => ∃ K : PySem.W.Frag, K.In h ∧ He.SaysX fa fn [] tf ex w h K, of := fun w s e => ⟨_, He.frT_in, lookS_says e⟩,
    keeps := fun w h h' y k => by
      obtain ⟨K, i, c⟩ := y
      exact ⟨K, PySem.W.Frag.In.keeps i k, { t := c.t, more := c.more, hd := c.hd, out := c.out, empty := fun p hp => k _ _ (c.empty p hp) }⟩ }
theorem lookS_eq {n : Nat} {fa : List He.Fa} {fn : List He.DefD} {tf : List He.Defn} {ex : PySem.W.Frag → Bool} (s : PySem.W.SharedT) : lookS n fa fn tf ex (HandSHeadRun.getT s) = (hookS n fa fn tf ex).obs s.abs := by
  rw [show HandSHeadRun.getT s = s.abs.heap.get? from funext (HandSHeadRun.getT_eq s)]
  rfl
/-! ### t.index(n), t a tuple of ints -/
section
variable {X : Cx}
theorem mt_tup_indexI : MtR X "tuple.index" (fun x xs H Q => ∃ (p : Addr) (ys : List Int) (n : Int) (j : Nat), x = .ref p ∧ xs = [.int n] ∧ SqT X.K H p (ys.map V.int) ∧ ys[j]? = some n ∧ (∀ m, m < j → ys[m]? ≠ some n) ∧ Q (.int (j : Nat)) H) := by
  intro pins s σ H x xs v us Q I rx rs h
  obtain ⟨p, ys, n, j, ex, exs, hT, hj, hb, q⟩ := h
  subst ex exs
  cases rx
  obtain ⟨un, eu, tu, etu⟩ := vals1 rs
  subst eu etu
  obtain ⟨its, r, ⟨⟨oc, od, odt, osl⟩, hob, hcl, ep, hdt⟩, hz⟩ := I.tuple hT
  simp only at hcl hdt
  subst hcl hdt
  have hs : its.toArray.size = ys.length := by
    rw [List.size_toArray, ← r.length, List.length_map]
  have hlt : j < ys.length := (List.getElem?_eq_some_iff.mp hj).1
  have what : ∀ (m : Nat) (hm : m < its.toArray.size), ∃ (y : Int) (ty : Tok), ys[m]? = some y ∧ its.toArray[m] = Value.int y ty := fun m hm => by
    have hm2 : m < ys.length := hs ▸ hm
    obtain ⟨wv, hw, ty, hty⟩ := r.get (i := m) (x := V.int ys[m]) (by simp [hm2])
    have e1 := (List.getElem?_eq_some_iff.mp hw).2
    exact ⟨ys[m], ty, List.getElem?_eq_getElem hm2, by rw [← hty, ← e1]; simp⟩
  refine call_meets PySem.F.slot_tuple_index ⟨_, hob, rfl⟩ PySem.F.entry_tuple_index (PySem.F.args_tuple_index_2 _ _)
    (TI.tuple_indexAt p its.toArray ep od osl (.int n tu) (eqU (.int n)) j (by rw [hs]; exact hlt) ?_ fun m hm hmj => ?_)
    ⟨hob, fun wv hw => mem_eqAt (x := .int n) ⟨tu, rfl⟩ rfl r (by rw [List.all_map]; exact List.all_eq_true.mpr fun _ _ => rfl) wv (by simpa using hw), ⟨.int (j : Nat), H, I.tok _, ⟨_, rfl⟩, q⟩⟩
  · obtain ⟨y, ty, h1, h2⟩ := what j (by rw [hs]; exact hlt)
    rw [hj] at h1
    obtain rfl := Option.some.inj h1
    rw [h2]
    show decide (n = n) = true
    exact decide_eq_true rfl
  · obtain ⟨y, ty, h1, h2⟩ := what m hm
    rw [h2]
    show decide (y = n) = false
    exact decide_eq_false fun z => hb m hmj (by rw [h1, z])
end
/-! ### tuples that are known to have no dict of their own: written down as they stand -/
def NoD (o : Obj) : Prop := o.cls = .type "tuple" ∧ o.dict = none
def tTupF (t : TA) : TE := fun σ H Q => t σ H fun xs H1 => xs.length ≤ sizeLine ∧ ∀ (p : Addr) (o : Obj), H1 p = none → NoD o → Q (.ref p) (upd H1 p (.frz o (.tup xs)))
def tBMF (r : V → List V → Hp → VK → Prop) (to : TE) (t : TA) : TE := fun σ H Q => to σ H fun x H1 => (∃ (p : Addr) (o : Obj) (ys : List V), x = .ref p ∧ H1 p = some (.frz o (.tup ys)) ∧ NoD o) ∧ t σ H1 fun xs H2 => r x xs H2 Q
section
variable {X : Cx} {e : Expr} {es : List Expr} {t : TA} {pos : Pos}
theorem pe_tupF {x1} (h : PA X es t) : PE X (.Tuple es x1 pos) (tTupF t) := ⟨fun pins s σ H Q I hq => by
  refine wpAny_Tuple_spliced (thn (h.run pos pins s σ H _ I hq) fun us s1 ⟨xs, H1, I1, r, z, q⟩ => ⟨r.length ▸ z, ?_⟩)
  have fresh := I1.hok.fresh (Nat.le_refl s1.heap.objs.size)
  refine ⟨.ref s1.heap.objs.size, _, I1.laid (o := .frz _ (.tup xs)) (t' := s1.toks) (fun b u e => Heap.get?_push_of_some _ e) (Nat.le_refl _) ⟨Heap.get?_push_size _ rfl, z, us, r, _, Heap.get?_push_size _ rfl, rfl, _, rfl⟩, rfl, q _ _ fresh ⟨rfl, rfl⟩⟩⟩
theorem pe_bmF {o : Expr} {to : TE} {name : Str} {apos : Pos} {id : String} {r : V → List V → Hp → VK → Prop} (slot : Slot "tuple" name id) (hty : typeOf (.builtin id) = pure (.type "method_descriptor")) (hm : MtR X id r) (ho : PE X o to) (ha : PA X (e :: es) t)
    (hb : attributeBase o name X.env (eval o X.env) = eval o X.env := by rfl) (hfw : ((backTo pos (starEach (e :: es) X.env)).all (fun x => !x.1) && (backToKw pos (keywordEach [] X.env)).all (fun x => x.1.isSome) && decide ((e :: es).length + ([] : List Keyword).length + (if ([] : List Keyword).isEmpty then 0 else 1) < 30)) = true := by rfl)
    (hln : (apos.endLine == pos.line) = true := by rfl) (hst : starEach (e :: es) X.env = (false, eval e X.env) :: starEach es X.env := by rfl) (hpl : (backTo pos (starEach es X.env)).any (·.1) = false := by rfl) :
    PE X (.Call (.Attribute o name apos) (e :: es) [] pos) (tBMF r to t) := ⟨fun pins s σ H Q I h => by
  refine wpAny_Call_method_late hb hfw hln rfl (thn (ho.run pins s σ H _ I h) fun v s1 ⟨x, H1, I1, r1, ⟨p, ob, ys, ex, hp, hc, hd⟩, q1⟩ => ?_)
  subst ex
  cases r1
  obtain ⟨hob, _⟩ := I1.hok p _ hp
  refine ⟨"tuple", id, PySem.F.plainAttrs_tuple, slot, hty, ⟨ob, hob, hc⟩, fun a ea => ?_, ?_⟩
  · cases ea
    exact ⟨ob, hob, hd⟩
  have run := ha.run pos pins s1 σ H1 _ I1 q1
  rw [hst] at run ⊢
  refine Calls.callWith_builtin ?_ (Calls.evalArgs_plain (thn run fun us s2 ⟨vs, H2, I2, r2, q2⟩ => hm pins s2 σ H2 (.ref p) vs (.ref p) us Q I2 rfl r2 q2))
  show (false || (backTo pos (starEach es X.env)).any (·.1)) = false
  rw [hpl]
  rfl⟩
end
/-! ### _law_pull -/
abbrev sPull : Stmt := topS 55
theorem scPull : FnScope ["_law_bag_here", "_law_size", "_law_got", "_law_cell"] ["_law_bag_here", "_law_size"] (defScope sPull) := ⟨rfl, rfl, rfl, by decide +kernel, rfl, by decide +kernel, by decide +kernel⟩
def spPull : Sp := fun vs H Q _ => ∃ (b c : Addr) (size : Int), vs = [.ref b, .int size] ∧ Bag H b c ∧ 0 < size ∧ size.natAbs < 2 ^ 200 ∧
  ∀ H' r, Off b H H' → Bag H' b c → 0 ≤ r → r < size → Q (.int r) H'
section
variable {P : Program} {w : World} {K : PySem.W.Frag} {mg : Str → Option Value} {base : Heap}
theorem ok_pull {f : Addr} {fd : FuncData} {k : Nat} (F : Fun K "_law_pull" "_law_pull" sPull f fd) (ml : mg "len" = none) : FnOk P w K mg base CX0 (k + 1) f fd ["_law_bag_here", "_law_size"] spPull := by
  refine F.ok scPull (fun vs H Q E h => ?_) (fun cdv A outer s H vs Q E hr h => ?_)
  · obtain ⟨b, c, size, rfl, _⟩ := h
    rfl
  · obtain ⟨b, c, size, rfl, ⟨cells, at', rest, seed, hb, hc, ha, hr0, hs0, hs1, hcb⟩, hz, hzb, q⟩ := h
    refine ⟨_, pss_cons (ps_if (pt_cmpR op_ge (pe_ix ix_list (pv 0) pe_int (fun _ _ => rfl)) (pv 1) (nomark _))
        (pss_cons (ps_set (i := 2) scPull.nd rfl (.inl rfl) (pe_op op_mod (pe_ix ix_list (pv 0) pe_int (fun _ _ => rfl)) (pv 1)))
        (pss_cons (ps_asg (pe_op op_fdivW (pe_ix ix_list (pv 0) pe_int (fun _ _ => rfl)) (pv 1)) (pg_sub (pv 0) pe_int set_list))
        (pss_one (ps_ret (pv 2))))) pss_nil)
      (pss_cons (ps_set (i := 3) scPull.nd rfl (.inl rfl) pe_int)
      (pss_cons (ps_if (pt_cmpR op_lt (pe_ix ix_list (pv 0) pe_int (fun _ _ => rfl)) (pe_callB call_len_seq (by rfl) ml PySem.boot_len (pa_cons (pe_ix ix_list (pv 0) pe_int (fun _ _ => rfl)) pa_nil)) (nomark _))
        (pss_one (ps_set (i := 3) scPull.nd rfl (.inl rfl) (pe_ix ix_list (pe_ix ix_list (pv 0) pe_int (fun _ _ => rfl)) (pe_ix ix_list (pv 0) pe_int (fun _ _ => rfl)) (fun _ _ => rfl)))) pss_nil)
      (pss_cons (ps_asg (pe_op op_add (pe_ix ix_list (pv 0) pe_int (fun _ _ => rfl)) pe_int) (pg_sub (pv 0) pe_int set_list))
      (pss_cons (ps_if (pt_cmpR op_ge (pv 3) (pe_op op_pow pe_int pe_int) (nomark _))
        (pss_cons (ps_asg (pe_op op_fdivW (pv 3) (pv 1)) (pg_sub (pv 0) pe_int set_list))
        (pss_one (ps_ret (pe_op op_mod (pv 3) (pv 1))))) pss_nil)
      (pss_cons (ps_asg (pe_op op_mod (pe_op op_add (pe_op op_add (pe_op op_add (pe_op op_pow (pe_ix ix_list (pv 0) pe_int (fun _ _ => rfl)) pe_int) (pe_op op_mul pe_int (pe_ix ix_list (pv 0) pe_int (fun _ _ => rfl)))) (pe_op op_mod (pv 3) pe_int)) pe_int) pe_int) (pg_sub (pv 0) pe_int set_list))
      (pss_one (ps_ret (pe_op op_mod (pe_op op_add (pe_op op_fdivW (pe_ix ix_list (pv 0) pe_int (fun _ _ => rfl)) pe_int) (pv 3)) (pv 1))))))))), ?_⟩
    have hd : CDivW rest size := wide_div (b := 200) hz hzb (by decide) (by decide)
    -- if bag[2] >= size
    refine ⟨.ref b, rfl, b, _, 2, .int rest, rfl, rfl, .inl (.inl hb), atI_nat (j := 2) rfl, .int size, rfl, _, _, rfl, rfl, _, rfl, ite2 (fun e => ?_) (fun e => ?_)⟩
    · refine ⟨.ref b, rfl, b, _, 2, .int rest, rfl, rfl, .inl (.inl hb), atI_nat (j := 2) rfl, .int size, rfl, _, _, rfl, rfl, hz, ?_⟩
      refine ⟨.ref b, rfl, b, _, 2, .int rest, rfl, rfl, .inl (.inl hb), atI_nat (j := 2) rfl, .int size, rfl, _, _, rfl, rfl, hd, ?_⟩
      refine ⟨.ref b, rfl, b, _, 2, 2, rfl, rfl, hb, rfl, ?_⟩
      refine ⟨.int (rest % size), rfl, q _ _ Off.upd ⟨cells, at', rest / size, seed, upd_same, ?_, ha, Int.ediv_nonneg hr0 (by omega), hs0, hs1, hcb⟩ (Int.emod_nonneg _ (by omega)) (Int.emod_lt_of_pos _ hz)⟩
      rw [upd_ne hcb]
      exact hc
    · -- cell = 0; if bag[1] < len(bag[0])
      obtain ⟨j, rfl⟩ := Int.eq_ofNat_of_zero_le ha
      refine ⟨.ref b, rfl, b, _, 1, .int (j : Nat), rfl, rfl, .inl (.inl hb), atI_nat (j := 1) rfl, .ref b, rfl, b, _, 0, .ref c, rfl, rfl, .inl (.inl hb), atI_nat (j := 0) rfl, c, _, rfl, .inl (.inl (.inl hc)), _, _, rfl, rfl, _, rfl, ite2 (fun e2 => ?_) (fun e2 => ?_)⟩
      · have hl := of_decide_eq_true e2
        rw [List.length_map] at hl
        have hj : j < cells.length := by omega
        refine ⟨.ref b, rfl, b, _, 0, .ref c, rfl, rfl, .inl (.inl hb), atI_nat (j := 0) rfl, .ref b, rfl, b, _, 1, .int (j : Nat), rfl, rfl, .inl (.inl hb), atI_nat (j := 1) rfl, c, _, _, .int cells[j], rfl, rfl, .inl (.inl hc), atI_nat (j := j) (by rw [List.getElem?_map, List.getElem?_eq_getElem hj]; rfl), ?_⟩
        obtain ⟨cell, hcell⟩ : ∃ cell : Int, cell = cells[j] := ⟨_, rfl⟩
        rw [← hcell]
        -- bag[1] = bag[1] + 1
        refine ⟨.ref b, rfl, b, _, 1, .int (j : Nat), rfl, rfl, .inl (.inl hb), atI_nat (j := 1) rfl, _, _, rfl, rfl, ?_⟩
        refine ⟨.ref b, rfl, b, _, 1, 1, rfl, rfl, hb, rfl, ?_⟩
        have hb1 : (upd H b (.lst [.ref c, .int ((j : Int) + 1), .int rest, .int seed])) b = some (.lst [.ref c, .int ((j : Int) + 1), .int rest, .int seed]) := upd_same
        have hc1 : (upd H b (.lst [.ref c, .int ((j : Int) + 1), .int rest, .int seed])) c = some (.lst (cells.map V.int)) := by
          rw [upd_ne hcb]
          exact hc
        -- if cell >= 10 ** 18
        refine ⟨.int cell, rfl, 10, 18, rfl, rfl, ⟨by decide, by decide, by decide⟩, _, _, rfl, rfl, _, rfl, ite2 (fun e3 => ?_) (fun e3 => ?_)⟩
        · have h18 : (10 : Int) ^ (18 : Int).toNat ≤ cell := of_decide_eq_true e3
          have h0 : (0 : Int) ≤ 10 ^ (18 : Int).toNat := by decide
          refine ⟨.int cell, rfl, .int size, rfl, _, _, rfl, rfl, wide_div (b := 200) hz hzb (by decide) (by decide), ?_⟩
          refine ⟨.ref b, rfl, b, _, 2, 2, rfl, rfl, hb1, rfl, ?_⟩
          refine ⟨.int cell, rfl, .int size, rfl, _, _, rfl, rfl, hz, ?_⟩
          refine q _ _ (Off.upd.trans Off.upd) ⟨cells, (j : Int) + 1, cell / size, seed, upd_same, ?_, by omega, Int.ediv_nonneg (by omega) (by omega), hs0, hs1, hcb⟩ (Int.emod_nonneg _ (by omega)) (Int.emod_lt_of_pos _ hz)
          rw [upd_ne hcb]
          exact hc1
        · -- bag[3] = (bag[3] ** 5 + 69069 * bag[1] + cell % 1000003 + 7) % 2147483629
          have hp : CPow seed 5 := ⟨by decide, by decide, by omega⟩
          refine ⟨.ref b, rfl, b, _, 3, .int seed, rfl, rfl, .inl (.inl hb1), atI_nat (j := 3) rfl, _, _, rfl, rfl, hp, ?_⟩
          refine ⟨.ref b, rfl, b, _, 1, .int ((j : Int) + 1), rfl, rfl, .inl (.inl hb1), atI_nat (j := 1) rfl, _, _, rfl, rfl, .inl ⟨by decide, by decide⟩, _, _, rfl, rfl, ?_⟩
          refine ⟨.int cell, rfl, _, _, rfl, rfl, (show (0 : Int) < 1000003 by decide), _, _, rfl, rfl, _, _, rfl, rfl, _, _, rfl, rfl, (show (0 : Int) < 2147483629 by decide), ?_⟩
          refine ⟨.ref b, rfl, b, _, 3, 3, rfl, rfl, hb1, rfl, ?_⟩
          refine ⟨.ref b, rfl, b, _, 3, _, rfl, rfl, .inl (.inl upd_same), atI_nat (j := 3) rfl, _, _, rfl, rfl, wide_div (b := 200) (by decide) (by decide) (by decide) (by decide), .int cell, rfl, _, _, rfl, rfl, .int size, rfl, _, _, rfl, rfl, hz, ?_⟩
          refine q _ _ (Off.upd.trans Off.upd) ⟨cells, (j : Int) + 1, rest, _, upd_same, ?_, by omega, hr0, Int.emod_nonneg _ (by decide), Int.lt_trans (Int.emod_lt_of_pos _ (by decide)) (by decide), hcb⟩ (Int.emod_nonneg _ (by omega)) (Int.emod_lt_of_pos _ hz)
          rw [upd_ne hcb]
          exact hc1
      · obtain ⟨cell, hcell⟩ : ∃ cell : Int, cell = 0 := ⟨_, rfl⟩
        rw [show (V.int 0) = V.int cell by rw [hcell]]
        -- bag[1] = bag[1] + 1
        refine ⟨.ref b, rfl, b, _, 1, .int (j : Nat), rfl, rfl, .inl (.inl hb), atI_nat (j := 1) rfl, _, _, rfl, rfl, ?_⟩
        refine ⟨.ref b, rfl, b, _, 1, 1, rfl, rfl, hb, rfl, ?_⟩
        have hb1 : (upd H b (.lst [.ref c, .int ((j : Int) + 1), .int rest, .int seed])) b = some (.lst [.ref c, .int ((j : Int) + 1), .int rest, .int seed]) := upd_same
        have hc1 : (upd H b (.lst [.ref c, .int ((j : Int) + 1), .int rest, .int seed])) c = some (.lst (cells.map V.int)) := by
          rw [upd_ne hcb]
          exact hc
        -- if cell >= 10 ** 18
        refine ⟨.int cell, rfl, 10, 18, rfl, rfl, ⟨by decide, by decide, by decide⟩, _, _, rfl, rfl, _, rfl, ite2 (fun e3 => ?_) (fun e3 => ?_)⟩
        · have h18 : (10 : Int) ^ (18 : Int).toNat ≤ cell := of_decide_eq_true e3
          have h0 : (0 : Int) ≤ 10 ^ (18 : Int).toNat := by decide
          refine ⟨.int cell, rfl, .int size, rfl, _, _, rfl, rfl, wide_div (b := 200) hz hzb (by decide) (by decide), ?_⟩
          refine ⟨.ref b, rfl, b, _, 2, 2, rfl, rfl, hb1, rfl, ?_⟩
          refine ⟨.int cell, rfl, .int size, rfl, _, _, rfl, rfl, hz, ?_⟩
          refine q _ _ (Off.upd.trans Off.upd) ⟨cells, (j : Int) + 1, cell / size, seed, upd_same, ?_, by omega, Int.ediv_nonneg (by omega) (by omega), hs0, hs1, hcb⟩ (Int.emod_nonneg _ (by omega)) (Int.emod_lt_of_pos _ hz)
          rw [upd_ne hcb]
          exact hc1
        · -- bag[3] = (bag[3] ** 5 + 69069 * bag[1] + cell % 1000003 + 7) % 2147483629
          have hp : CPow seed 5 := ⟨by decide, by decide, by omega⟩
          refine ⟨.ref b, rfl, b, _, 3, .int seed, rfl, rfl, .inl (.inl hb1), atI_nat (j := 3) rfl, _, _, rfl, rfl, hp, ?_⟩
          refine ⟨.ref b, rfl, b, _, 1, .int ((j : Int) + 1), rfl, rfl, .inl (.inl hb1), atI_nat (j := 1) rfl, _, _, rfl, rfl, .inl ⟨by decide, by decide⟩, _, _, rfl, rfl, ?_⟩
          refine ⟨.int cell, rfl, _, _, rfl, rfl, (show (0 : Int) < 1000003 by decide), _, _, rfl, rfl, _, _, rfl, rfl, _, _, rfl, rfl, (show (0 : Int) < 2147483629 by decide), ?_⟩
          refine ⟨.ref b, rfl, b, _, 3, 3, rfl, rfl, hb1, rfl, ?_⟩
          refine ⟨.ref b, rfl, b, _, 3, _, rfl, rfl, .inl (.inl upd_same), atI_nat (j := 3) rfl, _, _, rfl, rfl, wide_div (b := 200) (by decide) (by decide) (by decide) (by decide), .int cell, rfl, _, _, rfl, rfl, .int size, rfl, _, _, rfl, rfl, hz, ?_⟩
          refine q _ _ (Off.upd.trans Off.upd) ⟨cells, (j : Int) + 1, rest, _, upd_same, ?_, by omega, hr0, Int.emod_nonneg _ (by decide), Int.lt_trans (Int.emod_lt_of_pos _ (by decide)) (by decide), hcb⟩ (Int.emod_nonneg _ (by omega)) (Int.emod_lt_of_pos _ hz)
          rw [upd_ne hcb]
          exact hc1
end
/-! ### _law_bag -/
abbrev sBag : Stmt := topS 54
theorem scBag : FnScope ["_law_script"] ["_law_script"] (defScope sBag) := ⟨rfl, rfl, rfl, by decide +kernel, rfl, by decide +kernel, by decide +kernel⟩
def spBag (K : PySem.W.Frag) : Sp := fun vs H Q _ => ∃ (a : Addr) (ns : List Int), vs = [.ref a] ∧ SqL K H a (ns.map V.int) ∧ ns.length ≤ 63 ∧
  ∀ H' b c, Same H H' → Bag H' b c → H b = none → Q (.ref b) H'
theorem cut_map (ns : List Int) (lo hi : Option Int) : ∃ ms : List Int, cutV (ns.map V.int) lo hi = ms.map V.int ∧ ms.length ≤ ns.length := by
  unfold cutV
  refine ⟨(ns.drop (HT.sIx (ns.map V.int).length 0 lo)).take (HT.sIx (ns.map V.int).length (ns.map V.int).length hi - HT.sIx (ns.map V.int).length 0 lo), ?_, ?_⟩
  · rw [List.map_take, List.map_drop]
  · rw [List.length_take, List.length_drop]
    omega
section
variable {P : Program} {w : World} {K : PySem.W.Frag} {mg : Str → Option Value} {base : Heap}
theorem ok_bag {f : Addr} {fd : FuncData} {k : Nat} (F : Fun K "_law_bag" "_law_bag" sBag f fd) (ml : mg "len" = none) (mli : mg "list" = none) : FnOk P w K mg base CX0 (k + 1) f fd ["_law_script"] (spBag K) := by
  refine F.ok scBag (fun vs H Q E h => ?_) (fun cdv A outer s H vs Q E hr h => ?_)
  · obtain ⟨a, ns, rfl, _⟩ := h
    rfl
  · obtain ⟨a, ns, rfl, hS, hlen, q⟩ := h
    refine ⟨_, pss_one (ps_ret (pe_lst (pa_cons (pe_callTy call_list_of (by rfl) mli (by decide +kernel) (pa_cons (pe_slice sl_list (pv 0) po_none (po_some pe_int)) pa_nil))
      (pa_cons pe_int (pa_cons pe_int (pa_cons (pe_op op_add pe_int (pe_callB call_len_seq (by rfl) ml PySem.boot_len (pa_cons (pe_slice sl_list (pv 0) po_none (po_some pe_int)) pa_nil))) pa_nil)))))), ?_⟩
    obtain ⟨ms, em, lm⟩ := cut_map ns none (some 63)
    refine ⟨.ref a, rfl, 63, rfl, a, _, rfl, hS, fun p np => ?_⟩
    rw [em]
    refine ⟨p, _, rfl, .inl (.inl (.inl upd_same)), fun l nl => ?_⟩
    have s1 : Same H (upd H p (.lst (ms.map V.int))) := same_upd np
    have s2 : Same (upd H p (.lst (ms.map V.int))) (upd (upd H p (.lst (ms.map V.int))) l (.lst (ms.map V.int))) := same_upd nl
    refine ⟨.ref a, rfl, 63, rfl, a, _, rfl, (s1.trans s2).seq hS, fun p2 np2 => ?_⟩
    rw [em]
    have s3 := same_upd (o := .lst (ms.map V.int)) np2
    refine ⟨p2, _, rfl, .inl (.inl (.inl upd_same)), _, _, rfl, rfl, (show (4 : Nat) ≤ sizeLine by decide), fun b nb => ?_⟩
    have s4 := same_upd (o := .lst [.ref l, .int 0, .int 0, .int (9463 + ((ms.map V.int).length : Nat))]) nb
    have hl : (upd (upd (upd (upd H p (.lst (ms.map V.int))) l (.lst (ms.map V.int))) p2 (.lst (ms.map V.int))) b (.lst [.ref l, .int 0, .int 0, .int (9463 + ((ms.map V.int).length : Nat))])) l = some (.lst (ms.map V.int)) := s4 _ _ (s3 _ _ upd_same)
    refine q _ b l (((s1.trans s2).trans s3).trans s4) ⟨ms, 0, 0, _, upd_same, hl, by decide, by decide, ?_, ?_, ?_⟩ (((s1.trans s2).trans s3).free nb)
    · omega
    · rw [List.length_map]
      omega
    · exact ne_of_none (s3 _ _ (upd_same (H := upd H p (.lst (ms.map V.int))) (a := l) (o := .lst (ms.map V.int)))) nb
end
/-! ### _law_of -/
abbrev sOf : Stmt := topS 56
theorem scOf : FnScope ["_law_bag_here", "_law_things"] ["_law_bag_here", "_law_things"] (defScope sOf) := ⟨rfl, rfl, rfl, by decide +kernel, rfl, by decide +kernel, by decide +kernel⟩
def spOf : Sp := fun vs H Q _ => ∃ (b c t : Addr) (xs : List V), vs = [.ref b, .ref t] ∧ Bag H b c ∧ H t = some (.lst xs) ∧ t ≠ b ∧ 0 < xs.length ∧ xs.length ≤ 1000 ∧
  ∀ H' v, Off b H H' → Bag H' b c → v ∈ xs → Q v H'
section
variable {P : Program} {w : World} {K : PySem.W.Frag} {mg : Str → Option Value} {base : Heap}
theorem ok_of {f fP : Addr} {fd fdP : FuncData} {k : Nat} (F : Fun K "_law_of" "_law_of" sOf f fd) (ml : mg "len" = none)
    (FP : Fun K "_law_pull" "_law_pull" sPull fP fdP) (bP : Binds K fdP ["_law_bag_here", "_law_size"] []) (gP : mg "_law_pull" = some (.ref fP)) : FnOk P w K mg base CX0 (k + 2) f fd ["_law_bag_here", "_law_things"] spOf := by
  have GP : FnOk P w K mg base CX0 (k + 1) fP fdP ["_law_bag_here", "_law_size"] spPull := ok_pull FP ml
  refine F.ok scOf (fun vs H Q E h => ?_) (fun cdv A outer s H vs Q E hr h => ?_)
  · obtain ⟨b, c, t, xs, rfl, _⟩ := h
    rfl
  · obtain ⟨b, c, t, xs, rfl, hB, hT, htb, h0, h1, q⟩ := h
    refine ⟨_, pss_one (ps_ret (pe_ix ix_list (pv 1) (pe_call GP hr (by rfl) gP FP.kp bP .nil pass0 (pa_cons (pv 0) (pa_cons (pe_callB call_len_seq (by rfl) ml PySem.boot_len (pa_cons (pv 1) pa_nil)) pa_nil))) (fun _ _ => rfl))), ?_⟩
    refine ⟨.ref t, rfl, .ref b, rfl, .ref t, rfl, t, xs, rfl, .inl (.inl (.inl hT)), b, c, _, rfl, hB, by omega, ?_, fun H' r off bag hr0 hr1 => ?_⟩
    · rw [Int.natAbs_natCast]
      exact Nat.lt_of_le_of_lt h1 (by decide)
    · obtain ⟨n, rfl⟩ := Int.eq_ofNat_of_zero_le hr0
      have hn : n < xs.length := by omega
      refine ⟨t, xs, _, xs[n], rfl, rfl, .inl (.inl (off _ _ htb hT)), atI_nat (List.getElem?_eq_getElem hn), ?_⟩
      exact q _ _ off bag (List.getElem_mem hn)
end
/-! ### _law_like -/
theorem Same.tup {K : PySem.W.Frag} {H H' : Hp} {a : Addr} {xs : List V} (e : Same H H') (h : SqT K H a xs) : SqT K H' a xs := by
  rcases h with (h | ⟨o, h⟩) | h
  · exact .inl (.inl (e _ _ h))
  · exact .inl (.inr ⟨o, e _ _ h⟩)
  · exact .inr h
theorem tyL {K : PySem.W.Frag} {H : Hp} {a : Addr} {xs : List V} (h : SqL K H a xs) : TyX K H (.ref a) (.type "list") := by
  rcases h with (h | ⟨o, h⟩) | ⟨o, its, n, h1, h2, h3⟩
  · exact .base (.lst h)
  · exact .base (.frz h)
  · exact .kList h1 h2
theorem tyT {K : PySem.W.Frag} {H : Hp} {a : Addr} {xs : List V} (h : SqT K H a xs) : TyX K H (.ref a) (.type "tuple") := by
  rcases h with (h | ⟨o, h⟩) | ⟨o, its, n, h1, h2, h3⟩
  · exact .base (.tup h)
  · exact .fTuple h
  · exact .kTuple h1 h2
theorem ix_any {K : PySem.W.Frag} {H : Hp} {a : Addr} {xs : List V} {i : Nat} {v : V} {Q : VK} (h : SqL K H a xs ∨ SqT K H a xs) (e : xs[i]? = some v) (q : Q v H) : rIx K (.ref a) (.int (i : Nat)) H Q := by
  rcases h with h | h
  · exact .inl ⟨a, xs, _, v, rfl, rfl, h, atI_nat e, q⟩
  · exact .inr (.inl ⟨a, xs, _, v, rfl, rfl, h, atI_nat e, q⟩)
/-- what was there before a new object was made stays, though that object changes -/
theorem Same.offUpd {H H' : Hp} {D : Addr} {o : HO} (e : Same H H') (n : H D = none) : Same H (upd H' D o) := fun b x h => by
  rw [upd_ne (ne_of_none h n)]
  exact e b x h
theorem yesT {σ : L2.St} {H : Hp} {A B : Hp → Prop} (h : A H) : tYes σ H (fun b H3 => if b = true then A H3 else B H3) := h
/-- the same data, of a depth below n -/
def Lk (K : PySem.W.Frag) (H : Hp) : Nat → V → V → Prop
  | 0, _, _ => False
  | n + 1, v, u => (v = u ∧ (v = .non ∨ (∃ b, v = .bl b) ∨ (∃ i, v = .int i) ∨ ∃ z, v = .str z)) ∨
    ∃ a b xs ys, v = .ref a ∧ u = .ref b ∧ ((SqL K H a xs ∧ SqL K H b ys) ∨ (SqT K H a xs ∧ SqT K H b ys)) ∧ xs.length = ys.length ∧ xs.length ≤ 1000 ∧ ∀ (i : Nat) (x y : V), xs[i]? = some x → ys[i]? = some y → Lk K H n x y
theorem Lk.same {K : PySem.W.Frag} {H H' : Hp} (e : Same H H') : ∀ (n : Nat) (v u : V), Lk K H n v u → Lk K H' n v u
  | 0, _, _, h => h
  | n + 1, v, u, h => by
    rcases h with h | ⟨a, b, xs, ys, e1, e2, h3, h4, h5, h6⟩
    · exact .inl h
    · refine .inr ⟨a, b, xs, ys, e1, e2, ?_, h4, h5, fun i x y p q => Lk.same e n x y (h6 i x y p q)⟩
      rcases h3 with ⟨p, q⟩ | ⟨p, q⟩
      · exact .inl ⟨e.seq p, e.seq q⟩
      · exact .inr ⟨Same.tup e p, Same.tup e q⟩
abbrev sLike : Stmt := topS 61
theorem scLike : FnScope ["_law_one", "_law_due", "_law_at"] ["_law_one", "_law_due"] (defScope sLike) := ⟨rfl, rfl, rfl, by decide +kernel, rfl, by decide +kernel, by decide +kernel⟩
def spLike (K : PySem.W.Frag) (n : Nat) : Sp := fun vs H Q _ => ∃ v u, vs = [v, u] ∧ Lk K H n v u ∧ ∀ H', Same H H' → Q (.bl true) H'
structure LkG (mg : Str → Option Value) : Prop where
  isi : mg "isinstance" = none
  tup : mg "tuple" = none
  lst : mg "list" = none
  len : mg "len" = none
  all : mg "all" = none
  rng : mg "range" = none
  bool : mg "bool" = none
  int : mg "int" = none
  str : mg "str" = none
section
variable {P : Program} {w : World} {K : PySem.W.Frag} {mg : Str → Option Value} {base : Heap}
theorem like_step {f : Addr} {fd : FuncData} {n : Nat} (F : Fun K "_law_like" "_law_like" sLike f fd) (b : Binds K fd ["_law_one", "_law_due"] []) (g : mg "_law_like" = some (.ref f)) (M : LkG mg)
    (G : FnOk P w K mg base CX0 n f fd ["_law_one", "_law_due"] (spLike K n)) : FnOk P w K mg base CX0 (n + 1) f fd ["_law_one", "_law_due"] (spLike K (n + 1)) := by
  refine F.ok scLike (fun vs H Q E h => ?_) (fun cdv A outer s H vs Q E hr h => ?_)
  · obtain ⟨v, u, rfl, _⟩ := h
    rfl
  · obtain ⟨v, u, rfl, hL, q⟩ := h
    refine ⟨_, pss_cons (ps_if (pt_val (pe_callB call_isiT (by rfl) M.isi (by decide +kernel) (pa_cons (pv 1) (pa_cons (pe_tup (pa_cons (pe_bltn (v := .ty "tuple") (by rfl) M.tup (by decide +kernel) rfl) (pa_cons (pe_bltn (v := .ty "list") (by rfl) M.lst (by decide +kernel) rfl) pa_nil))) pa_nil))))
        (pss_cons (ps_if (pt_cmpR op_ne (pe_callB call_isi (by rfl) M.isi (by decide +kernel) (pa_cons (pv 0) (pa_cons (pe_bltn (v := .ty "tuple") (by rfl) M.tup (by decide +kernel) rfl) pa_nil))) (pe_callB call_isi (by rfl) M.isi (by decide +kernel) (pa_cons (pv 1) (pa_cons (pe_bltn (v := .ty "tuple") (by rfl) M.tup (by decide +kernel) rfl) pa_nil))) (nomark _))
          (pss_one (ps_ret pe_bl)) pss_nil)
        (pss_cons (ps_if (PW.pt (pw_or (pt_not (pt_val (pe_callB call_isiT (by rfl) M.isi (by decide +kernel) (pa_cons (pv 0) (pa_cons (pe_tup (pa_cons (pe_bltn (v := .ty "tuple") (by rfl) M.tup (by decide +kernel) rfl) (pa_cons (pe_bltn (v := .ty "list") (by rfl) M.lst (by decide +kernel) rfl) pa_nil))) pa_nil)))))
            (pw_or1 (pt_cmpR op_ne (pe_callB call_len_seq (by rfl) M.len PySem.boot_len (pa_cons (pv 0) pa_nil)) (pe_callB call_len_seq (by rfl) M.len PySem.boot_len (pa_cons (pv 1) pa_nil)) (nomark _)))))
          (pss_one (ps_ret pe_bl)) pss_nil)
        (pss_one (ps_ret (pe_callB (cr_all rfl) (by rfl) M.all (by decide +kernel) (pa_cons (pe_lc (own := [("_law_at", 2)]) (g := gName 2) (tt := tYes) rfl scLike.nd (pi_range1 (by rfl) M.rng (pa_cons (pe_callB call_len_seq (by rfl) M.len PySem.boot_len (pa_cons (pv 1) pa_nil)) pa_nil))
            (blkOk_by (own := [("_law_at", 2)]) (N := ["_law_one", "_law_due", "_law_at"]) (sc := defScope sLike) (by decide +kernel)) (fun _ _ _ _ _ => pg_name (i := 2) scLike.nd rfl (Or.inl rfl)) (fun _ _ _ _ _ => pts_nil)
            (fun _ _ _ _ _ => pe_call G hr (by rfl) g F.kp b .nil pass0 (pa_cons (pe_ix (r := rIx K) ix_seq (pv 0) (pv 2) (fun _ _ => rfl)) (pa_cons (pe_ix (r := rIx K) ix_seq (pv 1) (pv 2) (fun _ _ => rfl)) pa_nil)))) pa_nil)))))) pss_nil)
      (pss_cons (ps_if (pt_val (pe_callB call_isi (by rfl) M.isi (by decide +kernel) (pa_cons (pv 1) (pa_cons (pe_bltn (v := .ty "bool") (by rfl) M.bool (by decide +kernel) rfl) pa_nil))))
        (pss_one (ps_ret (pe_and (pe_callB call_isi (by rfl) M.isi (by decide +kernel) (pa_cons (pv 0) (pa_cons (pe_bltn (v := .ty "bool") (by rfl) M.bool (by decide +kernel) rfl) pa_nil))) (pe_one (pe_cmpR op_eq (pv 0) (pv 1) (nomark _)))))) pss_nil)
      (pss_cons (ps_if (pt_val (pe_callB call_isi (by rfl) M.isi (by decide +kernel) (pa_cons (pv 1) (pa_cons (pe_bltn (v := .ty "int") (by rfl) M.int (by decide +kernel) rfl) pa_nil))))
        (pss_one (ps_ret (pe_and (pe_callB call_isi (by rfl) M.isi (by decide +kernel) (pa_cons (pv 0) (pa_cons (pe_bltn (v := .ty "int") (by rfl) M.int (by decide +kernel) rfl) pa_nil))) (pe_and (pe_not (pe_callB call_isi (by rfl) M.isi (by decide +kernel) (pa_cons (pv 0) (pa_cons (pe_bltn (v := .ty "bool") (by rfl) M.bool (by decide +kernel) rfl) pa_nil)))) (pe_one (pe_cmpR op_eq (pv 0) (pv 1) (nomark _))))))) pss_nil)
      (pss_cons (ps_if (pt_val (pe_callB call_isi (by rfl) M.isi (by decide +kernel) (pa_cons (pv 1) (pa_cons (pe_bltn (v := .ty "str") (by rfl) M.str (by decide +kernel) rfl) pa_nil))))
        (pss_one (ps_ret (pe_and (pe_callB call_isi (by rfl) M.isi (by decide +kernel) (pa_cons (pv 0) (pa_cons (pe_bltn (v := .ty "str") (by rfl) M.str (by decide +kernel) rfl) pa_nil))) (pe_one (pe_cmpR op_eq (pv 0) (pv 1) (nomark _)))))) pss_nil)
      (pss_one (ps_ret (pe_and (pe_cmp (pc_isN (pv 1)) rfl) (pe_one (pe_cmp (pc_isN (pv 0)) rfl)))))))), ?_⟩
    rcases hL with ⟨rfl, hs⟩ | ⟨a1, a2, xs, ys, rfl, rfl, h3, h4, h5, h6⟩
    · rcases hs with rfl | ⟨bb, rfl⟩ | ⟨i, rfl⟩ | ⟨z, rfl⟩
      · refine ⟨.non, rfl, (show (2 : Nat) ≤ sizeLine by decide), fun t nt => ⟨.non, t, _, .type "NoneType", [.type "tuple", .type "list"], false, rfl, upd_same, .cons (.ty _) (.cons (.ty _) .nil), .base .non, kitAny_cons (b := false) (kit_ty (by decide +kernel)) (fun _ => kitAny_cons (b := false) (kit_ty (by decide +kernel)) (fun _ => kitAny_nil) (fun e => nomatch e)) (fun e => nomatch e), _, rfl, iteF ?_⟩⟩
        refine ⟨.non, rfl, .non, _, _, _, false, rfl, .ty _, .base .non, kit_ty (by decide +kernel), _, rfl, iteF ?_⟩
        refine ⟨.non, rfl, .non, _, _, _, false, rfl, .ty _, .base .non, kit_ty (by decide +kernel), _, rfl, iteF ?_⟩
        refine ⟨.non, rfl, .non, _, _, _, false, rfl, .ty _, .base .non, kit_ty (by decide +kernel), _, rfl, iteF ?_⟩
        refine ⟨.non, rfl, _, rfl, iteT ⟨.non, rfl, ?_⟩⟩
        exact q _ (same_upd nt)
      · refine ⟨.bl bb, rfl, (show (2 : Nat) ≤ sizeLine by decide), fun t nt => ⟨.bl bb, t, _, .type "bool", [.type "tuple", .type "list"], false, rfl, upd_same, .cons (.ty _) (.cons (.ty _) .nil), .base (.bl bb), kitAny_cons (b := false) (kit_ty (by decide +kernel)) (fun _ => kitAny_cons (b := false) (kit_ty (by decide +kernel)) (fun _ => kitAny_nil) (fun e => nomatch e)) (fun e => nomatch e), _, rfl, iteF ?_⟩⟩
        refine ⟨.bl bb, rfl, .bl bb, _, _, _, true, rfl, .ty _, .base (.bl bb), kit_ty (by decide +kernel), _, rfl, iteT ?_⟩
        refine ⟨.bl bb, rfl, .bl bb, _, _, _, true, rfl, .ty _, .base (.bl bb), kit_ty (by decide +kernel), _, rfl, iteT ⟨.bl bb, rfl, .bl bb, rfl, rfl, ?_⟩⟩
        rw [decide_eq_true rfl]
        exact q _ (same_upd nt)
      · refine ⟨.int i, rfl, (show (2 : Nat) ≤ sizeLine by decide), fun t nt => ⟨.int i, t, _, .type "int", [.type "tuple", .type "list"], false, rfl, upd_same, .cons (.ty _) (.cons (.ty _) .nil), .base (.int i), kitAny_cons (b := false) (kit_ty (by decide +kernel)) (fun _ => kitAny_cons (b := false) (kit_ty (by decide +kernel)) (fun _ => kitAny_nil) (fun e => nomatch e)) (fun e => nomatch e), _, rfl, iteF ?_⟩⟩
        refine ⟨.int i, rfl, .int i, _, _, _, false, rfl, .ty _, .base (.int i), kit_ty (by decide +kernel), _, rfl, iteF ?_⟩
        refine ⟨.int i, rfl, .int i, _, _, _, true, rfl, .ty _, .base (.int i), kit_ty (by decide +kernel), _, rfl, iteT ?_⟩
        refine ⟨.int i, rfl, .int i, _, _, _, true, rfl, .ty _, .base (.int i), kit_ty (by decide +kernel), _, rfl, iteT ⟨.int i, rfl, .int i, _, _, _, false, rfl, .ty _, .base (.int i), kit_ty (by decide +kernel), _, rfl, _, rfl, iteT ⟨.int i, rfl, .int i, rfl, rfl, ?_⟩⟩⟩
        rw [decide_eq_true rfl]
        exact q _ (same_upd nt)
      · refine ⟨.str z, rfl, (show (2 : Nat) ≤ sizeLine by decide), fun t nt => ⟨.str z, t, _, .type "str", [.type "tuple", .type "list"], false, rfl, upd_same, .cons (.ty _) (.cons (.ty _) .nil), .base (.str z), kitAny_cons (b := false) (kit_ty (by decide +kernel)) (fun _ => kitAny_cons (b := false) (kit_ty (by decide +kernel)) (fun _ => kitAny_nil) (fun e => nomatch e)) (fun e => nomatch e), _, rfl, iteF ?_⟩⟩
        refine ⟨.str z, rfl, .str z, _, _, _, false, rfl, .ty _, .base (.str z), kit_ty (by decide +kernel), _, rfl, iteF ?_⟩
        refine ⟨.str z, rfl, .str z, _, _, _, false, rfl, .ty _, .base (.str z), kit_ty (by decide +kernel), _, rfl, iteF ?_⟩
        refine ⟨.str z, rfl, .str z, _, _, _, true, rfl, .ty _, .base (.str z), kit_ty (by decide +kernel), _, rfl, iteT ?_⟩
        refine ⟨.str z, rfl, .str z, _, _, _, true, rfl, .ty _, .base (.str z), kit_ty (by decide +kernel), _, rfl, iteT ⟨.str z, rfl, .str z, rfl, rfl, ?_⟩⟩
        rw [decide_eq_true rfl]
        exact q _ (same_upd nt)
    · obtain ⟨ty, bt, ht1, ht2, k2, k3, hq1, hq2⟩ : ∃ (ty : String) (bt : Bool), (∀ H', Same H H' → TyX K H' (.ref a1) (.type ty)) ∧ (∀ H', Same H H' → TyX K H' (.ref a2) (.type ty)) ∧ PySem.W.kitAny K (.type ty) [.type "tuple", .type "list"] = some true ∧ PySem.W.kitOne K (.type ty) (.type "tuple") = some bt ∧ (∀ H', Same H H' → SqL K H' a1 xs ∨ SqT K H' a1 xs) ∧ (∀ H', Same H H' → SqL K H' a2 ys ∨ SqT K H' a2 ys) := by
        rcases h3 with ⟨p1, p2⟩ | ⟨p1, p2⟩
        · exact ⟨"list", false, fun _ e => tyL (e.seq p1), fun _ e => tyL (e.seq p2), kitAny_cons (b := false) (kit_ty (by decide +kernel)) (fun _ => kitAny_cons (b := true) (kit_ty (by decide +kernel)) (fun e => nomatch e) (fun _ => rfl)) (fun e => nomatch e), kit_ty (by decide +kernel), fun _ e => .inl (e.seq p1), fun _ e => .inl (e.seq p2)⟩
        · exact ⟨"tuple", true, fun _ e => tyT (Same.tup e p1), fun _ e => tyT (Same.tup e p2), kitAny_cons (b := true) (kit_ty (by decide +kernel)) (fun e => nomatch e) (fun _ => rfl), kit_ty (by decide +kernel), fun _ e => .inr (Same.tup e p1), fun _ e => .inr (Same.tup e p2)⟩
      refine ⟨.ref a2, rfl, (show (2 : Nat) ≤ sizeLine by decide), fun t nt => ⟨.ref a2, t, _, .type ty, [.type "tuple", .type "list"], true, rfl, upd_same, .cons (.ty _) (.cons (.ty _) .nil), ht2 _ (same_upd nt), k2, _, rfl, iteT ?_⟩⟩
      have s1 : Same H (upd H t (.tup [.ty "tuple", .ty "list"])) := same_upd nt
      refine ⟨.ref a1, rfl, .ref a1, _, _, _, bt, rfl, .ty _, ht1 _ s1, k3, .ref a2, rfl, .ref a2, _, _, _, bt, rfl, .ty _, ht2 _ s1, k3, rfl, _, rfl, iteNS rfl ?_⟩
      refine ⟨.ref a1, rfl, (show (2 : Nat) ≤ sizeLine by decide), fun t2 nt2 => ⟨.ref a1, t2, _, .type ty, [.type "tuple", .type "list"], true, rfl, upd_same, .cons (.ty _) (.cons (.ty _) .nil), ht1 _ (s1.trans (same_upd nt2)), k2, _, rfl, iteF ?_⟩⟩
      have s2 := s1.trans (same_upd (o := .tup [.ty "tuple", .ty "list"]) nt2)
      generalize upd (upd H t (.tup [.ty "tuple", .ty "list"])) t2 (.tup [.ty "tuple", .ty "list"]) = H2 at s2 ⊢
      refine ⟨.ref a1, rfl, a1, xs, rfl, hq1 _ s2, .ref a2, rfl, a2, ys, rfl, hq2 _ s2, rfl, _, rfl, iteNS (by rw [h4]) ?_⟩
      refine ⟨.ref a2, rfl, a2, ys, rfl, hq2 _ s2, (ys.length : Nat), rfl, by omega, by omega, fun D nD => ?_⟩
      refine lc_range (lo := 0) (n := ((ys.length : Nat) : Int).toNat) (fun i H' => Same H2 H' ∧ H' D = some (.lst ((List.replicate i true).map V.bl))) ⟨same_upd nD, upd_same⟩ (fun i H' hi hP => ?_) (fun H' hP => ?_)
      · obtain ⟨sm, hD⟩ := hP
        have hi2 : i < ys.length := by omega
        have hi1 : i < xs.length := by omega
        have e0 : (0 : Int) + (i : Int) = (i : Nat) := by omega
        have s3 := s2.trans sm
        refine ⟨rfl, yesT ?_⟩
        refine ⟨.ref a1, rfl, .int (0 + i), rfl, ?_⟩
        rw [e0]
        refine ix_any (hq1 _ s3) (List.getElem?_eq_getElem hi1) ⟨.ref a2, rfl, _, rfl, ?_⟩
        refine ix_any (hq2 _ s3) (List.getElem?_eq_getElem hi2) ?_
        refine ⟨xs[i], ys[i], rfl, Lk.same s3 n _ _ (h6 i _ _ (List.getElem?_eq_getElem hi1) (List.getElem?_eq_getElem hi2)), fun H3 sm3 => ?_⟩
        refine ⟨_, sm3 _ _ hD, ?_, Same.offUpd (sm.trans sm3) nD, ?_⟩
        · rw [List.length_map, List.length_replicate]
          exact small1000 (by omega)
        · rw [upd_same, List.replicate_succ', List.map_append]
          rfl
      · obtain ⟨sm, hD⟩ := hP
        refine ⟨D, _, rfl, .inl (.inl hD), ?_⟩
        rw [show (List.replicate ((ys.length : Nat) : Int).toNat true).all id = true by simp]
        exact q _ (s2.trans sm)
theorem ok_like {f : Addr} {fd : FuncData} (F : Fun K "_law_like" "_law_like" sLike f fd) (b : Binds K fd ["_law_one", "_law_due"] []) (g : mg "_law_like" = some (.ref f)) (M : LkG mg) : ∀ n : Nat, FnOk P w K mg base CX0 n f fd ["_law_one", "_law_due"] (spLike K n)
  | 0 => ⟨fun vs H Q E h => by obtain ⟨v, u, _, h, _⟩ := h; exact h.elim, fun A outer s H args us vs Q E hr he hb hv h => by obtain ⟨v, u, _, h, _⟩ := h; exact h.elim⟩
  | n + 1 => like_step F b g M (ok_like F b g M n)
end
/-! ### rules whose answer is some object that holds the wanted things, new or not -/
theorem tuple_mulW1 (l : Addr) (items : Array Value) (n : Nat) (dd : Option Addr) (sl : Array (Option Value)) (u : Tok) :
    Meets (Builtin.«tuple.__mul__» ⟨[.ref l, .int 1 u], []⟩) (fun _ R s => s.heap.get? l = some { cls := .type "tuple", dict := dd, data := .seq items n, slots := sl } ∧ R (.ok (.ret (Value.ref l))) { s with heap := s.heap, toks := s.toks }) :=
  .of_wp fun prog w A R s h => by
    obtain ⟨hp, g, d, tk, os⟩ := s
    obtain ⟨hl, h⟩ := h
    have f1 := AutoSeq1.idx_int
    wp_walk using wpAny_loadPart' hl
    exact ⟨_, rfl, h⟩
section
variable {X : Cx}
def rRepT1 (K : PySem.W.Frag) : R2 := fun x y H Q => ∃ l xs, x = .ref l ∧ y = .int 1 ∧ SqT K H l xs ∧ Q (.ref l) H
theorem op_repT1 : OpR X (binaryOp .Mult) (rRepT1 X.K) := by
  intro pins s σ H x y v u Q I rx ry h
  obtain ⟨l, xs, rfl, rfl, hT, q⟩ := h
  cases rx
  obtain ⟨t, rfl⟩ := ry
  obtain ⟨its, r, ⟨⟨cls, dd, data, sl⟩, ho, hc, n, hd⟩, hs⟩ := I.tuple hT
  simp only at hc hd
  subst hc hd
  refine wpAny_binaryOp_repeat_ref (T := "tuple") (U := "int") (by decide) ⟨_, ho, rfl⟩ (fun s' => typeIs_int s' 1 t) noFill_tuple_mul F.fills_int_mul F.slot_int_rmul repeat_tuple F.slot_int_index.lookup
    (call_meets F.slot_int_rmul (typeIs_int s 1 t) F.entry_int_rmul (F.args_int_rmul_2 _ _) (int_rmul_tuple 1 t l its.toArray n dd sl)
      ⟨ho, rfl, ⟨_, ho, rfl⟩, call_meets F.slot_tuple_mul ⟨_, ho, rfl⟩ F.entry_tuple_mul (F.args_tuple_mul_2 _ _) (tuple_mulW1 l its.toArray n dd sl t) ⟨ho, ?_⟩⟩)
  exact ⟨.ref l, H, I, rfl, q⟩
/-- t * k -/
def rRepS (K : PySem.W.Frag) : R2 := fun x y H Q => ∃ l k xs, x = .ref l ∧ y = .int k ∧ SqT K H l xs ∧ xs ≠ [] ∧ 1 ≤ k ∧ k ≤ 1000 ∧ xs.length ≤ 1000 ∧ ∀ p H', Same H H' → SqT K H' p (List.replicate k.toNat xs).flatten → Q (.ref p) H'
theorem op_repS : OpR X (binaryOp .Mult) (rRepS X.K) := by
  intro pins s σ H x y v u Q I rx ry h
  obtain ⟨l, k, xs, rfl, rfl, hT, hne, h1, h2, h3, q⟩ := h
  by_cases hk : k = 1
  · subst hk
    refine op_repT1 pins s σ H _ _ v u Q I rx ry ⟨l, xs, rfl, rfl, hT, q l H (Same.refl H) ?_⟩
    rw [show (List.replicate (1 : Int).toNat xs).flatten = xs by simp]
    exact hT
  · exact op_repT pins s σ H _ _ v u Q I rx ry ⟨l, k, xs, rfl, rfl, hT, hne, by omega, h2, h3, fun p np => q p _ (same_upd np) (SqT.of upd_same)⟩
/-- t + u -/
def rCatS (K : PySem.W.Frag) : R2 := fun x y H Q => ∃ a b xs ys, x = .ref a ∧ y = .ref b ∧ SqT K H a xs ∧ SqT K H b ys ∧ xs.length + ys.length ≤ sizeLine ∧ ∀ p H', Same H H' → SqT K H' p (xs ++ ys) → Q (.ref p) H'
theorem op_catS : OpR X (binaryOp .Add) (rCatS X.K) := by
  intro pins s σ H x y v u Q I rx ry h
  obtain ⟨a, b, xs, ys, rfl, rfl, ha, hb, hz, q⟩ := h
  refine op_catA pins s σ H _ _ v u Q I rx ry ⟨a, b, xs, ys, rfl, rfl, ha, hb, hz, fun e => ?_, fun _ e => ?_, fun _ _ p np => q p _ (same_upd np) (SqT.of upd_same)⟩
  · subst e
    exact q b H (Same.refl H) hb
  · subst e
    exact q a H (Same.refl H) (by rw [List.append_nil]; exact ha)
/-- t[lo:hi] -/
def rSlS (K : PySem.W.Frag) : V → Option Int → Option Int → Hp → VK → Prop := fun x lo hi H Q => ∃ a xs, x = .ref a ∧ (SqL K H a xs ∨ SqT K H a xs) ∧ ∀ p H', Same H H' → ((∃ ys, SqL K H a ys) → SqL K H' p (cutV xs lo hi)) → ((∃ ys, SqT K H a ys) → SqT K H' p (cutV xs lo hi)) → (SqL K H' p (cutV xs lo hi) ∨ SqT K H' p (cutV xs lo hi)) → Q (.ref p) H'
def rSlT' (K : PySem.W.Frag) : V → Option Int → Option Int → Hp → VK → Prop := fun x lo hi H Q => ∃ a xs, x = .ref a ∧ SqT K H a xs ∧ ∀ p H', Same H H' → SqT K H' p (cutV xs lo hi) → Q (.ref p) H'
theorem cut_whole {α : Type} {xs : List α} {lo hi : Option Int} (h : HT.sIx xs.length 0 lo = 0 ∧ HT.sIx xs.length xs.length hi = xs.length) : ((xs.drop (HT.sIx xs.length 0 lo)).take (HT.sIx xs.length xs.length hi - HT.sIx xs.length 0 lo)) = xs := by
  rw [h.1, h.2]
  simp
theorem sl_tupS : L2.SlR X (rSlT' X.K) := by
  intro pins s σ H x v vl vu lo hi sl Q I rx hs pl pu h
  obtain ⟨a, xs, rfl, hx, q⟩ := h
  refine sl_tupA pins s σ H _ v vl vu lo hi sl Q I rx hs pl pu ⟨a, xs, rfl, hx, fun e => ?_, fun _ p np => q p _ (same_upd np) (SqT.of upd_same)⟩
  exact q a H (Same.refl H) (by rw [show cutV xs lo hi = xs from cut_whole e]; exact hx)
/-- a list's or a tuple's slice -/
def rSlQ (K : PySem.W.Frag) : V → Option Int → Option Int → Hp → VK → Prop := fun x lo hi H Q => ∃ a xs, x = .ref a ∧ (SqL K H a xs ∨ SqT K H a xs) ∧ ∀ p H', Same H H' → (SqL K H' p (cutV xs lo hi) ∨ SqT K H' p (cutV xs lo hi)) → Q (.ref p) H'
theorem sl_seqS : L2.SlR X (rSlQ X.K) := by
  intro pins s σ H x v vl vu lo hi sl Q I rx hs pl pu h
  obtain ⟨a, xs, rfl, hx, q⟩ := h
  rcases hx with hx | hx
  · exact sl_list pins s σ H _ v vl vu lo hi sl Q I rx hs pl pu ⟨a, xs, rfl, hx, fun p np => q p _ (same_upd np) (.inl (SqL.of upd_same))⟩
  · exact sl_tupS pins s σ H _ v vl vu lo hi sl Q I rx hs pl pu ⟨a, xs, rfl, hx, fun p H' e h => q p H' e (.inr h)⟩
/-- tuple(x) -/
def rTupS (K : PySem.W.Frag) : List V → Hp → VK → Prop := fun vs H Q => ∃ p ys, vs = [.ref p] ∧ (SqL K H p ys ∨ SqT K H p ys) ∧ ∀ l H', Same H H' → SqT K H' l ys → Q (.ref l) H'
theorem call_tupS : CallR X (.type "tuple") (rTupS X.K) := by
  intro pins s σ H xs us Q I r h
  obtain ⟨p, ys, rfl, hx, q⟩ := h
  refine call_tuple_of pins s σ H _ us Q I r ⟨p, ys, rfl, ?_⟩
  rcases hx with hx | hx
  · exact .inl ⟨hx, fun l nl => q l _ (same_upd nl) (SqT.of upd_same)⟩
  · exact .inr ⟨hx, q p H (Same.refl H) hx⟩
/-- len(x) -/
def rLenQ (K : PySem.W.Frag) : List V → Hp → VK → Prop := fun xs H Q => ∃ p ys, xs = [.ref p] ∧ (SqL K H p ys ∨ SqT K H p ys) ∧ Q (.int (ys.length : Nat)) H
theorem call_lenQ : CallR X (.builtin "len") (rLenQ X.K) := call_len_seq
end
theorem cut_to {α : Type} (xs : List α) (k : Nat) : ((xs.drop (HT.sIx xs.length 0 none)).take (HT.sIx xs.length xs.length (some (k : Int)) - HT.sIx xs.length 0 none)) = xs.take k := by
  rw [HT.sIx_none, HT.sIx_nat, List.drop_zero, Nat.sub_zero]
  rcases Nat.le_total k xs.length with h | h
  · rw [Nat.min_eq_left h]
  · rw [Nat.min_eq_right h, List.take_of_length_le h, List.take_length]
theorem cut_from {α : Type} (xs : List α) (k : Nat) : ((xs.drop (HT.sIx xs.length 0 (some (k : Int)))).take (HT.sIx xs.length xs.length none - HT.sIx xs.length 0 (some (k : Int)))) = xs.drop k := by
  rw [HT.sIx_none, HT.sIx_nat]
  rcases Nat.le_total k xs.length with h | h
  · rw [Nat.min_eq_left h, ← List.length_drop, List.take_length]
  · rw [Nat.min_eq_right h, List.drop_of_length_le h, List.drop_length, List.take_nil]
theorem cutV_to (xs : List V) (k : Nat) : cutV xs none (some (k : Int)) = xs.take k := cut_to xs k
theorem cutV_from (xs : List V) (k : Nat) : cutV xs (some (k : Int)) none = xs.drop k := cut_from xs k
/-! ### data of whole numbers -/
theorem dpI {K : PySem.W.Frag} {H : Hp} : ∀ ns : List Int, DpAll K H (ns.map V.int) (ns.map PyData.int)
  | [] => .nil
  | n :: r => .cons (.int n) (dpI r)
theorem canLay_ints : ∀ ns : List Int, PyData.canLayAll0 (ns.map PyData.int) = true
  | [] => rfl
  | _ :: r => by simp [PyData.canLayAll0, PyData.canLay0, canLay_ints r]
theorem depth_ints : ∀ ns : List Int, PyData.depthAll (ns.map PyData.int) = 0
  | [] => rfl
  | _ :: r => by simp [PyData.depthAll, PyData.depth, depth_ints r]
theorem shL (ns : List Int) : SeqAt.shaped (.list (ns.map PyData.int)) = true := by
  simp [SeqAt.shaped, PyData.canLay0, PyData.depth, canLay_ints, depth_ints]
theorem shT (ns : List Int) : SeqAt.shaped (.tuple (ns.map PyData.int)) = true := by
  simp [SeqAt.shaped, PyData.canLay0, PyData.depth, canLay_ints, depth_ints]
theorem eqv_ints : ∀ ns ms : List Int, PyData.eqvAll (ns.map PyData.int) (ms.map PyData.int) = decide (ns = ms)
  | [], [] => rfl
  | [], _ :: _ => by simp [PyData.eqvAll]
  | _ :: _, [] => by simp [PyData.eqvAll]
  | a :: r, b :: t => by
    simp only [List.map_cons, PyData.eqvAll, PyData.eqv, eqv_ints r t]
    by_cases h : a = b <;> by_cases h' : r = t <;> simp [h, h']
theorem eqvL (ns ms : List Int) : PyData.eqv (.list (ns.map PyData.int)) (.list (ms.map PyData.int)) = decide (ns = ms) := by
  simp only [PyData.eqv]
  exact eqv_ints ns ms
theorem eqvT (ns ms : List Int) : PyData.eqv (.tuple (ns.map PyData.int)) (.tuple (ms.map PyData.int)) = decide (ns = ms) := by
  simp only [PyData.eqv]
  exact eqv_ints ns ms
theorem dpL {K : PySem.W.Frag} {H : Hp} {a : Addr} {ns : List Int} (h : SqL K H a (ns.map V.int)) : Dp K H (.ref a) (.list (ns.map PyData.int)) := .lst h (dpI ns)
theorem dpT {K : PySem.W.Frag} {H : Hp} {a : Addr} {ns : List Int} (h : SqT K H a (ns.map V.int)) : Dp K H (.ref a) (.tuple (ns.map PyData.int)) := .tup h (dpI ns)
theorem flat_map (ns : List Int) (k : Nat) : (List.replicate k (ns.map V.int)).flatten = ((List.replicate k ns).flatten).map V.int := by
  induction k with
  | zero => rfl
  | succ k ih => rw [List.replicate_succ, List.replicate_succ, List.flatten_cons, List.flatten_cons, List.map_append, ih]
theorem small_k {n : Nat} (h : n ≤ 5000) : n < sizeLine := by
  rw [sizeLine_eq]
  omega
theorem same_any {K : PySem.W.Frag} {H H' : Hp} {a : Addr} {xs : List V} (e : Same H H') (h : SqL K H a xs ∨ SqT K H a xs) : SqL K H' a xs ∨ SqT K H' a xs := by
  rcases h with h | h
  · exact .inl (e.seq h)
  · exact .inr (Same.tup e h)
def nI (ns : List Nat) : List Int := ns.map fun (n : Nat) => (n : Int)
/-! ### _law_far -/
abbrev sFar : Stmt := topS 62
theorem scFar : FnScope ["_law_bag_here"] ["_law_bag_here"] (defScope sFar) := ⟨rfl, rfl, rfl, by decide +kernel, rfl, by decide +kernel, by decide +kernel⟩
def spFar : Sp := fun vs H Q _ => ∃ (b c : Addr), vs = [.ref b] ∧ Bag H b c ∧ ∀ H' (r : Nat), Off b H H' → Bag H' b c → Q (.int (r : Nat)) H'
section
variable {P : Program} {w : World} {K : PySem.W.Frag} {mg : Str → Option Value} {base : Heap}
theorem ok_far {f fP : Addr} {fd fdP : FuncData} {k : Nat} (F : Fun K "_law_far" "_law_far" sFar f fd) (FP : Fun K "_law_pull" "_law_pull" sPull fP fdP) (bP : Binds K fdP ["_law_bag_here", "_law_size"] []) (gP : mg "_law_pull" = some (.ref fP))
    (GP : FnOk P w K mg base CX0 k fP fdP ["_law_bag_here", "_law_size"] spPull) : FnOk P w K mg base CX0 (k + 1) f fd ["_law_bag_here"] spFar := by
  refine F.ok scFar (fun vs H Q E h => ?_) (fun cdv A outer s H vs Q E hr h => ?_)
  · obtain ⟨b, c, rfl, _⟩ := h
    rfl
  · obtain ⟨b, c, rfl, hB, q⟩ := h
    refine ⟨_, pss_one (ps_ret (pe_call GP hr (by rfl) gP FP.kp bP .nil pass0 (pa_cons (pv 0) (pa_cons (pe_op op_pow pe_int pe_int) pa_nil)))), ?_⟩
    refine ⟨.ref b, rfl, 10, 29, rfl, rfl, ⟨by decide, by decide, by decide⟩, b, c, _, rfl, hB, by decide, by decide, fun H' r off bag r0 _ => ?_⟩
    obtain ⟨m, rfl⟩ := Int.eq_ofNat_of_zero_le r0
    exact q H' m off bag
end
/-! ### for i, (x, y) in enumerate(zip(xs, ys)) -/
/-- a zip, its first two fields at will -/
abbrev ZipX (h : Heap) (z TI TO : Addr) (f0 : Value) (f1 : Bool) : Prop :=
  h.get? z = some { cls := .type "zip", dict := none, data := .fields #[f0, .bool f1, .bool false, .ref TI, .ref TO], slots := #[] }
/-- its tuple is free: it has none, or the one that it had is gone -/
def FreeT (h : Heap) (f0 : Value) : Prop := f0 = .none ∨ ∃ T : Addr, f0 = rawInt T ∧ h.get? T = none
section
variable {P : Program} {w : World} {A : Around} {E : Value → Shared → Prop} {s : Shared}
theorem gone_is {a : Addr} {Q : Option Obj → Shared → Prop} (e : s.heap.get? a = none) (q : Q none s) : wpAny (model P w) A (loadIfAlive a) Q E s := by
  have q2 : Q (s.heap.get? a) s := by rw [e]; exact q
  exact fun _ _ _ => q2
theorem owned_free {z TI TO : Addr} {f0 : Value} {f1 : Bool} {Q : Bool → Shared → Prop} (pz : ZipX s.heap z TI TO f0 f1) (fr : FreeT s.heap f0) (q : Q true s) : wpAny (model P w) A (Builtin.SmallTypes.ownedTupleIsFree (.ref z)) Q E s := by
  unfold Builtin.SmallTypes.ownedTupleIsFree
  rcases fr with rfl | ⟨T, rfl, gT⟩
  · exact wpAny_bind (wpAny_field pz rfl (x := .none) rfl (wpAny_pure q))
  · refine wpAny_bind (wpAny_field pz rfl (x := rawInt T) rfl ?_)
    show wpAny _ _ (loadIfAlive ((T : Int).toNat) >>= _) _ _ _
    rw [Int.toNat_natCast]
    refine wpAny_bind (gone_is gT ?_)
    simp only [Option.isNone_none, if_true]
    exact wpAny_pure q
/-- the next pair, the zip's tuple being free -/
theorem zfree_item {z TI TO i1 i2 a b : Addr} {f0 : Value} {f1 : Bool} {m n : Nat} {xs ys : Array Value} {x y u v : Value} {Q : Value → Shared → Prop} (D : ZipApart z TI TO i1 i2 a b) (pz : ZipX s.heap z TI TO f0 f1) (fr : FreeT s.heap f0)
    (pI : IsPair s.heap TI (.ref i1) (.ref i2)) (pO : IsPair s.heap TO u v) (p1 : s.heap.IsListIter i1 a m) (p2 : s.heap.IsListIter i2 b n) (la : s.heap.IsList a xs) (lb : s.heap.IsList b ys) (ex : xs[m]? = some x) (ey : ys[n]? = some y)
    (q : ∀ h', IsZip h' z TI TO (rawInt s.heap.objs.size) → IsPair h' TO x y → h'.IsListIter i1 a (m + 1) → h'.IsListIter i2 b (n + 1) → IsPair h' s.heap.objs.size x y → h'.objs.size = s.heap.objs.size + 1 →
      (∀ c o, c ≠ z → c ≠ TO → c ≠ i1 → c ≠ i2 → s.heap.get? c = some o → h'.get? c = some o) → Q (.ref s.heap.objs.size) { s with heap := h' }) :
    wpAny (model P w) A (Builtin.«zip.__next__» ⟨[.ref z], []⟩) (fun fin s' => ∃ v, fin = .done (.ret v) ∧ Q v s') E s := by
  show wpAny _ _ (field (.ref z) 2 >>= _) _ _ _
  refine wpAny_bind (wpAny_field pz rfl (x := .bool false) rfl ?_)
  show wpAny _ _ (field (.ref z) 3 >>= _) _ _ _
  refine wpAny_bind (wpAny_field pz rfl (x := .ref TI) rfl (wpAny_bind (wpAny_seqItems pI rfl ?_)))
  show wpAny _ _ (Builtin.SmallTypes.ownedTupleIsFree (.ref z) >>= _) _ _ _
  refine wpAny_bind (owned_free pz fr ?_)
  simp only [if_true]
  refine wpAny_bind (wpAny_rule (wpAny_bind (wpAny_field pz rfl (x := .ref TO) rfl ?_)))
  refine wpAny_bind (wpAny_setField_rec pz (by simp) fun k1 z1 e1 => ?_)
  have z1 : ZipX k1 z TI TO .ellipsis f1 := z1
  refine wpAny_bind ?_
  simp only [List.zipIdx_cons, List.zipIdx_nil, List.forIn_cons, List.forIn_nil]
  refine wpAny_bind (wpAny_bind (wpAny_onRaise ?_))
  show wpAny _ _ (Builtin.SmallTypes.nextOf (.ref i1) >>= _) _ _ _
  refine wpAny_bind (wpAny_nextOf_list_item (p1.extBut e1.extBut D.i1z) (la.extBut e1.extBut D.l1z) ex fun k2 g2 e2 => wpAny_pure ?_)
  have o2 : IsPair k2 TO u v := e2.extBut _ _ D.TOi1 (e1.extBut _ _ D.TOz pO)
  refine wpAny_bind (wpAny_seqItems o2 rfl (wpAny_bind (wpAny_updateSeq_pair o2 fun k3 o3 e3 => ?_)))
  have o3 : IsPair k3 TO x v := o3
  refine wpAny_bind (wpAny_letGo (wpAny_pure (wpAny_bind (wpAny_bind (wpAny_onRaise ?_)))))
  show wpAny _ _ (Builtin.SmallTypes.nextOf (.ref i2) >>= _) _ _ _
  have p23 := ((p2.extBut e1.extBut D.i2z).extBut e2.extBut D.i12.symm).extBut e3.extBut D.TOi2.symm
  have lb3 := ((lb.extBut e1.extBut D.l2z).extBut e2.extBut D.l2i1).extBut e3.extBut D.l2TO
  refine wpAny_bind (wpAny_nextOf_list_item p23 lb3 ey fun k4 g4 e4 => wpAny_pure ?_)
  have o4 : IsPair k4 TO x v := e4.extBut _ _ D.TOi2 o3
  refine wpAny_bind (wpAny_seqItems o4 rfl (wpAny_bind (wpAny_updateSeq_pair o4 fun k5 o5 e5 => ?_)))
  have o5 : IsPair k5 TO x y := o5
  refine wpAny_bind (wpAny_letGo (wpAny_pure (wpAny_pure ?_)))
  refine wpAny_bind (wpAny_seqItems o5 rfl (wpAny_bind (wpAny_newTuple ?_)))
  have size : k5.objs.size = s.heap.objs.size := by rw [e5.1, e4.1, e3.1, e2.1, e1.1]
  have z5 : ZipX k5 z TI TO .ellipsis f1 := e5.extBut _ _ D.TOz.symm (e4.extBut _ _ D.i2z.symm (e3.extBut _ _ D.TOz.symm (e2.extBut _ _ D.i1z.symm z1)))
  have keep5 : ∀ c o, c ≠ z → c ≠ TO → c ≠ i1 → c ≠ i2 → s.heap.get? c = some o → k5.get? c = some o := fun c o n1 n2 n3 n4 g => e5.extBut _ _ n2 (e4.extBut _ _ n4 (e3.extBut _ _ n2 (e2.extBut _ _ n3 (e1.extBut _ _ n1 g))))
  have p15 : k5.IsListIter i1 a (m + 1) := ((g2.extBut e3.extBut D.TOi1.symm).extBut e4.extBut D.i12).extBut e5.extBut D.TOi1.symm
  have p25 : k5.IsListIter i2 b (n + 1) := g4.extBut e5.extBut D.TOi2.symm
  have zlt : z < k5.objs.size := Heap.lt_size z5
  show wpAny _ _ (Builtin.SmallTypes.ownedTupleHandOut (.ref z) (.ref k5.objs.size) >>= _) _ _ _
  refine wpAny_bind ?_
  unfold Builtin.SmallTypes.ownedTupleHandOut
  have z6 : ZipX (k5.push { cls := .type "tuple", data := .seq #[x, y] }) z TI TO .ellipsis f1 := Heap.get?_push_of_some _ z5
  refine wpAny_bind (wpAny_setField_rec z6 (by simp) fun k7 z7 e7 => ?_)
  have z7 : ZipX k7 z TI TO (rawInt k5.objs.size) f1 := z7
  refine wpAny_setField_rec z7 (by simp) fun k8 z8 e8 => ?_
  have z8 : IsZip k8 z TI TO (rawInt k5.objs.size) := z8
  have up : ∀ c o, c ≠ z → k5.get? c = some o → k8.get? c = some o := fun c o n1 g => e8.extBut _ _ n1 (e7.extBut _ _ n1 (Heap.get?_push_of_some _ g))
  have t8 : IsPair k8 k5.objs.size x y := e8.extBut _ _ (Nat.ne_of_gt zlt) (e7.extBut _ _ (Nat.ne_of_gt zlt) (Heap.get?_push_size _ rfl))
  have size8 : k8.objs.size = k5.objs.size + 1 := by rw [e8.1, e7.1, Heap.size_push]
  rw [size] at z8 t8 size8
  refine wpAny_pure ⟨_, rfl, ?_⟩
  show Q (.ref k5.objs.size) _
  rw [size]
  exact q k8 z8 (up _ _ D.TOz o5) (p15.at fun o g => up _ o D.i1z g) (p25.at fun o g => up _ o D.i2z g) t8 size8 fun c o n1 n2 n3 n4 g => up c o n1 (keep5 c o n1 n2 n3 n4 g)
/-- its end, the tuple being free -/
theorem zfree_end {z TI TO i1 i2 a b : Addr} {f0 : Value} {f1 : Bool} {m n : Nat} {xs ys : Array Value} {u v : Value} {Q : Fin → Shared → Prop} (calm : A.handled = none) (D : ZipApart z TI TO i1 i2 a b) (pz : ZipX s.heap z TI TO f0 f1) (fr : FreeT s.heap f0)
    (pI : IsPair s.heap TI (.ref i1) (.ref i2)) (pO : IsPair s.heap TO u v) (p1 : s.heap.IsListIter i1 a m) (p2 : s.heap.IsListIter i2 b n) (la : s.heap.IsList a xs) (lb : s.heap.IsList b ys) (last : xs[m]? = none ∨ ys[n]? = none)
    (q : ∀ h' x, (∀ c o, c ≠ z → c ≠ TO → c ≠ i1 → c ≠ i2 → s.heap.get? c = some o → h'.get? c = some o) → (∃ o, h'.get? x = some o ∧ o.cls = .type "StopIteration") → E (.ref x) { s with heap := h' }) :
    wpAny (model P w) A (Builtin.«zip.__next__» ⟨[.ref z], []⟩) Q E s := by
  show wpAny _ _ (field (.ref z) 2 >>= _) _ _ _
  refine wpAny_bind (wpAny_field pz rfl (x := .bool false) rfl ?_)
  show wpAny _ _ (field (.ref z) 3 >>= _) _ _ _
  refine wpAny_bind (wpAny_field pz rfl (x := .ref TI) rfl (wpAny_bind (wpAny_seqItems pI rfl ?_)))
  show wpAny _ _ (Builtin.SmallTypes.ownedTupleIsFree (.ref z) >>= _) _ _ _
  refine wpAny_bind (owned_free pz fr ?_)
  simp only [if_true]
  refine wpAny_bind (wpAny_rule (wpAny_bind (wpAny_field pz rfl (x := .ref TO) rfl ?_)))
  refine wpAny_bind (wpAny_setField_rec pz (by simp) fun k1 z1 e1 => ?_)
  have z1 : ZipX k1 z TI TO .ellipsis f1 := z1
  refine wpAny_bind ?_
  simp only [List.zipIdx_cons, List.zipIdx_nil, List.forIn_cons, List.forIn_nil]
  refine wpAny_bind (wpAny_bind (wpAny_onRaise ?_))
  show wpAny _ _ (Builtin.SmallTypes.nextOf (.ref i1) >>= _) _ _ _
  have fin : ∀ (k : Heap) (x : Addr), ZipX k z TI TO .ellipsis f1 → (∃ o, k.get? x = some o ∧ o.cls = .type "StopIteration") → (∀ c o, c ≠ z → c ≠ TO → c ≠ i1 → c ≠ i2 → s.heap.get? c = some o → k.get? c = some o) →
      wpAny (model P w) A (setField (.ref z) 0 .none) (fun _ s' => E (.ref x) s') E { s with heap := k } := fun k x zk ⟨o, ho, hc⟩ keep => by
    have ne : x ≠ z := fun e => by
      rw [e, zk] at ho
      cases ho
      simp at hc
    exact wpAny_setField_rec zk (by simp) fun k' _ e' => q k' x (fun c o n1 n2 n3 n4 g => e'.extBut _ _ n1 (keep c o n1 n2 n3 n4 g)) ⟨o, e'.extBut _ _ ne ho, hc⟩
  cases ex : xs[m]? with
  | none =>
    refine wpAny_bind (wpAny_nextOf_list_end calm (p1.extBut e1.extBut D.i1z) (la.extBut e1.extBut D.l1z) ex fun k2 x e2 hx => ?_)
    exact fin k2 x (e2 _ _ D.i1z.symm z1) hx fun c o n1 _ n3 _ g => e2 _ _ n3 (e1.extBut _ _ n1 g)
  | some x =>
    have ey : ys[n]? = none := last.resolve_left (by rw [ex]; exact fun z => nomatch z)
    refine wpAny_bind (wpAny_nextOf_list_item (p1.extBut e1.extBut D.i1z) (la.extBut e1.extBut D.l1z) ex fun k2 g2 e2 => wpAny_pure ?_)
    have o2 : IsPair k2 TO u v := e2.extBut _ _ D.TOi1 (e1.extBut _ _ D.TOz pO)
    refine wpAny_bind (wpAny_seqItems o2 rfl (wpAny_bind (wpAny_updateSeq_pair o2 fun k3 o3 e3 => ?_)))
    refine wpAny_bind (wpAny_letGo (wpAny_pure (wpAny_bind (wpAny_bind (wpAny_onRaise ?_)))))
    show wpAny _ _ (Builtin.SmallTypes.nextOf (.ref i2) >>= _) _ _ _
    have p23 := ((p2.extBut e1.extBut D.i2z).extBut e2.extBut D.i12.symm).extBut e3.extBut D.TOi2.symm
    have lb3 := ((lb.extBut e1.extBut D.l2z).extBut e2.extBut D.l2i1).extBut e3.extBut D.l2TO
    refine wpAny_bind (wpAny_nextOf_list_end calm p23 lb3 ey fun k4 x e4 hx => ?_)
    exact fin k4 x (e4 _ _ D.i2z.symm (e3.extBut _ _ D.TOz.symm (e2.extBut _ _ D.i1z.symm z1))) hx fun c o n1 n2 n3 n4 g => e4 _ _ n4 (e3.extBut _ _ n2 (e2.extBut _ _ n3 (e1.extBut _ _ n1 g)))
end
/-- a zip of two lists at its i-th turn, whatever became of its tuple -/
def ZSt (z TI TO i1 i2 a b : Addr) (i : Nat) (h : Heap) : Prop := ∃ f0 f1, ZipX h z TI TO f0 f1 ∧ (f0 = .none ∨ ∃ T : Addr, f0 = rawInt T) ∧ IsPair h TI (.ref i1) (.ref i2) ∧ (∃ u v, IsPair h TO u v) ∧ h.IsListIter i1 a i ∧ h.IsListIter i2 b i
theorem ZSt.keep {z TI TO i1 i2 a b : Addr} {i : Nat} {h h' : Heap} (st : ZSt z TI TO i1 i2 a b i h) (k : ∀ c ∈ [z, TI, TO, i1, i2], ∀ o, h.get? c = some o → h'.get? c = some o) : ZSt z TI TO i1 i2 a b i h' := by
  obtain ⟨f0, f1, pz, ff, pI, ⟨u, v, pO⟩, p1, p2⟩ := st
  exact ⟨f0, f1, k z (by simp) _ pz, ff, k TI (by simp) _ pI, ⟨u, v, k TO (by simp) _ pO⟩, p1.at fun o e => k i1 (by simp) o e, p2.at fun o e => k i2 (by simp) o e⟩
theorem ZSt.lt {z TI TO i1 i2 a b : Addr} {i : Nat} {h : Heap} (st : ZSt z TI TO i1 i2 a b i h) : ∀ c ∈ [z, TI, TO, i1, i2], ∃ o, h.get? c = some o ∧ ∀ v, o.data ≠ .cell v := by
  obtain ⟨f0, f1, pz, ff, pI, ⟨u, v, pO⟩, ⟨o1, h1, _, d1⟩, ⟨o2, h2, _, d2⟩⟩ := st
  intro c hc
  have hc : c = z ∨ c = TI ∨ c = TO ∨ c = i1 ∨ c = i2 := by simpa using hc
  rcases hc with e | e | e | e | e
  · rw [e]; exact ⟨_, pz, fun v q => nomatch q⟩
  · rw [e]; exact ⟨_, pI, fun v q => nomatch q⟩
  · rw [e]; exact ⟨_, pO, fun v q => nomatch q⟩
  · rw [e]; exact ⟨o1, h1, fun v q => by rw [d1] at q; cases q⟩
  · rw [e]; exact ⟨o2, h2, fun v q => by rw [d2] at q; cases q⟩
section
variable {P : Program} {w : World} {A : Around} {E : Value → Shared → Prop} {s : Shared}
theorem zst_item {z TI TO i1 i2 a b : Addr} {i : Nat} {xs ys : Array Value} {x y : Value} {Q : Value → Shared → Prop} (D : ZipApart z TI TO i1 i2 a b) (st : ZSt z TI TO i1 i2 a b i s.heap) (la : s.heap.IsList a xs) (lb : s.heap.IsList b ys) (ex : xs[i]? = some x) (ey : ys[i]? = some y)
    (q : ∀ h', ZSt z TI TO i1 i2 a b (i + 1) h' → IsPair h' s.heap.objs.size x y → h'.objs.size = s.heap.objs.size + 1 → (∀ c o, c ∉ [z, TI, TO, i1, i2] → s.heap.get? c = some o → h'.get? c = some o) → Q (.ref s.heap.objs.size) { s with heap := h' }) :
    wpAny (model P w) A (Builtin.SmallTypes.nextOf (.ref z)) Q E s := by
  obtain ⟨f0, f1, pz, ff, pI, ⟨u, v, pO⟩, p1, p2⟩ := st
  have ty : s.TypeIs (.ref z) "zip" := ⟨_, pz, rfl⟩
  unfold Builtin.SmallTypes.nextOf
  refine wpAny_bind (wpAny_callSpecial?_slot (name := Str.ofString "__next__") ty F.slot_zip_next (wpAny_call_entry F.slot_zip_next ty F.entry_zip_next ?_ (F.args_zip_next_1 _)))
  have free : FreeT s.heap f0 → wpAny (model P w) A.in1 (Builtin.«zip.__next__» ⟨[.ref z], []⟩) (fun fin s' => ∃ v, fin = .done (.ret v) ∧ wpAny (model P w) A (pure v) Q E s') E s := fun fr =>
    zfree_item D pz fr pI pO p1 p2 la lb ex ey fun h' a1 a2 a3 a4 a5 a6 kp => wpAny_pure (q h' ⟨_, _, a1, .inr ⟨_, rfl⟩, kp _ _ D.TIz D.TITO D.TIi1 D.TIi2 pI, ⟨x, y, a2⟩, a3, a4⟩ a5 a6 fun c o nc e => kp c o (fun z => nc (by simp [z])) (fun z => nc (by simp [z])) (fun z => nc (by simp [z])) (fun z => nc (by simp [z])) e)
  rcases ff with rfl | ⟨T, rfl⟩
  · exact free (.inl rfl)
  · cases eT : s.heap.get? T with
    | none => exact free (.inr ⟨T, rfl, eT⟩)
    | some oT =>
      refine zip_next_item_held D pz eT pI p1 p2 la lb ex ey fun h' a1 a3 a4 a5 a6 kp => ?_
      exact wpAny_pure (q h' ⟨_, _, a1, .inr ⟨_, rfl⟩, kp _ _ D.TIz D.TIi1 D.TIi2 pI, ⟨u, v, kp _ _ D.TOz D.TOi1 D.TOi2 pO⟩, a3, a4⟩ a5 a6 fun c o nc e => kp c o (fun z => nc (by simp [z])) (fun z => nc (by simp [z])) (fun z => nc (by simp [z])) e)
theorem zst_end {z TI TO i1 i2 a b : Addr} {i : Nat} {xs ys : Array Value} {Q : Value → Shared → Prop} (calm : A.handled = none) (D : ZipApart z TI TO i1 i2 a b) (st : ZSt z TI TO i1 i2 a b i s.heap) (la : s.heap.IsList a xs) (lb : s.heap.IsList b ys) (last : xs[i]? = none ∨ ys[i]? = none)
    (q : ∀ h' x, (∀ c o, c ∉ [z, TI, TO, i1, i2] → s.heap.get? c = some o → h'.get? c = some o) → (∃ o, h'.get? x = some o ∧ o.cls = .type "StopIteration") → E (.ref x) { s with heap := h' }) :
    wpAny (model P w) A (Builtin.SmallTypes.nextOf (.ref z)) Q E s := by
  obtain ⟨f0, f1, pz, ff, pI, ⟨u, v, pO⟩, p1, p2⟩ := st
  have ty : s.TypeIs (.ref z) "zip" := ⟨_, pz, rfl⟩
  have calm1 : A.in1.handled = none := by simp [calm]
  unfold Builtin.SmallTypes.nextOf
  refine wpAny_bind (wpAny_callSpecial?_slot (name := Str.ofString "__next__") ty F.slot_zip_next (wpAny_call_entry F.slot_zip_next ty F.entry_zip_next ?_ (F.args_zip_next_1 _)))
  rcases ff with rfl | ⟨T, rfl⟩
  · exact zfree_end calm1 D pz (.inl rfl) pI pO p1 p2 la lb last fun h' x kp hx => q h' x (fun c o nc e => kp c o (fun z => nc (by simp [z])) (fun z => nc (by simp [z])) (fun z => nc (by simp [z])) (fun z => nc (by simp [z])) e) hx
  · cases eT : s.heap.get? T with
    | none => exact zfree_end calm1 D pz (.inr ⟨T, rfl, eT⟩) pI pO p1 p2 la lb last fun h' x kp hx => q h' x (fun c o nc e => kp c o (fun z => nc (by simp [z])) (fun z => nc (by simp [z])) (fun z => nc (by simp [z])) (fun z => nc (by simp [z])) e) hx
    | some oT => exact zip_next_end_held calm1 D pz eT pI p1 p2 la lb last fun h' x kp hx => q h' x (fun c o nc e => kp c o (fun z => nc (by simp [z])) (fun z => nc (by simp [z])) (fun z => nc (by simp [z])) e) hx
/-- the next of an enumerate whose own tuple is let go, over whatever tells its next -/
theorem enum_over {e it : Addr} {i : Nat} {old : Value} {R : Value → Heap → Prop} {Q : Option Value → Shared → Prop} (pe : IsEnum s.heap e it i old)
    (next : ∀ (Q' : Value → Shared → Prop) (E' : Value → Shared → Prop), (∀ x h1, R x h1 → Q' x { s with heap := h1 }) → wpAny (model P w) A.in1 (Builtin.SmallTypes.nextOf (.ref it)) Q' E' s)
    (stay : ∀ x h1, R x h1 → IsEnum h1 e it i old)
    (q : ∀ x h1 h' tk, R x h1 → IsEnumOut h' e it ((i : Int) + 1) x h1.objs.size → h'.get? h1.objs.size = some { cls := .type "tuple", data := .seq #[.int i tk, x] } → (∀ c o, c ≠ e → h1.get? c = some o → h'.get? c = some o) → Q (some (.ref h1.objs.size)) { s with heap := h', toks := tk + 1 }) :
    wpAny (model P w) A (pyNext (.ref e)) Q E s := by
  have ty : s.TypeIs (.ref e) "enumerate" := ⟨_, pe, rfl⟩
  unfold pyNext
  refine wpAny_bind (wpAny_attempt (wpAny_callSpecial?_slot (name := Str.ofString "__next__") ty F.slot_enumerate_next (wpAny_call_entry F.slot_enumerate_next ty F.entry_enumerate_next ?_ (F.args_enumerate_next_1 _))))
  obtain ⟨hp, g, d, tk, os⟩ := s
  show wpAny _ _ (field (.ref e) 2 >>= _) _ _ _
  refine wpAny_bind (wpAny_field pe rfl (x := .ref it) rfl (wpAny_bind (next _ _ fun x h1 rx => ?_)))
  have pe1 := stay x h1 rx
  show wpAny _ _ (field (.ref e) 3 >>= _) _ _ ⟨h1, g, d, tk, os⟩
  refine wpAny_bind (wpAny_field pe1 rfl (x := rawInt i) rfl ?_)
  show wpAny _ _ (field (.ref e) 4 >>= _) _ _ ⟨h1, g, d, tk, os⟩
  refine wpAny_bind (wpAny_field pe1 rfl (x := .none) rfl ?_)
  show wpAny _ _ (mkInt i >>= _) _ _ ⟨h1, g, d, tk, os⟩
  refine wpAny_bind (wpAny_mkInt ?_)
  show wpAny _ _ (setField (.ref e) 3 (rawInt ((i : Int) + 1)) >>= _) _ _ ⟨h1, g, d, tk + 1, os⟩
  refine wpAny_bind (wpAny_setField_rec pe1 (by simp) fun h2 pe2 b2 => ?_)
  have pe2 : IsEnum h2 e it ((i : Int) + 1) old := pe2
  have b2 : Heap.SameBut e h1 h2 := b2
  show wpAny _ _ (setField (.ref e) 4 .none >>= _) _ _ ⟨h2, g, d, tk + 1, os⟩
  refine wpAny_bind (wpAny_setField_rec pe2 (by simp) fun h3 pe3 b3 => ?_)
  have pe3 : IsEnum h3 e it ((i : Int) + 1) old := pe3
  have b3 : Heap.SameBut e h2 h3 := b3
  show wpAny _ _ (newTuple [.int i tk, x] >>= _) _ _ ⟨h3, g, d, tk + 1, os⟩
  refine wpAny_bind (wpAny_newTuple ?_)
  have size : h3.objs.size = h1.objs.size := by rw [b3.1, b2.1]
  have elt : e < h1.objs.size := Heap.lt_size pe1
  have pe4 : IsEnum (h3.push { cls := .type "tuple", data := .seq #[.int i tk, x] }) e it ((i : Int) + 1) old := Heap.get?_push_of_some _ pe3
  have t4 : (h3.push { cls := .type "tuple", data := .seq #[.int i tk, x] }).get? h1.objs.size = some { cls := .type "tuple", data := .seq #[.int i tk, x] } := by rw [← size]; exact Heap.get?_push_size _ rfl
  have keep4 : ∀ c o, c ≠ e → h1.get? c = some o → (h3.push { cls := .type "tuple", data := .seq #[.int i tk, x] }).get? c = some o := fun c o n y => Heap.get?_push_of_some _ (b3.extBut c o n (b2.extBut c o n y))
  show wpAny _ _ (Builtin.SmallTypes.ownedTupleIsFree (.ref e) >>= _) _ _ ⟨h3.push { cls := .type "tuple", data := .seq #[.int i tk, x] }, g, d, tk + 1, os⟩
  rw [size]
  generalize h3.push { cls := .type "tuple", data := .seq #[.int i tk, x] } = h4 at pe4 t4 keep4
  refine wpAny_bind ?_
  unfold Builtin.SmallTypes.ownedTupleIsFree
  refine wpAny_bind (wpAny_field pe4 rfl (x := .none) rfl (wpAny_pure ?_))
  simp only [if_true]
  refine wpAny_bind (wpAny_rule (wpAny_bind (wpAny_field pe4 rfl (x := old) rfl ?_)))
  refine wpAny_bind (wpAny_setField_rec pe4 (by simp) fun h5 pe5 b5 => ?_)
  have pe5 : IsEnum h5 e it ((i : Int) + 1) x := pe5
  have b5 : Heap.SameBut e h4 h5 := b5
  show wpAny _ _ (Builtin.SmallTypes.ownedTupleHandOut (.ref e) (.ref h1.objs.size) >>= _) _ _ ⟨h5, g, d, tk + 1, os⟩
  refine wpAny_bind ?_
  unfold Builtin.SmallTypes.ownedTupleHandOut
  refine wpAny_bind (wpAny_setField_rec pe5 (by simp) fun h6 pe6 b6 => ?_)
  have pe6 : IsEnumOut h6 e it ((i : Int) + 1) x h1.objs.size := pe6
  have b6 : Heap.SameBut e h5 h6 := b6
  refine wpAny_setField_rec pe6 (by simp) fun h7 pe7 b7 => ?_
  have pe7 : IsEnumOut h7 e it ((i : Int) + 1) x h1.objs.size := pe7
  have b7 : Heap.SameBut e h6 h7 := b7
  have all : ∀ c o, c ≠ e → h4.get? c = some o → h7.get? c = some o := fun c o n y => b7.extBut c o n (b6.extBut c o n (b5.extBut c o n y))
  exact wpAny_bind (wpAny_letGo (wpAny_pure ⟨_, rfl, wpAny_pure (q x h1 h7 tk rx pe7 (all _ _ (Nat.ne_of_gt elt) t4) fun c o n y => all c o n (keep4 c o n y))⟩))
theorem enum_over_end {e it : Addr} {i : Int} {old : Value} {R : Heap → Prop} {Q : Option Value → Shared → Prop} (pe : IsEnum s.heap e it i old)
    (next : ∀ (Q' : Value → Shared → Prop) (E' : Value → Shared → Prop), (∀ h1 x, R h1 → (∃ o, h1.get? x = some o ∧ o.cls = .type "StopIteration") → E' (.ref x) { s with heap := h1 }) → wpAny (model P w) A.in1 (Builtin.SmallTypes.nextOf (.ref it)) Q' E' s)
    (q : ∀ h1, R h1 → Q none { s with heap := h1 }) : wpAny (model P w) A (pyNext (.ref e)) Q E s := by
  have ty : s.TypeIs (.ref e) "enumerate" := ⟨_, pe, rfl⟩
  unfold pyNext
  refine wpAny_bind (wpAny_attempt (wpAny_callSpecial?_slot (name := Str.ofString "__next__") ty F.slot_enumerate_next (wpAny_call_entry F.slot_enumerate_next ty F.entry_enumerate_next ?_ (F.args_enumerate_next_1 _))))
  show wpAny _ _ (field (.ref e) 2 >>= _) _ _ _
  refine wpAny_bind (wpAny_field pe rfl (x := .ref it) rfl (wpAny_bind (next _ _ fun h1 x r ⟨o, ho, hc⟩ => ?_)))
  refine wpAny_bind (wpAny_isInstance (T := "StopIteration") (b := true) ⟨o, ho, hc⟩ isSubtype_stop ?_)
  exact wpAny_pure (q h1 r)
end
/-! ### for i, x in enumerate(xs), xs a tuple -/
theorem enum_newT (a : Addr) (items : Array Value) : Meets (Builtin.«enumerate.__new__» ⟨[.type "enumerate", .ref a], []⟩) (fun _ R s => s.heap.IsTuple a items ∧
    R (.ok (.ret (.ref (s.heap.push { cls := .type "tuple_iterator", data := .fields #[.ref a, .int 0 0] }).objs.size))) { s with heap := (s.heap.push { cls := .type "tuple_iterator", data := .fields #[.ref a, .int 0 0] }).push { cls := .type "enumerate", data := .fields #[.none, .bool false, .ref s.heap.objs.size, rawInt 0, .none, .none] } }) :=
  .of_wp fun prog w A R s h => by
    obtain ⟨hp, g, d, tk, os⟩ := s
    obtain ⟨hl, h⟩ := h
    have hsub := sub_enumerate
    have pt : (Shared.heap ⟨hp, g, d, tk, os⟩).IsTuple a items := hl
    obtain ⟨⟨cls, dd, data, sl⟩, ho, hc, n, hd⟩ := id hl
    simp only at hc hd
    subst hc hd
    wp_walk using AutoSeq1.wpAny_loadPart' ho
    refine wpAny_stack_any fun st => wpAny_pure ?_
    split
    · rename_i c _ _ _ _ _
      cases (c == Value.type "enumerate") <;> (wp_walk using AutoSeq1.wpAny_loadPart' ho, wpAny_pyIter_tuple pt; exact ⟨_, rfl, h⟩)
    · wp_walk using AutoSeq1.wpAny_loadPart' ho, wpAny_pyIter_tuple pt
      exact ⟨_, rfl, h⟩
theorem enum_callT {prog : Program} {w : World} {A : Around} {E : Value → Shared → Prop} {s : Shared} {a : Addr} {items : Array Value} {Q : Value → Shared → Prop} (pt : s.heap.IsTuple a items)
    (q : ∀ h', IsEnum h' (s.heap.objs.size + 1) s.heap.objs.size 0 .none → h'.IsTupleIter s.heap.objs.size a 0 → (∀ b o, s.heap.get? b = some o → h'.get? b = some o) → Q (.ref (s.heap.objs.size + 1)) { s with heap := h' }) :
    wpAny (model prog w) A (call (.type "enumerate") [.ref a]) Q E s := by
  refine callType_new F.called_enumerate (by decide) (F.typeCall_enumerate_1 _) (F.newCall_enumerate_1 _) (fun obj => F.args_object_init_2 obj _) F.entry_enumerate_new (enum_newT a items) ⟨pt, ?_⟩
  have sz : (s.heap.push { cls := .type "tuple_iterator", data := .fields #[.ref a, .int 0 0] }).objs.size = s.heap.objs.size + 1 := Heap.size_push ..
  have pe : IsEnum ((s.heap.push { cls := .type "tuple_iterator", data := .fields #[.ref a, .int 0 0] }).push { cls := .type "enumerate", data := .fields #[.none, .bool false, .ref s.heap.objs.size, rawInt 0, .none, .none] }) (s.heap.objs.size + 1) s.heap.objs.size 0 .none := by
    rw [← sz]
    exact Heap.get?_push_size _ rfl
  have pi : ((s.heap.push { cls := .type "tuple_iterator", data := .fields #[.ref a, .int 0 0] }).push { cls := .type "enumerate", data := .fields #[.none, .bool false, .ref s.heap.objs.size, rawInt 0, .none, .none] }).IsTupleIter s.heap.objs.size a 0 := ⟨_, Heap.get?_push_of_some _ (Heap.get?_push_size _ rfl), rfl, rfl⟩
  rw [sz]
  exact ⟨⟨_, pe, rfl⟩, q _ pe pi fun b o x => Heap.get?_push_of_some _ (Heap.get?_push_of_some _ x)⟩
/-- the i-th turn: a new pair of i and the item -/
def Itet (K : PySem.W.Frag) (a : Addr) : It :=
  ⟨fun i H => ∃ (xs : List V) (x : V), SqT K H a xs ∧ xs[i]? = some x,
    fun i H v H' => ∃ T x, v = .ref T ∧ H T = none ∧ H' = upd H T (.tup [.int (i : Nat), x]) ∧ ∀ xs, SqT K H a xs → xs[i]? = some x,
    fun i H => ∃ xs : List V, SqT K H a xs ∧ xs.length ≤ i⟩
theorem turn_et {P : Program} {w : World} {K : PySem.W.Frag} {elts : List Expr} {kk : Nat} {tpos : Pos} {a e it : Addr} (ne : e ≠ it) :
    Turn P w K (.Tuple elts kk tpos) (Itet K a) [e, it] e (fun i h => (∃ old, IsEnum h e it ((i : Nat) : Int) old) ∧ h.IsTupleIter it a i) where
  mem := List.mem_cons_self
  obj := fun i h st c hc => by
    obtain ⟨⟨old, pe⟩, ⟨o1, h1, _, d1⟩⟩ := st
    have hc : c = e ∨ c = it := by simpa using hc
    rcases hc with q | q
    · rw [q]; exact ⟨_, pe, fun v q => nomatch q⟩
    · rw [q]; exact ⟨o1, h1, fun v q => by rw [d1] at q; cases q⟩
  keep := fun i h h' st k => by
    obtain ⟨⟨old, pe⟩, pi⟩ := st
    exact ⟨⟨old, k e (by simp) _ pe⟩, pi.at fun o q => k it (by simp) o q⟩
  item := by
    intro X hP hw hK hc i pins s σ H E I hf st hg
    subst hP hw hK
    obtain ⟨⟨old, pe⟩, pi⟩ := st
    obtain ⟨xs, x, hq, hx⟩ := hg
    obtain ⟨its, rv, p, _⟩ := I.tuple hq
    obtain ⟨u, hu, ru⟩ := rv.get hx
    have elt : e < s.heap.objs.size := Heap.lt_size pe
    have ilt : it < s.heap.objs.size := by
      obtain ⟨o1, h1, _⟩ := pi
      exact Heap.lt_size h1
    refine enum_over (R := fun v h1 => v = u ∧ h1.IsTupleIter it a (i + 1) ∧ Heap.SameBut it s.heap h1) pe
      (fun Q' E' hq' => RZ.nextOf_tuple_item pi p (by simpa using hu) fun h1 a1 a2 => hq' _ h1 ⟨rfl, a1, a2⟩) (fun v h1 r => r.2.2.extBut _ _ ne pe) fun v h1 h' tk r pe' tp k2 => ?_
    obtain ⟨rfl, p1, sb1⟩ := r
    refine ⟨_, rfl, wpAny_letOwnedTupleGo_enum (s := { s with heap := h', toks := tk + 1 }) pe' fun h'' pe'' sb => ?_⟩
    have sb : Heap.SameBut e h' h'' := sb
    have sz : h1.objs.size = s.heap.objs.size := sb1.1
    have k3 : ∀ c o, c ≠ e → h1.get? c = some o → h''.get? c = some o := fun c o n q => (sb.2 c n).trans (k2 c o n q)
    have t2 : h''.get? h1.objs.size = some { cls := .type "tuple", data := .seq #[.int i tk, v] } := (sb.2 _ (by rw [sz]; exact Nat.ne_of_gt elt)).trans tp
    have new : ObjOk X.prog X.w (upd H s.heap.objs.size (.tup [.int (i : Nat), x])) h'' s.heap.objs.size (.tup [.int (i : Nat), x]) := ⟨by show 2 ≤ sizeLine; decide, [.int i tk, v], .cons ⟨_, rfl⟩ (.cons ru .nil), ⟨_, by rw [← sz]; exact t2, rfl, _, rfl⟩⟩
    have I1 : Inv X pins σ (upd H s.heap.objs.size (.tup [.int (i : Nat), x])) { s with heap := h'', toks := tk + 1 } :=
      I.turnedNew (t' := tk + 1) (ch := [e, it]) (fun c o nc q => k3 c o (fun z => nc (by simp [z])) (sb1.extBut _ _ (fun z => nc (by simp [z])) q)) hf (Nat.le_refl _) new
    refine ⟨.ref s.heap.objs.size, _, I1, by rw [sz]; rfl, ⟨_, x, rfl, I.hok.fresh (Nat.le_refl _), rfl, fun l hl => by rw [I.tuple_inj hl hq]; exact hx⟩, ⟨⟨_, pe''⟩, p1.at fun o q => k3 it o ne.symm q⟩, fun c hcm => ?_⟩
    have clt : c < s.heap.objs.size := by
      have hc : c = e ∨ c = it := by simpa using hcm
      rcases hc with q | q
      · rw [q]; exact elt
      · rw [q]; exact ilt
    rw [upd_ne (Nat.ne_of_lt clt)]
    exact (hf c hcm).1
  done := by
    intro X hP hw hK hc i pins s σ H E I hf st hg
    subst hP hw hK
    obtain ⟨⟨old, pe⟩, pi⟩ := st
    obtain ⟨xs, hq, hend⟩ := hg
    obtain ⟨its, rv, p, _⟩ := I.tuple hq
    have l1 := rv.length
    exact enum_over_end (R := fun h1 => ∀ c o, c ≠ it → s.heap.get? c = some o → h1.get? c = some o) pe
      (fun Q' E' hq' => RZ.nextOf_tuple_end (by simp [I.ok.hd hc]) pi p (by simp; omega) fun h' x kp hx => hq' h' x (fun c o n q => kp c o n q) hx)
      fun h1 kp => ⟨rfl, I.turnedL (t' := s.toks) (ch := [e, it]) (fun c o nc q => kp c o (fun z => nc (by simp [z])) q) hf⟩
  self := fun A i s Q E st h => let ⟨⟨_, pe⟩, _⟩ := st; wpAny_pyIter_enum pe h
def iEnumT (K : PySem.W.Frag) (ta : TA) : TI := fun σ H R => ta σ H fun vs H1 => ∃ a xs, vs = [.ref a] ∧ SqT K H1 a xs ∧ R (Itet K a) H1
theorem pi_enumT {X : Cx} {e : Expr} {ta : TA} {p pos tpos : Pos} {elts : List Expr} {kk : Nat} (hg : Gl X "enumerate") (hm : X.mg "enumerate" = none) (ha : PA X [e] ta) (hs : starEach [e] X.env = [(false, eval e X.env)] := by rfl) :
    PI X (.Tuple elts kk tpos) (.Call (.Name "enumerate" p) [e] [] pos) (iEnumT X.K ta) := by
  refine ⟨fun pins s σ H R I h => ?_⟩
  refine Call_ (ld_blt I hg hm boot_enumerate (PyProof.Rows.callWith_type1 (thn (ha.run pos pins s σ H _ I h) fun us s1 z => ?_) hs rfl))
  obtain ⟨vs, H1, I1, r1, a, xs, rfl, hq, q⟩ := z
  cases r1 with
  | cons r rr =>
    cases rr
    cases r
    obtain ⟨its, rv, pt, _⟩ := I1.tuple hq
    refine enum_callT pt fun h' pe pi keep => wpAny_pyIter_enum pe ?_
    have I2 : Inv X pins σ H1 { s1 with heap := h' } := I1.kept (t' := s1.toks) keep
    refine ⟨s1.heap.objs.size + 1, [s1.heap.objs.size + 1, s1.heap.objs.size], _, _, H1, rfl, I2, turn_et (a := a) (Nat.succ_ne_self _), ⟨⟨.none, pe⟩, pi⟩, fun c hc => ?_, q⟩
    have le : s1.heap.objs.size ≤ c := by
      have hc : c = s1.heap.objs.size + 1 ∨ c = s1.heap.objs.size := by simpa using hc
      rcases hc with z | z
      · rw [z]; exact Nat.le_add_right _ _
      · rw [z]; exact Nat.le_refl _
    exact I1.fpOk le (I1.hok.fresh le)
section
variable {K : PySem.W.Frag} {a : Addr} {xs : List V}
def YET (xs : List V) (i : Nat) (H : Hp) (v : V) (H' : Hp) : Prop := ∃ T x, v = .ref T ∧ H T = none ∧ H' = upd H T (.tup [.int (i : Nat), x]) ∧ xs[i]? = some x
theorem walk_et : Walk (Itet K a) xs.length (fun H => SqT K H a xs) (YET xs) := by
  refine ⟨fun i _ hi q => ⟨xs, xs[i], q, by simp [hi]⟩, fun _ q => ⟨xs, q, Nat.le_refl _⟩, fun i H v H' _ q y => ?_⟩
  obtain ⟨T, x, g1, g2, g3, g4⟩ := y
  exact ⟨T, x, g1, g2, g3, g4 xs q⟩
end
/-! ### walks over a list or a tuple; a def that may raise, where it does not -/
def iSeq (K : PySem.W.Frag) (tl : TE) : TI := fun σ H R => tl σ H fun x H1 => ∃ a, x = .ref a ∧ ((∃ xs, SqL K H1 a xs) ∧ R (Itl K a) H1 ∨ (∃ xs, SqT K H1 a xs) ∧ R (Itt K a) H1)
theorem pi_seq {X : Cx} {tg l : Expr} {tl : TE} (hl : PE X l tl) : PI X tg l (iSeq X.K tl) := by
  refine ⟨fun pins s σ H R I h => ?_⟩
  refine thn (hl.run pins s σ H _ I h) fun v s1 ⟨x, H1, I1, r1, q1⟩ => ?_
  obtain ⟨a, e, ⟨⟨xs, hq⟩, q⟩ | ⟨⟨xs, hq⟩, q⟩⟩ := q1
  · subst e
    cases r1
    obtain ⟨its, rv, p, hz⟩ := I1.list hq
    refine wpAny_pyIter_list p.isList ?_
    refine ⟨s1.heap.objs.size, [s1.heap.objs.size], _, _, H1, rfl, I1.kept (t' := s1.toks) fun b o e => Heap.get?_push_of_some _ e, turn_list a _, ⟨_, Heap.get?_push_size _ rfl, rfl, rfl⟩, fun b hb => ?_, q⟩
    have e : b = s1.heap.objs.size := by simpa using hb
    subst e
    exact I1.fpOk (Nat.le_refl _) (I1.hok.fresh (Nat.le_refl _))
  · subst e
    cases r1
    obtain ⟨its, rv, p, hz⟩ := I1.tuple hq
    refine wpAny_pyIter_tuple (show s1.heap.IsTuple a its.toArray from p) ?_
    refine ⟨s1.heap.objs.size, [s1.heap.objs.size], _, _, H1, rfl, I1.kept (t' := s1.toks) fun b o e => Heap.get?_push_of_some _ e, turn_tuple a _, ⟨_, Heap.get?_push_size _ rfl, rfl, rfl⟩, fun b hb => ?_, q⟩
    have e : b = s1.heap.objs.size := by simpa using hb
    subst e
    exact I1.fpOk (Nat.le_refl _) (I1.hok.fresh (Nat.le_refl _))
/-- a list or a tuple of these -/
def SqA (K : PySem.W.Frag) (H : Hp) (a : Addr) (xs : List V) : Prop := SqL K H a xs ∨ SqT K H a xs
/-- a for over a list or a tuple that stood at H0 -/
theorem for_seq {K : PySem.W.Frag} {H0 H1 : Hp} {a : Addr} {xs : List V} {g : TG} {tb : L2.TS} {D : Ends} {σ : L2.St} (h : SqA K H0 a xs) (s1 : Same H0 H1) (Pv : Nat → L2.St → Hp → Prop) (h0 : Pv 0 σ H1) (hl : ∀ i σ H, i ≤ xs.length → Pv i σ H → Same H0 H)
    (hs : ∀ i x σ H, xs[i]? = some x → Pv i σ H → g x σ H fun σ2 H2 => tb { D with nx := Pv (i + 1), ct := Pv (i + 1), bk := D.nx } σ2 H2) (hd : ∀ σ H, Pv xs.length σ H → D.nx σ H) :
    (∃ xs, SqL K H1 a xs) ∧ (∃ W : Nat → Nat → L2.St → Hp → Prop, (∃ m, W 0 m σ H1) ∧ ∀ i m σ H, W i m σ H →
      ((Itl K a).stop i H ∧ D.nx σ H) ∨ ((Itl K a).go i H ∧ ∃ N : L2.St → Hp → Prop, (∀ σ' H', N σ' H' → ∃ m', m' < m ∧ W (i + 1) m' σ' H') ∧ ∀ x H', (Itl K a).yld i H x H' → g x σ H' fun σ2 H2 => tb { D with nx := N, ct := N, bk := D.nx } σ2 H2)) ∨
    (∃ xs, SqT K H1 a xs) ∧ (∃ W : Nat → Nat → L2.St → Hp → Prop, (∃ m, W 0 m σ H1) ∧ ∀ i m σ H, W i m σ H →
      ((Itt K a).stop i H ∧ D.nx σ H) ∨ ((Itt K a).go i H ∧ ∃ N : L2.St → Hp → Prop, (∀ σ' H', N σ' H' → ∃ m', m' < m ∧ W (i + 1) m' σ' H') ∧ ∀ x H', (Itt K a).yld i H x H' → g x σ H' fun σ2 H2 => tb { D with nx := N, ct := N, bk := D.nx } σ2 H2)) := by
  rcases h with h | h
  · exact .inl ⟨⟨_, s1.seq h⟩, for_list Pv h0 (fun i σ H hi hP => (hl i σ H hi hP).seq h) hs hd⟩
  · exact .inr ⟨⟨_, Same.tup s1 h⟩, for_tup Pv h0 (fun i σ H hi hP => Same.tup (hl i σ H hi hP) h) hs hd⟩
/-- a comprehension over such -/
theorem lc_seq {K : PySem.W.Frag} {H0 H1 : Hp} {a : Addr} {xs : List V} {g : TG} {tt : TT} {te : TE} {vs : List Nat} {σ : L2.St} {Qd : Addr → Hp → Prop} (h : SqA K H0 a xs) (s1 : Same H0 H1) (Pv : Addr → Nat → Hp → Prop) (h0 : ∀ D, H1 D = none → Pv D 0 (upd H1 D (.lst []))) (hl : ∀ D, H1 D = none → ∀ i H, i ≤ xs.length → Pv D i H → Same H0 H)
    (hs : ∀ D, H1 D = none → ∀ i x H, xs[i]? = some x → Pv D i H → g x (wipe σ vs) H fun σ2 H2 => wipe σ2 vs = wipe σ vs ∧ tt σ2 H2 fun b H3 =>
      if b = true then te σ2 H3 fun y H4 => ∃ acc, H4 D = some (.lst acc) ∧ acc.length < sizeLine ∧ Pv D (i + 1) (upd H4 D (.lst (acc ++ [y]))) else Pv D (i + 1) H3) (hd : ∀ D, H1 D = none → ∀ H, Pv D xs.length H → Qd D H) :
    (∃ xs, SqL K H1 a xs) ∧ (∀ D, H1 D = none → ∃ W : Nat → Nat → Hp → Prop, (∃ m, W 0 m (upd H1 D (.lst []))) ∧ ∀ i m H, W i m H →
      ((Itl K a).stop i H ∧ Qd D H) ∨ ((Itl K a).go i H ∧ ∃ Nx : Hp → Prop, (∀ H', Nx H' → ∃ m', m' < m ∧ W (i + 1) m' H') ∧ ∀ x H', (Itl K a).yld i H x H' → g x (wipe σ vs) H' fun σ2 H2 => wipe σ2 vs = wipe σ vs ∧ tt σ2 H2 fun b H3 =>
        if b = true then te σ2 H3 fun y H4 => ∃ acc, H4 D = some (.lst acc) ∧ acc.length < sizeLine ∧ Nx (upd H4 D (.lst (acc ++ [y]))) else Nx H3)) ∨
    (∃ xs, SqT K H1 a xs) ∧ (∀ D, H1 D = none → ∃ W : Nat → Nat → Hp → Prop, (∃ m, W 0 m (upd H1 D (.lst []))) ∧ ∀ i m H, W i m H →
      ((Itt K a).stop i H ∧ Qd D H) ∨ ((Itt K a).go i H ∧ ∃ Nx : Hp → Prop, (∀ H', Nx H' → ∃ m', m' < m ∧ W (i + 1) m' H') ∧ ∀ x H', (Itt K a).yld i H x H' → g x (wipe σ vs) H' fun σ2 H2 => wipe σ2 vs = wipe σ vs ∧ tt σ2 H2 fun b H3 =>
        if b = true then te σ2 H3 fun y H4 => ∃ acc, H4 D = some (.lst acc) ∧ acc.length < sizeLine ∧ Nx (upd H4 D (.lst (acc ++ [y]))) else Nx H3)) := by
  rcases h with h | h
  · exact .inl ⟨⟨_, s1.seq h⟩, fun D nD => lc_list (K := K) (a := a) (xs := xs) (Pv D) (h0 D nD) (fun i H hi hP => (hl D nD i H hi hP).seq h) (hs D nD) (hd D nD)⟩
  · exact .inr ⟨⟨_, Same.tup s1 h⟩, fun D nD => lc_tup (K := K) (a := a) (xs := xs) (Pv D) (h0 D nD) (fun i H hi hP => Same.tup (hl D nD i H hi hP) h) (hs D nD) (hd D nD)⟩
theorem calm {P : Program} {w : World} {K : PySem.W.Frag} {mg : Str → Option Value} {base : Heap} {k : Nat} {f : Addr} {fd : FuncData} {ps : List Str} {sp sp' : Sp} (F : FnOk P w K mg base (L2.CX P w) k f fd ps sp)
    (h : ∀ vs H Q E, sp' vs H Q E → sp vs H Q fun _ _ _ => False) : FnOk P w K mg base CX0 k f fd ps sp' :=
  ⟨fun vs H Q E q => F.len vs H Q _ (h _ _ _ _ q), fun A outer s H args us vs Q E hr he hb hv hs => codeAny_mono (F.run A outer s H args us vs Q _ hr he hb hv (h _ _ _ _ hs)) fun r s' q => by
    cases r with
    | ok fl =>
      cases fl with
      | ret u => exact q
      | next => exact q
      | brk => exact q
      | cont => exact q
    | error e =>
      obtain ⟨a, B, H', cls, d, h1, h2, h3, h4, h5, h6, h7, z⟩ := q
      exact z.elim⟩
/-! ### for i, x in enumerate(xs), xs a list or a tuple -/
def iEnumA (K : PySem.W.Frag) (ta : TA) : TI := fun σ H R => ta σ H fun vs H1 => ∃ a, vs = [.ref a] ∧ ((∃ xs, SqL K H1 a xs) ∧ R (Ite K a) H1 ∨ (∃ xs, SqT K H1 a xs) ∧ R (Itet K a) H1)
theorem pi_enumA {X : Cx} {e : Expr} {ta : TA} {p pos tpos : Pos} {elts : List Expr} {kk : Nat} (hg : Gl X "enumerate") (hm : X.mg "enumerate" = none) (ha : PA X [e] ta) (hs : starEach [e] X.env = [(false, eval e X.env)] := by rfl) :
    PI X (.Tuple elts kk tpos) (.Call (.Name "enumerate" p) [e] [] pos) (iEnumA X.K ta) := by
  refine ⟨fun pins s σ H R I h => ?_⟩
  refine Call_ (ld_blt I hg hm boot_enumerate (PyProof.Rows.callWith_type1 (thn (ha.run pos pins s σ H _ I h) fun us s1 z => ?_) hs rfl))
  obtain ⟨vs, H1, I1, r1, a, rfl, q⟩ := z
  cases r1 with
  | cons r rr =>
    cases rr
    cases r
    have foot : ∀ c ∈ [s1.heap.objs.size + 1, s1.heap.objs.size], FpOk X pins H1 c := fun c hc => by
      have hc : c = s1.heap.objs.size + 1 ∨ c = s1.heap.objs.size := by simpa using hc
      have le : s1.heap.objs.size ≤ c := by
        rcases hc with z | z
        · rw [z]; exact Nat.le_add_right _ _
        · rw [z]; exact Nat.le_refl _
      exact I1.fpOk le (I1.hok.fresh le)
    rcases q with ⟨⟨xs, hq⟩, q⟩ | ⟨⟨xs, hq⟩, q⟩
    · obtain ⟨its, rv, pl, _⟩ := I1.list hq
      refine call_enumerate_list pl.isList fun h' pe pi _ keep => wpAny_pyIter_enum pe ?_
      exact ⟨s1.heap.objs.size + 1, [s1.heap.objs.size + 1, s1.heap.objs.size], _, _, H1, rfl, I1.kept (t' := s1.toks) keep, turn_enum a (s1.heap.objs.size + 1) s1.heap.objs.size, ⟨⟨.none, pe⟩, pi, Nat.succ_ne_self _⟩, foot, q⟩
    · obtain ⟨its, rv, pt, _⟩ := I1.tuple hq
      refine enum_callT pt fun h' pe pi keep => wpAny_pyIter_enum pe ?_
      exact ⟨s1.heap.objs.size + 1, [s1.heap.objs.size + 1, s1.heap.objs.size], _, _, H1, rfl, I1.kept (t' := s1.toks) keep, turn_et (a := a) (Nat.succ_ne_self _), ⟨⟨.none, pe⟩, pi⟩, foot, q⟩
/-- a for over it; T the pair of each turn -/
theorem for_enumA {K : PySem.W.Frag} {H0 H1 : Hp} {a : Addr} {xs : List V} {g : TG} {tb : L2.TS} {D : Ends} {σ : L2.St} (h : SqA K H0 a xs) (s1 : Same H0 H1) (Pv : Nat → L2.St → Hp → Prop) (h0 : Pv 0 σ H1) (hl : ∀ i σ H, i ≤ xs.length → Pv i σ H → Same H0 H)
    (hs : ∀ (i : Nat) (y : V) (σ : L2.St) (H : Hp) (T : Addr), xs[i]? = some y → Pv i σ H → H T = none → g (.ref T) σ (upd H T (.tup [.int (i : Nat), y])) fun σ2 H2 => tb { D with nx := Pv (i + 1), ct := Pv (i + 1), bk := D.nx } σ2 H2) (hd : ∀ σ H, Pv xs.length σ H → D.nx σ H) :
    (∃ xs, SqL K H1 a xs) ∧ (∃ W : Nat → Nat → L2.St → Hp → Prop, (∃ m, W 0 m σ H1) ∧ ∀ i m σ H, W i m σ H →
      ((Ite K a).stop i H ∧ D.nx σ H) ∨ ((Ite K a).go i H ∧ ∃ N : L2.St → Hp → Prop, (∀ σ' H', N σ' H' → ∃ m', m' < m ∧ W (i + 1) m' σ' H') ∧ ∀ x H', (Ite K a).yld i H x H' → g x σ H' fun σ2 H2 => tb { D with nx := N, ct := N, bk := D.nx } σ2 H2)) ∨
    (∃ xs, SqT K H1 a xs) ∧ (∃ W : Nat → Nat → L2.St → Hp → Prop, (∃ m, W 0 m σ H1) ∧ ∀ i m σ H, W i m σ H →
      ((Itet K a).stop i H ∧ D.nx σ H) ∨ ((Itet K a).go i H ∧ ∃ N : L2.St → Hp → Prop, (∀ σ' H', N σ' H' → ∃ m', m' < m ∧ W (i + 1) m' σ' H') ∧ ∀ x H', (Itet K a).yld i H x H' → g x σ H' fun σ2 H2 => tb { D with nx := N, ct := N, bk := D.nx } σ2 H2)) := by
  rcases h with h | h
  · refine .inl ⟨⟨_, s1.seq h⟩, for_it (walk_enum (K := K) (a := a) (xs := xs)) Pv h0 (fun i σ H hi hP => (hl i σ H hi hP).seq h) (fun i v σ H H' hi hP hY => ?_) hd⟩
    obtain ⟨T, x, y, rfl, nT, rfl, hx, hy⟩ := hY
    obtain rfl : V.int (i : Nat) = x := Option.some.inj hx
    exact hs i y σ H T hy hP nT
  · refine .inr ⟨⟨_, Same.tup s1 h⟩, for_it (walk_et (K := K) (a := a) (xs := xs)) Pv h0 (fun i σ H hi hP => Same.tup (hl i σ H hi hP) h) (fun i v σ H H' hi hP hY => ?_) hd⟩
    obtain ⟨T, y, rfl, nT, rfl, hy⟩ := hY
    exact hs i y σ H T hy hP nT
/-! ### the __init__s of the refusals -/
theorem ws_0 {ws : List V} (h : ws.length = 0) : ws = [] := List.length_eq_zero_iff.mp h
theorem ws_1 {ws : List V} (h : ws.length = 1) : ∃ a, ws = [a] := match ws, h with | [a], _ => ⟨a, rfl⟩
theorem ws_2 {ws : List V} (h : ws.length = 2) : ∃ a b, ws = [a, b] := match ws, h with | [a, b], _ => ⟨a, b, rfl⟩
abbrev sI_TearError : Stmt := inClass (topS 2) 0
theorem scI_TearError : FnScope ["self", "word"] ["self", "word"] (defScope sI_TearError) := ⟨rfl, rfl, rfl, by decide +kernel, rfl, by decide +kernel, by decide +kernel⟩
theorem okI_TearError {P : Program} {w : World} {K : PySem.W.Frag} {mg : Str → Option Value} {base : Heap} {f : Addr} {fd : FuncData} {k : Nat} {ds : List V} (F : FunD K "__init__" "TearError.__init__" (defArgs sI_TearError) (defBody sI_TearError) (defScope sI_TearError) ds [] f fd) :
    FnOk P w K mg base CX0 (k + 1) f fd ["self", "word"] (spBase K) := by
  refine F.ok (CX := CX0) scI_TearError (fun vs H Q E h => ?_) (fun cdv A outer s H vs Q E hr h => ?_)
  · obtain ⟨a, C, y, rfl, _⟩ := h
    rfl
  · obtain ⟨a, C, y, rfl, T, hw, ha, q⟩ := h
    refine ⟨_, PSs.nox (pss_one (ps_gst (pv 0) (pv 1) rfl)), ?_⟩
    exact ⟨y, rfl, .ref a, rfl, a, C, rfl, T, hw, .inl ⟨ha, fun dx h1 h2 => q dx h1 h2⟩⟩
abbrev sI_Missing : Stmt := inClass (topS 26) 0
theorem scI_Missing : FnScope ["self", "word"] ["self", "word"] (defScope sI_Missing) := ⟨rfl, rfl, rfl, by decide +kernel, rfl, by decide +kernel, by decide +kernel⟩
theorem okI_Missing {P : Program} {w : World} {K : PySem.W.Frag} {mg : Str → Option Value} {base : Heap} {f : Addr} {fd : FuncData} {k : Nat} {ds : List V} (F : FunD K "__init__" "Missing.__init__" (defArgs sI_Missing) (defBody sI_Missing) (defScope sI_Missing) ds [] f fd) :
    FnOk P w K mg base CX0 (k + 1) f fd ["self", "word"] (spBase K) := by
  refine F.ok (CX := CX0) scI_Missing (fun vs H Q E h => ?_) (fun cdv A outer s H vs Q E hr h => ?_)
  · obtain ⟨a, C, y, rfl, _⟩ := h
    rfl
  · obtain ⟨a, C, y, rfl, T, hw, ha, q⟩ := h
    refine ⟨_, PSs.nox (pss_one (ps_gst (pv 0) (pv 1) rfl)), ?_⟩
    exact ⟨y, rfl, .ref a, rfl, a, C, rfl, T, hw, .inl ⟨ha, fun dx h1 h2 => q dx h1 h2⟩⟩
abbrev sI_OtherBook : Stmt := inClass (topS 10) 0
theorem scI_OtherBook : FnScope ["self"] ["self"] (defScope sI_OtherBook) := ⟨rfl, rfl, rfl, by decide +kernel, rfl, by decide +kernel, by decide +kernel⟩
theorem okI_OtherBook {P : Program} {w : World} {K : PySem.W.Frag} {mg : Str → Option Value} {base : Heap} {f C CB fB : Addr} {fd fdB : FuncData} {k : Nat} (F : Fun K "__init__" "OtherBook.__init__" sI_OtherBook f fd) (T : OexG K C) (hw : PySem.W.findIn K (.ref C) "word" = some none)
    (B : CFn K CB "__init__" fB) (GB : FnOk P w K mg base CX0 k fB fdB ["self", "word"] (spBase K)) (bB : Binds K fdB ["self", "word"] []) (mB : mg "TearError" = some (.ref CB)) :
    FnOk P w K mg base CX0 (k + 1) f fd ["self"] (spMade C 0 (fun ws => [("word", .str "OtherBook")])) := by
  refine F.ok scI_OtherBook (fun vs H Q E h => ?_) (fun cdv A outer s H vs Q E hr h => ?_)
  · obtain ⟨a, ws, rfl, hl, _⟩ := h
    rw [List.length_cons, hl]
    rfl
  · obtain ⟨a, ws, rfl, hl, ha, q⟩ := h
    obtain rfl := ws_0 hl
    refine ⟨_, pss_one (ps_expr (pe_cfn B GB hr bB .nil pass0 (by rfl) mB (pa_cons (pv 0) (pa_cons pe_str pa_nil)))), ?_⟩
    refine ⟨.ref a, rfl, a, C, _, rfl, T, hw, ha, fun dx h1 h2 => ?_⟩
    have nn : a ≠ dx := fun z => h2 z.symm
    refine q dx _ h1 h2 (fun b b1 b2 => ?_) upd_same ?_
    · rw [upd_ne b1, upd_ne b2]
    · rw [upd_ne h2, upd_same]
abbrev sI_NoFigure : Stmt := inClass (topS 28) 0
theorem scI_NoFigure : FnScope ["self", "figure"] ["self", "figure"] (defScope sI_NoFigure) := ⟨rfl, rfl, rfl, by decide +kernel, rfl, by decide +kernel, by decide +kernel⟩
theorem okI_NoFigure {P : Program} {w : World} {K : PySem.W.Frag} {mg : Str → Option Value} {base : Heap} {f C CB fB : Addr} {fd fdB : FuncData} {k : Nat} (F : Fun K "__init__" "NoFigure.__init__" sI_NoFigure f fd) (T : OexG K C) (hw : PySem.W.findIn K (.ref C) "word" = some none) (n_figure : PySem.W.findIn K (.ref C) "figure" = some none)
    (B : CFn K CB "__init__" fB) (GB : FnOk P w K mg base CX0 k fB fdB ["self", "word"] (spBase K)) (bB : Binds K fdB ["self", "word"] []) (mB : mg "Missing" = some (.ref CB)) :
    FnOk P w K mg base CX0 (k + 1) f fd ["self", "figure"] (spMade C 1 (fun ws => [("figure", ws.getD 0 .non), ("word", .str "NoFigure")])) := by
  refine F.ok scI_NoFigure (fun vs H Q E h => ?_) (fun cdv A outer s H vs Q E hr h => ?_)
  · obtain ⟨a, ws, rfl, hl, _⟩ := h
    rw [List.length_cons, hl]
    rfl
  · obtain ⟨a, ws, rfl, hl, ha, q⟩ := h
    obtain ⟨y0, rfl⟩ := ws_1 hl
    refine ⟨_, pss_cons (ps_expr (pe_cfn B GB hr bB .nil pass0 (by rfl) mB (pa_cons (pv 0) (pa_cons pe_str pa_nil)))) (pss_one (ps_gst (pv 0) (pv 1) rfl)), ?_⟩
    refine ⟨.ref a, rfl, a, C, _, rfl, T, hw, ha, fun dx h1 h2 => ?_⟩
    have nn : a ≠ dx := fun z => h2 z.symm
    refine ⟨y0, rfl, .ref a, rfl, a, C, rfl, T, n_figure, .inr ⟨dx, _, by rw [upd_same], by rw [upd_ne h2, upd_same], by simp, ?_⟩⟩
    refine q dx _ h1 h2 (fun b b1 b2 => ?_) ?_ ?_
    · rw [upd_ne b2, upd_ne b1, upd_ne b2]
    · rw [upd_ne nn, upd_same]
    · rw [upd_same]
      rfl
abbrev sI_NoPad : Stmt := inClass (topS 27) 0
theorem scI_NoPad : FnScope ["self", "pad"] ["self", "pad"] (defScope sI_NoPad) := ⟨rfl, rfl, rfl, by decide +kernel, rfl, by decide +kernel, by decide +kernel⟩
theorem okI_NoPad {P : Program} {w : World} {K : PySem.W.Frag} {mg : Str → Option Value} {base : Heap} {f C CB fB : Addr} {fd fdB : FuncData} {k : Nat} (F : Fun K "__init__" "NoPad.__init__" sI_NoPad f fd) (T : OexG K C) (hw : PySem.W.findIn K (.ref C) "word" = some none) (n_pad : PySem.W.findIn K (.ref C) "pad" = some none)
    (B : CFn K CB "__init__" fB) (GB : FnOk P w K mg base CX0 k fB fdB ["self", "word"] (spBase K)) (bB : Binds K fdB ["self", "word"] []) (mB : mg "Missing" = some (.ref CB)) :
    FnOk P w K mg base CX0 (k + 1) f fd ["self", "pad"] (spMade C 1 (fun ws => [("pad", ws.getD 0 .non), ("word", .str "NoPad")])) := by
  refine F.ok scI_NoPad (fun vs H Q E h => ?_) (fun cdv A outer s H vs Q E hr h => ?_)
  · obtain ⟨a, ws, rfl, hl, _⟩ := h
    rw [List.length_cons, hl]
    rfl
  · obtain ⟨a, ws, rfl, hl, ha, q⟩ := h
    obtain ⟨y0, rfl⟩ := ws_1 hl
    refine ⟨_, pss_cons (ps_expr (pe_cfn B GB hr bB .nil pass0 (by rfl) mB (pa_cons (pv 0) (pa_cons pe_str pa_nil)))) (pss_one (ps_gst (pv 0) (pv 1) rfl)), ?_⟩
    refine ⟨.ref a, rfl, a, C, _, rfl, T, hw, ha, fun dx h1 h2 => ?_⟩
    have nn : a ≠ dx := fun z => h2 z.symm
    refine ⟨y0, rfl, .ref a, rfl, a, C, rfl, T, n_pad, .inr ⟨dx, _, by rw [upd_same], by rw [upd_ne h2, upd_same], by simp, ?_⟩⟩
    refine q dx _ h1 h2 (fun b b1 b2 => ?_) ?_ ?_
    · rw [upd_ne b2, upd_ne b1, upd_ne b2]
    · rw [upd_ne nn, upd_same]
    · rw [upd_same]
      rfl
/-! ### the __init__s of more refusals -/
abbrev sI_BadColours : Stmt := inClass (topS 3) 0
theorem scI_BadColours : FnScope ["self", "at"] ["self", "at"] (defScope sI_BadColours) := ⟨rfl, rfl, rfl, by decide +kernel, rfl, by decide +kernel, by decide +kernel⟩
theorem okI_BadColours {P : Program} {w : World} {K : PySem.W.Frag} {mg : Str → Option Value} {base : Heap} {f C CB fB : Addr} {fd fdB : FuncData} {k : Nat} (F : Fun K "__init__" "BadColours.__init__" sI_BadColours f fd) (T : OexG K C) (hw : PySem.W.findIn K (.ref C) "word" = some none) (n_at : PySem.W.findIn K (.ref C) "at" = some none)
    (B : CFn K CB "__init__" fB) (GB : FnOk P w K mg base CX0 k fB fdB ["self", "word"] (spBase K)) (bB : Binds K fdB ["self", "word"] []) (mB : mg "TearError" = some (.ref CB)) :
    FnOk P w K mg base CX0 (k + 1) f fd ["self", "at"] (spMade C 1 (fun ws => [("at", ws.getD 0 .non), ("word", .str "BadColours")])) := by
  refine F.ok scI_BadColours (fun vs H Q E h => ?_) (fun cdv A outer s H vs Q E hr h => ?_)
  · obtain ⟨a, ws, rfl, hl, _⟩ := h
    rw [List.length_cons, hl]
    rfl
  · obtain ⟨a, ws, rfl, hl, ha, q⟩ := h
    obtain ⟨y0, rfl⟩ := ws_1 hl
    refine ⟨_, pss_cons (ps_expr (pe_cfn B GB hr bB .nil pass0 (by rfl) mB (pa_cons (pv 0) (pa_cons pe_str pa_nil)))) (pss_one (ps_gst (pv 0) (pv 1) rfl)), ?_⟩
    refine ⟨.ref a, rfl, a, C, _, rfl, T, hw, ha, fun dx h1 h2 => ?_⟩
    have nn : a ≠ dx := fun z => h2 z.symm
    refine ⟨y0, rfl, .ref a, rfl, a, C, rfl, T, n_at, .inr ⟨dx, _, by rw [upd_same], by rw [upd_ne h2, upd_same], by simp, ?_⟩⟩
    refine q dx _ h1 h2 (fun b b1 b2 => ?_) ?_ ?_
    · rw [upd_ne b2, upd_ne b1, upd_ne b2]
    · rw [upd_ne nn, upd_same]
    · rw [upd_same]
      rfl
abbrev sI_Meeting : Stmt := inClass (topS 5) 0
theorem scI_Meeting : FnScope ["self", "one", "other"] ["self", "one", "other"] (defScope sI_Meeting) := ⟨rfl, rfl, rfl, by decide +kernel, rfl, by decide +kernel, by decide +kernel⟩
theorem okI_Meeting {P : Program} {w : World} {K : PySem.W.Frag} {mg : Str → Option Value} {base : Heap} {f C CB fB : Addr} {fd fdB : FuncData} {k : Nat} (F : Fun K "__init__" "Meeting.__init__" sI_Meeting f fd) (T : OexG K C) (hw : PySem.W.findIn K (.ref C) "word" = some none) (n_one : PySem.W.findIn K (.ref C) "one" = some none) (n_other : PySem.W.findIn K (.ref C) "other" = some none)
    (B : CFn K CB "__init__" fB) (GB : FnOk P w K mg base CX0 k fB fdB ["self", "word"] (spBase K)) (bB : Binds K fdB ["self", "word"] []) (mB : mg "TearError" = some (.ref CB)) :
    FnOk P w K mg base CX0 (k + 1) f fd ["self", "one", "other"] (spMade C 2 (fun ws => [("other", ws.getD 1 .non), ("one", ws.getD 0 .non), ("word", .str "Meeting")])) := by
  refine F.ok scI_Meeting (fun vs H Q E h => ?_) (fun cdv A outer s H vs Q E hr h => ?_)
  · obtain ⟨a, ws, rfl, hl, _⟩ := h
    rw [List.length_cons, hl]
    rfl
  · obtain ⟨a, ws, rfl, hl, ha, q⟩ := h
    obtain ⟨y0, y1, rfl⟩ := ws_2 hl
    refine ⟨_, pss_cons (ps_expr (pe_cfn B GB hr bB .nil pass0 (by rfl) mB (pa_cons (pv 0) (pa_cons pe_str pa_nil)))) (pss_cons (ps_gst (pv 0) (pv 1) rfl) (pss_one (ps_gst (pv 0) (pv 2) rfl))), ?_⟩
    refine ⟨.ref a, rfl, a, C, _, rfl, T, hw, ha, fun dx h1 h2 => ?_⟩
    have nn : a ≠ dx := fun z => h2 z.symm
    refine ⟨y0, rfl, .ref a, rfl, a, C, rfl, T, n_one, .inr ⟨dx, _, by rw [upd_same], by rw [upd_ne h2, upd_same], by simp, ?_⟩⟩
    refine ⟨y1, rfl, .ref a, rfl, a, C, rfl, T, n_other, .inr ⟨dx, _, by rw [upd_ne nn, upd_same], by rw [upd_same], by simp, ?_⟩⟩
    refine q dx _ h1 h2 (fun b b1 b2 => ?_) ?_ ?_
    · rw [upd_ne b2, upd_ne b2, upd_ne b1, upd_ne b2]
    · rw [upd_ne nn, upd_ne nn, upd_same]
    · rw [upd_same]
      rfl
abbrev sI_TooMany : Stmt := inClass (topS 6) 0
theorem scI_TooMany : FnScope ["self", "most"] ["self", "most"] (defScope sI_TooMany) := ⟨rfl, rfl, rfl, by decide +kernel, rfl, by decide +kernel, by decide +kernel⟩
theorem okI_TooMany {P : Program} {w : World} {K : PySem.W.Frag} {mg : Str → Option Value} {base : Heap} {f C CB fB : Addr} {fd fdB : FuncData} {k : Nat} (F : Fun K "__init__" "TooMany.__init__" sI_TooMany f fd) (T : OexG K C) (hw : PySem.W.findIn K (.ref C) "word" = some none) (n_most : PySem.W.findIn K (.ref C) "most" = some none)
    (B : CFn K CB "__init__" fB) (GB : FnOk P w K mg base CX0 k fB fdB ["self", "word"] (spBase K)) (bB : Binds K fdB ["self", "word"] []) (mB : mg "TearError" = some (.ref CB)) :
    FnOk P w K mg base CX0 (k + 1) f fd ["self", "most"] (spMade C 1 (fun ws => [("most", ws.getD 0 .non), ("word", .str "TooMany")])) := by
  refine F.ok scI_TooMany (fun vs H Q E h => ?_) (fun cdv A outer s H vs Q E hr h => ?_)
  · obtain ⟨a, ws, rfl, hl, _⟩ := h
    rw [List.length_cons, hl]
    rfl
  · obtain ⟨a, ws, rfl, hl, ha, q⟩ := h
    obtain ⟨y0, rfl⟩ := ws_1 hl
    refine ⟨_, pss_cons (ps_expr (pe_cfn B GB hr bB .nil pass0 (by rfl) mB (pa_cons (pv 0) (pa_cons pe_str pa_nil)))) (pss_one (ps_gst (pv 0) (pv 1) rfl)), ?_⟩
    refine ⟨.ref a, rfl, a, C, _, rfl, T, hw, ha, fun dx h1 h2 => ?_⟩
    have nn : a ≠ dx := fun z => h2 z.symm
    refine ⟨y0, rfl, .ref a, rfl, a, C, rfl, T, n_most, .inr ⟨dx, _, by rw [upd_same], by rw [upd_ne h2, upd_same], by simp, ?_⟩⟩
    refine q dx _ h1 h2 (fun b b1 b2 => ?_) ?_ ?_
    · rw [upd_ne b2, upd_ne b1, upd_ne b2]
    · rw [upd_ne nn, upd_same]
    · rw [upd_same]
      rfl
abbrev sI_BadOrder : Stmt := inClass (topS 8) 0
theorem scI_BadOrder : FnScope ["self"] ["self"] (defScope sI_BadOrder) := ⟨rfl, rfl, rfl, by decide +kernel, rfl, by decide +kernel, by decide +kernel⟩
theorem okI_BadOrder {P : Program} {w : World} {K : PySem.W.Frag} {mg : Str → Option Value} {base : Heap} {f C CB fB : Addr} {fd fdB : FuncData} {k : Nat} (F : Fun K "__init__" "BadOrder.__init__" sI_BadOrder f fd) (T : OexG K C) (hw : PySem.W.findIn K (.ref C) "word" = some none)
    (B : CFn K CB "__init__" fB) (GB : FnOk P w K mg base CX0 k fB fdB ["self", "word"] (spBase K)) (bB : Binds K fdB ["self", "word"] []) (mB : mg "TearError" = some (.ref CB)) :
    FnOk P w K mg base CX0 (k + 1) f fd ["self"] (spMade C 0 (fun ws => [("word", .str "BadOrder")])) := by
  refine F.ok scI_BadOrder (fun vs H Q E h => ?_) (fun cdv A outer s H vs Q E hr h => ?_)
  · obtain ⟨a, ws, rfl, hl, _⟩ := h
    rw [List.length_cons, hl]
    rfl
  · obtain ⟨a, ws, rfl, hl, ha, q⟩ := h
    obtain rfl := ws_0 hl
    refine ⟨_, pss_one (ps_expr (pe_cfn B GB hr bB .nil pass0 (by rfl) mB (pa_cons (pv 0) (pa_cons pe_str pa_nil)))), ?_⟩
    refine ⟨.ref a, rfl, a, C, _, rfl, T, hw, ha, fun dx h1 h2 => ?_⟩
    have nn : a ≠ dx := fun z => h2 z.symm
    refine q dx _ h1 h2 (fun b b1 b2 => ?_) upd_same ?_
    · rw [upd_ne b1, upd_ne b2]
    · rw [upd_ne h2, upd_same]
abbrev sI_OtherColours : Stmt := inClass (topS 9) 0
theorem scI_OtherColours : FnScope ["self"] ["self"] (defScope sI_OtherColours) := ⟨rfl, rfl, rfl, by decide +kernel, rfl, by decide +kernel, by decide +kernel⟩
theorem okI_OtherColours {P : Program} {w : World} {K : PySem.W.Frag} {mg : Str → Option Value} {base : Heap} {f C CB fB : Addr} {fd fdB : FuncData} {k : Nat} (F : Fun K "__init__" "OtherColours.__init__" sI_OtherColours f fd) (T : OexG K C) (hw : PySem.W.findIn K (.ref C) "word" = some none)
    (B : CFn K CB "__init__" fB) (GB : FnOk P w K mg base CX0 k fB fdB ["self", "word"] (spBase K)) (bB : Binds K fdB ["self", "word"] []) (mB : mg "TearError" = some (.ref CB)) :
    FnOk P w K mg base CX0 (k + 1) f fd ["self"] (spMade C 0 (fun ws => [("word", .str "OtherColours")])) := by
  refine F.ok scI_OtherColours (fun vs H Q E h => ?_) (fun cdv A outer s H vs Q E hr h => ?_)
  · obtain ⟨a, ws, rfl, hl, _⟩ := h
    rw [List.length_cons, hl]
    rfl
  · obtain ⟨a, ws, rfl, hl, ha, q⟩ := h
    obtain rfl := ws_0 hl
    refine ⟨_, pss_one (ps_expr (pe_cfn B GB hr bB .nil pass0 (by rfl) mB (pa_cons (pv 0) (pa_cons pe_str pa_nil)))), ?_⟩
    refine ⟨.ref a, rfl, a, C, _, rfl, T, hw, ha, fun dx h1 h2 => ?_⟩
    have nn : a ≠ dx := fun z => h2 z.symm
    refine q dx _ h1 h2 (fun b b1 b2 => ?_) upd_same ?_
    · rw [upd_ne b1, upd_ne b2]
    · rw [upd_ne h2, upd_same]
/-! ### the refusals by their numbers -/
def rNms : List Str := ["BadColours", "BadFigure", "Meeting", "TooMany", "TooFar", "BadOrder", "OtherColours", "OtherBook", "BadRow", "BadNote", "BadBeneath", "Full", "NoEnd", "NotStanding", "NeverClear", "BadDeed", "BadNumber", "NoBeginning", "Barred", "BadHeights", "BadWeights", "NoMean", "BadText", "NoPad", "NoFigure", "NoNote", "NothingBack", "NothingAgain"]
def rFls : List (List Str) := [["at"], ["at"], ["one", "other"], ["most"], ["most"], [], [], [], ["at"], ["note"], [], ["pad"], ["pad"], ["figure"], ["pad"], [], ["number"], [], ["pad"], ["at"], ["at"], [], ["at"], ["pad"], ["figure"], ["depth"], [], []]
def rNm (i : Nat) : Str := rNms.getD i ""
def rFl (i : Nat) : List Str := rFls.getD i []
/-- the fields of the refusal i with these values -/
def rFs (i : Nat) (ws : List V) : List (Str × V) := ((rFl i).zip ws).reverse ++ [(("word" : Str), V.str (rNm i))]
structure RefsT (K : PySem.W.Frag) (mg : Str → Option Value) (cm : Nat → Addr) : Prop where
  mgC : ∀ i, i < 28 → mg (rNm i) = some (.ref (cm i))
  xf : ∀ i, i < 28 → XfC K (cm i)
  nw : ∀ i, i < 28 → ∀ f ∈ ("word" : Str) :: rFl i, PySem.W.findIn K (.ref (cm i)) f = some none
  sub : ∀ i j, i < 28 → j < 28 → PySem.W.exmOne K (.ref (cm i)) (.ref (cm j)) = some (decide (i = j))
theorem RefsT.any {K : PySem.W.Frag} {mg : Str → Option Value} {cm : Nat → Addr} (T : RefsT K mg cm) {i : Nat} (hi : i < 28) : ∀ (js : List Nat), (∀ j ∈ js, j < 28) → PySem.W.exmAny K (.ref (cm i)) (js.map fun j => .ref (cm j)) = some (js.any fun j => decide (i = j)) := by
  intro js
  induction js with
  | nil => exact fun _ => rfl
  | cons j r ih =>
    intro h
    have a := T.sub i j hi (h j (List.mem_cons_self ..))
    have b := ih fun x hx => h x (List.mem_cons_of_mem _ hx)
    show PySem.W.exmAny K (.ref (cm i)) (.ref (cm j) :: r.map fun j => .ref (cm j)) = _
    unfold PySem.W.exmAny
    rw [a, b]
    rfl
theorem nmT {X : Cx} {K : PySem.W.Frag} {cm : Nat → Addr} {i : Nat} (T : RefsT K X.mg cm) (hi : i < 28) (hg : Gl X (rNm i)) (hd : (rNm i == ("__debug__" : Str)) = false) : Names X (rNm i) (.ref (cm i)) := ⟨hg, hd, .inl (T.mgC i hi)⟩
/-- e.f in an except suite, e a refusal of whatever class -/
def tXfr (K : PySem.W.Frag) (a : Addr) (cls : Value) (d : Option Addr) (f : Str) (te : TE) : TE := fun σ H Q => te σ H fun x H1 => ∃ (C dd : Addr) (fs : List (Str × V)) (v : V), x = .ref a ∧ cls = .ref C ∧ XfC K C ∧ PySem.W.findIn K (.ref C) f = some none ∧ d = some dd ∧ H1 dd = some (.xd fs) ∧ fs.lookup f = some v ∧ Q v H1
theorem pe_xfr {X : Cx} {a : Addr} {oe : Obj} {cls : Value} {d : Option Addr} {pn : List (Addr × Obj)} {e : Expr} {te : TE} {pos : Pos} {f : Str} (hz : Zc cls d oe) (hf : ∃ vs, oe.data = .fields vs) (he : PE (X.suite a ((a, oe) :: pn)) e te)
    (hb : attributeBase e f X.env (eval e X.env) = eval e X.env := by rfl) : PE (X.suite a ((a, oe) :: pn)) (.Attribute e f pos) (tXfr X.K a cls d f te) := by
  refine ⟨fun pins s σ H Q I h => ?_⟩
  refine attr_of hb (thn (he.run pins s σ H _ I h) fun u s1 hh => ?_)
  obtain ⟨x, H1, I1, rx, C, dd, fs, v, rfl, rfl, T, hno, rfl, ea, l, q⟩ := hh
  obtain rfl : u = Value.ref a := rx
  obtain ⟨ha, _⟩ := I1.pin (a, oe) (List.mem_append_left _ List.mem_cons_self)
  obtain ⟨vs, hd⟩ := hf
  have hx : ObjOk X.prog X.w H1 s1.heap dd (.xd fs) := I1.hok dd _ ea
  obtain ⟨mA, hns, hr⟩ := hx
  obtain ⟨od, ho, hl⟩ := lookIn_ns hns
  obtain ⟨u, hu, ru⟩ := RelO.some_of (v := v) (o := mA f) (by rw [← l]; exact hr f)
  have J : PySem.W.InstAt s1.heap a oe C (some od) := ⟨ha, hz.1, by unfold PySem.W.notCls; rw [hd] <;> rfl, by rw [hz.2]; exact ho⟩
  exact HandSPX.exc_get I1.kIn J T.ga T.gg T.exC (PySem.W.findObj_own T.hdC hno rfl (by rw [hl, hu])) (handed_of ru) ⟨v, H1, I1.tok _, ru, q⟩
theorem takes_len {X : Cx} {W : WX} (t : Takes X W) : Takes X (fun cls d σ H => σ.length = X.N.length → W cls d σ H) := fun u s' x => by
  obtain ⟨a, B, sI, pins, σ, H, cls, d, e, I, nb, up, sky, na, os, ag, w⟩ := x
  exact t u s' ⟨a, B, sI, pins, σ, H, cls, d, e, I, nb, up, sky, na, os, ag, w I.len⟩
/-- what _law_tried makes of the lambda's reading -/
def TTried (cm : Nat → Addr) : (XK → Hp → VK → Prop) → Hp → VK → Prop := fun tl H Q =>
  tl (fun cls d H' => ∃ (i : Nat) (ws : List V) (dd : Addr), i < 28 ∧ cls = .ref (cm i) ∧ d = some dd ∧ ws.length = (rFl i).length ∧ H' dd = some (.xd (rFs i ws)) ∧ ∀ p, H' p = none → Q (.ref p) (upd H' p (.tup (.str (rNm i) :: ws)))) H
    (fun v H1 => (2 : Nat) ≤ sizeLine ∧ ∀ p, H1 p = none → Q (.ref p) (upd H1 p (.tup [.str "told", v])))
abbrev sTried : Stmt := topS 63
abbrev nTried : List Str := ["_law_act", "e"]
theorem scTried : FnScope nTried ["_law_act"] (defScope sTried) := ⟨rfl, rfl, rfl, by decide +kernel, rfl, by decide +kernel, by decide +kernel⟩
theorem tried_gives {X : Cx} {cm : Nat → Addr} {g : Addr} {cdg : Value} {q : Str} (T : RefsT X.K X.mg cm) : LamX.GivesTo X nTried "_law_tried" (defScope sTried) g cdg (defBody sTried) "_law_act" q (TTried cm) := by
  intro f c' s H Q tl act hc h
  refine ⟨_, pss_one (ps_try_asN (X := (cxOf C8.CX0 X.prog X.w X.K X.mg X.base nTried "_law_tried" (defScope sTried) g cdg X.A X.stack s H C8.E0).nox) (i := 1) (n := "e")
      (tb := fun W D σ H => ∃ Ech : XK, (∀ cls d (σ' : L2.St) H', Ech cls d H' → σ'.length = 2 → W cls d σ' H') ∧ σ[0]? = some (some (.ref f)) ∧ H c' = some (LamX.CodeO c' q) ∧ tl Ech H (fun v H1 => (2 : Nat) ≤ sizeLine ∧ ∀ p, H1 p = none → D.rt (.ref p) (upd H1 p (.tup [.str "told", v]))))
      rfl rfl scTried.nd rfl rfl LamX.takes0 (fun W pn xe tk _ => ?_)
      (.cons (.tup (.cons (nmT (i := 0) T (by decide) (by rfl) (by decide)) (.cons (nmT (i := 1) T (by decide) (by rfl) (by decide)) (.cons (nmT (i := 8) T (by decide) (by rfl) (by decide)) (.cons (nmT (i := 19) T (by decide) (by rfl) (by decide)) (.cons (nmT (i := 20) T (by decide) (by rfl) (by decide)) (.cons (nmT (i := 22) T (by decide) (by rfl) (by decide)) .nil)))))) (by simp)) (fun a oe cls d pn hz hf => pss_one (ps_ret (pe_tup (pa_cons (pe_xfr hz hf (pv 1)) (pa_cons (pe_xfr hz hf (pv 1)) pa_nil)))))
        (.cons (.one (nmT (i := 2) T (by decide) (by rfl) (by decide))) (fun a oe cls d pn hz hf => pss_one (ps_ret (pe_tup (pa_cons (pe_xfr hz hf (pv 1)) (pa_cons (pe_xfr hz hf (pv 1)) (pa_cons (pe_xfr hz hf (pv 1)) pa_nil))))))
        (.cons (.tup (.cons (nmT (i := 3) T (by decide) (by rfl) (by decide)) (.cons (nmT (i := 4) T (by decide) (by rfl) (by decide)) .nil)) (by simp)) (fun a oe cls d pn hz hf => pss_one (ps_ret (pe_tup (pa_cons (pe_xfr hz hf (pv 1)) (pa_cons (pe_xfr hz hf (pv 1)) pa_nil)))))
        (.cons (.one (nmT (i := 9) T (by decide) (by rfl) (by decide))) (fun a oe cls d pn hz hf => pss_one (ps_ret (pe_tup (pa_cons (pe_xfr hz hf (pv 1)) (pa_cons (pe_xfr hz hf (pv 1)) pa_nil)))))
        (.cons (.tup (.cons (nmT (i := 11) T (by decide) (by rfl) (by decide)) (.cons (nmT (i := 12) T (by decide) (by rfl) (by decide)) (.cons (nmT (i := 14) T (by decide) (by rfl) (by decide)) (.cons (nmT (i := 18) T (by decide) (by rfl) (by decide)) (.cons (nmT (i := 23) T (by decide) (by rfl) (by decide)) .nil))))) (by simp)) (fun a oe cls d pn hz hf => pss_one (ps_ret (pe_tup (pa_cons (pe_xfr hz hf (pv 1)) (pa_cons (pe_xfr hz hf (pv 1)) pa_nil)))))
        (.cons (.tup (.cons (nmT (i := 13) T (by decide) (by rfl) (by decide)) (.cons (nmT (i := 24) T (by decide) (by rfl) (by decide)) .nil)) (by simp)) (fun a oe cls d pn hz hf => pss_one (ps_ret (pe_tup (pa_cons (pe_xfr hz hf (pv 1)) (pa_cons (pe_xfr hz hf (pv 1)) pa_nil)))))
        (.cons (.one (nmT (i := 16) T (by decide) (by rfl) (by decide))) (fun a oe cls d pn hz hf => pss_one (ps_ret (pe_tup (pa_cons (pe_xfr hz hf (pv 1)) (pa_cons (pe_xfr hz hf (pv 1)) pa_nil)))))
        (.cons (.one (nmT (i := 25) T (by decide) (by rfl) (by decide))) (fun a oe cls d pn hz hf => pss_one (ps_ret (pe_tup (pa_cons (pe_xfr hz hf (pv 1)) (pa_cons (pe_xfr hz hf (pv 1)) pa_nil)))))
        (.cons (.tup (.cons (nmT (i := 5) T (by decide) (by rfl) (by decide)) (.cons (nmT (i := 6) T (by decide) (by rfl) (by decide)) (.cons (nmT (i := 7) T (by decide) (by rfl) (by decide)) (.cons (nmT (i := 10) T (by decide) (by rfl) (by decide)) (.cons (nmT (i := 15) T (by decide) (by rfl) (by decide)) (.cons (nmT (i := 17) T (by decide) (by rfl) (by decide)) (.cons (nmT (i := 21) T (by decide) (by rfl) (by decide)) .nil))))))) (by simp)) (fun a oe cls d pn hz hf => pss_one (ps_ret (pe_tup (pa_cons (pe_xfr hz hf (pv 1)) pa_nil))))
        (.cons (.tup (.cons (nmT (i := 26) T (by decide) (by rfl) (by decide)) (.cons (nmT (i := 27) T (by decide) (by rfl) (by decide)) .nil)) (by simp)) (fun a oe cls d pn hz hf => pss_one (ps_ret (pe_tup (pa_cons (pe_xfr hz hf (pv 1)) pa_nil))))
        .nil))))))))))), ?_⟩
  · refine ⟨fun pins s' σ H' D I h' => ?_⟩
    obtain ⟨Ech, hW, h1, h2, h3⟩ := h'
    refine (pss_one (ps_ret (pe_tup (pa_cons pe_str (pa_cons (act (fun cls d σ' H' => σ'.length = 2 → W cls d σ' H') pn xe Ech _ _ (takes_len tk) hW) pa_nil))))).run pins s' σ H' D I ?_
    exact ⟨h1, h2, h3⟩
  · refine ⟨fun cls d H' => ∃ (i : Nat) (ws : List V) (dd : Addr), i < 28 ∧ cls = .ref (cm i) ∧ d = some dd ∧ ws.length = (rFl i).length ∧ H' dd = some (.xd (rFs i ws)) ∧ ∀ p, H' p = none → Q (.ref p) (upd H' p (.tup (.str (rNm i) :: ws))),
      fun cls d σ' H' z hs => ?_, rfl, hc, h⟩
    obtain ⟨i, ws, dd, hi, rfl, rfl, hl, hx, hq⟩ := z
    have at1 : ∀ a : Addr, (σ'.set 1 (some (V.ref a)))[1]? = some (some (V.ref a)) := fun a => List.getElem?_set_self (by omega)
    match i, hi with
    | 0, _ =>
      obtain ⟨y0, rfl⟩ := ws_1 hl
      refine ⟨true, T.any (i := 0) (by decide) [0, 1, 8, 19, 20, 22] (by decide), fun _ a ha => ?_, (fun z => nomatch z)⟩
      exact ⟨.ref a, at1 a, cm 0, dd, _, _, rfl, rfl, T.xf 0 (by decide), T.nw 0 (by decide) _ (by decide), rfl, hx, rfl, .ref a, at1 a, cm 0, dd, _, _, rfl, rfl, T.xf 0 (by decide), T.nw 0 (by decide) _ (by decide), rfl, hx, rfl, by show _ ≤ sizeLine; rw [sizeLine_eq]; simp, hq⟩
    | 1, _ =>
      obtain ⟨y0, rfl⟩ := ws_1 hl
      refine ⟨true, T.any (i := 1) (by decide) [0, 1, 8, 19, 20, 22] (by decide), fun _ a ha => ?_, (fun z => nomatch z)⟩
      exact ⟨.ref a, at1 a, cm 1, dd, _, _, rfl, rfl, T.xf 1 (by decide), T.nw 1 (by decide) _ (by decide), rfl, hx, rfl, .ref a, at1 a, cm 1, dd, _, _, rfl, rfl, T.xf 1 (by decide), T.nw 1 (by decide) _ (by decide), rfl, hx, rfl, by show _ ≤ sizeLine; rw [sizeLine_eq]; simp, hq⟩
    | 2, _ =>
      obtain ⟨y0, y1, rfl⟩ := ws_2 hl
      refine ⟨false, T.any (i := 2) (by decide) [0, 1, 8, 19, 20, 22] (by decide), (fun z => nomatch z), fun _ => ?_⟩
      refine ⟨true, T.any (i := 2) (by decide) [2] (by decide), fun _ a ha => ?_, (fun z => nomatch z)⟩
      exact ⟨.ref a, at1 a, cm 2, dd, _, _, rfl, rfl, T.xf 2 (by decide), T.nw 2 (by decide) _ (by decide), rfl, hx, rfl, .ref a, at1 a, cm 2, dd, _, _, rfl, rfl, T.xf 2 (by decide), T.nw 2 (by decide) _ (by decide), rfl, hx, rfl, .ref a, at1 a, cm 2, dd, _, _, rfl, rfl, T.xf 2 (by decide), T.nw 2 (by decide) _ (by decide), rfl, hx, rfl, by show _ ≤ sizeLine; rw [sizeLine_eq]; simp, hq⟩
    | 3, _ =>
      obtain ⟨y0, rfl⟩ := ws_1 hl
      refine ⟨false, T.any (i := 3) (by decide) [0, 1, 8, 19, 20, 22] (by decide), (fun z => nomatch z), fun _ => ?_⟩
      refine ⟨false, T.any (i := 3) (by decide) [2] (by decide), (fun z => nomatch z), fun _ => ?_⟩
      refine ⟨true, T.any (i := 3) (by decide) [3, 4] (by decide), fun _ a ha => ?_, (fun z => nomatch z)⟩
      exact ⟨.ref a, at1 a, cm 3, dd, _, _, rfl, rfl, T.xf 3 (by decide), T.nw 3 (by decide) _ (by decide), rfl, hx, rfl, .ref a, at1 a, cm 3, dd, _, _, rfl, rfl, T.xf 3 (by decide), T.nw 3 (by decide) _ (by decide), rfl, hx, rfl, by show _ ≤ sizeLine; rw [sizeLine_eq]; simp, hq⟩
    | 4, _ =>
      obtain ⟨y0, rfl⟩ := ws_1 hl
      refine ⟨false, T.any (i := 4) (by decide) [0, 1, 8, 19, 20, 22] (by decide), (fun z => nomatch z), fun _ => ?_⟩
      refine ⟨false, T.any (i := 4) (by decide) [2] (by decide), (fun z => nomatch z), fun _ => ?_⟩
      refine ⟨true, T.any (i := 4) (by decide) [3, 4] (by decide), fun _ a ha => ?_, (fun z => nomatch z)⟩
      exact ⟨.ref a, at1 a, cm 4, dd, _, _, rfl, rfl, T.xf 4 (by decide), T.nw 4 (by decide) _ (by decide), rfl, hx, rfl, .ref a, at1 a, cm 4, dd, _, _, rfl, rfl, T.xf 4 (by decide), T.nw 4 (by decide) _ (by decide), rfl, hx, rfl, by show _ ≤ sizeLine; rw [sizeLine_eq]; simp, hq⟩
    | 5, _ =>
      obtain rfl := ws_0 hl
      refine ⟨false, T.any (i := 5) (by decide) [0, 1, 8, 19, 20, 22] (by decide), (fun z => nomatch z), fun _ => ?_⟩
      refine ⟨false, T.any (i := 5) (by decide) [2] (by decide), (fun z => nomatch z), fun _ => ?_⟩
      refine ⟨false, T.any (i := 5) (by decide) [3, 4] (by decide), (fun z => nomatch z), fun _ => ?_⟩
      refine ⟨false, T.any (i := 5) (by decide) [9] (by decide), (fun z => nomatch z), fun _ => ?_⟩
      refine ⟨false, T.any (i := 5) (by decide) [11, 12, 14, 18, 23] (by decide), (fun z => nomatch z), fun _ => ?_⟩
      refine ⟨false, T.any (i := 5) (by decide) [13, 24] (by decide), (fun z => nomatch z), fun _ => ?_⟩
      refine ⟨false, T.any (i := 5) (by decide) [16] (by decide), (fun z => nomatch z), fun _ => ?_⟩
      refine ⟨false, T.any (i := 5) (by decide) [25] (by decide), (fun z => nomatch z), fun _ => ?_⟩
      refine ⟨true, T.any (i := 5) (by decide) [5, 6, 7, 10, 15, 17, 21] (by decide), fun _ a ha => ?_, (fun z => nomatch z)⟩
      exact ⟨.ref a, at1 a, cm 5, dd, _, _, rfl, rfl, T.xf 5 (by decide), T.nw 5 (by decide) _ (by decide), rfl, hx, rfl, by show _ ≤ sizeLine; rw [sizeLine_eq]; simp, hq⟩
    | 6, _ =>
      obtain rfl := ws_0 hl
      refine ⟨false, T.any (i := 6) (by decide) [0, 1, 8, 19, 20, 22] (by decide), (fun z => nomatch z), fun _ => ?_⟩
      refine ⟨false, T.any (i := 6) (by decide) [2] (by decide), (fun z => nomatch z), fun _ => ?_⟩
      refine ⟨false, T.any (i := 6) (by decide) [3, 4] (by decide), (fun z => nomatch z), fun _ => ?_⟩
      refine ⟨false, T.any (i := 6) (by decide) [9] (by decide), (fun z => nomatch z), fun _ => ?_⟩
      refine ⟨false, T.any (i := 6) (by decide) [11, 12, 14, 18, 23] (by decide), (fun z => nomatch z), fun _ => ?_⟩
      refine ⟨false, T.any (i := 6) (by decide) [13, 24] (by decide), (fun z => nomatch z), fun _ => ?_⟩
      refine ⟨false, T.any (i := 6) (by decide) [16] (by decide), (fun z => nomatch z), fun _ => ?_⟩
      refine ⟨false, T.any (i := 6) (by decide) [25] (by decide), (fun z => nomatch z), fun _ => ?_⟩
      refine ⟨true, T.any (i := 6) (by decide) [5, 6, 7, 10, 15, 17, 21] (by decide), fun _ a ha => ?_, (fun z => nomatch z)⟩
      exact ⟨.ref a, at1 a, cm 6, dd, _, _, rfl, rfl, T.xf 6 (by decide), T.nw 6 (by decide) _ (by decide), rfl, hx, rfl, by show _ ≤ sizeLine; rw [sizeLine_eq]; simp, hq⟩
    | 7, _ =>
      obtain rfl := ws_0 hl
      refine ⟨false, T.any (i := 7) (by decide) [0, 1, 8, 19, 20, 22] (by decide), (fun z => nomatch z), fun _ => ?_⟩
      refine ⟨false, T.any (i := 7) (by decide) [2] (by decide), (fun z => nomatch z), fun _ => ?_⟩
      refine ⟨false, T.any (i := 7) (by decide) [3, 4] (by decide), (fun z => nomatch z), fun _ => ?_⟩
      refine ⟨false, T.any (i := 7) (by decide) [9] (by decide), (fun z => nomatch z), fun _ => ?_⟩
      refine ⟨false, T.any (i := 7) (by decide) [11, 12, 14, 18, 23] (by decide), (fun z => nomatch z), fun _ => ?_⟩
      refine ⟨false, T.any (i := 7) (by decide) [13, 24] (by decide), (fun z => nomatch z), fun _ => ?_⟩
      refine ⟨false, T.any (i := 7) (by decide) [16] (by decide), (fun z => nomatch z), fun _ => ?_⟩
      refine ⟨false, T.any (i := 7) (by decide) [25] (by decide), (fun z => nomatch z), fun _ => ?_⟩
      refine ⟨true, T.any (i := 7) (by decide) [5, 6, 7, 10, 15, 17, 21] (by decide), fun _ a ha => ?_, (fun z => nomatch z)⟩
      exact ⟨.ref a, at1 a, cm 7, dd, _, _, rfl, rfl, T.xf 7 (by decide), T.nw 7 (by decide) _ (by decide), rfl, hx, rfl, by show _ ≤ sizeLine; rw [sizeLine_eq]; simp, hq⟩
    | 8, _ =>
      obtain ⟨y0, rfl⟩ := ws_1 hl
      refine ⟨true, T.any (i := 8) (by decide) [0, 1, 8, 19, 20, 22] (by decide), fun _ a ha => ?_, (fun z => nomatch z)⟩
      exact ⟨.ref a, at1 a, cm 8, dd, _, _, rfl, rfl, T.xf 8 (by decide), T.nw 8 (by decide) _ (by decide), rfl, hx, rfl, .ref a, at1 a, cm 8, dd, _, _, rfl, rfl, T.xf 8 (by decide), T.nw 8 (by decide) _ (by decide), rfl, hx, rfl, by show _ ≤ sizeLine; rw [sizeLine_eq]; simp, hq⟩
    | 9, _ =>
      obtain ⟨y0, rfl⟩ := ws_1 hl
      refine ⟨false, T.any (i := 9) (by decide) [0, 1, 8, 19, 20, 22] (by decide), (fun z => nomatch z), fun _ => ?_⟩
      refine ⟨false, T.any (i := 9) (by decide) [2] (by decide), (fun z => nomatch z), fun _ => ?_⟩
      refine ⟨false, T.any (i := 9) (by decide) [3, 4] (by decide), (fun z => nomatch z), fun _ => ?_⟩
      refine ⟨true, T.any (i := 9) (by decide) [9] (by decide), fun _ a ha => ?_, (fun z => nomatch z)⟩
      exact ⟨.ref a, at1 a, cm 9, dd, _, _, rfl, rfl, T.xf 9 (by decide), T.nw 9 (by decide) _ (by decide), rfl, hx, rfl, .ref a, at1 a, cm 9, dd, _, _, rfl, rfl, T.xf 9 (by decide), T.nw 9 (by decide) _ (by decide), rfl, hx, rfl, by show _ ≤ sizeLine; rw [sizeLine_eq]; simp, hq⟩
    | 10, _ =>
      obtain rfl := ws_0 hl
      refine ⟨false, T.any (i := 10) (by decide) [0, 1, 8, 19, 20, 22] (by decide), (fun z => nomatch z), fun _ => ?_⟩
      refine ⟨false, T.any (i := 10) (by decide) [2] (by decide), (fun z => nomatch z), fun _ => ?_⟩
      refine ⟨false, T.any (i := 10) (by decide) [3, 4] (by decide), (fun z => nomatch z), fun _ => ?_⟩
      refine ⟨false, T.any (i := 10) (by decide) [9] (by decide), (fun z => nomatch z), fun _ => ?_⟩
      refine ⟨false, T.any (i := 10) (by decide) [11, 12, 14, 18, 23] (by decide), (fun z => nomatch z), fun _ => ?_⟩
      refine ⟨false, T.any (i := 10) (by decide) [13, 24] (by decide), (fun z => nomatch z), fun _ => ?_⟩
      refine ⟨false, T.any (i := 10) (by decide) [16] (by decide), (fun z => nomatch z), fun _ => ?_⟩
      refine ⟨false, T.any (i := 10) (by decide) [25] (by decide), (fun z => nomatch z), fun _ => ?_⟩
      refine ⟨true, T.any (i := 10) (by decide) [5, 6, 7, 10, 15, 17, 21] (by decide), fun _ a ha => ?_, (fun z => nomatch z)⟩
      exact ⟨.ref a, at1 a, cm 10, dd, _, _, rfl, rfl, T.xf 10 (by decide), T.nw 10 (by decide) _ (by decide), rfl, hx, rfl, by show _ ≤ sizeLine; rw [sizeLine_eq]; simp, hq⟩
    | 11, _ =>
      obtain ⟨y0, rfl⟩ := ws_1 hl
      refine ⟨false, T.any (i := 11) (by decide) [0, 1, 8, 19, 20, 22] (by decide), (fun z => nomatch z), fun _ => ?_⟩
      refine ⟨false, T.any (i := 11) (by decide) [2] (by decide), (fun z => nomatch z), fun _ => ?_⟩
      refine ⟨false, T.any (i := 11) (by decide) [3, 4] (by decide), (fun z => nomatch z), fun _ => ?_⟩
      refine ⟨false, T.any (i := 11) (by decide) [9] (by decide), (fun z => nomatch z), fun _ => ?_⟩
      refine ⟨true, T.any (i := 11) (by decide) [11, 12, 14, 18, 23] (by decide), fun _ a ha => ?_, (fun z => nomatch z)⟩
      exact ⟨.ref a, at1 a, cm 11, dd, _, _, rfl, rfl, T.xf 11 (by decide), T.nw 11 (by decide) _ (by decide), rfl, hx, rfl, .ref a, at1 a, cm 11, dd, _, _, rfl, rfl, T.xf 11 (by decide), T.nw 11 (by decide) _ (by decide), rfl, hx, rfl, by show _ ≤ sizeLine; rw [sizeLine_eq]; simp, hq⟩
    | 12, _ =>
      obtain ⟨y0, rfl⟩ := ws_1 hl
      refine ⟨false, T.any (i := 12) (by decide) [0, 1, 8, 19, 20, 22] (by decide), (fun z => nomatch z), fun _ => ?_⟩
      refine ⟨false, T.any (i := 12) (by decide) [2] (by decide), (fun z => nomatch z), fun _ => ?_⟩
      refine ⟨false, T.any (i := 12) (by decide) [3, 4] (by decide), (fun z => nomatch z), fun _ => ?_⟩
      refine ⟨false, T.any (i := 12) (by decide) [9] (by decide), (fun z => nomatch z), fun _ => ?_⟩
      refine ⟨true, T.any (i := 12) (by decide) [11, 12, 14, 18, 23] (by decide), fun _ a ha => ?_, (fun z => nomatch z)⟩
      exact ⟨.ref a, at1 a, cm 12, dd, _, _, rfl, rfl, T.xf 12 (by decide), T.nw 12 (by decide) _ (by decide), rfl, hx, rfl, .ref a, at1 a, cm 12, dd, _, _, rfl, rfl, T.xf 12 (by decide), T.nw 12 (by decide) _ (by decide), rfl, hx, rfl, by show _ ≤ sizeLine; rw [sizeLine_eq]; simp, hq⟩
    | 13, _ =>
      obtain ⟨y0, rfl⟩ := ws_1 hl
      refine ⟨false, T.any (i := 13) (by decide) [0, 1, 8, 19, 20, 22] (by decide), (fun z => nomatch z), fun _ => ?_⟩
      refine ⟨false, T.any (i := 13) (by decide) [2] (by decide), (fun z => nomatch z), fun _ => ?_⟩
      refine ⟨false, T.any (i := 13) (by decide) [3, 4] (by decide), (fun z => nomatch z), fun _ => ?_⟩
      refine ⟨false, T.any (i := 13) (by decide) [9] (by decide), (fun z => nomatch z), fun _ => ?_⟩
      refine ⟨false, T.any (i := 13) (by decide) [11, 12, 14, 18, 23] (by decide), (fun z => nomatch z), fun _ => ?_⟩
      refine ⟨true, T.any (i := 13) (by decide) [13, 24] (by decide), fun _ a ha => ?_, (fun z => nomatch z)⟩
      exact ⟨.ref a, at1 a, cm 13, dd, _, _, rfl, rfl, T.xf 13 (by decide), T.nw 13 (by decide) _ (by decide), rfl, hx, rfl, .ref a, at1 a, cm 13, dd, _, _, rfl, rfl, T.xf 13 (by decide), T.nw 13 (by decide) _ (by decide), rfl, hx, rfl, by show _ ≤ sizeLine; rw [sizeLine_eq]; simp, hq⟩
    | 14, _ =>
      obtain ⟨y0, rfl⟩ := ws_1 hl
      refine ⟨false, T.any (i := 14) (by decide) [0, 1, 8, 19, 20, 22] (by decide), (fun z => nomatch z), fun _ => ?_⟩
      refine ⟨false, T.any (i := 14) (by decide) [2] (by decide), (fun z => nomatch z), fun _ => ?_⟩
      refine ⟨false, T.any (i := 14) (by decide) [3, 4] (by decide), (fun z => nomatch z), fun _ => ?_⟩
      refine ⟨false, T.any (i := 14) (by decide) [9] (by decide), (fun z => nomatch z), fun _ => ?_⟩
      refine ⟨true, T.any (i := 14) (by decide) [11, 12, 14, 18, 23] (by decide), fun _ a ha => ?_, (fun z => nomatch z)⟩
      exact ⟨.ref a, at1 a, cm 14, dd, _, _, rfl, rfl, T.xf 14 (by decide), T.nw 14 (by decide) _ (by decide), rfl, hx, rfl, .ref a, at1 a, cm 14, dd, _, _, rfl, rfl, T.xf 14 (by decide), T.nw 14 (by decide) _ (by decide), rfl, hx, rfl, by show _ ≤ sizeLine; rw [sizeLine_eq]; simp, hq⟩
    | 15, _ =>
      obtain rfl := ws_0 hl
      refine ⟨false, T.any (i := 15) (by decide) [0, 1, 8, 19, 20, 22] (by decide), (fun z => nomatch z), fun _ => ?_⟩
      refine ⟨false, T.any (i := 15) (by decide) [2] (by decide), (fun z => nomatch z), fun _ => ?_⟩
      refine ⟨false, T.any (i := 15) (by decide) [3, 4] (by decide), (fun z => nomatch z), fun _ => ?_⟩
      refine ⟨false, T.any (i := 15) (by decide) [9] (by decide), (fun z => nomatch z), fun _ => ?_⟩
      refine ⟨false, T.any (i := 15) (by decide) [11, 12, 14, 18, 23] (by decide), (fun z => nomatch z), fun _ => ?_⟩
      refine ⟨false, T.any (i := 15) (by decide) [13, 24] (by decide), (fun z => nomatch z), fun _ => ?_⟩
      refine ⟨false, T.any (i := 15) (by decide) [16] (by decide), (fun z => nomatch z), fun _ => ?_⟩
      refine ⟨false, T.any (i := 15) (by decide) [25] (by decide), (fun z => nomatch z), fun _ => ?_⟩
      refine ⟨true, T.any (i := 15) (by decide) [5, 6, 7, 10, 15, 17, 21] (by decide), fun _ a ha => ?_, (fun z => nomatch z)⟩
      exact ⟨.ref a, at1 a, cm 15, dd, _, _, rfl, rfl, T.xf 15 (by decide), T.nw 15 (by decide) _ (by decide), rfl, hx, rfl, by show _ ≤ sizeLine; rw [sizeLine_eq]; simp, hq⟩
    | 16, _ =>
      obtain ⟨y0, rfl⟩ := ws_1 hl
      refine ⟨false, T.any (i := 16) (by decide) [0, 1, 8, 19, 20, 22] (by decide), (fun z => nomatch z), fun _ => ?_⟩
      refine ⟨false, T.any (i := 16) (by decide) [2] (by decide), (fun z => nomatch z), fun _ => ?_⟩
      refine ⟨false, T.any (i := 16) (by decide) [3, 4] (by decide), (fun z => nomatch z), fun _ => ?_⟩
      refine ⟨false, T.any (i := 16) (by decide) [9] (by decide), (fun z => nomatch z), fun _ => ?_⟩
      refine ⟨false, T.any (i := 16) (by decide) [11, 12, 14, 18, 23] (by decide), (fun z => nomatch z), fun _ => ?_⟩
      refine ⟨false, T.any (i := 16) (by decide) [13, 24] (by decide), (fun z => nomatch z), fun _ => ?_⟩
      refine ⟨true, T.any (i := 16) (by decide) [16] (by decide), fun _ a ha => ?_, (fun z => nomatch z)⟩
      exact ⟨.ref a, at1 a, cm 16, dd, _, _, rfl, rfl, T.xf 16 (by decide), T.nw 16 (by decide) _ (by decide), rfl, hx, rfl, .ref a, at1 a, cm 16, dd, _, _, rfl, rfl, T.xf 16 (by decide), T.nw 16 (by decide) _ (by decide), rfl, hx, rfl, by show _ ≤ sizeLine; rw [sizeLine_eq]; simp, hq⟩
    | 17, _ =>
      obtain rfl := ws_0 hl
      refine ⟨false, T.any (i := 17) (by decide) [0, 1, 8, 19, 20, 22] (by decide), (fun z => nomatch z), fun _ => ?_⟩
      refine ⟨false, T.any (i := 17) (by decide) [2] (by decide), (fun z => nomatch z), fun _ => ?_⟩
      refine ⟨false, T.any (i := 17) (by decide) [3, 4] (by decide), (fun z => nomatch z), fun _ => ?_⟩
      refine ⟨false, T.any (i := 17) (by decide) [9] (by decide), (fun z => nomatch z), fun _ => ?_⟩
      refine ⟨false, T.any (i := 17) (by decide) [11, 12, 14, 18, 23] (by decide), (fun z => nomatch z), fun _ => ?_⟩
      refine ⟨false, T.any (i := 17) (by decide) [13, 24] (by decide), (fun z => nomatch z), fun _ => ?_⟩
      refine ⟨false, T.any (i := 17) (by decide) [16] (by decide), (fun z => nomatch z), fun _ => ?_⟩
      refine ⟨false, T.any (i := 17) (by decide) [25] (by decide), (fun z => nomatch z), fun _ => ?_⟩
      refine ⟨true, T.any (i := 17) (by decide) [5, 6, 7, 10, 15, 17, 21] (by decide), fun _ a ha => ?_, (fun z => nomatch z)⟩
      exact ⟨.ref a, at1 a, cm 17, dd, _, _, rfl, rfl, T.xf 17 (by decide), T.nw 17 (by decide) _ (by decide), rfl, hx, rfl, by show _ ≤ sizeLine; rw [sizeLine_eq]; simp, hq⟩
    | 18, _ =>
      obtain ⟨y0, rfl⟩ := ws_1 hl
      refine ⟨false, T.any (i := 18) (by decide) [0, 1, 8, 19, 20, 22] (by decide), (fun z => nomatch z), fun _ => ?_⟩
      refine ⟨false, T.any (i := 18) (by decide) [2] (by decide), (fun z => nomatch z), fun _ => ?_⟩
      refine ⟨false, T.any (i := 18) (by decide) [3, 4] (by decide), (fun z => nomatch z), fun _ => ?_⟩
      refine ⟨false, T.any (i := 18) (by decide) [9] (by decide), (fun z => nomatch z), fun _ => ?_⟩
      refine ⟨true, T.any (i := 18) (by decide) [11, 12, 14, 18, 23] (by decide), fun _ a ha => ?_, (fun z => nomatch z)⟩
      exact ⟨.ref a, at1 a, cm 18, dd, _, _, rfl, rfl, T.xf 18 (by decide), T.nw 18 (by decide) _ (by decide), rfl, hx, rfl, .ref a, at1 a, cm 18, dd, _, _, rfl, rfl, T.xf 18 (by decide), T.nw 18 (by decide) _ (by decide), rfl, hx, rfl, by show _ ≤ sizeLine; rw [sizeLine_eq]; simp, hq⟩
    | 19, _ =>
      obtain ⟨y0, rfl⟩ := ws_1 hl
      refine ⟨true, T.any (i := 19) (by decide) [0, 1, 8, 19, 20, 22] (by decide), fun _ a ha => ?_, (fun z => nomatch z)⟩
      exact ⟨.ref a, at1 a, cm 19, dd, _, _, rfl, rfl, T.xf 19 (by decide), T.nw 19 (by decide) _ (by decide), rfl, hx, rfl, .ref a, at1 a, cm 19, dd, _, _, rfl, rfl, T.xf 19 (by decide), T.nw 19 (by decide) _ (by decide), rfl, hx, rfl, by show _ ≤ sizeLine; rw [sizeLine_eq]; simp, hq⟩
    | 20, _ =>
      obtain ⟨y0, rfl⟩ := ws_1 hl
      refine ⟨true, T.any (i := 20) (by decide) [0, 1, 8, 19, 20, 22] (by decide), fun _ a ha => ?_, (fun z => nomatch z)⟩
      exact ⟨.ref a, at1 a, cm 20, dd, _, _, rfl, rfl, T.xf 20 (by decide), T.nw 20 (by decide) _ (by decide), rfl, hx, rfl, .ref a, at1 a, cm 20, dd, _, _, rfl, rfl, T.xf 20 (by decide), T.nw 20 (by decide) _ (by decide), rfl, hx, rfl, by show _ ≤ sizeLine; rw [sizeLine_eq]; simp, hq⟩
    | 21, _ =>
      obtain rfl := ws_0 hl
      refine ⟨false, T.any (i := 21) (by decide) [0, 1, 8, 19, 20, 22] (by decide), (fun z => nomatch z), fun _ => ?_⟩
      refine ⟨false, T.any (i := 21) (by decide) [2] (by decide), (fun z => nomatch z), fun _ => ?_⟩
      refine ⟨false, T.any (i := 21) (by decide) [3, 4] (by decide), (fun z => nomatch z), fun _ => ?_⟩
      refine ⟨false, T.any (i := 21) (by decide) [9] (by decide), (fun z => nomatch z), fun _ => ?_⟩
      refine ⟨false, T.any (i := 21) (by decide) [11, 12, 14, 18, 23] (by decide), (fun z => nomatch z), fun _ => ?_⟩
      refine ⟨false, T.any (i := 21) (by decide) [13, 24] (by decide), (fun z => nomatch z), fun _ => ?_⟩
      refine ⟨false, T.any (i := 21) (by decide) [16] (by decide), (fun z => nomatch z), fun _ => ?_⟩
      refine ⟨false, T.any (i := 21) (by decide) [25] (by decide), (fun z => nomatch z), fun _ => ?_⟩
      refine ⟨true, T.any (i := 21) (by decide) [5, 6, 7, 10, 15, 17, 21] (by decide), fun _ a ha => ?_, (fun z => nomatch z)⟩
      exact ⟨.ref a, at1 a, cm 21, dd, _, _, rfl, rfl, T.xf 21 (by decide), T.nw 21 (by decide) _ (by decide), rfl, hx, rfl, by show _ ≤ sizeLine; rw [sizeLine_eq]; simp, hq⟩
    | 22, _ =>
      obtain ⟨y0, rfl⟩ := ws_1 hl
      refine ⟨true, T.any (i := 22) (by decide) [0, 1, 8, 19, 20, 22] (by decide), fun _ a ha => ?_, (fun z => nomatch z)⟩
      exact ⟨.ref a, at1 a, cm 22, dd, _, _, rfl, rfl, T.xf 22 (by decide), T.nw 22 (by decide) _ (by decide), rfl, hx, rfl, .ref a, at1 a, cm 22, dd, _, _, rfl, rfl, T.xf 22 (by decide), T.nw 22 (by decide) _ (by decide), rfl, hx, rfl, by show _ ≤ sizeLine; rw [sizeLine_eq]; simp, hq⟩
    | 23, _ =>
      obtain ⟨y0, rfl⟩ := ws_1 hl
      refine ⟨false, T.any (i := 23) (by decide) [0, 1, 8, 19, 20, 22] (by decide), (fun z => nomatch z), fun _ => ?_⟩
      refine ⟨false, T.any (i := 23) (by decide) [2] (by decide), (fun z => nomatch z), fun _ => ?_⟩
      refine ⟨false, T.any (i := 23) (by decide) [3, 4] (by decide), (fun z => nomatch z), fun _ => ?_⟩
      refine ⟨false, T.any (i := 23) (by decide) [9] (by decide), (fun z => nomatch z), fun _ => ?_⟩
      refine ⟨true, T.any (i := 23) (by decide) [11, 12, 14, 18, 23] (by decide), fun _ a ha => ?_, (fun z => nomatch z)⟩
      exact ⟨.ref a, at1 a, cm 23, dd, _, _, rfl, rfl, T.xf 23 (by decide), T.nw 23 (by decide) _ (by decide), rfl, hx, rfl, .ref a, at1 a, cm 23, dd, _, _, rfl, rfl, T.xf 23 (by decide), T.nw 23 (by decide) _ (by decide), rfl, hx, rfl, by show _ ≤ sizeLine; rw [sizeLine_eq]; simp, hq⟩
    | 24, _ =>
      obtain ⟨y0, rfl⟩ := ws_1 hl
      refine ⟨false, T.any (i := 24) (by decide) [0, 1, 8, 19, 20, 22] (by decide), (fun z => nomatch z), fun _ => ?_⟩
      refine ⟨false, T.any (i := 24) (by decide) [2] (by decide), (fun z => nomatch z), fun _ => ?_⟩
      refine ⟨false, T.any (i := 24) (by decide) [3, 4] (by decide), (fun z => nomatch z), fun _ => ?_⟩
      refine ⟨false, T.any (i := 24) (by decide) [9] (by decide), (fun z => nomatch z), fun _ => ?_⟩
      refine ⟨false, T.any (i := 24) (by decide) [11, 12, 14, 18, 23] (by decide), (fun z => nomatch z), fun _ => ?_⟩
      refine ⟨true, T.any (i := 24) (by decide) [13, 24] (by decide), fun _ a ha => ?_, (fun z => nomatch z)⟩
      exact ⟨.ref a, at1 a, cm 24, dd, _, _, rfl, rfl, T.xf 24 (by decide), T.nw 24 (by decide) _ (by decide), rfl, hx, rfl, .ref a, at1 a, cm 24, dd, _, _, rfl, rfl, T.xf 24 (by decide), T.nw 24 (by decide) _ (by decide), rfl, hx, rfl, by show _ ≤ sizeLine; rw [sizeLine_eq]; simp, hq⟩
    | 25, _ =>
      obtain ⟨y0, rfl⟩ := ws_1 hl
      refine ⟨false, T.any (i := 25) (by decide) [0, 1, 8, 19, 20, 22] (by decide), (fun z => nomatch z), fun _ => ?_⟩
      refine ⟨false, T.any (i := 25) (by decide) [2] (by decide), (fun z => nomatch z), fun _ => ?_⟩
      refine ⟨false, T.any (i := 25) (by decide) [3, 4] (by decide), (fun z => nomatch z), fun _ => ?_⟩
      refine ⟨false, T.any (i := 25) (by decide) [9] (by decide), (fun z => nomatch z), fun _ => ?_⟩
      refine ⟨false, T.any (i := 25) (by decide) [11, 12, 14, 18, 23] (by decide), (fun z => nomatch z), fun _ => ?_⟩
      refine ⟨false, T.any (i := 25) (by decide) [13, 24] (by decide), (fun z => nomatch z), fun _ => ?_⟩
      refine ⟨false, T.any (i := 25) (by decide) [16] (by decide), (fun z => nomatch z), fun _ => ?_⟩
      refine ⟨true, T.any (i := 25) (by decide) [25] (by decide), fun _ a ha => ?_, (fun z => nomatch z)⟩
      exact ⟨.ref a, at1 a, cm 25, dd, _, _, rfl, rfl, T.xf 25 (by decide), T.nw 25 (by decide) _ (by decide), rfl, hx, rfl, .ref a, at1 a, cm 25, dd, _, _, rfl, rfl, T.xf 25 (by decide), T.nw 25 (by decide) _ (by decide), rfl, hx, rfl, by show _ ≤ sizeLine; rw [sizeLine_eq]; simp, hq⟩
    | 26, _ =>
      obtain rfl := ws_0 hl
      refine ⟨false, T.any (i := 26) (by decide) [0, 1, 8, 19, 20, 22] (by decide), (fun z => nomatch z), fun _ => ?_⟩
      refine ⟨false, T.any (i := 26) (by decide) [2] (by decide), (fun z => nomatch z), fun _ => ?_⟩
      refine ⟨false, T.any (i := 26) (by decide) [3, 4] (by decide), (fun z => nomatch z), fun _ => ?_⟩
      refine ⟨false, T.any (i := 26) (by decide) [9] (by decide), (fun z => nomatch z), fun _ => ?_⟩
      refine ⟨false, T.any (i := 26) (by decide) [11, 12, 14, 18, 23] (by decide), (fun z => nomatch z), fun _ => ?_⟩
      refine ⟨false, T.any (i := 26) (by decide) [13, 24] (by decide), (fun z => nomatch z), fun _ => ?_⟩
      refine ⟨false, T.any (i := 26) (by decide) [16] (by decide), (fun z => nomatch z), fun _ => ?_⟩
      refine ⟨false, T.any (i := 26) (by decide) [25] (by decide), (fun z => nomatch z), fun _ => ?_⟩
      refine ⟨false, T.any (i := 26) (by decide) [5, 6, 7, 10, 15, 17, 21] (by decide), (fun z => nomatch z), fun _ => ?_⟩
      refine ⟨true, T.any (i := 26) (by decide) [26, 27] (by decide), fun _ a ha => ?_, (fun z => nomatch z)⟩
      exact ⟨.ref a, at1 a, cm 26, dd, _, _, rfl, rfl, T.xf 26 (by decide), T.nw 26 (by decide) _ (by decide), rfl, hx, rfl, by show _ ≤ sizeLine; rw [sizeLine_eq]; simp, hq⟩
    | 27, _ =>
      obtain rfl := ws_0 hl
      refine ⟨false, T.any (i := 27) (by decide) [0, 1, 8, 19, 20, 22] (by decide), (fun z => nomatch z), fun _ => ?_⟩
      refine ⟨false, T.any (i := 27) (by decide) [2] (by decide), (fun z => nomatch z), fun _ => ?_⟩
      refine ⟨false, T.any (i := 27) (by decide) [3, 4] (by decide), (fun z => nomatch z), fun _ => ?_⟩
      refine ⟨false, T.any (i := 27) (by decide) [9] (by decide), (fun z => nomatch z), fun _ => ?_⟩
      refine ⟨false, T.any (i := 27) (by decide) [11, 12, 14, 18, 23] (by decide), (fun z => nomatch z), fun _ => ?_⟩
      refine ⟨false, T.any (i := 27) (by decide) [13, 24] (by decide), (fun z => nomatch z), fun _ => ?_⟩
      refine ⟨false, T.any (i := 27) (by decide) [16] (by decide), (fun z => nomatch z), fun _ => ?_⟩
      refine ⟨false, T.any (i := 27) (by decide) [25] (by decide), (fun z => nomatch z), fun _ => ?_⟩
      refine ⟨false, T.any (i := 27) (by decide) [5, 6, 7, 10, 15, 17, 21] (by decide), (fun z => nomatch z), fun _ => ?_⟩
      refine ⟨true, T.any (i := 27) (by decide) [26, 27] (by decide), fun _ a ha => ?_, (fun z => nomatch z)⟩
      exact ⟨.ref a, at1 a, cm 27, dd, _, _, rfl, rfl, T.xf 27 (by decide), T.nw 27 (by decide) _ (by decide), rfl, hx, rfl, by show _ ≤ sizeLine; rw [sizeLine_eq]; simp, hq⟩
    | n + 28, hi => exact absurd hi (by omega)
/-! ### the 28 refusals by one Bool -/
def refsB (K : PySem.W.Frag) : Bool := frL (rNms.map (He.ga K)) fun cs => (List.range 28).all fun i => frN (cs.getD i 0) fun C => xfB K C && ((("word" : Str) :: rFl i).all fun f => He.eqO (PySem.W.findIn K (.ref C) f) (some none)) &&
  (List.range 28).all fun j => decide (PySem.W.exmOne K (.ref C) (.ref (cs.getD j 0)) = some (decide (i = j)))
theorem refsB_ok {K : PySem.W.Frag} {h : Heap} {mg : Str → Option Value} {fa : List He.Fa} {fn : List He.DefD} (X : K.In h) (G : h.Ns mainGlobals mg) (c : He.SaysD (rNms.map He.Fa.glo ++ fa) fn K) (hb : refsB K = true) : RefsT K mg (fun i => (rNms.map (He.ga K)).getD i 0) := by
  unfold refsB at hb
  rw [frL_eq] at hb
  have key : ∀ i, i < 28 → xfB K ((rNms.map (He.ga K)).getD i 0) = true ∧ ((("word" : Str) :: rFl i).all fun f => He.eqO (PySem.W.findIn K (.ref ((rNms.map (He.ga K)).getD i 0)) f) (some none)) = true ∧ ((List.range 28).all fun j => decide (PySem.W.exmOne K (.ref ((rNms.map (He.ga K)).getD i 0)) (.ref ((rNms.map (He.ga K)).getD j 0)) = some (decide (i = j)))) = true := fun i hi => by
    have z := List.all_eq_true.mp hb i (List.mem_range.mpr hi)
    rw [frN_eq] at z
    obtain ⟨z1, z2⟩ := Bool.and_eq_true_iff.mp z
    obtain ⟨z3, z4⟩ := Bool.and_eq_true_iff.mp z1
    exact ⟨z3, z4, z2⟩
  refine ⟨fun i hi => ?_, fun i hi => xfB_ok (key i hi).1, fun i hi f hf => He.eqO_ok (List.all_eq_true.mp (key i hi).2.1 f hf), fun i j hi hj => of_decide_eq_true (List.all_eq_true.mp (key i hi).2.2 j (List.mem_range.mpr hj))⟩
  have hl : i < rNms.length := hi
  have e1 : rNm i = rNms[i] := by
    unfold rNm
    rw [List.getD_eq_getElem?_getD, List.getElem?_eq_getElem hl]
    rfl
  have e2 : (rNms.map (He.ga K)).getD i 0 = He.ga K (rNm i) := by
    rw [e1, List.getD_eq_getElem?_getD, List.getElem?_map, List.getElem?_eq_getElem hl]
    rfl
  rw [e2]
  refine He.glo_ok X G (c.facts (f := .glo (rNm i)) (List.mem_append_left _ (List.mem_map.mpr ⟨rNm i, ?_, rfl⟩)))
  rw [e1]
  exact List.getElem_mem hl
/-! ### figures on the heap -/
def All2 {α : Type} (R : V → α → Prop) : List V → List α → Prop
  | [], [] => True
  | v :: vs, a :: as => R v a ∧ All2 R vs as
  | _, _ => False
theorem All2.len {α : Type} {R : V → α → Prop} : ∀ {xs : List V} {as : List α}, All2 R xs as → xs.length = as.length
  | [], [], _ => rfl
  | _ :: _, _ :: _, h => congrArg Nat.succ (All2.len h.2)
  | [], _ :: _, h => h.elim
  | _ :: _, [], h => h.elim
theorem All2.get {α : Type} {R : V → α → Prop} : ∀ {xs : List V} {as : List α} {i : Nat} {x : V}, All2 R xs as → xs[i]? = some x → ∃ a, as[i]? = some a ∧ R x a
  | [], [], i, x, _, e => by simp at e
  | v :: vs, a :: as, 0, x, h, e => ⟨a, rfl, by rw [← Option.some.inj e]; exact h.1⟩
  | v :: vs, a :: as, i + 1, x, h, e => All2.get (xs := vs) (as := as) (i := i) h.2 e
  | [], _ :: _, _, _, h, _ => h.elim
  | _ :: _, [], _, _, h, _ => h.elim
theorem All2.at {α : Type} {R : V → α → Prop} : ∀ {xs : List V} {as : List α} {i : Nat} {a : α}, All2 R xs as → as[i]? = some a → ∃ x, xs[i]? = some x ∧ R x a
  | [], [], i, x, _, e => by simp at e
  | v :: vs, a :: as, 0, x, h, e => ⟨v, rfl, by rw [← Option.some.inj e]; exact h.1⟩
  | v :: vs, a :: as, i + 1, x, h, e => All2.at (xs := vs) (as := as) (i := i) h.2 e
  | [], _ :: _, _, _, h, _ => h.elim
  | _ :: _, [], _, _, h, _ => h.elim
theorem All2.mono {α : Type} {R S : V → α → Prop} (f : ∀ x a, R x a → S x a) : ∀ {xs : List V} {as : List α}, All2 R xs as → All2 S xs as
  | [], [], _ => True.intro
  | _ :: _, _ :: _, h => ⟨f _ _ h.1, All2.mono f h.2⟩
  | [], _ :: _, h => h.elim
  | _ :: _, [], h => h.elim
theorem All2.snoc {α : Type} {R : V → α → Prop} {x : V} {a : α} (r : R x a) : ∀ {xs : List V} {as : List α}, All2 R xs as → All2 R (xs ++ [x]) (as ++ [a])
  | [], [], _ => ⟨r, True.intro⟩
  | _ :: _, _ :: _, h => ⟨h.1, All2.snoc r h.2⟩
  | [], _ :: _, h => h.elim
  | _ :: _, [], h => h.elim
abbrev Tri := Int × Int × Int
def triV (t : Tri) : List V := [.int t.1, .int t.2.1, .int t.2.2]
def TriAt (K : PySem.W.Frag) (H : Hp) (v : V) (t : Tri) : Prop := ∃ a, v = .ref a ∧ SqT K H a (triV t)
def FigT (K : PySem.W.Frag) (H : Hp) (v : V) (f : List Tri) : Prop := ∃ a xs, v = .ref a ∧ SqT K H a xs ∧ All2 (TriAt K H) xs f
/-- tuples stay -/
def TS (K : PySem.W.Frag) (H H' : Hp) : Prop := ∀ a xs, SqT K H a xs → SqT K H' a xs
theorem TS.refl {K : PySem.W.Frag} {H : Hp} : TS K H H := fun _ _ h => h
theorem TS.trans {K : PySem.W.Frag} {H H1 H2 : Hp} (x : TS K H H1) (y : TS K H1 H2) : TS K H H2 := fun a xs h => y a xs (x a xs h)
theorem TS.of {K : PySem.W.Frag} {H H' : Hp} (e : Same H H') : TS K H H' := fun a xs h => Same.tup e h
theorem TS.but {K : PySem.W.Frag} {H H' : Hp} {b : Addr} {ys : List V} (e : Off b H H') (hb : H b = some (.lst ys)) : TS K H H' := fun a xs h => by
  rcases h with (h | ⟨o, h⟩) | h
  · exact .inl (.inl (e _ _ (fun z => by rw [z, hb] at h; cases h) h))
  · exact .inl (.inr ⟨o, e _ _ (fun z => by rw [z, hb] at h; cases h) h⟩)
  · exact .inr h
theorem TS.bag {K : PySem.W.Frag} {H H' : Hp} {b c : Addr} (e : Off b H H') (h : Bag H b c) : TS K H H' := by
  obtain ⟨cells, a, r, s, h1, _⟩ := h.ex
  exact TS.but e h1
theorem TS.upd {K : PySem.W.Frag} {H : Hp} {D : Addr} {ys : List V} {o : HO} (hD : H D = some (.lst ys)) : TS K H (upd H D o) := TS.but Off.upd hD
theorem TriAt.ts {K : PySem.W.Frag} {H H' : Hp} (e : TS K H H') {v : V} {t : Tri} (h : TriAt K H v t) : TriAt K H' v t := by
  obtain ⟨a, h1, h2⟩ := h
  exact ⟨a, h1, e _ _ h2⟩
theorem FigT.ts {K : PySem.W.Frag} {H H' : Hp} (e : TS K H H') {v : V} {f : List Tri} (h : FigT K H v f) : FigT K H' v f := by
  obtain ⟨a, xs, h1, h2, h3⟩ := h
  exact ⟨a, xs, h1, e _ _ h2, h3.mono fun _ _ => TriAt.ts e⟩
theorem Off.new {b D : Addr} {H H' : Hp} {o : HO} (e : Off b H H') (n : H D = none) : Off b H (L2.upd H' D o) := fun a x h q => by
  rw [upd_ne (ne_of_none q n)]
  exact e a x h q
/-- what a book asks of a figure -/
structure GoodT (cs : List Int) (t : Tri) : Prop where
  p0 : 0 ≤ t.1
  p1 : t.1 < cs.length
  n0 : 0 ≤ t.2.1
  n1 : t.2.1 < cs.getD t.1.toNat 0
  d0 : 1 ≤ t.2.2
  d1 : t.2.2 ≤ 3
structure GoodF (cs : List Int) (f : List Tri) : Prop where
  ne : f ≠ []
  all : ∀ t ∈ f, GoodT cs t
  up : (f.map (·.1)).Pairwise (· < ·)
theorem rise_len : ∀ {l : List Int} {lo hi : Int}, l.Pairwise (· < ·) → (∀ x ∈ l, lo ≤ x ∧ x < hi) → lo ≤ hi → (l.length : Int) ≤ hi - lo
  | [], lo, hi, _, _, h => by
    show (0 : Int) ≤ _
    omega
  | x :: l, lo, hi, p, a, h => by
    have hx := a x List.mem_cons_self
    have p2 := List.pairwise_cons.mp p
    have := rise_len (l := l) (lo := x + 1) (hi := hi) p2.2 (fun y hy => ⟨by have := p2.1 y hy; omega, (a y (List.mem_cons_of_mem _ hy)).2⟩) (by omega)
    rw [List.length_cons]
    omega
theorem GoodF.len {cs : List Int} {f : List Tri} (h : GoodF cs f) : f.length ≤ cs.length := by
  have := rise_len (lo := 0) (hi := cs.length) h.up (fun x hx => by
    obtain ⟨t, ht, rfl⟩ := List.mem_map.mp hx
    exact ⟨(h.all t ht).p0, (h.all t ht).p1⟩) (by omega)
  rw [List.length_map] at this
  omega
theorem tri_data {K : PySem.W.Frag} {H : Hp} : ∀ {xs : List V} {fg : List Tri}, All2 (TriAt K H) xs fg → ∃ ds : List PyData, DpAll K H xs ds ∧ SeqAt.shaped (.list ds) = true ∧ PyData.eqv (.list ds) (.list []) = decide (fg = []) := by
  intro xs fg h
  refine ⟨fg.map fun t => .tuple [.int t.1, .int t.2.1, .int t.2.2], ?_, ?_, ?_⟩
  · induction fg generalizing xs with
    | nil =>
      cases xs with
      | nil => exact .nil
      | cons _ _ => exact h.elim
    | cons t r ih =>
      cases xs with
      | nil => exact h.elim
      | cons x l =>
        obtain ⟨a, e, ha⟩ := h.1
        subst e
        exact .cons (.tup ha (.cons (.int _) (.cons (.int _) (.cons (.int _) .nil)))) (ih h.2)
  · have h1 : ∀ l : List Tri, PyData.canLayAll0 (l.map fun t => .tuple [.int t.1, .int t.2.1, .int t.2.2]) = true := fun l => by
      induction l with
      | nil => rfl
      | cons t r ih => simp [PyData.canLayAll0, PyData.canLay0, ih]
    have h2 : ∀ l : List Tri, PyData.depthAll (l.map fun t => .tuple [.int t.1, .int t.2.1, .int t.2.2]) ≤ 1 := fun l => by
      induction l with
      | nil => simp [PyData.depthAll]
      | cons t r ih =>
        simp only [List.map_cons, PyData.depthAll, PyData.depth]
        omega
    have h3 := h1 fg
    have h4 := h2 fg
    have h5 : PyData.depth (.list (fg.map fun t => .tuple [.int t.1, .int t.2.1, .int t.2.2])) ≤ 64 := by
      simp only [PyData.depth]
      omega
    show (PyData.canLay0 _ && decide (PyData.depth _ ≤ 64)) = true
    rw [Bool.and_eq_true]
    exact ⟨by simp only [PyData.canLay0]; exact h3, decide_eq_true h5⟩
  · cases fg with
    | nil => simp [PyData.eqv, PyData.eqvAll]
    | cons _ _ => simp [PyData.eqv, PyData.eqvAll]
/-! ### _law_hues -/
abbrev sHues : Stmt := topS 57
abbrev nHues : List Str := ["_law_bag_here", "_law_most", "_law_pad"]
theorem scHues : FnScope nHues ["_law_bag_here", "_law_most"] (defScope sHues) := ⟨rfl, rfl, rfl, by decide +kernel, rfl, by decide +kernel, by decide +kernel⟩
def spHues : Sp := fun vs H Q _ => ∃ (b c : Addr) (most : Nat), vs = [.ref b, .int (most : Nat)] ∧ Bag H b c ∧ 0 < most ∧ most ≤ 100 ∧
  ∀ (H' : Hp) (p : Addr) (cs : List Int), Off b H H' → Bag H' b c → H p = none → p ≠ b → H' p = some (.lst (cs.map V.int)) → 1 ≤ cs.length → cs.length ≤ most → (∀ x ∈ cs, (1 : Int) ≤ x ∧ x ≤ 4) → Q (.ref p) H'
section
variable {P : Program} {w : World} {K : PySem.W.Frag} {mg : Str → Option Value} {base : Heap}
theorem ok_hues {f fP fO : Addr} {fd fdP fdO : FuncData} {k : Nat} (F : Fun K "_law_hues" "_law_hues" sHues f fd) (mr : mg "range" = none)
    (FP : Fun K "_law_pull" "_law_pull" sPull fP fdP) (bP : Binds K fdP ["_law_bag_here", "_law_size"] []) (gP : mg "_law_pull" = some (.ref fP)) (GP : FnOk P w K mg base CX0 k fP fdP ["_law_bag_here", "_law_size"] spPull)
    (FO : Fun K "_law_of" "_law_of" sOf fO fdO) (bO : Binds K fdO ["_law_bag_here", "_law_things"] []) (gO : mg "_law_of" = some (.ref fO)) (GO : FnOk P w K mg base CX0 k fO fdO ["_law_bag_here", "_law_things"] spOf) :
    FnOk P w K mg base CX0 (k + 1) f fd ["_law_bag_here", "_law_most"] spHues := by
  refine F.ok scHues (fun vs H Q E h => ?_) (fun cdv A outer s H vs Q E hr h => ?_)
  · obtain ⟨b, c, most, rfl, _⟩ := h
    rfl
  · obtain ⟨b, c, most, rfl, hB, h0, h1, q⟩ := h
    refine ⟨_, pss_one (ps_ret (pe_lc (own := [("_law_pad", 2)]) (g := gName 2) (tt := tYes) rfl scHues.nd (pi_range1 (by rfl) mr (pa_cons (pe_op op_add pe_int (pe_call GP hr (by rfl) gP FP.kp bP .nil pass0 (pa_cons (pv 0) (pa_cons (pv 1) pa_nil)))) pa_nil))
      (blkOk_by (own := [("_law_pad", 2)]) (N := nHues) (sc := defScope sHues) (by decide +kernel)) (fun _ _ _ _ _ => pg_name (i := 2) scHues.nd rfl (Or.inl rfl)) (fun _ _ _ _ _ => pts_nil)
      (fun _ _ _ _ _ => pe_call GO hr (by rfl) gO FO.kp bO .nil pass0 (pa_cons (pv 0) (pa_cons (pe_lst (pa_cons pe_int (pa_cons pe_int (pa_cons pe_int (pa_cons pe_int (pa_cons pe_int pa_nil)))))) pa_nil))))), ?_⟩
    refine ⟨.ref b, rfl, .int (most : Nat), rfl, b, c, most, rfl, hB, by omega, ?_, fun H2 r off2 hB2 r0 r1 => ?_⟩
    · rw [Int.natAbs_natCast]
      exact Nat.lt_of_le_of_lt h1 (by decide)
    obtain ⟨n, rfl⟩ := Int.eq_ofNat_of_zero_le r0
    refine ⟨1, (n : Int), rfl, rfl, 1 + (n : Int), rfl, by omega, by omega, fun D nD => ?_⟩
    have hne := hB2.ne nD
    have hDH : H D = none := by
      cases e : H D with
      | none => rfl
      | some o =>
        rw [off2 D o hne.1 e] at nD
        cases nD
    refine lc_range (lo := 0) (n := (1 + (n : Int)).toNat) (fun i H' => Bag H' b c ∧ Off b H H' ∧ ∃ cs : List Int, cs.length = i ∧ H' D = some (.lst (cs.map V.int)) ∧ ∀ x ∈ cs, (1 : Int) ≤ x ∧ x ≤ 4) ⟨hB2.same (same_upd nD), off2.trans (Off.same (same_upd nD)), [], rfl, upd_same, fun x hx => by cases hx⟩ (fun i H' hi hP => ?_) (fun H' hP => ?_)
    · obtain ⟨hB4, off4, cs, hx, hD, hc⟩ := hP
      refine ⟨rfl, yesT ⟨.ref b, rfl, (show (5 : Nat) ≤ sizeLine by decide), fun t nt => ?_⟩⟩
      have u1 := same_upd (o := .lst [V.int 2, V.int 3, V.int 2, V.int 4, V.int 1]) nt
      refine ⟨b, c, t, _, rfl, hB4.same u1, upd_same, (hB4.ne nt).1, (show (0 : Nat) < 5 by decide), (show (5 : Nat) ≤ 1000 by decide), fun H5 v off5 hB5 hv => ?_⟩
      obtain ⟨x, rfl, hx1⟩ : ∃ x : Int, v = .int x ∧ 1 ≤ x ∧ x ≤ 4 := by
        simp only [List.mem_cons, List.not_mem_nil, or_false] at hv
        rcases hv with rfl | rfl | rfl | rfl | rfl
        · exact ⟨2, rfl, by decide⟩
        · exact ⟨3, rfl, by decide⟩
        · exact ⟨2, rfl, by decide⟩
        · exact ⟨4, rfl, by decide⟩
        · exact ⟨1, rfl, by decide⟩
      refine ⟨_, off5 _ _ hne.1 (u1 _ _ hD), ?_, hB5.upd hne, ((off4.trans (Off.same u1)).trans off5).new hDH, cs ++ [x], ?_, ?_, ?_⟩
      · rw [List.length_map]
        exact small1000 (by omega)
      · rw [List.length_append, hx]
        rfl
      · rw [upd_same, List.map_append]
        rfl
      · intro y hy
        rcases List.mem_append.mp hy with hy | hy
        · exact hc y hy
        · rw [List.mem_singleton.mp hy]
          exact hx1
    · obtain ⟨hB4, off4, cs, hx, hD, hc⟩ := hP
      exact q H' D cs off4 hB4 hDH hne.1 hD (by omega) (by omega) hc
end
/-! ### _law_shape -/
abbrev sShape : Stmt := topS 58
abbrev nShape : List Str := ["_law_bag_here", "_law_colours", "_law_found", "_law_pad"]
theorem scShape : FnScope nShape ["_law_bag_here", "_law_colours"] (defScope sShape) := ⟨rfl, rfl, rfl, by decide +kernel, rfl, by decide +kernel, by decide +kernel⟩
def spShape (K : PySem.W.Frag) : Sp := fun vs H Q _ => ∃ (b c p : Addr) (cs : List Int), vs = [.ref b, .ref p] ∧ Bag H b c ∧ H p = some (.lst (cs.map V.int)) ∧ p ≠ b ∧ 1 ≤ cs.length ∧ cs.length ≤ 6 ∧ (∀ x ∈ cs, (1 : Int) ≤ x ∧ x ≤ 4) ∧
  ∀ H' v f, Off b H H' → Bag H' b c → FigT K H' v f → GoodF cs f → Q v H'
theorem cs_at {cs : List Int} {i : Nat} (h : i < cs.length) : atI (cs.map V.int) (i : Int) = some (.int (cs.getD i 0)) := by
  refine atI_nat ?_
  rw [List.getElem?_map, List.getElem?_eq_getElem h, List.getD_eq_getElem?_getD, List.getElem?_eq_getElem h]
  rfl
theorem cs_in {cs : List Int} {i : Nat} (h : i < cs.length) (a : ∀ x ∈ cs, (1 : Int) ≤ x ∧ x ≤ 4) : 1 ≤ cs.getD i 0 ∧ cs.getD i 0 ≤ 4 := by
  rw [List.getD_eq_getElem?_getD, List.getElem?_eq_getElem h]
  exact a _ (List.getElem_mem h)
section
variable {P : Program} {w : World} {K : PySem.W.Frag} {mg : Str → Option Value} {base : Heap}
theorem ok_shape {f fP fO : Addr} {fd fdP fdO : FuncData} {k : Nat} (F : Fun K "_law_shape" "_law_shape" sShape f fd) (mr : mg "range" = none) (ml : mg "len" = none) (mt : mg "tuple" = none)
    (FP : Fun K "_law_pull" "_law_pull" sPull fP fdP) (bP : Binds K fdP ["_law_bag_here", "_law_size"] []) (gP : mg "_law_pull" = some (.ref fP)) (GP : FnOk P w K mg base CX0 k fP fdP ["_law_bag_here", "_law_size"] spPull)
    (FO : Fun K "_law_of" "_law_of" sOf fO fdO) (bO : Binds K fdO ["_law_bag_here", "_law_things"] []) (gO : mg "_law_of" = some (.ref fO)) (GO : FnOk P w K mg base CX0 k fO fdO ["_law_bag_here", "_law_things"] spOf) :
    FnOk P w K mg base CX0 (k + 1) f fd ["_law_bag_here", "_law_colours"] (spShape K) := by
  refine F.ok scShape (fun vs H Q E h => ?_) (fun cdv A outer s H vs Q E hr h => ?_)
  · obtain ⟨b, c, p, cs, rfl, _⟩ := h
    rfl
  · obtain ⟨b, c, p, cs, rfl, hB, hp, hpb, h1, h6, hcs, q⟩ := h
    refine ⟨_, pss_cons (ps_set (i := 2) scShape.nd rfl (.inl rfl) (pe_lst pa_nil))
      (pss_cons (ps_for PassesOwn.never rfl (pi_range1 (by rfl) mr (pa_cons (pe_callB call_lenQ (by rfl) ml PySem.boot_len (pa_cons (pv 1) pa_nil)) pa_nil)) (pg_name (i := 3) scShape.nd rfl (.inl rfl))
        (pss_one (ps_if (pt_cmpR op_lt (pe_call GP hr (by rfl) gP FP.kp bP .nil pass0 (pa_cons (pv 0) (pa_cons pe_int pa_nil))) pe_int (nomark _))
          (pss_one (ps_expr (pe_bm PySem.F.plainAttrs_list PySem.F.slot_list_append PySem.F.type_list_append mt_append (pv 2) (pa_cons (pe_tup (pa_cons (pv 3)
            (pa_cons (pe_call GP hr (by rfl) gP FP.kp bP .nil pass0 (pa_cons (pv 0) (pa_cons (pe_ix ix_list (pv 1) (pv 3) (fun _ _ => rfl)) pa_nil)))
            (pa_cons (pe_call GO hr (by rfl) gO FO.kp bO .nil pass0 (pa_cons (pv 0) (pa_cons (pe_lst (pa_cons pe_int (pa_cons pe_int (pa_cons pe_int (pa_cons pe_int (pa_cons pe_int pa_nil)))))) pa_nil))) pa_nil)))) pa_nil)))) pss_nil)))
      (C8.pss_cut (ps_if (pt_cmpR (op_eqD hr.units) (pv 2) (pe_lst pa_nil) (nomark _))
          (pss_cons (ps_set (i := 3) scShape.nd rfl (.inl rfl) (pe_call GP hr (by rfl) gP FP.kp bP .nil pass0 (pa_cons (pv 0) (pa_cons (pe_callB call_lenQ (by rfl) ml PySem.boot_len (pa_cons (pv 1) pa_nil)) pa_nil))))
          (pss_one (ps_expr (pe_bm PySem.F.plainAttrs_list PySem.F.slot_list_append PySem.F.type_list_append mt_append (pv 2) (pa_cons (pe_tup (pa_cons (pv 3)
            (pa_cons (pe_call GP hr (by rfl) gP FP.kp bP .nil pass0 (pa_cons (pv 0) (pa_cons (pe_ix ix_list (pv 1) (pv 3) (fun _ _ => rfl)) pa_nil)))
            (pa_cons (pe_op op_add pe_int (pe_call GP hr (by rfl) gP FP.kp bP .nil pass0 (pa_cons (pv 0) (pa_cons pe_int pa_nil)))) pa_nil)))) pa_nil))))) pss_nil)
      (pss_one (ps_ret (pe_callTy call_tupS (by rfl) mt (by decide +kernel) (pa_cons (pv 2) pa_nil)))))), ?_⟩
    refine ⟨Nat.zero_le _, fun D nD => ?_⟩
    have hne := hB.ne nD
    refine ⟨.ref p, rfl, p, _, rfl, .inl (SqL.of (same_upd nD _ _ hp)), ((cs.map V.int).length : Nat), rfl, by rw [List.length_map]; omega, by rw [List.length_map]; omega, ?_⟩
    rw [show (((cs.map V.int).length : Nat) : Int).toNat = cs.length by rw [List.length_map, Int.toNat_natCast]]
    refine for_range (lo := 0) (n := cs.length) (fun i σ H' => ∃ (y3 : Option V) (xs : List V) (fg : List Tri), σ = [some (.ref b), some (.ref p), some (.ref D), y3] ∧ Bag H' b c ∧ Off b H H' ∧ H' D = some (.lst xs) ∧ All2 (TriAt K H') xs fg ∧ (∀ t ∈ fg, GoodT cs t ∧ t.1 < (i : Int)) ∧ (fg.map (·.1)).Pairwise (· < ·) ∧ fg.length ≤ i)
      ⟨none, [], [], rfl, hB.same (same_upd nD), Off.same (same_upd nD), upd_same, True.intro, fun t ht => (by cases ht), List.Pairwise.nil, Nat.le_refl _⟩ ?_ ?_
    · rintro i σ H' hi ⟨y3, xs, fg, rfl, hB4, off4, hD, hA, hG, hU, hl⟩
      refine ⟨.ref b, rfl, b, c, 5, rfl, hB4, by decide, by decide, fun H5 r off5 hB5 _ _ => ?_⟩
      have ts5 : TS K H' H5 := TS.bag off5 hB4
      have hD5 := off5 _ _ hne.1 hD
      refine ⟨r, 2, rfl, rfl, _, rfl, ite2 (fun e => ?_) (fun e => ?_)⟩
      · have hp5 := (off4.trans off5) _ _ hpb hp
        have hci := cs_in hi hcs
        refine ⟨.ref D, rfl, .inl ⟨rfl, _, SqL.of hD5⟩, .int (0 + (i : Int)), rfl, ?_⟩
        refine ⟨.ref b, rfl, .ref p, rfl, .int (0 + (i : Int)), rfl, p, _, 0 + (i : Int), .int (cs.getD i 0), rfl, rfl, SqL.of hp5, by rw [Int.zero_add]; exact cs_at hi, ?_⟩
        refine ⟨b, c, cs.getD i 0, rfl, hB5, by omega, ?_, fun H6 n off6 hB6 n0 n1 => ?_⟩
        · have : (cs.getD i 0).natAbs ≤ 4 := by omega
          exact Nat.lt_of_le_of_lt this (by decide)
        refine ⟨.ref b, rfl, (show (5 : Nat) ≤ sizeLine by decide), fun t nt => ?_⟩
        have u1 := same_upd (o := .lst [V.int 1, V.int 1, V.int 2, V.int 1, V.int 3]) nt
        refine ⟨b, c, t, _, rfl, hB6.same u1, upd_same, (hB6.ne nt).1, (show (0 : Nat) < 5 by decide), (show (5 : Nat) ≤ 1000 by decide), fun H7 v off7 hB7 hv => ?_⟩
        obtain ⟨d, rfl, hd⟩ : ∃ d : Int, v = .int d ∧ 1 ≤ d ∧ d ≤ 3 := by
          simp only [List.mem_cons, List.not_mem_nil, or_false] at hv
          rcases hv with rfl | rfl | rfl | rfl | rfl
          · exact ⟨1, rfl, by decide⟩
          · exact ⟨1, rfl, by decide⟩
          · exact ⟨2, rfl, by decide⟩
          · exact ⟨1, rfl, by decide⟩
          · exact ⟨3, rfl, by decide⟩
        have ts7 : TS K H5 H7 := (TS.bag off6 hB5).trans ((TS.of u1).trans (TS.bag off7 (hB6.same u1)))
        refine ⟨(show (3 : Nat) ≤ sizeLine by decide), fun tt ntt => ?_⟩
        have u2 := same_upd (o := .tup [V.int (0 + (i : Int)), V.int n, V.int d]) ntt
        have hD7 := u2 _ _ (off7 _ _ hne.1 (u1 _ _ (off6 _ _ hne.1 hD5)))
        refine ⟨D, _, _, rfl, rfl, hD7, ?_, ?_⟩
        · rw [hA.len]
          exact small1000 (by omega)
        · refine ⟨_, xs ++ [.ref tt], fg ++ [(0 + (i : Int), n, d)], rfl, (hB7.same u2).upd hne, ((((off4.trans off5).trans off6).trans (Off.same u1)).trans (off7.trans (Off.same u2))).new nD, upd_same, ?_, ?_, ?_, ?_⟩
          · refine All2.snoc ⟨tt, rfl, TS.upd hD7 _ _ (SqT.of upd_same)⟩ (hA.mono fun _ _ => TriAt.ts (ts5.trans (ts7.trans ((TS.of u2).trans (TS.upd hD7)))))
          · intro t ht
            rcases List.mem_append.mp ht with ht | ht
            · exact ⟨(hG t ht).1, by have := (hG t ht).2; omega⟩
            · rw [List.mem_singleton.mp ht]
              refine ⟨⟨by show (0 : Int) ≤ 0 + (i : Int); omega, by show 0 + (i : Int) < _; omega, n0, ?_, hd.1, hd.2⟩, by show 0 + (i : Int) < _; omega⟩
              show n < cs.getD (0 + (i : Int)).toNat 0
              rw [Int.zero_add, Int.toNat_natCast]
              exact n1
          · rw [List.map_append, List.pairwise_append]
            refine ⟨hU, List.pairwise_singleton _ _, fun x hx y hy => ?_⟩
            obtain ⟨t, ht, rfl⟩ := List.mem_map.mp hx
            rw [List.mem_singleton.mp hy]
            have := (hG t ht).2
            show t.1 < 0 + (i : Int)
            omega
          · rw [List.length_append]
            show fg.length + 1 ≤ i + 1
            omega
      · exact ⟨_, xs, fg, rfl, hB5, off4.trans off5, hD5, hA.mono fun _ _ => TriAt.ts ts5, fun t ht => ⟨(hG t ht).1, by have := (hG t ht).2; omega⟩, hU, by omega⟩
    · rintro σ H' ⟨y3, xs, fg, rfl, hB4, off4, hD, hA, hG, hU, hl⟩
      refine ⟨fun σ' H2 => ∃ (y3 : Option V) (xs : List V) (fg : List Tri), σ' = [some (.ref b), some (.ref p), some (.ref D), y3] ∧ Bag H2 b c ∧ Off b H H2 ∧ H2 D = some (.lst xs) ∧ All2 (TriAt K H2) xs fg ∧ GoodF cs fg, ?_, ?_⟩
      · refine ⟨.ref D, rfl, Nat.zero_le _, fun e ne => ?_⟩
        have u1 := same_upd (o := .lst []) ne
        obtain ⟨ds, hds, hsh, hev⟩ : ∃ ds : List PyData, DpAll K (upd H' e (.lst [])) xs ds ∧ SeqAt.shaped (.list ds) = true ∧ PyData.eqv (.list ds) (.list []) = decide (fg = []) := tri_data (hA.mono fun _ _ => TriAt.ts (TS.of u1))
        refine ⟨.list ds, .list [], .lst (SqL.of (u1 _ _ hD)) hds, .lst (SqL.of upd_same) .nil, hsh, by decide, ?_⟩
        rw [hev]
        refine ⟨_, rfl, ite2 (fun e => ?_) (fun e => ?_)⟩
        · have hfg : fg = [] := of_decide_eq_true e
          subst hfg
          have hxs : xs = [] := List.eq_nil_of_length_eq_zero hA.len
          subst hxs
          have hB5 := hB4.same u1
          have hD5 := u1 _ _ hD
          have off5 := off4.trans (Off.same u1)
          generalize upd H' _ (.lst []) = H5 at hB5 hD5 off5 ⊢
          have hp5 := off5 _ _ hpb hp
          refine ⟨.ref b, rfl, .ref p, rfl, p, _, rfl, .inl (SqL.of hp5), b, c, _, rfl, hB5, by rw [List.length_map]; omega, ?_, fun H6 r off6 hB6 r0 r1 => ?_⟩
          · rw [Int.natAbs_natCast, List.length_map]
            exact Nat.lt_of_le_of_lt h6 (by decide)
          rw [List.length_map] at r1
          obtain ⟨i, rfl⟩ := Int.eq_ofNat_of_zero_le r0
          have hi : i < cs.length := by omega
          have hci := cs_in hi hcs
          have hp6 := off6 _ _ hpb hp5
          have hD6 := off6 _ _ hne.1 hD5
          refine ⟨.ref D, rfl, .inl ⟨rfl, _, SqL.of hD6⟩, .int (i : Nat), rfl, ?_⟩
          refine ⟨.ref b, rfl, .ref p, rfl, .int (i : Nat), rfl, p, _, (i : Int), .int (cs.getD i 0), rfl, rfl, SqL.of hp6, cs_at hi, ?_⟩
          refine ⟨b, c, cs.getD i 0, rfl, hB6, by omega, ?_, fun H7 n off7 hB7 n0 n1 => ?_⟩
          · have : (cs.getD i 0).natAbs ≤ 4 := by omega
            exact Nat.lt_of_le_of_lt this (by decide)
          refine ⟨.ref b, rfl, b, c, 3, rfl, hB7, by decide, by decide, fun H8 d off8 hB8 d0 d1 => ⟨1, d, rfl, rfl, (show (3 : Nat) ≤ sizeLine by decide), fun tt ntt => ?_⟩⟩
          have u2 := same_upd (o := .tup [V.int (i : Int), V.int n, V.int (1 + d)]) ntt
          have hD8 := u2 _ _ (off8 _ _ hne.1 (off7 _ _ hne.1 hD6))
          refine ⟨D, _, _, rfl, rfl, hD8, by decide, ?_⟩
          refine ⟨_, [.ref tt], [((i : Int), n, 1 + d)], rfl, (hB8.same u2).upd hne, (((off5.trans off6).trans off7).trans (off8.trans (Off.same u2))).new nD, upd_same, ⟨⟨tt, rfl, TS.upd hD8 _ _ (SqT.of upd_same)⟩, True.intro⟩, ⟨List.cons_ne_nil _ _, fun t ht => ?_, List.pairwise_singleton _ _⟩⟩
          rw [List.mem_singleton.mp ht]
          refine ⟨by show (0 : Int) ≤ (i : Int); omega, by show (i : Int) < _; omega, n0, ?_, by show (1 : Int) ≤ 1 + d; omega, by show 1 + d ≤ (3 : Int); omega⟩
          show n < cs.getD (i : Int).toNat 0
          rw [Int.toNat_natCast]
          exact n1
        · exact ⟨_, xs, fg, rfl, hB4.same u1, off4.trans (Off.same u1), u1 _ _ hD, hA.mono fun _ _ => TriAt.ts (TS.of u1), ⟨fun z => e (decide_eq_true z), fun t ht => (hG t ht).1, hU⟩⟩
      · rintro σ' H2 ⟨y3, xs, fg, rfl, hB5, off5, hD5, hA5, hG5⟩
        refine ⟨.ref D, rfl, D, _, rfl, .inl (SqL.of hD5), fun l H6 s6 hl6 => ?_⟩
        exact q H6 _ fg (off5.trans (Off.same s6)) (hB5.same s6) ⟨l, xs, rfl, hl6, hA5.mono fun _ _ => TriAt.ts (TS.of s6)⟩ hG5
end
/-! ### who bars whom: the mathematics -/
/-- the note that a figure wants on a pad (of two the later) -/
def noteOf (f : List Tri) (p : Int) : Option Int := f.foldl (fun acc t => if p = t.1 then some t.2.1 else acc) none
theorem noteOf_go (p : Int) : ∀ (f : List Tri) (acc : Option Int), f.foldl (fun acc t => if p = t.1 then some t.2.1 else acc) acc = (noteOf f p).or acc
  | [], acc => by simp [noteOf]
  | t :: r, acc => by
    unfold noteOf
    rw [List.foldl_cons, List.foldl_cons, noteOf_go p r, noteOf_go p r (if p = t.1 then some t.2.1 else none)]
    by_cases h : p = t.1
    · rw [if_pos h, if_pos h]
      cases noteOf r p <;> rfl
    · rw [if_neg h, if_neg h]
      cases noteOf r p <;> rfl
theorem noteOf_cons (t : Tri) (r : List Tri) (p : Int) : noteOf (t :: r) p = (noteOf r p).or (if p = t.1 then some t.2.1 else none) := by
  show List.foldl _ _ (t :: r) = _
  rw [List.foldl_cons, noteOf_go]
theorem noteOf_snoc (f : List Tri) (t : Tri) (p : Int) : noteOf (f ++ [t]) p = if p = t.1 then some t.2.1 else noteOf f p := by
  unfold noteOf
  rw [List.foldl_append]
  rfl
theorem noteOf_some {f : List Tri} {p n : Int} (h : noteOf f p = some n) : ∃ t ∈ f, t.1 = p ∧ t.2.1 = n := by
  induction f with
  | nil => cases h
  | cons t r ih =>
    rw [noteOf_cons] at h
    cases e : noteOf r p with
    | some m =>
      rw [e] at h
      have : m = n := Option.some.inj h
      subst this
      obtain ⟨u, hu, h1, h2⟩ := ih e
      exact ⟨u, List.mem_cons_of_mem _ hu, h1, h2⟩
    | none =>
      rw [e] at h
      by_cases hp : p = t.1
      · rw [if_pos hp] at h
        exact ⟨t, List.mem_cons_self, hp.symm, Option.some.inj h⟩
      · rw [if_neg hp] at h
        cases h
theorem noteOf_none {f : List Tri} {p : Int} (h : noteOf f p = none) : ∀ t ∈ f, t.1 ≠ p := by
  induction f with
  | nil => intro t ht; cases ht
  | cons t r ih =>
    rw [noteOf_cons] at h
    cases e : noteOf r p with
    | some m => rw [e] at h; cases h
    | none =>
      rw [e] at h
      by_cases hp : p = t.1
      · rw [if_pos hp] at h
        cases h
      · intro u hu
        rcases List.mem_cons.mp hu with rfl | hu
        · exact fun z => hp z.symm
        · exact ih e u hu
theorem up_inj {f : List Tri} (h : (f.map (·.1)).Pairwise (· < ·)) {t u : Tri} (ht : t ∈ f) (hu : u ∈ f) (e : t.1 = u.1) : t = u := by
  induction f with
  | nil => cases ht
  | cons x r ih =>
    rw [List.map_cons, List.pairwise_cons] at h
    rcases List.mem_cons.mp ht with h1 | h1 <;> rcases List.mem_cons.mp hu with h2 | h2
    · rw [h1, h2]
    · have := h.1 u.1 (List.mem_map.mpr ⟨u, h2, rfl⟩)
      rw [h1] at e
      omega
    · have := h.1 t.1 (List.mem_map.mpr ⟨t, h1, rfl⟩)
      rw [h2] at e
      omega
    · exact ih h.2 h1 h2
def meetB (f g : List Tri) : Bool := f.any fun t => g.any fun u => decide (u.1 = t.1)
def barB (f g : List Tri) : Bool := g.any fun u => !decide ((noteOf f u.1).getD u.2.1 = u.2.1)
theorem meetB_iff {f g : List Tri} : meetB f g = true ↔ ∃ t ∈ f, ∃ u ∈ g, u.1 = t.1 := by
  unfold meetB
  simp only [List.any_eq_true, decide_eq_true_eq]
theorem meetB_comm (f g : List Tri) : meetB f g = meetB g f := by
  rw [Bool.eq_iff_iff, meetB_iff, meetB_iff]
  constructor
  · rintro ⟨t, ht, u, hu, e⟩
    exact ⟨u, hu, t, ht, e.symm⟩
  · rintro ⟨t, ht, u, hu, e⟩
    exact ⟨u, hu, t, ht, e.symm⟩
theorem barB_iff {f g : List Tri} (hf : (f.map (·.1)).Pairwise (· < ·)) : barB f g = true ↔ ∃ t ∈ f, ∃ u ∈ g, u.1 = t.1 ∧ u.2.1 ≠ t.2.1 := by
  unfold barB
  rw [List.any_eq_true]
  constructor
  · rintro ⟨u, hu, h⟩
    cases e : noteOf f u.1 with
    | none => rw [e] at h; simp at h
    | some n =>
      rw [e] at h
      obtain ⟨t, ht, h1, h2⟩ := noteOf_some e
      refine ⟨t, ht, u, hu, h1.symm, fun z => ?_⟩
      simp only [Option.getD_some, Bool.not_eq_true', decide_eq_false_iff_not] at h
      exact h (by rw [← h2, z])
  · rintro ⟨t, ht, u, hu, h1, h2⟩
    refine ⟨u, hu, ?_⟩
    cases e : noteOf f u.1 with
    | none => exact absurd h1.symm (noteOf_none e t ht)
    | some n =>
      obtain ⟨t', ht', h1', h2'⟩ := noteOf_some e
      have := up_inj hf ht ht' (by rw [h1', h1])
      subst this
      simp only [Option.getD_some, Bool.not_eq_true', decide_eq_false_iff_not]
      rw [← h2']
      exact fun z => h2 z.symm
theorem barB_comm {f g : List Tri} (hf : (f.map (·.1)).Pairwise (· < ·)) (hg : (g.map (·.1)).Pairwise (· < ·)) : barB f g = barB g f := by
  rw [Bool.eq_iff_iff, barB_iff hf, barB_iff hg]
  constructor
  · rintro ⟨t, ht, u, hu, e, n⟩
    exact ⟨u, hu, t, ht, e.symm, fun z => n z.symm⟩
  · rintro ⟨t, ht, u, hu, e, n⟩
    exact ⟨u, hu, t, ht, e.symm, fun z => n z.symm⟩
/-- the others' triples on the first one's pads -/
def commonOf (f g : List Tri) : List Tri := g.filter fun u => (noteOf f u.1).isSome
theorem commonOf_nil {f g : List Tri} : commonOf f g = [] ↔ meetB f g = false := by
  rw [← Bool.not_eq_true, meetB_iff]
  unfold commonOf
  rw [List.filter_eq_nil_iff]
  constructor
  · rintro h ⟨t, ht, u, hu, e⟩
    refine h u hu ?_
    cases e2 : noteOf f u.1 with
    | none => exact absurd e.symm (noteOf_none e2 t ht)
    | some n => rfl
  · intro h u hu e
    cases e2 : noteOf f u.1 with
    | none => rw [e2] at e; cases e
    | some n =>
      obtain ⟨t, ht, h1, _⟩ := noteOf_some e2
      exact h ⟨t, ht, u, hu, h1.symm⟩
theorem common_bar (f g : List Tri) : ((commonOf f g).any fun u => !decide ((noteOf f u.1).getD u.2.1 = u.2.1)) = barB f g := by
  unfold commonOf barB
  rw [List.any_filter]
  congr 1
  funext u
  cases noteOf f u.1 with
  | none => simp
  | some n => simp
/-- two figures of a book: apart, or barring one another -/
def okB (f g : List Tri) : Bool := !meetB f g || barB f g
/-- the figures of a book -/
structure GoodB (cs : List Int) (fs : List (List Tri)) : Prop where
  all : ∀ f ∈ fs, GoodF cs f
  two : fs.Pairwise fun g f => okB f g = true
theorem GoodB.pair {cs : List Int} {fs : List (List Tri)} (h : GoodB cs fs) {i j : Nat} {f g : List Tri} (hij : i < j) (hf : fs[i]? = some f) (hg : fs[j]? = some g) : meetB f g = true → barB f g = true := by
  intro hm
  obtain ⟨hi, rfl⟩ := List.getElem?_eq_some_iff.mp hf
  obtain ⟨hj, rfl⟩ := List.getElem?_eq_some_iff.mp hg
  have h2 := List.pairwise_iff_getElem.mp h.two i j hi hj hij
  unfold okB at h2
  rw [meetB_comm, hm] at h2
  rw [barB_comm (h.all _ (List.getElem_mem hi)).up (h.all _ (List.getElem_mem hj)).up]
  exact h2
/-- a figure's pads and notes as a dict -/
def kvsOf (f : List Tri) : List (Key × V) := f.map fun t => (Sum.inl t.1, V.int t.2.1)
theorem val_merge (p : Int) : ∀ (f : List Tri) (acc : List (Key × V)), valV (mergeK acc (kvsOf f)) (Sum.inl p) = ((noteOf f p).map V.int).or (valV acc (Sum.inl p))
  | [], acc => rfl
  | t :: r, acc => by
    have e : mergeK acc (kvsOf (t :: r)) = mergeK (putK acc (Sum.inl t.1) (.int t.2.1)) (kvsOf r) := rfl
    rw [e, val_merge p r, valV_put, noteOf_cons]
    by_cases h : p = t.1
    · rw [if_pos h, if_pos (by rw [h])]
      cases noteOf r p <;> rfl
    · rw [if_neg h, if_neg (fun z => h (Sum.inl.inj z))]
      cases noteOf r p <;> simp
theorem val_fig (f : List Tri) (p : Int) : valV (mergeK [] (kvsOf f)) (Sum.inl p) = (noteOf f p).map V.int := by
  rw [val_merge]
  cases noteOf f p <;> rfl
theorem merge_snoc (f : List Tri) (t : Tri) : mergeK [] (kvsOf (f ++ [t])) = putK (mergeK [] (kvsOf f)) (Sum.inl t.1) (.int t.2.1) := by
  unfold mergeK kvsOf
  rw [List.map_append, List.foldl_append]
  rfl
theorem putK_len' (c : List (Key × V)) (k : Key) (x : V) : (putK c k x).length ≤ c.length + 1 := by
  unfold putK
  split
  · rw [List.length_map]
    omega
  · rw [List.length_append]
    exact Nat.le_refl _
theorem merge_len (f : List Tri) : (mergeK [] (kvsOf f)).length ≤ f.length := by
  have h : ∀ (f : List Tri) (acc : List (Key × V)), (mergeK acc (kvsOf f)).length ≤ acc.length + f.length := fun f => by
    induction f with
    | nil => intro acc; exact Nat.le_refl _
    | cons t r ih =>
      intro acc
      have e : mergeK acc (kvsOf (t :: r)) = mergeK (putK acc (Sum.inl t.1) (.int t.2.1)) (kvsOf r) := rfl
      have h1 := ih (putK acc (Sum.inl t.1) (.int t.2.1))
      have h2 := putK_len' acc (Sum.inl t.1) (.int t.2.1)
      rw [e, List.length_cons]
      omega
  have := h f []
  rw [List.length_nil, Nat.zero_add] at this
  exact this
/-! ### sets of pads as numbers: the mathematics -/
theorem pow_dvd_sum (p : Nat) : ∀ (l : List Nat), (∀ x ∈ l, p < x) → 2 ^ (p + 1) ∣ (l.map (2 ^ ·)).sum
  | [], _ => ⟨0, rfl⟩
  | x :: l, h => by
    rw [List.map_cons, List.sum_cons]
    exact Nat.dvd_add (Nat.pow_dvd_pow 2 (h x List.mem_cons_self)) (pow_dvd_sum p l fun y hy => h y (List.mem_cons_of_mem _ hy))
theorem sum_bits : ∀ {l : List Nat}, l.Pairwise (· < ·) → ∀ i, (l.map (2 ^ ·)).sum.testBit i = decide (i ∈ l)
  | [], _, i => by simp
  | p :: l, h, i => by
    have h2 := List.pairwise_cons.mp h
    obtain ⟨m, hm⟩ := pow_dvd_sum p l h2.1
    have ih := sum_bits h2.2 i
    have e : ((p :: l).map (2 ^ ·)).sum = 2 ^ (p + 1) * m ||| 2 ^ p := by
      rw [List.map_cons, List.sum_cons, hm, Nat.add_comm]
      exact Nat.two_pow_add_eq_or_of_lt (Nat.pow_lt_pow_right (by decide) (Nat.lt_succ_self p)) m
    rw [e, Nat.testBit_or, ← hm, ih, Nat.testBit_two_pow]
    by_cases z : p = i
    · subst z; simp
    · simp [z, Ne.symm z]
theorem and_bits {a b : List Nat} (ha : a.Pairwise (· < ·)) (hb : b.Pairwise (· < ·)) : ((a.map (2 ^ ·)).sum &&& (b.map (2 ^ ·)).sum) ≠ 0 ↔ ∃ i, i ∈ a ∧ i ∈ b := by
  constructor
  · intro h
    obtain ⟨i, hi⟩ := Nat.exists_testBit_of_ne_zero h
    rw [Nat.testBit_and, sum_bits ha, sum_bits hb, Bool.and_eq_true, decide_eq_true_eq, decide_eq_true_eq] at hi
    exact ⟨i, hi⟩
  · rintro ⟨i, h1, h2⟩ z
    have := congrArg (fun x => Nat.testBit x i) z
    simp only [Nat.testBit_and, sum_bits ha, sum_bits hb, Nat.zero_testBit, h1, h2] at this
    simp at this
/-- the set of a figure's pads as a number -/
def maskN (f : List Tri) : Nat := (f.map fun t => 2 ^ t.1.toNat).sum
/-- pads that rise, none below nought -/
structure PadsUp (f : List Tri) : Prop where
  up : (f.map (·.1)).Pairwise (· < ·)
  lo : ∀ t ∈ f, 0 ≤ t.1
  hi : ∀ t ∈ f, t.1 ≤ 1000
theorem GoodF.padsUp {cs : List Int} {f : List Tri} (h : GoodF cs f) (h6 : cs.length ≤ 6) : PadsUp f := ⟨h.up, fun t ht => (h.all t ht).p0, fun t ht => by have := (h.all t ht).p1; omega⟩
theorem pads_nat {f : List Tri} (h : PadsUp f) : (f.map fun t => t.1.toNat).Pairwise (· < ·) := by
  have h1 := h.up
  have h2 := h.lo
  clear h
  induction f with
  | nil => exact List.Pairwise.nil
  | cons t r ih =>
    rw [List.map_cons, List.pairwise_cons] at h1 ⊢
    refine ⟨fun x hx => ?_, ih h1.2 fun u hu => h2 u (List.mem_cons_of_mem _ hu)⟩
    obtain ⟨u, hu, rfl⟩ := List.mem_map.mp hx
    have a1 := h1.1 u.1 (List.mem_map.mpr ⟨u, hu, rfl⟩)
    have a2 := h2 t List.mem_cons_self
    have a3 := h2 u (List.mem_cons_of_mem _ hu)
    omega
theorem mask_bits {f g : List Tri} (hf : PadsUp f) (hg : PadsUp g) : (maskN f &&& maskN g) ≠ 0 ↔ meetB f g = true := by
  have e : ∀ f : List Tri, maskN f = ((f.map fun t => t.1.toNat).map (2 ^ ·)).sum := fun f => by
    unfold maskN
    rw [List.map_map]
    rfl
  rw [e f, e g, and_bits (pads_nat hf) (pads_nat hg), meetB_iff]
  constructor
  · rintro ⟨i, h1, h2⟩
    obtain ⟨t, ht, e1⟩ := List.mem_map.mp h1
    obtain ⟨u, hu, e2⟩ := List.mem_map.mp h2
    have a2 := hf.lo t ht
    have a3 := hg.lo u hu
    exact ⟨t, ht, u, hu, by omega⟩
  · rintro ⟨t, ht, u, hu, e1⟩
    exact ⟨t.1.toNat, List.mem_map.mpr ⟨t, ht, rfl⟩, List.mem_map.mpr ⟨u, hu, by rw [e1]⟩⟩
/-- as the program asks: one & other != 0 -/
theorem mask_test {f g : List Tri} (hf : PadsUp f) (hg : PadsUp g) : (!decide (V.int (Builtin.bitAnd (maskN f : Nat) (maskN g : Nat)) = V.int 0)) = meetB f g := by
  rw [bitAnd_pp (by omega) (by omega), Int.toNat_natCast, Int.toNat_natCast]
  have := mask_bits hf hg
  cases e : meetB f g with
  | true =>
    rw [e] at this
    have h := this.mpr rfl
    rw [decide_eq_false (fun z => h (by have := V.int.inj z; omega))]
    rfl
  | false =>
    rw [e] at this
    have h : (maskN f &&& maskN g) = 0 := Classical.byContradiction fun z => by cases this.mp z
    rw [h]
    rfl
/-! ### _law_bars -/
abbrev sBars : Stmt := topS 59
abbrev nBars : List Str := ["_law_one", "_law_other", "_law_mine", "_law_common", "_law_pad", "_law_note", "_law_depth"]
theorem scBars : FnScope nBars ["_law_one", "_law_other"] (defScope sBars) := ⟨rfl, rfl, rfl, by decide +kernel, rfl, by decide +kernel, by decide +kernel⟩
def spBars (K : PySem.W.Frag) : Sp := fun vs H Q _ => ∃ (v u : V) (f g : List Tri), vs = [v, u] ∧ FigT K H v f ∧ FigT K H u g ∧ f.length ≤ 100 ∧ g.length ≤ 100 ∧ ∀ H', Same H H' → Q (.bl (okB f g)) H'
abbrev g3 (K : PySem.W.Frag) (i j k : Nat) : TG := gTup K 3 (gCons (gName i) (gCons (gName j) (gCons (gName k) gNil)))
abbrev g2 (K : PySem.W.Frag) (i j : Nat) : TG := gTup K 2 (gCons (gName i) (gCons (gName j) gNil))
def pairV (t : Tri) : List V := [.int t.1, .int t.2.1]
def PairAt (K : PySem.W.Frag) (H : Hp) (v : V) (t : Tri) : Prop := ∃ a, v = .ref a ∧ SqT K H a (pairV t)
theorem PairAt.ts {K : PySem.W.Frag} {H H' : Hp} (e : TS K H H') {v : V} {t : Tri} (h : PairAt K H v t) : PairAt K H' v t := by
  obtain ⟨a, h1, h2⟩ := h
  exact ⟨a, h1, e _ _ h2⟩
theorem pair_paired {K : PySem.W.Frag} {H : Hp} : ∀ {xs : List V} {f : List Tri}, All2 (PairAt K H) xs f → ∃ ps : List Addr, xs = ps.map V.ref ∧ Paired (fun p kv => SqT K H p [kV kv.1, kv.2]) ps (kvsOf f)
  | [], [], _ => ⟨[], rfl, .nil⟩
  | x :: xs, t :: f, h => by
    obtain ⟨a, rfl, ha⟩ := h.1
    obtain ⟨ps, e, hp⟩ := pair_paired h.2
    exact ⟨a :: ps, by rw [e]; rfl, .cons ha hp⟩
  | [], _ :: _, h => h.elim
  | _ :: _, [], h => h.elim
theorem pair_data {K : PySem.W.Frag} {H : Hp} : ∀ {xs : List V} {fg : List Tri}, All2 (PairAt K H) xs fg → ∃ ds : List PyData, DpAll K H xs ds ∧ SeqAt.shaped (.list ds) = true ∧ PyData.eqv (.list ds) (.list []) = decide (fg = []) := by
  intro xs fg h
  refine ⟨fg.map fun t => .tuple [.int t.1, .int t.2.1], ?_, ?_, ?_⟩
  · induction fg generalizing xs with
    | nil =>
      cases xs with
      | nil => exact .nil
      | cons _ _ => exact h.elim
    | cons t r ih =>
      cases xs with
      | nil => exact h.elim
      | cons x l =>
        obtain ⟨a, e, ha⟩ := h.1
        subst e
        exact .cons (.tup ha (.cons (.int _) (.cons (.int _) .nil))) (ih h.2)
  · have h1 : ∀ l : List Tri, PyData.canLayAll0 (l.map fun t => .tuple [.int t.1, .int t.2.1]) = true := fun l => by
      induction l with
      | nil => rfl
      | cons t r ih => simp [PyData.canLayAll0, PyData.canLay0, ih]
    have h2 : ∀ l : List Tri, PyData.depthAll (l.map fun t => .tuple [.int t.1, .int t.2.1]) ≤ 1 := fun l => by
      induction l with
      | nil => simp [PyData.depthAll]
      | cons t r ih =>
        simp only [List.map_cons, PyData.depthAll, PyData.depth]
        omega
    have h3 := h1 fg
    have h4 := h2 fg
    have h5 : PyData.depth (.list (fg.map fun t => .tuple [.int t.1, .int t.2.1])) ≤ 64 := by
      simp only [PyData.depth]
      omega
    show (PyData.canLay0 _ && decide (PyData.depth _ ≤ 64)) = true
    rw [Bool.and_eq_true]
    exact ⟨by simp only [PyData.canLay0]; exact h3, decide_eq_true h5⟩
  · cases fg with
    | nil => simp [PyData.eqv, PyData.eqvAll]
    | cons _ _ => simp [PyData.eqv, PyData.eqvAll]
theorem take_snoc {α : Type} {l : List α} {i : Nat} {a : α} (h : l[i]? = some a) : l.take (i + 1) = l.take i ++ [a] := by
  rw [List.take_add_one, h]
  rfl
section
variable {P : Program} {w : World} {K : PySem.W.Frag} {mg : Str → Option Value} {base : Heap}
theorem ok_bars {f : Addr} {fd : FuncData} {k : Nat} (F : Fun K "_law_bars" "_law_bars" sBars f fd) (md : mg "dict" = none) (ma : mg "any" = none) : FnOk P w K mg base CX0 (k + 1) f fd ["_law_one", "_law_other"] (spBars K) := by
  refine F.ok scBars (fun vs H Q E h => ?_) (fun cdv A outer s H vs Q E hr h => ?_)
  · obtain ⟨v, u, f, g, rfl, _⟩ := h
    rfl
  · obtain ⟨v, u, f, g, rfl, hV, hU, hfl, hgl, q⟩ := h
    obtain ⟨a, xs, rfl, ha, hxs⟩ := hV
    obtain ⟨b, ys, rfl, hb, hys⟩ := hU
    refine ⟨_, pss_cons (ps_set (i := 2) scBars.nd rfl (.inr rfl) (pe_callTy (call_dictP rfl) (by rfl) md (by decide +kernel) (pa_cons (pe_lc (own := [("_law_pad", 4), ("_law_note", 5), ("_law_depth", 6)]) (g := g3 K 4 5 6) (tt := tYes) rfl scBars.nd (pi_tup (pv 0))
        (blkOk_by (own := [("_law_pad", 4), ("_law_note", 5), ("_law_depth", 6)]) (N := nBars) (sc := defScope sBars) (by decide +kernel))
        (fun _ _ _ _ _ => pg_tup rfl (pgs_cons (pg_name (i := 4) scBars.nd rfl (.inl rfl)) (pgs_cons (pg_name (i := 5) scBars.nd rfl (.inl rfl)) (pgs_cons (pg_name (i := 6) scBars.nd rfl (.inl rfl)) pgs_nil)))) (fun _ _ _ _ _ => pts_nil)
        (fun _ _ _ _ _ => pe_tup (pa_cons (pv 4) (pa_cons (pv 5) pa_nil)))) pa_nil)))
      (pss_cons (ps_setLc (i := 3) (own := [("_law_pad", 4), ("_law_note", 5), ("_law_depth", 6)]) (g := g3 K 4 5 6) rfl scBars.nd rfl rfl (sw_true rfl rfl rfl (by decide +kernel)) (pi_tup (pv 1))
        (blkOk_by (own := [("_law_pad", 4), ("_law_note", 5), ("_law_depth", 6)]) (N := nBars) (sc := defScope sBars) (by decide +kernel))
        (fun _ _ _ _ _ => pg_tup rfl (pgs_cons (pg_name (i := 4) scBars.nd rfl (.inl rfl)) (pgs_cons (pg_name (i := 5) scBars.nd rfl (.inl rfl)) (pgs_cons (pg_name (i := 6) scBars.nd rfl (.inl rfl)) pgs_nil))))
        (fun _ _ _ _ _ => pts_one (pt_cmp (pc_din (hu_of hr) (pv 4) (pv 2)))) (fun _ _ _ _ _ => pe_tup (pa_cons (pv 4) (pa_cons (pv 5) pa_nil))))
      (pss_one (ps_ret (pe_or (pe_cmpR (op_eqD hr.units) (pv 3) (pe_lst pa_nil) (nomark _)) (pe_one (pe_callB (cr_any rfl) (by rfl) ma (by decide +kernel) (pa_cons (pe_lc (own := [("_law_pad", 4), ("_law_note", 5)]) (g := g2 K 4 5) (tt := tYes) rfl scBars.nd (pi_list (pv 3))
        (blkOk_by (own := [("_law_pad", 4), ("_law_note", 5)]) (N := nBars) (sc := defScope sBars) (by decide +kernel))
        (fun _ _ _ _ _ => pg_tup rfl (pgs_cons (pg_name (i := 4) scBars.nd rfl (.inl rfl)) (pgs_cons (pg_name (i := 5) scBars.nd rfl (.inl rfl)) pgs_nil))) (fun _ _ _ _ _ => pts_nil)
        (fun _ _ _ _ _ => pe_cmpR op_ne (pe_dget (hu_of hr) (pv 2) (pv 4) (fun _ _ => rfl)) (pv 5) (nomark _))) pa_nil))))))), ?_⟩
    -- mine
    refine ⟨.ref a, rfl, a, rfl, ⟨_, ha⟩, fun D nD => ?_⟩
    refine lc_tup (K := K) (a := a) (xs := xs) (fun i H' => Same H H' ∧ ∃ zs, H' D = some (.lst zs) ∧ All2 (PairAt K H') zs (f.take i)) ⟨same_upd nD, [], upd_same, True.intro⟩ (fun i H' _ hP => Same.tup hP.1 ha) (fun i x H' hx hP => ?_) (fun H1 hP => ?_)
    · obtain ⟨sm, zs, hD, hz⟩ := hP
      obtain ⟨t, ht, tp, rfl, htp⟩ := hxs.get hx
      refine ⟨tp, triV t, rfl, Same.tup sm htp, rfl, _, _, rfl, _, _, rfl, _, _, rfl, rfl, rfl, yesT ⟨_, rfl, _, rfl, (show (2 : Nat) ≤ sizeLine by decide), fun n nn => ?_⟩⟩
      have u1 := same_upd (o := .tup [V.int t.1, V.int t.2.1]) nn
      have hD1 := u1 _ _ hD
      refine ⟨_, hD1, ?_, Same.offUpd (sm.trans u1) nD, zs ++ [.ref n], upd_same, ?_⟩
      · rw [hz.len, List.length_take]
        exact small1000 (by omega)
      · rw [take_snoc ht]
        exact All2.snoc ⟨n, rfl, TS.upd hD1 _ _ (SqT.of upd_same)⟩ (hz.mono fun _ _ => PairAt.ts ((TS.of u1).trans (TS.upd hD1)))
    · obtain ⟨sm1, zs, hD, hz⟩ := hP
      rw [List.take_of_length_le (by rw [hxs.len]; exact Nat.le_refl _)] at hz
      obtain ⟨ps, rfl, hpp⟩ := pair_paired hz
      refine ⟨D, ps, kvsOf f, rfl, SqL.of hD, hpp, fun d nd => ?_⟩
      have u1 := same_upd (o := .dK (mergeK [] (kvsOf f))) nd
      have s1 := sm1.trans u1
      have hd : (upd H1 d (.dK (mergeK [] (kvsOf f)))) d = some (.dK (mergeK [] (kvsOf f))) := upd_same
      generalize upd H1 d (.dK (mergeK [] (kvsOf f))) = H2 at s1 hd ⊢
      -- common
      refine ⟨.ref b, rfl, b, rfl, ⟨_, Same.tup s1 hb⟩, fun D2 nD2 => ?_⟩
      refine lc_tup (K := K) (a := b) (xs := ys) (fun i H' => Same H2 H' ∧ ∃ zs, H' D2 = some (.lst zs) ∧ All2 (PairAt K H') zs (commonOf f (g.take i))) ⟨same_upd nD2, [], upd_same, True.intro⟩ (fun i H' _ hP => Same.tup (s1.trans hP.1) hb) (fun i x H' hx hP => ?_) (fun H3 hP => ?_)
      · obtain ⟨sm, zs, hD2, hz⟩ := hP
        obtain ⟨t, ht, tp, rfl, htp⟩ := hys.get hx
        have hl : zs.length ≤ 100 := by
          rw [hz.len]
          have := List.length_filter_le (fun u : Tri => (noteOf f u.1).isSome) (g.take i)
          rw [List.length_take] at this
          exact Nat.le_trans this (by omega)
        refine ⟨tp, triV t, rfl, Same.tup (s1.trans sm) htp, rfl, _, _, rfl, _, _, rfl, _, _, rfl, rfl, rfl, ?_⟩
        refine ⟨_, rfl, _, rfl, d, _, rfl, DGet.k (k := Sum.inl t.1) (sm _ _ hd), _, rfl, ?_⟩
        rw [val_fig]
        have cm : commonOf f (g.take (i + 1)) = commonOf f (g.take i) ++ (if (noteOf f t.1).isSome = true then [t] else []) := by
          rw [take_snoc ht]
          unfold commonOf
          rw [List.filter_append]
          congr 1
          simp only [List.filter_cons, List.filter_nil]
        cases e : noteOf f t.1 with
        | none =>
          refine iteF ⟨sm, zs, hD2, ?_⟩
          rw [cm, e, if_neg (by simp), List.append_nil]
          exact hz
        | some n0 =>
          refine iteT ⟨_, rfl, _, rfl, (show (2 : Nat) ≤ sizeLine by decide), fun n nn => ?_⟩
          have u1 := same_upd (o := .tup [V.int t.1, V.int t.2.1]) nn
          have hD1 := u1 _ _ hD2
          refine ⟨_, hD1, small1000 (by omega), Same.offUpd (sm.trans u1) nD2, zs ++ [.ref n], upd_same, ?_⟩
          rw [cm, e, if_pos (by simp)]
          exact All2.snoc ⟨n, rfl, TS.upd hD1 _ _ (SqT.of upd_same)⟩ (hz.mono fun _ _ => PairAt.ts ((TS.of u1).trans (TS.upd hD1)))
      · obtain ⟨sm2, zs, hD2, hz⟩ := hP
        rw [List.take_of_length_le (by rw [hys.len]; exact Nat.le_refl _)] at hz
        have s2 := s1.trans sm2
        have hd3 := sm2 _ _ hd
        refine ⟨.ref D2, rfl, Nat.zero_le _, fun e ne => ?_⟩
        have u1 := same_upd (o := .lst []) ne
        obtain ⟨ds, hds, hsh, hev⟩ := pair_data (hz.mono fun _ _ => PairAt.ts (TS.of u1))
        refine ⟨.list ds, .list [], .lst (SqL.of (u1 _ _ hD2)) hds, .lst (SqL.of upd_same) .nil, hsh, by decide, ?_⟩
        rw [hev]
        have s3 := s2.trans u1
        have hd4 := u1 _ _ hd3
        have hD4 := u1 _ _ hD2
        have hz4 := hz.mono fun _ _ => PairAt.ts (TS.of (K := K) u1)
        generalize upd H3 e (.lst []) = H4 at s3 hd4 hD4 hz4 ⊢
        refine ⟨_, rfl, ite2 (fun e => ?_) (fun e => ?_)⟩
        · have e1 := commonOf_nil.mp (of_decide_eq_true e)
          have := q _ s3
          unfold okB at this
          rw [e1] at this
          exact this
        · have e1 : meetB f g = true := by
            cases e2 : meetB f g with
            | true => rfl
            | false => exact absurd (decide_eq_true (commonOf_nil.mpr e2)) e
          refine ⟨.ref D2, rfl, D2, rfl, ⟨_, SqL.of hD4⟩, fun D3 nD3 => ?_⟩
          refine lc_list (K := K) (a := D2) (xs := zs) (fun i H' => Same H4 H' ∧ H' D3 = some (.lst ((((commonOf f g).take i).map fun u => !decide ((noteOf f u.1).getD u.2.1 = u.2.1)).map V.bl))) ⟨same_upd nD3, upd_same⟩ (fun i H' _ hP => SqL.of (hP.1 _ _ hD4)) (fun i x H' hx hP => ?_) (fun H5 hP => ?_)
          · obtain ⟨sm, hD3⟩ := hP
            obtain ⟨t, ht, tp, rfl, htp⟩ := hz4.get hx
            have htm : t ∈ commonOf f g := List.mem_of_getElem? ht
            have hsome := (List.mem_filter.mp htm).2
            obtain ⟨n0, hn0⟩ := Option.isSome_iff_exists.mp hsome
            refine ⟨tp, pairV t, rfl, Same.tup sm htp, rfl, _, _, rfl, _, _, rfl, rfl, rfl, yesT ?_⟩
            refine ⟨_, rfl, _, rfl, d, .int n0, rfl, ?_, _, rfl, rfl, _, hD3, ?_, Same.offUpd sm nD3, ?_⟩
            · have := DGet.k (k := Sum.inl t.1) (sm _ _ hd4)
              rw [val_fig, hn0] at this
              exact this
            · rw [List.length_map, List.length_map, List.length_take]
              have := List.length_filter_le (fun u : Tri => (noteOf f u.1).isSome) g
              have h2 : (commonOf f g).length ≤ g.length := this
              exact small1000 (by omega)
            · rw [upd_same, take_snoc ht, List.map_append, List.map_append]
              have : (!decide (V.int n0 = V.int t.2.1)) = (!decide ((noteOf f t.1).getD t.2.1 = t.2.1)) := by
                rw [hn0, Option.getD_some]
                congr 1
                rw [decide_eq_decide]
                exact ⟨fun z => V.int.inj z, fun z => by rw [z]⟩
              rw [this]
              rfl
          · obtain ⟨sm, hD3⟩ := hP
            rw [hz4.len, List.take_length] at hD3
            refine ⟨D3, _, rfl, SqL.of hD3, ?_⟩
            have := q _ (s3.trans sm)
            unfold okB at this
            rw [e1, ← common_bar] at this
            rw [List.any_map]
            exact this
end
/-! ### _law_shapes -/
abbrev sShapes : Stmt := topS 60
abbrev nShapes : List Str := ["_law_bag_here", "_law_colours", "_law_most", "_law_found", "_law_turn", "_law_one", "_law_other"]
theorem scShapes : FnScope nShapes ["_law_bag_here", "_law_colours", "_law_most"] (defScope sShapes) := ⟨rfl, rfl, rfl, by decide +kernel, rfl, by decide +kernel, by decide +kernel⟩
def spShapes (K : PySem.W.Frag) : Sp := fun vs H Q _ => ∃ (b c p : Addr) (cs : List Int) (most : Nat), vs = [.ref b, .ref p, .int (most : Nat)] ∧ Bag H b c ∧ H p = some (.lst (cs.map V.int)) ∧ p ≠ b ∧ 1 ≤ cs.length ∧ cs.length ≤ 6 ∧ (∀ x ∈ cs, (1 : Int) ≤ x ∧ x ≤ 4) ∧ most ≤ 100 ∧
  ∀ (H' : Hp) (d : Addr) (xs : List V) (fs : List (List Tri)), Off b H H' → Bag H' b c → H d = none → d ≠ b → H' d = some (.lst xs) → All2 (FigT K H') xs fs → GoodB cs fs → fs.length ≤ most → (0 < most → fs ≠ []) → Q (.ref d) H'
section
variable {P : Program} {w : World} {K : PySem.W.Frag} {mg : Str → Option Value} {base : Heap}
theorem ok_shapes {f fS fB : Addr} {fd fdS fdB : FuncData} {k : Nat} (F : Fun K "_law_shapes" "_law_shapes" sShapes f fd) (mr : mg "range" = none) (ma : mg "all" = none)
    (FS : Fun K "_law_shape" "_law_shape" sShape fS fdS) (bS : Binds K fdS ["_law_bag_here", "_law_colours"] []) (gS : mg "_law_shape" = some (.ref fS)) (GS : FnOk P w K mg base CX0 k fS fdS ["_law_bag_here", "_law_colours"] (spShape K))
    (FB : Fun K "_law_bars" "_law_bars" sBars fB fdB) (bB : Binds K fdB ["_law_one", "_law_other"] []) (gB : mg "_law_bars" = some (.ref fB)) (GB : FnOk P w K mg base CX0 k fB fdB ["_law_one", "_law_other"] (spBars K)) :
    FnOk P w K mg base CX0 (k + 1) f fd ["_law_bag_here", "_law_colours", "_law_most"] (spShapes K) := by
  refine F.ok scShapes (fun vs H Q E h => ?_) (fun cdv A outer s H vs Q E hr h => ?_)
  · obtain ⟨b, c, p, cs, most, rfl, _⟩ := h
    rfl
  · obtain ⟨b, c, p, cs, most, rfl, hB, hp, hpb, h1, h6, hcs, hm, q⟩ := h
    refine ⟨_, pss_cons (ps_set (i := 3) scShapes.nd rfl (.inl rfl) (pe_lst pa_nil))
      (pss_cons (ps_for PassesOwn.never rfl (pi_range1 (by rfl) mr (pa_cons (pv 2) pa_nil)) (pg_name (i := 4) scShapes.nd rfl (.inl rfl))
        (pss_cons (ps_set (i := 5) scShapes.nd rfl (.inr rfl) (pe_call GS hr (by rfl) gS FS.kp bS .nil pass0 (pa_cons (pv 0) (pa_cons (pv 1) pa_nil))))
        (pss_one (ps_if (pt_val (pe_callB (cr_all rfl) (by rfl) ma (by decide +kernel) (pa_cons (pe_lc (own := [("_law_other", 6)]) (g := gName 6) (tt := tYes) rfl scShapes.nd (pi_list (pv 3))
            (blkOk_by (own := [("_law_other", 6)]) (N := nShapes) (sc := defScope sShapes) (by decide +kernel)) (fun _ _ _ _ _ => pg_name (i := 6) scShapes.nd rfl (Or.inl rfl)) (fun _ _ _ _ _ => pts_nil)
            (fun _ _ _ _ _ => pe_call GB hr (by rfl) gB FB.kp bB .nil pass0 (pa_cons (pv 5) (pa_cons (pv 6) pa_nil)))) pa_nil)))
          (pss_one (ps_expr (pe_bm PySem.F.plainAttrs_list PySem.F.slot_list_append PySem.F.type_list_append mt_append (pv 3) (pa_cons (pv 5) pa_nil)))) pss_nil))))
      (pss_one (ps_ret (pv 3)))), ?_⟩
    refine ⟨Nat.zero_le _, fun D nD => ?_⟩
    have hne := hB.ne nD
    refine ⟨.int (most : Nat), rfl, (most : Nat), rfl, by omega, by omega, ?_⟩
    rw [Int.toNat_natCast]
    refine for_range (lo := 0) (n := most) (fun i σ H' => ∃ (y4 y5 : Option V) (xs : List V) (fs : List (List Tri)), σ = [some (.ref b), some (.ref p), some (.int (most : Nat)), some (.ref D), y4, y5, none] ∧ Bag H' b c ∧ Off b H H' ∧ H' D = some (.lst xs) ∧ All2 (FigT K H') xs fs ∧ GoodB cs fs ∧ fs.length ≤ i ∧ (0 < i → fs ≠ []))
      ⟨none, none, [], [], rfl, hB.same (same_upd nD), Off.same (same_upd nD), upd_same, True.intro, ⟨fun f hf => (by cases hf), List.Pairwise.nil⟩, Nat.le_refl _, fun z => (by omega)⟩ ?_ ?_
    · rintro i σ H' hi ⟨y4, y5, xs, fs, rfl, hB4, off4, hD, hA, hG, hl, hne0⟩
      refine ⟨.ref b, rfl, .ref p, rfl, b, c, p, cs, rfl, hB4, off4 _ _ hpb hp, hpb, h1, h6, hcs, fun H5 v fg off5 hB5 hV hGf => ?_⟩
      have ts5 : TS K H' H5 := TS.bag off5 hB4
      have hD5 := off5 _ _ hne.1 hD
      have hA5 := hA.mono fun _ _ => FigT.ts ts5
      refine ⟨.ref D, rfl, D, rfl, ⟨_, SqL.of hD5⟩, fun D2 nD2 => ?_⟩
      have hgl := hGf.len
      refine lc_list (K := K) (a := D) (xs := xs) (fun j H' => Same H5 H' ∧ H' D2 = some (.lst (((fs.take j).map fun g => okB fg g).map V.bl))) ⟨same_upd nD2, upd_same⟩ (fun j H' _ hP => SqL.of (hP.1 _ _ hD5)) (fun j x H' hx hP => ?_) (fun H6 hP => ?_)
      · obtain ⟨sm, hD2⟩ := hP
        obtain ⟨g, hg, hgT⟩ := hA5.get hx
        have hgG := hG.all g (List.mem_of_getElem? hg)
        have hgl2 := hgG.len
        refine ⟨rfl, yesT ⟨v, rfl, x, rfl, v, x, fg, g, rfl, hV.ts (TS.of sm), hgT.ts (TS.of sm), by omega, by omega, fun H7 s7 => ?_⟩⟩
        refine ⟨_, s7 _ _ hD2, ?_, Same.offUpd (sm.trans s7) nD2, ?_⟩
        · rw [List.length_map, List.length_map, List.length_take]
          exact small1000 (by omega)
        · rw [upd_same, take_snoc hg, List.map_append, List.map_append]
          rfl
      · obtain ⟨sm, hD2⟩ := hP
        rw [hA5.len, List.take_length] at hD2
        refine ⟨D2, _, rfl, SqL.of hD2, _, rfl, ite2 (fun e => ?_) (fun e => ?_)⟩
        · have hD6 := sm _ _ hD5
          have hA6 := hA5.mono fun _ _ => FigT.ts (TS.of (K := K) sm)
          refine ⟨.ref D, rfl, .inl ⟨rfl, _, SqL.of hD6⟩, v, rfl, D, _, _, rfl, rfl, hD6, ?_, ?_⟩
          · rw [hA6.len]
            exact small1000 (by omega)
          · refine ⟨_, _, xs ++ [v], fs ++ [fg], rfl, (hB5.same sm).upd hne, ((off4.trans off5).trans (Off.same sm)).new nD, upd_same, ?_, ⟨?_, ?_⟩, ?_, fun _ z => by simp at z⟩
            · exact All2.snoc ((hV.ts (TS.of sm)).ts (TS.upd hD6)) (hA6.mono fun _ _ => FigT.ts (TS.upd hD6))
            · intro f hf
              rcases List.mem_append.mp hf with hf | hf
              · exact hG.all f hf
              · rw [List.mem_singleton.mp hf]
                exact hGf
            · rw [List.pairwise_append]
              refine ⟨hG.two, List.pairwise_singleton _ _, fun g hg f hf => ?_⟩
              rw [List.mem_singleton.mp hf]
              rw [List.all_map, List.all_eq_true] at e
              exact e g hg
            · rw [List.length_append]
              show fs.length + 1 ≤ i + 1
              omega
        · refine ⟨_, _, xs, fs, rfl, hB5.same sm, (off4.trans off5).trans (Off.same sm), sm _ _ hD5, hA5.mono fun _ _ => FigT.ts (TS.of sm), hG, by omega, fun _ z => e ?_⟩
          rw [z]
          rfl
    · rintro σ H' ⟨y4, y5, xs, fs, rfl, hB4, off4, hD, hA, hG, hl, hne0⟩
      exact ⟨.ref D, rfl, q H' D xs fs off4 hB4 nD hne.1 hD hA hG hl hne0⟩
end
/-! ### pads_of, mask_of, bar -/
def spPads (K : PySem.W.Frag) : Sp := fun vs H Q _ => ∃ (v : V) (f : List Tri), vs = [v] ∧ FigT K H v f ∧ f.length ≤ 100 ∧ ∀ (H' : Hp) (p : Addr), Same H H' → H p = none → H' p = some (.lst ((f.map (·.1)).map V.int)) → Q (.ref p) H'
abbrev sPadsOf : Stmt := topS 45
abbrev nPadsOf : List Str := ["figure", "pad", "note", "depth"]
theorem scPadsOf : FnScope nPadsOf ["figure"] (defScope sPadsOf) := ⟨rfl, rfl, rfl, by decide +kernel, rfl, by decide +kernel, by decide +kernel⟩
section
variable {P : Program} {w : World} {K : PySem.W.Frag} {mg : Str → Option Value} {base : Heap}
theorem ok_padsof {f : Addr} {fd : FuncData} {k : Nat} (F : Fun K "pads_of" "pads_of" sPadsOf f fd) : FnOk P w K mg base CX0 (k + 1) f fd ["figure"] (spPads K) := by
  refine F.ok scPadsOf (fun vs H Q E h => ?_) (fun cdv A outer s H vs Q E hr h => ?_)
  · obtain ⟨v, f, rfl, _⟩ := h
    rfl
  · obtain ⟨v, f, rfl, hV, hfl, q⟩ := h
    obtain ⟨a, xs, rfl, ha, hxs⟩ := hV
    refine ⟨_, pss_one (ps_ret (pe_lc (own := [("pad", 1), ("note", 2), ("depth", 3)]) (g := g3 K 1 2 3) (tt := tYes) rfl scPadsOf.nd (pi_tup (pv 0))
        (blkOk_by (own := [("pad", 1), ("note", 2), ("depth", 3)]) (N := nPadsOf) (sc := defScope sPadsOf) (by decide +kernel))
        (fun _ _ _ _ _ => pg_tup rfl (pgs_cons (pg_name (i := 1) scPadsOf.nd rfl (.inl rfl)) (pgs_cons (pg_name (i := 2) scPadsOf.nd rfl (.inl rfl)) (pgs_cons (pg_name (i := 3) scPadsOf.nd rfl (.inl rfl)) pgs_nil)))) (fun _ _ _ _ _ => pts_nil)
        (fun _ _ _ _ _ => pv 1))), ?_⟩
    refine ⟨.ref a, rfl, a, rfl, ⟨_, ha⟩, fun D nD => ?_⟩
    refine lc_tup (K := K) (a := a) (xs := xs) (fun i H' => Same H H' ∧ H' D = some (.lst (((f.take i).map (·.1)).map V.int))) ⟨same_upd nD, upd_same⟩ (fun i H' _ hP => Same.tup hP.1 ha) (fun i x H' hx hP => ?_) (fun H1 hP => ?_)
    · obtain ⟨sm, hD⟩ := hP
      obtain ⟨t, ht, tp, rfl, htp⟩ := hxs.get hx
      refine ⟨tp, triV t, rfl, Same.tup sm htp, rfl, _, _, rfl, _, _, rfl, _, _, rfl, rfl, rfl, yesT ⟨_, rfl, _, hD, ?_, Same.offUpd sm nD, ?_⟩⟩
      · rw [List.length_map, List.length_map, List.length_take]
        exact small1000 (by omega)
      · rw [upd_same, take_snoc ht, List.map_append, List.map_append]
        rfl
    · obtain ⟨sm, hD⟩ := hP
      rw [hxs.len, List.take_length] at hD
      exact q H1 D sm nD hD
end
theorem inV_ints (p : Int) (qs : List Int) : inV (.int p) (qs.map V.int) = qs.any fun r => decide (r = p) := by
  unfold inV
  rw [List.any_map]
  congr 1
theorem flat_ints (qs : List Int) : (qs.map V.int).all flatV = true := by
  rw [List.all_map, List.all_eq_true]
  intro x _
  rfl
/-! ### mask_of -/
def spMask (K : PySem.W.Frag) : Sp := fun vs H Q _ => ∃ (v : V) (f : List Tri), vs = [v] ∧ FigT K H v f ∧ f.length ≤ 100 ∧ PadsUp f ∧ ∀ H' : Hp, Same H H' → Q (.int (maskN f : Nat)) H'
abbrev sMask : Stmt := topS 46
abbrev nMask : List Str := ["figure", "pad", "note", "depth"]
theorem scMask : FnScope nMask ["figure"] (defScope sMask) := ⟨rfl, rfl, rfl, by decide +kernel, rfl, by decide +kernel, by decide +kernel⟩
def masksI (f : List Tri) : List Int := f.map fun t => 1 * 2 ^ t.1.toNat
theorem masksI_sum (f : List Tri) : (masksI f).sum = (maskN f : Nat) := by
  unfold masksI maskN
  induction f with
  | nil => rfl
  | cons t r ih =>
    rw [List.map_cons, List.sum_cons, List.map_cons, List.sum_cons, ih]
    push_cast
    omega
section
variable {P : Program} {w : World} {K : PySem.W.Frag} {mg : Str → Option Value} {base : Heap}
theorem ok_mask {f : Addr} {fd : FuncData} {k : Nat} (F : Fun K "mask_of" "mask_of" sMask f fd) (ms : mg "sum" = none) : FnOk P w K mg base CX0 (k + 1) f fd ["figure"] (spMask K) := by
  refine F.ok scMask (fun vs H Q E h => ?_) (fun cdv A outer s H vs Q E hr h => ?_)
  · obtain ⟨v, f, rfl, _⟩ := h
    rfl
  · obtain ⟨v, f, rfl, hV, hfl, hU, q⟩ := h
    obtain ⟨a, xs, rfl, ha, hxs⟩ := hV
    refine ⟨_, pss_one (ps_ret (pe_callB (cr_sum rfl) (by rfl) ms (by decide +kernel) (pa_cons (pe_lc (own := [("pad", 1), ("note", 2), ("depth", 3)]) (g := g3 K 1 2 3) (tt := tYes) rfl scMask.nd (pi_tup (pv 0))
        (blkOk_by (own := [("pad", 1), ("note", 2), ("depth", 3)]) (N := nMask) (sc := defScope sMask) (by decide +kernel))
        (fun _ _ _ _ _ => pg_tup rfl (pgs_cons (pg_name (i := 1) scMask.nd rfl (.inl rfl)) (pgs_cons (pg_name (i := 2) scMask.nd rfl (.inl rfl)) (pgs_cons (pg_name (i := 3) scMask.nd rfl (.inl rfl)) pgs_nil)))) (fun _ _ _ _ _ => pts_nil)
        (fun _ _ _ _ _ => pe_op op_shl pe_int (pv 1))) pa_nil))), ?_⟩
    refine ⟨.ref a, rfl, a, rfl, ⟨_, ha⟩, fun D nD => ?_⟩
    refine lc_tup (K := K) (a := a) (xs := xs) (fun i H' => Same H H' ∧ H' D = some (.lst ((masksI (f.take i)).map V.int))) ⟨same_upd nD, upd_same⟩ (fun i H' _ hP => Same.tup hP.1 ha) (fun i x H' hx hP => ?_) (fun H1 hP => ?_)
    · obtain ⟨sm, hD⟩ := hP
      obtain ⟨t, ht, tp, rfl, htp⟩ := hxs.get hx
      have m := List.mem_of_getElem? ht
      have b1 := hU.lo t m
      have b2 := hU.hi t m
      refine ⟨tp, triV t, rfl, Same.tup sm htp, rfl, _, _, rfl, _, _, rfl, _, _, rfl, rfl, rfl, yesT ⟨_, rfl, 1, t.1, rfl, rfl, ⟨b1, by omega, by decide⟩, _, hD, ?_, Same.offUpd sm nD, ?_⟩⟩
      · unfold masksI
        rw [List.length_map, List.length_map, List.length_take]
        exact small1000 (by omega)
      · unfold masksI
        rw [upd_same, take_snoc ht, List.map_append, List.map_append]
        rfl
    · obtain ⟨sm, hD⟩ := hP
      rw [hxs.len, List.take_length] at hD
      refine ⟨D, _, rfl, SqL.of hD, ?_⟩
      rw [masksI_sum]
      exact q H1 sm
end
def spBar (K : PySem.W.Frag) : Sp := fun vs H Q _ => ∃ (v u : V) (f g : List Tri), vs = [v, u] ∧ FigT K H v f ∧ FigT K H u g ∧ f.length ≤ 100 ∧ g.length ≤ 100 ∧ ∀ H', Same H H' → Q (.bl (barB f g)) H'
abbrev sBar : Stmt := topS 47
abbrev nBar : List Str := ["one", "other", "wanted", "pad", "note", "depth"]
theorem scBar : FnScope nBar ["one", "other"] (defScope sBar) := ⟨rfl, rfl, rfl, by decide +kernel, rfl, by decide +kernel, by decide +kernel⟩
section
variable {P : Program} {w : World} {K : PySem.W.Frag} {mg : Str → Option Value} {base : Heap}
theorem ok_bar {f : Addr} {fd : FuncData} {k : Nat} (F : Fun K "bar" "bar" sBar f fd) (ma : mg "any" = none) : FnOk P w K mg base CX0 (k + 1) f fd ["one", "other"] (spBar K) := by
  refine F.ok scBar (fun vs H Q E h => ?_) (fun cdv A outer s H vs Q E hr h => ?_)
  · obtain ⟨v, u, f, g, rfl, _⟩ := h
    rfl
  · obtain ⟨v, u, f, g, rfl, hV, hU, hfl, hgl, q⟩ := h
    obtain ⟨a, xs, rfl, ha, hxs⟩ := hV
    obtain ⟨b, ys, rfl, hb, hys⟩ := hU
    refine ⟨_, pss_cons (ps_set (i := 2) scBar.nd rfl (.inr rfl) (pe_dc (own := [("pad", 3), ("note", 4), ("depth", 5)]) (g := g3 K 3 4 5) (tt := tYes) rfl scBar.nd (pi_tup (pv 0))
        (blkOk_by (own := [("pad", 3), ("note", 4), ("depth", 5)]) (N := nBar) (sc := defScope sBar) (by decide +kernel))
        (fun _ _ _ _ _ => pg_tup rfl (pgs_cons (pg_name (i := 3) scBar.nd rfl (.inl rfl)) (pgs_cons (pg_name (i := 4) scBar.nd rfl (.inl rfl)) (pgs_cons (pg_name (i := 5) scBar.nd rfl (.inl rfl)) pgs_nil)))) (fun _ _ _ _ _ => pts_nil)
        (fun _ _ _ _ _ => pv 3) (fun _ _ _ _ _ => pv 4)))
      (pss_one (ps_ret (pe_callB (cr_any rfl) (by rfl) ma (by decide +kernel) (pa_cons (pe_lc (own := [("pad", 3), ("note", 4), ("depth", 5)]) (g := g3 K 3 4 5) (tt := tYes) rfl scBar.nd (pi_tup (pv 1))
        (blkOk_by (own := [("pad", 3), ("note", 4), ("depth", 5)]) (N := nBar) (sc := defScope sBar) (by decide +kernel))
        (fun _ _ _ _ _ => pg_tup rfl (pgs_cons (pg_name (i := 3) scBar.nd rfl (.inl rfl)) (pgs_cons (pg_name (i := 4) scBar.nd rfl (.inl rfl)) (pgs_cons (pg_name (i := 5) scBar.nd rfl (.inl rfl)) pgs_nil)))) (fun _ _ _ _ _ => pts_nil)
        (fun _ _ _ _ _ => pe_cmpR op_ne (pe_dget2 (hu_of hr) (pv 2) (pv 3) (pv 4) ⟨rfl, rfl, rfl, rfl⟩) (pv 4) (nomark _))) pa_nil)))), ?_⟩
    refine ⟨.ref a, rfl, a, rfl, ⟨_, ha⟩, fun D nD => ?_⟩
    refine dc_tup (K := K) (a := a) (xs := xs) (fun i H' => Same H H' ∧ H' D = some (.dK (mergeK [] (kvsOf (f.take i))))) ⟨same_upd nD, upd_same⟩ (fun i H' _ hP => Same.tup hP.1 ha) (fun i x H' hx hP => ?_) (fun H1 hP => ?_)
    · obtain ⟨sm, hD⟩ := hP
      obtain ⟨t, ht, tp, rfl, htp⟩ := hxs.get hx
      refine ⟨tp, triV t, rfl, Same.tup sm htp, rfl, _, _, rfl, _, _, rfl, _, _, rfl, rfl, rfl, yesT ⟨_, rfl, _, rfl, _, Sum.inl t.1, rfl, hD, ?_, Same.offUpd sm nD, ?_⟩⟩
      · have := merge_len (f.take i)
        rw [List.length_take] at this
        exact small1000 (by omega)
      · rw [upd_same, take_snoc ht, merge_snoc]
    · obtain ⟨s1, hD⟩ := hP
      rw [hxs.len, List.take_length] at hD
      refine ⟨.ref b, rfl, b, rfl, ⟨_, Same.tup s1 hb⟩, fun D2 nD2 => ?_⟩
      refine lc_tup (K := K) (a := b) (xs := ys) (fun i H' => Same H1 H' ∧ H' D2 = some (.lst (((g.take i).map fun u => !decide ((noteOf f u.1).getD u.2.1 = u.2.1)).map V.bl))) ⟨same_upd nD2, upd_same⟩ (fun i H' _ hP => Same.tup (s1.trans hP.1) hb) (fun i x H' hx hP => ?_) (fun H2 hP => ?_)
      · obtain ⟨sm, hD2⟩ := hP
        obtain ⟨t, ht, tp, rfl, htp⟩ := hys.get hx
        refine ⟨tp, triV t, rfl, Same.tup (s1.trans sm) htp, rfl, _, _, rfl, _, _, rfl, _, _, rfl, rfl, rfl, yesT ?_⟩
        refine ⟨_, rfl, D, rfl, .inl ⟨_, .inl (sm _ _ hD)⟩, _, rfl, _, rfl, _, DGet.k (k := Sum.inl t.1) (sm _ _ hD), _, rfl, ?_⟩
        rw [val_fig]
        have ev : (((noteOf f t.1).map V.int).getD (V.int t.2.1)) = V.int ((noteOf f t.1).getD t.2.1) := by
          cases noteOf f t.1 <;> rfl
        rw [ev]
        refine ⟨rfl, _, hD2, ?_, Same.offUpd sm nD2, ?_⟩
        · rw [List.length_map, List.length_map, List.length_take]
          exact small1000 (by omega)
        · rw [upd_same, take_snoc ht, List.map_append, List.map_append]
          have : (!decide (V.int ((noteOf f t.1).getD t.2.1) = V.int t.2.1)) = (!decide ((noteOf f t.1).getD t.2.1 = t.2.1)) := by
            congr 1
            rw [decide_eq_decide]
            exact ⟨fun z => V.int.inj z, fun z => by rw [z]⟩
          rw [this]
          rfl
      · obtain ⟨sm, hD2⟩ := hP
        rw [hys.len, List.take_length] at hD2
        refine ⟨D2, _, rfl, SqL.of hD2, ?_⟩
        have := q _ (s1.trans sm)
        unfold barB at this
        rw [List.any_map]
        exact this
end
/-! ### is_triple, is_figure -/
def spIsTri (K : PySem.W.Frag) : Sp := fun vs H Q _ => ∃ (a : Addr) (cs : List Int) (v : V) (t : Tri), vs = [.ref a, v] ∧ (SqL K H a (cs.map V.int) ∨ SqT K H a (cs.map V.int)) ∧ TriAt K H v t ∧ GoodT cs t ∧ ∀ H', Same H H' → Q (.bl true) H'
abbrev sIsTri : Stmt := topS 42
abbrev nIsTri : List Str := ["colours", "triple", "pad", "note", "depth"]
theorem scIsTri : FnScope nIsTri ["colours", "triple"] (defScope sIsTri) := ⟨rfl, rfl, rfl, by decide +kernel, rfl, by decide +kernel, by decide +kernel⟩
section
variable {P : Program} {w : World} {K : PySem.W.Frag} {mg : Str → Option Value} {base : Heap}
theorem ok_istri {f : Addr} {fd : FuncData} {k : Nat} {tkD : Tok} (F : Fun K "is_triple" "is_triple" sIsTri f fd) (ml : mg "len" = none) (mD : mg "MOST_DEPTH" = some (.int 3 tkD)) : FnOk P w K mg base CX0 (k + 1) f fd ["colours", "triple"] (spIsTri K) := by
  refine F.ok scIsTri (fun vs H Q E h => ?_) (fun cdv A outer s H vs Q E hr h => ?_)
  · obtain ⟨a, cs, v, t, rfl, _⟩ := h
    rfl
  · obtain ⟨a, cs, v, t, rfl, ha, ⟨tp, rfl, htp⟩, hG, q⟩ := h
    refine ⟨_, pss_cons (ps_if (pt_cmpR op_ne (pe_callB call_lenQ (by rfl) ml PySem.boot_len (pa_cons (pv 1) pa_nil)) pe_int (nomark _)) (pss_one (ps_ret pe_bl)) pss_nil)
      (pss_cons (ps_asg (pv 1) (pg_tup rfl (pgs_cons (pg_name (i := 2) scIsTri.nd rfl (.inl rfl)) (pgs_cons (pg_name (i := 3) scIsTri.nd rfl (.inl rfl)) (pgs_cons (pg_name (i := 4) scIsTri.nd rfl (.inl rfl)) pgs_nil)))))
      (pss_one (ps_ret (pe_and (pe_chain op_le op_lt pe_int (pv 2) (pe_callB call_lenQ (by rfl) ml PySem.boot_len (pa_cons (pv 0) pa_nil)))
        (pe_and (pe_chain op_le op_lt pe_int (pv 3) (pe_ix ix_seq (pv 0) (pv 2) (fun _ _ => rfl))) (pe_one (pe_chain op_le op_le pe_int (pv 4) (pe_glob (v := .int 3) (by rfl) mD ⟨_, rfl⟩)))))))), ?_⟩
    refine ⟨.ref tp, rfl, tp, _, rfl, .inr htp, rfl, _, rfl, iteNS rfl ?_⟩
    refine ⟨.ref tp, rfl, tp, _, rfl, htp, rfl, _, _, rfl, _, _, rfl, _, _, rfl, rfl, ?_⟩
    have d1 : decide ((0 : Int) ≤ t.1) = true := decide_eq_true hG.p0
    have d2 : decide (t.1 < (((cs.map V.int).length : Nat) : Int)) = true := decide_eq_true (by rw [List.length_map]; exact hG.p1)
    have d3 : decide ((0 : Int) ≤ t.2.1) = true := decide_eq_true hG.n0
    have d4 : decide (t.2.1 < cs.getD t.1.toNat 0) = true := decide_eq_true hG.n1
    have d5 : decide ((1 : Int) ≤ t.2.2) = true := decide_eq_true hG.d0
    have d6 : decide (t.2.2 ≤ (3 : Int)) = true := decide_eq_true hG.d1
    have hp0 := hG.p0
    have hp1 := hG.p1
    have e0 : ((t.1.toNat : Nat) : Int) = t.1 := Int.toNat_of_nonneg hp0
    have hi : t.1.toNat < cs.length := by omega
    have hread : ∀ Q : VK, Q (.int (cs.getD t.1.toNat 0)) H → rIx K (.ref a) (.int t.1) H Q := fun Q z => by
      have g := cs_at hi
      rw [e0] at g
      rcases ha with ha | ha
      · exact .inl ⟨a, _, _, _, rfl, rfl, ha, g, z⟩
      · exact .inr (.inl ⟨a, _, _, _, rfl, rfl, ha, g, z⟩)
    refine ⟨.int t.1, rfl, 0, t.1, rfl, rfl, _, rfl, ?_⟩
    rw [d1]
    refine iteT ⟨.ref a, rfl, a, _, rfl, ha, t.1, _, rfl, rfl, _, rfl, ?_⟩
    rw [d2]
    refine iteT ⟨.int t.2.1, rfl, 0, t.2.1, rfl, rfl, _, rfl, ?_⟩
    rw [d3]
    refine iteT ⟨.ref a, rfl, .int t.1, rfl, hread _ ⟨t.2.1, _, rfl, rfl, _, rfl, ?_⟩⟩
    rw [d4]
    refine iteT ⟨.int t.2.2, rfl, 1, t.2.2, rfl, rfl, _, rfl, ?_⟩
    rw [d5]
    refine iteT ⟨t.2.2, 3, rfl, rfl, ?_⟩
    show Q (V.bl (decide (t.2.2 ≤ (3 : Int)))) H
    rw [d6]
    exact q _ (Same.refl _)
end
def spIsFig (K : PySem.W.Frag) : Sp := fun vs H Q _ => ∃ (a : Addr) (cs : List Int) (v : V) (f : List Tri), vs = [.ref a, v] ∧ (SqL K H a (cs.map V.int) ∨ SqT K H a (cs.map V.int)) ∧ FigT K H v f ∧ GoodF cs f ∧ f.length ≤ 100 ∧ ∀ H', Same H H' → Q (.bl true) H'
abbrev sIsFig : Stmt := topS 41
abbrev nIsFig : List Str := ["colours", "figure", "pads", "triple", "pad", "later"]
theorem scIsFig : FnScope nIsFig ["colours", "figure"] (defScope sIsFig) := ⟨rfl, rfl, rfl, by decide +kernel, rfl, by decide +kernel, by decide +kernel⟩
section
variable {P : Program} {w : World} {K : PySem.W.Frag} {mg : Str → Option Value} {base : Heap}
theorem ok_isfig {f fT fP : Addr} {fd fdT fdP : FuncData} {k : Nat} {tkD : Tok} (F : Fun K "is_figure" "is_figure" sIsFig f fd) (ml : mg "len" = none) (ma : mg "all" = none) (mz : mg "zip" = none) (mD : mg "MOST_DEPTH" = some (.int 3 tkD))
    (FT : Fun K "is_triple" "is_triple" sIsTri fT fdT) (bT : Binds K fdT ["colours", "triple"] []) (gT : mg "is_triple" = some (.ref fT))
    (FP : Fun K "pads_of" "pads_of" sPadsOf fP fdP) (bP : Binds K fdP ["figure"] []) (gP : mg "pads_of" = some (.ref fP)) : FnOk P w K mg base CX0 (k + 2) f fd ["colours", "figure"] (spIsFig K) := by
  have GT : FnOk P w K mg base CX0 (k + 1) fT fdT ["colours", "triple"] (spIsTri K) := ok_istri FT ml mD
  have GP : FnOk P w K mg base CX0 (k + 1) fP fdP ["figure"] (spPads K) := ok_padsof FP
  refine F.ok scIsFig (fun vs H Q E h => ?_) (fun cdv A outer s H vs Q E hr h => ?_)
  · obtain ⟨a, cs, v, f, rfl, _⟩ := h
    rfl
  · obtain ⟨a, cs, v, f, rfl, ha, hV, hG, hfl, q⟩ := h
    obtain ⟨b, xs, rfl, hb, hxs⟩ := id hV
    refine ⟨_, pss_cons (ps_if (PW.pt (pw_or (pt_cmpR op_eq (pe_callB call_lenQ (by rfl) ml PySem.boot_len (pa_cons (pv 1) pa_nil)) pe_int (nomark _))
        (pw_or1 (pt_not (pt_val (pe_callB (cr_all rfl) (by rfl) ma (by decide +kernel) (pa_cons (pe_lc (own := [("triple", 3)]) (g := gName 3) (tt := tYes) rfl scIsFig.nd (pi_tup (pv 1))
          (blkOk_by (own := [("triple", 3)]) (N := nIsFig) (sc := defScope sIsFig) (by decide +kernel)) (fun _ _ _ _ _ => pg_name (i := 3) scIsFig.nd rfl (.inl rfl)) (fun _ _ _ _ _ => pts_nil)
          (fun _ _ _ _ _ => pe_call GT hr (by rfl) gT FT.kp bT .nil pass0 (pa_cons (pv 0) (pa_cons (pv 3) pa_nil)))) pa_nil))))))) (pss_one (ps_ret pe_bl)) pss_nil)
      (pss_cons (ps_set (i := 2) scIsFig.nd rfl (.inl rfl) (pe_call GP hr (by rfl) gP FP.kp bP .nil pass0 (pa_cons (pv 1) pa_nil)))
      (pss_one (ps_ret (pe_callB (cr_all rfl) (by rfl) ma (by decide +kernel) (pa_cons (pe_lc (own := [("pad", 4), ("later", 5)]) (g := g2 K 4 5) (tt := tYes) rfl scIsFig.nd (pi_zip (by rfl) mz (pa_cons (pv 2) (pa_cons (pe_slice sl_list (pv 2) (po_some pe_int) po_none) pa_nil)))
        (blkOk_by (own := [("pad", 4), ("later", 5)]) (N := nIsFig) (sc := defScope sIsFig) (by decide +kernel))
        (fun _ _ _ _ _ => pg_tup rfl (pgs_cons (pg_name (i := 4) scIsFig.nd rfl (.inl rfl)) (pgs_cons (pg_name (i := 5) scIsFig.nd rfl (.inl rfl)) pgs_nil))) (fun _ _ _ _ _ => pts_nil)
        (fun _ _ _ _ _ => pe_cmpR op_lt (pv 4) (pv 5) (nomark _))) pa_nil))))), ?_⟩
    have hlen : 0 < f.length := List.length_pos_iff.mpr hG.ne
    have hxl := hxs.len
    refine ⟨.ref b, rfl, b, _, rfl, .inr hb, rfl, _, rfl, ?_⟩
    rw [decide_eq_false (fun z => by have := V.int.inj z; omega)]
    refine iteF ?_
    refine ⟨.ref b, rfl, b, rfl, ⟨_, hb⟩, fun D nD => ?_⟩
    refine lc_tup (K := K) (a := b) (xs := xs) (fun i H' => Same H H' ∧ H' D = some (.lst ((List.replicate i true).map V.bl))) ⟨same_upd nD, upd_same⟩ (fun i H' _ hP => Same.tup hP.1 hb) (fun i x H' hx hP => ?_) (fun H1 hP => ?_)
    · obtain ⟨sm, hD⟩ := hP
      obtain ⟨t, ht, htp⟩ := hxs.get hx
      have hi : i < xs.length := (List.getElem?_eq_some_iff.mp hx).1
      refine ⟨rfl, yesT ⟨.ref a, rfl, x, rfl, a, cs, x, t, rfl, same_any sm ha, htp.ts (TS.of sm), hG.all t (List.mem_of_getElem? ht), fun H2 s2 => ⟨_, s2 _ _ hD, ?_, Same.offUpd (sm.trans s2) nD, ?_⟩⟩⟩
      · rw [List.length_map, List.length_replicate]
        exact small1000 (by omega)
      · rw [upd_same, List.replicate_succ', List.map_append]
        rfl
    · obtain ⟨s1, hD⟩ := hP
      refine ⟨D, _, rfl, SqL.of hD, ?_⟩
      rw [show (List.replicate xs.length true).all id = true by simp]
      refine ⟨_, rfl, iteF ?_⟩
      refine ⟨_, rfl, _, f, rfl, hV.ts (TS.of s1), hfl, fun H2 p s2 _ hp => ?_⟩
      refine ⟨.ref p, rfl, .ref p, rfl, 1, rfl, p, _, rfl, SqL.of hp, fun p2 np2 => ?_⟩
      rw [show (some (1 : Int)) = some ((1 : Nat) : Int) from rfl, cutV_from]
      have s3 := same_upd (o := .lst (((f.map (·.1)).map V.int).drop 1)) np2
      refine ⟨p, p2, _, _, rfl, SqL.of (s3 _ _ hp), SqL.of upd_same, fun D2 nD2 => ?_⟩
      have hp3 := s3 _ _ hp
      have hp23 : (upd H2 p2 (.lst (((f.map (·.1)).map V.int).drop 1))) p2 = some (.lst (((f.map (·.1)).map V.int).drop 1)) := upd_same
      have s123 := (s1.trans s2).trans s3
      generalize upd H2 p2 (.lst (((f.map (·.1)).map V.int).drop 1)) = H3 at hp3 hp23 s123 nD2 ⊢
      refine lc_it (walk_zip (K := K) (a := p) (b := p2) (xs := (f.map (·.1)).map V.int) (ys := ((f.map (·.1)).map V.int).drop 1) rfl) (fun i H' => Same H3 H' ∧ H' D2 = some (.lst ((List.replicate i true).map V.bl))) ⟨same_upd nD2, upd_same⟩ (fun i H' _ hP => ⟨SqL.of (hP.1 _ _ hp3), SqL.of (hP.1 _ _ hp23)⟩) (fun i v H' H'' hi hP hY => ?_) (fun H4 hP => ?_)
      · obtain ⟨sm, hD2⟩ := hP
        obtain ⟨T, x, y, rfl, nT, rfl, hx, hy⟩ := hY
        have u1 := same_upd (o := .tup [x, y]) nT
        rw [List.length_drop, List.length_map, List.length_map] at hi
        have h1 : i < (f.map (·.1)).length := by rw [List.length_map]; omega
        have h2 : i + 1 < (f.map (·.1)).length := by rw [List.length_map]; omega
        have ex : x = .int (f.map (·.1))[i] := by
          have hx : ((f.map (·.1)).map V.int)[i]? = some x := hx
          rw [List.getElem?_map, List.getElem?_eq_getElem h1] at hx
          exact (Option.some.inj hx).symm
        have ey : y = .int (f.map (·.1))[i + 1] := by
          have hy : (((f.map (·.1)).map V.int).drop 1)[i]? = some y := hy
          rw [List.getElem?_drop, Nat.add_comm 1 i, List.getElem?_map, List.getElem?_eq_getElem h2] at hy
          exact (Option.some.inj hy).symm
        have hlt := List.pairwise_iff_getElem.mp hG.up i (i + 1) h1 h2 (Nat.lt_succ_self i)
        have hD2' := u1 _ _ hD2
        refine ⟨T, [x, y], rfl, SqT.of upd_same, rfl, x, _, rfl, y, _, rfl, rfl, rfl, yesT ⟨x, rfl, y, rfl, _, _, ex, ey, ?_⟩⟩
        refine ⟨_, hD2', ?_, Same.offUpd (sm.trans u1) nD2, ?_⟩
        · rw [List.length_map, List.length_replicate]
          exact small1000 (by omega)
        · rw [upd_same, List.replicate_succ', List.map_append]
          show some (HO.lst (_ ++ [V.bl (decide ((f.map (·.1))[i] < (f.map (·.1))[i + 1]))])) = _
          rw [decide_eq_true hlt]
          rfl
      · obtain ⟨sm, hD2⟩ := hP
        refine ⟨D2, _, rfl, SqL.of hD2, ?_⟩
        have e : (List.replicate (min ((f.map (·.1)).map V.int).length (((f.map (·.1)).map V.int).drop 1).length) true).all id = true := by simp
        rw [e]
        exact q _ (s123.trans sm)
end
/-! ### check_colours, check_figures, check_meetings, copy_of_figure -/
def GoodC (cs : List Int) : Prop := 1 ≤ cs.length ∧ cs.length ≤ 6 ∧ ∀ x ∈ cs, (1 : Int) ≤ x ∧ x ≤ 4
def spCCol (K : PySem.W.Frag) : Sp := fun vs H Q _ => ∃ (a : Addr) (cs : List Int), vs = [.ref a] ∧ SqL K H a (cs.map V.int) ∧ GoodC cs ∧ ∀ H', Same H H' → Q .non H'
abbrev sCCol : Stmt := topS 39
abbrev nCCol : List Str := ["colours", "at", "many"]
theorem scCCol : FnScope nCCol ["colours"] (defScope sCCol) := ⟨rfl, rfl, rfl, by decide +kernel, rfl, by decide +kernel, by decide +kernel⟩
section
variable {P : Program} {w : World} {K : PySem.W.Frag} {mg : Str → Option Value} {base : Heap}
theorem ok_ccol {f : Addr} {fd : FuncData} {k : Nat} {tkP tkC : Tok} (F : Fun K "check_colours" "check_colours" sCCol f fd) (ml : mg "len" = none) (me : mg "enumerate" = none) (mP : mg "MOST_PADS" = some (.int 6 tkP)) (mC : mg "MOST_COLOURS" = some (.int 4 tkC)) : FnOk P w K mg base CX0 (k + 1) f fd ["colours"] (spCCol K) := by
  refine F.ok scCCol (fun vs H Q E h => ?_) (fun cdv A outer s H vs Q E hr h => ?_)
  · obtain ⟨a, cs, rfl, _⟩ := h
    rfl
  · obtain ⟨a, cs, rfl, ha, hG, q⟩ := h
    refine ⟨_, pss_cons (ps_if (pt_not (pt_chain op_le op_le pe_int (pe_callB call_lenQ (by rfl) ml PySem.boot_len (pa_cons (pv 0) pa_nil)) (pe_glob (v := .int 6) (by rfl) mP ⟨_, rfl⟩))) (pss_one ps_never) pss_nil)
      (pss_one (ps_for PassesOwn.never rfl (pi_enum (by rfl) me (pa_cons (pv 0) pa_nil)) (pg_tup rfl (pgs_cons (pg_name (i := 1) scCCol.nd rfl (.inl rfl)) (pgs_cons (pg_name (i := 2) scCCol.nd rfl (.inl rfl)) pgs_nil)))
        (pss_one (ps_if (pt_not (pt_chain op_le op_le pe_int (pv 2) (pe_glob (v := .int 4) (by rfl) mC ⟨_, rfl⟩))) (pss_one ps_never) pss_nil)))), ?_⟩
    obtain ⟨h1, h6, hc⟩ := hG
    have d1 : decide ((1 : Int) ≤ (((cs.map V.int).length : Nat) : Int)) = true := decide_eq_true (by rw [List.length_map]; omega)
    have d2 : (((cs.map V.int).length : Nat) : Int) ≤ (6 : Int) := by rw [List.length_map]; omega
    refine ⟨.ref a, rfl, a, _, rfl, .inl ha, 1, _, rfl, rfl, _, rfl, ?_⟩
    rw [d1]
    refine iteT ⟨_, 6, rfl, rfl, _, rfl, iteNS d2 ?_⟩
    refine ⟨.ref a, rfl, a, _, rfl, ha, ?_⟩
    refine for_it (walk_enum (K := K) (a := a) (xs := cs.map V.int)) (fun i σ H' => ∃ (y1 y2 : Option V), σ = [some (.ref a), y1, y2] ∧ Same H H') ⟨none, none, rfl, Same.refl H⟩ (fun i σ H' _ hP => ?_) (fun i v σ H' H'' hi hP hY => ?_) (fun σ H' hP => ?_)
    · obtain ⟨_, _, _, sm⟩ := hP
      exact sm.seq ha
    · obtain ⟨y1, y2, rfl, sm⟩ := hP
      obtain ⟨T, x, y, rfl, nT, rfl, hx, hy⟩ := hY
      have u1 := same_upd (o := .tup [x, y]) nT
      rw [List.length_map] at hi
      have ey : y = .int cs[i] := by
        have hy : (cs.map V.int)[i]? = some y := hy
        rw [List.getElem?_map, List.getElem?_eq_getElem hi] at hy
        exact (Option.some.inj hy).symm
      subst ey
      have hci := hc _ (List.getElem_mem hi)
      refine ⟨T, _, rfl, SqT.of upd_same, rfl, x, _, rfl, _, _, rfl, rfl, ?_⟩
      refine ⟨_, rfl, 1, cs[i], rfl, rfl, _, rfl, ?_⟩
      rw [decide_eq_true hci.1]
      exact iteT ⟨cs[i], 4, rfl, rfl, _, rfl, iteNS hci.2 ⟨_, _, rfl, sm.trans u1⟩⟩
    · obtain ⟨y1, y2, rfl, sm⟩ := hP
      exact q _ sm
end
def spCFig (K : PySem.W.Frag) : Sp := fun vs H Q _ => ∃ (a b : Addr) (cs : List Int) (xs : List V) (fs : List (List Tri)), vs = [.ref a, .ref b] ∧ (SqL K H a (cs.map V.int) ∨ SqT K H a (cs.map V.int)) ∧ SqL K H b xs ∧ All2 (FigT K H) xs fs ∧ GoodB cs fs ∧ cs.length ≤ 6 ∧ ∀ H', Same H H' → Q .non H'
abbrev sCFig : Stmt := topS 40
abbrev nCFig : List Str := ["colours", "figures", "at", "figure"]
theorem scCFig : FnScope nCFig ["colours", "figures"] (defScope sCFig) := ⟨rfl, rfl, rfl, by decide +kernel, rfl, by decide +kernel, by decide +kernel⟩
section
variable {P : Program} {w : World} {K : PySem.W.Frag} {mg : Str → Option Value} {base : Heap}
theorem ok_cfig {f fI : Addr} {fd fdI : FuncData} {k : Nat} (F : Fun K "check_figures" "check_figures" sCFig f fd) (me : mg "enumerate" = none)
    (FI : Fun K "is_figure" "is_figure" sIsFig fI fdI) (bI : Binds K fdI ["colours", "figure"] []) (gI : mg "is_figure" = some (.ref fI)) (GI : FnOk P w K mg base CX0 k fI fdI ["colours", "figure"] (spIsFig K)) : FnOk P w K mg base CX0 (k + 1) f fd ["colours", "figures"] (spCFig K) := by
  refine F.ok scCFig (fun vs H Q E h => ?_) (fun cdv A outer s H vs Q E hr h => ?_)
  · obtain ⟨a, b, cs, xs, fs, rfl, _⟩ := h
    rfl
  · obtain ⟨a, b, cs, xs, fs, rfl, ha, hb, hA, hG, h6, q⟩ := h
    refine ⟨_, pss_one (ps_for PassesOwn.never rfl (pi_enum (by rfl) me (pa_cons (pv 1) pa_nil)) (pg_tup rfl (pgs_cons (pg_name (i := 2) scCFig.nd rfl (.inl rfl)) (pgs_cons (pg_name (i := 3) scCFig.nd rfl (.inl rfl)) pgs_nil)))
        (pss_one (ps_if (pt_not (pt_val (pe_call GI hr (by rfl) gI FI.kp bI .nil pass0 (pa_cons (pv 0) (pa_cons (pv 3) pa_nil))))) (pss_one ps_never) pss_nil))), ?_⟩
    refine ⟨.ref b, rfl, b, _, rfl, hb, ?_⟩
    refine for_it (walk_enum (K := K) (a := b) (xs := xs)) (fun i σ H' => ∃ (y1 y2 : Option V), σ = [some (.ref a), some (.ref b), y1, y2] ∧ Same H H') ⟨none, none, rfl, Same.refl H⟩ (fun i σ H' _ hP => ?_) (fun i v σ H' H'' hi hP hY => ?_) (fun σ H' hP => ?_)
    · obtain ⟨_, _, _, sm⟩ := hP
      exact sm.seq hb
    · obtain ⟨y1, y2, rfl, sm⟩ := hP
      obtain ⟨T, x, y, rfl, nT, rfl, hx, hy⟩ := hY
      have u1 := same_upd (o := .tup [x, y]) nT
      have s1 := sm.trans u1
      obtain ⟨g, hg, hgT⟩ := hA.get hy
      have hgG := hG.all g (List.mem_of_getElem? hg)
      have hgl := hgG.len
      refine ⟨T, _, rfl, SqT.of upd_same, rfl, x, _, rfl, y, _, rfl, rfl, ?_⟩
      refine ⟨_, rfl, y, rfl, a, cs, y, g, rfl, same_any s1 ha, hgT.ts (TS.of s1), hgG, by omega, fun H2 s2 => ⟨_, rfl, iteF ⟨_, _, rfl, s1.trans s2⟩⟩⟩
    · obtain ⟨y1, y2, rfl, sm⟩ := hP
      exact q _ sm
end
def spCMeet (K : PySem.W.Frag) : Sp := fun vs H Q _ => ∃ (b : Addr) (cs : List Int) (xs : List V) (fs : List (List Tri)), vs = [.ref b] ∧ SqL K H b xs ∧ All2 (FigT K H) xs fs ∧ GoodB cs fs ∧ cs.length ≤ 6 ∧ fs.length ≤ 100 ∧ ∀ H', Same H H' → Q .non H'
abbrev sCMeet : Stmt := topS 43
abbrev nCMeet : List Str := ["figures", "masks", "one", "figure", "other"]
theorem scCMeet : FnScope nCMeet ["figures"] (defScope sCMeet) := ⟨rfl, rfl, rfl, by decide +kernel, rfl, by decide +kernel, by decide +kernel⟩
section
variable {P : Program} {w : World} {K : PySem.W.Frag} {mg : Str → Option Value} {base : Heap}
theorem ok_cmeet {f fM fB : Addr} {fd fdM fdB : FuncData} {k : Nat} (F : Fun K "check_meetings" "check_meetings" sCMeet f fd) (me : mg "enumerate" = none) (mr : mg "range" = none) (ml : mg "len" = none)
    (FM : Fun K "mask_of" "mask_of" sMask fM fdM) (bM : Binds K fdM ["figure"] []) (gM : mg "mask_of" = some (.ref fM)) (GM : FnOk P w K mg base CX0 k fM fdM ["figure"] (spMask K))
    (FB : Fun K "bar" "bar" sBar fB fdB) (bB : Binds K fdB ["one", "other"] []) (gB : mg "bar" = some (.ref fB)) (GB : FnOk P w K mg base CX0 k fB fdB ["one", "other"] (spBar K)) : FnOk P w K mg base CX0 (k + 1) f fd ["figures"] (spCMeet K) := by
  refine F.ok scCMeet (fun vs H Q E h => ?_) (fun cdv A outer s H vs Q E hr h => ?_)
  · obtain ⟨b, cs, xs, fs, rfl, _⟩ := h
    rfl
  · obtain ⟨b, cs, xs, fs, rfl, hb, hA, hG, h6, hfl, q⟩ := h
    refine ⟨_, pss_cons (ps_setLc (i := 1) (own := [("figure", 3)]) (g := gName 3) (tt := tYes) rfl scCMeet.nd rfl rfl (sw_true rfl rfl rfl (by decide +kernel)) (pi_list (pv 0)) (blkOk_by (own := [("figure", 3)]) (N := nCMeet) (sc := defScope sCMeet) (by decide +kernel)) (fun _ _ _ _ _ => pg_name (i := 3) scCMeet.nd rfl (.inl rfl)) (fun _ _ _ _ _ => pts_nil) (fun _ _ _ _ _ => pe_call GM hr (by rfl) gM FM.kp bM .nil pass0 (pa_cons (pv 3) pa_nil)))
      (pss_one (ps_for PassesOwn.never rfl (pi_enum (by rfl) me (pa_cons (pv 0) pa_nil)) (pg_tup (by rfl) (pgs_cons (pg_name (i := 2) scCMeet.nd rfl (.inl rfl)) (pgs_cons (pg_name (i := 3) scCMeet.nd rfl (.inl rfl)) pgs_nil))) (pss_one (ps_for PassesOwn.never rfl (pi_range2 (by rfl) mr (pa_cons (pe_op op_add (pv 2) pe_int) (pa_cons (pe_callB call_lenQ (by rfl) ml PySem.boot_len (pa_cons (pv 0) pa_nil)) pa_nil))) (pg_name (i := 4) scCMeet.nd rfl (.inl rfl)) (pss_one (ps_if (PW.pt (pw_and (pt_cmpR op_ne (pe_op op_and (pe_ix ix_list (pv 1) (pv 2) (fun _ _ => rfl)) (pe_ix ix_list (pv 1) (pv 4) (fun _ _ => rfl))) pe_int (nomark _)) (pw_and1 (pt_not (pt_val (pe_call GB hr (by rfl) gB FB.kp bB .nil pass0 (pa_cons (pv 3) (pa_cons (pe_ix ix_list (pv 0) (pv 4) (fun _ _ => rfl)) pa_nil)))))))) (pss_one ps_never) pss_nil)))))), ?_⟩
    have hxl := hA.len
    refine ⟨.ref b, rfl, b, rfl, ⟨_, hb⟩, fun D nD => ?_⟩
    refine lc_list (K := K) (a := b) (xs := xs) (fun i H' => Same H H' ∧ H' D = some (.lst ((fs.take i).map fun f => V.int (maskN f : Nat)))) ⟨same_upd nD, upd_same⟩ (fun i H' _ hP => hP.1.seq hb) (fun i x H' hx hP => ?_) (fun H0 hP => ?_)
    · obtain ⟨sm, hD⟩ := hP
      obtain ⟨g, hg, hgT⟩ := hA.get hx
      have hgG := hG.all g (List.mem_of_getElem? hg)
      have hgl := hgG.len
      refine ⟨rfl, yesT ⟨x, rfl, x, g, rfl, hgT.ts (TS.of sm), by omega, hgG.padsUp h6, fun H2 s2 => ⟨_, s2 _ _ hD, ?_, Same.offUpd (sm.trans s2) nD, ?_⟩⟩⟩
      · rw [List.length_map, List.length_take]
        exact small1000 (by omega)
      · rw [upd_same, take_snoc hg, List.map_append]
        rfl
    obtain ⟨s0, hD⟩ := hP
    rw [hxl, List.take_length] at hD
    have hmk : ∀ (i : Nat) (f : List Tri), fs[i]? = some f → atI (fs.map fun f => V.int (maskN f : Nat)) (i : Int) = some (.int (maskN f : Nat)) := fun i f e => atI_nat (by rw [List.getElem?_map, e]; rfl)
    refine ⟨.ref b, rfl, b, _, rfl, s0.seq hb, ?_⟩
    refine for_it (walk_enum (K := K) (a := b) (xs := xs)) (fun i σ H' => ∃ (y1 y2 y3 : Option V), σ = [some (.ref b), some (.ref D), y1, y2, y3] ∧ Same H0 H') ⟨none, none, none, rfl, Same.refl H0⟩ (fun i σ H' _ hP => ?_) (fun i v σ H' H'' hi hP hY => ?_) (fun σ H' hP => ?_)
    · obtain ⟨_, _, _, _, sm⟩ := hP
      exact (s0.trans sm).seq hb
    · obtain ⟨y1, y2, y3, rfl, sm⟩ := hP
      obtain ⟨T, x, y, rfl, nT, rfl, hx, hy⟩ := hY
      have u1 := same_upd (o := .tup [x, y]) nT
      have s1 := sm.trans u1
      have ex : x = .int (i : Nat) := (Option.some.inj hx).symm
      subst ex
      obtain ⟨g, hg, hgT⟩ := hA.get hy
      have hgG := hG.all g (List.mem_of_getElem? hg)
      have hgl := hgG.len
      refine ⟨T, _, rfl, SqT.of upd_same, rfl, _, _, rfl, y, _, rfl, rfl, ?_⟩
      generalize upd H' T (.tup [.int (i : Nat), y]) = H1 at s1 ⊢
      refine ⟨_, rfl, _, _, rfl, rfl, .ref b, rfl, b, _, rfl, .inl ((s0.trans s1).seq hb), (i : Int) + 1, ((xs.length : Nat) : Int), rfl, ⟨by omega, by omega, by omega, by omega⟩, ?_⟩
      refine for_range (lo := (i : Int) + 1) (n := (((xs.length : Nat) : Int) - ((i : Int) + 1)).toNat) (fun j σ H' => ∃ (y3 : Option V), σ = [some (.ref b), some (.ref D), some (.int (i : Nat)), some y, y3] ∧ Same H0 H') ⟨_, rfl, s1⟩ ?_ ?_
      · rintro j σ H2 hj ⟨y3, rfl, sm2⟩
        have hj2 : i + 1 + j < xs.length := by omega
        have ej : (i : Int) + 1 + (j : Int) = ((i + 1 + j : Nat) : Int) := by omega
        obtain ⟨g2, hg2, hgT2⟩ := hA.get (List.getElem?_eq_getElem hj2)
        have hgG2 := hG.all g2 (List.mem_of_getElem? hg2)
        have hgl2 := hgG2.len
        have hix : atI xs ((i : Int) + 1 + (j : Int)) = some xs[i + 1 + j] := by
          rw [ej]
          exact atI_nat (List.getElem?_eq_getElem hj2)
        have hm2 := hmk _ _ hg2
        rw [← ej] at hm2
        have hD2 := sm2 _ _ hD
        refine ⟨.ref D, rfl, .int (i : Nat), rfl, D, _, _, _, rfl, rfl, SqL.of hD2, hmk _ _ hg, .ref D, rfl, .int ((i : Int) + 1 + (j : Int)), rfl, D, _, _, _, rfl, rfl, SqL.of hD2, hm2, _, _, rfl, rfl, rfl, _, rfl, ?_⟩
        rw [mask_test (hgG.padsUp h6) (hgG2.padsUp h6)]
        have s02 := s0.trans sm2
        refine ite2 (fun e => ?_) (fun e => ?_)
        · refine ⟨y, rfl, .ref b, rfl, .int ((i : Int) + 1 + (j : Int)), rfl, b, xs, _, _, rfl, rfl, s02.seq hb, hix, y, _, g, g2, rfl, hgT.ts (TS.of s02), hgT2.ts (TS.of s02), by omega, by omega, fun H4 s4 => ⟨_, rfl, ?_⟩⟩
          rw [hG.pair (by omega) hg hg2 e]
          exact iteF ⟨_, rfl, sm2.trans s4⟩
        · exact iteF ⟨_, rfl, sm2⟩
      · rintro σ H2 ⟨y3, rfl, sm2⟩
        exact ⟨_, _, _, rfl, sm2⟩
    · obtain ⟨y1, y2, y3, rfl, sm⟩ := hP
      exact q _ (s0.trans sm)
end
def spCopyF (K : PySem.W.Frag) : Sp := fun vs H Q _ => ∃ (v : V) (f : List Tri), vs = [v] ∧ FigT K H v f ∧ f.length ≤ 100 ∧ ∀ H' u, Same H H' → FigT K H' u f → Q u H'
abbrev sCopyF : Stmt := topS 44
abbrev nCopyF : List Str := ["figure", "triple"]
theorem scCopyF : FnScope nCopyF ["figure"] (defScope sCopyF) := ⟨rfl, rfl, rfl, by decide +kernel, rfl, by decide +kernel, by decide +kernel⟩
section
variable {P : Program} {w : World} {K : PySem.W.Frag} {mg : Str → Option Value} {base : Heap}
theorem ok_copyf {f : Addr} {fd : FuncData} {k : Nat} (F : Fun K "copy_of_figure" "copy_of_figure" sCopyF f fd) (mt : mg "tuple" = none) : FnOk P w K mg base CX0 (k + 1) f fd ["figure"] (spCopyF K) := by
  refine F.ok scCopyF (fun vs H Q E h => ?_) (fun cdv A outer s H vs Q E hr h => ?_)
  · obtain ⟨v, f, rfl, _⟩ := h
    rfl
  · obtain ⟨v, f, rfl, hV, hfl, q⟩ := h
    obtain ⟨a, xs, rfl, ha, hxs⟩ := hV
    refine ⟨_, pss_one (ps_ret (pe_callTy call_tupS (by rfl) mt (by decide +kernel) (pa_cons (pe_lc (own := [("triple", 1)]) (g := gName 1) (tt := tYes) rfl scCopyF.nd (pi_tup (pv 0))
        (blkOk_by (own := [("triple", 1)]) (N := nCopyF) (sc := defScope sCopyF) (by decide +kernel)) (fun _ _ _ _ _ => pg_name (i := 1) scCopyF.nd rfl (.inl rfl)) (fun _ _ _ _ _ => pts_nil)
        (fun _ _ _ _ _ => pe_callTy (r := rTupS K) call_tupS (by rfl) mt (by decide +kernel) (pa_cons (pv 1) pa_nil))) pa_nil))), ?_⟩
    refine ⟨.ref a, rfl, a, rfl, ⟨_, ha⟩, fun D nD => ?_⟩
    refine lc_tup (K := K) (a := a) (xs := xs) (fun i H' => Same H H' ∧ ∃ zs, H' D = some (.lst zs) ∧ All2 (TriAt K H') zs (f.take i)) ⟨same_upd nD, [], upd_same, True.intro⟩ (fun i H' _ hP => Same.tup hP.1 ha) (fun i x H' hx hP => ?_) (fun H1 hP => ?_)
    · obtain ⟨sm, zs, hD, hz⟩ := hP
      obtain ⟨t, ht, tp, rfl, htp⟩ := hxs.get hx
      refine ⟨rfl, yesT ⟨.ref tp, rfl, tp, _, rfl, .inr (Same.tup sm htp), fun l H2 s2 hl => ?_⟩⟩
      have hD2 := s2 _ _ hD
      refine ⟨_, hD2, ?_, Same.offUpd (sm.trans s2) nD, zs ++ [.ref l], upd_same, ?_⟩
      · rw [hz.len, List.length_take]
        exact small1000 (by omega)
      · rw [take_snoc ht]
        exact All2.snoc ⟨l, rfl, TS.upd hD2 _ _ hl⟩ (hz.mono fun _ _ => TriAt.ts ((TS.of s2).trans (TS.upd hD2)))
    · obtain ⟨sm, zs, hD, hz⟩ := hP
      rw [hxs.len, List.take_length] at hz
      refine ⟨D, _, rfl, .inl (SqL.of hD), fun l H2 s2 hl => ?_⟩
      exact q _ _ (sm.trans s2) ⟨l, zs, rfl, hl, hz.mono fun _ _ => TriAt.ts (TS.of s2)⟩
end
/-! ### Book.__init__ -/
def bkF (a b : Addr) : List (Str × V) := [("palette", .ref a), ("shapes", .ref b)]
def BookAt (K : PySem.W.Frag) (C : Addr) (H : Hp) (p : Addr) (cs : List Int) (fs : List (List Tri)) : Prop :=
  ∃ (dx a b : Addr) (xs : List V), H p = some (.ins C dx (bkF a b)) ∧ SqT K H a (cs.map V.int) ∧ SqT K H b xs ∧ All2 (FigT K H) xs fs
theorem BookAt.same {K : PySem.W.Frag} {C : Addr} {H H' : Hp} {p : Addr} {cs : List Int} {fs : List (List Tri)} (h : BookAt K C H p cs fs) (e : Same H H') : BookAt K C H' p cs fs := by
  obtain ⟨dx, a, b, xs, h1, h2, h3, h4⟩ := h
  exact ⟨dx, a, b, xs, e _ _ h1, Same.tup e h2, Same.tup e h3, h4.mono fun _ _ => FigT.ts (TS.of e)⟩
structure BkTxt (K : PySem.W.Frag) (mg : Str → Option Value) (C : Addr) : Prop where
  cl : Cls K C
  nP : NoAttr K C "palette"
  nS : NoAttr K C "shapes"
  mgC : mg "Book" = some (.ref C)
def spInit (K : PySem.W.Frag) (C : Addr) : Sp := fun vs H Q _ => ∃ (p dx a b : Addr) (cs : List Int) (xs : List V) (fs : List (List Tri)), vs = [.ref p, .ref a, .ref b] ∧ H p = some (.ins C dx []) ∧ SqL K H a (cs.map V.int) ∧ SqL K H b xs ∧ All2 (FigT K H) xs fs ∧ GoodC cs ∧ GoodB cs fs ∧ fs.length ≤ 12 ∧
  ∀ H', Off p H H' → BookAt K C H' p cs fs → Q .non H'
abbrev sInit : Stmt := inClass (topS 38) 0
abbrev nInit : List Str := ["self", "colours", "figures", "figure"]
theorem scInit : FnScope nInit ["self", "colours", "figures"] (defScope sInit) := ⟨rfl, rfl, rfl, by decide +kernel, rfl, by decide +kernel, by decide +kernel⟩
theorem TS.ins {K : PySem.W.Frag} {H H' : Hp} {p C dx : Addr} {fs : List (Str × V)} (e : Off p H H') (h : H p = some (.ins C dx fs)) : TS K H H' := fun a xs q => by
  rcases q with (q | ⟨o, q⟩) | q
  · exact .inl (.inl (e _ _ (fun z => by rw [z, h] at q; cases q) q))
  · exact .inl (.inr ⟨o, e _ _ (fun z => by rw [z, h] at q; cases q) q⟩)
  · exact .inr q
theorem seqL_off {K : PySem.W.Frag} {H H' : Hp} {p C dx b : Addr} {fs : List (Str × V)} {xs : List V} (e : Off p H H') (h : H p = some (.ins C dx fs)) (q : SqL K H b xs) : SqL K H' b xs := by
  rcases q with (q | ⟨o, q⟩) | q
  · exact .inl (.inl (e _ _ (fun z => by rw [z, h] at q; cases q) q))
  · exact .inl (.inr ⟨o, e _ _ (fun z => by rw [z, h] at q; cases q) q⟩)
  · exact .inr q
section
variable {P : Program} {w : World} {K : PySem.W.Frag} {mg : Str → Option Value} {base : Heap}
theorem ok_init {f C f1 f2 f3 f4 : Addr} {fd fd1 fd2 fd3 fd4 : FuncData} {k : Nat} {tkF : Tok} {kws : List (Str × V)} (F : FunD K "__init__" "Book.__init__" (defArgs sInit) (defBody sInit) (defScope sInit) [] kws f fd) (T : BkTxt K mg C)
    (ml : mg "len" = none) (mt : mg "tuple" = none) (mF : mg "MOST_FIGURES" = some (.int 12 tkF))
    (F1 : Fun K "check_colours" "check_colours" sCCol f1 fd1) (b1 : Binds K fd1 ["colours"] []) (g1 : mg "check_colours" = some (.ref f1)) (G1 : FnOk P w K mg base CX0 k f1 fd1 ["colours"] (spCCol K))
    (F2 : Fun K "check_figures" "check_figures" sCFig f2 fd2) (b2 : Binds K fd2 ["colours", "figures"] []) (g2 : mg "check_figures" = some (.ref f2)) (G2 : FnOk P w K mg base CX0 k f2 fd2 ["colours", "figures"] (spCFig K))
    (F3 : Fun K "check_meetings" "check_meetings" sCMeet f3 fd3) (b3 : Binds K fd3 ["figures"] []) (g3 : mg "check_meetings" = some (.ref f3)) (G3 : FnOk P w K mg base CX0 k f3 fd3 ["figures"] (spCMeet K))
    (F4 : Fun K "copy_of_figure" "copy_of_figure" sCopyF f4 fd4) (b4 : Binds K fd4 ["figure"] []) (g4 : mg "copy_of_figure" = some (.ref f4)) (G4 : FnOk P w K mg base CX0 k f4 fd4 ["figure"] (spCopyF K)) :
    FnOk P w K mg base CX0 (k + 1) f fd ["self", "colours", "figures"] (spInit K C) := by
  refine F.ok (CX := CX0) scInit (fun vs H Q E h => ?_) (fun cdv A outer s H vs Q E hr h => ?_)
  · obtain ⟨p, dx, a, b, cs, xs, fs, rfl, _⟩ := h
    rfl
  · obtain ⟨p, dx, a, b, cs, xs, fs, rfl, hp, ha, hb, hA, hC, hG, h12, q⟩ := h
    refine ⟨_, PSs.nox (pss_cons (ps_expr (pe_call G1 hr (by rfl) g1 F1.kp b1 .nil pass0 (pa_cons (pv 1) pa_nil)))
      (pss_cons (ps_if (pt_cmpR op_gt (pe_callB call_lenQ (by rfl) ml PySem.boot_len (pa_cons (pv 2) pa_nil)) (pe_glob (v := .int 12) (by rfl) mF ⟨_, rfl⟩) (nomark _)) (pss_one ps_never) pss_nil)
      (pss_cons (ps_expr (pe_call G2 hr (by rfl) g2 F2.kp b2 .nil pass0 (pa_cons (pv 1) (pa_cons (pv 2) pa_nil))))
      (pss_cons (ps_expr (pe_call G3 hr (by rfl) g3 F3.kp b3 .nil pass0 (pa_cons (pv 2) pa_nil)))
      (pss_cons (ps_fld (pv 0) (pe_callTy call_tupS (by rfl) mt (by decide +kernel) (pa_cons (pv 1) pa_nil)) rfl)
      (pss_one (ps_fld (pv 0) (pe_callTy call_tupS (by rfl) mt (by decide +kernel) (pa_cons (pe_lc (own := [("figure", 3)]) (g := gName 3) (tt := tYes) rfl scInit.nd (pi_list (pv 2))
        (blkOk_by (own := [("figure", 3)]) (N := nInit) (sc := defScope sInit) (by decide +kernel)) (fun _ _ _ _ _ => pg_name (i := 3) scInit.nd rfl (.inl rfl)) (fun _ _ _ _ _ => pts_nil)
        (fun _ _ _ _ _ => pe_call G4 hr (by rfl) g4 F4.kp b4 .nil pass0 (pa_cons (pv 3) pa_nil))) pa_nil)) rfl))))))), ?_⟩
    have hxl := hA.len
    refine ⟨.ref a, rfl, a, cs, rfl, ha, hC, fun H1 s1 => ?_⟩
    refine ⟨.ref b, rfl, b, _, rfl, .inl (s1.seq hb), _, 12, rfl, rfl, _, rfl, ?_⟩
    rw [decide_eq_false (show ¬ (12 : Int) < ((xs.length : Nat) : Int) by omega)]
    refine iteF ?_
    refine ⟨.ref a, rfl, .ref b, rfl, a, b, cs, xs, fs, rfl, .inl (s1.seq ha), s1.seq hb, hA.mono fun _ _ => FigT.ts (TS.of s1), hG, hC.2.1, fun H2 s2 => ?_⟩
    have s12 := s1.trans s2
    refine ⟨.ref b, rfl, b, cs, xs, fs, rfl, s12.seq hb, hA.mono fun _ _ => FigT.ts (TS.of s12), hG, hC.2.1, by omega, fun H3 s3 => ?_⟩
    have s13 := s12.trans s3
    refine ⟨.ref a, rfl, a, _, rfl, .inl (s13.seq ha), fun a2 H4 s4 ha2 => ?_⟩
    have s14 := s13.trans s4
    have hp4 := s14 _ _ hp
    refine ⟨.ref p, rfl, p, C, dx, [], rfl, hp4, T.cl, T.nP, (show 0 < 1000 by decide), ?_⟩
    have off5 : Off p H4 (upd H4 p (.ins C dx (putF "palette" (.ref a2) []))) := Off.upd
    have hp5 : (upd H4 p (.ins C dx (putF "palette" (.ref a2) []))) p = some (.ins C dx [("palette", .ref a2)]) := upd_same
    have hb5 := seqL_off off5 hp4 (s14.seq hb)
    have ts5 : TS K H (upd H4 p (.ins C dx (putF "palette" (.ref a2) []))) := (TS.of s14).trans (TS.ins off5 hp4)
    have ha5 : SqT K (upd H4 p (.ins C dx (putF "palette" (.ref a2) []))) a2 (cs.map V.int) := TS.ins off5 hp4 _ _ ha2
    have off15 : Off p H (upd H4 p (.ins C dx (putF "palette" (.ref a2) []))) := (Off.same s14).trans off5
    generalize upd H4 p (.ins C dx (putF "palette" (.ref a2) [])) = H5 at off5 hp5 hb5 ts5 ha5 off15 ⊢
    have hA5 := hA.mono fun _ _ => FigT.ts ts5
    refine ⟨.ref b, rfl, b, rfl, ⟨_, hb5⟩, fun D nD => ?_⟩
    refine lc_list (K := K) (a := b) (xs := xs) (fun i H' => Same H5 H' ∧ ∃ zs, H' D = some (.lst zs) ∧ All2 (FigT K H') zs (fs.take i)) ⟨same_upd nD, [], upd_same, True.intro⟩ (fun i H' _ hP => hP.1.seq hb5) (fun i x H' hx hP => ?_) (fun H6 hP => ?_)
    · obtain ⟨sm, zs, hD, hz⟩ := hP
      obtain ⟨g, hg, hgT⟩ := hA5.get hx
      have hgl := (hG.all g (List.mem_of_getElem? hg)).len
      have := hC.2.1
      refine ⟨rfl, yesT ⟨x, rfl, x, g, rfl, hgT.ts (TS.of sm), by omega, fun H7 u s7 hu => ?_⟩⟩
      have hD7 := s7 _ _ hD
      refine ⟨_, hD7, ?_, Same.offUpd (sm.trans s7) nD, zs ++ [u], upd_same, ?_⟩
      · rw [hz.len, List.length_take]
        exact small1000 (by omega)
      · rw [take_snoc hg]
        exact All2.snoc (hu.ts (TS.upd hD7)) (hz.mono fun _ _ => FigT.ts ((TS.of s7).trans (TS.upd hD7)))
    · obtain ⟨sm, zs, hD, hz⟩ := hP
      rw [hxl, List.take_length] at hz
      refine ⟨D, _, rfl, .inl (SqL.of hD), fun l H7 s7 hl => ?_⟩
      have s57 := sm.trans s7
      have hp7 := s57 _ _ hp5
      refine ⟨.ref p, rfl, p, C, dx, _, rfl, hp7, T.cl, T.nS, (show 1 < 1000 by decide), ?_⟩
      have off8 : Off p H7 (upd H7 p (.ins C dx (putF "shapes" (.ref l) [("palette", .ref a2)]))) := Off.upd
      refine q _ ((off15.trans (Off.same s57)).trans off8) ⟨dx, a2, l, zs, upd_same, ?_, TS.ins off8 hp7 _ _ hl, hz.mono fun _ _ => FigT.ts ((TS.of s7).trans (TS.ins off8 hp7))⟩
      exact TS.ins off8 hp7 _ _ (Same.tup s57 ha5)
end
/-! ### a dict comprehension over a list that stays -/
theorem dc_list {K : PySem.W.Frag} {a : Addr} {xs : List V} {g : TG} {tt : TT} {tk tv : TE} {vs : List Nat} {σ : L2.St} {H1 : Hp} {D : Addr} {Qd : Hp → Prop} (Pv : Nat → Hp → Prop) (h0 : Pv 0 (upd H1 D (.dK []))) (hl : ∀ i H, i ≤ xs.length → Pv i H → SqL K H a xs) (hs : ∀ i x H, xs[i]? = some x → Pv i H → g x (wipe σ vs) H fun σ2 H2 => wipe σ2 vs = wipe σ vs ∧ tt σ2 H2 fun b H3 => if b = true then tk σ2 H3 fun y H4 => tv σ2 H4 fun z H5 => ∃ kvs k, y = kV k ∧ H5 D = some (.dK kvs) ∧ kvs.length < sizeLine ∧ Pv (i + 1) (upd H5 D (.dK (putK kvs k z))) else Pv (i + 1) H3) (hd : ∀ H, Pv xs.length H → Qd H) : ∃ W : Nat → Nat → Hp → Prop, (∃ m, W 0 m (upd H1 D (.dK []))) ∧ ∀ i m H, W i m H → ((Itl K a).stop i H ∧ Qd H) ∨ ((Itl K a).go i H ∧ ∃ Nx : Hp → Prop, (∀ H', Nx H' → ∃ m', m' < m ∧ W (i + 1) m' H') ∧ ∀ x H', (Itl K a).yld i H x H' → g x (wipe σ vs) H' fun σ2 H2 => wipe σ2 vs = wipe σ vs ∧ tt σ2 H2 fun b H3 => if b = true then tk σ2 H3 fun y H4 => tv σ2 H4 fun z H5 => ∃ kvs k, y = kV k ∧ H5 D = some (.dK kvs) ∧ kvs.length < sizeLine ∧ Nx (upd H5 D (.dK (putK kvs k z))) else Nx H3) := by
  refine ⟨fun i m H => i ≤ xs.length ∧ m = xs.length - i ∧ Pv i H, ⟨_, Nat.zero_le _, rfl, h0⟩, fun i m H ⟨hi, em, p⟩ => ?_⟩
  subst em
  have st := hl i H hi p
  rcases Nat.lt_or_eq_of_le hi with lt | eq
  · refine .inr ⟨⟨xs, xs[i], st, List.getElem?_eq_getElem lt⟩, Pv (i + 1), fun H' p' => ⟨_, Nat.sub_lt_sub_left lt (Nat.lt_succ_self i), lt, rfl, p'⟩, fun x H' ⟨eH, gy⟩ => ?_⟩
    subst eH
    exact hs i x _ (gy xs st) p
  · subst eq
    exact .inl ⟨⟨xs, st, Nat.le_refl _⟩, hd H p⟩
/-! ### figures as they are handed in: tuples of any lengths -/
def TupZ (K : PySem.W.Frag) (H : Hp) (v : V) (t : List Int) : Prop := ∃ a, v = .ref a ∧ SqT K H a (t.map V.int)
theorem TupZ.ts {K : PySem.W.Frag} {H H' : Hp} (e : TS K H H') {v : V} {t : List Int} (h : TupZ K H v t) : TupZ K H' v t := by
  obtain ⟨a, h1, h2⟩ := h
  exact ⟨a, h1, e _ _ h2⟩
abbrev RF := List (List Int)
def RFigT (K : PySem.W.Frag) (H : Hp) (v : V) (f : RF) : Prop := ∃ a xs, v = .ref a ∧ SqT K H a xs ∧ All2 (TupZ K H) xs f
theorem RFigT.ts {K : PySem.W.Frag} {H H' : Hp} (e : TS K H H') {v : V} {f : RF} (h : RFigT K H v f) : RFigT K H' v f := by
  obtain ⟨a, xs, h1, h2, h3⟩ := h
  exact ⟨a, xs, h1, e _ _ h2, h3.mono fun _ _ => TupZ.ts e⟩
def RFigL (K : PySem.W.Frag) (H : Hp) (v : V) (f : RF) : Prop := ∃ a xs, v = .ref a ∧ SqL K H a xs ∧ All2 (TupZ K H) xs f
theorem RFigL.same {K : PySem.W.Frag} {H H' : Hp} (e : Same H H') {v : V} {f : RF} (h : RFigL K H v f) : RFigL K H' v f := by
  obtain ⟨a, xs, h1, h2, h3⟩ := h
  exact ⟨a, xs, h1, e.seq h2, h3.mono fun _ _ => TupZ.ts (TS.of e)⟩
/-- a list of good triples -/
def FigL (K : PySem.W.Frag) (H : Hp) (v : V) (f : List Tri) : Prop := ∃ a xs, v = .ref a ∧ SqL K H a xs ∧ All2 (TriAt K H) xs f
theorem FigL.same {K : PySem.W.Frag} {H H' : Hp} (e : Same H H') {v : V} {f : List Tri} (h : FigL K H v f) : FigL K H' v f := by
  obtain ⟨a, xs, h1, h2, h3⟩ := h
  exact ⟨a, xs, h1, e.seq h2, h3.mono fun _ _ => TriAt.ts (TS.of e)⟩
def triB (cs : List Int) : List Int → Bool
  | [p, n, d] => decide (0 ≤ p) && (decide (p < cs.length) && (decide (0 ≤ n) && (decide (n < cs.getD p.toNat 0) && (decide (1 ≤ d) && decide (d ≤ 3)))))
  | _ => false
def toTri : List Int → Tri
  | [p, n, d] => (p, n, d)
  | _ => (0, 0, 0)
theorem triB_ok {cs t : List Int} (h : triB cs t = true) : ∃ p n d, t = [p, n, d] ∧ GoodT cs (p, n, d) := by
  unfold triB at h
  split at h
  · rename_i p n d
    simp only [Bool.and_eq_true, decide_eq_true_eq] at h
    obtain ⟨h1, h2, h3, h4, h5, h6⟩ := h
    exact ⟨p, n, d, rfl, h1, h2, h3, h4, h5, h6⟩
  · cases h
def risesFrom (last : Int) : List Int → Bool
  | [] => true
  | p :: r => decide (last < p) && risesFrom p r
/-- good triples whose pads rise, above last -/
def wellGo (cs : List Int) (last : Int) : RF → Bool
  | [] => true
  | t :: r => triB cs t && (decide (last < (toTri t).1) && wellGo cs (toTri t).1 r)
def figB (cs : List Int) (f : RF) : Bool := decide (f ≠ []) && wellGo cs (-1) f
theorem wellGo_eq (cs : List Int) : ∀ (f : RF) (last : Int), wellGo cs last f = (f.all (triB cs) && risesFrom last (f.map fun t => (toTri t).1))
  | [], _ => rfl
  | t :: r, last => by
    unfold wellGo
    rw [wellGo_eq cs r, List.all_cons, List.map_cons]
    show _ = (triB cs t && r.all (triB cs) && (decide (last < (toTri t).1) && risesFrom (toTri t).1 (r.map fun t => (toTri t).1)))
    cases triB cs t <;> cases r.all (triB cs) <;> cases decide (last < (toTri t).1) <;> cases risesFrom (toTri t).1 (r.map fun t => (toTri t).1) <;> rfl
theorem rises_pair : ∀ (l : List Int) (last : Int), risesFrom last l = true → (last :: l).Pairwise (· < ·)
  | [], _, _ => List.pairwise_singleton _ _
  | p :: r, last, h => by
    obtain ⟨h1, h2⟩ := Bool.and_eq_true_iff.mp (show (decide (last < p) && risesFrom p r) = true from h)
    have h3 := rises_pair r p h2
    have h4 := of_decide_eq_true h1
    refine List.pairwise_cons.mpr ⟨fun x hx => ?_, h3⟩
    rcases List.mem_cons.mp hx with rfl | hx
    · exact h4
    · exact Int.lt_trans h4 ((List.pairwise_cons.mp h3).1 x hx)
theorem figB_good {cs : List Int} {f : RF} (h : figB cs f = true) : GoodF cs (f.map toTri) ∧ ∀ t ∈ f, ∃ p n d, t = [p, n, d] := by
  obtain ⟨h1, h2⟩ := Bool.and_eq_true_iff.mp h
  rw [wellGo_eq] at h2
  obtain ⟨h3, h4⟩ := Bool.and_eq_true_iff.mp h2
  have a := List.all_eq_true.mp h3
  refine ⟨⟨fun z => of_decide_eq_true h1 (List.map_eq_nil_iff.mp z), fun u hu => ?_, ?_⟩, fun t ht => ?_⟩
  · obtain ⟨t, ht, rfl⟩ := List.mem_map.mp hu
    obtain ⟨p, n, d, rfl, g⟩ := triB_ok (a t ht)
    exact g
  · rw [List.map_map]
    exact (List.pairwise_cons.mp (rises_pair _ _ h4)).2
  · obtain ⟨p, n, d, e, _⟩ := triB_ok (a t ht)
    exact ⟨p, n, d, e⟩
theorem tris_of {K : PySem.W.Frag} {H : Hp} : ∀ {xs : List V} {f : RF}, All2 (TupZ K H) xs f → (∀ t ∈ f, ∃ p n d, t = [p, n, d]) → All2 (TriAt K H) xs (f.map toTri)
  | [], [], _, _ => True.intro
  | x :: xs, t :: f, h, g => by
    obtain ⟨p, n, d, rfl⟩ := g t (List.mem_cons_self ..)
    obtain ⟨a, e, ha⟩ := h.1
    exact ⟨⟨a, e, ha⟩, tris_of h.2 fun t ht => g t (List.mem_cons_of_mem _ ht)⟩
  | [], _ :: _, h, _ => h.elim
  | _ :: _, [], h, _ => h.elim
/-! the first that is not so -/
def FirstNo {α : Type} (p : α → Prop) (l : List α) (i : Nat) : Prop := (∃ x, l[i]? = some x ∧ ¬ p x) ∧ ∀ (j : Nat) (x : α), j < i → l[j]? = some x → p x
theorem FirstNo.uniq {α : Type} {p : α → Prop} {l : List α} {i j : Nat} (h : FirstNo p l i) (g : FirstNo p l j) : i = j := by
  obtain ⟨⟨x, x1, x2⟩, x3⟩ := h
  obtain ⟨⟨y, y1, y2⟩, y3⟩ := g
  rcases Nat.lt_trichotomy i j with z | z | z
  · exact absurd (y3 i x z x1) x2
  · exact z
  · exact absurd (x3 j y z y1) y2
theorem FirstNo.not {α : Type} {p : α → Prop} {l : List α} {i : Nat} (h : FirstNo p l i) (g : ∀ x ∈ l, p x) : False := by
  obtain ⟨⟨x, x1, x2⟩, _⟩ := h
  exact x2 (g x (List.mem_of_getElem? x1))
def mtB (fs : List RF) (i j : Nat) : Bool := okB ((fs.getD i []).map toTri) ((fs.getD j []).map toTri)
/-- the first two that meet and do not bar -/
def FirstM (fs : List RF) (i j : Nat) : Prop := (i < j ∧ j < fs.length ∧ mtB fs i j = false) ∧ ∀ i' j', i' < j' → j' < fs.length → (i' < i ∨ (i' = i ∧ j' < j)) → mtB fs i' j' = true
theorem FirstM.uniq {fs : List RF} {i j i' j' : Nat} (h : FirstM fs i j) (g : FirstM fs i' j') : i = i' ∧ j = j' := by
  obtain ⟨⟨h1, h2, h3⟩, h4⟩ := h
  obtain ⟨⟨g1, g2, g3⟩, g4⟩ := g
  have a : ¬ (i < i' ∨ (i = i' ∧ j < j')) := fun z => by
    have := g4 i j h1 h2 z
    rw [h3] at this
    cases this
  have b : ¬ (i' < i ∨ (i' = i ∧ j' < j)) := fun z => by
    have := h4 i' j' g1 g2 z
    rw [g3] at this
    cases this
  omega
def NoneM (fs : List RF) : Prop := ∀ i j, i < j → j < fs.length → mtB fs i j = true
theorem FirstM.not {fs : List RF} {i j : Nat} (h : FirstM fs i j) (g : NoneM fs) : False := by
  obtain ⟨⟨h1, h2, h3⟩, _⟩ := h
  have := g i j h1 h2
  rw [h3] at this
  cases this
abbrev colOk (x : Int) : Prop := 1 ≤ x ∧ x ≤ 4
/-- what is due of a book: none, or the refusal's number and values -/
inductive DueR (cs : List Int) (fs : List RF) : Option (Nat × List Int) → Prop
  | many (h : ¬ (1 ≤ cs.length ∧ cs.length ≤ 6)) : DueR cs fs (some (0, [-1]))
  | col (i : Nat) (h : 1 ≤ cs.length ∧ cs.length ≤ 6) (g : FirstNo colOk cs i) : DueR cs fs (some (0, [(i : Int)]))
  | figs (h : GoodC cs) (g : 12 < fs.length) : DueR cs fs (some (3, [12]))
  | fig (i : Nat) (h : GoodC cs) (g : fs.length ≤ 12) (e : FirstNo (fun f => figB cs f = true) fs i) : DueR cs fs (some (1, [(i : Int)]))
  | meet (i j : Nat) (h : GoodC cs) (g : fs.length ≤ 12) (e : ∀ f ∈ fs, figB cs f = true) (m : FirstM fs i j) : DueR cs fs (some (2, [(i : Int), (j : Int)]))
  | none (h : GoodC cs) (g : fs.length ≤ 12) (e : ∀ f ∈ fs, figB cs f = true) (m : NoneM fs) : DueR cs fs Option.none
theorem DueR.uniq {cs : List Int} {fs : List RF} {o o' : Option (Nat × List Int)} (h : DueR cs fs o) (g : DueR cs fs o') : o = o' := by
  have nc : ∀ {i}, FirstNo colOk cs i → GoodC cs → False := fun f c => f.not c.2.2
  cases h with
  | many h =>
    cases g with
    | many => rfl
    | col i h' => exact absurd h' h
    | figs c => exact absurd ⟨c.1, c.2.1⟩ h
    | fig i c => exact absurd ⟨c.1, c.2.1⟩ h
    | meet i j c => exact absurd ⟨c.1, c.2.1⟩ h
    | none c => exact absurd ⟨c.1, c.2.1⟩ h
  | col i h f =>
    cases g with
    | many h' => exact absurd h h'
    | col j h' f' => rw [f.uniq f']
    | figs c => exact (nc f c).elim
    | fig j c => exact (nc f c).elim
    | meet j k c => exact (nc f c).elim
    | none c => exact (nc f c).elim
  | figs c n =>
    cases g with
    | many h' => exact absurd ⟨c.1, c.2.1⟩ h'
    | col j h' f' => exact (nc f' c).elim
    | figs => rfl
    | fig j c' n' => omega
    | meet j k c' n' => omega
    | none c' n' => omega
  | fig i c n f =>
    cases g with
    | many h' => exact absurd ⟨c.1, c.2.1⟩ h'
    | col j h' f' => exact (nc f' c).elim
    | figs c' n' => omega
    | fig j c' n' f' => rw [f.uniq f']
    | meet j k c' n' e' => exact (f.not e').elim
    | none c' n' e' => exact (f.not e').elim
  | meet i j c n e m =>
    cases g with
    | many h' => exact absurd ⟨c.1, c.2.1⟩ h'
    | col j h' f' => exact (nc f' c).elim
    | figs c' n' => omega
    | fig j c' n' f' => exact (f'.not e).elim
    | meet i' j' c' n' e' m' =>
      obtain ⟨rfl, rfl⟩ := m.uniq m'
      rfl
    | none c' n' e' m' => exact (m.not m').elim
  | none c n e m =>
    cases g with
    | many h' => exact absurd ⟨c.1, c.2.1⟩ h'
    | col j h' f' => exact (nc f' c).elim
    | figs c' n' => omega
    | fig j c' n' f' => exact (f'.not e).elim
    | meet i' j' c' n' e' m' => exact (m'.not m).elim
    | none => rfl
theorem DueR.shape {cs : List Int} {fs : List RF} {i : Nat} {ws : List Int} (h : DueR cs fs (some (i, ws))) : i < 28 ∧ ws.length = (rFl i).length ∧ rNm i ≠ "told" := by
  cases h <;> exact ⟨by decide, rfl, by decide +kernel⟩
theorem same_ref {H H2 : Hp} {d : Addr} (h1 : H d = none) (h2 : ∀ b, b ≠ d → H b ≠ none → H2 b = H b) : Same H H2 := fun b o e => by
  rw [h2 b (ne_of_none e h1) (by rw [e]; simp)]
  exact e
/-- the refusal i with these numbers -/
def refuseN (i : Nat) (C : Addr) (ws : List Int) (H : Hp) (E : XK) : Prop := ∀ (d : Addr) (H' : Hp), Same H H' → H' d = some (.xd (rFs i (ws.map V.int))) → E (.ref C) (some d) H'
theorem refuseN.later {i : Nat} {C : Addr} {ws : List Int} {H H1 : Hp} {E : XK} (h : refuseN i C ws H E) (s : Same H H1) : refuseN i C ws H1 E := fun d H' s' hd => h d H' (s.trans s') hd
abbrev exc1 (i : Nat) (nm fl : Str) (C : Addr) (P : Program) (w : World) (K : PySem.W.Frag) (mg : Str → Option Value) (base : Heap) (k : Nat) : Prop := ExcK P w K mg base k nm C 1 (fun ws => [(fl, ws.getD 0 .non), ("word", .str nm)])
/-! ### Book.pads; Book.shape with its refusal; Book.meet with it -/
theorem bkF_shapesX (a b : Addr) : List.lookup (Str.ofString "shapes") (bkF a b) = some (V.ref b) := rfl
abbrev sPadsM : Stmt := inClass (topS 38) 2
theorem scPadsM : FnScope ["self"] ["self"] (defScope sPadsM) := ⟨rfl, rfl, rfl, by decide +kernel, rfl, by decide +kernel, by decide +kernel⟩
def spPadsM (K : PySem.W.Frag) (C : Addr) : Sp := fun vs H Q _ => ∃ (p : Addr) (cs : List Int) (fs : List (List Tri)), vs = [.ref p] ∧ BookAt K C H p cs fs ∧ Q (.int (cs.length : Nat)) H
abbrev sShpX : Stmt := inClass (topS 38) 4
abbrev nShpX : List Str := ["self", "at"]
theorem scShpX : FnScope nShpX ["self", "at"] (defScope sShpX) := ⟨rfl, rfl, rfl, by decide +kernel, rfl, by decide +kernel, by decide +kernel⟩
/-- NoFigure is the refusal 24 -/
def spShpX (K : PySem.W.Frag) (C CN : Addr) : Sp := fun vs H Q E => ∃ (p : Addr) (cs : List Int) (fs : List (List Tri)) (z : Int), vs = [.ref p, .int z] ∧ BookAt K C H p cs fs ∧ (∀ i : Nat, z = (i : Int) → i < fs.length → ∀ v, FigT K H v (fs.getD i []) → Q v H) ∧ (¬ (0 ≤ z ∧ z < (fs.length : Nat)) → refuseN 24 CN [z] H E)
section
variable {P : Program} {w : World} {K : PySem.W.Frag} {mg : Str → Option Value} {base : Heap}
theorem ok_padsM {f C : Addr} {fd : FuncData} {k : Nat} (F : Fun K "pads" "Book.pads" sPadsM f fd) (T : BkTxt K mg C) (ml : mg "len" = none) : FnOk P w K mg base CX0 (k + 1) f fd ["self"] (spPadsM K C) := by
  refine F.ok scPadsM (fun vs H Q E h => ?_) (fun cdv A outer s H vs Q E hr h => ?_)
  · obtain ⟨p, cs, fs, rfl, _⟩ := h
    rfl
  · obtain ⟨p, cs, fs, rfl, ⟨dx, a, b, xs, hp, ha, hb, hA⟩, q⟩ := h
    refine ⟨_, pss_one (ps_ret (pe_callB call_lenQ (by rfl) ml PySem.boot_len (pa_cons (pe_fld (pv 0) rfl) pa_nil))), ?_⟩
    refine ⟨.ref p, rfl, p, C, dx, _, _, rfl, hp, T.cl, T.nP, rfl, a, _, rfl, .inr ha, ?_⟩
    rw [List.length_map]
    exact q
theorem ok_shpX {f C CN : Addr} {fd : FuncData} {k : Nat} (F : Fun K "shape" "Book.shape" sShpX f fd) (T : BkTxt K mg C) (ml : mg "len" = none) (R : exc1 24 "NoFigure" "figure" CN P w K mg base k) : FnOk P w K mg base (L2.CX P w) (k + 2) f fd ["self", "at"] (spShpX K C CN) := by
  refine F.okX scShpX (fun vs H Q E h => ?_) (fun cdv A outer s H vs Q E hr h => ?_)
  · obtain ⟨p, cs, fs, z, rfl, _⟩ := h
    rfl
  · obtain ⟨p, cs, fs, z, rfl, ⟨dx, a, b, xs, hp, ha, hb, hA⟩, q, q1⟩ := h
    refine ⟨_, pss_cons (ps_if (pt_not (pt_chain op_le op_lt pe_int (pv 1) (pe_callB call_lenQ (by rfl) ml PySem.boot_len (pa_cons (pe_fld (pv 0) rfl) pa_nil)))) (pss_one (ps_raise rfl (takes_of rfl rfl rfl rfl) (pmk_ref R hr (by rfl) (pa_cons (pv 1) pa_nil)))) pss_nil)
      (pss_one (ps_ret (pe_ix ix_tup (pe_fld (pv 0) rfl) (pv 1) (fun _ _ => rfl)))), ?_⟩
    have hxl := hA.len
    have bad : ¬ (0 ≤ z ∧ z < (fs.length : Nat)) → ∀ σ : L2.St, σ[1]? = some (some (.int z)) → tRef CN 1 (fun ws => [("figure", ws.getD 0 .non), ("word", .str "NoFigure")]) (tCons (tVar 1) tNil) σ H fun cls d H' => E cls d H' := fun e σ hσ =>
      ⟨.int z, hσ, rfl, (show (1 : Nat) ≤ 1000 by decide), fun dd H2 h1 h2 h3 => q1 e dd H2 (same_ref h1 h2) h3⟩
    refine ⟨.int z, rfl, 0, z, rfl, rfl, _, rfl, ?_⟩
    by_cases e0 : 0 ≤ z
    rotate_left
    · rw [decide_eq_false e0]
      exact iteF ⟨_, rfl, iteT (bad (fun y => e0 y.1) _ rfl)⟩
    rw [decide_eq_true e0]
    refine iteT ⟨.ref p, rfl, p, C, dx, _, _, rfl, hp, T.cl, T.nS, bkF_shapesX a b, b, _, rfl, .inr hb, z, _, rfl, rfl, _, rfl, ?_⟩
    by_cases e1 : z < ((xs.length : Nat) : Int)
    rotate_left
    · rw [decide_eq_false e1]
      exact iteT (bad (fun y => e1 (by rw [hxl]; exact y.2)) _ rfl)
    rw [decide_eq_true e1]
    obtain ⟨i, rfl⟩ : ∃ i : Nat, z = (i : Int) := ⟨z.toNat, by omega⟩
    have hi2 : i < xs.length := by omega
    obtain ⟨g, hg, hgT⟩ := hA.get (List.getElem?_eq_getElem hi2)
    refine iteF ⟨.ref p, rfl, p, C, dx, _, _, rfl, hp, T.cl, T.nS, bkF_shapesX a b, .int (i : Nat), rfl, b, xs, _, xs[i], rfl, rfl, hb, atI_nat (List.getElem?_eq_getElem hi2), ?_⟩
    refine q i rfl (by omega) _ ?_
    rw [List.getD_eq_getElem?_getD, hg]
    exact hgT
end
theorem getD_len100 {fs : List (List Tri)} (h : ∀ f ∈ fs, f.length ≤ 100) (i : Nat) : (fs.getD i []).length ≤ 100 := by
  rw [List.getD_eq_getElem?_getD]
  cases e : fs[i]? with
  | none => exact Nat.zero_le _
  | some f => exact h f (List.mem_of_getElem? e)
abbrev sMeetX : Stmt := inClass (topS 38) 5
abbrev nMeetX : List Str := ["self", "one", "other"]
theorem scMeetX : FnScope nMeetX ["self", "one", "other"] (defScope sMeetX) := ⟨rfl, rfl, rfl, by decide +kernel, rfl, by decide +kernel, by decide +kernel⟩
def spMeetX (K : PySem.W.Frag) (C CN : Addr) : Sp := fun vs H Q E => ∃ (p : Addr) (cs : List Int) (fs : List (List Tri)) (y z : Int), vs = [.ref p, .int y, .int z] ∧ BookAt K C H p cs fs ∧ (∀ f ∈ fs, f.length ≤ 100) ∧ (∀ f ∈ fs, PadsUp f) ∧ (∀ i j : Nat, y = (i : Int) → z = (j : Int) → i < fs.length → j < fs.length → ∀ H', Same H H' → Q (.bl (meetB (fs.getD i []) (fs.getD j []))) H') ∧ (¬ (0 ≤ y ∧ y < (fs.length : Nat)) → refuseN 24 CN [y] H E) ∧ (0 ≤ y ∧ y < (fs.length : Nat) → ¬ (0 ≤ z ∧ z < (fs.length : Nat)) → refuseN 24 CN [z] H E)
theorem getD_pads {fs : List (List Tri)} (h : ∀ f ∈ fs, PadsUp f) {i : Nat} (hi : i < fs.length) : PadsUp (fs.getD i []) := by
  rw [List.getD_eq_getElem?_getD, List.getElem?_eq_getElem hi]
  exact h _ (List.getElem_mem hi)
section
variable {P : Program} {w : World} {K : PySem.W.Frag} {mg : Str → Option Value} {base : Heap}
theorem ok_meetX {f C CN fS fM : Addr} {fd fdS fdM : FuncData} {k : Nat} (F : Fun K "meet" "Book.meet" sMeetX f fd) (T : BkTxt K mg C)
    (bS : Binds K fdS ["self", "at"] []) (mS : Meth K C "shape" fS) (GS : FnOk P w K mg base (L2.CX P w) (k + 1) fS fdS ["self", "at"] (spShpX K C CN))
    (FM : Fun K "mask_of" "mask_of" sMask fM fdM) (bM : Binds K fdM ["figure"] []) (gM : mg "mask_of" = some (.ref fM)) (GM : FnOk P w K mg base CX0 (k + 1) fM fdM ["figure"] (spMask K)) :
    FnOk P w K mg base (L2.CX P w) (k + 2) f fd ["self", "one", "other"] (spMeetX K C CN) := by
  refine F.okX scMeetX (fun vs H Q E h => ?_) (fun cdv A outer s H vs Q E hr h => ?_)
  · obtain ⟨p, cs, fs, y, z, rfl, _⟩ := h
    rfl
  · obtain ⟨p, cs, fs, y, z, rfl, hK, hl, hU, q, q1, q2⟩ := h
    obtain ⟨dx, a, b, xs, hp, ha, hb, hA⟩ := id hK
    refine ⟨_, pss_one (ps_ret (pe_cmpR op_ne (pe_op op_and (pe_call GM hr (by rfl) gM FM.kp bM .nil pass0 (pa_cons (pe_meth (pv 0) T.cl mS GS hr bS .nil (passes_call (takes_of rfl rfl rfl rfl) (fun _ _ _ _ h => h)) (pa_cons (pv 1) pa_nil)) pa_nil)) (pe_call GM hr (by rfl) gM FM.kp bM .nil pass0 (pa_cons (pe_meth (pv 0) T.cl mS GS hr bS .nil (passes_call (takes_of rfl rfl rfl rfl) (fun _ _ _ _ h => h)) (pa_cons (pv 2) pa_nil)) pa_nil))) pe_int (nomark _))), ?_⟩
    refine ⟨.ref p, rfl, p, dx, _, rfl, hp, rfl, .int y, rfl, p, cs, fs, y, rfl, hK, fun i ey hi v hv => ?_, q1⟩
    refine ⟨v, _, rfl, hv, getD_len100 hl i, getD_pads hU hi, fun H1 s1 => ?_⟩
    refine ⟨.ref p, rfl, p, dx, _, rfl, s1 _ _ hp, rfl, .int z, rfl, p, cs, fs, z, rfl, hK.same s1, fun j ez hj u hu => ?_, fun e => (q2 (by omega) e).later s1⟩
    refine ⟨u, _, rfl, hu, getD_len100 hl j, getD_pads hU hj, fun H2 s2 => ?_⟩
    refine ⟨_, _, rfl, rfl, rfl, ?_⟩
    have := q i j ey ez hi hj _ (s1.trans s2)
    rw [← mask_test (getD_pads hU hi) (getD_pads hU hj)] at this
    exact this
end
/-! ### lists or tuples: what stays, a dict comprehension -/
theorem SqA.same {K : PySem.W.Frag} {H H' : Hp} {a : Addr} {xs : List V} (e : Same H H') (h : SqA K H a xs) : SqA K H' a xs := by
  rcases h with h | h
  · exact .inl (e.seq h)
  · exact .inr (Same.tup e h)
theorem SqA.insOff {K : PySem.W.Frag} {H H' : Hp} {p C dx a : Addr} {fs : List (Str × V)} {xs : List V} (e : Off p H H') (h : H p = some (.ins C dx fs)) (q : SqA K H a xs) : SqA K H' a xs := by
  rcases q with q | q
  · exact .inl (seqL_off e h q)
  · exact .inr (TS.ins e h _ _ q)
theorem dc_seq {K : PySem.W.Frag} {H0 H1 : Hp} {a : Addr} {xs : List V} {g : TG} {tt : TT} {tk tv : TE} {vs : List Nat} {σ : L2.St} {Qd : Addr → Hp → Prop} (h : SqA K H0 a xs) (s1 : Same H0 H1) (Pv : Addr → Nat → Hp → Prop) (h0 : ∀ D, H1 D = none → Pv D 0 (upd H1 D (.dK []))) (hl : ∀ D, H1 D = none → ∀ i H, i ≤ xs.length → Pv D i H → Same H0 H)
    (hs : ∀ D, H1 D = none → ∀ i x H, xs[i]? = some x → Pv D i H → g x (wipe σ vs) H fun σ2 H2 => wipe σ2 vs = wipe σ vs ∧ tt σ2 H2 fun b H3 => if b = true then tk σ2 H3 fun y H4 => tv σ2 H4 fun z H5 => ∃ kvs k, y = kV k ∧ H5 D = some (.dK kvs) ∧ kvs.length < sizeLine ∧ Pv D (i + 1) (upd H5 D (.dK (putK kvs k z))) else Pv D (i + 1) H3) (hd : ∀ D, H1 D = none → ∀ H, Pv D xs.length H → Qd D H) :
    (∃ xs, SqL K H1 a xs) ∧ (∀ D, H1 D = none → ∃ W : Nat → Nat → Hp → Prop, (∃ m, W 0 m (upd H1 D (.dK []))) ∧ ∀ i m H, W i m H → ((Itl K a).stop i H ∧ Qd D H) ∨ ((Itl K a).go i H ∧ ∃ Nx : Hp → Prop, (∀ H', Nx H' → ∃ m', m' < m ∧ W (i + 1) m' H') ∧ ∀ x H', (Itl K a).yld i H x H' → g x (wipe σ vs) H' fun σ2 H2 => wipe σ2 vs = wipe σ vs ∧ tt σ2 H2 fun b H3 => if b = true then tk σ2 H3 fun y H4 => tv σ2 H4 fun z H5 => ∃ kvs k, y = kV k ∧ H5 D = some (.dK kvs) ∧ kvs.length < sizeLine ∧ Nx (upd H5 D (.dK (putK kvs k z))) else Nx H3)) ∨
    (∃ xs, SqT K H1 a xs) ∧ (∀ D, H1 D = none → ∃ W : Nat → Nat → Hp → Prop, (∃ m, W 0 m (upd H1 D (.dK []))) ∧ ∀ i m H, W i m H → ((Itt K a).stop i H ∧ Qd D H) ∨ ((Itt K a).go i H ∧ ∃ Nx : Hp → Prop, (∀ H', Nx H' → ∃ m', m' < m ∧ W (i + 1) m' H') ∧ ∀ x H', (Itt K a).yld i H x H' → g x (wipe σ vs) H' fun σ2 H2 => wipe σ2 vs = wipe σ vs ∧ tt σ2 H2 fun b H3 => if b = true then tk σ2 H3 fun y H4 => tv σ2 H4 fun z H5 => ∃ kvs k, y = kV k ∧ H5 D = some (.dK kvs) ∧ kvs.length < sizeLine ∧ Nx (upd H5 D (.dK (putK kvs k z))) else Nx H3)) := by
  rcases h with h | h
  · exact .inl ⟨⟨_, s1.seq h⟩, fun D nD => dc_list (K := K) (a := a) (xs := xs) (Pv D) (h0 D nD) (fun i H hi hP => (hl D nD i H hi hP).seq h) (hs D nD) (hd D nD)⟩
  · exact .inr ⟨⟨_, Same.tup s1 h⟩, fun D nD => dc_tup (K := K) (a := a) (xs := xs) (Pv D) (h0 D nD) (fun i H hi hP => Same.tup (hl D nD i H hi hP) h) (hs D nD) (hd D nD)⟩
/-! ### a figure as a list or a tuple of triples -/
def FigA (K : PySem.W.Frag) (H : Hp) (v : V) (f : List Tri) : Prop := ∃ a xs, v = .ref a ∧ SqA K H a xs ∧ All2 (TriAt K H) xs f
theorem FigA.same {K : PySem.W.Frag} {H H' : Hp} (e : Same H H') {v : V} {f : List Tri} (h : FigA K H v f) : FigA K H' v f := by
  obtain ⟨a, xs, h1, h2, h3⟩ := h
  exact ⟨a, xs, h1, h2.same e, h3.mono fun _ _ => TriAt.ts (TS.of e)⟩
theorem FigA.insOff {K : PySem.W.Frag} {H H' : Hp} {p C dx : Addr} {fs : List (Str × V)} (e : Off p H H') (hp : H p = some (.ins C dx fs)) {v : V} {f : List Tri} (h : FigA K H v f) : FigA K H' v f := by
  obtain ⟨a, xs, h1, h2, h3⟩ := h
  exact ⟨a, xs, h1, h2.insOff e hp, h3.mono fun _ _ => TriAt.ts (TS.ins e hp)⟩
theorem FigT.any {K : PySem.W.Frag} {H : Hp} {v : V} {f : List Tri} (h : FigT K H v f) : FigA K H v f := by
  obtain ⟨a, xs, h1, h2, h3⟩ := h
  exact ⟨a, xs, h1, .inr h2, h3⟩
/-! ### pads_of, mask_of, bar, copy_of_figure of such -/
def spPadsA (K : PySem.W.Frag) : Sp := fun vs H Q _ => ∃ (v : V) (f : List Tri), vs = [v] ∧ FigA K H v f ∧ f.length ≤ 100 ∧ ∀ (H' : Hp) (p : Addr), Same H H' → H p = none → H' p = some (.lst ((f.map (·.1)).map V.int)) → Q (.ref p) H'
def spMaskA (K : PySem.W.Frag) : Sp := fun vs H Q _ => ∃ (v : V) (f : List Tri), vs = [v] ∧ FigA K H v f ∧ f.length ≤ 100 ∧ PadsUp f ∧ ∀ H' : Hp, Same H H' → Q (.int (maskN f : Nat)) H'
def spBarA (K : PySem.W.Frag) : Sp := fun vs H Q _ => ∃ (v u : V) (f g : List Tri), vs = [v, u] ∧ FigA K H v f ∧ FigA K H u g ∧ f.length ≤ 100 ∧ g.length ≤ 100 ∧ ∀ H', Same H H' → Q (.bl (barB f g)) H'
def spCopyFA (K : PySem.W.Frag) : Sp := fun vs H Q _ => ∃ (v : V) (f : List Tri), vs = [v] ∧ FigA K H v f ∧ f.length ≤ 100 ∧ ∀ H' u, Same H H' → FigT K H' u f → Q u H'
section
variable {P : Program} {w : World} {K : PySem.W.Frag} {mg : Str → Option Value} {base : Heap}
theorem ok_padsofA {f : Addr} {fd : FuncData} {k : Nat} (F : Fun K "pads_of" "pads_of" sPadsOf f fd) : FnOk P w K mg base CX0 (k + 1) f fd ["figure"] (spPadsA K) := by
  refine F.ok scPadsOf (fun vs H Q E h => ?_) (fun cdv A outer s H vs Q E hr h => ?_)
  · obtain ⟨v, f, rfl, _⟩ := h
    rfl
  · obtain ⟨v, f, rfl, hV, hfl, q⟩ := h
    obtain ⟨a, xs, rfl, ha, hxs⟩ := hV
    refine ⟨_, pss_one (ps_ret (pe_lc (own := [("pad", 1), ("note", 2), ("depth", 3)]) (g := g3 K 1 2 3) (tt := tYes) rfl scPadsOf.nd (pi_seq (pv 0))
        (blkOk_by (own := [("pad", 1), ("note", 2), ("depth", 3)]) (N := nPadsOf) (sc := defScope sPadsOf) (by decide +kernel))
        (fun _ _ _ _ _ => pg_tup rfl (pgs_cons (pg_name (i := 1) scPadsOf.nd rfl (.inl rfl)) (pgs_cons (pg_name (i := 2) scPadsOf.nd rfl (.inl rfl)) (pgs_cons (pg_name (i := 3) scPadsOf.nd rfl (.inl rfl)) pgs_nil)))) (fun _ _ _ _ _ => pts_nil)
        (fun _ _ _ _ _ => pv 1))), ?_⟩
    refine ⟨.ref a, rfl, a, rfl, lc_seq (K := K) ha (Same.refl H) (fun D i H' => Same H H' ∧ H' D = some (.lst (((f.take i).map (·.1)).map V.int))) (fun D nD => ⟨same_upd nD, upd_same⟩) (fun D nD i H' _ hP => hP.1) (fun D nD i x H' hx hP => ?_) (fun D nD H1 hP => ?_)⟩
    · obtain ⟨sm, hD⟩ := hP
      obtain ⟨t, ht, tp, rfl, htp⟩ := hxs.get hx
      refine ⟨tp, triV t, rfl, Same.tup sm htp, rfl, _, _, rfl, _, _, rfl, _, _, rfl, rfl, rfl, yesT ⟨_, rfl, _, hD, ?_, Same.offUpd sm nD, ?_⟩⟩
      · rw [List.length_map, List.length_map, List.length_take]
        exact small1000 (by omega)
      · rw [upd_same, take_snoc ht, List.map_append, List.map_append]
        rfl
    · obtain ⟨sm, hD⟩ := hP
      rw [hxs.len, List.take_length] at hD
      exact q H1 D sm nD hD
theorem ok_maskA {f : Addr} {fd : FuncData} {k : Nat} (F : Fun K "mask_of" "mask_of" sMask f fd) (ms : mg "sum" = none) : FnOk P w K mg base CX0 (k + 1) f fd ["figure"] (spMaskA K) := by
  refine F.ok scMask (fun vs H Q E h => ?_) (fun cdv A outer s H vs Q E hr h => ?_)
  · obtain ⟨v, f, rfl, _⟩ := h
    rfl
  · obtain ⟨v, f, rfl, hV, hfl, hU, q⟩ := h
    obtain ⟨a, xs, rfl, ha, hxs⟩ := hV
    refine ⟨_, pss_one (ps_ret (pe_callB (cr_sum rfl) (by rfl) ms (by decide +kernel) (pa_cons (pe_lc (own := [("pad", 1), ("note", 2), ("depth", 3)]) (g := g3 K 1 2 3) (tt := tYes) rfl scMask.nd (pi_seq (pv 0))
        (blkOk_by (own := [("pad", 1), ("note", 2), ("depth", 3)]) (N := nMask) (sc := defScope sMask) (by decide +kernel))
        (fun _ _ _ _ _ => pg_tup rfl (pgs_cons (pg_name (i := 1) scMask.nd rfl (.inl rfl)) (pgs_cons (pg_name (i := 2) scMask.nd rfl (.inl rfl)) (pgs_cons (pg_name (i := 3) scMask.nd rfl (.inl rfl)) pgs_nil)))) (fun _ _ _ _ _ => pts_nil)
        (fun _ _ _ _ _ => pe_op op_shl pe_int (pv 1))) pa_nil))), ?_⟩
    refine ⟨.ref a, rfl, a, rfl, lc_seq (K := K) ha (Same.refl H) (fun D i H' => Same H H' ∧ H' D = some (.lst ((masksI (f.take i)).map V.int))) (fun D nD => ⟨same_upd nD, upd_same⟩) (fun D nD i H' _ hP => hP.1) (fun D nD i x H' hx hP => ?_) (fun D nD H1 hP => ?_)⟩
    · obtain ⟨sm, hD⟩ := hP
      obtain ⟨t, ht, tp, rfl, htp⟩ := hxs.get hx
      have m := List.mem_of_getElem? ht
      have b1 := hU.lo t m
      have b2 := hU.hi t m
      refine ⟨tp, triV t, rfl, Same.tup sm htp, rfl, _, _, rfl, _, _, rfl, _, _, rfl, rfl, rfl, yesT ⟨_, rfl, 1, t.1, rfl, rfl, ⟨b1, by omega, by decide⟩, _, hD, ?_, Same.offUpd sm nD, ?_⟩⟩
      · unfold masksI
        rw [List.length_map, List.length_map, List.length_take]
        exact small1000 (by omega)
      · unfold masksI
        rw [upd_same, take_snoc ht, List.map_append, List.map_append]
        rfl
    · obtain ⟨sm, hD⟩ := hP
      rw [hxs.len, List.take_length] at hD
      refine ⟨D, _, rfl, SqL.of hD, ?_⟩
      rw [masksI_sum]
      exact q H1 sm
theorem ok_barA {f : Addr} {fd : FuncData} {k : Nat} (F : Fun K "bar" "bar" sBar f fd) (ma : mg "any" = none) : FnOk P w K mg base CX0 (k + 1) f fd ["one", "other"] (spBarA K) := by
  refine F.ok scBar (fun vs H Q E h => ?_) (fun cdv A outer s H vs Q E hr h => ?_)
  · obtain ⟨v, u, f, g, rfl, _⟩ := h
    rfl
  · obtain ⟨v, u, f, g, rfl, hV, hU, hfl, hgl, q⟩ := h
    obtain ⟨a, xs, rfl, ha, hxs⟩ := hV
    obtain ⟨b, ys, rfl, hb, hys⟩ := hU
    refine ⟨_, pss_cons (ps_set (i := 2) scBar.nd rfl (.inr rfl) (pe_dc (own := [("pad", 3), ("note", 4), ("depth", 5)]) (g := g3 K 3 4 5) (tt := tYes) rfl scBar.nd (pi_seq (pv 0))
        (blkOk_by (own := [("pad", 3), ("note", 4), ("depth", 5)]) (N := nBar) (sc := defScope sBar) (by decide +kernel))
        (fun _ _ _ _ _ => pg_tup rfl (pgs_cons (pg_name (i := 3) scBar.nd rfl (.inl rfl)) (pgs_cons (pg_name (i := 4) scBar.nd rfl (.inl rfl)) (pgs_cons (pg_name (i := 5) scBar.nd rfl (.inl rfl)) pgs_nil)))) (fun _ _ _ _ _ => pts_nil)
        (fun _ _ _ _ _ => pv 3) (fun _ _ _ _ _ => pv 4)))
      (pss_one (ps_ret (pe_callB (cr_any rfl) (by rfl) ma (by decide +kernel) (pa_cons (pe_lc (own := [("pad", 3), ("note", 4), ("depth", 5)]) (g := g3 K 3 4 5) (tt := tYes) rfl scBar.nd (pi_seq (pv 1))
        (blkOk_by (own := [("pad", 3), ("note", 4), ("depth", 5)]) (N := nBar) (sc := defScope sBar) (by decide +kernel))
        (fun _ _ _ _ _ => pg_tup rfl (pgs_cons (pg_name (i := 3) scBar.nd rfl (.inl rfl)) (pgs_cons (pg_name (i := 4) scBar.nd rfl (.inl rfl)) (pgs_cons (pg_name (i := 5) scBar.nd rfl (.inl rfl)) pgs_nil)))) (fun _ _ _ _ _ => pts_nil)
        (fun _ _ _ _ _ => pe_cmpR op_ne (pe_dget2 (hu_of hr) (pv 2) (pv 3) (pv 4) ⟨rfl, rfl, rfl, rfl⟩) (pv 4) (nomark _))) pa_nil)))), ?_⟩
    refine ⟨.ref a, rfl, a, rfl, dc_seq (K := K) ha (Same.refl H) (fun D i H' => Same H H' ∧ H' D = some (.dK (mergeK [] (kvsOf (f.take i))))) (fun D nD => ⟨same_upd nD, upd_same⟩) (fun D nD i H' _ hP => hP.1) (fun D nD i x H' hx hP => ?_) (fun D nD H1 hP => ?_)⟩
    · obtain ⟨sm, hD⟩ := hP
      obtain ⟨t, ht, tp, rfl, htp⟩ := hxs.get hx
      refine ⟨tp, triV t, rfl, Same.tup sm htp, rfl, _, _, rfl, _, _, rfl, _, _, rfl, rfl, rfl, yesT ⟨_, rfl, _, rfl, _, Sum.inl t.1, rfl, hD, ?_, Same.offUpd sm nD, ?_⟩⟩
      · have := merge_len (f.take i)
        rw [List.length_take] at this
        exact small1000 (by omega)
      · rw [upd_same, take_snoc ht, merge_snoc]
    · obtain ⟨s1, hD⟩ := hP
      rw [hxs.len, List.take_length] at hD
      refine ⟨.ref b, rfl, b, rfl, lc_seq (K := K) hb s1 (fun D2 i H' => Same H1 H' ∧ H' D2 = some (.lst (((g.take i).map fun u => !decide ((noteOf f u.1).getD u.2.1 = u.2.1)).map V.bl))) (fun D2 nD2 => ⟨same_upd nD2, upd_same⟩) (fun D2 nD2 i H' _ hP => s1.trans hP.1) (fun D2 nD2 i x H' hx hP => ?_) (fun D2 nD2 H2 hP => ?_)⟩
      · obtain ⟨sm, hD2⟩ := hP
        obtain ⟨t, ht, tp, rfl, htp⟩ := hys.get hx
        refine ⟨tp, triV t, rfl, Same.tup (s1.trans sm) htp, rfl, _, _, rfl, _, _, rfl, _, _, rfl, rfl, rfl, yesT ?_⟩
        refine ⟨_, rfl, D, rfl, .inl ⟨_, .inl (sm _ _ hD)⟩, _, rfl, _, rfl, _, DGet.k (k := Sum.inl t.1) (sm _ _ hD), _, rfl, ?_⟩
        rw [val_fig]
        have ev : (((noteOf f t.1).map V.int).getD (V.int t.2.1)) = V.int ((noteOf f t.1).getD t.2.1) := by
          cases noteOf f t.1 <;> rfl
        rw [ev]
        refine ⟨rfl, _, hD2, ?_, Same.offUpd sm nD2, ?_⟩
        · rw [List.length_map, List.length_map, List.length_take]
          exact small1000 (by omega)
        · rw [upd_same, take_snoc ht, List.map_append, List.map_append]
          have : (!decide (V.int ((noteOf f t.1).getD t.2.1) = V.int t.2.1)) = (!decide ((noteOf f t.1).getD t.2.1 = t.2.1)) := by
            congr 1
            rw [decide_eq_decide]
            exact ⟨fun z => V.int.inj z, fun z => by rw [z]⟩
          rw [this]
          rfl
      · obtain ⟨sm, hD2⟩ := hP
        rw [hys.len, List.take_length] at hD2
        refine ⟨D2, _, rfl, SqL.of hD2, ?_⟩
        have := q _ (s1.trans sm)
        unfold barB at this
        rw [List.any_map]
        exact this
theorem ok_copyfA {f : Addr} {fd : FuncData} {k : Nat} (F : Fun K "copy_of_figure" "copy_of_figure" sCopyF f fd) (mt : mg "tuple" = none) : FnOk P w K mg base CX0 (k + 1) f fd ["figure"] (spCopyFA K) := by
  refine F.ok scCopyF (fun vs H Q E h => ?_) (fun cdv A outer s H vs Q E hr h => ?_)
  · obtain ⟨v, f, rfl, _⟩ := h
    rfl
  · obtain ⟨v, f, rfl, hV, hfl, q⟩ := h
    obtain ⟨a, xs, rfl, ha, hxs⟩ := hV
    refine ⟨_, pss_one (ps_ret (pe_callTy call_tupS (by rfl) mt (by decide +kernel) (pa_cons (pe_lc (own := [("triple", 1)]) (g := gName 1) (tt := tYes) rfl scCopyF.nd (pi_seq (pv 0))
        (blkOk_by (own := [("triple", 1)]) (N := nCopyF) (sc := defScope sCopyF) (by decide +kernel)) (fun _ _ _ _ _ => pg_name (i := 1) scCopyF.nd rfl (.inl rfl)) (fun _ _ _ _ _ => pts_nil)
        (fun _ _ _ _ _ => pe_callTy (r := rTupS K) call_tupS (by rfl) mt (by decide +kernel) (pa_cons (pv 1) pa_nil))) pa_nil))), ?_⟩
    refine ⟨.ref a, rfl, a, rfl, lc_seq (K := K) ha (Same.refl H) (fun D i H' => Same H H' ∧ ∃ zs, H' D = some (.lst zs) ∧ All2 (TriAt K H') zs (f.take i)) (fun D nD => ⟨same_upd nD, [], upd_same, True.intro⟩) (fun D nD i H' _ hP => hP.1) (fun D nD i x H' hx hP => ?_) (fun D nD H1 hP => ?_)⟩
    · obtain ⟨sm, zs, hD, hz⟩ := hP
      obtain ⟨t, ht, tp, rfl, htp⟩ := hxs.get hx
      refine ⟨rfl, yesT ⟨.ref tp, rfl, tp, _, rfl, .inr (Same.tup sm htp), fun l H2 s2 hl => ?_⟩⟩
      have hD2 := s2 _ _ hD
      refine ⟨_, hD2, ?_, Same.offUpd (sm.trans s2) nD, zs ++ [.ref l], upd_same, ?_⟩
      · rw [hz.len, List.length_take]
        exact small1000 (by omega)
      · rw [take_snoc ht]
        exact All2.snoc ⟨l, rfl, TS.upd hD2 _ _ hl⟩ (hz.mono fun _ _ => TriAt.ts ((TS.of s2).trans (TS.upd hD2)))
    · obtain ⟨sm, zs, hD, hz⟩ := hP
      rw [hxs.len, List.take_length] at hz
      refine ⟨D, _, rfl, .inl (SqL.of hD), fun l H2 s2 hl => ?_⟩
      exact q _ _ (sm.trans s2) ⟨l, zs, rfl, hl, hz.mono fun _ _ => TriAt.ts (TS.of s2)⟩
end
/-! ### Book.__init__ over lists or tuples: good colours, good figures; refused for how many there are, and for figures that meet -/
abbrev exc2 (nm f1 f2 : Str) (C : Addr) (P : Program) (w : World) (K : PySem.W.Frag) (mg : Str → Option Value) (base : Heap) (k : Nat) : Prop := ExcK P w K mg base k nm C 2 (fun ws => [(f2, ws.getD 1 .non), (f1, ws.getD 0 .non), ("word", .str nm)])
def mtT (fs : List (List Tri)) (i j : Nat) : Bool := okB (fs.getD i []) (fs.getD j [])
def FirstT (fs : List (List Tri)) (i j : Nat) : Prop := (i < j ∧ j < fs.length ∧ mtT fs i j = false) ∧ ∀ i' j', i' < j' → j' < fs.length → (i' < i ∨ (i' = i ∧ j' < j)) → mtT fs i' j' = true
def NoneT (fs : List (List Tri)) : Prop := ∀ i j, i < j → j < fs.length → mtT fs i j = true
def spCColA (K : PySem.W.Frag) (C : Addr) : Sp := fun vs H Q E => ∃ (a : Addr) (cs : List Int), vs = [.ref a] ∧ SqA K H a (cs.map V.int) ∧ (∀ x ∈ cs, colOk x) ∧ (1 ≤ cs.length ∧ cs.length ≤ 6 → ∀ H', Same H H' → Q .non H') ∧ (¬ (1 ≤ cs.length ∧ cs.length ≤ 6) → refuseN 0 C [-1] H E)
def spIsFigA (K : PySem.W.Frag) : Sp := fun vs H Q _ => ∃ (a : Addr) (cs : List Int) (v : V) (f : List Tri), vs = [.ref a, v] ∧ SqA K H a (cs.map V.int) ∧ FigA K H v f ∧ GoodF cs f ∧ f.length ≤ 100 ∧ ∀ H', Same H H' → Q (.bl true) H'
def spCFigA (K : PySem.W.Frag) : Sp := fun vs H Q _ => ∃ (a b : Addr) (cs : List Int) (xs : List V) (fs : List (List Tri)), vs = [.ref a, .ref b] ∧ SqA K H a (cs.map V.int) ∧ SqA K H b xs ∧ All2 (FigA K H) xs fs ∧ (∀ f ∈ fs, GoodF cs f) ∧ cs.length ≤ 6 ∧ ∀ H', Same H H' → Q .non H'
def spCMeetA (K : PySem.W.Frag) (C : Addr) : Sp := fun vs H Q E => ∃ (b : Addr) (cs : List Int) (xs : List V) (fs : List (List Tri)), vs = [.ref b] ∧ SqA K H b xs ∧ All2 (FigA K H) xs fs ∧ (∀ f ∈ fs, GoodF cs f) ∧ cs.length ≤ 6 ∧ fs.length ≤ 100 ∧ (NoneT fs → ∀ H', Same H H' → Q .non H') ∧ ∀ i j : Nat, FirstT fs i j → refuseN 2 C [(i : Int), (j : Int)] H E
section
variable {P : Program} {w : World} {K : PySem.W.Frag} {mg : Str → Option Value} {base : Heap}
theorem ok_ccolA {f C : Addr} {fd : FuncData} {k : Nat} {tkP tkC : Tok} (F : Fun K "check_colours" "check_colours" sCCol f fd) (R : exc1 0 "BadColours" "at" C P w K mg base k) (ml : mg "len" = none) (me : mg "enumerate" = none) (mP : mg "MOST_PADS" = some (.int 6 tkP)) (mC : mg "MOST_COLOURS" = some (.int 4 tkC)) :
    FnOk P w K mg base (L2.CX P w) (k + 2) f fd ["colours"] (spCColA K C) := by
  refine F.okX scCCol (fun vs H Q E h => ?_) (fun cdv A outer s H vs Q E hr h => ?_)
  · obtain ⟨a, cs, rfl, _⟩ := h
    rfl
  · obtain ⟨a, cs, rfl, ha, hco, q, q1⟩ := h
    refine ⟨_, pss_cons (ps_if (pt_not (pt_chain op_le op_le pe_int (pe_callB call_lenQ (by rfl) ml PySem.boot_len (pa_cons (pv 0) pa_nil)) (pe_glob (v := .int 6) (by rfl) mP ⟨_, rfl⟩)))
        (pss_one (ps_raise rfl (takes_of rfl rfl rfl rfl) (pmk_ref R hr (by rfl) (pa_cons (pe_un un_neg pe_int) pa_nil)))) pss_nil)
      (pss_one (ps_for (passes_of rfl) rfl (pi_enumA (by rfl) me (pa_cons (pv 0) pa_nil)) (pg_tup rfl (pgs_cons (pg_name (i := 1) scCCol.nd rfl (.inl rfl)) (pgs_cons (pg_name (i := 2) scCCol.nd rfl (.inl rfl)) pgs_nil)))
        (pss_one (ps_if (pt_not (pt_chain op_le op_le pe_int (pv 2) (pe_glob (v := .int 4) (by rfl) mC ⟨_, rfl⟩))) (pss_one ps_never) pss_nil)))), ?_⟩
    have bad : ¬ (1 ≤ cs.length ∧ cs.length ≤ 6) → ∀ σ : L2.St, tRef C 1 (fun ws => [("at", ws.getD 0 .non), ("word", .str "BadColours")]) (tCons (tUn (rU fun i => .int (-i)) (L2.tC (.int 1))) tNil) σ H fun cls d H' => E cls d H' := fun e σ =>
      ⟨_, rfl, rfl, (show (1 : Nat) ≤ 1000 by decide), fun dd H2 h1 h2 h3 => q1 e dd H2 (same_ref h1 h2) h3⟩
    refine ⟨.ref a, rfl, a, _, rfl, ha, 1, _, rfl, rfl, _, rfl, ?_⟩
    rw [List.length_map]
    by_cases e1 : 1 ≤ cs.length
    rotate_left
    · rw [decide_eq_false (show ¬ (1 : Int) ≤ ((cs.length : Nat) : Int) by omega)]
      exact iteF ⟨_, rfl, iteT (bad (fun z => e1 z.1) _)⟩
    rw [decide_eq_true (show (1 : Int) ≤ ((cs.length : Nat) : Int) by omega)]
    refine iteT ⟨_, 6, rfl, rfl, _, rfl, ?_⟩
    by_cases e6 : cs.length ≤ 6
    rotate_left
    · rw [decide_eq_false (show ¬ ((cs.length : Nat) : Int) ≤ 6 by omega)]
      exact iteT (bad (fun z => e6 z.2) _)
    rw [decide_eq_true (show ((cs.length : Nat) : Int) ≤ 6 by omega)]
    refine iteF ⟨.ref a, rfl, a, rfl, for_enumA (K := K) ha (Same.refl H) (fun i σ H' => ∃ (y1 y2 : Option V), σ = [some (.ref a), y1, y2] ∧ Same H H') ⟨none, none, rfl, Same.refl H⟩ (fun i σ H' _ hP => ?_) (fun i y σ H' T hy hP nT => ?_) (fun σ H' hP => ?_)⟩
    · obtain ⟨_, _, _, sm⟩ := hP
      exact sm
    · obtain ⟨y1, y2, rfl, sm⟩ := hP
      have u1 := same_upd (o := .tup [.int (i : Nat), y]) nT
      have hi : i < cs.length := by
        have := (List.getElem?_eq_some_iff.mp hy).1
        rw [List.length_map] at this
        exact this
      rw [List.getElem?_map, List.getElem?_eq_getElem hi] at hy
      obtain rfl := Option.some.inj hy
      have hci := hco _ (List.getElem_mem hi)
      refine ⟨T, _, rfl, SqT.of upd_same, rfl, _, _, rfl, _, _, rfl, rfl, ?_⟩
      refine ⟨_, rfl, 1, cs[i], rfl, rfl, _, rfl, ?_⟩
      rw [decide_eq_true hci.1]
      exact iteT ⟨cs[i], 4, rfl, rfl, _, rfl, iteNS hci.2 ⟨_, _, rfl, sm.trans u1⟩⟩
    · obtain ⟨y1, y2, rfl, sm⟩ := hP
      exact q ⟨e1, e6⟩ _ sm
theorem ok_isfigA {f fT fP : Addr} {fd fdT fdP : FuncData} {k : Nat} {tkD : Tok} (F : Fun K "is_figure" "is_figure" sIsFig f fd) (ml : mg "len" = none) (ma : mg "all" = none) (mz : mg "zip" = none) (mD : mg "MOST_DEPTH" = some (.int 3 tkD))
    (FT : Fun K "is_triple" "is_triple" sIsTri fT fdT) (bT : Binds K fdT ["colours", "triple"] []) (gT : mg "is_triple" = some (.ref fT))
    (FP : Fun K "pads_of" "pads_of" sPadsOf fP fdP) (bP : Binds K fdP ["figure"] []) (gP : mg "pads_of" = some (.ref fP)) : FnOk P w K mg base CX0 (k + 2) f fd ["colours", "figure"] (spIsFigA K) := by
  have GT : FnOk P w K mg base CX0 (k + 1) fT fdT ["colours", "triple"] (spIsTri K) := ok_istri FT ml mD
  have GP : FnOk P w K mg base CX0 (k + 1) fP fdP ["figure"] (spPadsA K) := ok_padsofA FP
  refine F.ok scIsFig (fun vs H Q E h => ?_) (fun cdv A outer s H vs Q E hr h => ?_)
  · obtain ⟨a, cs, v, f, rfl, _⟩ := h
    rfl
  · obtain ⟨a, cs, v, f, rfl, ha, hV, hG, hfl, q⟩ := h
    obtain ⟨b, xs, rfl, hb, hxs⟩ := id hV
    refine ⟨_, pss_cons (ps_if (PW.pt (pw_or (pt_cmpR op_eq (pe_callB call_lenQ (by rfl) ml PySem.boot_len (pa_cons (pv 1) pa_nil)) pe_int (nomark _))
        (pw_or1 (pt_not (pt_val (pe_callB (cr_all rfl) (by rfl) ma (by decide +kernel) (pa_cons (pe_lc (own := [("triple", 3)]) (g := gName 3) (tt := tYes) rfl scIsFig.nd (pi_seq (pv 1))
          (blkOk_by (own := [("triple", 3)]) (N := nIsFig) (sc := defScope sIsFig) (by decide +kernel)) (fun _ _ _ _ _ => pg_name (i := 3) scIsFig.nd rfl (.inl rfl)) (fun _ _ _ _ _ => pts_nil)
          (fun _ _ _ _ _ => pe_call GT hr (by rfl) gT FT.kp bT .nil pass0 (pa_cons (pv 0) (pa_cons (pv 3) pa_nil)))) pa_nil))))))) (pss_one (ps_ret pe_bl)) pss_nil)
      (pss_cons (ps_set (i := 2) scIsFig.nd rfl (.inl rfl) (pe_call GP hr (by rfl) gP FP.kp bP .nil pass0 (pa_cons (pv 1) pa_nil)))
      (pss_one (ps_ret (pe_callB (cr_all rfl) (by rfl) ma (by decide +kernel) (pa_cons (pe_lc (own := [("pad", 4), ("later", 5)]) (g := g2 K 4 5) (tt := tYes) rfl scIsFig.nd (pi_zip (by rfl) mz (pa_cons (pv 2) (pa_cons (pe_slice sl_list (pv 2) (po_some pe_int) po_none) pa_nil)))
        (blkOk_by (own := [("pad", 4), ("later", 5)]) (N := nIsFig) (sc := defScope sIsFig) (by decide +kernel))
        (fun _ _ _ _ _ => pg_tup rfl (pgs_cons (pg_name (i := 4) scIsFig.nd rfl (.inl rfl)) (pgs_cons (pg_name (i := 5) scIsFig.nd rfl (.inl rfl)) pgs_nil))) (fun _ _ _ _ _ => pts_nil)
        (fun _ _ _ _ _ => pe_cmpR op_lt (pv 4) (pv 5) (nomark _))) pa_nil))))), ?_⟩
    have hlen : 0 < f.length := List.length_pos_iff.mpr hG.ne
    have hxl := hxs.len
    refine ⟨.ref b, rfl, b, _, rfl, hb, rfl, _, rfl, ?_⟩
    rw [decide_eq_false (fun z => by have := V.int.inj z; omega)]
    refine iteF ?_
    refine ⟨.ref b, rfl, b, rfl, lc_seq (K := K) hb (Same.refl H) (fun D i H' => Same H H' ∧ H' D = some (.lst ((List.replicate i true).map V.bl))) (fun D nD => ⟨same_upd nD, upd_same⟩) (fun D nD i H' _ hP => hP.1) (fun D nD i x H' hx hP => ?_) (fun D nD H1 hP => ?_)⟩
    · obtain ⟨sm, hD⟩ := hP
      obtain ⟨t, ht, htp⟩ := hxs.get hx
      have hi : i < xs.length := (List.getElem?_eq_some_iff.mp hx).1
      refine ⟨rfl, yesT ⟨.ref a, rfl, x, rfl, a, cs, x, t, rfl, ha.same sm, htp.ts (TS.of sm), hG.all t (List.mem_of_getElem? ht), fun H2 s2 => ⟨_, s2 _ _ hD, ?_, Same.offUpd (sm.trans s2) nD, ?_⟩⟩⟩
      · rw [List.length_map, List.length_replicate]
        exact small1000 (by omega)
      · rw [upd_same, List.replicate_succ', List.map_append]
        rfl
    · obtain ⟨s1, hD⟩ := hP
      refine ⟨D, _, rfl, SqL.of hD, ?_⟩
      rw [show (List.replicate xs.length true).all id = true by simp]
      refine ⟨_, rfl, iteF ?_⟩
      refine ⟨_, rfl, _, f, rfl, hV.same s1, hfl, fun H2 p s2 _ hp => ?_⟩
      refine ⟨.ref p, rfl, .ref p, rfl, 1, rfl, p, _, rfl, SqL.of hp, fun p2 np2 => ?_⟩
      rw [show (some (1 : Int)) = some ((1 : Nat) : Int) from rfl, cutV_from]
      have s3 := same_upd (o := .lst (((f.map (·.1)).map V.int).drop 1)) np2
      refine ⟨p, p2, _, _, rfl, SqL.of (s3 _ _ hp), SqL.of upd_same, fun D2 nD2 => ?_⟩
      have hp3 := s3 _ _ hp
      have hp23 : (upd H2 p2 (.lst (((f.map (·.1)).map V.int).drop 1))) p2 = some (.lst (((f.map (·.1)).map V.int).drop 1)) := upd_same
      have s123 := (s1.trans s2).trans s3
      generalize upd H2 p2 (.lst (((f.map (·.1)).map V.int).drop 1)) = H3 at hp3 hp23 s123 nD2 ⊢
      refine lc_it (walk_zip (K := K) (a := p) (b := p2) (xs := (f.map (·.1)).map V.int) (ys := ((f.map (·.1)).map V.int).drop 1) rfl) (fun i H' => Same H3 H' ∧ H' D2 = some (.lst ((List.replicate i true).map V.bl))) ⟨same_upd nD2, upd_same⟩ (fun i H' _ hP => ⟨SqL.of (hP.1 _ _ hp3), SqL.of (hP.1 _ _ hp23)⟩) (fun i v H' H'' hi hP hY => ?_) (fun H4 hP => ?_)
      · obtain ⟨sm, hD2⟩ := hP
        obtain ⟨T, x, y, rfl, nT, rfl, hx, hy⟩ := hY
        have u1 := same_upd (o := .tup [x, y]) nT
        rw [List.length_drop, List.length_map, List.length_map] at hi
        have h1 : i < (f.map (·.1)).length := by rw [List.length_map]; omega
        have h2 : i + 1 < (f.map (·.1)).length := by rw [List.length_map]; omega
        have ex : x = .int (f.map (·.1))[i] := by
          have hx : ((f.map (·.1)).map V.int)[i]? = some x := hx
          rw [List.getElem?_map, List.getElem?_eq_getElem h1] at hx
          exact (Option.some.inj hx).symm
        have ey : y = .int (f.map (·.1))[i + 1] := by
          have hy : (((f.map (·.1)).map V.int).drop 1)[i]? = some y := hy
          rw [List.getElem?_drop, Nat.add_comm 1 i, List.getElem?_map, List.getElem?_eq_getElem h2] at hy
          exact (Option.some.inj hy).symm
        have hlt := List.pairwise_iff_getElem.mp hG.up i (i + 1) h1 h2 (Nat.lt_succ_self i)
        have hD2' := u1 _ _ hD2
        refine ⟨T, [x, y], rfl, SqT.of upd_same, rfl, x, _, rfl, y, _, rfl, rfl, rfl, yesT ⟨x, rfl, y, rfl, _, _, ex, ey, ?_⟩⟩
        refine ⟨_, hD2', ?_, Same.offUpd (sm.trans u1) nD2, ?_⟩
        · rw [List.length_map, List.length_replicate]
          exact small1000 (by omega)
        · rw [upd_same, List.replicate_succ', List.map_append]
          show some (HO.lst (_ ++ [V.bl (decide ((f.map (·.1))[i] < (f.map (·.1))[i + 1]))])) = _
          rw [decide_eq_true hlt]
          rfl
      · obtain ⟨sm, hD2⟩ := hP
        refine ⟨D2, _, rfl, SqL.of hD2, ?_⟩
        have e : (List.replicate (min ((f.map (·.1)).map V.int).length (((f.map (·.1)).map V.int).drop 1).length) true).all id = true := by simp
        rw [e]
        exact q _ (s123.trans sm)
theorem ok_cfigA {f fI : Addr} {fd fdI : FuncData} {k : Nat} (F : Fun K "check_figures" "check_figures" sCFig f fd) (me : mg "enumerate" = none)
    (FI : Fun K "is_figure" "is_figure" sIsFig fI fdI) (bI : Binds K fdI ["colours", "figure"] []) (gI : mg "is_figure" = some (.ref fI)) (GI : FnOk P w K mg base CX0 k fI fdI ["colours", "figure"] (spIsFigA K)) : FnOk P w K mg base CX0 (k + 1) f fd ["colours", "figures"] (spCFigA K) := by
  refine F.ok scCFig (fun vs H Q E h => ?_) (fun cdv A outer s H vs Q E hr h => ?_)
  · obtain ⟨a, b, cs, xs, fs, rfl, _⟩ := h
    rfl
  · obtain ⟨a, b, cs, xs, fs, rfl, ha, hb, hA, hG, h6, q⟩ := h
    refine ⟨_, pss_one (ps_for PassesOwn.never rfl (pi_enumA (by rfl) me (pa_cons (pv 1) pa_nil)) (pg_tup rfl (pgs_cons (pg_name (i := 2) scCFig.nd rfl (.inl rfl)) (pgs_cons (pg_name (i := 3) scCFig.nd rfl (.inl rfl)) pgs_nil)))
        (pss_one (ps_if (pt_not (pt_val (pe_call GI hr (by rfl) gI FI.kp bI .nil pass0 (pa_cons (pv 0) (pa_cons (pv 3) pa_nil))))) (pss_one ps_never) pss_nil))), ?_⟩
    refine ⟨.ref b, rfl, b, rfl, for_enumA (K := K) hb (Same.refl H) (fun i σ H' => ∃ (y1 y2 : Option V), σ = [some (.ref a), some (.ref b), y1, y2] ∧ Same H H') ⟨none, none, rfl, Same.refl H⟩ (fun i σ H' _ hP => ?_) (fun i y σ H' T hy hP nT => ?_) (fun σ H' hP => ?_)⟩
    · obtain ⟨_, _, _, sm⟩ := hP
      exact sm
    · obtain ⟨y1, y2, rfl, sm⟩ := hP
      have u1 := same_upd (o := .tup [.int (i : Nat), y]) nT
      have s1 := sm.trans u1
      obtain ⟨g, hg, hgT⟩ := hA.get hy
      have hgG := hG g (List.mem_of_getElem? hg)
      have hgl := hgG.len
      refine ⟨T, _, rfl, SqT.of upd_same, rfl, _, _, rfl, y, _, rfl, rfl, ?_⟩
      refine ⟨_, rfl, y, rfl, a, cs, y, g, rfl, ha.same s1, hgT.same s1, hgG, by omega, fun H2 s2 => ⟨_, rfl, iteF ⟨_, _, rfl, s1.trans s2⟩⟩⟩
    · obtain ⟨y1, y2, rfl, sm⟩ := hP
      exact q _ sm
theorem ok_cmeetA {f fM fB C : Addr} {fd fdM fdB : FuncData} {k : Nat} (F : Fun K "check_meetings" "check_meetings" sCMeet f fd) (me : mg "enumerate" = none) (mr : mg "range" = none) (ml : mg "len" = none) (R : exc2 "Meeting" "one" "other" C P w K mg base k)
    (FM : Fun K "mask_of" "mask_of" sMask fM fdM) (bM : Binds K fdM ["figure"] []) (gM : mg "mask_of" = some (.ref fM)) (GM : FnOk P w K mg base CX0 (k + 1) fM fdM ["figure"] (spMaskA K))
    (FB : Fun K "bar" "bar" sBar fB fdB) (bB : Binds K fdB ["one", "other"] []) (gB : mg "bar" = some (.ref fB)) (GB : FnOk P w K mg base CX0 (k + 1) fB fdB ["one", "other"] (spBarA K)) : FnOk P w K mg base (L2.CX P w) (k + 2) f fd ["figures"] (spCMeetA K C) := by
  refine F.okX scCMeet (fun vs H Q E h => ?_) (fun cdv A outer s H vs Q E hr h => ?_)
  · obtain ⟨b, cs, xs, fs, rfl, _⟩ := h
    rfl
  · obtain ⟨b, cs, xs, fs, rfl, hb, hA, hG, h6, hfs, q, qe⟩ := h
    refine ⟨_, pss_cons (ps_setLc (i := 1) (own := [("figure", 3)]) (g := gName 3) (tt := tYes) rfl scCMeet.nd rfl rfl (sw_true rfl rfl rfl (by decide +kernel)) (pi_seq (pv 0)) (blkOk_by (own := [("figure", 3)]) (N := nCMeet) (sc := defScope sCMeet) (by decide +kernel)) (fun _ _ _ _ _ => pg_name (i := 3) scCMeet.nd rfl (.inl rfl)) (fun _ _ _ _ _ => pts_nil) (fun _ _ _ _ _ => pe_call GM hr (by rfl) gM FM.kp bM .nil pass0 (pa_cons (pv 3) pa_nil)))
      (pss_one (ps_for (passes_of rfl) rfl (pi_enumA (by rfl) me (pa_cons (pv 0) pa_nil)) (pg_tup (by rfl) (pgs_cons (pg_name (i := 2) scCMeet.nd rfl (.inl rfl)) (pgs_cons (pg_name (i := 3) scCMeet.nd rfl (.inl rfl)) pgs_nil))) (pss_one (ps_for (passes_of rfl) rfl (pi_range2 (by rfl) mr (pa_cons (pe_op op_add (pv 2) pe_int) (pa_cons (pe_callB call_lenQ (by rfl) ml PySem.boot_len (pa_cons (pv 0) pa_nil)) pa_nil))) (pg_name (i := 4) scCMeet.nd rfl (.inl rfl)) (pss_one (ps_if (PW.pt (pw_and (pt_cmpR op_ne (pe_op op_and (pe_ix ix_list (pv 1) (pv 2) (fun _ _ => rfl)) (pe_ix ix_list (pv 1) (pv 4) (fun _ _ => rfl))) pe_int (nomark _)) (pw_and1 (pt_not (pt_val (pe_call GB hr (by rfl) gB FB.kp bB .nil pass0 (pa_cons (pv 3) (pa_cons (pe_ix (r := rIx K) ix_seq (pv 0) (pv 4) (fun _ _ => rfl)) pa_nil)))))))) (pss_one (ps_raise rfl (takes_of rfl rfl rfl rfl) (pmk_ref R hr (by rfl) (pa_cons (pv 2) (pa_cons (pv 4) pa_nil))))) pss_nil)))))), ?_⟩
    have hxl := hA.len
    have fat : ∀ {i : Nat} {y : V}, xs[i]? = some y → FigA K H y (fs.getD i []) ∧ (fs.getD i []).length ≤ 100 ∧ PadsUp (fs.getD i []) ∧ fs[i]? = some (fs.getD i []) := fun {i y} hy => by
      obtain ⟨g, hg, hgT⟩ := hA.get hy
      rw [List.getD_eq_getElem?_getD, hg]
      have hgG := hG g (List.mem_of_getElem? hg)
      have hgl := hgG.len
      exact ⟨hgT, Nat.le_trans hgl (by omega), hgG.padsUp h6, rfl⟩
    refine ⟨.ref b, rfl, b, rfl, lc_seq (K := K) hb (Same.refl H) (fun D i H' => Same H H' ∧ H' D = some (.lst ((fs.take i).map fun f => V.int (maskN f : Nat)))) (fun D nD => ⟨same_upd nD, upd_same⟩) (fun D nD i H' _ hP => hP.1) (fun D nD i x H' hx hP => ?_) (fun D nD H0 hP => ?_)⟩
    · obtain ⟨sm, hD⟩ := hP
      obtain ⟨hg1, hl1, hu1, he1⟩ := fat hx
      have hi : i < xs.length := (List.getElem?_eq_some_iff.mp hx).1
      refine ⟨rfl, yesT ⟨x, rfl, x, _, rfl, hg1.same sm, hl1, hu1, fun H2 s2 => ⟨_, s2 _ _ hD, ?_, Same.offUpd (sm.trans s2) nD, ?_⟩⟩⟩
      · rw [List.length_map, List.length_take]
        exact small1000 (by omega)
      · rw [upd_same, take_snoc he1, List.map_append]
        rfl
    obtain ⟨s0, hD⟩ := hP
    rw [hxl, List.take_length] at hD
    have hmk : ∀ (i : Nat), fs[i]? = some (fs.getD i []) → atI (fs.map fun f => V.int (maskN f : Nat)) (i : Int) = some (.int (maskN (fs.getD i []) : Nat)) := fun i e => atI_nat (by rw [List.getElem?_map, e]; rfl)
    refine ⟨.ref b, rfl, b, rfl, for_enumA (K := K) hb s0 (fun i σ H' => ∃ (y1 y2 y3 : Option V), σ = [some (.ref b), some (.ref D), y1, y2, y3] ∧ Same H0 H' ∧ ∀ i' j', i' < j' → j' < fs.length → i' < i → mtT fs i' j' = true) ⟨none, none, none, rfl, Same.refl H0, fun i' j' _ _ z => absurd z (by omega)⟩ (fun i σ H' _ hP => ?_) (fun i y σ H' T hy hP nT => ?_) (fun σ H' hP => ?_)⟩
    · obtain ⟨_, _, _, _, sm, _⟩ := hP
      exact s0.trans sm
    · obtain ⟨y1, y2, y3, rfl, sm, hok⟩ := hP
      have u1 := same_upd (o := .tup [.int (i : Nat), y]) nT
      have s1 := sm.trans u1
      obtain ⟨hg1, hl1, hu1, he1⟩ := fat hy
      have hi : i < xs.length := (List.getElem?_eq_some_iff.mp hy).1
      refine ⟨T, _, rfl, SqT.of upd_same, rfl, _, _, rfl, y, _, rfl, rfl, ?_⟩
      generalize upd H' T (.tup [.int (i : Nat), y]) = H1 at s1 ⊢
      refine ⟨_, rfl, _, _, rfl, rfl, .ref b, rfl, b, _, rfl, hb.same (s0.trans s1), (i : Int) + 1, ((xs.length : Nat) : Int), rfl, ⟨by omega, by omega, by omega, by omega⟩, ?_⟩
      refine for_range (lo := (i : Int) + 1) (n := (((xs.length : Nat) : Int) - ((i : Int) + 1)).toNat) (fun j σ H' => ∃ (y3 : Option V), σ = [some (.ref b), some (.ref D), some (.int (i : Nat)), some y, y3] ∧ Same H0 H' ∧ ∀ j', i < j' → j' < i + 1 + j → j' < fs.length → mtT fs i j' = true) ⟨_, rfl, s1, fun j' _ z => absurd z (by omega)⟩ ?_ ?_
      · rintro j σ H2 hj ⟨y3, rfl, sm2, hok2⟩
        have hj2 : i + 1 + j < xs.length := by omega
        have ej : (i : Int) + 1 + (j : Int) = ((i + 1 + j : Nat) : Int) := by omega
        obtain ⟨hg2, hl2, hu2, he2⟩ := fat (List.getElem?_eq_getElem hj2)
        have hix : atI xs ((i : Int) + 1 + (j : Int)) = some xs[i + 1 + j] := by
          rw [ej]
          exact atI_nat (List.getElem?_eq_getElem hj2)
        have emt : mtT fs i (i + 1 + j) = okB (fs.getD i []) (fs.getD (i + 1 + j) []) := rfl
        unfold okB at emt
        have good : mtT fs i (i + 1 + j) = true → ∀ {H3 : Hp}, Same H0 H3 → ∃ (y3 : Option V), ([some (.ref b), some (.ref D), some (.int (i : Nat)), some y, some (.int ((i : Int) + 1 + (j : Int)))] : L2.St) = [some (.ref b), some (.ref D), some (.int (i : Nat)), some y, y3] ∧ Same H0 H3 ∧ ∀ j', i < j' → j' < i + 1 + (j + 1) → j' < fs.length → mtT fs i j' = true := fun em {H3} s3 =>
          ⟨_, rfl, s3, fun j' h1 h2 h3 => by
            by_cases e : j' = i + 1 + j
            · rw [e]
              exact em
            · exact hok2 j' h1 (by omega) h3⟩
        have hm2 := hmk _ he2
        rw [← ej] at hm2
        have hD2 := sm2 _ _ hD
        refine ⟨.ref D, rfl, .int (i : Nat), rfl, D, _, _, _, rfl, rfl, SqL.of hD2, hmk _ he1, .ref D, rfl, .int ((i : Int) + 1 + (j : Int)), rfl, D, _, _, _, rfl, rfl, SqL.of hD2, hm2, _, _, rfl, rfl, rfl, _, rfl, ?_⟩
        rw [mask_test hu1 hu2]
        have s02 := s0.trans sm2
        have hread : ∀ Q : VK, Q xs[i + 1 + j] H2 → rIx K (.ref b) (.int ((i : Int) + 1 + (j : Int))) H2 Q := fun Q z => by
          rcases hb.same s02 with hb | hb
          · exact .inl ⟨b, _, _, _, rfl, rfl, hb, hix, z⟩
          · exact .inr (.inl ⟨b, _, _, _, rfl, rfl, hb, hix, z⟩)
        cases em : meetB (fs.getD i []) (fs.getD (i + 1 + j) []) with
        | false =>
          rw [em] at emt
          exact iteF (iteF (good emt sm2))
        | true =>
          rw [em] at emt
          refine iteT ⟨y, rfl, .ref b, rfl, .int ((i : Int) + 1 + (j : Int)), rfl, hread _ ⟨y, _, _, _, rfl, hg1.same s02, hg2.same s02, hl1, hl2, fun H4 s4 => ⟨_, rfl, ?_⟩⟩⟩
          cases eb : barB (fs.getD i []) (fs.getD (i + 1 + j) []) with
          | true =>
            rw [eb] at emt
            exact iteF (good emt (sm2.trans s4))
          | false =>
            rw [eb] at emt
            refine iteT ⟨.int (i : Nat), rfl, .int ((i : Int) + 1 + (j : Int)), rfl, rfl, (show (2 : Nat) ≤ 1000 by decide), fun dd H5 h1 h2 h3 => ?_⟩
            rw [ej] at h3
            refine qe i (i + 1 + j) ⟨⟨by omega, by omega, emt⟩, fun i' j' h5 h6 h7 => ?_⟩ dd H5 ((s02.trans s4).trans (same_ref h1 h2)) h3
            rcases h7 with h7 | ⟨rfl, h7⟩
            · exact hok i' j' h5 h6 h7
            · exact hok2 j' h5 h7 h6
      · rintro σ H2 ⟨y3, rfl, sm2, hok2⟩
        refine ⟨_, _, _, rfl, sm2, fun i' j' h5 h6 h7 => ?_⟩
        by_cases e : i' = i
        · subst e
          exact hok2 j' h5 (by omega) h6
        · exact hok i' j' h5 h6 (by omega)
    · obtain ⟨y1, y2, y3, rfl, sm, hok⟩ := hP
      exact q (fun i' j' h5 h6 => hok i' j' h5 h6 (by omega)) _ (s0.trans sm)
end
/-! ### Book(colours, figures=..) over lists or tuples -/
def spInitA (K : PySem.W.Frag) (C : Addr) (cm : Nat → Addr) : Sp := fun vs H Q E => ∃ (p dx a b : Addr) (cs : List Int) (xs : List V) (fs : List (List Tri)), vs = [.ref p, .ref a, .ref b] ∧ H p = some (.ins C dx []) ∧ SqA K H a (cs.map V.int) ∧ SqA K H b xs ∧ All2 (FigA K H) xs fs ∧ (∀ x ∈ cs, colOk x) ∧ (∀ f ∈ fs, GoodF cs f) ∧ fs.length ≤ 1000 ∧
  (¬ (1 ≤ cs.length ∧ cs.length ≤ 6) → refuseN 0 (cm 0) [-1] H E) ∧ (1 ≤ cs.length ∧ cs.length ≤ 6 → 12 < fs.length → refuseN 3 (cm 3) [12] H E) ∧
  (1 ≤ cs.length ∧ cs.length ≤ 6 → fs.length ≤ 12 → (NoneT fs → ∀ H', Off p H H' → BookAt K C H' p cs fs → Q .non H') ∧ ∀ i j : Nat, FirstT fs i j → refuseN 2 (cm 2) [(i : Int), (j : Int)] H E)
section
variable {P : Program} {w : World} {K : PySem.W.Frag} {mg : Str → Option Value} {base : Heap}
theorem ok_initA {f C f1 f2 f3 f4 : Addr} {fd fd1 fd2 fd3 fd4 : FuncData} {k : Nat} {tkF : Tok} {kws : List (Str × V)} {cm : Nat → Addr} (F : FunD K "__init__" "Book.__init__" (defArgs sInit) (defBody sInit) (defScope sInit) [] kws f fd) (T : BkTxt K mg C)
    (ml : mg "len" = none) (mt : mg "tuple" = none) (mF : mg "MOST_FIGURES" = some (.int 12 tkF)) (R3 : exc1 3 "TooMany" "most" (cm 3) P w K mg base k)
    (F1 : Fun K "check_colours" "check_colours" sCCol f1 fd1) (b1 : Binds K fd1 ["colours"] []) (g1 : mg "check_colours" = some (.ref f1)) (G1 : FnOk P w K mg base (L2.CX P w) (k + 1) f1 fd1 ["colours"] (spCColA K (cm 0)))
    (F2 : Fun K "check_figures" "check_figures" sCFig f2 fd2) (b2 : Binds K fd2 ["colours", "figures"] []) (g2 : mg "check_figures" = some (.ref f2)) (G2 : FnOk P w K mg base CX0 (k + 1) f2 fd2 ["colours", "figures"] (spCFigA K))
    (F3 : Fun K "check_meetings" "check_meetings" sCMeet f3 fd3) (b3 : Binds K fd3 ["figures"] []) (g3 : mg "check_meetings" = some (.ref f3)) (G3 : FnOk P w K mg base (L2.CX P w) (k + 1) f3 fd3 ["figures"] (spCMeetA K (cm 2)))
    (F4 : Fun K "copy_of_figure" "copy_of_figure" sCopyF f4 fd4) (b4 : Binds K fd4 ["figure"] []) (g4 : mg "copy_of_figure" = some (.ref f4)) (G4 : FnOk P w K mg base CX0 (k + 1) f4 fd4 ["figure"] (spCopyFA K)) :
    FnOk P w K mg base (L2.CX P w) (k + 2) f fd ["self", "colours", "figures"] (spInitA K C cm) := by
  refine F.ok (CX := L2.CX P w) scInit (fun vs H Q E h => ?_) (fun cdv A outer s H vs Q E hr h => ?_)
  · obtain ⟨p, dx, a, b, cs, xs, fs, rfl, _⟩ := h
    rfl
  · obtain ⟨p, dx, a, b, cs, xs, fs, rfl, hp, ha, hb, hA, hco, hG, hfs, q0, q3, q2⟩ := h
    refine ⟨_, pss_cons (ps_expr (pe_call G1 hr (by rfl) g1 F1.kp b1 .nil (passes_call (takes_of rfl rfl rfl rfl) (fun _ _ _ _ h => h)) (pa_cons (pv 1) pa_nil)))
      (pss_cons (ps_if (pt_cmpR op_gt (pe_callB call_lenQ (by rfl) ml PySem.boot_len (pa_cons (pv 2) pa_nil)) (pe_glob (v := .int 12) (by rfl) mF ⟨_, rfl⟩) (nomark _)) (pss_one (ps_raise rfl (takes_of rfl rfl rfl rfl) (pmk_ref R3 hr (by rfl) (pa_cons (pe_glob (v := .int 12) (by rfl) mF ⟨_, rfl⟩) pa_nil)))) pss_nil)
      (pss_cons (ps_expr (pe_call G2 hr (by rfl) g2 F2.kp b2 .nil pass0 (pa_cons (pv 1) (pa_cons (pv 2) pa_nil))))
      (pss_cons (ps_expr (pe_call G3 hr (by rfl) g3 F3.kp b3 .nil (passes_call (takes_of rfl rfl rfl rfl) (fun _ _ _ _ h => h)) (pa_cons (pv 2) pa_nil)))
      (pss_cons (ps_fld (pv 0) (pe_callTy call_tupS (by rfl) mt (by decide +kernel) (pa_cons (pv 1) pa_nil)) rfl)
      (pss_one (ps_fld (pv 0) (pe_callTy call_tupS (by rfl) mt (by decide +kernel) (pa_cons (pe_lc (own := [("figure", 3)]) (g := gName 3) (tt := tYes) rfl scInit.nd (pi_seq (pv 2))
        (blkOk_by (own := [("figure", 3)]) (N := nInit) (sc := defScope sInit) (by decide +kernel)) (fun _ _ _ _ _ => pg_name (i := 3) scInit.nd rfl (.inl rfl)) (fun _ _ _ _ _ => pts_nil)
        (fun _ _ _ _ _ => pe_call G4 hr (by rfl) g4 F4.kp b4 .nil pass0 (pa_cons (pv 3) pa_nil))) pa_nil)) rfl)))))), ?_⟩
    have hxl := hA.len
    refine ⟨.ref a, rfl, a, cs, rfl, ha, hco, fun hC H1 s1 => ?_, q0⟩
    refine ⟨.ref b, rfl, b, _, rfl, hb.same s1, _, 12, rfl, rfl, _, rfl, ite2 (fun e => ?_) (fun e => ?_)⟩
    · have e12 : 12 < fs.length := by
        have := of_decide_eq_true e
        omega
      exact ⟨rfl, (show (1 : Nat) ≤ 1000 by decide), fun dd H2 h1 h2 h3 => q3 hC e12 dd H2 (s1.trans (same_ref h1 h2)) h3⟩
    have h12 : fs.length ≤ 12 := by
      by_cases z : fs.length ≤ 12
      · exact z
      · exact absurd (decide_eq_true (by omega)) e
    obtain ⟨q, qm⟩ := q2 hC h12
    refine ⟨.ref a, rfl, .ref b, rfl, a, b, cs, xs, fs, rfl, ha.same s1, hb.same s1, hA.mono fun _ _ => FigA.same s1, hG, hC.2, fun H2 s2 => ?_⟩
    have s12 := s1.trans s2
    refine ⟨.ref b, rfl, b, cs, xs, fs, rfl, hb.same s12, hA.mono fun _ _ => FigA.same s12, hG, hC.2, by omega, fun hM H3 s3 => ?_, fun i j e => (qm i j e).later s12⟩
    have s13 := s12.trans s3
    refine ⟨.ref a, rfl, a, _, rfl, ha.same s13, fun a2 H4 s4 ha2 => ?_⟩
    have s14 := s13.trans s4
    have hp4 := s14 _ _ hp
    refine ⟨.ref p, rfl, p, C, dx, [], rfl, hp4, T.cl, T.nP, (show 0 < 1000 by decide), ?_⟩
    have off5 : Off p H4 (upd H4 p (.ins C dx (putF "palette" (.ref a2) []))) := Off.upd
    have hp5 : (upd H4 p (.ins C dx (putF "palette" (.ref a2) []))) p = some (.ins C dx [("palette", .ref a2)]) := upd_same
    have hb5 := (hb.same s14).insOff off5 hp4
    have ha5 : SqT K (upd H4 p (.ins C dx (putF "palette" (.ref a2) []))) a2 (cs.map V.int) := TS.ins off5 hp4 _ _ ha2
    have off15 : Off p H (upd H4 p (.ins C dx (putF "palette" (.ref a2) []))) := (Off.same s14).trans off5
    have hL5 : All2 (FigA K (upd H4 p (.ins C dx (putF "palette" (.ref a2) [])))) xs fs := hA.mono fun x g z => (z.same s14).insOff off5 hp4
    generalize upd H4 p (.ins C dx (putF "palette" (.ref a2) [])) = H5 at off5 hp5 hb5 ha5 off15 hL5 ⊢
    refine ⟨.ref b, rfl, b, rfl, lc_seq (K := K) hb5 (Same.refl H5) (fun D i H' => Same H5 H' ∧ ∃ zs, H' D = some (.lst zs) ∧ All2 (FigT K H') zs (fs.take i)) (fun D nD => ⟨same_upd nD, [], upd_same, True.intro⟩) (fun D nD i H' _ hP => hP.1) (fun D nD i x H' hx hP => ?_) (fun D nD H6 hP => ?_)⟩
    · obtain ⟨sm, zs, hD, hz⟩ := hP
      obtain ⟨g, hg, hgT⟩ := hL5.get hx
      have hgl := (hG g (List.mem_of_getElem? hg)).len
      refine ⟨rfl, yesT ⟨x, rfl, x, g, rfl, hgT.same sm, by omega, fun H7 u s7 hu => ?_⟩⟩
      have hD7 := s7 _ _ hD
      refine ⟨_, hD7, ?_, Same.offUpd (sm.trans s7) nD, zs ++ [u], upd_same, ?_⟩
      · rw [hz.len, List.length_take]
        exact small1000 (by omega)
      · rw [take_snoc hg]
        exact All2.snoc (hu.ts (TS.upd hD7)) (hz.mono fun _ _ => FigT.ts ((TS.of s7).trans (TS.upd hD7)))
    · obtain ⟨sm, zs, hD, hz⟩ := hP
      rw [hxl, List.take_length] at hz
      refine ⟨D, _, rfl, .inl (SqL.of hD), fun l H7 s7 hl => ?_⟩
      have s57 := sm.trans s7
      have hp7 := s57 _ _ hp5
      refine ⟨.ref p, rfl, p, C, dx, _, rfl, hp7, T.cl, T.nS, (show 1 < 1000 by decide), ?_⟩
      have off8 : Off p H7 (upd H7 p (.ins C dx (putF "shapes" (.ref l) [("palette", .ref a2)]))) := Off.upd
      refine q hM _ ((off15.trans (Off.same s57)).trans off8) ⟨dx, a2, l, zs, upd_same, ?_, TS.ins off8 hp7 _ _ hl, hz.mono fun _ _ => FigT.ts ((TS.of s7).trans (TS.ins off8 hp7))⟩
      exact TS.ins off8 hp7 _ _ (Same.tup s57 ha5)
end
/-! ### sorted(xs) of tuples of whole numbers, the first one empty -/
theorem lex_asym : ∀ x y : List Int, HT.lexLt x y = true → HT.lexLt y x = false
  | [], [], h => by cases h
  | [], _ :: _, _ => rfl
  | _ :: _, [], h => by cases h
  | a :: x, b :: y, h => by
    rw [HT.lexLt_cons] at h ⊢
    by_cases e : a = b
    · rw [if_pos e] at h
      rw [if_pos e.symm]
      exact lex_asym x y h
    · rw [if_neg e] at h
      rw [if_neg (fun z => e z.symm)]
      have := of_decide_eq_true h
      exact decide_eq_false (by omega)
theorem lex_tr : ∀ x y z : List Int, HT.lexLt y x = false → HT.lexLt z y = false → HT.lexLt z x = false
  | [], y, [], _, _ => rfl
  | [], y, _ :: _, _, _ => rfl
  | a :: x, [], z, h, _ => by cases h
  | a :: x, b :: y, [], _, h => by cases h
  | a :: x, b :: y, c :: z, h1, h2 => by
    rw [HT.lexLt_cons] at h1 h2 ⊢
    by_cases e1 : b = a
    · rw [if_pos e1] at h1
      by_cases e2 : c = b
      · rw [if_pos e2] at h2
        rw [if_pos (e2.trans e1)]
        exact lex_tr x y z h1 h2
      · rw [if_neg e2] at h2
        rw [if_neg (fun q => e2 (q.trans e1.symm))]
        have := of_decide_eq_false h2
        exact decide_eq_false (by omega)
    · rw [if_neg e1] at h1
      have g1 := of_decide_eq_false h1
      by_cases e2 : c = b
      · rw [if_neg (fun q => e1 (e2.symm.trans q))]
        exact decide_eq_false (by omega)
      · rw [if_neg e2] at h2
        have g2 := of_decide_eq_false h2
        rw [if_neg (by omega)]
        exact decide_eq_false (by omega)
theorem lex_anti : ∀ x y : List Int, HT.lexLt x y = false → HT.lexLt y x = false → x = y
  | [], [], _, _ => rfl
  | [], _ :: _, h, _ => by cases h
  | _ :: _, [], _, h => by cases h
  | a :: x, b :: y, h1, h2 => by
    rw [HT.lexLt_cons] at h1 h2
    by_cases e : a = b
    · rw [if_pos e] at h1
      rw [if_pos e.symm] at h2
      rw [e, lex_anti x y h1 h2]
    · rw [if_neg e] at h1
      rw [if_neg (fun q => e q.symm)] at h2
      have := of_decide_eq_false h1
      have := of_decide_eq_false h2
      omega
/-- two sorted lists of the same things are one -/
theorem lex_uniq : ∀ {l m : List (List Int)}, l.Perm m → l.Pairwise (fun x y => HT.lexLt y x = false) → m.Pairwise (fun x y => HT.lexLt y x = false) → l = m
  | [], m, p, _, _ => (List.Perm.eq_nil p.symm).symm
  | x :: l, [], p, _, _ => absurd p.length_eq (by simp)
  | x :: l, y :: m, p, h1, h2 => by
    have a1 := List.pairwise_cons.mp h1
    have a2 := List.pairwise_cons.mp h2
    have refl : ∀ z : List Int, HT.lexLt z z = false := fun z => by
      cases e : HT.lexLt z z with
      | false => rfl
      | true => rw [lex_asym z z e] at e; cases e
    have e : x = y := by
      apply lex_anti
      · rcases List.mem_cons.mp (p.mem_iff.mp (List.mem_cons_self (a := x) (l := l))) with h | h
        · rw [h]
          exact refl y
        · exact a2.1 x h
      · rcases List.mem_cons.mp (p.mem_iff.mpr (List.mem_cons_self (a := y) (l := m))) with h | h
        · rw [h]
          exact refl x
        · exact a1.1 y h
    subst e
    rw [lex_uniq p.cons_inv a1.2 a2.2]
section
variable {M : Model} {A : Around} {E : Value → Shared → Prop} {s : Shared}
theorem any_firsts : ∀ (vs : List Value) {Q : List (Option Value) → Shared → Prop}, (∀ v ∈ vs, ∃ a xs, v = .ref a ∧ IsTup s.heap a xs) → (∀ fs, Q fs s) → wpAny M A (vs.mapM firstOfTuple') Q E s
  | [], Q, _, h => by
    rw [List.mapM_nil]
    exact wpAny_pure (h [])
  | v :: vs, Q, t, h => by
    obtain ⟨a, xs, rfl, o, ho, hc, n, hd⟩ := t _ List.mem_cons_self
    rw [List.mapM_cons]
    refine wpAny_bind ?_
    rw [PySem.W.kas_first_eq]
    refine wpAny_bind (PySem.W.Looks.here (show PySem.W.Looks M s.heap (typeOf (.ref a)) o.cls from (PySem.W.Looks.ld ho).andThen .now) ?_)
    rw [hc, if_neg (by first | decide | simp)]
    refine wpAny_bind (listItems_at ho hd (wpAny_pure ?_))
    exact wpAny_bind (any_firsts vs (Q := fun bs s' => wpAny M A (pure (xs[0]? :: bs)) Q E s') (fun u hu => t u (List.mem_cons_of_mem _ hu)) (fun fs => wpAny_pure (h _)))
theorem kind_tups {v : Value} {vs : List Value} {a : Addr} {Q : SortKind → Shared → Prop} (e : v = .ref a) (t0 : IsTup s.heap a #[]) (t : ∀ u ∈ vs, ∃ a xs, u = .ref a ∧ IsTup s.heap a xs) (h : Q oneType' s) : wpAny M A (keyKind' (v :: vs).toArray) Q E s := by
  subst e
  have hT : ∀ u ∈ Value.ref a :: vs, PySem.W.Looks M s.heap (typeOf u) (.type "tuple") := fun u hu => by
    rcases List.mem_cons.mp hu with rfl | hu
    · obtain ⟨o, ho, hc, _⟩ := t0
      rw [← hc]
      exact (PySem.W.Looks.ld ho).andThen .now
    · obtain ⟨b, xs, rfl, o, ho, hc, _⟩ := t u hu
      rw [← hc]
      exact (PySem.W.Looks.ld ho).andThen .now
  obtain ⟨o, ho, hc, n, hd⟩ := t0
  rw [kat_kind_eq, List.mapM_toArray, map_eq_pure_bind]
  refine wpAny_bind (wpAny_bind ?_)
  rw [List.mapM_cons]
  refine wpAny_bind ?_
  rw [PySem.W.kas_first_eq]
  refine wpAny_bind (PySem.W.Looks.here (show PySem.W.Looks M s.heap (typeOf (.ref a)) o.cls from (PySem.W.Looks.ld ho).andThen .now) ?_)
  rw [hc, if_neg (by first | decide | simp)]
  refine wpAny_bind (listItems_at ho hd (wpAny_pure ?_))
  refine wpAny_bind (any_firsts vs t fun fs => wpAny_pure (wpAny_pure ?_))
  rw [if_neg (by simp), if_neg (by simp)]
  rw [oneTypeOnly'_eq, List.mapM_toArray, map_eq_pure_bind]
  refine wpAny_bind (wpAny_bind (wpAny_bind (PySem.W.kas_mapM (r := Value.type "tuple") _ (fun v hv Q' hq => (hT v hv).here hq) (wpAny_pure ?_))))
  have hall : ((List.map (fun _ => Value.type "tuple") (Value.ref a :: vs)).toArray.all fun x => x == Value.type "tuple") = true := by
    simp only [List.all_toArray, List.all_map, List.all_eq_true]
    intro _ _
    rfl
  have h0 : (List.map (fun _ => Value.type "tuple") (Value.ref a :: vs)).toArray[0]? = some (Value.type "tuple") := by simp
  rw [h0]
  simp only [hall, if_true]
  exact wpAny_pure (wpAny_pure h)
end
section
variable {prog : Program} {w : World} {A : Around} {E : Value → Shared → Prop} {s : Shared}
theorem oneLt_tup {l b : Addr} {items items2 : Array Value} {ns ms : List Int} {Q : Bool → Shared → Prop} (hl : IsTup s.heap l items) (hb : IsTup s.heap b items2) (hi : IntsAre items.toList ns) (hj : IntsAre items2.toList ms) (hu : A.units < cLine)
    (h : Q (HT.lexLt ns ms) s) : wpAny (model prog w) A (oneLt' true (.ref l) (.ref b)) Q E s := by
  obtain ⟨⟨cls, dd, data, sl⟩, ho, hc, n, hd⟩ := id hl
  obtain ⟨⟨cls2, dd2, data2, sl2⟩, ho2, hc2, n2, hd2⟩ := id hb
  simp only at hc hd hc2 hd2
  subst hc hd hc2 hd2
  rw [oneLt'_eq]
  simp only [if_true]
  refine wpAny_bind (wpAny_cRoomFor hu ?_)
  refine wpAny_bind (wpAny_callSpecialIfBound?_slot ⟨_, ho, rfl⟩ PySem.F.slot_tuple_lt (call_meets PySem.F.slot_tuple_lt ⟨_, ho, rfl⟩ PySem.F.entry_tuple_lt (PySem.F.args_tuple_lt_2 _ _) (HT.tuple_lt_ints l b items items2 n n2 dd dd2 sl sl2 ns ms hi hj) ⟨ho, ho2, ?_⟩))
  exact wpAny_truthy_bool h
end
section
variable {X : Cx}
def rSortX (K : PySem.W.Frag) : List V → Hp → VK → Prop := fun vs H Q => ∃ (a : Addr) (xs : List V) (cs : List (List Int)), vs = [V.ref a] ∧ SqL K H a xs ∧ All2 (TupI K H) xs cs ∧ cs.head? = some [] ∧
  ∀ (ys : List V) (ds : List (List Int)) (p : Addr), All2 (TupI K H) ys ds → ds.Perm cs → ds.Pairwise (fun x y => HT.lexLt y x = false) → H p = none → Q (.ref p) (upd H p (.lst ys))
theorem All2.of_map {α : Type} {R : V → α → Prop} {β : Type} (f : β → V) (g : β → α) : ∀ (l : List β), (∀ b ∈ l, R (f b) (g b)) → All2 R (l.map f) (l.map g)
  | [], _ => True.intro
  | b :: l, h => ⟨h b List.mem_cons_self, All2.of_map f g l fun c hc => h c (List.mem_cons_of_mem _ hc)⟩
theorem All2.map_eq {α β : Type} {R : V → α → Prop} (f : β → V) (g : β → α) (hg : ∀ b a, R (f b) a → g b = a) : ∀ {l : List β} {as : List α}, All2 R (l.map f) as → l.map g = as
  | [], [], _ => rfl
  | b :: l, a :: as, h => by
    rw [List.map_cons, hg b a h.1, All2.map_eq f g hg h.2]
  | [], _ :: _, h => h.elim
  | _ :: _, [], h => h.elim
theorem cr_sortX (hu : X.A.units + 64 < cLine) : CallR X (.builtin "sorted") (rSortX X.K) := by
  intro pins s σ H vs us Q I r h
  obtain ⟨a, xs, cs, rfl, hs, hA, h0, q⟩ := h
  obtain ⟨its, rv, hl, hz⟩ := I.list hs
  obtain ⟨u, rfl, ru⟩ := vals1 r
  obtain rfl : u = Value.ref a := ru
  obtain ⟨e1, e2⟩ := refs_back rv fun x m => by
    obtain ⟨i, hi, e⟩ := List.mem_iff_getElem.mp m
    obtain ⟨ns, _, t, ht, _⟩ := hA.get (i := i) (x := x) (by rw [List.getElem?_eq_getElem hi, e])
    exact ⟨t, ht⟩
  subst e1
  have hk : ∀ (v : Value) (ns : List Int), TupI X.K H (backV v) ns → _root_.TS.TupInts s.heap v ns := fun v ns hv => by
    obtain ⟨t, e, ht⟩ := hv
    cases v with
    | ref b =>
      cases e
      exact tupI_raw I ht
    | _ => cases e
  have key : ∀ v ∈ its, ∃ ns, TupI X.K H (backV v) ns ∧ _root_.TS.TupInts s.heap v ns := fun v hv => by
    obtain ⟨i, hi, e⟩ := List.mem_iff_getElem.mp hv
    obtain ⟨ns, _, hn⟩ := hA.get (i := i) (x := backV v) (by rw [List.getElem?_map, List.getElem?_eq_getElem hi, e]; rfl)
    exact ⟨ns, hn, hk v ns hn⟩
  have hcs : its.map (_root_.TS.intsOf s.heap) = cs := All2.map_eq backV (_root_.TS.intsOf s.heap) (fun v ns hv => (hk v ns hv).ints) hA
  refine SrtO.sorted_ord (ltv := fun v u => HT.lexLt (_root_.TS.intsOf s.heap v) (_root_.TS.intsOf s.heap u)) ⟨fun x y => lex_asym _ _, fun x y z => lex_tr _ _ _⟩ hl.isList (by rw [List.length_map] at hz; exact hz) (fun h2 h₁ a' ha kk h' keep => ?_) fun out hso hst => ?_
  · have tk : ∀ b o, s.heap.get? b = some o → o.cls = .type "tuple" → h'.get? b = some o := fun b o e c => keep b o (kk b o e).1 (kk b o e).2
    have key' : ∀ v ∈ its, ∃ b xs, v = .ref b ∧ IsTup h' b xs ∧ IntsAre xs.toList (_root_.TS.intsOf s.heap v) := fun v hv => by
      obtain ⟨ns, _, hn⟩ := key v hv
      obtain ⟨b, ys, e, h1, h2⟩ := hn.keeps tk
      rw [hn.ints]
      exact ⟨b, ys, e, h1, h2⟩
    refine ⟨oneType', fun Q E hq => ?_, fun p q' hm hm' => ?_⟩
    · cases its with
      | nil => simp at h2
      | cons v r =>
        obtain ⟨b, ys, e, hb, hi⟩ := key' v List.mem_cons_self
        have hv : _root_.TS.intsOf s.heap v = [] := by
          rw [← hcs] at h0
          exact Option.some.inj h0
        rw [hv] at hi
        have hy : ys = #[] := by
          cases hi' : ys.toList with
          | nil => exact Array.toList_eq_nil_iff.mp hi'
          | cons _ _ => rw [hi'] at hi; cases hi
        subst hy
        exact kind_tups (s := { s with heap := h' }) e hb (fun u hu => by
          obtain ⟨c, zs, e', hc, _⟩ := key' u (List.mem_cons_of_mem _ hu)
          exact ⟨c, zs, e', hc⟩) hq
    · obtain ⟨b, ys, e, hb, hi⟩ := key' _ hm
      obtain ⟨b', ys', e', hb', hi'⟩ := key' _ hm'
      show wpAny _ _ (keyLt' oneType' p.1 q'.1) (fun r s' => s' = _ ∧ r = HT.lexLt (_root_.TS.intsOf s.heap p.1) (_root_.TS.intsOf s.heap q'.1)) _ _
      generalize _root_.TS.intsOf s.heap p.1 = n1 at hi ⊢
      generalize _root_.TS.intsOf s.heap q'.1 = n2 at hi' ⊢
      rw [e, e', keyLt'_oneType]
      exact oneLt_tup hb hb' hi hi' (by show X.A.units + 1 + 1 < cLine; omega) ⟨rfl, rfl⟩
  · obtain ⟨ep, he'⟩ := sortedAll_at s.heap its out.toArray
    have h3 : ∀ u ∈ out, ∃ a, u = Value.ref a := fun u hu => e2 u (hst.perm.mem_iff.mp hu)
    have hlen : (out.map backV).length ≤ sizeLine := by
      rw [List.length_map, hst.perm.length_eq]
      rw [List.length_map] at hz
      exact hz
    refine ⟨.ref _, upd H (s.heap.objs.size + 1) (.lst (out.map backV)), I.laid (t' := s.toks) (fun _ _ => sortedAll_old) (Nat.le_succ _) ⟨hlen, out, ep, vals_back h3, he'⟩, rfl, q _ (out.map (_root_.TS.intsOf s.heap)) _ (All2.of_map backV _ out fun v hv => ?_) ?_ (List.pairwise_map.mpr hso) (I.hok.fresh (Nat.le_succ _))⟩
    · obtain ⟨ns, h1, h2⟩ := key v (hst.perm.mem_iff.mp hv)
      rw [h2.ints]
      exact h1
    · rw [← hcs]
      exact hst.perm.map _
end
/-! ### sorted(xs) of tuples of whole numbers, none empty -/
section
variable {prog : Program} {w : World} {A : Around} {E : Value → Shared → Prop} {s : Shared}
theorem lexN_go {b fin : Bool} {Q : Bool → Shared → Prop} : ∀ (ps qs : List Value) (ns ms : List Int) (i : Nat), IntsAre ps ns → IntsAre qs ms → fin = decide (ps.length < qs.length) → Q (HT.lexLt ns ms) s → PySem.W.KatLex prog w A b fin Q (ps.zip qs) i s
  | [], [], _, _, i, .nil, .nil, hf, h => by
    have e : fin = false := by rw [hf]; rfl
    subst e
    exact PySem.W.kat_nil h
  | [], _ :: qs, _, _, i, .nil, .cons _ _ _, hf, h => by
    have e : fin = true := by rw [hf]; exact decide_eq_true (Nat.succ_pos _)
    subst e
    exact PySem.W.kat_nil h
  | _ :: ps, [], _, _, i, .cons _ _ _, .nil, hf, h => by
    have e : fin = false := by rw [hf]; exact decide_eq_false (Nat.not_lt_zero _)
    subst e
    exact PySem.W.kat_nil h
  | _ :: ps, _ :: qs, n :: ns, m :: ms, i, .cons _ _ h1, .cons _ _ h2, hf, h => by
    have hf' : fin = decide (ps.length < qs.length) := by
      rw [hf]; simp only [List.length_cons, Nat.add_lt_add_iff_right]
    rw [HT.lexLt_cons] at h
    refine PySem.W.kat_cons (wpAny_eqBool_int ?_)
    refine PySem.W.kat_go (fun e => PySem.W.kat_yes ?_) (fun e => PySem.W.kat_no ?_)
    · have hnm : n = m := by simpa using e
      rw [if_pos hnm] at h
      exact lexN_go ps qs ns ms (i + 1) h1 h2 hf' h
    · have hnm : ¬ n = m := by simpa using e
      rw [if_neg hnm] at h
      exact oneLt_any_int h
end
section
variable {X : Cx}
def rSortN (K : PySem.W.Frag) : List V → Hp → VK → Prop := fun vs H Q => ∃ (a : Addr) (xs : List V) (cs : List (List Int)), vs = [V.ref a] ∧ SqL K H a xs ∧ All2 (TupI K H) xs cs ∧ (∀ c ∈ cs, c ≠ []) ∧
  ∀ (ys : List V) (ds : List (List Int)) (p : Addr), All2 (TupI K H) ys ds → ds.Perm cs → ds.Pairwise (fun x y => HT.lexLt y x = false) → H p = none → Q (.ref p) (upd H p (.lst ys))
theorem cr_sortN (hu : X.A.units + 64 < cLine) : CallR X (.builtin "sorted") (rSortN X.K) := by
  intro pins s σ H vs us Q I r h
  obtain ⟨a, xs, cs, rfl, hs, hA, h0, q⟩ := h
  obtain ⟨its, rv, hl, hz⟩ := I.list hs
  obtain ⟨u, rfl, ru⟩ := vals1 r
  obtain rfl : u = Value.ref a := ru
  obtain ⟨e1, e2⟩ := refs_back rv fun x m => by
    obtain ⟨i, hi, e⟩ := List.mem_iff_getElem.mp m
    obtain ⟨ns, _, t, ht, _⟩ := hA.get (i := i) (x := x) (by rw [List.getElem?_eq_getElem hi, e])
    exact ⟨t, ht⟩
  subst e1
  have hk : ∀ (v : Value) (ns : List Int), TupI X.K H (backV v) ns → _root_.TS.TupInts s.heap v ns := fun v ns hv => by
    obtain ⟨t, e, ht⟩ := hv
    cases v with
    | ref b =>
      cases e
      exact tupI_raw I ht
    | _ => cases e
  have key : ∀ v ∈ its, ∃ ns, TupI X.K H (backV v) ns ∧ _root_.TS.TupInts s.heap v ns ∧ ns ≠ [] := fun v hv => by
    obtain ⟨i, hi, e⟩ := List.mem_iff_getElem.mp hv
    obtain ⟨ns, h3, hn⟩ := hA.get (i := i) (x := backV v) (by rw [List.getElem?_map, List.getElem?_eq_getElem hi, e]; rfl)
    exact ⟨ns, hn, hk v ns hn, h0 ns (List.mem_of_getElem? h3)⟩
  have hcs : its.map (_root_.TS.intsOf s.heap) = cs := All2.map_eq backV (_root_.TS.intsOf s.heap) (fun v ns hv => (hk v ns hv).ints) hA
  refine SrtO.sorted_ord (ltv := fun v u => HT.lexLt (_root_.TS.intsOf s.heap v) (_root_.TS.intsOf s.heap u)) ⟨fun x y => lex_asym _ _, fun x y z => lex_tr _ _ _⟩ hl.isList (by rw [List.length_map] at hz; exact hz) (fun h2 h₁ a' ha kk h' keep => ?_) fun out hso hst => ?_
  · have tk : ∀ b o, s.heap.get? b = some o → o.cls = .type "tuple" → h'.get? b = some o := fun b o e c => keep b o (kk b o e).1 (kk b o e).2
    have key' : ∀ v ∈ its, ∃ b xs, v = .ref b ∧ IsTup h' b xs ∧ IntsAre xs.toList (_root_.TS.intsOf s.heap v) ∧ _root_.TS.intsOf s.heap v ≠ [] := fun v hv => by
      obtain ⟨ns, _, hn, h3⟩ := key v hv
      obtain ⟨b, ys, e, h1, h2⟩ := hn.keeps tk
      rw [hn.ints]
      exact ⟨b, ys, e, h1, h2, h3⟩
    have firsts : ∀ l : List Value, (∀ v ∈ l, v ∈ its) → ∃ fs, PySem.W.KatTups h' l fs ∧ fs.length = l.length ∧ ∀ v ∈ fs, ∃ n t, v = Value.int n t := fun l => by
      induction l with
      | nil => exact fun _ => ⟨[], .nil, rfl, fun v hv => nomatch hv⟩
      | cons v l ih =>
        intro hm
        obtain ⟨fs, t1, t2, t3⟩ := ih fun u hu => hm u (List.mem_cons_of_mem _ hu)
        obtain ⟨b, ys, e, ⟨o, ho, hc, n, hd⟩, hi, hne⟩ := key' v (hm v List.mem_cons_self)
        subst e
        generalize _root_.TS.intsOf s.heap (Value.ref b) = ns at hi hne
        cases ns with
        | nil => exact absurd rfl hne
        | cons m ms =>
          obtain ⟨tk, ek⟩ := hi.get 0 m rfl
          refine ⟨.int m tk :: fs, .cons ho hc hd (by simpa using ek) t1, by rw [List.length_cons, List.length_cons, t2], fun u hu => ?_⟩
          rcases List.mem_cons.mp hu with z | z
          · exact ⟨m, tk, z⟩
          · exact t3 u z
    refine ⟨tuples' true, fun Q E hq => ?_, fun p q' hm hm' => ?_⟩
    · obtain ⟨fs, t1, t2, t3⟩ := firsts its fun _ h => h
      refine PySem.W.kat_kind (T := .type "int") (s := { s with heap := h' }) t1 (by rw [t2]; omega) (fun v hv => ?_) (by decide) hq
      obtain ⟨n, t, rfl⟩ := t3 v hv
      exact .now
    · obtain ⟨b, ys, e, ⟨o, ho, hc, n, hd⟩, hi, _⟩ := key' _ hm
      obtain ⟨b', ys', e', ⟨o', ho', hc', n', hd'⟩, hi', _⟩ := key' _ hm'
      show wpAny _ _ (keyLt' (tuples' true) p.1 q'.1) (fun r s' => s' = _ ∧ r = HT.lexLt (_root_.TS.intsOf s.heap p.1) (_root_.TS.intsOf s.heap q'.1)) _ _
      generalize _root_.TS.intsOf s.heap p.1 = n1 at hi ⊢
      generalize _root_.TS.intsOf s.heap q'.1 = n2 at hi' ⊢
      rw [e, e']
      exact PySem.W.kat_lt ho hd ho' hd' (lexN_go _ _ n1 n2 0 hi hi' (by rw [Array.length_toList, Array.length_toList]) ⟨rfl, rfl⟩)
  · obtain ⟨ep, he'⟩ := sortedAll_at s.heap its out.toArray
    have h3 : ∀ u ∈ out, ∃ a, u = Value.ref a := fun u hu => e2 u (hst.perm.mem_iff.mp hu)
    have hlen : (out.map backV).length ≤ sizeLine := by
      rw [List.length_map, hst.perm.length_eq]
      rw [List.length_map] at hz
      exact hz
    refine ⟨.ref _, upd H (s.heap.objs.size + 1) (.lst (out.map backV)), I.laid (t' := s.toks) (fun _ _ => sortedAll_old) (Nat.le_succ _) ⟨hlen, out, ep, vals_back h3, he'⟩, rfl, q _ (out.map (_root_.TS.intsOf s.heap)) _ (All2.of_map backV _ out fun v hv => ?_) ?_ (List.pairwise_map.mpr hso) (I.hok.fresh (Nat.le_succ _))⟩
    · obtain ⟨ns, h1, h2, _⟩ := key v (hst.perm.mem_iff.mp hv)
      rw [h2.ints]
      exact h1
    · rw [← hcs]
      exact hst.perm.map _
end
/-! ### figures moved to other pads -/
def triI (t : Tri) : List Int := [t.1, t.2.1, t.2.2]
theorem triI_inj {a b : Tri} (h : triI a = triI b) : a = b := by
  obtain ⟨a1, a2, a3⟩ := a
  obtain ⟨b1, b2, b3⟩ := b
  unfold triI at h
  simp only [List.cons.injEq, and_true] at h
  obtain ⟨h1, h2, h3⟩ := h
  rw [h1, h2, h3]
theorem map_inj_of {α β : Type} {g : α → β} (hg : ∀ a b, g a = g b → a = b) : ∀ {l m : List α}, l.map g = m.map g → l = m
  | [], [], _ => rfl
  | [], _ :: _, h => by cases h
  | _ :: _, [], h => by cases h
  | x :: l, y :: m, h => by
    rw [List.map_cons, List.map_cons, List.cons.injEq] at h
    rw [hg _ _ h.1, map_inj_of hg h.2]
def mv (ps : List Int) (t : Tri) : Tri := (ps.getD t.1.toNat 0, t.2.1, t.2.2)
def leT (a b : Tri) : Bool := !HT.lexLt (triI b) (triI a)
def mvF (ps : List Int) (f : List Tri) : List Tri := (f.map (mv ps)).mergeSort leT
theorem mvF_perm (ps : List Int) (f : List Tri) : (mvF ps f).Perm (f.map (mv ps)) := List.mergeSort_perm _ _
theorem mvF_len (ps : List Int) (f : List Tri) : (mvF ps f).length = f.length := by
  rw [(mvF_perm ps f).length_eq, List.length_map]
theorem mvF_sorted (ps : List Int) (f : List Tri) : ((mvF ps f).map triI).Pairwise (fun x y => HT.lexLt y x = false) := by
  rw [List.pairwise_map]
  have := List.pairwise_mergeSort (le := leT) (fun a b c h1 h2 => ?_) (fun a b => ?_) (f.map (mv ps))
  · refine this.imp fun {a b} h => ?_
    unfold leT at h
    cases e : HT.lexLt (triI b) (triI a) with
    | false => rfl
    | true => rw [e] at h; cases h
  · unfold leT at h1 h2 ⊢
    rw [lex_tr (triI a) (triI b) (triI c) (by simpa using h1) (by simpa using h2)]
    rfl
  · unfold leT
    cases e : HT.lexLt (triI b) (triI a) with
    | false => rfl
    | true => rw [lex_asym _ _ e]; rfl
theorem mvF_uniq {ps : List Int} {f : List Tri} {ds : List (List Int)} (h : ds.Perm ((f.map (mv ps)).map triI)) (s : ds.Pairwise (fun x y => HT.lexLt y x = false)) : ds = (mvF ps f).map triI :=
  lex_uniq (h.trans ((mvF_perm ps f).map triI).symm) s (mvF_sorted ps f)
theorem mvF_mem {ps : List Int} {f : List Tri} {u : Tri} : u ∈ mvF ps f ↔ ∃ t ∈ f, mv ps t = u := by
  rw [(mvF_perm ps f).mem_iff, List.mem_map]
/-- ps says where each pad of cs stands in cs' -/
structure Moves (cs cs' ps : List Int) : Prop where
  lo : ∀ i < cs.length, 0 ≤ ps.getD i 0
  hi : ∀ i < cs.length, ps.getD i 0 < cs'.length
  val : ∀ i < cs.length, cs'.getD (ps.getD i 0).toNat 0 = cs.getD i 0
  inj : ∀ i < cs.length, ∀ j < cs.length, ps.getD i 0 = ps.getD j 0 → i = j
theorem Moves.pad {cs cs' ps : List Int} (M : Moves cs cs' ps) {t u : Tri} (ht : GoodT cs t) (hu : GoodT cs u) : ps.getD t.1.toNat 0 = ps.getD u.1.toNat 0 ↔ t.1 = u.1 := by
  have a0 := ht.p0
  have a1 := ht.p1
  have b0 := hu.p0
  have b1 := hu.p1
  constructor
  · intro e
    have := M.inj t.1.toNat (by omega) u.1.toNat (by omega) e
    omega
  · intro e
    rw [e]
theorem Moves.good {cs cs' ps : List Int} (M : Moves cs cs' ps) {f : List Tri} (h : GoodF cs f) : GoodF cs' (mvF ps f) := by
  refine ⟨fun z => h.ne ?_, fun u hu => ?_, ?_⟩
  · have := mvF_len ps f
    rw [z] at this
    exact List.length_eq_zero_iff.mp this.symm
  · obtain ⟨t, ht, rfl⟩ := mvF_mem.mp hu
    have g := h.all t ht
    have a0 := g.p0
    have a1 := g.p1
    have ht' : t.1.toNat < cs.length := by omega
    refine ⟨M.lo _ ht', M.hi _ ht', g.n0, ?_, g.d0, g.d1⟩
    show t.2.1 < cs'.getD (ps.getD t.1.toNat 0).toNat 0
    rw [M.val _ ht']
    exact g.n1
  · rw [List.pairwise_map]
    have p1 := mvF_sorted ps f
    rw [List.pairwise_map] at p1
    have p2 : (mvF ps f).Pairwise fun a b => a.1 ≠ b.1 := by
      have e : (f.map (mv ps)).Pairwise fun a b => a.1 ≠ b.1 := by
        rw [List.pairwise_map]
        have hu := h.up
        rw [List.pairwise_map] at hu
        refine List.Pairwise.imp_of_mem (R := fun a b : Tri => a.1 < b.1) (fun {a b} ha hb hab z => ?_) hu
        have := (M.pad (h.all a ha) (h.all b hb)).mp z
        omega
      exact (mvF_perm ps f).symm.pairwise e fun {a b} hab z => hab z.symm
    refine (p1.and p2).imp fun {a b} hab => ?_
    obtain ⟨h1, h2⟩ := hab
    unfold triI at h1
    rw [HT.lexLt_cons, if_neg (fun z => h2 z.symm)] at h1
    have := of_decide_eq_false h1
    omega
theorem Moves.ok {cs cs' ps : List Int} (M : Moves cs cs' ps) {f g : List Tri} (hf : GoodF cs f) (hg : GoodF cs g) : okB (mvF ps f) (mvF ps g) = okB f g := by
  have e1 : meetB (mvF ps f) (mvF ps g) = meetB f g := by
    rw [Bool.eq_iff_iff, meetB_iff, meetB_iff]
    constructor
    · rintro ⟨t', ht', u', hu', e⟩
      obtain ⟨t, ht, rfl⟩ := mvF_mem.mp ht'
      obtain ⟨u, hu, rfl⟩ := mvF_mem.mp hu'
      exact ⟨t, ht, u, hu, (M.pad (hg.all u hu) (hf.all t ht)).mp e⟩
    · rintro ⟨t, ht, u, hu, e⟩
      exact ⟨_, mvF_mem.mpr ⟨t, ht, rfl⟩, _, mvF_mem.mpr ⟨u, hu, rfl⟩, (M.pad (hg.all u hu) (hf.all t ht)).mpr e⟩
  have e2 : barB (mvF ps f) (mvF ps g) = barB f g := by
    rw [Bool.eq_iff_iff, barB_iff (M.good hf).up, barB_iff hf.up]
    constructor
    · rintro ⟨t', ht', u', hu', e, n⟩
      obtain ⟨t, ht, rfl⟩ := mvF_mem.mp ht'
      obtain ⟨u, hu, rfl⟩ := mvF_mem.mp hu'
      exact ⟨t, ht, u, hu, (M.pad (hg.all u hu) (hf.all t ht)).mp e, n⟩
    · rintro ⟨t, ht, u, hu, e, n⟩
      exact ⟨_, mvF_mem.mpr ⟨t, ht, rfl⟩, _, mvF_mem.mpr ⟨u, hu, rfl⟩, (M.pad (hg.all u hu) (hf.all t ht)).mpr e, n⟩
  unfold okB
  rw [e1, e2]
theorem okB_comm {f g : List Tri} (hf : (f.map (·.1)).Pairwise (· < ·)) (hg : (g.map (·.1)).Pairwise (· < ·)) : okB f g = okB g f := by
  unfold okB
  rw [meetB_comm, barB_comm hf hg]
theorem noneT_of {fs : List (List Tri)} (h : fs.Pairwise fun f g => okB f g = true) : NoneT fs := fun i j hij hj => by
  unfold mtT
  have hi : i < fs.length := by omega
  rw [List.getD_eq_getElem?_getD, List.getElem?_eq_getElem hi, List.getD_eq_getElem?_getD, List.getElem?_eq_getElem hj]
  exact List.pairwise_iff_getElem.mp h i j hi hj hij
theorem GoodB.fwd {cs : List Int} {fs : List (List Tri)} (h : GoodB cs fs) : fs.Pairwise fun f g => okB f g = true :=
  List.Pairwise.imp_of_mem (fun {a b} ha hb e => by rw [okB_comm (h.all a ha).up (h.all b hb).up]; exact e) h.two
/-! ### beside -/
def besP (cs ds : List Int) : List Int := (List.range ds.length).map fun (i : Nat) => ((cs.length + i : Nat) : Int)
theorem besP_at {cs ds : List Int} {i : Nat} (h : i < ds.length) : (besP cs ds).getD i 0 = ((cs.length + i : Nat) : Int) := by
  unfold besP
  rw [List.getD_eq_getElem?_getD, List.getElem?_map, List.getElem?_range h]
  rfl
theorem bes_moves (cs ds : List Int) : Moves ds (cs ++ ds) (besP cs ds) := by
  refine ⟨fun i hi => ?_, fun i hi => ?_, fun i hi => ?_, fun i hi j hj e => ?_⟩
  · rw [besP_at hi]; omega
  · rw [besP_at hi, List.length_append]; omega
  · rw [besP_at hi, Int.toNat_natCast, List.getD_eq_getElem?_getD, List.getD_eq_getElem?_getD, List.getElem?_append_right (by omega), Nat.add_sub_cancel_left]
  · rw [besP_at hi, besP_at hj] at e
    omega
theorem GoodF.more {cs ds : List Int} {f : List Tri} (h : GoodF cs f) : GoodF (cs ++ ds) f := ⟨h.ne, fun t ht => by
  have g := h.all t ht
  have a0 := g.p0
  have a1 := g.p1
  refine ⟨g.p0, by rw [List.length_append]; omega, g.n0, ?_, g.d0, g.d1⟩
  rw [List.getD_eq_getElem?_getD, List.getElem?_append_left (by omega), ← List.getD_eq_getElem?_getD]
  exact g.n1, h.up⟩
def besF (cs ds : List Int) (fs gs : List (List Tri)) : List (List Tri) := fs ++ gs.map (mvF (besP cs ds))
theorem bes_good {cs ds : List Int} {fs gs : List (List Tri)} (hf : GoodB cs fs) (hg : GoodB ds gs) : (∀ f ∈ besF cs ds fs gs, GoodF (cs ++ ds) f) ∧ NoneT (besF cs ds fs gs) := by
  have M := bes_moves cs ds
  refine ⟨fun f h => ?_, noneT_of ?_⟩
  · rcases List.mem_append.mp h with h | h
    · exact (hf.all f h).more
    · obtain ⟨g, hg', rfl⟩ := List.mem_map.mp h
      exact M.good (hg.all g hg')
  · unfold besF
    rw [List.pairwise_append]
    refine ⟨hf.fwd, ?_, fun f h g' h' => ?_⟩
    · rw [List.pairwise_map]
      exact List.Pairwise.imp_of_mem (fun {a b} ha hb e => by rw [M.ok (hg.all a ha) (hg.all b hb)]; exact e) hg.fwd
    · obtain ⟨g, hg', rfl⟩ := List.mem_map.mp h'
      have : meetB f (mvF (besP cs ds) g) = false := by
        cases e : meetB f (mvF (besP cs ds) g) with
        | false => rfl
        | true =>
          obtain ⟨t, ht, u', hu', eq⟩ := meetB_iff.mp e
          obtain ⟨u, hu, rfl⟩ := mvF_mem.mp hu'
          have a1 := ((hf.all f h).all t ht).p1
          have b0 := ((hg.all g hg').all u hu).p0
          have b1 := ((hg.all g hg').all u hu).p1
          have eq : (besP cs ds).getD u.1.toNat 0 = t.1 := eq
          rw [besP_at (by omega)] at eq
          omega
      unfold okB
      rw [this]
      rfl
/-! ### a book made; its colours, figures, how many it has -/
theorem mk_bookA {K : PySem.W.Frag} {C : Addr} {cm : Nat → Addr} {H : Hp} {a b : Addr} {cs : List Int} {xs : List V} {fs : List (List Tri)} {Q : VK} {E : XK} (ha : SqA K H a (cs.map V.int)) (hb : SqA K H b xs) (hA : All2 (FigA K H) xs fs) (hco : ∀ x ∈ cs, colOk x) (hG : ∀ f ∈ fs, GoodF cs f) (hfs : fs.length ≤ 1000)
    (q0 : ¬ (1 ≤ cs.length ∧ cs.length ≤ 6) → refuseN 0 (cm 0) [-1] H E) (q3 : 1 ≤ cs.length ∧ cs.length ≤ 6 → 12 < fs.length → refuseN 3 (cm 3) [12] H E)
    (q2 : 1 ≤ cs.length ∧ cs.length ≤ 6 → fs.length ≤ 12 → (NoneT fs → ∀ H' r, Same H H' → BookAt K C H' r cs fs → Q (.ref r) H') ∧ ∀ i j : Nat, FirstT fs i j → refuseN 2 (cm 2) [(i : Int), (j : Int)] H E) :
    ∀ x dx, H x = none → H dx = none → dx ≠ x → spInitA K C cm [.ref x, .ref a, .ref b] (upd (upd H dx (.own x)) x (.ins C dx [])) (fun v H3 => v = .non ∧ Q (.ref x) H3) E := fun x dx nx ndx nxd => by
  have v1 := same_upd (o := .own x) ndx
  have nx1 : (upd H dx (.own x)) x = none := by
    rw [upd_ne nxd.symm]
    exact nx
  have v2 := same_upd (o := .ins C dx []) nx1
  have v12 := v1.trans v2
  refine ⟨x, dx, a, b, cs, xs, fs, rfl, upd_same, ha.same v12, hb.same v12, hA.mono fun _ _ => FigA.same v12, hco, hG, hfs, fun e => (q0 e).later v12, fun e1 e2 => (q3 e1 e2).later v12, fun e1 e2 => ⟨fun hN H' off hBk => ⟨rfl, (q2 e1 e2).1 hN _ _ (fun b o e => off b o (ne_of_none e nx) (v12 _ _ e)) hBk⟩, fun i j e => ((q2 e1 e2).2 i j e).later v12⟩⟩
abbrev sCols : Stmt := inClass (topS 38) 1
theorem scCols : FnScope ["self"] ["self"] (defScope sCols) := ⟨rfl, rfl, rfl, by decide +kernel, rfl, by decide +kernel, by decide +kernel⟩
abbrev sFigs : Stmt := inClass (topS 38) 3
theorem scFigs : FnScope ["self"] ["self"] (defScope sFigs) := ⟨rfl, rfl, rfl, by decide +kernel, rfl, by decide +kernel, by decide +kernel⟩
abbrev sBLen : Stmt := inClass (topS 38) 8
theorem scBLen : FnScope ["self"] ["self"] (defScope sBLen) := ⟨rfl, rfl, rfl, by decide +kernel, rfl, by decide +kernel, by decide +kernel⟩
def spCols (K : PySem.W.Frag) (C : Addr) : Sp := fun vs H Q _ => ∃ (p : Addr) (cs : List Int) (fs : List (List Tri)), vs = [.ref p] ∧ BookAt K C H p cs fs ∧ ∀ a, SqT K H a (cs.map V.int) → Q (.ref a) H
def spFigs (K : PySem.W.Frag) (C : Addr) : Sp := fun vs H Q _ => ∃ (p : Addr) (cs : List Int) (fs : List (List Tri)), vs = [.ref p] ∧ BookAt K C H p cs fs ∧ fs.length ≤ 1000 ∧ ∀ H' d xs, Same H H' → H d = none → H' d = some (.lst xs) → All2 (FigT K H') xs fs → Q (.ref d) H'
def spBLen (K : PySem.W.Frag) (C : Addr) : Sp := fun vs H Q _ => ∃ (p : Addr) (cs : List Int) (fs : List (List Tri)), vs = [.ref p] ∧ BookAt K C H p cs fs ∧ Q (.int (fs.length : Nat)) H
section
variable {P : Program} {w : World} {K : PySem.W.Frag} {mg : Str → Option Value} {base : Heap}
theorem ok_cols {f C : Addr} {fd : FuncData} {k : Nat} (F : Fun K "colours" "Book.colours" sCols f fd) (T : BkTxt K mg C) : FnOk P w K mg base CX0 (k + 1) f fd ["self"] (spCols K C) := by
  refine F.ok scCols (fun vs H Q E h => ?_) (fun cdv A outer s H vs Q E hr h => ?_)
  · obtain ⟨p, cs, fs, rfl, _⟩ := h
    rfl
  · obtain ⟨p, cs, fs, rfl, ⟨dx, a, b, xs, hp, ha, hb, hA⟩, q⟩ := h
    refine ⟨_, pss_one (ps_ret (pe_fld (pv 0) rfl)), ?_⟩
    exact ⟨.ref p, rfl, p, C, dx, _, _, rfl, hp, T.cl, T.nP, rfl, q a ha⟩
theorem ok_figs {f C : Addr} {fd : FuncData} {k : Nat} (F : Fun K "figures" "Book.figures" sFigs f fd) (T : BkTxt K mg C) (mli : mg "list" = none) : FnOk P w K mg base CX0 (k + 1) f fd ["self"] (spFigs K C) := by
  refine F.ok scFigs (fun vs H Q E h => ?_) (fun cdv A outer s H vs Q E hr h => ?_)
  · obtain ⟨p, cs, fs, rfl, _⟩ := h
    rfl
  · obtain ⟨p, cs, fs, rfl, ⟨dx, a, b, xs, hp, ha, hb, hA⟩, hl, q⟩ := h
    refine ⟨_, pss_one (ps_ret (pe_callTy call_list_of (by rfl) mli (by decide +kernel) (pa_cons (pe_fld (pv 0) rfl) pa_nil))), ?_⟩
    refine ⟨.ref p, rfl, p, C, dx, _, _, rfl, hp, T.cl, T.nS, rfl, b, xs, rfl, .inr hb, fun l nl => ?_⟩
    exact q _ l xs (same_upd nl) nl upd_same (hA.mono fun _ _ => FigT.ts (TS.of (same_upd nl)))
theorem ok_blen {f C : Addr} {fd : FuncData} {k : Nat} (F : Fun K "__len__" "Book.__len__" sBLen f fd) (T : BkTxt K mg C) (ml : mg "len" = none) : FnOk P w K mg base CX0 (k + 1) f fd ["self"] (spBLen K C) := by
  refine F.ok scBLen (fun vs H Q E h => ?_) (fun cdv A outer s H vs Q E hr h => ?_)
  · obtain ⟨p, cs, fs, rfl, _⟩ := h
    rfl
  · obtain ⟨p, cs, fs, rfl, ⟨dx, a, b, xs, hp, ha, hb, hA⟩, q⟩ := h
    refine ⟨_, pss_one (ps_ret (pe_callB call_lenQ (by rfl) ml PySem.boot_len (pa_cons (pe_fld (pv 0) rfl) pa_nil))), ?_⟩
    refine ⟨.ref p, rfl, p, C, dx, _, _, rfl, hp, T.cl, T.nS, bkF_shapesX a b, b, _, rfl, .inr hb, ?_⟩
    rw [hA.len]
    exact q
end
/-! ### where nothing is refused -/
section
variable {P : Program} {w : World} {K : PySem.W.Frag} {mg : Str → Option Value} {base : Heap}
theorem initAC {f C : Addr} {fd : FuncData} {k : Nat} {cm : Nat → Addr} (G : FnOk P w K mg base (L2.CX P w) k f fd ["self", "colours", "figures"] (spInitA K C cm)) : FnOk P w K mg base CX0 k f fd ["self", "colours", "figures"] (spInit K C) := calm G fun vs H Q E h => by
  obtain ⟨p, dx, a, b, cs, xs, fs, rfl, hp, ha, hb, hA, hC, hG, hl, q⟩ := h
  refine ⟨p, dx, a, b, cs, xs, fs, rfl, hp, .inl ha, .inl hb, hA.mono fun _ _ => FigT.any, hC.2.2, hG.all, by omega, fun e => absurd ⟨hC.1, hC.2.1⟩ e, fun _ e => absurd hl (by omega), fun _ _ => ⟨fun _ H' off hB => q H' off hB, fun i j hF => ?_⟩⟩
  obtain ⟨⟨h1, h2, h3⟩, _⟩ := hF
  rw [noneT_of hG.fwd i j h1 h2] at h3
  cases h3
end
/-! ### orders of pads -/
def rgI (n : Nat) : List Int := (List.range n).map fun (i : Nat) => (i : Int)
theorem rgI_len (n : Nat) : (rgI n).length = n := by unfold rgI; rw [List.length_map, List.length_range]
theorem rgI_mem {n : Nat} {x : Int} : x ∈ rgI n ↔ 0 ≤ x ∧ x < n := by
  unfold rgI
  rw [List.mem_map]
  constructor
  · rintro ⟨i, hi, rfl⟩
    have := List.mem_range.mp hi
    omega
  · rintro ⟨h0, h1⟩
    exact ⟨x.toNat, List.mem_range.mpr (by omega), by omega⟩
theorem rgI_up (n : Nat) : (rgI n).Pairwise (· < ·) := by
  unfold rgI
  rw [List.pairwise_map]
  exact List.pairwise_lt_range.imp fun {a b} h => by omega
theorem rgV_eq (n : Nat) : rgV 0 (n : Int) = (rgI n).map V.int := by
  unfold rgV rgI
  rw [List.map_map, show ((n : Int) - 0).toNat = n by omega]
  refine List.map_congr_left fun i _ => ?_
  show V.int (0 + (i : Int)) = V.int (i : Int)
  rw [Int.zero_add]
/-- a row that is sorted, of just these numbers -/
theorem srt_eq {a b : List Int} (p : a.Perm b) (ha : a.Pairwise (· ≤ ·)) (hb : b.Pairwise (· ≤ ·)) : a = b := p.eq_of_pairwise (fun x y _ _ h1 h2 => Int.le_antisymm h1 h2) ha hb
theorem srt_iff {o ns : List Int} {n : Nat} (p : ns.Perm o) (s : ns.Pairwise (· ≤ ·)) : ns = rgI n ↔ o.Perm (rgI n) := by
  constructor
  · intro e
    rw [← e]
    exact p.symm
  · intro h
    exact srt_eq (p.trans h) s ((rgI_up n).imp fun {a b} h => Int.le_of_lt h)
/-- the colours when each pad has gone to its place -/
def ordC (cs o : List Int) : List Int := (List.range cs.length).map fun (j : Nat) => cs.getD (o.idxOf (j : Int)) 0
theorem ordC_len (cs o : List Int) : (ordC cs o).length = cs.length := by unfold ordC; rw [List.length_map, List.length_range]
structure IsOrd (n : Nat) (o : List Int) : Prop where
  len : o.length = n
  lo : ∀ i < n, 0 ≤ o.getD i 0
  hi : ∀ i < n, o.getD i 0 < n
  inj : ∀ i < n, ∀ j < n, o.getD i 0 = o.getD j 0 → i = j
  nd : o.Nodup
  mem : ∀ x, x ∈ o ↔ 0 ≤ x ∧ x < n
theorem getD_at {α : Type} {l : List α} {i : Nat} {d : α} (h : i < l.length) : l.getD i d = l[i] := by
  rw [List.getD_eq_getElem?_getD, List.getElem?_eq_getElem h]
  rfl
theorem isOrd {n : Nat} {o : List Int} (p : o.Perm (rgI n)) : IsOrd n o := by
  have hl : o.length = n := by rw [p.length_eq, rgI_len]
  have hm : ∀ x, x ∈ o ↔ 0 ≤ x ∧ x < n := fun x => by rw [p.mem_iff, rgI_mem]
  have nd : o.Nodup := p.symm.nodup ((rgI_up n).imp fun {a b} h z => by omega)
  have at_ : ∀ i < n, o.getD i 0 ∈ o := fun i hi => by
    rw [getD_at (by omega)]
    exact List.getElem_mem _
  refine ⟨hl, fun i hi => ((hm _).mp (at_ i hi)).1, fun i hi => ((hm _).mp (at_ i hi)).2, fun i hi j hj e => ?_, nd, hm⟩
  rw [getD_at (by omega), getD_at (by omega)] at e
  exact (List.getElem_inj nd).mp e
theorem IsOrd.idx {n : Nat} {o : List Int} (h : IsOrd n o) {i : Nat} (hi : i < n) : o.idxOf (o.getD i 0) = i := by
  have h1 := h.len
  rw [getD_at (by omega)]
  have hm : o[i] ∈ o := List.getElem_mem _
  have hlt := List.idxOf_lt_length_of_mem hm
  exact (List.getElem_inj h.nd).mp (List.getElem_idxOf hlt)
theorem IsOrd.at {n : Nat} {o : List Int} (h : IsOrd n o) {j : Nat} (hj : j < n) : o.idxOf (j : Int) < n ∧ o.getD (o.idxOf (j : Int)) 0 = (j : Int) := by
  have hm : (j : Int) ∈ o := (h.mem _).mpr ⟨by omega, by omega⟩
  have hlt := List.idxOf_lt_length_of_mem hm
  refine ⟨by have := h.len; omega, ?_⟩
  rw [getD_at hlt]
  exact List.getElem_idxOf hlt
theorem ordC_at {cs o : List Int} {j : Nat} (hj : j < cs.length) : (ordC cs o).getD j 0 = cs.getD (o.idxOf (j : Int)) 0 := by
  unfold ordC
  rw [getD_at (by rw [List.length_map, List.length_range]; exact hj), List.getElem_map, List.getElem_range]
theorem ord_moves {cs o : List Int} (p : o.Perm (rgI cs.length)) : Moves cs (ordC cs o) o := by
  have h := isOrd p
  refine ⟨h.lo, fun i hi => by rw [ordC_len]; exact h.hi i hi, fun i hi => ?_, h.inj⟩
  have h0 := h.lo i hi
  have h1 := h.hi i hi
  rw [ordC_at (by omega), Int.toNat_of_nonneg h0, h.idx hi]
theorem ordC_col {cs o : List Int} (p : o.Perm (rgI cs.length)) (hc : ∀ x ∈ cs, colOk x) : ∀ x ∈ ordC cs o, colOk x := fun x hx => by
  unfold ordC at hx
  obtain ⟨j, hj, rfl⟩ := List.mem_map.mp hx
  have := ((isOrd p).at (List.mem_range.mp hj)).1
  rw [getD_at this]
  exact hc _ (List.getElem_mem _)
/-- the colours when the first so many pads have gone to their places -/
def ordGo (cs o : List Int) : Nat → List Int
  | 0 => cs
  | i + 1 => (ordGo cs o i).set (o.getD i 0).toNat (cs.getD i 0)
theorem ordGo_len (cs o : List Int) : ∀ i, (ordGo cs o i).length = cs.length
  | 0 => rfl
  | i + 1 => by
    show ((ordGo cs o i).set _ _).length = _
    rw [List.length_set, ordGo_len cs o i]
theorem ordGo_at {cs o : List Int} (h : IsOrd cs.length o) : ∀ (i : Nat), i ≤ cs.length → ∀ k < i, (ordGo cs o i).getD (o.getD k 0).toNat 0 = cs.getD k 0
  | 0, _, _, hk => by omega
  | i + 1, hi, k, hk => by
    have hl := ordGo_len cs o i
    have k0 := h.lo k (by omega)
    have k1 := h.hi k (by omega)
    have i0 := h.lo i (by omega)
    have i1 := h.hi i (by omega)
    show ((ordGo cs o i).set (o.getD i 0).toNat (cs.getD i 0)).getD (o.getD k 0).toNat 0 = _
    rw [List.getD_eq_getElem?_getD, List.getElem?_set]
    by_cases e : k = i
    · subst e
      rw [if_pos rfl, if_pos (by omega)]
      rfl
    · have ne : ¬ (o.getD i 0).toNat = (o.getD k 0).toNat := fun z => e (h.inj k (by omega) i (by omega) (by omega))
      rw [if_neg ne, ← List.getD_eq_getElem?_getD]
      exact ordGo_at h i (by omega) k (by omega)
theorem ordGo_all {cs o : List Int} (p : o.Perm (rgI cs.length)) : ordGo cs o cs.length = ordC cs o := by
  have h := isOrd p
  refine List.ext_getElem (by rw [ordGo_len, ordC_len]) fun j h1 h2 => ?_
  have hj : j < cs.length := by rw [ordGo_len] at h1; exact h1
  obtain ⟨a, b⟩ := h.at hj
  have := ordGo_at h cs.length (Nat.le_refl _) _ a
  rw [b, Int.toNat_natCast, getD_at h1] at this
  rw [this, ← getD_at (d := 0) h2, ordC_at hj]
theorem ord_good {cs o : List Int} {fs : List (List Tri)} (p : o.Perm (rgI cs.length)) (h : GoodB cs fs) : (∀ f ∈ fs.map (mvF o), GoodF (ordC cs o) f) ∧ NoneT (fs.map (mvF o)) := by
  have M := ord_moves p
  refine ⟨fun f hf => ?_, noneT_of ?_⟩
  · obtain ⟨g, hg, rfl⟩ := List.mem_map.mp hf
    exact M.good (h.all g hg)
  · rw [List.pairwise_map]
    exact List.Pairwise.imp_of_mem (fun {a b} ha hb e => by rw [M.ok (h.all a ha) (h.all b hb)]; exact e) h.fwd
/-! ### figures as data -/
theorem eqvAll_map {α : Type} [DecidableEq α] (f : α → PyData) (h : ∀ a b, PyData.eqv (f a) (f b) = decide (a = b)) : ∀ as bs : List α, PyData.eqvAll (as.map f) (bs.map f) = decide (as = bs)
  | [], [] => by simp [PyData.eqvAll]
  | [], _ :: _ => by simp [PyData.eqvAll]
  | _ :: _, [] => by simp [PyData.eqvAll]
  | a :: as, b :: bs => by
    simp only [List.map_cons, PyData.eqvAll, h a b, eqvAll_map f h as bs]
    by_cases e : a = b <;> by_cases e' : as = bs <;> simp [e, e']
theorem layAll_map {α : Type} (f : α → PyData) (h : ∀ a, PyData.canLay0 (f a) = true) : ∀ as : List α, PyData.canLayAll0 (as.map f) = true
  | [] => by simp [PyData.canLayAll0]
  | a :: as => by simp [PyData.canLayAll0, h a, layAll_map f h as]
theorem depthAll_map {α : Type} (f : α → PyData) (n : Nat) (h : ∀ a, PyData.depth (f a) ≤ n) : ∀ as : List α, PyData.depthAll (as.map f) ≤ n
  | [] => by simp [PyData.depthAll]
  | a :: as => by
    simp only [List.map_cons, PyData.depthAll]
    have := h a
    have := depthAll_map f n h as
    omega
def zD (t : List Int) : PyData := .tuple (t.map PyData.int)
def triD (t : Tri) : PyData := .tuple [.int t.1, .int t.2.1, .int t.2.2]
def figD (f : List Tri) : PyData := .tuple (f.map triD)
def figsD (fs : List (List Tri)) : PyData := .tuple (fs.map figD)
theorem shaped_of {d : PyData} (h : PyData.canLay0 d = true) (n : PyData.depth d ≤ 64) : SeqAt.shaped d = true := by
  show (PyData.canLay0 _ && decide (PyData.depth _ ≤ 64)) = true
  rw [Bool.and_eq_true]
  exact ⟨h, decide_eq_true n⟩
theorem zD_lay (t : List Int) : PyData.canLay0 (zD t) = true ∧ PyData.depth (zD t) ≤ 1 := ⟨by simp [zD, PyData.canLay0, canLay_ints], by simp [zD, PyData.depth, depth_ints]⟩
theorem zD_eqv (a b : List Int) : PyData.eqv (zD a) (zD b) = decide (a = b) := eqvT a b
theorem triD_lay (t : Tri) : PyData.canLay0 (triD t) = true ∧ PyData.depth (triD t) ≤ 1 := ⟨by simp [triD, PyData.canLay0, PyData.canLayAll0], by simp [triD, PyData.depth, PyData.depthAll]⟩
theorem triD_eqv (a b : Tri) : PyData.eqv (triD a) (triD b) = decide (a = b) := by
  obtain ⟨a1, a2, a3⟩ := a
  obtain ⟨b1, b2, b3⟩ := b
  simp only [triD, PyData.eqv, PyData.eqvAll]
  by_cases h1 : a1 = b1 <;> by_cases h2 : a2 = b2 <;> by_cases h3 : a3 = b3 <;> simp [h1, h2, h3]
theorem figD_lay (f : List Tri) : PyData.canLay0 (figD f) = true ∧ PyData.depth (figD f) ≤ 2 := by
  refine ⟨?_, ?_⟩
  · simp only [figD, PyData.canLay0]
    exact layAll_map triD (fun a => (triD_lay a).1) f
  · simp only [figD, PyData.depth]
    have := depthAll_map triD 1 (fun a => (triD_lay a).2) f
    omega
theorem figD_eqv (a b : List Tri) : PyData.eqv (figD a) (figD b) = decide (a = b) := by
  simp only [figD, PyData.eqv]
  exact eqvAll_map triD triD_eqv a b
theorem figsD_sh (fs : List (List Tri)) : SeqAt.shaped (figsD fs) = true := by
  refine shaped_of ?_ ?_
  · simp only [figsD, PyData.canLay0]
    exact layAll_map figD (fun a => (figD_lay a).1) fs
  · simp only [figsD, PyData.depth]
    have := depthAll_map figD 2 (fun a => (figD_lay a).2) fs
    omega
theorem figsD_eqv (a b : List (List Tri)) : PyData.eqv (figsD a) (figsD b) = decide (a = b) := by
  simp only [figsD, PyData.eqv]
  exact eqvAll_map figD figD_eqv a b
theorem dpAll_of {K : PySem.W.Frag} {H : Hp} {α : Type} {R : V → α → Prop} (f : α → PyData) (h : ∀ v a, R v a → Dp K H v (f a)) : ∀ {xs : List V} {as : List α}, All2 R xs as → DpAll K H xs (as.map f)
  | [], [], _ => .nil
  | x :: xs, a :: as, r => .cons (h x a r.1) (dpAll_of f h r.2)
  | [], _ :: _, r => r.elim
  | _ :: _, [], r => r.elim
theorem fig_dp {K : PySem.W.Frag} {H : Hp} {v : V} {f : List Tri} (h : FigT K H v f) : Dp K H v (figD f) := by
  obtain ⟨c, ys, rfl, hc, hy⟩ := h
  exact .tup hc (dpAll_of triD (fun v t ⟨d, e, hd⟩ => by
    subst e
    exact .tup hd (.cons (.int _) (.cons (.int _) (.cons (.int _) .nil)))) hy)
theorem figD_sh (f : List Tri) : SeqAt.shaped (figD f) = true := shaped_of (figD_lay f).1 (by have := (figD_lay f).2; omega)
theorem figsL_sh (fs : List (List Tri)) : SeqAt.shaped (.list (fs.map figD)) = true := by
  refine shaped_of ?_ ?_
  · simp only [PyData.canLay0]
    exact layAll_map figD (fun a => (figD_lay a).1) fs
  · simp only [PyData.depth]
    have := depthAll_map figD 2 (fun a => (figD_lay a).2) fs
    omega
theorem figsL_dp {K : PySem.W.Frag} {H : Hp} {b : Addr} {xs : List V} {fs : List (List Tri)} (h1 : SqL K H b xs) (h2 : All2 (FigT K H) xs fs) : Dp K H (.ref b) (.list (fs.map figD)) := .lst h1 (dpAll_of figD (fun _ _ => fig_dp) h2)
/-- a figure among figures -/
theorem figs_any (fs : List (List Tri)) (f : List Tri) : ((fs.map figD).any fun z => PyData.eqv z (figD f)) = decide (f ∈ fs) := by
  rw [List.any_map, Bool.eq_iff_iff, List.any_eq_true, decide_eq_true_iff]
  constructor
  · rintro ⟨g, hg, e⟩
    have e : PyData.eqv (figD g) (figD f) = true := e
    rw [figD_eqv] at e
    rw [← of_decide_eq_true e]
    exact hg
  · intro h
    exact ⟨f, h, by show PyData.eqv (figD f) (figD f) = true; rw [figD_eqv]; exact decide_eq_true rfl⟩
/-! ### len(o), repr(o), str(o) of an own class with __len__, __repr__, __str__ -/
section
variable {X : Cx} {n : Nat} {CX : CXT} {C f : Addr} {fd : FuncData} {ps : List Str} {sp : Sp} {E : XK}
theorem call_own1 {A : Around} {pins : List (Addr × Obj)} {s : Shared} {σ : L2.St} {H : Hp} {x : V} {u : Value} {Q : VK} (F : FnOk X.prog X.w X.K X.mg X.base CX n f fd ps sp) (hb : Binds X.K fd ps []) (hx : Passes CX X E)
    (hr : Room n A) (fr : A.frames = X.A.frames) (I : Inv X pins σ H s) (rx : RelV x u) (h : sp [x] H Q E) :
    wpAny (model X.prog X.w) A (call (.ref f) [u]) (EP X pins σ Q) X.xe s := by
  have e0 : Env0 X.prog X.w X.K X.mg X.base A X.stack s H := by
    have e := I.env0
    exact ⟨by rw [fr]; exact e.frames, e.mod, e.bs, e.bsz, e.funs, e.frf, e.hok, e.bare⟩
  have hl := F.len _ _ _ _ h
  refine wpAny_call (codeAny_mono (F.run A X.stack s H ⟨[u], []⟩ [u] [x] _ E hr e0 (by
    have := hb s [u] I.kIn (by simpa using hl)
    simpa using this) (.cons rx .nil) h) fun r s' hq => ?_)
  cases r with
  | error e => exact hx pins σ H s e s' I hq
  | ok fl =>
    cases fl with
    | ret w => exact I.after hq
    | next => exact False.elim hq
    | brk => exact False.elim hq
    | cont => exact False.elim hq
def rLen1 (C : Addr) (sp : Sp) (E : XK) : List V → Hp → VK → Prop := fun xs H Q => ∃ a dx fs, xs = [.ref a] ∧ H a = some (.ins C dx fs) ∧ sp [.ref a] H (fun v H' => ∃ n : Nat, v = .int (n : Int) ∧ n < 2 ^ 62 ∧ Q (.int (n : Int)) H') E
theorem call_lenOwn (hs : PySem.W.findIn X.K (.ref C) "__len__" = some (some (.ref f))) (hf : PySem.W.isFn X.K (.ref f) = true) (F : FnOk X.prog X.w X.K X.mg X.base CX n f fd ps sp) (hb : Binds X.K fd ps []) (hx : Passes CX X E) (hr : Room (n + 1) X.A) : CallR X (.builtin "len") (rLen1 C sp E) := by
  intro pins s σ H xs us Q I r h
  obtain ⟨a, dx, fs, rfl, ha, h⟩ := h
  rw [Vals.ref1 r]
  obtain ⟨mA, J, _⟩ := ins_get I.hok ha
  obtain ⟨od, J, _⟩ := J.look
  obtain ⟨m, hF⟩ := I.fr
  refine PySem.W.len_K hF I.ok.mod.kin J hs hf ?_
  refine wpAny_mono (call_own1 (X := X) (A := X.A.in1) F hb hx hr.in1 rfl I (x := .ref a) rfl h) (fun v s' z => ?_) fun _ _ e => e
  obtain ⟨w, H', I', rw', k, ew, hk, q⟩ := z
  subst ew
  obtain ⟨t, rfl⟩ := rw'
  exact ⟨⟨by omega, by omega⟩, .int (k : Int), H', I'.kept (h' := s'.heap) (t' := s'.toks + 1) (fun b o e => e), ⟨_, rfl⟩, q⟩
def rStr1 (C : Addr) (sp : Sp) (E : XK) : List V → Hp → VK → Prop := fun xs H Q => ∃ a dx fs, xs = [.ref a] ∧ H a = some (.ins C dx fs) ∧ sp [.ref a] H (fun v H' => ∃ z : Str, v = .str z ∧ Q (.str z) H') E
theorem call_reprOwn (hs : PySem.W.findIn X.K (.ref C) "__repr__" = some (some (.ref f))) (hf : PySem.W.isFn X.K (.ref f) = true) (F : FnOk X.prog X.w X.K X.mg X.base CX n f fd ps sp) (hb : Binds X.K fd ps []) (hx : Passes CX X E) (hr : Room (n + 1) X.A) : CallR X (.builtin "repr") (rStr1 C sp E) := by
  intro pins s σ H xs us Q I r h
  obtain ⟨a, dx, fs, rfl, ha, h⟩ := h
  rw [Vals.ref1 r]
  obtain ⟨mA, J, _⟩ := ins_get I.hok ha
  obtain ⟨od, J, _⟩ := J.look
  obtain ⟨m, hF⟩ := I.fr
  refine PySem.W.repr_K hr.in1.units0 hF I.ok.mod.kin J hs hf ?_
  refine wpAny_mono (call_own1 (X := X) (A := X.A.in1) F hb hx hr.in1 rfl I (x := .ref a) rfl h) (fun v s' z => ?_) fun _ _ e => e
  obtain ⟨w, H', I', rw', k, ew, q⟩ := z
  subst ew
  obtain ⟨t, rfl⟩ := rw'
  exact ⟨.str k, H', I', ⟨_, rfl⟩, q⟩
end
/-- what is known of a class with an own __len__ -/
structure LenTxt (K : PySem.W.Frag) (C f : Addr) : Prop where
  len : PySem.W.findIn K (.ref C) "__len__" = some (some (.ref f))
  fn : PySem.W.isFn K (.ref f) = true
def lenB (K : PySem.W.Frag) (C f : Addr) : Bool := He.eqO (PySem.W.findIn K (.ref C) "__len__") (some (some (.ref f))) && PySem.W.isFn K (.ref f)
theorem lenB_ok {K : PySem.W.Frag} {C f : Addr} (h : lenB K C f = true) : LenTxt K C f := by
  obtain ⟨h1, h2⟩ := He.ba h
  exact ⟨He.eqO_ok h1, h2⟩
/-! ### texts: str of whole numbers, join, str of an own class -/
def strI (z : Int) : Str := toString z
theorem strI_small : ∀ n : Nat, n < 1001 → (strI (n : Int)).length ≤ 4 ∧ ((n : Int)).natAbs.log2 < 1920 := by decide +kernel
theorem sum_le {l : List Nat} {m : Nat} (h : ∀ x ∈ l, x ≤ m) : l.sum ≤ l.length * m := by
  induction l with
  | nil => exact Nat.zero_le _
  | cons x r ih =>
    rw [List.sum_cons, List.length_cons, Nat.succ_mul]
    have := h x (List.mem_cons_self ..)
    have := ih fun y hy => h y (List.mem_cons_of_mem _ hy)
    omega
theorem join_len (sep : Str) (l : List Str) : (Txt.join sep l).length ≤ (l.map (·.length)).sum + l.length * sep.length := by
  show (PySem.Builtin.Str.glued sep l).length ≤ _
  rw [StrLaws.glued_eq_join]
  exact StrLaws.join_length_le sep l
def rStrI : List V → Hp → VK → Prop := fun xs H Q => ∃ i, xs = [.int i] ∧ i.natAbs.log2 < 1920 ∧ Q (.str (strI i)) H
theorem call_strI {X : Cx} : CallR X (.type "str") rStrI := call_str_int
abbrev rJoinK (K : PySem.W.Frag) : V → List V → Hp → VK → Prop := fun x xs H Q => ∃ a p, ∃ ys : List Str, x = .str a ∧ xs = [.ref p] ∧ (SqL K H p (ys.map V.str) ∨ SqT K H p (ys.map V.str)) ∧ (ys.map (·.length)).sum + ys.length * a.length ≤ 16777216 ∧ Q (.str (Txt.join a ys)) H
theorem mt_joinK {X : Cx} : MtR X "str.join" (rJoinK X.K) := mt_join
section
variable {X : Cx} {n : Nat} {CX : CXT} {C f : Addr} {fd : FuncData} {ps : List Str} {sp : Sp} {E : XK}
theorem call_strOwn (hs : PySem.W.findIn X.K (.ref C) "__str__" = some (some (.ref f))) (hf : PySem.W.isFn X.K (.ref f) = true) (F : FnOk X.prog X.w X.K X.mg X.base CX n f fd ps sp) (hb : Binds X.K fd ps []) (hx : Passes CX X E) (hr : Room (n + 2) X.A) : CallR X (.type "str") (rStr1 C sp E) := by
  intro pins s σ H xs us Q I r h
  obtain ⟨a, dx, fs, rfl, ha, h⟩ := h
  rw [Vals.ref1 r]
  obtain ⟨mA, J, _⟩ := ins_get I.hok ha
  obtain ⟨od, J, _⟩ := J.look
  refine PySem.W.kso_call hr.in1.in1.units0 I.kIn J hs hf ?_
  refine wpAny_mono (call_own1 (X := X) (A := X.A.in1.in1) F hb hx hr.in1.in1 rfl I (x := .ref a) rfl h) (fun v s' z => ?_) fun _ _ e => e
  obtain ⟨w, H', I', rw', k, ew, q⟩ := z
  subst ew
  obtain ⟨t, rfl⟩ := rw'
  exact ⟨.str k, H', I', ⟨_, rfl⟩, q⟩
end
structure StrTxt (K : PySem.W.Frag) (C f : Addr) : Prop where
  str : PySem.W.findIn K (.ref C) "__str__" = some (some (.ref f))
  fn : PySem.W.isFn K (.ref f) = true
def strB (K : PySem.W.Frag) (C f : Addr) : Bool := He.eqO (PySem.W.findIn K (.ref C) "__str__") (some (some (.ref f))) && PySem.W.isFn K (.ref f)
theorem strB_ok {K : PySem.W.Frag} {C f : Addr} (h : strB K C f = true) : StrTxt K C f := by
  obtain ⟨h1, h2⟩ := He.ba h
  exact ⟨He.eqO_ok h1, h2⟩
theorem str_app_len (a b : Str) : (a ++ b).length = a.length + b.length := Str.length_append ..
structure RepTxt (K : PySem.W.Frag) (C f : Addr) : Prop where
  rep : PySem.W.findIn K (.ref C) "__repr__" = some (some (.ref f))
  fn : PySem.W.isFn K (.ref f) = true
def repB (K : PySem.W.Frag) (C f : Addr) : Bool := He.eqO (PySem.W.findIn K (.ref C) "__repr__") (some (some (.ref f))) && PySem.W.isFn K (.ref f)
theorem repB_ok {K : PySem.W.Frag} {C f : Addr} (h : repB K C f = true) : RepTxt K C f := by
  obtain ⟨h1, h2⟩ := He.ba h
  exact ⟨He.eqO_ok h1, h2⟩
/-! ### a book as a text -/
def trS (t : Tri) : Str := ((strI t.1 ++ (":" : Str)) ++ strI t.2.1) ++ (if t.2.2 = 1 then Str.empty else (("*" : Str) ++ strI t.2.2))
def figS (f : List Tri) : Str := Txt.join " " (f.map trS)
def colS (cs : List Int) : Str := Txt.join "," (cs.map strI)
def bookS (cs : List Int) (fs : List (List Tri)) : Str := Txt.join " / " (colS cs :: fs.map figS)
def repBS (n m : Nat) : Str := ((((Str.empty ++ ("Book(" : Str)) ++ strI (n : Int)) ++ (" pads, " : Str)) ++ strI (m : Int)) ++ (" figures)" : Str)
structure SmT (t : Tri) : Prop where
  p : 0 ≤ t.1 ∧ t.1 < 1000
  n : 0 ≤ t.2.1 ∧ t.2.1 < 1000
  d : 0 ≤ t.2.2 ∧ t.2.2 < 1000
theorem strI_sm {z : Int} (h : 0 ≤ z ∧ z < 1000) : (strI z).length ≤ 4 ∧ z.natAbs.log2 < 1920 := by
  obtain ⟨n, rfl⟩ := Int.eq_ofNat_of_zero_le h.1
  exact strI_small n (by omega)
theorem colon_len : (":" : Str).length = 1 := by decide +kernel
theorem star_len : ("*" : Str).length = 1 := by decide +kernel
theorem emp_len : Str.empty.length = 0 := by decide +kernel
theorem small_str {n : Nat} (h : n ≤ 1000) : n ≤ sizeLine := Nat.le_of_lt (small1000 h)
theorem trS_one {t : Tri} (h : t.2.2 = 1) : trS t = (((Str.empty ++ strI t.1) ++ (":" : Str)) ++ strI t.2.1) := by
  unfold trS
  rw [if_pos h, Str.append_empty, Str.empty_append]
theorem trS_more {t : Tri} (h : ¬ t.2.2 = 1) : trS t = (((((Str.empty ++ strI t.1) ++ (":" : Str)) ++ strI t.2.1) ++ ("*" : Str)) ++ strI t.2.2) := by
  unfold trS
  rw [if_neg h, Str.empty_append, ← Str.append_assoc]
theorem trS_len {t : Tri} (h : SmT t) : (trS t).length ≤ 14 := by
  have a := (strI_sm h.p).1
  have b := (strI_sm h.n).1
  have c := (strI_sm h.d).1
  unfold trS
  rw [str_app_len, str_app_len, str_app_len, colon_len]
  by_cases e : t.2.2 = 1
  · rw [if_pos e, emp_len]
    omega
  · rw [if_neg e, str_app_len, star_len]
    omega
theorem sum_map {α : Type} {l : List α} {g : α → Str} {m : Nat} (h : ∀ x ∈ l, (g x).length ≤ m) : ((l.map g).map (·.length)).sum ≤ l.length * m := by
  have := sum_le (l := (l.map g).map (·.length)) (m := m) (fun x hx => by
    obtain ⟨y, hy, rfl⟩ := List.mem_map.mp hx
    obtain ⟨z, hz, rfl⟩ := List.mem_map.mp hy
    exact h z hz)
  rw [List.length_map, List.length_map] at this
  exact this
theorem figS_sum {f : List Tri} (h : ∀ t ∈ f, SmT t) (hl : f.length ≤ 20) : ((f.map trS).map (·.length)).sum + (f.map trS).length * (" " : Str).length ≤ 300 := by
  have := sum_map (l := f) (g := trS) (m := 14) (fun t ht => trS_len (h t ht))
  have e : (" " : Str).length = 1 := by decide +kernel
  rw [List.length_map, e]
  omega
theorem figS_len {f : List Tri} (h : ∀ t ∈ f, SmT t) (hl : f.length ≤ 20) : (figS f).length ≤ 300 := Nat.le_trans (join_len " " (f.map trS)) (figS_sum h hl)
theorem colS_sum {cs : List Int} (h : ∀ x ∈ cs, 0 ≤ x ∧ x < 1000) (hl : cs.length ≤ 100) : ((cs.map strI).map (·.length)).sum + (cs.map strI).length * ("," : Str).length ≤ 500 := by
  have := sum_map (l := cs) (g := strI) (m := 4) (fun t ht => (strI_sm (h t ht)).1)
  have e : ("," : Str).length = 1 := by decide +kernel
  rw [List.length_map, e]
  omega
theorem colS_len {cs : List Int} (h : ∀ x ∈ cs, 0 ≤ x ∧ x < 1000) (hl : cs.length ≤ 100) : (colS cs).length ≤ 500 := Nat.le_trans (join_len "," (cs.map strI)) (colS_sum h hl)
theorem bookS_sum {cs : List Int} {fs : List (List Tri)} (h : ∀ x ∈ cs, 0 ≤ x ∧ x < 1000) (hl : cs.length ≤ 100) (hf : ∀ f ∈ fs, (∀ t ∈ f, SmT t) ∧ f.length ≤ 20) (hn : fs.length ≤ 100) :
    ((colS cs :: fs.map figS).map (·.length)).sum + (colS cs :: fs.map figS).length * (" / " : Str).length ≤ 40000 := by
  have := sum_map (l := fs) (g := figS) (m := 300) (fun f hf' => figS_len (hf f hf').1 (hf f hf').2)
  have c := colS_len h hl
  have e : (" / " : Str).length = 3 := by decide +kernel
  rw [List.length_cons, List.length_map, e, List.map_cons, List.sum_cons]
  omega
theorem good_sm {cs : List Int} {f : List Tri} (hc : ∀ x ∈ cs, colOk x) (hl : cs.length ≤ 6) (h : GoodF cs f) : (∀ t ∈ f, SmT t) ∧ f.length ≤ 20 := by
  refine ⟨fun t ht => ?_, by have := h.len; omega⟩
  have g := h.all t ht
  have p0 := g.p0
  have p1 := g.p1
  have n0 := g.n0
  have n1 := g.n1
  have d0 := g.d0
  have d1 := g.d1
  have : cs.getD t.1.toNat 0 ≤ 4 := by
    rw [getD_at (by omega)]
    exact (hc _ (List.getElem_mem _)).2
  exact ⟨⟨p0, by omega⟩, ⟨n0, by omega⟩, ⟨by omega, by omega⟩⟩
/-! triple_text, figure_text, colours_text, __str__, __repr__, book_text -/
abbrev sTriTx : Stmt := topS 50
abbrev nTriTx : List Str := ["triple", "pad", "note", "depth"]
theorem scTriTx : FnScope nTriTx ["triple"] (defScope sTriTx) := ⟨rfl, rfl, rfl, by decide +kernel, rfl, by decide +kernel, by decide +kernel⟩
def spTriTx (K : PySem.W.Frag) : Sp := fun vs H Q _ => ∃ (v : V) (t : Tri), vs = [v] ∧ TriAt K H v t ∧ SmT t ∧ Q (.str (trS t)) H
abbrev sFigTx : Stmt := topS 49
abbrev nFigTx : List Str := ["figure", "triple"]
theorem scFigTx : FnScope nFigTx ["figure"] (defScope sFigTx) := ⟨rfl, rfl, rfl, by decide +kernel, rfl, by decide +kernel, by decide +kernel⟩
def spFigTx (K : PySem.W.Frag) : Sp := fun vs H Q _ => ∃ (v : V) (f : List Tri), vs = [v] ∧ FigT K H v f ∧ (∀ t ∈ f, SmT t) ∧ f.length ≤ 20 ∧ ∀ H', Same H H' → Q (.str (figS f)) H'
abbrev sColTx : Stmt := topS 48
abbrev nColTx : List Str := ["colours", "many"]
theorem scColTx : FnScope nColTx ["colours"] (defScope sColTx) := ⟨rfl, rfl, rfl, by decide +kernel, rfl, by decide +kernel, by decide +kernel⟩
def spColTx (K : PySem.W.Frag) : Sp := fun vs H Q _ => ∃ (a : Addr) (cs : List Int), vs = [.ref a] ∧ SqT K H a (cs.map V.int) ∧ (∀ x ∈ cs, 0 ≤ x ∧ x < 1000) ∧ cs.length ≤ 100 ∧ ∀ H', Same H H' → Q (.str (colS cs)) H'
abbrev sBStr : Stmt := inClass (topS 38) 10
abbrev nBStr : List Str := ["self", "shape"]
theorem scBStr : FnScope nBStr ["self"] (defScope sBStr) := ⟨rfl, rfl, rfl, by decide +kernel, rfl, by decide +kernel, by decide +kernel⟩
def spBStr (K : PySem.W.Frag) (C : Addr) : Sp := fun vs H Q _ => ∃ (p : Addr) (cs : List Int) (fs : List (List Tri)), vs = [.ref p] ∧ BookAt K C H p cs fs ∧ (∀ x ∈ cs, 0 ≤ x ∧ x < 1000) ∧ cs.length ≤ 100 ∧ (∀ f ∈ fs, (∀ t ∈ f, SmT t) ∧ f.length ≤ 20) ∧ fs.length ≤ 100 ∧ ∀ H', Same H H' → Q (.str (bookS cs fs)) H'
abbrev sBRep : Stmt := inClass (topS 38) 11
theorem scBRep : FnScope ["self"] ["self"] (defScope sBRep) := ⟨rfl, rfl, rfl, by decide +kernel, rfl, by decide +kernel, by decide +kernel⟩
def spBRep (K : PySem.W.Frag) (C : Addr) : Sp := fun vs H Q _ => ∃ (p : Addr) (cs : List Int) (fs : List (List Tri)), vs = [.ref p] ∧ BookAt K C H p cs fs ∧ cs.length ≤ 900 ∧ fs.length ≤ 900 ∧ Q (.str (repBS cs.length fs.length)) H
theorem repBS_len (n m : Nat) (hn : n ≤ 1000) (hm : m ≤ 1000) : (Str.empty ++ ("Book(" : Str)).length ≤ sizeLine ∧ ((Str.empty ++ ("Book(" : Str)) ++ strI (n : Int)).length ≤ sizeLine ∧ (((Str.empty ++ ("Book(" : Str)) ++ strI (n : Int)) ++ (" pads, " : Str)).length ≤ sizeLine ∧ ((((Str.empty ++ ("Book(" : Str)) ++ strI (n : Int)) ++ (" pads, " : Str)) ++ strI (m : Int)).length ≤ sizeLine ∧ (repBS n m).length ≤ sizeLine := by
  have a := (strI_small n (by omega)).1
  have b := (strI_small m (by omega)).1
  have e1 : (Str.empty ++ ("Book(" : Str)).length = 5 := by decide +kernel
  have e2 : (" pads, " : Str).length = 7 := by decide +kernel
  have e3 : (" figures)" : Str).length = 9 := by decide +kernel
  have z : 1000 ≤ sizeLine := by rw [sizeLine_eq]; decide
  unfold repBS
  refine ⟨?_, ?_, ?_, ?_, ?_⟩ <;> (simp only [str_app_len] at *; omega)
section
variable {P : Program} {w : World} {K : PySem.W.Frag} {mg : Str → Option Value} {base : Heap}
theorem ok_tritx {f : Addr} {fd : FuncData} {k : Nat} (F : Fun K "triple_text" "triple_text" sTriTx f fd) : FnOk P w K mg base CX0 (k + 1) f fd ["triple"] (spTriTx K) := by
  refine F.ok scTriTx (fun vs H Q E h => ?_) (fun cdv A outer s H vs Q E hr h => ?_)
  · obtain ⟨v, t, rfl, _⟩ := h
    rfl
  · obtain ⟨v, t, rfl, ⟨tp, rfl, htp⟩, hs, q⟩ := h
    refine ⟨_, pss_cons (ps_asg (pv 0) (pg_tup (by rfl) (pgs_cons (pg_name (i := 1) scTriTx.nd rfl (.inl rfl)) (pgs_cons (pg_name (i := 2) scTriTx.nd rfl (.inl rfl)) (pgs_cons (pg_name (i := 3) scTriTx.nd rfl (.inl rfl)) pgs_nil)))))
      (pss_cons (ps_if (pt_cmpR op_eq (pv 3) pe_int (nomark _)) (pss_one (ps_ret (pe_joined (PJ.cons (pe_fmt (pv 1)) (PJ.cons pe_str (PJ.cons (pe_fmt (pv 2)) PJ.nil)))))) pss_nil)
      (pss_one (ps_ret (pe_joined (PJ.cons (pe_fmt (pv 1)) (PJ.cons pe_str (PJ.cons (pe_fmt (pv 2)) (PJ.cons pe_str (PJ.cons (pe_fmt (pv 3)) PJ.nil))))))))), ?_⟩
    obtain ⟨a1, a2⟩ := strI_sm hs.p
    obtain ⟨b1, b2⟩ := strI_sm hs.n
    obtain ⟨c1, c2⟩ := strI_sm hs.d
    have k1 : (Str.empty ++ strI t.1).length ≤ sizeLine := small_str (by rw [str_app_len, emp_len]; omega)
    have k2 : ((Str.empty ++ strI t.1) ++ (":" : Str)).length ≤ sizeLine := small_str (by rw [str_app_len, str_app_len, emp_len, colon_len]; omega)
    have k3 : (((Str.empty ++ strI t.1) ++ (":" : Str)) ++ strI t.2.1).length ≤ sizeLine := small_str (by rw [str_app_len, str_app_len, str_app_len, emp_len, colon_len]; omega)
    have k4 : ((((Str.empty ++ strI t.1) ++ (":" : Str)) ++ strI t.2.1) ++ ("*" : Str)).length ≤ sizeLine := small_str (by rw [str_app_len, str_app_len, str_app_len, str_app_len, emp_len, colon_len, star_len]; omega)
    have k5 : (((((Str.empty ++ strI t.1) ++ (":" : Str)) ++ strI t.2.1) ++ ("*" : Str)) ++ strI t.2.2).length ≤ sizeLine := small_str (by rw [str_app_len, str_app_len, str_app_len, str_app_len, str_app_len, emp_len, colon_len, star_len]; omega)
    refine ⟨.ref tp, rfl, tp, triV t, rfl, htp, rfl, _, _, rfl, _, _, rfl, _, _, rfl, rfl, ?_⟩
    refine ⟨.int t.2.2, rfl, rfl, _, rfl, ?_⟩
    by_cases e : t.2.2 = 1
    · rw [decide_eq_true (show V.int t.2.2 = V.int 1 by rw [e])]
      refine iteT ⟨.int t.1, rfl, .inr ⟨_, rfl, a2, _, rfl, k1, _, rfl, k2, .int t.2.1, rfl, .inr ⟨_, rfl, b2, _, rfl, k3, ?_⟩⟩⟩
      rw [trS_one e] at q
      exact q
    · rw [decide_eq_false (show ¬ V.int t.2.2 = V.int 1 from fun z => e (V.int.inj z))]
      refine iteF ⟨.int t.1, rfl, .inr ⟨_, rfl, a2, _, rfl, k1, _, rfl, k2, .int t.2.1, rfl, .inr ⟨_, rfl, b2, _, rfl, k3, _, rfl, k4, .int t.2.2, rfl, .inr ⟨_, rfl, c2, _, rfl, k5, ?_⟩⟩⟩⟩
      rw [trS_more e] at q
      exact q
theorem ok_figtx {f fT : Addr} {fd fdT : FuncData} {k : Nat} (F : Fun K "figure_text" "figure_text" sFigTx f fd)
    (FT : Fun K "triple_text" "triple_text" sTriTx fT fdT) (bT : Binds K fdT ["triple"] []) (gT : mg "triple_text" = some (.ref fT)) (GT : FnOk P w K mg base CX0 k fT fdT ["triple"] (spTriTx K)) : FnOk P w K mg base CX0 (k + 1) f fd ["figure"] (spFigTx K) := by
  refine F.ok scFigTx (fun vs H Q E h => ?_) (fun cdv A outer s H vs Q E hr h => ?_)
  · obtain ⟨v, f, rfl, _⟩ := h
    rfl
  · obtain ⟨v, f, rfl, ⟨a, xs, rfl, ha, hxs⟩, hs, hl, q⟩ := h
    refine ⟨_, pss_one (ps_ret (pe_join pe_str (pe_lc (own := [("triple", 1)]) (g := gName 1) (tt := tYes) rfl scFigTx.nd (pi_tup (pv 0)) (blkOk_by (own := [("triple", 1)]) (N := nFigTx) (sc := defScope sFigTx) (by decide +kernel)) (fun _ _ _ _ _ => pg_name (i := 1) scFigTx.nd rfl (.inl rfl)) (fun _ _ _ _ _ => pts_nil) (fun _ _ _ _ _ => pe_call GT hr (by rfl) gT FT.kp bT .nil pass0 (pa_cons (pv 1) pa_nil))))), ?_⟩
    refine ⟨⟨_, rfl⟩, .ref a, rfl, a, rfl, ⟨_, ha⟩, fun D nD => ?_⟩
    refine lc_tup (K := K) (a := a) (xs := xs) (fun i H' => Same H H' ∧ H' D = some (.lst (((f.take i).map trS).map V.str))) ⟨same_upd nD, upd_same⟩ (fun i H' _ hP => Same.tup hP.1 ha) (fun i x H' hx hP => ?_) (fun H1 hP => ?_)
    · obtain ⟨sm, hD⟩ := hP
      obtain ⟨t, ht, htT⟩ := hxs.get hx
      refine ⟨rfl, yesT ⟨x, rfl, x, t, rfl, htT.ts (TS.of sm), hs t (List.mem_of_getElem? ht), _, hD, ?_, Same.offUpd sm nD, ?_⟩⟩
      · rw [List.length_map, List.length_map, List.length_take]
        exact small1000 (by omega)
      · rw [upd_same, take_snoc ht, List.map_append, List.map_append]
        rfl
    · obtain ⟨sm, hD⟩ := hP
      rw [hxs.len, List.take_length] at hD
      exact ⟨_, D, f.map trS, rfl, rfl, .inl (SqL.of hD), Nat.le_trans (figS_sum hs hl) (by decide), q _ sm⟩
theorem ok_coltx {f : Addr} {fd : FuncData} {k : Nat} (F : Fun K "colours_text" "colours_text" sColTx f fd) (mst : mg "str" = none) : FnOk P w K mg base CX0 (k + 1) f fd ["colours"] (spColTx K) := by
  refine F.ok scColTx (fun vs H Q E h => ?_) (fun cdv A outer s H vs Q E hr h => ?_)
  · obtain ⟨a, cs, rfl, _⟩ := h
    rfl
  · obtain ⟨a, cs, rfl, ha, hs, hl, q⟩ := h
    refine ⟨_, pss_one (ps_ret (pe_join pe_str (pe_lc (own := [("many", 1)]) (g := gName 1) (tt := tYes) rfl scColTx.nd (pi_tup (pv 0)) (blkOk_by (own := [("many", 1)]) (N := nColTx) (sc := defScope sColTx) (by decide +kernel)) (fun _ _ _ _ _ => pg_name (i := 1) scColTx.nd rfl (.inl rfl)) (fun _ _ _ _ _ => pts_nil) (fun _ _ _ _ _ => pe_callTy (r := rStrI) call_strI (by rfl) mst (by decide +kernel) (pa_cons (pv 1) pa_nil))))), ?_⟩
    refine ⟨⟨_, rfl⟩, .ref a, rfl, a, rfl, ⟨_, ha⟩, fun D nD => ?_⟩
    refine lc_tup (K := K) (a := a) (xs := cs.map V.int) (fun i H' => Same H H' ∧ H' D = some (.lst (((cs.take i).map strI).map V.str))) ⟨same_upd nD, upd_same⟩ (fun i H' _ hP => Same.tup hP.1 ha) (fun i x H' hx hP => ?_) (fun H1 hP => ?_)
    · obtain ⟨sm, hD⟩ := hP
      rw [List.getElem?_map] at hx
      cases hz : cs[i]? with
      | none => rw [hz] at hx; cases hx
      | some z =>
        rw [hz] at hx
        obtain rfl := Option.some.inj hx
        refine ⟨rfl, yesT ⟨_, rfl, z, rfl, (strI_sm (hs z (List.mem_of_getElem? hz))).2, _, hD, ?_, Same.offUpd sm nD, ?_⟩⟩
        · rw [List.length_map, List.length_map, List.length_take]
          exact small1000 (by omega)
        · rw [upd_same, take_snoc hz, List.map_append, List.map_append]
          rfl
    · obtain ⟨sm, hD⟩ := hP
      rw [List.length_map, List.take_length] at hD
      exact ⟨_, D, cs.map strI, rfl, rfl, .inl (SqL.of hD), Nat.le_trans (colS_sum hs hl) (by decide), q _ sm⟩
theorem ok_bstr {f C fC fT : Addr} {fd fdC fdT : FuncData} {k : Nat} (F : Fun K "__str__" "Book.__str__" sBStr f fd) (T : BkTxt K mg C)
    (FC : Fun K "colours_text" "colours_text" sColTx fC fdC) (bC : Binds K fdC ["colours"] []) (gC : mg "colours_text" = some (.ref fC)) (GC : FnOk P w K mg base CX0 k fC fdC ["colours"] (spColTx K))
    (FT : Fun K "figure_text" "figure_text" sFigTx fT fdT) (bT : Binds K fdT ["figure"] []) (gT : mg "figure_text" = some (.ref fT)) (GT : FnOk P w K mg base CX0 k fT fdT ["figure"] (spFigTx K)) : FnOk P w K mg base CX0 (k + 1) f fd ["self"] (spBStr K C) := by
  refine F.ok scBStr (fun vs H Q E h => ?_) (fun cdv A outer s H vs Q E hr h => ?_)
  · obtain ⟨p, cs, fs, rfl, _⟩ := h
    rfl
  · obtain ⟨p, cs, fs, rfl, ⟨dx, a, b, xs, hp, ha, hb, hA⟩, hcs, hcl, hfs, hfl, q⟩ := h
    refine ⟨_, pss_one (ps_ret (pe_join pe_str (pe_op op_cat (pe_lst (pa_cons (pe_call GC hr (by rfl) gC FC.kp bC .nil pass0 (pa_cons (pe_fld (pv 0) rfl) pa_nil)) pa_nil)) (pe_lc (own := [("shape", 1)]) (g := gName 1) (tt := tYes) rfl scBStr.nd (pi_tup (pe_fld (pv 0) rfl)) (blkOk_by (own := [("shape", 1)]) (N := nBStr) (sc := defScope sBStr) (by decide +kernel)) (fun _ _ _ _ _ => pg_name (i := 1) scBStr.nd rfl (.inl rfl)) (fun _ _ _ _ _ => pts_nil) (fun _ _ _ _ _ => pe_call GT hr (by rfl) gT FT.kp bT .nil pass0 (pa_cons (pv 1) pa_nil)))))), ?_⟩
    refine ⟨⟨_, rfl⟩, .ref p, rfl, p, C, dx, _, _, rfl, hp, T.cl, T.nP, rfl, a, cs, rfl, ha, hcs, hcl, fun H1 s1 => ?_⟩
    refine ⟨(show (1 : Nat) ≤ sizeLine by decide), fun l nl => ?_⟩
    have u1 := same_upd (o := .lst [V.str (colS cs)]) nl
    have hl : (upd H1 l (.lst [V.str (colS cs)])) l = some (.lst [V.str (colS cs)]) := upd_same
    have s2 := s1.trans u1
    generalize upd H1 l (.lst [V.str (colS cs)]) = H2 at s2 hl ⊢
    refine ⟨.ref p, rfl, p, C, dx, _, _, rfl, s2 _ _ hp, T.cl, T.nS, bkF_shapesX a b, b, rfl, ⟨_, Same.tup s2 hb⟩, fun D nD => ?_⟩
    refine lc_tup (K := K) (a := b) (xs := xs) (fun i H' => Same H2 H' ∧ H' D = some (.lst (((fs.take i).map figS).map V.str))) ⟨same_upd nD, upd_same⟩ (fun i H' _ hP => Same.tup (s2.trans hP.1) hb) (fun i x H' hx hP => ?_) (fun H3 hP => ?_)
    · obtain ⟨sm, hD⟩ := hP
      obtain ⟨g, hg, hgT⟩ := hA.get hx
      obtain ⟨g1, g2⟩ := hfs g (List.mem_of_getElem? hg)
      refine ⟨rfl, yesT ⟨x, rfl, x, g, rfl, hgT.ts (TS.of (s2.trans sm)), g1, g2, fun H4 s4 => ⟨_, s4 _ _ hD, ?_, Same.offUpd (sm.trans s4) nD, ?_⟩⟩⟩
      · rw [List.length_map, List.length_map, List.length_take]
        exact small1000 (by omega)
      · rw [upd_same, take_snoc hg, List.map_append, List.map_append]
        rfl
    · obtain ⟨sm, hD⟩ := hP
      rw [hA.len, List.take_length] at hD
      refine ⟨l, D, _, _, rfl, rfl, sm _ _ hl, hD, Nat.le_of_lt (small1000 (by rw [List.length_map, List.length_map]; show 1 + _ ≤ _; omega)), fun l2 nl2 => ?_⟩
      have u := same_upd (o := .lst ([V.str (colS cs)] ++ (fs.map figS).map V.str)) nl2
      refine ⟨_, l2, colS cs :: fs.map figS, rfl, rfl, .inl (SqL.of upd_same), Nat.le_trans (bookS_sum hcs hcl hfs hfl) (by decide), q _ ((s2.trans sm).trans u)⟩
theorem ok_brep {f C : Addr} {fd : FuncData} {k : Nat} (F : Fun K "__repr__" "Book.__repr__" sBRep f fd) (T : BkTxt K mg C) (ml : mg "len" = none) : FnOk P w K mg base CX0 (k + 1) f fd ["self"] (spBRep K C) := by
  refine F.ok scBRep (fun vs H Q E h => ?_) (fun cdv A outer s H vs Q E hr h => ?_)
  · obtain ⟨p, cs, fs, rfl, _⟩ := h
    rfl
  · obtain ⟨p, cs, fs, rfl, ⟨dx, a, b, xs, hp, ha, hb, hA⟩, hc, hf, q⟩ := h
    refine ⟨_, pss_one (ps_ret (pe_joined (PJ.cons pe_str (PJ.cons (pe_fmt (pe_callB call_lenQ (by rfl) ml PySem.boot_len (pa_cons (pe_fld (pv 0) rfl) pa_nil))) (PJ.cons pe_str (PJ.cons (pe_fmt (pe_callB call_lenQ (by rfl) ml PySem.boot_len (pa_cons (pe_fld (pv 0) rfl) pa_nil))) (PJ.cons pe_str PJ.nil))))))), ?_⟩
    obtain ⟨b1, b2, b3, b4, b5⟩ := repBS_len cs.length fs.length (by omega) (by omega)
    refine ⟨_, rfl, b1, .ref p, rfl, p, C, dx, _, _, rfl, hp, T.cl, T.nP, rfl, a, _, rfl, .inr ha, ?_⟩
    rw [List.length_map]
    refine .inr ⟨_, rfl, (strI_small _ (by omega)).2, _, rfl, b2, _, rfl, b3, .ref p, rfl, p, C, dx, _, _, rfl, hp, T.cl, T.nS, bkF_shapesX a b, b, _, rfl, .inr hb, ?_⟩
    rw [hA.len]
    exact .inr ⟨_, rfl, (strI_small _ (by omega)).2, _, rfl, b4, _, rfl, b5, q⟩
end
/-! ### good books of lists or tuples: nothing is refused -/
def spInitG (K : PySem.W.Frag) (C : Addr) : Sp := fun vs H Q _ => ∃ (p dx a b : Addr) (cs : List Int) (xs : List V) (fs : List (List Tri)), vs = [.ref p, .ref a, .ref b] ∧ H p = some (.ins C dx []) ∧ SqA K H a (cs.map V.int) ∧ SqA K H b xs ∧ All2 (FigA K H) xs fs ∧ GoodC cs ∧ GoodB cs fs ∧ fs.length ≤ 12 ∧
  ∀ H', Off p H H' → BookAt K C H' p cs fs → Q .non H'
theorem bmakeG {K : PySem.W.Frag} {C : Addr} {H1 : Hp} {p d : Addr} {cs : List Int} {xs : List V} {fs : List (List Tri)} {Q : VK} {E : XK} (hp : SqA K H1 p (cs.map V.int)) (hd : SqA K H1 d xs) (hA : All2 (FigA K H1) xs fs) (hC : GoodC cs) (hG : GoodB cs fs) (hl : fs.length ≤ 12)
    {x dx : Addr} (nx : H1 x = none) (ndx : H1 dx = none) (nxd : dx ≠ x) (q : ∀ H', Same H1 H' → BookAt K C H' x cs fs → Q .non H') : spInitG K C [.ref x, .ref p, .ref d] (upd (upd H1 dx (.own x)) x (.ins C dx [])) Q E := by
  have v1 := same_upd (o := .own x) ndx
  have nx1 : (upd H1 dx (.own x)) x = none := by
    rw [upd_ne nxd.symm]
    exact nx
  have v2 := same_upd (o := .ins C dx []) nx1
  have v12 := v1.trans v2
  refine ⟨x, dx, p, d, cs, xs, fs, rfl, upd_same, hp.same v12, hd.same v12, hA.mono fun _ _ => FigA.same v12, hC, hG, hl, fun H' off hb => ?_⟩
  have s14 : Same H1 H' := fun bb oo ee => off bb oo (ne_of_none ee nx) (v12 _ _ ee)
  exact q H' s14 hb
def spShpG (K : PySem.W.Frag) (C : Addr) : Sp := fun vs H Q _ => ∃ (p : Addr) (cs : List Int) (fs : List (List Tri)) (i : Nat), vs = [.ref p, .int (i : Nat)] ∧ BookAt K C H p cs fs ∧ i < fs.length ∧ ∀ v, FigT K H v (fs.getD i []) → Q v H
section
variable {P : Program} {w : World} {K : PySem.W.Frag} {mg : Str → Option Value} {base : Heap}
theorem initGC {f C : Addr} {fd : FuncData} {k : Nat} {cm : Nat → Addr} (G : FnOk P w K mg base (L2.CX P w) k f fd ["self", "colours", "figures"] (spInitA K C cm)) : FnOk P w K mg base CX0 k f fd ["self", "colours", "figures"] (spInitG K C) := calm G fun vs H Q E h => by
  obtain ⟨p, dx, a, b, cs, xs, fs, rfl, hp, ha, hb, hA, hC, hG, hl, q⟩ := h
  refine ⟨p, dx, a, b, cs, xs, fs, rfl, hp, ha, hb, hA, hC.2.2, hG.all, by omega, fun e => absurd ⟨hC.1, hC.2.1⟩ e, fun _ e => absurd hl (by omega), fun _ _ => ⟨fun _ H' off hB => q H' off hB, fun i j hF => ?_⟩⟩
  obtain ⟨⟨h1, h2, h3⟩, _⟩ := hF
  rw [noneT_of hG.fwd i j h1 h2] at h3
  cases h3
theorem shpG {fS C CN : Addr} {fdS : FuncData} {k : Nat} (G : FnOk P w K mg base (L2.CX P w) k fS fdS ["self", "at"] (spShpX K C CN)) : FnOk P w K mg base CX0 k fS fdS ["self", "at"] (spShpG K C) := calm G fun vs H Q E h => by
  obtain ⟨p, cs, fs, i, rfl, hK, hi, q⟩ := h
  exact ⟨p, cs, fs, (i : Int), rfl, hK, fun j e hj v hv => q v (by rw [show i = j by omega]; exact hv), fun bad => absurd ⟨by omega, by omega⟩ bad⟩
end
/-! ### what stays where only lists change -/
def ChL (H H' : Hp) : Prop := ∀ a o, H a = some o → (∀ ys, o ≠ .lst ys) → H' a = some o
theorem ChL.refl (H : Hp) : ChL H H := fun _ _ h _ => h
theorem ChL.same {H H' : Hp} (s : Same H H') : ChL H H' := fun a o h _ => s a o h
theorem ChL.trans {H H1 H2 : Hp} (h : ChL H H1) (g : ChL H1 H2) : ChL H H2 := fun a o e n => g a o (h a o e n) n
theorem ChL.upd {H : Hp} {l : Addr} {ys : List V} {o : HO} (h : H l = some (.lst ys)) : ChL H (upd H l o) := fun a u e n => by
  rw [upd_ne (fun z => by rw [z, h] at e; exact n ys (Option.some.inj e).symm)]
  exact e
theorem ChL.off {H H' : Hp} {b c : Addr} (hB : Bag H b c) (o : Off b H H') : ChL H H' := fun a u e n => by
  obtain ⟨cells, x, r, s, h1, _⟩ := hB.ex
  exact o _ _ (fun z => by rw [z, h1] at e; exact n _ (Option.some.inj e).symm) e
theorem TS.ch {K : PySem.W.Frag} {H H' : Hp} (h : ChL H H') : TS K H H' := fun a xs q => by
  rcases q with (q | ⟨ob, q⟩) | q
  · exact .inl (.inl (h _ _ q fun _ z => nomatch z))
  · exact .inl (.inr ⟨ob, h _ _ q (fun _ z => nomatch z)⟩)
  · exact .inr q
theorem BookAt.ch {K : PySem.W.Frag} {C : Addr} {H H' : Hp} {q : Addr} {cs : List Int} {fs : List (List Tri)} (h : BookAt K C H q cs fs) (e : ChL H H') : BookAt K C H' q cs fs := by
  obtain ⟨dx, a, b', xs, h1, h2, h3, h4⟩ := h
  exact ⟨dx, a, b', xs, e _ _ h1 (fun _ z => nomatch z), TS.ch e _ _ h2, TS.ch e _ _ h3, h4.mono fun _ _ => FigT.ts (TS.ch e)⟩
theorem tabs_ch {T : List (Addr × Str)} {H H' : Hp} (t : LamX.Tabs T H) (e : ChL H H') : LamX.Tabs T H' := fun p hp => by
  obtain ⟨ps, h1, h2, h3⟩ := t p hp
  refine ⟨ps, e _ _ h1 (fun _ z => nomatch z), h2, fun pos cv hc => ?_⟩
  obtain ⟨c', e1, e2⟩ := h3 pos cv hc
  exact ⟨c', e1, e _ _ e2 (fun ys z => by unfold LamX.CodeO at z; cases z)⟩
/-! ### the law's own: _law_shape_text, _law_book_said; book_text -/
theorem emp_lit : ("" : Str) = Str.empty := by decide +kernel
abbrev sLST : Stmt := topS 65
abbrev nLST : List Str := ["_law_shape_here", "_law_words", "_law_pad", "_law_note", "_law_depth"]
theorem scLST : FnScope nLST ["_law_shape_here"] (defScope sLST) := ⟨rfl, rfl, rfl, by decide +kernel, rfl, by decide +kernel, by decide +kernel⟩
abbrev sLBS : Stmt := topS 66
abbrev nLBS : List Str := ["_law_colours", "_law_shapes_here", "_law_words", "_law_many", "_law_shape_here"]
theorem scLBS : FnScope nLBS ["_law_colours", "_law_shapes_here"] (defScope sLBS) := ⟨rfl, rfl, rfl, by decide +kernel, rfl, by decide +kernel, by decide +kernel⟩
def spLBS (K : PySem.W.Frag) : Sp := fun vs H Q _ => ∃ (a b : Addr) (cs : List Int) (xs : List V) (fs : List (List Tri)), vs = [.ref a, .ref b] ∧ SqL K H a (cs.map V.int) ∧ SqL K H b xs ∧ All2 (FigT K H) xs fs ∧ (∀ x ∈ cs, 0 ≤ x ∧ x < 1000) ∧ cs.length ≤ 100 ∧ (∀ f ∈ fs, (∀ t ∈ f, SmT t) ∧ f.length ≤ 20) ∧ fs.length ≤ 100 ∧ ∀ H', Same H H' → Q (.str (bookS cs fs)) H'
section
variable {P : Program} {w : World} {K : PySem.W.Frag} {mg : Str → Option Value} {base : Heap}
theorem ok_lst {f : Addr} {fd : FuncData} {k : Nat} (F : Fun K "_law_shape_text" "_law_shape_text" sLST f fd) (mst : mg "str" = none) : FnOk P w K mg base CX0 (k + 1) f fd ["_law_shape_here"] (spFigTx K) := by
  refine F.ok scLST (fun vs H Q E h => ?_) (fun cdv A outer s H vs Q E hr h => ?_)
  · obtain ⟨v, f, rfl, _⟩ := h
    rfl
  · obtain ⟨v, f, rfl, ⟨a, xs, rfl, ha, hxs⟩, hs, hl, q⟩ := h
    refine ⟨_, pss_cons (ps_set (i := 1) scLST.nd rfl (.inl rfl) (pe_lst pa_nil))
      (pss_cons (ps_for PassesOwn.never rfl (pi_tup (pv 0)) (pg_tup (by rfl) (pgs_cons (pg_name (i := 2) scLST.nd rfl (.inl rfl)) (pgs_cons (pg_name (i := 3) scLST.nd rfl (.inl rfl)) (pgs_cons (pg_name (i := 4) scLST.nd rfl (.inl rfl)) pgs_nil)))) (pss_one (ps_expr (pe_bm PySem.F.plainAttrs_list PySem.F.slot_list_append PySem.F.type_list_append mt_append (pv 1) (pa_cons (pe_op op_add_str (pe_op op_add_str (pe_op op_add_str (pe_callTy call_strI (by rfl) mst (by decide +kernel) (pa_cons (pv 2) pa_nil)) pe_str) (pe_callTy call_strI (by rfl) mst (by decide +kernel) (pa_cons (pv 3) pa_nil))) (pe_ifExp (pt_cmpR op_eq (pv 4) pe_int (nomark _)) (pe_str) (pe_op op_add_str pe_str (pe_callTy call_strI (by rfl) mst (by decide +kernel) (pa_cons (pv 4) pa_nil))))) pa_nil)))))
      (pss_one (ps_ret (pe_join pe_str (pv 1))))), ?_⟩
    refine ⟨Nat.zero_le _, fun D nD => ?_⟩
    have u := same_upd (o := .lst []) nD
    refine ⟨.ref a, rfl, a, rfl, ⟨_, Same.tup u ha⟩, for_tup (K := K) (a := a) (xs := xs) (fun i σ H' => ∃ y2 y3 y4, σ = [some (.ref a), some (.ref D), y2, y3, y4] ∧ Same H H' ∧ H' D = some (.lst (((f.take i).map trS).map V.str))) ⟨_, _, _, rfl, u, upd_same⟩ (fun i σ H' _ hP => ?_) (fun i x σ H' hx hP => ?_) (fun σ H' hP => ?_)⟩
    · obtain ⟨_, _, _, _, sm, _⟩ := hP
      exact Same.tup sm ha
    · obtain ⟨y2, y3, y4, rfl, sm, hD⟩ := hP
      obtain ⟨t, ht, tp, rfl, htp⟩ := hxs.get hx
      have st := hs t (List.mem_of_getElem? ht)
      obtain ⟨a1, a2⟩ := strI_sm st.p
      obtain ⟨b1, b2⟩ := strI_sm st.n
      obtain ⟨c1, c2⟩ := strI_sm st.d
      have k2 : (strI t.1 ++ (":" : Str)).length ≤ 5 := by rw [str_app_len, colon_len]; omega
      have k3 : ((strI t.1 ++ (":" : Str)) ++ strI t.2.1).length ≤ 9 := by rw [str_app_len]; omega
      refine ⟨tp, triV t, rfl, Same.tup sm htp, rfl, _, _, rfl, _, _, rfl, _, _, rfl, rfl, ?_⟩
      refine ⟨.ref D, rfl, .inl ⟨rfl, _, SqL.of hD⟩, .int t.1, rfl, t.1, rfl, a2, _, _, rfl, rfl, small_str (by rw [colon_len]; omega), .int t.2.1, rfl, t.2.1, rfl, b2, _, _, rfl, rfl, small_str (by omega), .int t.2.2, rfl, rfl, _, rfl, ?_⟩
      have hdl : (((f.take i).map trS).map V.str).length < sizeLine := by
        rw [List.length_map, List.length_map, List.length_take]
        exact small1000 (by omega)
      have hfin : ∀ z : Str, z = trS t → (upd H' D (.lst (((f.take i).map trS).map V.str ++ [V.str z]))) D = some (.lst (((f.take (i + 1)).map trS).map V.str)) := fun z e => by
        rw [upd_same, take_snoc ht, List.map_append, List.map_append, e]
        rfl
      by_cases e : t.2.2 = 1
      · rw [decide_eq_true (show V.int t.2.2 = V.int 1 by rw [e])]
        refine iteT ⟨_, _, rfl, rfl, small_str (by rw [emp_lit, emp_len]; omega), D, _, _, rfl, rfl, hD, hdl, _, _, _, rfl, Same.offUpd sm nD, hfin _ ?_⟩
        unfold trS
        rw [if_pos e, emp_lit]
      · rw [decide_eq_false (show ¬ V.int t.2.2 = V.int 1 from fun z => e (V.int.inj z))]
        have k4 : (("*" : Str) ++ strI t.2.2).length ≤ 5 := by rw [str_app_len, star_len]; omega
        refine iteF ⟨.int t.2.2, rfl, t.2.2, rfl, c2, _, _, rfl, rfl, small_str (by rw [star_len]; omega), _, _, rfl, rfl, small_str (by omega), D, _, _, rfl, rfl, hD, hdl, _, _, _, rfl, Same.offUpd sm nD, hfin _ ?_⟩
        unfold trS
        rw [if_neg e]
    · obtain ⟨y2, y3, y4, rfl, sm, hD⟩ := hP
      rw [hxs.len, List.take_length] at hD
      exact ⟨⟨_, rfl⟩, .ref D, rfl, _, D, f.map trS, rfl, rfl, .inl (SqL.of hD), Nat.le_trans (figS_sum hs hl) (by decide), q _ sm⟩
theorem ok_lbs {f fT : Addr} {fd fdT : FuncData} {k : Nat} (F : Fun K "_law_book_said" "_law_book_said" sLBS f fd) (mst : mg "str" = none)
    (FT : Fun K "_law_shape_text" "_law_shape_text" sLST fT fdT) (bT : Binds K fdT ["_law_shape_here"] []) (gT : mg "_law_shape_text" = some (.ref fT)) (GT : FnOk P w K mg base CX0 k fT fdT ["_law_shape_here"] (spFigTx K)) : FnOk P w K mg base CX0 (k + 1) f fd ["_law_colours", "_law_shapes_here"] (spLBS K) := by
  refine F.ok scLBS (fun vs H Q E h => ?_) (fun cdv A outer s H vs Q E hr h => ?_)
  · obtain ⟨a, b, cs, xs, fs, rfl, _⟩ := h
    rfl
  · obtain ⟨a, b, cs, xs, fs, rfl, ha, hb, hA, hcs, hcl, hfs, hfl, q⟩ := h
    refine ⟨_, pss_cons (ps_set (i := 2) scLBS.nd rfl (.inl rfl) (pe_op op_cat (pe_lst (pa_cons (pe_join pe_str (pe_lc (own := [("_law_many", 3)]) (g := gName 3) (tt := tYes) rfl scLBS.nd (pi_list (pv 0)) (blkOk_by (own := [("_law_many", 3)]) (N := nLBS) (sc := defScope sLBS) (by decide +kernel)) (fun _ _ _ _ _ => pg_name (i := 3) scLBS.nd rfl (.inl rfl)) (fun _ _ _ _ _ => pts_nil) (fun _ _ _ _ _ => pe_callTy (r := rStrI) call_strI (by rfl) mst (by decide +kernel) (pa_cons (pv 3) pa_nil)))) pa_nil)) (pe_lc (own := [("_law_shape_here", 4)]) (g := gName 4) (tt := tYes) rfl scLBS.nd (pi_list (pv 1)) (blkOk_by (own := [("_law_shape_here", 4)]) (N := nLBS) (sc := defScope sLBS) (by decide +kernel)) (fun _ _ _ _ _ => pg_name (i := 4) scLBS.nd rfl (.inl rfl)) (fun _ _ _ _ _ => pts_nil) (fun _ _ _ _ _ => pe_call GT hr (by rfl) gT FT.kp bT .nil pass0 (pa_cons (pv 4) pa_nil)))))
      (pss_one (ps_ret (pe_join pe_str (pv 2)))), ?_⟩
    refine ⟨⟨_, rfl⟩, .ref a, rfl, a, rfl, ⟨_, ha⟩, fun D0 nD0 => ?_⟩
    refine lc_list (K := K) (a := a) (xs := cs.map V.int) (fun i H' => Same H H' ∧ H' D0 = some (.lst (((cs.take i).map strI).map V.str))) ⟨same_upd nD0, upd_same⟩ (fun i H' _ hP => hP.1.seq ha) (fun i x H' hx hP => ?_) (fun H1 hP => ?_)
    · obtain ⟨sm, hD⟩ := hP
      rw [List.getElem?_map] at hx
      cases hz : cs[i]? with
      | none => rw [hz] at hx; cases hx
      | some z =>
        rw [hz] at hx
        obtain rfl := Option.some.inj hx
        refine ⟨rfl, yesT ⟨_, rfl, z, rfl, (strI_sm (hcs z (List.mem_of_getElem? hz))).2, _, hD, ?_, Same.offUpd sm nD0, ?_⟩⟩
        · rw [List.length_map, List.length_map, List.length_take]
          exact small1000 (by omega)
        · rw [upd_same, take_snoc hz, List.map_append, List.map_append]
          rfl
    obtain ⟨s1, hD0⟩ := hP
    rw [List.length_map, List.take_length] at hD0
    refine ⟨_, D0, cs.map strI, rfl, rfl, .inl (SqL.of hD0), Nat.le_trans (colS_sum hcs hcl) (by decide), (show (1 : Nat) ≤ sizeLine by decide), fun l nl => ?_⟩
    have u1 := same_upd (o := .lst [V.str (colS cs)]) nl
    have hl : (upd H1 l (.lst [V.str (colS cs)])) l = some (.lst [V.str (colS cs)]) := upd_same
    have s2 := s1.trans u1
    show _
    refine ⟨.ref b, rfl, b, rfl, ⟨_, s2.seq hb⟩, fun D nD => ?_⟩
    refine lc_list (K := K) (a := b) (xs := xs) (fun i H' => Same (upd H1 l (.lst [V.str (colS cs)])) H' ∧ H' D = some (.lst (((fs.take i).map figS).map V.str))) ⟨same_upd nD, upd_same⟩ (fun i H' _ hP => (s2.trans hP.1).seq hb) (fun i x H' hx hP => ?_) (fun H3 hP => ?_)
    · obtain ⟨sm, hD⟩ := hP
      obtain ⟨g, hg, hgT⟩ := hA.get hx
      obtain ⟨g1, g2⟩ := hfs g (List.mem_of_getElem? hg)
      refine ⟨rfl, yesT ⟨x, rfl, x, g, rfl, hgT.ts (TS.of (s2.trans sm)), g1, g2, fun H4 s4 => ⟨_, s4 _ _ hD, ?_, Same.offUpd (sm.trans s4) nD, ?_⟩⟩⟩
      · rw [List.length_map, List.length_map, List.length_take]
        exact small1000 (by omega)
      · rw [upd_same, take_snoc hg, List.map_append, List.map_append]
        rfl
    · obtain ⟨sm, hD⟩ := hP
      rw [hA.len, List.take_length] at hD
      refine ⟨l, D, _, _, rfl, rfl, sm _ _ hl, hD, Nat.le_of_lt (small1000 (by rw [List.length_map, List.length_map]; show 1 + _ ≤ _; omega)), fun l2 nl2 => ?_⟩
      have u := same_upd (o := .lst ([V.str (colS cs)] ++ (fs.map figS).map V.str)) nl2
      refine ⟨⟨_, rfl⟩, .ref l2, rfl, _, l2, colS cs :: fs.map figS, rfl, rfl, .inl (SqL.of upd_same), Nat.le_trans (bookS_sum hcs hcl hfs hfl) (by decide), q _ ((s2.trans sm).trans u)⟩
end
abbrev sBTx : Stmt := topS 52
theorem scBTx : FnScope ["book"] ["book"] (defScope sBTx) := ⟨rfl, rfl, rfl, by decide +kernel, rfl, by decide +kernel, by decide +kernel⟩
section
variable {P : Program} {w : World} {K : PySem.W.Frag} {mg : Str → Option Value} {base : Heap}
theorem ok_btx {f C fS : Addr} {fd fdS : FuncData} {k : Nat} (F : Fun K "book_text" "book_text" sBTx f fd) (TS : StrTxt K C fS) (bS : Binds K fdS ["self"] []) (GS : FnOk P w K mg base CX0 k fS fdS ["self"] (spBStr K C)) (mst : mg "str" = none) : FnOk P w K mg base CX0 (k + 3) f fd ["book"] (spBStr K C) := by
  refine F.ok scBTx (fun vs H Q E h => ?_) (fun cdv A outer s H vs Q E hr h => ?_)
  · obtain ⟨p, cs, fs, rfl, _⟩ := h
    rfl
  · obtain ⟨p, cs, fs, rfl, hB, hcs, hcl, hfs, hfl, q⟩ := h
    obtain ⟨dx, a, b, xs, hp, _⟩ := id hB
    refine ⟨_, pss_one (ps_ret (pe_callTy (call_strOwn TS.str TS.fn GS bS pass0 hr) (by rfl) mst (by decide +kernel) (pa_cons (pv 0) pa_nil))), ?_⟩
    exact ⟨.ref p, rfl, p, dx, _, rfl, hp, p, cs, fs, rfl, hB, hcs, hcl, hfs, hfl, fun H' s' => ⟨_, rfl, q H' s'⟩⟩
end
/-! ### a test «a if c else b»; list(..) with its reading by name -/
def rLof (K : PySem.W.Frag) : List V → Hp → VK → Prop := fun xs H Q => ∃ p ys, xs = [.ref p] ∧ (SqL K H p ys ∨ SqT K H p ys) ∧ ∀ l, H l = none → Q (.ref l) (upd H l (.lst ys))
def tIfT (tc ta tb : TT) : TT := fun σ H Q => tc σ H fun k H1 => if k = true then ta σ H1 Q else tb σ H1 Q
section
variable {X : Cx}
theorem call_listK : CallR X (.type "list") (rLof X.K) := call_list_of
theorem pt_ifE {c a b : Expr} {tc ta tb : TT} {pos : Pos} (hc : PT X c tc) (ha : PT X a ta) (hb : PT X b tb) : PT X (.IfExp c a b pos) (tIfT tc ta tb) := ⟨fun pins s σ H Q I h => by
  rw [arm_isTrue_IfExp]
  refine wpAny_bind (thn (hc.run pins s σ H _ I h) fun d s1 ⟨H1, I1, q1⟩ => ?_)
  cases d with
  | true => exact ha.run pins s1 σ H1 Q I1 q1
  | false => exact hb.run pins s1 σ H1 Q I1 q1⟩
end
/-! ### a lambda that is handed on: x(lambda: body, e), x hands it to the def that calls it -/
section
open LamX
variable {X : Cx} {pins : List (Addr × Obj)} {σ : L2.St} {H : Hp} {s : Shared}
/-- a(), in a def entered at s0 from the frames outer', which lie over those of the lambda's maker -/
theorem pe_act2 {CXg : CXT} {Eg : XK} {Ng : List Str} {qg : Str} {sg : Scope} {g f c' : Addr} {cdg pm ctv : Value} {params : Arguments} {body : Expr} {scope : Scope} {k i : Nat} {a : Str} {pn : List (Addr × Obj)} {xe : Value → Shared → Prop} {W : WX} {E : XK} {tb : TE} {p1 p2 : Pos}
    {A' : Around} {outer' : List Env} {s0 : Shared} {H0 : Hp} (I : Inv X pins σ H s) (L : LamS X.env.scope scope) (of0 : s0.heap.get? f = some (PySem.W.kla_obj "<lambda>" (X.env.qual ++ "<lambda>") params body scope (cloFrom X.env.cells scope.names []) pm c' ctv)) (hfn : H0 f = none) (hfr : f ∉ frs outer')
    (hun : ∀ (sZ : Shared) (HZ : Hp), Un (frs outer') [] H0 HZ s0.heap sZ.heap → HOk X.prog X.w HZ sZ.heap → AllBare sZ.gens → sZ.os = s0.os → Un (frs X.stack) [] H HZ s.heap sZ.heap)
    (hbind : bindArgs (PySem.W.kla_fn "<lambda>" (X.env.qual ++ "<lambda>") params body scope (cloFrom X.env.cells scope.names []) pm (.ref c') ctv) ⟨[], []⟩ = pure [])
    (tk : Takes ((cxOf CXg X.prog X.w X.K X.mg X.base Ng qg sg g cdg A' outer' s0 H0 Eg).tr pn xe) W) (hW : ∀ cls d σ' H', E cls d H' → W cls d σ' H') (hr : Room (k + 1) (A'.deeper (envOfC qg sg s0.heap.objs.size g cdg)))
    (hbody : ∀ (A : Around) (outer : List Env) (s : Shared) (H : Hp), Room k (A.deeper (lamEnv X scope s.heap.objs.size f c')) → PE (lamCx X A outer s H E scope f c') body tb)
    (hN : Ng[i]? = some a) (hv : Vis sg a) (hd : (a == ("__debug__" : Str)) = false := by decide) (hcd : (a == ("__classdict__" : Str)) = false := by decide) :
    PE ((cxOf CXg X.prog X.w X.K X.mg X.base Ng qg sg g cdg A' outer' s0 H0 Eg).tr pn xe) (.Call (.Name a p1) [] [] p2)
      (fun σZ HZ Q => σZ[i]? = some (some (.ref f)) ∧ HZ c' = some (CodeO c' (X.env.qual ++ "<lambda>")) ∧ tb σ HZ Q) := by
  refine ⟨fun pinsZ sZ σZ HZ Q IZ h => ?_⟩
  obtain ⟨hs, hc, ht⟩ := h
  refine wpAny_Call_Name_kw (thn ((pe_var (pos := p1) (i := i) hN hv hd hcd).run pinsZ sZ σZ HZ (fun v H1 => v = .ref f ∧ H1 = HZ) IZ ⟨.ref f, hs, rfl, rfl⟩) fun u s1 z => ?_)
  obtain ⟨v, H1, I1, r1, rfl, rfl⟩ := z
  obtain rfl : u = Value.ref f := r1
  have of1 := I1.base.keep f _ of0 hfn hfr (fun z => nomatch (show f ∈ ([] : List Addr) from z))
  refine PySem.W.callWith_F0 ⟨_, _, _, _, of1⟩ ?_
  have un : Un (frs X.stack) [] H H1 s.heap s1.heap := hun s1 H1 I1.base I1.hok I1.bare I1.os
  obtain ⟨⟨oc, vs, t, hoc, hdc, hvc⟩, _, _⟩ := I1.hok c' _ hc
  have hx : Passes (L2.CX X.prog X.w) ((cxOf CXg X.prog X.w X.K X.mg X.base Ng qg sg g cdg A' outer' s0 H0 Eg).tr pn xe) E := passes_call tk hW
  have rc : codeAny (model X.prog X.w) (A'.deeper (envOfC qg sg s0.heap.objs.size g cdg)) (.call (.ref f) ⟨[], []⟩) (CR (L2.CX X.prog X.w) (envOfC qg sg s0.heap.objs.size g cdg :: outer') X.prog X.w H1 s1 Q E) s1 := by
    refine PySem.W.kla_callFunE hr.depth of1 rfl L.co L.gen rfl ⟨c', oc, vs, t, rfl, hoc, hdc, hvc⟩ ?_
    rw [hbind]
    refine wpAny_pure (wpAny_newFunctionEnv (fun y hy => (L.own y hy).2) (fun y hy => absurd hy (by simp)) (fun h₁ hns hsb => ⟨I1.nolimit.fresh _ hsb, ?_⟩) L.kind)
    show codeAny _ _ (.expr body (lamEnv X scope s1.heap.objs.size f c')) _ _
    have kp : ∀ b o, s1.heap.get? b = some o → h₁.get? b = some o := fun b o e => hsb.extBut b o (Nat.ne_of_lt (Heap.lt_size e)) (Heap.get?_push_of_some _ e)
    have J := lam_start2 (tk := s1.toks + ([] : List (Str × Value)).length) (E := E) (f := f) (c' := c') I L I1.env0 hr.hd un hns kp
    refine PySem.W.kla_codeExpr (wpAny_mono ((hbody _ _ s1 H1 (hr.deeper _)).run [] _ _ H1 Q J ht) (fun v s' hq => ?_) fun e s' hq => hq)
    obtain ⟨w', H', J', rv, q⟩ := hq
    exact ⟨w', H', J'.os, J'.bare, J'.base, J'.hok, rv, q⟩
  refine wpAny_call (codeAny_mono rc fun r s' hq => ?_)
  cases r with
  | error e => exact hx pinsZ σZ H1 s1 e s' I1 hq
  | ok fl =>
    cases fl with
    | ret u => exact I1.after hq
    | next => exact False.elim hq
    | brk => exact False.elim hq
    | cont => exact False.elim hq
end
section
open LamX
variable {X : Cx} {pins : List (Addr × Obj)} {σ : L2.St} {H : Hp} {s : Shared}
theorem kla_notCell {x q : Str} {pa : Arguments} {b : Expr} {sc : Scope} {cl : List (Str × Addr)} {pm cv : Value} {c : Addr} : ∀ v, (PySem.W.kla_obj x q pa b sc cl pm c cv).data ≠ .cell v := fun v z => nomatch z
theorem visTried : Vis (defScope sTried) "_law_act" := .inl rfl
/-- _law_tried(a), in a def that got the lambda from its maker: Z is that def's context -/
theorem pe_hand {cm : Nat → Addr} {N1 : List Str} {x1 a1 : Str} {sg1 : Scope} {g1 gT f c' : Addr} {cd1 pm ctv : Value} {fdT : FuncData} {params : Arguments} {body : Expr} {scope : Scope} {k : Nat} {t : XK → TE} {p p' pos : Pos}
    (I : Inv X pins σ H s) (L : LamS X.env.scope scope) (hf : s.heap.get? f = some (PySem.W.kla_obj "<lambda>" (X.env.qual ++ "<lambda>") params body scope (cloFrom X.env.cells scope.names []) pm c' ctv)) (hfn : H f = none) (hfr : f ∉ frs X.stack)
    (hbind : ∀ (q : Str) (cl : List (Str × Addr)) (pm cv ctv : Value), bindArgs (PySem.W.kla_fn "<lambda>" q params body scope cl pm cv ctv) ⟨[], []⟩ = pure [])
    (hbody : ∀ (A : Around) (outer : List Env) (s : Shared) (H : Hp) (E : XK) (f c' : Addr), Room k (A.deeper (lamEnv X scope s.heap.objs.size f c')) → PE (lamCx X A outer s H E scope f c') body (t E))
    (T : RefsT X.K X.mg cm) (FT : Fun X.K "_law_tried" "_law_tried" sTried gT fdT) (mT : X.mg "_law_tried" = some (.ref gT)) (bT : L2.Binds X.K fdT ["_law_act"] []) (hr : Room (k + 2) (X.A.deeper (envOfC x1 sg1 s.heap.objs.size g1 cd1)))
    (hgT : sg1.names.lookup ("_law_tried" : Str) = some NameKind.globalImplicit) (hN : N1[0]? = some a1) (hv : Vis sg1 a1) (hd : (a1 == ("__debug__" : Str)) = false := by decide) (hcd : (a1 == ("__classdict__" : Str)) = false := by decide) :
    PE (cxOf C8.CX0 X.prog X.w X.K X.mg X.base N1 x1 sg1 g1 cd1 X.A X.stack s H C8.E0).nox (.Call (.Name "_law_tried" p) [.Name a1 p'] [] pos)
      (fun σ1 H1 Q => σ1[0]? = some (some (.ref f)) ∧ H1 c' = some (CodeO c' (X.env.qual ++ "<lambda>")) ∧ TTried cm (fun E H' Q' => t E σ H' Q') H1 Q) := by
  refine ⟨fun pinsZ sZ σZ HZ Q IZ h => ?_⟩
  obtain ⟨h1, h2, h3⟩ := h
  refine wpAny_Call_Name_kw (ld_glob IZ hgT mT ?_)
  refine PySem.W.callWith_K (h₀ := X.base) IZ.ok.mod.kin FT.kp (thn ((pa_cons (pe_var (pos := p') (i := 0) hN hv hd hcd) pa_nil).run pos pinsZ sZ σZ HZ (fun vs H1 => vs = [.ref f] ∧ H1 = HZ) IZ ⟨.ref f, h1, rfl, rfl⟩) fun us s1 z => ?_) (by rfl) (by rfl)
  obtain ⟨vs, H1, I1, r1, rfl, rfl⟩ := z
  refine ⟨I1.kIn, ?_⟩
  obtain ⟨oc, od, kV, doc, pmT, an, cdv, ct, osl, rfl, lk, hcg⟩ := FT.ex
  have of0 := I1.base.keep f _ hf hfn hfr (fun z => nomatch (show f ∈ ([] : List Addr) from z))
  have hfn0 : H1 f = none := I1.base.free f _ hf hfn (fun z => nomatch (show f ∈ ([] : List Addr) from z))
  have hfr0 : f ∉ frs (envOfC x1 sg1 s.heap.objs.size g1 cd1 :: X.stack) := fun z => by
    obtain ⟨e, he, q⟩ := List.mem_filterMap.mp z
    rcases List.mem_cons.mp he with e1 | e1
    · subst e1
      have q' : some s.heap.objs.size = some f := q
      have l := Heap.lt_size hf
      rw [← Option.some.inj q'] at l
      exact Nat.lt_irrefl _ l
    · exact hfr (List.mem_filterMap.mpr ⟨e, e1, q⟩)
  have hun : ∀ (sZ : Shared) (HZ : Hp), Un (frs (envOfC x1 sg1 s.heap.objs.size g1 cd1 :: X.stack)) [] H1 HZ s1.heap sZ.heap → HOk X.prog X.w HZ sZ.heap → AllBare sZ.gens → sZ.os = s1.os → Un (frs X.stack) [] H HZ s.heap sZ.heap :=
    fun sZ' HZ' u1 u2 u3 u4 => (I1.call' (ch := []) u4 u1 u2 u3 (fun b z => absurd z (by simp))).base
  have rc : codeAny (model X.prog X.w) (X.A.deeper (envOfC x1 sg1 s.heap.objs.size g1 cd1)) (.call (.ref gT) ⟨us, []⟩) (CR C8.CX0 (envOfC x1 sg1 s.heap.objs.size g1 cd1 :: X.stack) X.prog X.w H1 s1 Q C8.E0) s1 := by
    have bb : BindsTo s1 (PySem.W.fnOf "_law_tried" "_law_tried" (defArgs sTried) (defBody sTried) (defScope sTried) .none kV doc pmT an cdv ct) ⟨us, []⟩ ((["_law_act"] : List Str).zip us) := by
      have hl : (us ++ []).length = (["_law_act"] : List Str).length := by
        rw [List.append_nil, ← r1.length]
        rfl
      have z := bT s1 us I1.kIn hl
      rw [List.append_nil] at z
      exact z
    refine run_ofS (N := nTried) (ps := ["_law_act"]) (us := us) (vs := [.ref f]) (k := k + 1) lk hcg scTried hr I1.env0 bb r1 rfl fun hr' => ?_
    have act : ∀ (W : WX) (pn : List (Addr × Obj)) (xe : Value → Shared → Prop) (E : XK) (p1 p2 : Pos), Takes ((cxOf C8.CX0 X.prog X.w X.K X.mg X.base nTried "_law_tried" (defScope sTried) gT cdv (X.A.deeper (envOfC x1 sg1 s.heap.objs.size g1 cd1)) (envOfC x1 sg1 s.heap.objs.size g1 cd1 :: X.stack) s1 H1 C8.E0).tr pn xe) W → (∀ cls d σ' H', E cls d H' → W cls d σ' H') →
        PE ((cxOf C8.CX0 X.prog X.w X.K X.mg X.base nTried "_law_tried" (defScope sTried) gT cdv (X.A.deeper (envOfC x1 sg1 s.heap.objs.size g1 cd1)) (envOfC x1 sg1 s.heap.objs.size g1 cd1 :: X.stack) s1 H1 C8.E0).tr pn xe) (.Call (.Name "_law_act" p1) [] [] p2)
          (fun σZ HZ Q => σZ[0]? = some (some (.ref f)) ∧ HZ c' = some (CodeO c' (X.env.qual ++ "<lambda>")) ∧ t E σ HZ Q) := fun W pn xe E p1 p2 tk hW =>
      pe_act2 (i := 0) (A' := X.A.deeper (envOfC x1 sg1 s.heap.objs.size g1 cd1)) (outer' := envOfC x1 sg1 s.heap.objs.size g1 cd1 :: X.stack) (s0 := s1) (H0 := H1) (k := k) I L of0 hfn0 hfr0 hun (hbind _ _ _ _ _) tk hW hr' (fun A outer s H hr2 => hbody A outer s H E f c' hr2) rfl visTried
    obtain ⟨t', ht', hq'⟩ := tried_gives (X := cxOf C8.CX0 X.prog X.w X.K X.mg X.base N1 x1 sg1 g1 cd1 X.A X.stack s H C8.E0) (g := gT) (cdg := cdv) (q := X.env.qual ++ "<lambda>") T f c' s1 H1 Q (fun E H' Q' => t E σ H' Q') act h2 h3
    exact ⟨t', ht'.nox, hq'⟩
  refine wpAny_call (codeAny_mono rc fun r s' hq => ?_)
  cases r with
  | error e => exact (show False from hq).elim
  | ok fl =>
    cases fl with
    | ret u => exact I1.after hq
    | next => exact False.elim hq
    | brk => exact False.elim hq
    | cont => exact False.elim hq
end
/-! ### _law_is(lambda: body, e) -/
abbrev sIs : Stmt := topS 64
abbrev nIs : List Str := ["_law_act", "_law_due"]
theorem scIs : FnScope nIs ["_law_act", "_law_due"] (defScope sIs) := ⟨rfl, rfl, rfl, by decide +kernel, rfl, by decide +kernel, by decide +kernel⟩
theorem visIs : Vis (defScope sIs) "_law_act" := .inl rfl
/-- T: the tables of code objects; te: e's reading; t: the lambda's -/
def tIs (K : PySem.W.Frag) (T : List (Addr × Str)) (cm : Nat → Addr) (n : Nat) (te : TE) (t : XK → TE) : TE := fun σ H Q => LamX.Tabs T H ∧ ∀ H1, LamX.ExtN H H1 → LamX.Tabs T H1 → te σ H1 fun y H2 => LamX.ExtN H1 H2 ∧
  ∀ Q' : VK, (∀ v H3, spLike K n [v, y] H3 Q (fun _ _ _ => False) → Q' v H3) → TTried cm (fun E H' Q'' => t E σ H' Q'') H2 Q'
section
open LamX
variable {X : Cx}
theorem pe_is {T : List (Addr × Str)} {cm : Nat → Addr} {g gT gL c P : Addr} {fd fdT fdL : FuncData} {k n : Nat} {params : Arguments} {body e : Expr} {scope : Scope} {t : XK → TE} {te : TE} {p lpos pos : Pos}
    (FI : Fun X.K "_law_is" "_law_is" sIs g fd) (hm : X.mg "_law_is" = some (.ref g)) (hb : L2.Binds X.K fd ["_law_act", "_law_due"] []) (hg : Gl X "_law_is")
    (RT : RefsT X.K X.mg cm) (FT : Fun X.K "_law_tried" "_law_tried" sTried gT fdT) (mT : X.mg "_law_tried" = some (.ref gT)) (bT : L2.Binds X.K fdT ["_law_act"] [])
    (FL : Fun X.K "_law_like" "_law_like" sLike gL fdL) (mL : X.mg "_law_like" = some (.ref gL)) (bL : L2.Binds X.K fdL ["_law_one", "_law_due"] []) (GL : FnOk X.prog X.w X.K X.mg X.base CX0 (k + 2) gL fdL ["_law_one", "_law_due"] (spLike X.K n))
    (hs : X.stack = X.env :: X.outer) (tb : TabB X.base X.mg c P) (hcode : X.env.code = .ref c) (hmT : (P, X.env.qual ++ "<lambda>") ∈ T) (hu : ∀ p ∈ T, p.1 = P → p.2 = X.env.qual ++ "<lambda>") (hr : Room (k + 3) X.A) (L : LamS X.env.scope scope) (hdef : defaultsOf params X.env = ([], []))
    (hbind : ∀ (q : Str) (cl : List (Str × Addr)) (pm cv ctv : Value), bindArgs (PySem.W.kla_fn "<lambda>" q params body scope cl pm cv ctv) ⟨[], []⟩ = pure [])
    (hbody : ∀ (A : Around) (outer : List Env) (s : Shared) (H : Hp) (E : XK) (f c' : Addr), Room k (A.deeper (lamEnv X scope s.heap.objs.size f c')) → PE (lamCx X A outer s H E scope f c') body (t E))
    (he : PE X e te) (hst : starEach [e] X.env = (false, eval e X.env) :: starEach [] X.env := by rfl) :
    PE X (.Call (.Name "_law_is" p) [.Lambda params body scope lpos, e] [] pos) (tIs X.K T cm n te t) := by
  refine ⟨fun pins s σ H Q I h => ?_⟩
  obtain ⟨hT, h⟩ := h
  refine wpAny_Call_Name_kw (ld_glob I hg hm ?_)
  refine PySem.W.callWith_K (h₀ := X.base) I.ok.mod.kin FI.kp ?_ (by rfl) (by rw [hst]; rfl)
  show wpAny _ _ (spliced ((false, eval (.Lambda params body scope lpos) X.env) :: backTo pos (starEach [e] X.env))) _ _ s
  refine Calls.spliced_cons (lam_make2 I tb hcode hmT hu hT hdef (L.has I.ok) fun f c' pm' ctv H1 s' I1 eN T1 hf hfn hfr hco => ?_)
  have nL : f ≠ X.env.locals := fun z => by
    obtain ⟨m, ⟨ob, es, ep, ho, hd, _⟩, _⟩ := I1.loc
    rw [← z, hf] at ho
    have z2 := Option.some.inj ho
    rw [← z2] at hd
    cases hd
  have nF : f ∉ X.fs := fun z => hfr (by
    obtain ⟨en, e1, e2⟩ := List.mem_filterMap.mp z
    rw [hs]
    exact List.mem_filterMap.mpr ⟨en, List.mem_cons_of_mem _ e1, e2⟩)
  have J1 : Inv X ((f, PySem.W.kla_obj "<lambda>" (X.env.qual ++ "<lambda>") params body scope (cloFrom X.env.cells scope.names []) pm' c' ctv) :: pins) σ H1 s' := I1.pins_of fun r hr' => by
    rcases List.mem_cons.mp hr' with z | z
    · rw [z]
      exact ⟨hf, hfn, nL, nF, kla_notCell⟩
    · exact I1.pin r (List.mem_append_right _ z)
  rw [hst]
  refine Calls.spliced_cons (thn (he.run _ s' σ H1 _ J1 (h H1 eN T1)) fun u s2 z => ?_)
  obtain ⟨y, H2, J2, ry, eN2, q⟩ := z
  have hf2 := ClX.pin_at J2
  have hfn2 := ClX.pin_un J2
  have I2 := ClX.unpin J2
  have hco2 : H2 c' = some (CodeO c' (X.env.qual ++ "<lambda>")) := eN2 _ _ hco codeO_ne
  refine Calls.spliced_nil ⟨I2.kIn, ?_⟩
  obtain ⟨oc, od, kV, doc, pmT, an, cdv, ct, osl, rfl, lk, hcg⟩ := FI.ex
  have rc : codeAny (model X.prog X.w) X.A (.call (.ref g) ⟨[.ref f, u], []⟩) (CR C8.CX0 X.stack X.prog X.w H2 s2 Q C8.E0) s2 := by
    refine run_ofS (N := nIs) (ps := ["_law_act", "_law_due"]) (us := [.ref f, u]) (vs := [.ref f, y]) (k := k + 2) lk hcg scIs hr I2.env0 (hb s2 [.ref f, u] I2.kIn rfl) (.cons rfl (.cons ry .nil)) rfl fun hr' => ?_
    refine ⟨_, PSs.nox (pss_one (ps_ret (pe_call GL hr' (by rfl) mL FL.kp bL .nil pass0 (pa_cons (pe_hand (cm := cm) (N1 := nIs) (x1 := "_law_is") (a1 := "_law_act") (sg1 := defScope sIs) (g1 := g) (cd1 := cdv) (t := t) (k := k) I2 L hf2 hfn2 hfr hbind hbody RT FT mT bT hr' rfl rfl visIs) (pa_cons (pv 1) pa_nil))))), ?_⟩
    exact ⟨rfl, hco2, q _ fun v H3 z => ⟨y, rfl, z⟩⟩
  refine wpAny_call (codeAny_mono rc fun r s3 hq => ?_)
  cases r with
  | error e => exact (show False from hq).elim
  | ok fl =>
    cases fl with
    | ret u => exact I2.after hq
    | next => exact False.elim hq
    | brk => exact False.elim hq
    | cont => exact False.elim hq
end
/-! ### what stays where a lambda was made -/
theorem bag_lst {H : Hp} {b c : Addr} (h : Bag H b c) : ∃ l, H b = some (.lst l) := by
  obtain ⟨cells, a, r, s, h1, _⟩ := h.ex
  exact ⟨_, h1⟩
theorem tabs_off {T : List (Addr × Str)} {H H' : Hp} {b c : Addr} (t : LamX.Tabs T H) (hB : Bag H b c) (o : Off b H H') : LamX.Tabs T H' := fun p hp => by
  obtain ⟨l, hl⟩ := bag_lst hB
  obtain ⟨ps, h1, h2, h3⟩ := t p hp
  refine ⟨ps, o _ _ (fun z => by rw [z, hl] at h1; cases h1) h1, h2, fun pos cv hc => ?_⟩
  obtain ⟨c', e1, e2⟩ := h3 pos cv hc
  exact ⟨c', e1, o _ _ (fun z => by rw [z, hl] at e2; unfold LamX.CodeO at e2; cases e2) e2⟩
theorem sqT_ext {K : PySem.W.Frag} {H H' : Hp} {a : Addr} {xs : List V} (h : SqT K H a xs) (o : LamX.ExtN H H') : SqT K H' a xs := by
  rcases h with (q | ⟨ob, q⟩) | q
  · exact .inl (.inl (o _ _ q fun _ z => nomatch z))
  · exact .inl (.inr ⟨ob, o _ _ q (fun _ z => nomatch z)⟩)
  · exact .inr q
theorem TS.ext {K : PySem.W.Frag} {H H' : Hp} (o : LamX.ExtN H H') : TS K H H' := fun _ _ h => sqT_ext h o
theorem bag_ext {H H' : Hp} {b c : Addr} (h : Bag H b c) (o : LamX.ExtN H H') : Bag H' b c := by
  obtain ⟨cells, a, r, s, h1, h2, h3⟩ := h.ex
  exact ⟨cells, a, r, s, o _ _ h1 (fun _ z => nomatch z), o _ _ h2 (fun _ z => nomatch z), h3⟩
theorem BookAt.ext {K : PySem.W.Frag} {C : Addr} {H H' : Hp} {p : Addr} {cs : List Int} {fs : List (List Tri)} (h : BookAt K C H p cs fs) (e : LamX.ExtN H H') : BookAt K C H' p cs fs := by
  obtain ⟨dx, a, b, xs, h1, h2, h3, h4⟩ := h
  exact ⟨dx, a, b, xs, e _ _ h1 (fun _ z => nomatch z), sqT_ext h2 e, sqT_ext h3 e, h4.mono fun _ _ => FigT.ts (TS.ext e)⟩
/-! ### alike -/
theorem lk_int {K : PySem.W.Frag} {H : Hp} {n : Nat} (i : Int) : Lk K H (n + 1) (.int i) (.int i) := .inl ⟨rfl, .inr (.inr (.inl ⟨i, rfl⟩))⟩
theorem lk_bl {K : PySem.W.Frag} {H : Hp} {n : Nat} (b : Bool) : Lk K H (n + 1) (.bl b) (.bl b) := .inl ⟨rfl, .inr (.inl ⟨b, rfl⟩)⟩
theorem lk_str {K : PySem.W.Frag} {H : Hp} {n : Nat} (z : Str) : Lk K H (n + 1) (.str z) (.str z) := .inl ⟨rfl, .inr (.inr (.inr ⟨z, rfl⟩))⟩
theorem lk_non {K : PySem.W.Frag} {H : Hp} {n : Nat} : Lk K H (n + 1) .non .non := .inl ⟨rfl, .inl rfl⟩
/-- two lists of things that are alike one by one -/
theorem lk_seq {K : PySem.W.Frag} {H : Hp} {n : Nat} {a b : Addr} {xs ys : List V} (h : (SqL K H a xs ∧ SqL K H b ys) ∨ (SqT K H a xs ∧ SqT K H b ys)) (hl : xs.length = ys.length) (h1 : xs.length ≤ 1000) (q : ∀ (i : Nat) (x y : V), xs[i]? = some x → ys[i]? = some y → Lk K H n x y) : Lk K H (n + 1) (.ref a) (.ref b) :=
  .inr ⟨a, b, xs, ys, rfl, rfl, h, hl, h1, q⟩
theorem ints_alike {K : PySem.W.Frag} {H : Hp} {n : Nat} (c : List Int) : ∀ (i : Nat) (x y : V), (c.map V.int)[i]? = some x → (c.map V.int)[i]? = some y → Lk K H (n + 1) x y := fun i x y hx hy => by
  rw [hx] at hy
  obtain rfl := Option.some.inj hy
  rw [List.getElem?_map] at hx
  cases hz : c[i]? with
  | none => rw [hz] at hx; cases hx
  | some z =>
    rw [hz] at hx
    obtain rfl := Option.some.inj hx
    exact lk_int z
theorem lk_intL {K : PySem.W.Frag} {H : Hp} {n : Nat} {a b : Addr} {c : List Int} (h1 : SqL K H a (c.map V.int)) (h2 : SqL K H b (c.map V.int)) (hl : c.length ≤ 1000) : Lk K H (n + 2) (.ref a) (.ref b) :=
  lk_seq (.inl ⟨h1, h2⟩) rfl (by rw [List.length_map]; exact hl) (ints_alike c)
theorem lk_intT {K : PySem.W.Frag} {H : Hp} {n : Nat} {a b : Addr} {c : List Int} (h1 : SqT K H a (c.map V.int)) (h2 : SqT K H b (c.map V.int)) (hl : c.length ≤ 1000) : Lk K H (n + 2) (.ref a) (.ref b) :=
  lk_seq (.inr ⟨h1, h2⟩) rfl (by rw [List.length_map]; exact hl) (ints_alike c)
theorem lk_two {α : Type} {K : PySem.W.Frag} {H : Hp} {n : Nat} {R S : V → α → Prop} {xs ys : List V} {as : List α} (h1 : All2 R xs as) (h2 : All2 S ys as) (q : ∀ x y a, a ∈ as → R x a → S y a → Lk K H n x y) : ∀ (i : Nat) (x y : V), xs[i]? = some x → ys[i]? = some y → Lk K H n x y := fun i x y hx hy => by
  obtain ⟨a, ha, r⟩ := h1.get hx
  obtain ⟨b, hb, s⟩ := h2.get hy
  rw [ha] at hb
  obtain rfl := Option.some.inj hb
  exact q x y a (List.mem_of_getElem? ha) r s
theorem lk_lists {K : PySem.W.Frag} {H : Hp} {n : Nat} {a b : Addr} {xs ys : List V} {ts : List (List Int)} (h1 : SqL K H a xs) (h2 : SqL K H b ys) (h3 : All2 (fun v t => ∃ a, v = .ref a ∧ SqL K H a (t.map V.int)) xs ts) (h4 : All2 (fun v t => ∃ a, v = .ref a ∧ SqL K H a (t.map V.int)) ys ts) (hl : ts.length ≤ 1000) (hd : ∀ t ∈ ts, t.length ≤ 1000) : Lk K H (n + 3) (.ref a) (.ref b) :=
  lk_seq (.inl ⟨h1, h2⟩) (by rw [h3.len, h4.len]) (by rw [h3.len]; exact hl) (lk_two h3 h4 fun x y t ht ⟨c, e1, r1⟩ ⟨d, e2, r2⟩ => by
    subst e1
    subst e2
    exact lk_intL r1 r2 (hd t ht))
/-! ### x == y and x != y, where the class of x has an own __eq__ and no __ne__ -/
theorem no_sub {K : PySem.W.Frag} {C : Addr} {T : String} {ms : List Value} (e : fastBuiltinMro T = some ms) (h : ms.contains (.ref C) = false) : PySem.W.subIn K (.type T) (.ref C) = some false := by
  show (fastBuiltinMro T).map (·.contains (.ref C)) = some false
  rw [e]
  exact congrArg some h
theorem ifBound_objNe {M : Model} {A : Around} {Ex : Value → Shared → Prop} {s : Shared} {K : PySem.W.Frag} {x C : Addr} {ox : Obj} {od : Option Obj} {args : List Value} {Q : Option Value → Shared → Prop} (X : K.In s.heap) (I : PySem.W.InstAt s.heap x ox C od) (hs : PySem.W.findIn K (.ref C) "__ne__" = some (some (.builtin "object.__ne__")))
    (h : wpAny M A (call (.builtin "object.__ne__") (.ref x :: args)) (fun v => Q (some v)) Ex s) : wpAny M A (callSpecialIfBound? (.ref x) "__ne__" args) Q Ex s := by
  simp only [callSpecialIfBound?, bindSpecialIfBound?]
  refine wpAny_holding (wpAny_bind (wpAny_bind (wpAny_bind (I.type.here ((PySem.W.looks_findIn X hs).here ?_)))))
  refine wpAny_bind (wpAny_askSetting (wpAny_ite ?_))
  have fin : wpAny M A (call (.builtin "object.__ne__") ([.ref x] ++ args) >>= fun v => pure (some v)) Q Ex s := wpAny_bind (wpAny_mono h (fun v s' h' => wpAny_pure h') fun _ _ h' => h')
  split
  · exact wpAny_bind (wpAny_of_eq (F.cmp_object.ne.bind _) (wpAny_pure (by exact fin)))
  · exact wpAny_tryCatch (wpAny_bind (wpAny_of_eq (F.cmp_object.ne.bind _) (wpAny_pure (by exact fin))))
/-- what is known of a class with an own __eq__ at f -/
structure EqTxt (K : PySem.W.Frag) (C f : Addr) : Prop where
  eq : PySem.W.findIn K (.ref C) "__eq__" = some (some (.ref f))
  ne : PySem.W.findIn K (.ref C) "__ne__" = some (some (.builtin "object.__ne__"))
  fn : PySem.W.isFn K (.ref f) = true
  ob : PySem.W.mroIn K C (.type "object") = some true
section
variable {X : Cx} {n : Nat} {CX : CXT} {C f : Addr} {fd : FuncData} {ps : List Str} {sp : Sp} {E : XK}
/-- x an instance of C, y of a type that is not below C: what __eq__ tells is a bool -/
def rOwn (K : PySem.W.Frag) (C : Addr) (sp : Sp) (E : XK) (g : Bool → Bool) : R2 := fun x y H Q => ∃ a dx fs t, x = .ref a ∧ H a = some (.ins C dx fs) ∧ TyX K H y t ∧ PySem.W.notFirst K C t = true ∧ sp [x, y] H (fun v H' => ∃ b, v = .bl b ∧ Q (.bl (g b)) H') E
theorem call_own {A : Around} {pins : List (Addr × Obj)} {s : Shared} {σ : L2.St} {H : Hp} {x y : V} {u v : Value} {Q : VK} (F : FnOk X.prog X.w X.K X.mg X.base CX n f fd ps sp) (hb : Binds X.K fd ps []) (hx : Passes CX X E)
    (hr : Room n A) (fr : A.frames = X.A.frames) (I : Inv X pins σ H s) (rx : RelV x u) (ry : RelV y v) (h : sp [x, y] H Q E) :
    wpAny (model X.prog X.w) A (call (.ref f) [u, v]) (EP X pins σ Q) X.xe s := by
  have e0 : Env0 X.prog X.w X.K X.mg X.base A X.stack s H := by
    have e := I.env0
    exact ⟨by rw [fr]; exact e.frames, e.mod, e.bs, e.bsz, e.funs, e.frf, e.hok, e.bare⟩
  have hl := F.len _ _ _ _ h
  refine wpAny_call (codeAny_mono (F.run A X.stack s H ⟨[u, v], []⟩ [u, v] [x, y] _ E hr e0 (by
    have := hb s [u, v] I.kIn (by simpa using hl)
    simpa using this) (.cons rx (.cons ry .nil)) h) fun r s' hq => ?_)
  cases r with
  | error e => exact hx pins σ H s e s' I hq
  | ok fl =>
    cases fl with
    | ret w => exact I.after hq
    | next => exact False.elim hq
    | brk => exact False.elim hq
    | cont => exact False.elim hq
theorem op_eqOwn (T : EqTxt X.K C f) (F : FnOk X.prog X.w X.K X.mg X.base CX n f fd ps sp) (hb : Binds X.K fd ps []) (hx : Passes CX X E) (hr : Room n X.A) : OpR X (compareOp .Eq) (rOwn X.K C sp E id) := by
  intro pins s σ H x y u v Q I rx ry hq
  obtain ⟨a, dx, fs, t, rfl, ha, ty, nf, h⟩ := hq
  cases rx
  obtain ⟨P, kx, hP, _⟩ := kit_of I ry ty
  obtain ⟨mA, J, _⟩ := ins_get I.hok ha
  obtain ⟨od, J, _⟩ := J.look
  obtain ⟨m, hF⟩ := I.fr
  show wpAny (model X.prog X.w) X.A (richCompare .Eq (.ref a) v) _ _ s
  refine PySem.W.cmp_K (op := .Eq) (tb := t) hr.units0 hF I.ok.mod.kin J (kx.ty _ _ I.kIn hP) nf T.eq T.fn ?_
  refine wpAny_mono (call_own (X := X) F hb hx hr rfl I (x := .ref a) rfl ry h) (fun r s' z => ?_) fun _ _ e => e
  obtain ⟨w, H', I', rw', b, ew, q⟩ := z
  subst ew
  cases rw'
  exact ⟨.bl b, H', I', rfl, q⟩
theorem ne_body {A : Around} {pins : List (Addr × Obj)} {s : Shared} {σ : L2.St} {H : Hp} {a : Addr} {ox : Obj} {od : Option Obj} {y : V} {v : Value} {Q : VK} {R : Fin → Shared → Prop} (T : EqTxt X.K C f) (F : FnOk X.prog X.w X.K X.mg X.base CX n f fd ps sp) (hb : Binds X.K fd ps []) (hx : Passes CX X E)
    (hr : Room n A) (fr : A.frames = X.A.frames) (I : Inv X pins σ H s) (J : PySem.W.InstAt s.heap a ox C od) (ry : RelV y v) (h : sp [.ref a, y] H (fun v H' => ∃ b, v = .bl b ∧ Q (.bl (!b)) H') E)
    (hR : ∀ b s', EP X pins σ Q (.bool b) s' → R (.done (.ret (.bool b))) s') : wpAny (model X.prog X.w) A (Builtin.«object.__ne__» ⟨[.ref a, v], []⟩) R X.xe s := by
  have hc := call_own (X := X) (A := A) F hb hx hr fr I (x := .ref a) rfl ry h
  have KI := I.kIn
  unfold Builtin.«object.__ne__»
  repeat (first
    | with_reducible refine wpAny_cRoomFor hr.units0 ?_
    | (refine wpAny_bind (m := callSpecialIfBound? (.ref a) (Str.ofString "__eq__") [v])
        (PySem.W.ifBound_K KI J T.eq T.fn (wpAny_mono hc (fun r s' z => by
          obtain ⟨w, H', I', rw', b, ew, q⟩ := z
          subst ew
          cases rw'
          have hq := hR (!b) s' ⟨.bl (!b), H', I', rfl, q⟩
          repeat (first | exact hq | exact wpAny_pure hq | exact wpAny_truthy_bool hq | (refine wpAny_bind (m := truthy (.bool _)) (wpAny_truthy_bool ?_)) | wp_step)) fun _ _ e => e)))
    | wp_step)
theorem op_neOwn (T : EqTxt X.K C f) (F : FnOk X.prog X.w X.K X.mg X.base CX n f fd ps sp) (hb : Binds X.K fd ps []) (hx : Passes CX X E) (hr : Room (n + 1) X.A) : OpR X (compareOp .NotEq) (rOwn X.K C sp E not) := by
  intro pins s σ H x y u v Q I rx ry hq
  obtain ⟨a, dx, fs, t, rfl, ha, ty, nf, h⟩ := hq
  cases rx
  obtain ⟨P, kx, hP, _⟩ := kit_of I ry ty
  obtain ⟨mA, J, _⟩ := ins_get I.hok ha
  obtain ⟨od, J, _⟩ := J.look
  have KI := I.kIn
  have one : wpAny (model X.prog X.w) X.A (tryCompare (.ref a) "__ne__" v) (fun r s' => ∃ w, r = some w ∧ EP X pins σ Q w s') X.xe s := by
    unfold tryCompare
    refine wpAny_bind (ifBound_objNe KI J T.ne (wpAny_call (codeAny_call_builtin PySem.F.cmp_object.ne.plain PySem.F.cmpEntry_ne (PySem.W.check_slot PySem.F.cmpKind_ne PySem.F.cmpSplit_ne (J.type.andThen (PySem.W.looks_mroIn KI T.ob)) (PySem.F.cmpArgs_ne _ _) ?_))))
    exact ne_body T F hb hx hr.in1 rfl I J ry h fun b s' z => wpAny_pure ⟨_, rfl, z⟩
  show wpAny (model X.prog X.w) X.A (richCompare .NotEq (.ref a) v) _ _ s
  unfold richCompare
  simp only [oneThing_ref]
  refine wpAny_holding (wpAny_bind (wpAny_cRoomFor hr.units0 ?_))
  refine wpAny_bind (J.type.here (wpAny_bind ((kx.ty _ _ I.kIn hP).here ?_)))
  split
  · rename_i q
    have e : PySem.W.subIn X.K t (.ref C) = some false := by
      rcases Bool.or_eq_true_iff.mp nf with e | e
      · rw [beq_iff_eq.mp e] at q; simp at q
      · exact beq_iff_eq.mp e
    refine wpAny_bind ((PySem.W.looks_subIn KI e).here ?_)
    simp only [Bool.false_eq_true, if_false]
    refine wpAny_bind (wpAny_mono one (fun r s' z => ?_) fun _ _ e => e)
    obtain ⟨w, rfl, hq⟩ := z
    exact wpAny_pure hq
  · refine wpAny_bind (wpAny_pure ?_)
    simp only [Bool.false_eq_true, if_false]
    refine wpAny_bind (wpAny_mono one (fun r s' z => ?_) fun _ _ e => e)
    obtain ⟨w, rfl, hq⟩ := z
    exact wpAny_pure hq
end
/-! ### Book.__eq__ -/
theorem figs_dp {K : PySem.W.Frag} {H : Hp} {b : Addr} {xs : List V} {fs : List (List Tri)} (h1 : SqT K H b xs) (h2 : All2 (FigT K H) xs fs) : Dp K H (.ref b) (figsD fs) :=
  .tup h1 (dpAll_of figD (fun v f ⟨c, ys, e, hc, hy⟩ => by
    subst e
    exact .tup hc (dpAll_of triD (fun v t ⟨d, e, hd⟩ => by
      subst e
      exact .tup hd (.cons (.int _) (.cons (.int _) (.cons (.int _) .nil)))) hy)) h2)
/-- a class with an own __eq__, asked by isinstance -/
structure ClsE (K : PySem.W.Frag) (C f : Addr) : Prop extends EqTxt K C f where
  ac : PySem.W.findIn K (.ref C) "__class__" = some (some (.builtin "object.__class__"))
  gt : PySem.W.specialIn K (.builtin "object.__class__") "__get__" = some (some (.builtin "getset_descriptor.__get__"))
  tk : PySem.W.takesIn K (.builtin "object.__class__") = some true
def clsEB (K : PySem.W.Frag) (C f : Addr) : Bool :=
  He.eqO (PySem.W.findIn K (.ref C) "__eq__") (some (some (.ref f))) && (He.eqO (PySem.W.findIn K (.ref C) "__ne__") (some (some (.builtin "object.__ne__"))) && (PySem.W.isFn K (.ref f) && (decide (PySem.W.mroIn K C (.type "object") = some true) &&
  (He.eqO (PySem.W.findIn K (.ref C) "__class__") (some (some (.builtin "object.__class__"))) && (He.eqO (PySem.W.specialIn K (.builtin "object.__class__") "__get__") (some (some (.builtin "getset_descriptor.__get__"))) && decide (PySem.W.takesIn K (.builtin "object.__class__") = some true))))))
theorem clsEB_ok {K : PySem.W.Frag} {C f : Addr} (h : clsEB K C f = true) : ClsE K C f := by
  obtain ⟨h1, h⟩ := He.ba h
  obtain ⟨h2, h⟩ := He.ba h
  obtain ⟨h3, h⟩ := He.ba h
  obtain ⟨h4, h⟩ := He.ba h
  obtain ⟨h5, h⟩ := He.ba h
  obtain ⟨h6, h7⟩ := He.ba h
  exact ⟨⟨He.eqO_ok h1, He.eqO_ok h2, h3, of_decide_eq_true h4⟩, He.eqO_ok h5, He.eqO_ok h6, of_decide_eq_true h7⟩
theorem ClsE.ty {K : PySem.W.Frag} {C f : Addr} (E : ClsE K C f) (cl : Cls K C) {H : Hp} {a dx : Addr} {fs : List (Str × V)} (h : H a = some (.ins C dx fs)) : TyX K H (.ref a) (.ref C) := .base (.ins h cl E.ac E.gt E.tk E.ob)
theorem kit_self {K : PySem.W.Frag} {C : Addr} : PySem.W.kitOne K (.ref C) (.ref C) = some true := by
  unfold PySem.W.kitOne
  rw [if_pos (by simp)]
theorem first_self {K : PySem.W.Frag} {C : Addr} : PySem.W.notFirst K C (.ref C) = true := by
  unfold PySem.W.notFirst
  rw [Bool.or_eq_true]
  exact .inl (by simp)
abbrev sBEq : Stmt := inClass (topS 38) 9
abbrev nBEq : List Str := ["self", "other"]
theorem scBEq : FnScope nBEq ["self", "other"] (defScope sBEq) := ⟨rfl, rfl, rfl, by decide +kernel, rfl, by decide +kernel, by decide +kernel⟩
def spBEq (K : PySem.W.Frag) (C : Addr) : Sp := fun vs H Q _ => ∃ (p : Addr) (y : V) (cs : List Int) (fs : List (List Tri)), vs = [.ref p, y] ∧ BookAt K C H p cs fs ∧
  ((∃ (q : Addr) (cs' : List Int) (fs' : List (List Tri)), y = .ref q ∧ BookAt K C H q cs' fs' ∧ Q (.bl (decide (cs = cs' ∧ fs = fs'))) H) ∨ ∃ t, TyX K H y t ∧ PySem.W.kitOne K t (.ref C) = some false ∧ Q (.bl false) H)
theorem bkF_pal (a b : Addr) : List.lookup (Str.ofString "palette") (bkF a b) = some (V.ref a) := rfl
section
variable {P : Program} {w : World} {K : PySem.W.Frag} {mg : Str → Option Value} {base : Heap}
theorem ok_beq {f C : Addr} {fd : FuncData} {k : Nat} (F : Fun K "__eq__" "Book.__eq__" sBEq f fd) (T : BkTxt K mg C) (TE : ClsE K C f) (mi : mg "isinstance" = none) : FnOk P w K mg base CX0 (k + 1) f fd ["self", "other"] (spBEq K C) := by
  refine F.ok scBEq (fun vs H Q E h => ?_) (fun cdv A outer s H vs Q E hr h => ?_)
  · obtain ⟨p, y, cs, fs, rfl, _⟩ := h
    rfl
  · obtain ⟨p, y, cs, fs, rfl, ⟨dx, a, b, xs, hp, ha, hb, hA⟩, q⟩ := h
    refine ⟨_, pss_one (ps_ret (pe_and (pe_callB call_isi (by rfl) mi (by decide +kernel) (pa_cons (pv 1) (pa_cons (pe_glob (v := .ref C) (by rfl) T.mgC rfl) pa_nil)))
      (pe_and (pe_cmpR (op_eqD hr.units) (pe_fld (pv 0) rfl) (pe_fld (pv 1) rfl) (nomark _)) (pe_one (pe_cmpR (op_eqD hr.units) (pe_fld (pv 0) rfl) (pe_fld (pv 1) rfl) (nomark _)))))), ?_⟩
    rcases q with ⟨q0, cs', fs', rfl, ⟨dx', a', b', xs', hp', ha', hb', hA'⟩, q⟩ | ⟨t, ty, kt, q⟩
    · refine ⟨.ref q0, rfl, .ref q0, .ref C, _, _, true, rfl, .own C, TE.ty T.cl hp', kit_self, _, rfl, iteT ?_⟩
      refine ⟨.ref p, rfl, p, C, dx, _, _, rfl, hp, T.cl, T.nP, bkF_pal a b, .ref q0, rfl, q0, C, dx', _, _, rfl, hp', T.cl, T.nP, bkF_pal a' b', _, _, dpT ha, dpT ha', shT cs, shT cs', _, rfl, ?_⟩
      rw [eqvT]
      by_cases e : cs = cs'
      · rw [decide_eq_true e]
        refine iteT ⟨.ref p, rfl, p, C, dx, _, _, rfl, hp, T.cl, T.nS, bkF_shapesX a b, .ref q0, rfl, q0, C, dx', _, _, rfl, hp', T.cl, T.nS, bkF_shapesX a' b', _, _, figs_dp hb hA, figs_dp hb' hA', figsD_sh fs, figsD_sh fs', ?_⟩
        rw [figsD_eqv]
        rw [show decide (fs = fs') = decide (cs = cs' ∧ fs = fs') from by simp [e]]
        exact q
      · rw [decide_eq_false e]
        refine iteF ?_
        rw [show decide (cs = cs' ∧ fs = fs') = false from by simp [e]] at q
        exact q
    · exact ⟨y, rfl, y, .ref C, _, _, false, rfl, .own C, ty, kt, _, rfl, iteF q⟩
end
/-! ### alike: pairs, lists of figures -/
theorem none_back {H H' : Hp} {a : Addr} (s : Same H H') (n : H' a = none) : H a = none := by
  cases e : H a with
  | none => rfl
  | some o => rw [s _ _ e] at n; cases n
theorem same_put {H H' : Hp} {a : Addr} {o : HO} (s : Same H H') (n : H a = none) : Same H (upd H' a o) := fun b x e => by
  rw [upd_ne (ne_of_none e n)]
  exact s _ _ e
theorem lk_pair {K : PySem.W.Frag} {H : Hp} {n : Nat} {a b : Addr} {z : Str} {x y : V} (h1 : SqT K H a [.str z, x]) (h2 : SqT K H b [.str z, y]) (h : Lk K H (n + 1) x y) : Lk K H (n + 2) (.ref a) (.ref b) :=
  lk_seq (.inr ⟨h1, h2⟩) rfl (show (2 : Nat) ≤ 1000 by decide) fun i x' y' hx hy => by
    match i, hx, hy with
    | 0, hx, hy =>
      obtain rfl := Option.some.inj hx
      obtain rfl := Option.some.inj hy
      exact lk_str z
    | 1, hx, hy =>
      obtain rfl := Option.some.inj hx
      obtain rfl := Option.some.inj hy
      exact h
theorem lk_dos {K : PySem.W.Frag} {H : Hp} {n : Nat} {a b : Addr} {x y x' y' : V} (h1 : SqL K H a [x, y]) (h2 : SqL K H b [x', y']) (k1 : Lk K H n x x') (k2 : Lk K H n y y') : Lk K H (n + 1) (.ref a) (.ref b) :=
  lk_seq (.inl ⟨h1, h2⟩) rfl (show (2 : Nat) ≤ 1000 by decide) fun i u v hx hy => by
    match i, hx, hy with
    | 0, hx, hy =>
      obtain rfl := Option.some.inj hx
      obtain rfl := Option.some.inj hy
      exact k1
    | 1, hx, hy =>
      obtain rfl := Option.some.inj hx
      obtain rfl := Option.some.inj hy
      exact k2
theorem lk_tres {K : PySem.W.Frag} {H : Hp} {n : Nat} {a b : Addr} {x y z x' y' z' : V} (h1 : SqL K H a [x, y, z]) (h2 : SqL K H b [x', y', z']) (k1 : Lk K H n x x') (k2 : Lk K H n y y') (k3 : Lk K H n z z') : Lk K H (n + 1) (.ref a) (.ref b) :=
  lk_seq (.inl ⟨h1, h2⟩) rfl (show (3 : Nat) ≤ 1000 by decide) fun i u v hx hy => by
    match i, hx, hy with
    | 0, hx, hy =>
      obtain rfl := Option.some.inj hx
      obtain rfl := Option.some.inj hy
      exact k1
    | 1, hx, hy =>
      obtain rfl := Option.some.inj hx
      obtain rfl := Option.some.inj hy
      exact k2
    | 2, hx, hy =>
      obtain rfl := Option.some.inj hx
      obtain rfl := Option.some.inj hy
      exact k3
theorem lk_tri {K : PySem.W.Frag} {H : Hp} {n : Nat} {x y : V} {t : Tri} (h1 : TriAt K H x t) (h2 : TriAt K H y t) : Lk K H (n + 2) x y := by
  obtain ⟨a, rfl, ha⟩ := h1
  obtain ⟨b, rfl, hb⟩ := h2
  exact lk_intT (c := [t.1, t.2.1, t.2.2]) ha hb (show (3 : Nat) ≤ 1000 by decide)
theorem lk_fig {K : PySem.W.Frag} {H : Hp} {n : Nat} {x y : V} {f : List Tri} (h1 : FigT K H x f) (h2 : FigT K H y f) (hl : f.length ≤ 1000) : Lk K H (n + 3) x y := by
  obtain ⟨a, xs, rfl, ha, hx⟩ := h1
  obtain ⟨b, ys, rfl, hb, hy⟩ := h2
  exact lk_seq (.inr ⟨ha, hb⟩) (hx.len.trans hy.len.symm) (by rw [hx.len]; exact hl) (lk_two hx hy fun _ _ _ _ r1 r2 => lk_tri r1 r2)
theorem lk_figs {K : PySem.W.Frag} {H : Hp} {n : Nat} {a b : Addr} {xs ys : List V} {fs : List (List Tri)} (ha : SqL K H a xs) (hb : SqL K H b ys) (hx : All2 (FigT K H) xs fs) (hy : All2 (FigT K H) ys fs) (hl : fs.length ≤ 1000) (hf : ∀ f ∈ fs, f.length ≤ 1000) : Lk K H (n + 4) (.ref a) (.ref b) :=
  lk_seq (.inl ⟨ha, hb⟩) (hx.len.trans hy.len.symm) (by rw [hx.len]; exact hl) (lk_two hx hy fun _ _ f hm r1 r2 => lk_fig r1 r2 (hf f hm))
/-! ### the default of Heap's row and of Book's figures: the tuple without things -/
def emptyB (K : PySem.W.Frag) (a : Addr) : Bool := match K.lookup a with
  | some ⟨.type c, _, .seq its _, _⟩ => decide (c = "tuple") && decide (its.size = 0)
  | _ => false
theorem emptyB_ok {K : PySem.W.Frag} {a : Addr} (h : emptyB K a = true) (H : Hp) : SqT K H a [] := by
  unfold emptyB at h
  split at h
  · rename_i c od its n sl e
    obtain ⟨h1, h2⟩ := He.ba h
    have h1 := of_decide_eq_true h1
    have h2 := of_decide_eq_true h2
    subst h1
    obtain rfl : its = #[] := Array.eq_empty_of_size_eq_zero h2
    exact .inr ⟨_, #[], n, e, rfl, rfl, Nat.zero_le _, .nil⟩
  · cases h
/-- the first default of a method -/
def dflOf (K : PySem.W.Frag) (C m : Str) : Addr := match K.lookup (He.ma K (He.ga K C) m) with
  | some ⟨_, _, .func fd, _⟩ => (match fd.defaults with
    | .ref T => (match K.lookup T with
      | some ⟨_, _, .seq its _, _⟩ => (match its.toList with
        | .ref a :: _ => a
        | _ => 0)
      | _ => 0)
    | _ => 0)
  | _ => 0
def emptyH (K : PySem.W.Frag) : Addr := dflOf K "Heap" "__init__"
/-- the default of Book's figures -/
def emptyT (K : PySem.W.Frag) : Addr := match K.lookup (He.ma K (He.ga K "Book") "__init__") with
  | some ⟨_, _, .func fd, _⟩ => (match fd.kwdefaults with
    | .ref D => (match PySem.W.nsIn K D "figures" with
      | some (some (.ref a)) => a
      | _ => 0)
    | _ => 0)
  | _ => 0
/-! ### the law of k03 -/
theorem GoodB.rev {cs : List Int} {fs : List (List Tri)} (h : GoodB cs fs) : GoodB cs fs.reverse := by
  refine ⟨fun f hf => h.all f (List.mem_reverse.mp hf), List.pairwise_reverse.mpr (h.two.imp_of_mem fun {g f} hg hf e => ?_)⟩
  unfold okB at e ⊢
  rw [meetB_comm, barB_comm (h.all g hg).up (h.all f hf).up]
  exact e
theorem All2.rev {β : Type} {R : V → β → Prop} : ∀ {as : List V} {bs : List β}, All2 R as bs → All2 R as.reverse bs.reverse
  | [], [], _ => True.intro
  | [], _ :: _, h => h.elim
  | _ :: _, [], h => h.elim
  | _ :: _, _ :: _, h => by
    rw [List.reverse_cons, List.reverse_cons]
    exact All2.snoc h.1 (All2.rev h.2)
theorem cutV_init (xs : List V) : cutV xs none (some (-1)) = xs.take (xs.length - 1) := by
  unfold cutV
  have e1 : HT.sIx xs.length 0 none = 0 := rfl
  have e2 : HT.sIx xs.length xs.length (some (-1)) = xs.length - 1 := by
    show (if (-1 : Int) < 0 then ((-1 : Int) + (xs.length : Int)).toNat else min (-1 : Int).toNat xs.length) = xs.length - 1
    rw [if_pos (by decide)]
    omega
  rw [e1, e2, List.drop_zero, Nat.sub_zero]
theorem figsL_eqv (a b : List (List Tri)) : PyData.eqv (.list (a.map figD)) (.list (b.map figD)) = decide (a = b) := by
  simp only [PyData.eqv]
  exact eqvAll_map figD figD_eqv a b
theorem repB_eq (n m : Nat) : ((((("Book(" : Str) ++ strI (n : Int)) ++ (" pads, " : Str)) ++ strI (m : Int)) ++ (" figures)" : Str)) = repBS n m := by
  unfold repBS
  rw [show Str.empty ++ ("Book(" : Str) = ("Book(" : Str) from by decide +kernel]
theorem repB_lit : repBS 1 0 = ("Book(1 pads, 0 figures)" : Str) := by decide +kernel
/-- things of another type -/
structure OthT (K : PySem.W.Frag) (C : Addr) (t : Value) : Prop where
  no : PySem.W.kitOne K t (.ref C) = some false
  nf : PySem.W.notFirst K C t = true
def othB (K : PySem.W.Frag) (C : Addr) (t : Value) : Bool := decide (PySem.W.kitOne K t (.ref C) = some false) && PySem.W.notFirst K C t
theorem othB_ok {K : PySem.W.Frag} {C : Addr} {t : Value} (h : othB K C t = true) : OthT K C t := by
  obtain ⟨h1, h2⟩ := He.ba h
  exact ⟨of_decide_eq_true h1, h2⟩
theorem rd_both {K : PySem.W.Frag} {C : Addr} {H : Hp} {p : Addr} {y : V} {t : Value} {cs : List Int} {fs : List (List Tri)} {g : Bool → Bool} {Q : VK} {E : XK} (hP : BookAt K C H p cs fs) (ty : TyX K H y t) (O : OthT K C t)
    (k : Q (.bl (g false)) H) : rOwn K C (spBEq K C) E g (.ref p) y H Q := by
  obtain ⟨dx, a, b, xs, hp, _⟩ := id hP
  exact ⟨p, dx, _, _, rfl, hp, ty, O.nf, p, y, cs, fs, rfl, hP, .inr ⟨t, ty, O.no, _, rfl, k⟩⟩
theorem rd_beq2 {K : PySem.W.Frag} {C fE : Addr} {H : Hp} {p q : Addr} {cs cs' : List Int} {fs fs' : List (List Tri)} {g : Bool → Bool} {Q : VK} {E : XK} (TE : ClsE K C fE) (cl : Cls K C) (hP : BookAt K C H p cs fs) (hQ : BookAt K C H q cs' fs')
    (k : Q (.bl (g (decide (cs = cs' ∧ fs = fs')))) H) : rOwn K C (spBEq K C) E g (.ref p) (.ref q) H Q := by
  obtain ⟨dx, a, b, xs, hp, _⟩ := id hP
  obtain ⟨dx', a', b', xs', hq, _⟩ := id hQ
  exact ⟨p, dx, _, _, rfl, hp, TE.ty cl hq, first_self, p, .ref q, cs, fs, rfl, hP, .inl ⟨q, cs', fs', rfl, hQ, _, rfl, k⟩⟩
/-- colours, figures and their book -/
structure S3 (K : PySem.W.Frag) (C b c d e x : Addr) (cs : List Int) (xs : List V) (fs : List (List Tri)) (H : Hp) : Prop where
  bag : Bag H b c
  hd : H d = some (.lst (cs.map V.int))
  he : H e = some (.lst xs)
  fx : All2 (FigT K H) xs fs
  bk : BookAt K C H x cs fs
  db : d ≠ b
  eb : e ≠ b
  xb : x ≠ b
  gc : GoodC cs
  gf : GoodB cs fs
  fl : fs.length ≤ 6
  fne : fs ≠ []
theorem S3.ext {K : PySem.W.Frag} {C b c d e x : Addr} {cs : List Int} {xs : List V} {fs : List (List Tri)} {H H' : Hp} (S : S3 K C b c d e x cs xs fs H) (s : LamX.ExtN H H') : S3 K C b c d e x cs xs fs H' :=
  ⟨bag_ext S.bag s, s _ _ S.hd (fun _ z => nomatch z), s _ _ S.he (fun _ z => nomatch z), S.fx.mono fun _ _ => FigT.ts (TS.ext s), S.bk.ext s, S.db, S.eb, S.xb, S.gc, S.gf, S.fl, S.fne⟩
theorem S3.off {K : PySem.W.Frag} {C b c d e x : Addr} {cs : List Int} {xs : List V} {fs : List (List Tri)} {H H' : Hp} (S : S3 K C b c d e x cs xs fs H) (o : Off b H H') (hB : Bag H' b c) : S3 K C b c d e x cs xs fs H' :=
  ⟨hB, o _ _ S.db S.hd, o _ _ S.eb S.he, S.fx.mono fun _ _ => FigT.ts (TS.bag o S.bag), S.bk.ch (ChL.off S.bag o), S.db, S.eb, S.xb, S.gc, S.gf, S.fl, S.fne⟩
theorem S3.sm {K : PySem.W.Frag} {C b c d e x : Addr} {cs : List Int} {xs : List V} {fs : List (List Tri)} {H : Hp} (S : S3 K C b c d e x cs xs fs H) : (∀ z ∈ cs, 0 ≤ z ∧ z < 1000) ∧ cs.length ≤ 100 ∧ (∀ f ∈ fs, (∀ t ∈ f, SmT t) ∧ f.length ≤ 20) ∧ fs.length ≤ 100 := by
  have c6 := S.gc.2.1
  have f6 := S.fl
  exact ⟨fun z hz => by have := S.gc.2.2 z hz; omega, by omega, fun f hf => good_sm S.gc.2.2 c6 (S.gf.all f hf), by omega⟩
abbrev sLaw : Stmt := topS 67
abbrev nLaw : List Str := ["_law_script", "_law_bag_here", "_law_colours", "_law_shapes_here", "_law_shape_here", "_law_handed", "_law_turn", "_law_many", "_law_at", "_law_said", "_law_words", "_law_other", "_law_third", "_law_same", "_law_book"]
theorem scLaw : FnScope nLaw ["_law_script"] (defScope sLaw) := ⟨rfl, rfl, rfl, by decide +kernel, rfl, by decide +kernel, by decide +kernel⟩
def tabL (pL : Addr) : List (Addr × Str) := [(pL, (envOfC "law" (defScope sLaw) 0 0 .none).qual ++ "<lambda>")]
def spLaw (K : PySem.W.Frag) (pL : Addr) : Sp := fun vs H Q _ => ∃ (a : Addr) (ns : List Int), vs = [.ref a] ∧ SqL K H a (ns.map V.int) ∧ ns.length ≤ 63 ∧ H pL = some (.tbl #[]) ∧ ∀ H', Q (.bl true) H'
def MidA (K : PySem.W.Frag) (C pL b c d e x : Addr) (cs : List Int) (xs : List V) (fs : List (List Tri)) (σ : L2.St) (H : Hp) : Prop := ∃ (y0 y4 y5 y6 y7 y8 y9 y10 y11 y12 y13 : Option V), σ = [y0, some (.ref b), some (.ref d), some (.ref e), y4, y5, y6, y7, y8, y9, y10, y11, y12, y13, some (.ref x)] ∧ LamX.Tabs (tabL pL) H ∧ S3 K C b c d e x cs xs fs H
def MidB (K : PySem.W.Frag) (C pL b c d e x : Addr) (cs : List Int) (xs : List V) (fs : List (List Tri)) (σ : L2.St) (H : Hp) : Prop := ∃ (y0 y4 y5 y6 y8 y9 y10 y11 y12 y13 : Option V), σ = [y0, some (.ref b), some (.ref d), some (.ref e), y4, y5, y6, some (.int (fs.length : Nat)), y8, y9, y10, y11, y12, y13, some (.ref x)] ∧ LamX.Tabs (tabL pL) H ∧ S3 K C b c d e x cs xs fs H
def MidC (K : PySem.W.Frag) (C pL b c d e x : Addr) (cs : List Int) (xs : List V) (fs : List (List Tri)) (σ : L2.St) (H : Hp) : Prop := ∃ (y0 y4 y5 y6 y8 y10 y11 y12 y13 : Option V), σ = [y0, some (.ref b), some (.ref d), some (.ref e), y4, y5, y6, some (.int (fs.length : Nat)), y8, some (.str (bookS cs fs)), y10, y11, y12, y13, some (.ref x)] ∧ LamX.Tabs (tabL pL) H ∧ S3 K C b c d e x cs xs fs H
def MidD (K : PySem.W.Frag) (C pL b c d e x : Addr) (cs : List Int) (xs : List V) (fs : List (List Tri)) (σ : L2.St) (H : Hp) : Prop := ∃ (y0 y4 y5 y6 y7 y8 y13 : Option V) (o th : Addr) (cs3 : List Int), σ = [y0, some (.ref b), some (.ref d), some (.ref e), y4, y5, y6, y7, y8, some (.str (bookS cs fs)), some (.str (repBS cs.length fs.length)), some (.ref o), some (.ref th), y13, some (.ref x)] ∧ LamX.Tabs (tabL pL) H ∧ S3 K C b c d e x cs xs fs H ∧ BookAt K C H o cs fs.reverse ∧ BookAt K C H th cs3 []
section
variable {P : Program} {w : World} {K : PySem.W.Frag} {mg : Str → Option Value} {base : Heap}
set_option maxHeartbeats 0 in
theorem ok_law03 {f C fB fO fHu fS fF fK fTr fIs fBs fBt fJ fC fPd fG fSh fN fSt fRp fE cL pL tD : Addr} {fdB fdO fdHu fdS fdF fdK fdTr fdIs fdBs fdBt fdJ fdC fdPd fdG fdSh fdN fdSt fdRp fdE : FuncData} {gJ : List Value → List Value → List Value} {dsJ : List Value} {cm : Nat → Addr} {oc kV doc pm ct : Value} {od an : Option Addr} {osl : Array (Option Value)}
    (lk : K.lookup f = some ⟨oc, od, .func (PySem.W.fnOf "law" "law" (defArgs sLaw) (defBody sLaw) (defScope sLaw) .none kV doc pm an (.ref cL) ct), osl⟩) (hcd : PySem.W.codeIn K (.ref cL) "law" = true) (tb : LamX.TabB base mg cL pL) (T : BkTxt K mg C)
    (FB : Fun K "_law_bag" "_law_bag" sBag fB fdB) (bB : Binds K fdB ["_law_script"] []) (gB : mg "_law_bag" = some (.ref fB)) (GB : FnOk P w K mg base CX0 11 fB fdB ["_law_script"] (spBag K))
    (FO : Fun K "_law_of" "_law_of" sOf fO fdO) (bO : Binds K fdO ["_law_bag_here", "_law_things"] []) (gO : mg "_law_of" = some (.ref fO)) (GO : FnOk P w K mg base CX0 11 fO fdO ["_law_bag_here", "_law_things"] spOf)
    (FHu : Fun K "_law_hues" "_law_hues" sHues fHu fdHu) (bHu : Binds K fdHu ["_law_bag_here", "_law_most"] []) (gHu : mg "_law_hues" = some (.ref fHu)) (GHu : FnOk P w K mg base CX0 11 fHu fdHu ["_law_bag_here", "_law_most"] spHues)
    (FS : Fun K "_law_shapes" "_law_shapes" sShapes fS fdS) (bS : Binds K fdS ["_law_bag_here", "_law_colours", "_law_most"] []) (gS : mg "_law_shapes" = some (.ref fS)) (GS : FnOk P w K mg base CX0 11 fS fdS ["_law_bag_here", "_law_colours", "_law_most"] (spShapes K))
    (FF : Fun K "_law_far" "_law_far" sFar fF fdF) (bF : Binds K fdF ["_law_bag_here"] []) (gF : mg "_law_far" = some (.ref fF)) (GF : FnOk P w K mg base CX0 11 fF fdF ["_law_bag_here"] spFar)
    (FK : Fun K "_law_like" "_law_like" sLike fK fdK) (bK : Binds K fdK ["_law_one", "_law_due"] []) (gK : mg "_law_like" = some (.ref fK)) (GK0 : FnOk P w K mg base CX0 5 fK fdK ["_law_one", "_law_due"] (spLike K 5))
    (FTr : Fun K "_law_tried" "_law_tried" sTried fTr fdTr) (bTr : Binds K fdTr ["_law_act"] []) (gTr : mg "_law_tried" = some (.ref fTr)) (RT : RefsT K mg cm)
    (FIs : Fun K "_law_is" "_law_is" sIs fIs fdIs) (bIs : Binds K fdIs ["_law_act", "_law_due"] []) (gIs : mg "_law_is" = some (.ref fIs))
    (FBs : Fun K "_law_book_said" "_law_book_said" sLBS fBs fdBs) (bBs : Binds K fdBs ["_law_colours", "_law_shapes_here"] []) (gBs : mg "_law_book_said" = some (.ref fBs)) (GBs : FnOk P w K mg base CX0 11 fBs fdBs ["_law_colours", "_law_shapes_here"] (spLBS K))
    (FBt : Fun K "book_text" "book_text" sBTx fBt fdBt) (bBt : Binds K fdBt ["book"] []) (gBt : mg "book_text" = some (.ref fBt)) (GBt : FnOk P w K mg base CX0 11 fBt fdBt ["book"] (spBStr K C))
    (MJ : Mk K C fJ) (kJ : KBn K fdJ ["self", "colours", "figures"] 2 ["figures"] gJ (fun us ws => us ++ ws)) (bJ0 : Binds K fdJ ["self", "colours", "figures"] dsJ) (vJ0 : Vals [.ref tD] dsJ) (tT : ∀ H, SqT K H tD []) (GJ : FnOk P w K mg base CX0 10 fJ fdJ ["self", "colours", "figures"] (spInitG K C))
    (bC : Binds K fdC ["self"] []) (mC : Meth K C "colours" fC) (GC : FnOk P w K mg base CX0 11 fC fdC ["self"] (spCols K C)) (bPd : Binds K fdPd ["self"] []) (mPd : Meth K C "pads" fPd) (GPd : FnOk P w K mg base CX0 11 fPd fdPd ["self"] (spPadsM K C)) (bG : Binds K fdG ["self"] []) (mG : Meth K C "figures" fG) (GG : FnOk P w K mg base CX0 11 fG fdG ["self"] (spFigs K C))
    (bSh : Binds K fdSh ["self", "at"] []) (mSh : Meth K C "shape" fSh) (GShX : FnOk P w K mg base (L2.CX P w) 8 fSh fdSh ["self", "at"] (spShpX K C (cm 24))) (GSh : FnOk P w K mg base CX0 11 fSh fdSh ["self", "at"] (spShpG K C))
    (TN : LenTxt K C fN) (bN : Binds K fdN ["self"] []) (GN : FnOk P w K mg base CX0 10 fN fdN ["self"] (spBLen K C)) (TSt : StrTxt K C fSt) (bSt : Binds K fdSt ["self"] []) (GSt : FnOk P w K mg base CX0 9 fSt fdSt ["self"] (spBStr K C)) (TR : RepTxt K C fRp) (bRp : Binds K fdRp ["self"] []) (GRp : FnOk P w K mg base CX0 10 fRp fdRp ["self"] (spBRep K C))
    (TE : ClsE K C fE) (bE : Binds K fdE ["self", "other"] []) (GE : FnOk P w K mg base CX0 10 fE fdE ["self", "other"] (spBEq K C)) (O2 : OthT K C (.type "str")) (O3 : OthT K C (.type "NoneType"))
    (mr : mg "range" = none) (ml : mg "len" = none) (mli : mg "list" = none) (mt : mg "tuple" = none) (mst : mg "str" = none) (mrp : mg "repr" = none) :
    FnOk P w K mg base CX0 12 f (PySem.W.fnOf "law" "law" (defArgs sLaw) (defBody sLaw) (defScope sLaw) .none kV doc pm an (.ref cL) ct) ["_law_script"] (spLaw K pL) := by
  have GK := GK0.mono (show 5 ≤ 11 by decide)
  have GK10 := GK0.mono (show 5 ≤ 10 by decide)
  refine fn_of lk hcd scLaw (fun vs H Q E h => ?_) (fun A outer s H vs Q E hr h => ?_)
  · obtain ⟨a, ns, rfl, _⟩ := h
    rfl
  · obtain ⟨a, ns, rfl, hS, hlen, hP, q⟩ := h
    have hmT : (pL, (envOfC "law" (defScope sLaw) 0 0 .none).qual ++ "<lambda>") ∈ tabL pL := List.mem_singleton.mpr rfl
    have huT : ∀ p ∈ tabL pL, p.1 = pL → p.2 = (envOfC "law" (defScope sLaw) 0 0 .none).qual ++ "<lambda>" := fun p hp _ => by rw [List.mem_singleton.mp hp]
    refine ⟨_, PSs.nox (pss_cons (ps_set (i := 1) scLaw.nd rfl (.inl rfl) (pe_call GB hr (by rfl) gB FB.kp bB .nil pass0 (pa_cons (pv 0) pa_nil)))
      (pss_cons (ps_set (i := 2) scLaw.nd rfl (.inl rfl) (pe_call GHu hr (by rfl) gHu FHu.kp bHu .nil pass0 (pa_cons (pv 1) (pa_cons pe_int pa_nil))))
      (pss_cons (ps_set (i := 3) scLaw.nd rfl (.inl rfl) (pe_call GS hr (by rfl) gS FS.kp bS .nil pass0 (pa_cons (pv 1) (pa_cons (pv 2) (pa_cons pe_int pa_nil)))))
      (pss_cons (ps_set (i := 5) scLaw.nd rfl (.inl rfl) (pe_lst (pa_cons (pe_callTy call_list_of (by rfl) mli (by decide +kernel) (pa_cons (pv 2) pa_nil)) (pa_cons (pe_lc (own := [("_law_shape_here", 4)]) (g := gName 4) (tt := tYes) rfl scLaw.nd (pi_list (pv 3)) (blkOk_by (own := [("_law_shape_here", 4)]) (N := nLaw) (sc := defScope sLaw) (by decide +kernel)) (fun _ _ _ _ _ => pg_name (i := 4) scLaw.nd rfl (.inl rfl)) (fun _ _ _ _ _ => pts_nil) (fun _ _ _ _ _ => pe_callTy (r := rLof K) call_listK (by rfl) mli (by decide +kernel) (pa_cons (pv 4) pa_nil))) pa_nil))))
      (pss_cons (ps_set (i := 14) scLaw.nd rfl (.inr rfl) (pe_makeK (n := 1) MJ GJ hr (by rfl) T.mgC kJ pass0 (pa_cons (pe_ix ix_list (pv 5) pe_int (fun _ _ => rfl)) pa_nil) (pk_cons (pe_call GO hr (by rfl) gO FO.kp bO .nil pass0 (pa_cons (pv 1) (pa_cons (pe_lst (pa_cons (pe_ix ix_list (pv 5) pe_int (fun _ _ => rfl)) (pa_cons (pe_callTy call_tupS (by rfl) mt (by decide +kernel) (pa_cons (pe_ix ix_list (pv 5) pe_int (fun _ _ => rfl)) pa_nil)) pa_nil))) pa_nil))) pk_nil)))
      (pss_cons (ps_expr (pe_bm0 PySem.F.plainAttrs_list PySem.F.slot_list_reverse PySem.F.type_list_reverse mt_reverse (pe_ix ix_list (pv 5) pe_int (fun _ _ => rfl))))
      (pss_cons (ps_expr (pe_bm PySem.F.plainAttrs_list PySem.F.slot_list_append PySem.F.type_list_append mt_append (pe_ix ix_list (pv 5) pe_int (fun _ _ => rfl)) (pa_cons pe_int pa_nil)))
      (pss_cons (ps_for PassesOwn.never rfl (pi_list (pe_ix ix_list (pv 5) pe_int (fun _ _ => rfl))) (pg_name (i := 4) scLaw.nd rfl (.inl rfl)) (pss_one (ps_expr (pe_bm0 PySem.F.plainAttrs_list PySem.F.slot_list_clear PySem.F.type_list_clear mt_clear (pv 4)))))
      (C8.pss_cut (ps_expr (pe_bm0 PySem.F.plainAttrs_list PySem.F.slot_list_clear PySem.F.type_list_clear mt_clear (pe_ix ix_list (pv 5) pe_int (fun _ _ => rfl))))
      (C8.pss_cut (ps_for PassesOwn.never rfl (pi_range1 (by rfl) mr (pa_cons pe_int pa_nil)) (pg_name (i := 6) scLaw.nd rfl (.inl rfl)) (pss_cons (ps_if (pt_not (pt_val (pe_call GK hr (by rfl) gK FK.kp bK .nil pass0 (pa_cons (pe_lst (pa_cons (pe_meth0 (pv 14) T.cl mC GC hr bC .nil pass0) (pa_cons (pe_meth0 (pv 14) T.cl mPd GPd hr bPd .nil pass0) (pa_cons (pe_meth0 (pv 14) T.cl mG GG hr bG .nil pass0) pa_nil)))) (pa_cons (pe_lst (pa_cons (pe_callTy call_tupS (by rfl) mt (by decide +kernel) (pa_cons (pv 2) pa_nil)) (pa_cons (pe_callB call_lenQ (by rfl) ml PySem.boot_len (pa_cons (pv 2) pa_nil)) (pa_cons (pv 3) pa_nil)))) pa_nil))))) (pss_one (ps_ret pe_bl)) pss_nil)
      (pss_one (ps_expr (pe_bm0 PySem.F.plainAttrs_list PySem.F.slot_list_clear PySem.F.type_list_clear mt_clear (pe_meth0 (pv 14) T.cl mG GG hr bG .nil pass0))))))
      (C8.pss_cut (ps_set (i := 7) scLaw.nd rfl (.inl rfl) (pe_callB call_lenQ (by rfl) ml PySem.boot_len (pa_cons (pv 3) pa_nil)))
      (C8.pss_cut (ps_for PassesOwn.never rfl (pi_list (pe_lst (pa_cons (pe_un un_neg pe_int) (pa_cons (pv 7) (pa_cons (pe_op op_add (pv 7) (pe_call GF hr (by rfl) gF FF.kp bF .nil pass0 (pa_cons (pv 1) pa_nil))) pa_nil))))) (pg_name (i := 8) scLaw.nd rfl (.inr rfl)) (pss_one (ps_if (pt_not (pt_val (pe_is (T := tabL pL) (cm := cm) (k := 8) (n := 5) FIs gIs bIs (by rfl) RT FTr gTr bTr FK gK bK GK10 rfl tb rfl hmT huT hr (LamX.lamS_by (sc := defScope sLaw) (by decide +kernel)) rfl (fun _ _ _ _ _ => rfl) (fun A2 outer2 s2 H2 E2 f2 c2 hr2 => pe_meth (pv 14) T.cl mSh GShX hr2 bSh .nil (passes_call (takes_of rfl rfl rfl rfl) (fun _ _ _ _ h => h)) (pa_cons (pv 8) pa_nil)) (pe_tup (pa_cons pe_str (pa_cons (pv 8) pa_nil)))))) (pss_one (ps_ret pe_bl)) pss_nil)))
      (C8.pss_cut (ps_if (PW.pt (pw_or (pt_not (pt_val (pe_call GK hr (by rfl) gK FK.kp bK .nil pass0 (pa_cons (pe_lc (own := [("_law_at", 8)]) (g := gName 8) (tt := tYes) rfl scLaw.nd (pi_range1 (by rfl) mr (pa_cons (pv 7) pa_nil)) (blkOk_by (own := [("_law_at", 8)]) (N := nLaw) (sc := defScope sLaw) (by decide +kernel)) (fun _ _ _ _ _ => pg_name (i := 8) scLaw.nd rfl (.inl rfl)) (fun _ _ _ _ _ => pts_nil) (fun _ _ _ _ _ => pe_meth (pv 14) T.cl mSh GSh hr bSh .nil pass0 (pa_cons (pv 8) pa_nil))) (pa_cons (pv 3) pa_nil))))) (pw_or1 (pt_not (pt_val (pe_call GK hr (by rfl) gK FK.kp bK .nil pass0 (pa_cons (pe_callB (call_lenOwn TN.len TN.fn GN bN pass0 hr) (by rfl) ml (by decide +kernel) (pa_cons (pv 14) pa_nil)) (pa_cons (pv 7) pa_nil)))))))) (pss_one (ps_ret pe_bl)) pss_nil)
      (pss_cons (ps_set (i := 9) scLaw.nd rfl (.inl rfl) (pe_call GBs hr (by rfl) gBs FBs.kp bBs .nil pass0 (pa_cons (pv 2) (pa_cons (pv 3) pa_nil))))
      (C8.pss_cut (ps_if (pt_not (pt_val (pe_call GK hr (by rfl) gK FK.kp bK .nil pass0 (pa_cons (pe_lst (pa_cons (pe_callTy (call_strOwn TSt.str TSt.fn GSt bSt pass0 hr) (by rfl) mst (by decide +kernel) (pa_cons (pv 14) pa_nil)) (pa_cons (pe_call GBt hr (by rfl) gBt FBt.kp bBt .nil pass0 (pa_cons (pv 14) pa_nil)) pa_nil))) (pa_cons (pe_lst (pa_cons (pv 9) (pa_cons (pv 9) pa_nil))) pa_nil))))) (pss_one (ps_ret pe_bl)) pss_nil)
      (pss_cons (ps_set (i := 10) scLaw.nd rfl (.inl rfl) (pe_op op_add_str (pe_op op_add_str (pe_op op_add_str (pe_op op_add_str pe_str (pe_callTy call_strI (by rfl) mst (by decide +kernel) (pa_cons (pe_callB call_lenQ (by rfl) ml PySem.boot_len (pa_cons (pv 2) pa_nil)) pa_nil))) pe_str) (pe_callTy call_strI (by rfl) mst (by decide +kernel) (pa_cons (pv 7) pa_nil))) pe_str))
      (pss_cons (ps_set (i := 11) scLaw.nd rfl (.inl rfl) (pe_makeK (n := 1) MJ GJ hr (by rfl) T.mgC kJ pass0 (pa_cons (pe_callTy call_tupS (by rfl) mt (by decide +kernel) (pa_cons (pv 2) pa_nil)) pa_nil) (pk_cons (pe_revL (pv 3)) pk_nil)))
      (C8.pss_cut (ps_set (i := 12) scLaw.nd rfl (.inl rfl) (pe_make MJ GJ hr (by rfl) T.mgC bJ0 vJ0 pass0 (pa_cons (pe_ifExp (pt_cmpR op_lt (pe_callB call_lenQ (by rfl) ml PySem.boot_len (pa_cons (pv 2) pa_nil)) pe_int (nomark _)) (pe_op op_cat (pv 2) (pe_lst (pa_cons pe_int pa_nil))) (pe_op op_cat (pe_slice sl_list (pv 2) po_none (po_some (pe_un un_neg pe_int))) (pe_lst (pa_cons (pe_op op_add (pe_op op_mod (pe_ix ix_list (pv 2) (pe_un un_neg pe_int) (fun _ _ => rfl)) pe_int) pe_int) pa_nil)))) pa_nil)))
      (C8.pss_cut (ps_if (pt_not (pt_val (pe_call GK hr (by rfl) gK FK.kp bK .nil pass0 (pa_cons (pe_lst (pa_cons (pe_callB (call_reprOwn TR.rep TR.fn GRp bRp pass0 hr) (by rfl) mrp (by decide +kernel) (pa_cons (pv 14) pa_nil)) (pa_cons (pe_callB (call_reprOwn TR.rep TR.fn GRp bRp pass0 hr) (by rfl) mrp (by decide +kernel) (pa_cons (pe_make MJ GJ hr (by rfl) T.mgC bJ0 vJ0 pass0 (pa_cons (pe_lst (pa_cons pe_int pa_nil)) pa_nil)) pa_nil)) pa_nil))) (pa_cons (pe_lst (pa_cons (pv 10) (pa_cons pe_str pa_nil))) pa_nil))))) (pss_one (ps_ret pe_bl)) pss_nil)
      (pss_cons (ps_set (i := 13) scLaw.nd rfl (.inl rfl) (pe_cmpR (op_eqD hr.units) (pv 3) (pe_revL (pv 3)) (nomark _)))
      (pss_cons (ps_if (PW.pt (pw_or (pt_cmpR op_ne (pe_cmpR (op_eqOwn TE.toEqTxt GE bE pass0 (hr.mono (by decide))) (pv 14) (pv 11) (nomark _)) (pv 13) (nomark _)) (pw_or (pt_cmpR op_eq (pe_cmpR (op_neOwn TE.toEqTxt GE bE pass0 hr) (pv 14) (pv 11) (nomark _)) (pv 13) (nomark _)) (pw_or (pt_cmpR (op_eqOwn TE.toEqTxt GE bE pass0 (hr.mono (by decide))) (pv 14) (pv 12) (nomark _)) (pw_or (pt_cmpR (op_eqOwn TE.toEqTxt GE bE pass0 (hr.mono (by decide))) (pv 14) (pv 9) (nomark _)) (pw_or1 (pt_cmpR (op_eqOwn TE.toEqTxt GE bE pass0 (hr.mono (by decide))) (pv 14) pe_non (nomark _)))))))) (pss_one (ps_ret pe_bl)) pss_nil)
      (pss_one (ps_ret (pe_and (pe_cmpR (op_eqOwn TE.toEqTxt GE bE pass0 (hr.mono (by decide))) (pv 14) (pe_makeK (n := 1) MJ GJ hr (by rfl) T.mgC kJ pass0 (pa_cons (pv 2) pa_nil) (pk_cons (pv 3) pk_nil)) (nomark _)) (pe_one (pe_not (pe_cmpR (op_neOwn TE.toEqTxt GE bE pass0 hr) (pv 14) (pe_makeK (n := 1) MJ GJ hr (by rfl) T.mgC kJ pass0 (pa_cons (pv 2) pa_nil) (pk_cons (pv 3) pk_nil)) (nomark _)))))))))))))))))))))))))))), ?_⟩
    refine ⟨.ref a, rfl, a, ns, rfl, hS, hlen, fun H1 b c s1 hB _ => ?_⟩
    have hT1 : LamX.Tabs (tabL pL) H1 := fun p hp => by
      rw [List.mem_singleton.mp hp]
      exact LamX.TabS.nil (s1 _ _ hP)
    refine ⟨.ref b, rfl, b, c, 6, rfl, hB, by decide, by decide, fun H2 d cs off2 hB2 nd hdb hd hc1 hc6 hcs => ?_⟩
    refine ⟨.ref b, rfl, .ref d, rfl, b, c, d, cs, 6, rfl, hB2, hd, hdb, hc1, hc6, hcs, by decide, fun H3 e xs fs off3 hB3 ne heb he hfx hgf hfl hfne => ?_⟩
    have hT3 := tabs_off (tabs_off hT1 hB off2) hB2 off3
    have hd3 := off3 _ _ hdb hd
    have gc : GoodC cs := ⟨hc1, hc6, hcs⟩
    have hfne := hfne (by decide)
    have hxl := hfx.len
    clear hT1 hB hB2 off2 off3 hd s1 hS hP nd ne
    -- what is handed in
    refine ⟨.ref d, rfl, d, _, rfl, .inl (SqL.of hd3), fun l0 nl0 => ?_⟩
    have u0 := same_upd (o := .lst (cs.map V.int)) nl0
    have hl0 : (upd H3 l0 (.lst (cs.map V.int))) l0 = some (.lst (cs.map V.int)) := upd_same
    generalize upd H3 l0 (.lst (cs.map V.int)) = H4 at u0 hl0 ⊢
    refine ⟨.ref e, rfl, e, rfl, ⟨_, SqL.of (u0 _ _ he)⟩, fun D nD => ?_⟩
    have nD3 := u0.free nD
    have Dl0 : l0 ≠ D := fun z => by rw [z, nD] at hl0; cases hl0
    refine lc_list (K := K) (a := e) (xs := xs) (fun i H' => Same H4 H' ∧ ∃ zs, H' D = some (.lst zs) ∧ All2 (fun z f => ∃ l gx, z = V.ref l ∧ H4 l = none ∧ l ≠ D ∧ H' l = some (.lst gx) ∧ All2 (TriAt K H') gx f) zs (fs.take i)) ⟨same_upd nD, [], upd_same, True.intro⟩ (fun i H' _ hP => hP.1.seq (SqL.of (u0 _ _ he))) (fun i x H' hx hP => ?_) (fun H5 hP => ?_)
    · obtain ⟨sm, zs, hD, hz⟩ := hP
      obtain ⟨g, hg, hgT⟩ := hfx.get hx
      obtain ⟨fa, gx, rfl, hfa, hgx⟩ := hgT.ts (TS.of (u0.trans sm))
      refine ⟨rfl, yesT ⟨.ref fa, rfl, fa, gx, rfl, .inr hfa, fun l nl => ?_⟩⟩
      have u1 := same_upd (o := .lst gx) nl
      have hD1 := u1 _ _ hD
      have lD : l ≠ D := fun z => by rw [z, hD] at nl; cases nl
      refine ⟨_, hD1, ?_, Same.offUpd (sm.trans u1) nD, zs ++ [.ref l], upd_same, ?_⟩
      · have := hz.len
        rw [List.length_take] at this
        exact small1000 (by omega)
      · rw [take_snoc hg]
        refine All2.snoc ⟨l, gx, rfl, sm.free nl, lD, by rw [upd_ne lD]; exact upd_same, hgx.mono fun _ _ => TriAt.ts ((TS.of u1).trans (TS.upd hD1))⟩ (hz.mono fun z f' ⟨l', gx', e1, e2, e3, e4, e5⟩ => ⟨l', gx', e1, e2, e3, by rw [upd_ne e3]; exact u1 _ _ e4, e5.mono fun _ _ => TriAt.ts ((TS.of u1).trans (TS.upd hD1))⟩)
    obtain ⟨s5, zs, hD, hz⟩ := hP
    rw [hxl, List.take_length] at hz
    refine ⟨(show (2 : Nat) ≤ sizeLine by decide), fun hnd nh => ?_⟩
    have u6 := same_upd (o := .lst [V.ref l0, .ref D]) nh
    have hh6 : (upd H5 hnd (.lst [V.ref l0, .ref D])) hnd = some (.lst [V.ref l0, .ref D]) := upd_same
    have s46 := s5.trans u6
    have s36 := u0.trans s46
    have nh3 : H3 hnd = none := (u0.trans s5).free nh
    have hl0h : l0 ≠ hnd := fun z => by rw [← z, s5 _ _ hl0] at nh; cases nh
    have hDh : D ≠ hnd := fun z => by rw [← z, hD] at nh; cases nh
    have hz6 : All2 (fun z f => ∃ l gx, z = V.ref l ∧ H3 l = none ∧ l ≠ l0 ∧ l ≠ D ∧ l ≠ hnd ∧ (upd H5 hnd (.lst [V.ref l0, .ref D])) l = some (.lst gx) ∧ All2 (TriAt K (upd H5 hnd (.lst [V.ref l0, .ref D]))) gx f) zs fs := hz.mono fun z f' ⟨l, gx, e1, e2, e3, e4, e5⟩ =>
      ⟨l, gx, e1, u0.free e2, (fun q => by rw [q, hl0] at e2; cases e2), e3, (fun q => by rw [← q, e4] at nh; cases nh), u6 _ _ e4, e5.mono fun _ _ => TriAt.ts (TS.of u6)⟩
    have hl06 := s46 _ _ hl0
    have hD6 := u6 _ _ hD
    generalize upd H5 hnd (.lst [V.ref l0, .ref D]) = H6 at hh6 s46 s36 hz6 hl06 hD6 ⊢
    clear hz hD s5 u6 u0 hl0 nh nD s46 H4
    have hB6 := hB3.same s36
    have hT6 := hT3.ext s36
    refine ⟨.ref hnd, rfl, hnd, _, 0, .ref l0, rfl, rfl, SqL.of hh6, atI_nat (j := 0) rfl, ?_⟩
    refine ⟨.ref b, rfl, .ref hnd, rfl, hnd, _, 1, .ref D, rfl, rfl, SqL.of hh6, atI_nat (j := 1) rfl, .ref hnd, rfl, hnd, _, 1, .ref D, rfl, rfl, SqL.of hh6, atI_nat (j := 1) rfl, ?_⟩
    refine ⟨D, _, rfl, .inl (SqL.of hD6), fun tp H7 s7 htp => ⟨(show (2 : Nat) ≤ sizeLine by decide), fun t nt => ?_⟩⟩
    have u7 := same_upd (o := .lst [V.ref D, .ref tp]) nt
    have s67 := s7.trans u7
    have hB7 := hB6.same s67
    refine ⟨b, c, t, _, rfl, hB7, upd_same, ((hB6.same s7).ne nt).1, (show (0 : Nat) < 2 by decide), (show (2 : Nat) ≤ 1000 by decide), fun H8 v off8 hB8 hv => ?_⟩
    have s37 := s36.trans s67
    have ch : ChL H6 H8 := (ChL.same s67).trans (ChL.off hB7 off8)
    -- none of the new ones is the bag
    have nb : ∀ a, H3 a = none → a ≠ b := fun a na => (hB3.ne na).1
    have kp : ∀ a o, a ≠ b → H6 a = some o → H8 a = some o := fun a o n e => off8 _ _ n (s67 _ _ e)
    have hT8 := tabs_ch hT6 ch
    have hh8 := kp _ _ (nb _ nh3) hh6
    have hl08 := kp _ _ (nb _ nl0) hl06
    have hD8 := kp _ _ (nb _ nD3) hD6
    have hd8 := kp _ _ hdb (s36 _ _ hd3)
    have he8 := kp _ _ heb (s36 _ _ he)
    have hfx8 : All2 (FigT K H8) xs fs := (hfx.mono fun _ _ => FigT.ts (TS.of s36)).mono fun _ _ => FigT.ts (TS.ch ch)
    have hz8 : All2 (fun z f => ∃ l gx, z = V.ref l ∧ H3 l = none ∧ l ≠ l0 ∧ l ≠ D ∧ l ≠ hnd ∧ H8 l = some (.lst gx) ∧ All2 (TriAt K H8) gx f) zs fs := hz6.mono fun z f' ⟨l, gx, e1, e2, e3, e4, e5, e6, e7⟩ => ⟨l, gx, e1, e2, e3, e4, e5, kp _ _ (nb _ e2) e6, e7.mono fun _ _ => TriAt.ts (TS.ch ch)⟩
    have hva : ∃ va, v = .ref va ∧ SqA K H8 va zs := by
      simp only [List.mem_cons, List.not_mem_nil, or_false] at hv
      rcases hv with rfl | rfl
      · exact ⟨D, rfl, .inl (SqL.of hD8)⟩
      · exact ⟨tp, rfl, .inr (TS.ch ((ChL.same u7).trans (ChL.off hB7 off8)) _ _ htp)⟩
    obtain ⟨va, rfl, hva⟩ := hva
    clear hz6 hh6 hl06 hD6 htp hv s7 u7 nt
    refine ⟨rfl, rfl, fun x dx nx ndx nxd => ?_⟩
    have xb := (hB8.ne nx).1
    refine bmakeG (C := C) (fs := fs) (.inl (SqL.of hl08)) hva (hz8.mono fun z f' ⟨l, gx, e1, e2, e3, e4, e5, e6, e7⟩ => ⟨l, gx, e1, .inl (SqL.of e6), e7⟩) gc hgf (by omega) nx ndx nxd (fun H9 s9 hX => ⟨rfl, ?_⟩)
    -- the lists that were handed in are changed
    have fin : ∀ H', (∀ a o, H3 a ≠ none → H8 a = some o → H' a = some o) → ChL H9 H' → LamX.Tabs (tabL pL) H' ∧ S3 K C b c d e x cs xs fs H' := fun H' ho hc => by
      have n3 : ∀ {a : Addr} {o : HO}, H3 a = some o → H3 a ≠ none := fun h z => by rw [h] at z; cases z
      obtain ⟨cells3, a3, r3, q3, b1, b2, _⟩ := hB3.ex
      obtain ⟨cells, a8, r8, q8, h1, h2, h3⟩ := hB8.ex
      have cc : ChL H8 H' := (ChL.same s9).trans hc
      exact ⟨tabs_ch hT8 cc, ⟨cells, a8, r8, q8, ho _ _ (n3 b1) h1, ho _ _ (n3 b2) h2, h3⟩, ho _ _ (n3 hd3) hd8, ho _ _ (n3 he) he8, hfx8.mono fun _ _ => FigT.ts (TS.ch cc), hX.ch hc, hdb, heb, xb, gc, hgf, hfl, hfne⟩
    have ho9 : ∀ a o, H3 a ≠ none → H8 a = some o → H9 a = some o := fun a o _ e => s9 _ _ e
    have hou : ∀ {H' : Hp} {l : Addr} {o : HO}, (∀ a o, H3 a ≠ none → H8 a = some o → H' a = some o) → H3 l = none → ∀ a u, H3 a ≠ none → H8 a = some u → (upd H' l o) a = some u := fun h n a u n3 e => by
      rw [upd_ne (fun z => n3 (by rw [z]; exact n))]
      exact h a u n3 e
    have hz9 : ∀ z ∈ zs, ∃ l ys, z = V.ref l ∧ H3 l = none ∧ l ≠ l0 ∧ l ≠ D ∧ l ≠ hnd ∧ H9 l = some (.lst ys) := fun z hz => by
      obtain ⟨i, hi, rfl⟩ := List.mem_iff_getElem.mp hz
      obtain ⟨f', _, l, gx, e1, e2, e3, e4, e5, e6, _⟩ := hz8.get (List.getElem?_eq_getElem hi)
      exact ⟨l, gx, e1, e2, e3, e4, e5, s9 _ _ e6⟩
    have hh9 := s9 _ _ hh8
    have hl09 := s9 _ _ hl08
    have hD9 := s9 _ _ hD8
    clear hz8 hh8 hl08 hD8 hva s9 nx ndx nxd
    refine ⟨.ref hnd, rfl, hnd, _, 0, .ref l0, rfl, rfl, SqL.of hh9, atI_nat (j := 0) rfl, .inl ⟨rfl, _, SqL.of hl09⟩, l0, _, rfl, rfl, hl09, ?_⟩
    have c10 : ChL H9 (upd H9 l0 (.lst (cs.map V.int).reverse)) := ChL.upd hl09
    have o10 := hou (o := .lst (cs.map V.int).reverse) ho9 nl0
    have hl010 : (upd H9 l0 (.lst (cs.map V.int).reverse)) l0 = some (.lst (cs.map V.int).reverse) := upd_same
    have hh10 : (upd H9 l0 (.lst (cs.map V.int).reverse)) hnd = some (.lst [V.ref l0, .ref D]) := by rw [upd_ne hl0h.symm]; exact hh9
    have hD10 : (upd H9 l0 (.lst (cs.map V.int).reverse)) D = some (.lst zs) := by rw [upd_ne Dl0.symm]; exact hD9
    have hz10 : ∀ z ∈ zs, ∃ l ys, z = V.ref l ∧ H3 l = none ∧ l ≠ l0 ∧ l ≠ D ∧ l ≠ hnd ∧ (upd H9 l0 (.lst (cs.map V.int).reverse)) l = some (.lst ys) := fun z hz => by
      obtain ⟨l, ys, e1, e2, e3, e4, e5, e6⟩ := hz9 z hz
      exact ⟨l, ys, e1, e2, e3, e4, e5, by rw [upd_ne e3]; exact e6⟩
    generalize upd H9 l0 (.lst (cs.map V.int).reverse) = H10 at c10 o10 hl010 hh10 hD10 hz10 ⊢
    refine ⟨.ref hnd, rfl, hnd, _, 0, .ref l0, rfl, rfl, SqL.of hh10, atI_nat (j := 0) rfl, .inl ⟨rfl, _, SqL.of hl010⟩, l0, _, _, rfl, rfl, hl010, ?_, ?_⟩
    · rw [List.length_reverse, List.length_map]
      exact small1000 (by omega)
    have c11 : ChL H9 (upd H10 l0 (.lst ((cs.map V.int).reverse ++ [V.int 9]))) := c10.trans (ChL.upd hl010)
    have o11 := hou (o := .lst ((cs.map V.int).reverse ++ [V.int 9])) o10 nl0
    have hh11 : (upd H10 l0 (.lst ((cs.map V.int).reverse ++ [V.int 9]))) hnd = some (.lst [V.ref l0, .ref D]) := by rw [upd_ne hl0h.symm]; exact hh10
    have hD11 : (upd H10 l0 (.lst ((cs.map V.int).reverse ++ [V.int 9]))) D = some (.lst zs) := by rw [upd_ne Dl0.symm]; exact hD10
    have hz11 : ∀ z ∈ zs, ∃ l ys, z = V.ref l ∧ H3 l = none ∧ l ≠ l0 ∧ l ≠ D ∧ l ≠ hnd ∧ (upd H10 l0 (.lst ((cs.map V.int).reverse ++ [V.int 9]))) l = some (.lst ys) := fun z hz => by
      obtain ⟨l, ys, e1, e2, e3, e4, e5, e6⟩ := hz10 z hz
      exact ⟨l, ys, e1, e2, e3, e4, e5, by rw [upd_ne e3]; exact e6⟩
    generalize upd H10 l0 (.lst ((cs.map V.int).reverse ++ [V.int 9])) = H11 at c11 o11 hh11 hD11 hz11 ⊢
    clear c10 o10 hl010 hh10 hD10 hz10 hz9 hh9 hl09 hD9
    refine ⟨.ref hnd, rfl, hnd, _, 1, .ref D, rfl, rfl, SqL.of hh11, atI_nat (j := 1) rfl, D, rfl, ⟨_, SqL.of hD11⟩, ?_⟩
    refine for_list (K := K) (a := D) (xs := zs) (fun i σ H' => ∃ (y4 : Option V), σ = [some (.ref a), some (.ref b), some (.ref d), some (.ref e), y4, some (.ref hnd), none, none, none, none, none, none, none, none, some (.ref x)] ∧ ChL H9 H' ∧ (∀ a o, H3 a ≠ none → H8 a = some o → H' a = some o) ∧ H' hnd = some (.lst [V.ref l0, .ref D]) ∧ H' D = some (.lst zs) ∧ ∀ z ∈ zs, ∃ l ys, z = V.ref l ∧ H3 l = none ∧ l ≠ l0 ∧ l ≠ D ∧ l ≠ hnd ∧ H' l = some (.lst ys)) ⟨_, rfl, c11, o11, hh11, hD11, hz11⟩ (fun i σ H' _ hP => ?_) (fun i z σ H' hx hP => ?_) (fun σ H' hP => ?_)
    · obtain ⟨_, _, _, _, _, hD, _⟩ := hP
      exact SqL.of hD
    · obtain ⟨y4, rfl, c12, o12, hh12, hD12, hz12⟩ := hP
      obtain ⟨l, ys, rfl, n3, e3, e4, e5, e6⟩ := hz12 z (List.mem_of_getElem? hx)
      refine ⟨.ref l, rfl, .inl ⟨rfl, _, SqL.of e6⟩, l, _, rfl, rfl, e6, _, rfl, c12.trans (ChL.upd e6), hou o12 n3, by rw [upd_ne e5.symm]; exact hh12, by rw [upd_ne e4.symm]; exact hD12, fun z' hz' => ?_⟩
      obtain ⟨l', ys', f1, f2, f3, f4, f5, f6⟩ := hz12 z' hz'
      by_cases ll : l' = l
      · subst ll
        exact ⟨l', [], f1, f2, f3, f4, f5, upd_same⟩
      · exact ⟨l', ys', f1, f2, f3, f4, f5, by rw [upd_ne ll]; exact f6⟩
    obtain ⟨y4, rfl, c12, o12, hh12, hD12, _⟩ := hP
    refine ⟨MidA K C pL b c d e x cs xs fs, ?_, ?_⟩
    · refine ⟨.ref hnd, rfl, hnd, _, 1, .ref D, rfl, rfl, SqL.of hh12, atI_nat (j := 1) rfl, .inl ⟨rfl, _, SqL.of hD12⟩, D, _, rfl, rfl, hD12, ?_⟩
      obtain ⟨h1, h2⟩ := fin _ (hou o12 nD3) (c12.trans (ChL.upd hD12))
      exact ⟨_, _, _, _, _, _, _, _, _, _, _, rfl, h1, h2⟩
    clear hl0h hDh Dl0 nl0 nD3 nh3 hh12 hD12 o12 c12 fin ho9 hou kp nb ch hT8 hB8 hd8 he8 hfx8 off8 hB7 s67 s37 hB6 hT6 s36 hfx he hd3 hB3 hT3 o11 c11 hh11 hD11 hz11 hX hgf hcs hc1 hc6 gc hxl hfl hfne xb hdb heb
    rintro σ H ⟨y0, y4, y5, y6, y7, y8, y9, y10, y11, y12, y13, rfl, hT, S⟩
    -- colours, pads, figures, twice
    refine ⟨MidA K C pL b c d e x cs xs fs, ?_, ?_⟩
    · refine ⟨2, rfl, by decide, by decide, for_range (lo := 0) (n := 2) (fun _ σ H' => MidA K C pL b c d e x cs xs fs σ H') ⟨_, _, _, _, _, _, _, _, _, _, _, rfl, hT, S⟩ ?_ ?_⟩
      · rintro i σ H0 hi ⟨y0, y4, y5, y6, y7, y8, y9, y10, y11, y12, y13, rfl, hT, S⟩
        obtain ⟨dx, ax, bx, xx, hx, _⟩ := id S.bk
        have f6 := S.fl
        have c6 := S.gc.2.1
        refine ⟨.ref x, rfl, x, dx, _, rfl, hx, rfl, x, cs, fs, rfl, S.bk, fun ca hca => ?_⟩
        refine ⟨.ref x, rfl, x, dx, _, rfl, hx, rfl, x, cs, fs, rfl, S.bk, ?_⟩
        refine ⟨.ref x, rfl, x, dx, _, rfl, hx, rfl, x, cs, fs, rfl, S.bk, by omega, fun H1 q1 ws1 s1 n1 hq1 hw1 => ?_⟩
        refine ⟨(show (3 : Nat) ≤ sizeLine by decide), fun l1 nl1 => ?_⟩
        have u1 := same_upd (o := .lst [V.ref ca, .int (cs.length : Nat), .ref q1]) nl1
        have hl1 : (upd H1 l1 (.lst [V.ref ca, .int (cs.length : Nat), .ref q1])) l1 = some (.lst [V.ref ca, .int (cs.length : Nat), .ref q1]) := upd_same
        generalize upd H1 l1 (.lst [V.ref ca, .int (cs.length : Nat), .ref q1]) = H2 at u1 hl1 ⊢
        have s2 := s1.trans u1
        have S2 := S.ext (LamX.ExtN.of s2)
        refine ⟨.ref d, rfl, d, _, rfl, .inl (SqL.of S2.hd), fun ta H3 s3 hta => ?_⟩
        have S3 := S2.ext (LamX.ExtN.of s3)
        refine ⟨.ref d, rfl, d, _, rfl, .inl (SqL.of S3.hd), ?_⟩
        rw [List.length_map]
        refine ⟨.ref e, rfl, (show (3 : Nat) ≤ sizeLine by decide), fun l2 nl2 => ?_⟩
        have u2 := same_upd (o := .lst [V.ref ta, .int (cs.length : Nat), .ref e]) nl2
        have s4 := s3.trans u2
        have S4 := S3.ext (LamX.ExtN.of u2)
        refine ⟨_, _, rfl, lk_tres (n := 4) (SqL.of (s4 _ _ hl1)) (SqL.of upd_same) (lk_intT (Same.tup (s2.trans s4) hca) (Same.tup u2 hta) (by omega)) (lk_int _) (lk_figs (n := 0) (SqL.of ((u1.trans s4) _ _ hq1)) (SqL.of S4.he) (hw1.mono fun _ _ => FigT.ts (TS.of (u1.trans s4))) S4.fx (by omega) (fun f hf => by have := (S.gf.all f hf).len; omega)), fun H5 s5 => ⟨_, rfl, iteF ?_⟩⟩
        have S5 := S4.ext (LamX.ExtN.of s5)
        have hT5 := hT.ext (s2.trans (s4.trans s5))
        obtain ⟨dx5, ax5, bx5, xx5, hx5, _⟩ := id S5.bk
        refine ⟨.ref x, rfl, x, dx5, _, rfl, hx5, rfl, x, cs, fs, rfl, S5.bk, by omega, fun H6 q2 ws2 s6 n2 hq2 hw2 => ?_⟩
        have s7 : Same H5 (upd H6 q2 (.lst [])) := Same.offUpd s6 n2
        exact ⟨.inl ⟨rfl, _, SqL.of hq2⟩, q2, _, rfl, rfl, hq2, _, _, _, _, _, _, _, _, _, _, _, rfl, hT5.ext s7, S5.ext (LamX.ExtN.of s7)⟩
      · rintro σ H0 hM
        exact hM
    rintro σ H ⟨y0, y4, y5, y6, y7, y8, y9, y10, y11, y12, y13, rfl, hT, S⟩
    refine ⟨MidB K C pL b c d e x cs xs fs, ?_, ?_⟩
    · refine ⟨.ref e, rfl, e, _, rfl, .inl (SqL.of S.he), ?_⟩
      rw [S.fx.len]
      exact ⟨_, _, _, _, _, _, _, _, _, _, rfl, hT, S⟩
    rintro σ H ⟨y0, y4, y5, y6, y8, y9, y10, y11, y12, y13, rfl, hT, S⟩
    -- NoFigure
    refine ⟨MidB K C pL b c d e x cs xs fs, ?_, ?_⟩
    · refine ⟨1, rfl, .int (fs.length : Nat), rfl, .int (fs.length : Nat), rfl, .ref b, rfl, b, c, rfl, S.bag, fun H1 r off1 hB1 => ⟨_, _, rfl, rfl, (show (3 : Nat) ≤ sizeLine by decide), fun t nt => ?_⟩⟩
      have u := same_upd (o := .lst [V.int (-1), .int (fs.length : Nat), .int ((fs.length : Nat) + (r : Nat))]) nt
      have ht : (upd H1 t (.lst [V.int (-1), .int (fs.length : Nat), .int ((fs.length : Nat) + (r : Nat))])) t = some (.lst [V.int (-1), .int (fs.length : Nat), .int ((fs.length : Nat) + (r : Nat))]) := upd_same
      have hT1 := (tabs_off hT S.bag off1).ext u
      have S1 := (S.off off1 hB1).ext (LamX.ExtN.of u)
      refine ⟨t, rfl, ⟨_, SqL.of ht⟩, ?_⟩
      refine for_list (K := K) (a := t) (xs := [V.int (-1), .int (fs.length : Nat), .int ((fs.length : Nat) + (r : Nat))]) (fun i σ H' => MidB K C pL b c d e x cs xs fs σ H' ∧ H' t = some (.lst [V.int (-1), .int (fs.length : Nat), .int ((fs.length : Nat) + (r : Nat))])) ⟨⟨_, _, _, _, _, _, _, _, _, _, rfl, hT1, S1⟩, ht⟩ (fun i σ H' _ hP => SqL.of hP.2) (fun i z σ H' hx hP => ?_) (fun σ H' hP => hP.1)
      obtain ⟨⟨y0, y4, y5, y6, y8, y9, y10, y11, y12, y13, rfl, hT, S⟩, ht⟩ := hP
      obtain ⟨z, rfl, hz⟩ : ∃ w : Int, z = .int w ∧ ¬ (0 ≤ w ∧ w < (fs.length : Nat)) := by
        have := List.mem_of_getElem? hx
        simp only [List.mem_cons, List.not_mem_nil, or_false] at this
        rcases this with rfl | rfl | rfl
        · exact ⟨_, rfl, by omega⟩
        · exact ⟨_, rfl, by omega⟩
        · exact ⟨_, rfl, by omega⟩
      refine ⟨hT, fun H2 eN hT2 => ⟨.int z, rfl, (show (2 : Nat) ≤ sizeLine by decide), fun t2 nt2 => ⟨LamX.ExtN.of (same_upd nt2), fun Q' hQ => ?_⟩⟩⟩
      have u2 := same_upd (o := .tup [V.str "NoFigure", .int z]) nt2
      have ht2 : (upd H2 t2 (.tup [V.str "NoFigure", .int z])) t2 = some (.tup [V.str "NoFigure", .int z]) := upd_same
      have S2 := (S.ext eN).ext (LamX.ExtN.of u2)
      have hT3 := hT2.ext u2
      have ht3 : (upd H2 t2 (.tup [V.str "NoFigure", .int z])) t = some (.lst [V.int (-1), .int (fs.length : Nat), .int ((fs.length : Nat) + (r : Nat))]) := u2 _ _ (eN _ _ ht fun _ z => nomatch z)
      generalize upd H2 t2 (.tup [V.str "NoFigure", .int z]) = H3 at ht2 S2 hT3 ht3 hQ ⊢
      obtain ⟨dx, ax, bx, xx, hx1, _⟩ := id S2.bk
      refine ⟨.ref x, rfl, x, dx, _, rfl, hx1, rfl, .int z, rfl, x, cs, fs, z, rfl, S2.bk, fun j ej hj => absurd ⟨by omega, by omega⟩ hz, fun _ d' H4 s4 hx4 => ?_⟩
      refine ⟨24, [.int z], d', by decide, rfl, rfl, rfl, hx4, fun p np => hQ _ _ ⟨.ref p, .ref t2, rfl, lk_pair (n := 3) (z := rNm 24) (SqT.of upd_same) (SqT.of ((s4.trans (same_upd np)) _ _ ht2)) (lk_int z), fun H6 s6 => ⟨_, rfl, iteF ?_⟩⟩⟩
      have s46 := s4.trans ((same_upd (o := .tup (.str (rNm 24) :: [V.int z])) np).trans s6)
      exact ⟨⟨_, _, _, _, _, _, _, _, _, _, rfl, hT3.ext s46, S2.ext (LamX.ExtN.of s46)⟩, s46 _ _ ht3⟩
    rintro σ H ⟨y0, y4, y5, y6, y8, y9, y10, y11, y12, y13, rfl, hT, S⟩
    -- each figure; how many
    refine ⟨MidB K C pL b c d e x cs xs fs, ?_, ?_⟩
    · have f6 := S.fl
      have c6 := S.gc.2.1
      refine ⟨.int (fs.length : Nat), rfl, (fs.length : Nat), rfl, by omega, by omega, fun D nD => ?_⟩
      rw [Int.toNat_natCast]
      refine lc_range (lo := 0) (n := fs.length) (fun i H' => Same H H' ∧ ∃ zs, H' D = some (.lst zs) ∧ All2 (FigT K H') zs (fs.take i)) ⟨same_upd nD, [], upd_same, True.intro⟩ (fun i H' hi hP => ?_) (fun H1 hP => ?_)
      · obtain ⟨sm, zs, hD, hz⟩ := hP
        have S1 := S.ext (LamX.ExtN.of sm)
        obtain ⟨dx, ax, bx, xx, hx, _⟩ := id S1.bk
        refine ⟨rfl, yesT ⟨.ref x, rfl, x, dx, _, rfl, hx, rfl, .int (0 + (i : Int)), rfl, ?_⟩⟩
        rw [show (0 : Int) + (i : Int) = ((i : Nat) : Int) from Int.zero_add _]
        refine ⟨x, cs, fs, i, rfl, S1.bk, hi, fun v hv => ⟨_, hD, ?_, Same.offUpd sm nD, zs ++ [v], upd_same, ?_⟩⟩
        · rw [hz.len, List.length_take]
          exact small1000 (by omega)
        · rw [take_snoc (List.getElem?_eq_getElem hi)]
          rw [getD_at hi] at hv
          exact All2.snoc (hv.ts (TS.upd hD)) (hz.mono fun _ _ => FigT.ts (TS.upd hD))
      obtain ⟨s1, zs, hD, hz⟩ := hP
      rw [List.take_length] at hz
      have S1 := S.ext (LamX.ExtN.of s1)
      refine ⟨.ref e, rfl, _, _, rfl, lk_figs (n := 1) (SqL.of hD) (SqL.of S1.he) hz S1.fx (by omega) (fun f hf => by have := (S.gf.all f hf).len; omega), fun H2 s2 => ⟨_, rfl, iteF ?_⟩⟩
      have S2 := S1.ext (LamX.ExtN.of s2)
      obtain ⟨dx, ax, bx, xx, hx, _⟩ := id S2.bk
      refine ⟨.ref x, rfl, x, dx, _, rfl, hx, x, cs, fs, rfl, S2.bk, fs.length, rfl, by omega, .int (fs.length : Nat), rfl, _, _, rfl, lk_int (n := 4) _, fun H3 s3 => ⟨_, rfl, iteF ?_⟩⟩
      exact ⟨_, _, _, _, _, _, _, _, _, _, rfl, hT.ext (s1.trans (s2.trans s3)), S2.ext (LamX.ExtN.of s3)⟩
    rintro σ H ⟨y0, y4, y5, y6, y8, y9, y10, y11, y12, y13, rfl, hT, S⟩
    -- its text
    obtain ⟨m1, m2, m3, m4⟩ := S.sm
    refine ⟨.ref d, rfl, .ref e, rfl, d, e, cs, xs, fs, rfl, SqL.of S.hd, SqL.of S.he, S.fx, m1, m2, m3, m4, fun H1 s1 => ?_⟩
    have S1 := S.ext (LamX.ExtN.of s1)
    have hT1 := hT.ext s1
    clear S hT s1
    refine ⟨MidC K C pL b c d e x cs xs fs, ?_, ?_⟩
    · obtain ⟨dx, ax, bx, xx, hx, _⟩ := id S1.bk
      refine ⟨.ref x, rfl, x, dx, _, rfl, hx, x, cs, fs, rfl, S1.bk, m1, m2, m3, m4, fun H2 s2 => ⟨_, rfl, ?_⟩⟩
      refine ⟨.ref x, rfl, x, cs, fs, rfl, S1.bk.same s2, m1, m2, m3, m4, fun H3 s3 => ?_⟩
      refine ⟨(show (2 : Nat) ≤ sizeLine by decide), fun l1 nl1 => ?_⟩
      have u1 := same_upd (o := .lst [V.str (bookS cs fs), .str (bookS cs fs)]) nl1
      refine ⟨.str (bookS cs fs), rfl, .str (bookS cs fs), rfl, (show (2 : Nat) ≤ sizeLine by decide), fun l2 nl2 => ?_⟩
      have u2 := same_upd (o := .lst [V.str (bookS cs fs), .str (bookS cs fs)]) nl2
      refine ⟨_, _, rfl, lk_dos (n := 4) (SqL.of (u2 _ _ upd_same)) (SqL.of upd_same) (lk_str _) (lk_str _), fun H4 s4 => ⟨_, rfl, iteF ?_⟩⟩
      have s14 := s2.trans (s3.trans (u1.trans (u2.trans s4)))
      exact ⟨_, _, _, _, _, _, _, _, _, rfl, hT1.ext s14, S1.ext (LamX.ExtN.of s14)⟩
    clear S1 hT1
    rintro σ H ⟨y0, y4, y5, y6, y8, y10, y11, y12, y13, rfl, hT, S⟩
    -- another book, a third one
    have f6 := S.fl
    have gc := S.gc
    obtain ⟨c1, c6, cv⟩ := id gc
    have k1 : ("Book(" : Str).length = 5 := by decide +kernel
    have k2 : (" pads, " : Str).length = 7 := by decide +kernel
    have k3 : (" figures)" : Str).length = 9 := by decide +kernel
    obtain ⟨a1, a2⟩ := strI_small cs.length (by omega)
    obtain ⟨b1, b2⟩ := strI_small fs.length (by omega)
    refine ⟨.ref d, rfl, d, _, rfl, .inl (SqL.of S.hd), ?_⟩
    rw [List.length_map]
    refine ⟨_, rfl, a2, _, _, rfl, rfl, small_str (by omega), _, _, rfl, rfl, small_str (by rw [str_app_len]; omega), .int (fs.length : Nat), rfl, _, rfl, b2, _, _, rfl, rfl, small_str (by rw [str_app_len, str_app_len]; omega), _, _, rfl, rfl, small_str (by rw [str_app_len, str_app_len, str_app_len]; omega), ?_⟩
    rw [repB_eq]
    refine ⟨.ref d, rfl, d, _, rfl, .inl (SqL.of S.hd), fun ta H2 s2 hta => ?_⟩
    have S2 := S.ext (LamX.ExtN.of s2)
    refine ⟨.ref e, rfl, e, _, rfl, SqL.of S2.he, fun re nre => ⟨rfl, rfl, fun o dx1 nx1 ndx1 nxd1 => ?_⟩⟩
    have u2 := same_upd (o := .lst xs.reverse) nre
    have S3' := S2.ext (LamX.ExtN.of u2)
    refine bmakeG (C := C) (fs := fs.reverse) (.inr (Same.tup u2 hta)) (.inl (SqL.of upd_same)) (All2.rev (S3'.fx.mono fun _ _ => FigT.any)) gc S.gf.rev (by rw [List.length_reverse]; omega) nx1 ndx1 nxd1 (fun H4 s4 hO => ⟨rfl, ?_⟩)
    have S4 := S3'.ext (LamX.ExtN.of s4)
    have hT4 := hT.ext (s2.trans (u2.trans s4))
    clear S2 S3' S hT nx1 ndx1 nxd1 hta nre u2 s2 s4
    refine ⟨MidD K C pL b c d e x cs xs fs, ?_, ?_⟩
    · refine ⟨.ref d, rfl, d, _, rfl, .inl (SqL.of S4.hd), _, 6, rfl, rfl, _, rfl, ?_⟩
      rw [List.length_map]
      by_cases e6 : cs.length < 6
      · rw [decide_eq_true (show ((cs.length : Nat) : Int) < 6 by omega)]
        refine iteT ⟨.ref d, rfl, (show (1 : Nat) ≤ sizeLine by decide), fun l nl => ?_⟩
        have u := same_upd (o := .lst [V.int 1]) nl
        refine ⟨d, l, _, _, rfl, rfl, u _ _ S4.hd, upd_same, ?_, fun l2 nl2 => fun th dx nx ndx nxd => ?_⟩
        · rw [List.length_map]
          exact Nat.le_of_lt (small1000 (show _ + 1 ≤ 1000 by omega))
        have u2 := same_upd (o := .lst (cs.map V.int ++ [V.int 1])) nl2
        refine bmakeG (C := C) (cs := cs ++ [1]) (fs := []) (.inl (SqL.of (by rw [List.map_append]; exact upd_same))) (.inr (tT _)) True.intro ⟨by rw [List.length_append]; omega, by rw [List.length_append]; show cs.length + 1 ≤ 6; omega, fun z hz => ?_⟩ ⟨fun f hf => (by cases hf), List.Pairwise.nil⟩ (Nat.zero_le _) nx ndx nxd (fun H5 s5 hX => ⟨rfl, ?_⟩)
        · rcases List.mem_append.mp hz with h | h
          · exact cv z h
          · rw [List.mem_singleton.mp h]
            exact ⟨by decide, by decide⟩
        have s45 := (u.trans u2).trans s5
        exact ⟨_, _, _, _, _, _, _, o, th, _, rfl, hT4.ext s45, S4.ext (LamX.ExtN.of s45), hO.same s45, hX⟩
      · rw [decide_eq_false (show ¬ ((cs.length : Nat) : Int) < 6 by omega)]
        refine iteF ⟨.ref d, rfl, 1, rfl, _, rfl, d, _, rfl, SqL.of S4.hd, fun l nl => ?_⟩
        rw [cutV_init, List.length_map, ← List.map_take]
        have u := same_upd (o := .lst ((cs.take (cs.length - 1)).map V.int)) nl
        have hl : (upd H4 l (.lst ((cs.take (cs.length - 1)).map V.int))) l = some (.lst ((cs.take (cs.length - 1)).map V.int)) := upd_same
        have S5 := S4.ext (LamX.ExtN.of u)
        generalize upd H4 l (.lst ((cs.take (cs.length - 1)).map V.int)) = H5 at u hl S5 ⊢
        have hlast : atI (cs.map V.int) (-1) = some (.int (cs.getD (cs.length - 1) 0)) := by
          unfold atI ixN
          rw [if_neg (by decide), if_pos (by rw [List.length_map]; omega)]
          show (cs.map V.int)[(-1 + ((cs.map V.int).length : Int)).toNat]? = _
          rw [List.length_map, show (-1 + (cs.length : Int)).toNat = cs.length - 1 by omega, List.getElem?_map, List.getElem?_eq_getElem (by omega), getD_at (by omega)]
          rfl
        refine ⟨.ref d, rfl, 1, rfl, d, _, _, .int (cs.getD (cs.length - 1) 0), rfl, rfl, SqL.of S5.hd, hlast, _, _, rfl, rfl, (by show (0 : Int) < 4; decide), _, _, rfl, rfl, (show (1 : Nat) ≤ sizeLine by decide), fun l2 nl2 => ?_⟩
        have hlv := cv (cs.getD (cs.length - 1) 0) (by rw [getD_at (by omega)]; exact List.getElem_mem _)
        generalize cs.getD (cs.length - 1) 0 = lv at hlv
        have u2 := same_upd (o := .lst [V.int (lv % 4 + 1)]) nl2
        refine ⟨l, l2, _, _, rfl, rfl, u2 _ _ hl, upd_same, ?_, fun l3 nl3 => fun th dx nx ndx nxd => ?_⟩
        · rw [List.length_map, List.length_take]
          exact Nat.le_of_lt (small1000 (show _ + 1 ≤ 1000 by omega))
        have u3 := same_upd (o := .lst ((cs.take (cs.length - 1)).map V.int ++ [V.int (lv % 4 + 1)])) nl3
        refine bmakeG (C := C) (cs := cs.take (cs.length - 1) ++ [lv % 4 + 1]) (fs := []) (.inl (SqL.of (by rw [List.map_append]; exact upd_same))) (.inr (tT _)) True.intro ⟨by rw [List.length_append]; show 1 ≤ _ + 1; omega, by rw [List.length_append, List.length_take]; show _ + 1 ≤ 6; omega, fun z hz => ?_⟩ ⟨fun f hf => (by cases hf), List.Pairwise.nil⟩ (Nat.zero_le _) nx ndx nxd (fun H6 s6 hX => ⟨rfl, ?_⟩)
        · rcases List.mem_append.mp hz with h | h
          · exact cv z (List.mem_of_mem_take h)
          · rw [List.mem_singleton.mp h]
            omega
        have s46 := (u.trans (u2.trans u3)).trans s6
        exact ⟨_, _, _, _, _, _, _, o, th, _, rfl, hT4.ext s46, S4.ext (LamX.ExtN.of s46), hO.same s46, hX⟩
    clear S4 hT4 hO
    rintro σ H ⟨y0, y4, y5, y6, y7, y8, y13, o, th, cs3, rfl, hT, S, hO, hTh⟩
    refine ⟨MidD K C pL b c d e x cs xs fs, ?_, ?_⟩
    · obtain ⟨dx, ax, bx, xx, hx, _⟩ := id S.bk
      refine ⟨.ref x, rfl, x, dx, _, rfl, hx, x, cs, fs, rfl, S.bk, by omega, by omega, _, rfl, ?_⟩
      refine ⟨(show (1 : Nat) ≤ sizeLine by decide), fun l nl => fun y dy ny ndy nyd => ?_⟩
      have u := same_upd (o := .lst [V.int 1]) nl
      refine bmakeG (C := C) (cs := [1]) (fs := []) (.inl (SqL.of upd_same)) (.inr (tT _)) True.intro ⟨(show (1 : Nat) ≤ 1 by decide), (show (1 : Nat) ≤ 6 by decide), fun z hz => by rw [List.mem_singleton.mp hz]; exact ⟨by decide, by decide⟩⟩ ⟨fun f hf => (by cases hf), List.Pairwise.nil⟩ (Nat.zero_le _) ny ndy nyd (fun H2 s2 hY => ⟨rfl, ?_⟩)
      obtain ⟨dy2, ay, by2, xy, hy, _⟩ := id hY
      refine ⟨y, dy2, _, rfl, hy, y, [1], [], rfl, hY, (show (1 : Nat) ≤ 900 by decide), (show (0 : Nat) ≤ 900 by decide), _, rfl, ?_⟩
      refine ⟨(show (2 : Nat) ≤ sizeLine by decide), fun l1 nl1 => ?_⟩
      have u1 := same_upd (o := .lst [V.str (repBS cs.length fs.length), .str (repBS 1 0)]) nl1
      refine ⟨.str (repBS cs.length fs.length), rfl, (show (2 : Nat) ≤ sizeLine by decide), fun l2 nl2 => ?_⟩
      have u2 := same_upd (o := .lst [V.str (repBS cs.length fs.length), .str ("Book(1 pads, 0 figures)" : Str)]) nl2
      refine ⟨_, _, rfl, lk_dos (n := 4) (SqL.of (u2 _ _ upd_same)) (SqL.of upd_same) (lk_str _) (by rw [show ([1] : List Int).length = 1 from rfl, show ([] : List (List Tri)).length = 0 from rfl, repB_lit]; exact lk_str _), fun H4 s4 => ⟨_, rfl, iteF ?_⟩⟩
      have s14 := (u.trans s2).trans (u1.trans (u2.trans s4))
      exact ⟨_, _, _, _, _, _, _, o, th, _, rfl, hT.ext s14, S.ext (LamX.ExtN.of s14), hO.same s14, hTh.same s14⟩
    clear hT hO hTh
    rintro σ H ⟨y0, y4, y5, y6, y7, y8, y13, o, th, cs3, rfl, hT, S, hO, hTh⟩
    refine ⟨.ref e, rfl, .ref e, rfl, e, _, rfl, SqL.of S.he, fun r nr => ?_⟩
    have u := same_upd (o := .lst xs.reverse) nr
    have S1 := S.ext (LamX.ExtN.of u)
    have hO1 := hO.same u
    have hTh1 := hTh.same u
    refine ⟨_, _, figsL_dp (SqL.of S1.he) S1.fx, figsL_dp (SqL.of upd_same) (All2.rev S1.fx), figsL_sh fs, figsL_sh fs.reverse, ?_⟩
    rw [figsL_eqv]
    generalize upd H r (.lst xs.reverse) = H1 at S1 hO1 hTh1 ⊢
    have e1 : decide (cs = cs ∧ fs = fs.reverse) = decide (fs = fs.reverse) := by simp
    have e2 : decide (cs = cs3 ∧ fs = []) = false := decide_eq_false fun z => S.fne z.2
    generalize decide (fs = fs.reverse) = sm at e1 ⊢
    refine ⟨.ref x, rfl, .ref o, rfl, rd_beq2 TE T.cl S1.bk hO1 ?_⟩
    rw [e1]
    refine ⟨.bl sm, rfl, rfl, _, rfl, ?_⟩
    rw [show (!decide (V.bl (id sm) = V.bl sm)) = false by simp]
    refine iteF ⟨.ref x, rfl, .ref o, rfl, rd_beq2 TE T.cl S1.bk hO1 ?_⟩
    rw [e1]
    refine ⟨.bl sm, rfl, rfl, _, rfl, ?_⟩
    rw [show decide (V.bl (!sm) = V.bl sm) = false by cases sm <;> rfl]
    refine iteF ⟨.ref x, rfl, .ref th, rfl, rd_beq2 TE T.cl S1.bk hTh1 ?_⟩
    rw [e2]
    refine ⟨_, rfl, iteF ?_⟩
    refine ⟨.ref x, rfl, .str (bookS cs fs), rfl, rd_both S1.bk (.base (.str _)) O2 ⟨_, rfl, iteF ?_⟩⟩
    refine ⟨.ref x, rfl, ?_⟩
    dsimp only [tC]
    refine rd_both S1.bk (.base .non) O3 ⟨_, rfl, iteF ?_⟩
    have e3 : decide (cs = cs ∧ fs = fs) = true := by simp
    refine ⟨.ref x, rfl, .ref d, rfl, .ref e, rfl, rfl, rfl, fun z1 dz1 nz1 ndz1 nzd1 => ?_⟩
    refine bmakeG (C := C) (fs := fs) (.inl (SqL.of S1.hd)) (.inl (SqL.of S1.he)) (S1.fx.mono fun _ _ => FigT.any) S1.gc S1.gf (by omega) nz1 ndz1 nzd1 (fun H2 s2 hZ => ⟨rfl, rd_beq2 TE T.cl (S1.bk.same s2) hZ ?_⟩)
    rw [e3]
    have S2 := S1.ext (LamX.ExtN.of s2)
    refine ⟨_, rfl, iteT ?_⟩
    refine ⟨.ref x, rfl, .ref d, rfl, .ref e, rfl, rfl, rfl, fun z2 dz2 nz2 ndz2 nzd2 => ?_⟩
    refine bmakeG (C := C) (fs := fs) (.inl (SqL.of S2.hd)) (.inl (SqL.of S2.he)) (S2.fx.mono fun _ _ => FigT.any) S2.gc S2.gf (by omega) nz2 ndz2 nzd2 (fun H3 s3 hZ2 => ⟨rfl, rd_beq2 TE T.cl (S2.bk.same s3) hZ2 ?_⟩)
    rw [e3]
    exact ⟨_, rfl, q _⟩
end
/-! ### the Hook over a written list of addresses -/
def lookL (as : List Addr) (fa : List He.Fa) (fn : List He.DefD) (tf : List He.Defn) (ex : PySem.W.Frag → Bool) (g : Addr → Option Obj) : He.AlX :=
  (He.obsT fa fn [] (He.frT g as), ex (He.frT g as) && He.tabsB g tf (He.frT g as))
theorem lookL_says {as : List Addr} {fa : List He.Fa} {fn : List He.DefD} {tf : List He.Defn} {ex : PySem.W.Frag → Bool} {w : World} {h : Heap} (e : lookL as fa fn tf ex h.get? = He.valX fn [] w) : He.SaysX fa fn [] tf ex w h (He.frT h.get? as) := by
  have a : _ = He.valT fn [] w := congrArg Prod.fst e
  obtain ⟨b, c⟩ := He.ba (show _ = true from congrArg Prod.snd e)
  exact { t := a, more := b, hd := fun p hp => (tabs_out c p hp).1, out := fun p hp => (tabs_out c p hp).2.1, empty := fun p hp => (tabs_out c p hp).2.2 }
def hookL (as : List Addr) (fa : List He.Fa) (fn : List He.DefD) (tf : List He.Defn) (ex : PySem.W.Frag → Bool) : PySem.W.Hook :=
  { α := He.AlX, obs := fun s => lookL as fa fn tf ex s.heap.get?, val := He.valX fn [], says := fun w h => ∃ K : PySem.W.Frag, K.In h ∧ He.SaysX fa fn [] tf ex w h K, of := fun w s e => ⟨_, He.frT_in, lookL_says e⟩,
    keeps := fun w h h' y k => by
      obtain ⟨K, i, c⟩ := y
      exact ⟨K, PySem.W.Frag.In.keeps i k, { t := c.t, more := c.more, hd := c.hd, out := c.out, empty := fun p hp => k _ _ (c.empty p hp) }⟩ }
theorem lookL_eq {as : List Addr} {fa : List He.Fa} {fn : List He.DefD} {tf : List He.Defn} {ex : PySem.W.Frag → Bool} (s : PySem.W.SharedT) : lookL as fa fn tf ex (HandSHeadRun.getT s) = (hookL as fa fn tf ex).obs s.abs := by
  rw [show HandSHeadRun.getT s = s.abs.heap.get? from funext (HandSHeadRun.getT_eq s)]
  rfl
theorem exk_BadColours {P : Program} {w : World} {K : PySem.W.Frag} {mg : Str → Option Value} {base : Heap} {fd fdb : FuncData} (L : LeafK K "BadColours" "TearError" ["at"]) (F : Fun K "__init__" "BadColours.__init__" sI_BadColours (He.ma K (He.ga K "BadColours") "__init__") fd)
    (Fb : FunD K "__init__" "TearError.__init__" (defArgs sI_TearError) (defBody sI_TearError) (defScope sI_TearError) [.str "TearError"] [] (He.ma K (He.ga K "TearError") "__init__") fdb) (mX : mg "BadColours" = some (.ref (He.ga K "BadColours"))) (mb : mg "TearError" = some (.ref (He.ga K "TearError"))) {j : Nat} (hj : 2 ≤ j) :
    ExcK P w K mg base j "BadColours" (He.ga K "BadColours") 1 (fun ws => [("at", ws.getD 0 .non), ("word", .str "BadColours")]) := by
  obtain ⟨ds, vd, bb⟩ := Fb.binds1 (ps := ["self", "word"]) 2 1 (List.cons_ne_nil _ _) rfl (fun T kV doc pm an cdv ct us its l1 l2 => match us, its, l1, l2 with | [_, _], [_], _, _ => ⟨_, rfl, rfl⟩)
  have ed : ds = [] := List.eq_nil_of_length_eq_zero vd.length.symm
  subst ed
  have GB : FnOk P w K mg base CX0 1 _ _ ["self", "word"] (spBase K) := okI_TearError (k := 0) Fb
  have bX := F.binds (ps := ["self", "at"]) fun _ _ _ _ _ _ us hl => match us, hl with | [_, _], _ => rfl
  have GX := okI_BadColours (k := 1) F L.T (L.n "word" (List.mem_cons_self ..)) (L.n "at" (List.mem_cons_of_mem _ (List.mem_cons_self ..))) L.B GB bb mb
  exact ⟨L.T, mX, _, _, _, L.i, L.t, GX.mono hj, bX⟩
theorem exk_Meeting {P : Program} {w : World} {K : PySem.W.Frag} {mg : Str → Option Value} {base : Heap} {fd fdb : FuncData} (L : LeafK K "Meeting" "TearError" ["one", "other"]) (F : Fun K "__init__" "Meeting.__init__" sI_Meeting (He.ma K (He.ga K "Meeting") "__init__") fd)
    (Fb : FunD K "__init__" "TearError.__init__" (defArgs sI_TearError) (defBody sI_TearError) (defScope sI_TearError) [.str "TearError"] [] (He.ma K (He.ga K "TearError") "__init__") fdb) (mX : mg "Meeting" = some (.ref (He.ga K "Meeting"))) (mb : mg "TearError" = some (.ref (He.ga K "TearError"))) {j : Nat} (hj : 2 ≤ j) :
    ExcK P w K mg base j "Meeting" (He.ga K "Meeting") 2 (fun ws => [("other", ws.getD 1 .non), ("one", ws.getD 0 .non), ("word", .str "Meeting")]) := by
  obtain ⟨ds, vd, bb⟩ := Fb.binds1 (ps := ["self", "word"]) 2 1 (List.cons_ne_nil _ _) rfl (fun T kV doc pm an cdv ct us its l1 l2 => match us, its, l1, l2 with | [_, _], [_], _, _ => ⟨_, rfl, rfl⟩)
  have ed : ds = [] := List.eq_nil_of_length_eq_zero vd.length.symm
  subst ed
  have GB : FnOk P w K mg base CX0 1 _ _ ["self", "word"] (spBase K) := okI_TearError (k := 0) Fb
  have bX := F.binds (ps := ["self", "one", "other"]) fun _ _ _ _ _ _ us hl => match us, hl with | [_, _, _], _ => rfl
  have GX := okI_Meeting (k := 1) F L.T (L.n "word" (List.mem_cons_self ..)) (L.n "one" (List.mem_cons_of_mem _ (List.mem_cons_self ..))) (L.n "other" (List.mem_cons_of_mem _ (List.mem_cons_of_mem _ (List.mem_cons_self ..)))) L.B GB bb mb
  exact ⟨L.T, mX, _, _, _, L.i, L.t, GX.mono hj, bX⟩
theorem exk_TooMany {P : Program} {w : World} {K : PySem.W.Frag} {mg : Str → Option Value} {base : Heap} {fd fdb : FuncData} (L : LeafK K "TooMany" "TearError" ["most"]) (F : Fun K "__init__" "TooMany.__init__" sI_TooMany (He.ma K (He.ga K "TooMany") "__init__") fd)
    (Fb : FunD K "__init__" "TearError.__init__" (defArgs sI_TearError) (defBody sI_TearError) (defScope sI_TearError) [.str "TearError"] [] (He.ma K (He.ga K "TearError") "__init__") fdb) (mX : mg "TooMany" = some (.ref (He.ga K "TooMany"))) (mb : mg "TearError" = some (.ref (He.ga K "TearError"))) {j : Nat} (hj : 2 ≤ j) :
    ExcK P w K mg base j "TooMany" (He.ga K "TooMany") 1 (fun ws => [("most", ws.getD 0 .non), ("word", .str "TooMany")]) := by
  obtain ⟨ds, vd, bb⟩ := Fb.binds1 (ps := ["self", "word"]) 2 1 (List.cons_ne_nil _ _) rfl (fun T kV doc pm an cdv ct us its l1 l2 => match us, its, l1, l2 with | [_, _], [_], _, _ => ⟨_, rfl, rfl⟩)
  have ed : ds = [] := List.eq_nil_of_length_eq_zero vd.length.symm
  subst ed
  have GB : FnOk P w K mg base CX0 1 _ _ ["self", "word"] (spBase K) := okI_TearError (k := 0) Fb
  have bX := F.binds (ps := ["self", "most"]) fun _ _ _ _ _ _ us hl => match us, hl with | [_, _], _ => rfl
  have GX := okI_TooMany (k := 1) F L.T (L.n "word" (List.mem_cons_self ..)) (L.n "most" (List.mem_cons_of_mem _ (List.mem_cons_self ..))) L.B GB bb mb
  exact ⟨L.T, mX, _, _, _, L.i, L.t, GX.mono hj, bX⟩
theorem exk_NoFigure {P : Program} {w : World} {K : PySem.W.Frag} {mg : Str → Option Value} {base : Heap} {fd fdb : FuncData} (L : LeafK K "NoFigure" "Missing" ["figure"]) (F : Fun K "__init__" "NoFigure.__init__" sI_NoFigure (He.ma K (He.ga K "NoFigure") "__init__") fd)
    (Fb : FunD K "__init__" "Missing.__init__" (defArgs sI_Missing) (defBody sI_Missing) (defScope sI_Missing) [.str "Missing"] [] (He.ma K (He.ga K "Missing") "__init__") fdb) (mX : mg "NoFigure" = some (.ref (He.ga K "NoFigure"))) (mb : mg "Missing" = some (.ref (He.ga K "Missing"))) {j : Nat} (hj : 2 ≤ j) :
    ExcK P w K mg base j "NoFigure" (He.ga K "NoFigure") 1 (fun ws => [("figure", ws.getD 0 .non), ("word", .str "NoFigure")]) := by
  obtain ⟨ds, vd, bb⟩ := Fb.binds1 (ps := ["self", "word"]) 2 1 (List.cons_ne_nil _ _) rfl (fun T kV doc pm an cdv ct us its l1 l2 => match us, its, l1, l2 with | [_, _], [_], _, _ => ⟨_, rfl, rfl⟩)
  have ed : ds = [] := List.eq_nil_of_length_eq_zero vd.length.symm
  subst ed
  have GB : FnOk P w K mg base CX0 1 _ _ ["self", "word"] (spBase K) := okI_Missing (k := 0) Fb
  have bX := F.binds (ps := ["self", "figure"]) fun _ _ _ _ _ _ us hl => match us, hl with | [_, _], _ => rfl
  have GX := okI_NoFigure (k := 1) F L.T (L.n "word" (List.mem_cons_self ..)) (L.n "figure" (List.mem_cons_of_mem _ (List.mem_cons_self ..))) L.B GB bb mb
  exact ⟨L.T, mX, _, _, _, L.i, L.t, GX.mono hj, bX⟩
/-! ### the head by facts; the end -/
def hFa : List He.Fa := rNms.map He.Fa.glo ++ (([.glo "check_colours", .glo "check_figures", .glo "is_figure", .glo "is_triple", .glo "check_meetings", .glo "copy_of_figure", .glo "pads_of", .glo "mask_of", .glo "bar", .glo "_law_bag", .glo "_law_pull", .glo "_law_of"] : List He.Fa) ++ ([.glo "_law_hues", .glo "_law_shape", .glo "_law_bars", .glo "_law_shapes", .glo "_law_far", .glo "_law_tried", .glo "_law_like", .glo "_law_is", .glo "_law_shape_text", .glo "_law_book_said", .glo "triple_text", .glo "figure_text"] : List He.Fa) ++ ([.glo "colours_text", .glo "book_text", .glo "law", .glo "TearError", .glo "BadColours", .glo "Meeting", .glo "TooMany", .glo "Missing", .glo "NoFigure", .glo "Book", .cls "Book", .noat "Book" "palette"] : List He.Fa) ++ ([.noat "Book" "shapes", .mkr "Book", .meth "Book" "__init__", .meth "Book" "pads", .meth "Book" "colours", .meth "Book" "figures", .meth "Book" "shape", .meth "Book" "__len__", .meth "Book" "__eq__", .meth "Book" "__str__", .meth "Book" "__repr__", .free "len"] : List He.Fa) ++ ([.free "list", .free "tuple", .free "range", .free "isinstance", .free "all", .free "any", .free "bool", .free "int", .free "str", .free "dict", .free "enumerate", .free "zip"] : List He.Fa) ++ ([.free "sum", .free "repr", .int "MOST_PADS" 6, .int "MOST_COLOURS" 4, .int "MOST_FIGURES" 12, .int "MOST_DEPTH" 3] : List He.Fa))
def hFn : List He.DefD := ([dOf ("check_colours", none) "check_colours" "check_colours" sCCol [] [], dOf ("check_figures", none) "check_figures" "check_figures" sCFig [] [], dOf ("is_figure", none) "is_figure" "is_figure" sIsFig [] [], dOf ("is_triple", none) "is_triple" "is_triple" sIsTri [] [], dOf ("check_meetings", none) "check_meetings" "check_meetings" sCMeet [] [], dOf ("copy_of_figure", none) "copy_of_figure" "copy_of_figure" sCopyF [] [], dOf ("pads_of", none) "pads_of" "pads_of" sPadsOf [] [], dOf ("mask_of", none) "mask_of" "mask_of" sMask [] [], dOf ("bar", none) "bar" "bar" sBar [] [], dOf ("_law_bag", none) "_law_bag" "_law_bag" sBag [] [], dOf ("_law_pull", none) "_law_pull" "_law_pull" sPull [] [], dOf ("_law_of", none) "_law_of" "_law_of" sOf [] []] : List He.DefD) ++ ([dOf ("_law_hues", none) "_law_hues" "_law_hues" sHues [] [], dOf ("_law_shape", none) "_law_shape" "_law_shape" sShape [] [], dOf ("_law_bars", none) "_law_bars" "_law_bars" sBars [] [], dOf ("_law_shapes", none) "_law_shapes" "_law_shapes" sShapes [] [], dOf ("_law_far", none) "_law_far" "_law_far" sFar [] [], dOf ("_law_tried", none) "_law_tried" "_law_tried" sTried [] [], dOf ("_law_like", none) "_law_like" "_law_like" sLike [] [], dOf ("_law_is", none) "_law_is" "_law_is" sIs [] [], dOf ("_law_shape_text", none) "_law_shape_text" "_law_shape_text" sLST [] [], dOf ("_law_book_said", none) "_law_book_said" "_law_book_said" sLBS [] [], dOf ("triple_text", none) "triple_text" "triple_text" sTriTx [] [], dOf ("figure_text", none) "figure_text" "figure_text" sFigTx [] []] : List He.DefD) ++ ([dOf ("colours_text", none) "colours_text" "colours_text" sColTx [] [], dOf ("book_text", none) "book_text" "book_text" sBTx [] [], dOf ("law", none) "law" "law" sLaw [] [], dOf ("TearError", some "__init__") "__init__" "TearError.__init__" sI_TearError [.str "TearError"] [], dOf ("BadColours", some "__init__") "__init__" "BadColours.__init__" sI_BadColours [] [], dOf ("Meeting", some "__init__") "__init__" "Meeting.__init__" sI_Meeting [] [], dOf ("TooMany", some "__init__") "__init__" "TooMany.__init__" sI_TooMany [] [], dOf ("Missing", some "__init__") "__init__" "Missing.__init__" sI_Missing [.str "Missing"] [], dOf ("NoFigure", some "__init__") "__init__" "NoFigure.__init__" sI_NoFigure [] [], dOf ("Book", some "__init__") "__init__" "Book.__init__" sInit [] [("figures", .adr emptyT)], dOf ("Book", some "pads") "pads" "Book.pads" sPadsM [] [], dOf ("Book", some "colours") "colours" "Book.colours" sCols [] []] : List He.DefD) ++ ([dOf ("Book", some "figures") "figures" "Book.figures" sFigs [] [], dOf ("Book", some "shape") "shape" "Book.shape" sShpX [] [], dOf ("Book", some "__len__") "__len__" "Book.__len__" sBLen [] [], dOf ("Book", some "__eq__") "__eq__" "Book.__eq__" sBEq [] [], dOf ("Book", some "__str__") "__str__" "Book.__str__" sBStr [] [], dOf ("Book", some "__repr__") "__repr__" "Book.__repr__" sBRep [] []] : List He.DefD)
def hEx (K : PySem.W.Frag) : Bool := refsB K && (leafB K "BadColours" "TearError" "ValueError" "ValueError.__new__" ["at"] && (leafB K "Meeting" "TearError" "ValueError" "ValueError.__new__" ["one", "other"] && (leafB K "TooMany" "TearError" "ValueError" "ValueError.__new__" ["most"] && (leafB K "NoFigure" "Missing" "LookupError" "LookupError.__new__" ["figure"] && (lenB K (He.ga K "Book") (He.ma K (He.ga K "Book") "__len__") && (strB K (He.ga K "Book") (He.ma K (He.ga K "Book") "__str__") && (repB K (He.ga K "Book") (He.ma K (He.ga K "Book") "__repr__") && (clsEB K (He.ga K "Book") (He.ma K (He.ga K "Book") "__eq__") && (emptyB K (emptyT K) && (othB K (He.ga K "Book") (.type "str") && (othB K (He.ga K "Book") (.type "NoneType"))))))))))))
def hTf : List He.Defn := [("law", none)]
def hNames : List PySem.Str := (["_wall", "TearError", "BadColours", "BadFigure", "Meeting", "TooMany", "TooFar", "BadOrder", "OtherColours", "OtherBook", "BadRow", "BadNote"] : List PySem.Str) ++ (["BadBeneath", "Full", "NoEnd", "NotStanding", "NeverClear", "BadDeed", "BadNumber", "NoBeginning", "Barred", "BadHeights", "BadWeights", "NoMean"] : List PySem.Str) ++ (["BadText", "Missing", "NoPad", "NoFigure", "NoNote", "Stuck", "NothingBack", "NothingAgain", "MOST_PADS", "MOST_COLOURS", "MOST_FIGURES", "MOST_DEPTH"] : List PySem.Str) ++ (["Book", "check_colours", "check_figures", "is_figure", "is_triple", "check_meetings", "copy_of_figure", "pads_of", "mask_of", "bar", "colours_text", "figure_text"] : List PySem.Str) ++ (["triple_text", "book_text", "_law_bag", "_law_pull", "_law_of", "_law_hues", "_law_shape", "_law_bars", "_law_shapes", "_law_like", "_law_far", "_law_tried"] : List PySem.Str) ++ (["_law_is", "_law_shape_text", "_law_book_said"] : List PySem.Str)
abbrev hR : PySem.W.OpenRow := PySem.W.OpenLaw.row PySem.Challenge.rw_tearboard_k03_books_told
def hAs : List Addr := ([2, 3, 6, 4, 21, 39, 59, 78, 97, 116, 135, 154, 173, 192, 211, 230, 249, 268, 287, 306, 325, 344, 363, 382, 401, 420, 439, 458, 477, 497, 517, 536, 555, 575, 595, 614, 708, 719, 726, 731, 738, 743, 748, 753, 758, 763, 768, 773, 780, 787, 794, 801, 808, 813, 820, 825, 830, 835, 842, 849] : List Addr) ++ ([856, 863, 868, 873, 0, 20, 38, 58, 77, 96, 115, 134, 153, 172, 191, 210, 229, 248, 267, 286, 305, 324, 343, 362, 381, 400, 419, 438, 457, 476, 496, 516, 535, 554, 574, 594, 613, 707, 718, 725, 730, 737, 742, 747, 752, 757, 762, 767, 772, 779, 786, 793, 800, 807, 812, 819, 824, 829, 834, 841] : List Addr) ++ ([848, 855, 862, 867, 872, 15, 16, 17, 18, 19, 36, 37, 40, 56, 57, 75, 76, 94, 95, 113, 114, 132, 133, 151, 152, 170, 171, 189, 190, 208, 209, 227, 228, 246, 247, 265, 266, 284, 285, 303, 304, 322, 323, 341, 342, 360, 361, 379, 380, 398, 399, 417, 418, 436, 437, 455, 456, 474, 475, 494] : List Addr) ++ ([495, 498, 514, 515, 533, 534, 552, 553, 572, 573, 576, 592, 593, 611, 612, 630, 637, 644, 651, 658, 665, 672, 679, 686, 693, 698, 705, 706, 709, 710, 713, 714, 715, 716, 717, 720, 721, 722, 723, 724, 727, 728, 729, 732, 733, 734, 735, 736, 739, 740, 741, 744, 745, 746, 749, 750, 751, 754, 755, 756] : List Addr) ++ ([759, 760, 761, 764, 765, 766, 769, 770, 771, 774, 775, 776, 777, 778, 781, 782, 783, 784, 785, 788, 789, 790, 791, 792, 795, 796, 797, 798, 799, 802, 803, 804, 805, 806, 809, 810, 811, 814, 815, 816, 817, 818, 821, 822, 823, 826, 827, 828, 831, 832, 833, 836, 837, 838, 839, 840, 843, 844, 845, 846] : List Addr) ++ ([847, 850, 851, 852, 853, 854, 857, 858, 859, 860, 861, 864, 865, 866, 869, 870, 871, 35, 29, 55, 74, 93, 112, 131, 150, 169, 188, 207, 226, 245, 264, 283, 302, 321, 340, 359, 378, 397, 416, 435, 454, 473, 493, 487, 513, 532, 551, 571, 565, 591, 610, 629, 625, 636, 643, 650, 657, 664, 671, 678] : List Addr) ++ ([685, 692, 697, 704, 30, 31, 32, 33, 34, 50, 51, 52, 53, 54, 69, 70, 71, 72, 73, 88, 89, 90, 91, 92, 107, 108, 109, 110, 111, 126, 127, 128, 129, 130, 145, 146, 147, 148, 149, 164, 165, 166, 167, 168, 183, 184, 185, 186, 187, 202, 203, 204, 205, 206, 221, 222, 223, 224, 225, 240] : List Addr) ++ ([241, 242, 243, 244, 259, 260, 261, 262, 263, 278, 279, 280, 281, 282, 297, 298, 299, 300, 301, 316, 317, 318, 319, 320, 335, 336, 337, 338, 339, 354, 355, 356, 357, 358, 373, 374, 375, 376, 377, 392, 393, 394, 395, 396, 411, 412, 413, 414, 415, 430, 431, 432, 433, 434, 449, 450, 451, 452, 453, 468] : List Addr) ++ ([469, 470, 471, 472, 488, 489, 490, 491, 492, 508, 509, 510, 511, 512, 527, 528, 529, 530, 531, 546, 547, 548, 549, 550, 566, 567, 568, 569, 570, 586, 587, 588, 589, 590, 605, 606, 607, 608, 609, 626, 627, 628, 624, 631, 632, 633, 634, 635, 638, 639, 640, 641, 642, 645, 646, 647, 648, 649, 652, 653] : List Addr) ++ ([654, 655, 656, 659, 660, 661, 662, 663, 666, 667, 668, 669, 670, 673, 674, 675, 676, 677, 680, 681, 682, 683, 684, 687, 688, 689, 690, 691, 694, 695, 696, 699, 700, 701, 702, 703] : List Addr)
abbrev hK : PySem.W.Hook := hookL hAs hFa hFn hTf hEx
def hOb (s : PySem.W.SharedT) : He.AlX := lookL hAs hFa hFn hTf hEx (HandSHeadRun.getT s)
theorem hOb_eq (s : PySem.W.SharedT) : hOb s = hK.obs s.abs := lookL_eq s
theorem hFacts {l : PySem.W.OpenLaw} {w : World} {K : PySem.W.Frag} {h : Heap} {mg : Str → Option Value} {fa0 : Addr} (X : K.In h) (G : h.Ns mainGlobals mg) (hfa : mg "law" = some (.ref fa0)) (c : He.SaysX hFa hFn [] hTf hEx w h K) : LamX.LawAtS l w K CX0 12 63 "_law_script" mg fa0 h := by
  have cd := c.t.d
  have mo0 := c.more
  obtain ⟨x0, mo1⟩ := He.ba mo0
  obtain ⟨x1, mo2⟩ := He.ba mo1
  obtain ⟨x2, mo3⟩ := He.ba mo2
  obtain ⟨x3, mo4⟩ := He.ba mo3
  obtain ⟨x4, mo5⟩ := He.ba mo4
  obtain ⟨x5, mo6⟩ := He.ba mo5
  obtain ⟨x6, mo7⟩ := He.ba mo6
  obtain ⟨x7, mo8⟩ := He.ba mo7
  obtain ⟨x8, mo9⟩ := He.ba mo8
  obtain ⟨x9, mo10⟩ := He.ba mo9
  obtain ⟨x10, mo11⟩ := He.ba mo10
  have x11 := mo11
  have RT := refsB_ok X G cd x0
  obtain ⟨fdcc, Fcc0⟩ := cd.def_ 0 (d := dOf ("check_colours", none) "check_colours" "check_colours" sCCol [] []) rfl
  have Fcc : Fun K "check_colours" "check_colours" sCCol (He.ga K "check_colours") fdcc := funOf Fcc0
  have gcc : mg "check_colours" = some (.ref (He.ga K "check_colours")) := He.glo_ok X G (cd.fact 28 (f := .glo "check_colours") rfl)
  have bcc := Fcc.binds (ps := ["colours"]) fun _ _ _ _ _ _ us hl => match us, hl with | [_], _ => rfl
  obtain ⟨fdcf, Fcf0⟩ := cd.def_ 1 (d := dOf ("check_figures", none) "check_figures" "check_figures" sCFig [] []) rfl
  have Fcf : Fun K "check_figures" "check_figures" sCFig (He.ga K "check_figures") fdcf := funOf Fcf0
  have gcf : mg "check_figures" = some (.ref (He.ga K "check_figures")) := He.glo_ok X G (cd.fact 29 (f := .glo "check_figures") rfl)
  have bcf := Fcf.binds (ps := ["colours", "figures"]) fun _ _ _ _ _ _ us hl => match us, hl with | [_, _], _ => rfl
  obtain ⟨fdfi, Ffi0⟩ := cd.def_ 2 (d := dOf ("is_figure", none) "is_figure" "is_figure" sIsFig [] []) rfl
  have Ffi : Fun K "is_figure" "is_figure" sIsFig (He.ga K "is_figure") fdfi := funOf Ffi0
  have gfi : mg "is_figure" = some (.ref (He.ga K "is_figure")) := He.glo_ok X G (cd.fact 30 (f := .glo "is_figure") rfl)
  have bfi := Ffi.binds (ps := ["colours", "figure"]) fun _ _ _ _ _ _ us hl => match us, hl with | [_, _], _ => rfl
  obtain ⟨fdti, Fti0⟩ := cd.def_ 3 (d := dOf ("is_triple", none) "is_triple" "is_triple" sIsTri [] []) rfl
  have Fti : Fun K "is_triple" "is_triple" sIsTri (He.ga K "is_triple") fdti := funOf Fti0
  have gti : mg "is_triple" = some (.ref (He.ga K "is_triple")) := He.glo_ok X G (cd.fact 31 (f := .glo "is_triple") rfl)
  have bti := Fti.binds (ps := ["colours", "triple"]) fun _ _ _ _ _ _ us hl => match us, hl with | [_, _], _ => rfl
  obtain ⟨fdcm, Fcm0⟩ := cd.def_ 4 (d := dOf ("check_meetings", none) "check_meetings" "check_meetings" sCMeet [] []) rfl
  have Fcm : Fun K "check_meetings" "check_meetings" sCMeet (He.ga K "check_meetings") fdcm := funOf Fcm0
  have gcm : mg "check_meetings" = some (.ref (He.ga K "check_meetings")) := He.glo_ok X G (cd.fact 32 (f := .glo "check_meetings") rfl)
  have bcm := Fcm.binds (ps := ["figures"]) fun _ _ _ _ _ _ us hl => match us, hl with | [_], _ => rfl
  obtain ⟨fdcy, Fcy0⟩ := cd.def_ 5 (d := dOf ("copy_of_figure", none) "copy_of_figure" "copy_of_figure" sCopyF [] []) rfl
  have Fcy : Fun K "copy_of_figure" "copy_of_figure" sCopyF (He.ga K "copy_of_figure") fdcy := funOf Fcy0
  have gcy : mg "copy_of_figure" = some (.ref (He.ga K "copy_of_figure")) := He.glo_ok X G (cd.fact 33 (f := .glo "copy_of_figure") rfl)
  have bcy := Fcy.binds (ps := ["figure"]) fun _ _ _ _ _ _ us hl => match us, hl with | [_], _ => rfl
  obtain ⟨fdpo_, Fpo_0⟩ := cd.def_ 6 (d := dOf ("pads_of", none) "pads_of" "pads_of" sPadsOf [] []) rfl
  have Fpo_ : Fun K "pads_of" "pads_of" sPadsOf (He.ga K "pads_of") fdpo_ := funOf Fpo_0
  have gpo_ : mg "pads_of" = some (.ref (He.ga K "pads_of")) := He.glo_ok X G (cd.fact 34 (f := .glo "pads_of") rfl)
  have bpo_ := Fpo_.binds (ps := ["figure"]) fun _ _ _ _ _ _ us hl => match us, hl with | [_], _ => rfl
  obtain ⟨fdms, Fms0⟩ := cd.def_ 7 (d := dOf ("mask_of", none) "mask_of" "mask_of" sMask [] []) rfl
  have Fms : Fun K "mask_of" "mask_of" sMask (He.ga K "mask_of") fdms := funOf Fms0
  have gms : mg "mask_of" = some (.ref (He.ga K "mask_of")) := He.glo_ok X G (cd.fact 35 (f := .glo "mask_of") rfl)
  have bms := Fms.binds (ps := ["figure"]) fun _ _ _ _ _ _ us hl => match us, hl with | [_], _ => rfl
  obtain ⟨fdba, Fba0⟩ := cd.def_ 8 (d := dOf ("bar", none) "bar" "bar" sBar [] []) rfl
  have Fba : Fun K "bar" "bar" sBar (He.ga K "bar") fdba := funOf Fba0
  have gba : mg "bar" = some (.ref (He.ga K "bar")) := He.glo_ok X G (cd.fact 36 (f := .glo "bar") rfl)
  have bba := Fba.binds (ps := ["one", "other"]) fun _ _ _ _ _ _ us hl => match us, hl with | [_, _], _ => rfl
  obtain ⟨fdB, FB0⟩ := cd.def_ 9 (d := dOf ("_law_bag", none) "_law_bag" "_law_bag" sBag [] []) rfl
  have FB : Fun K "_law_bag" "_law_bag" sBag (He.ga K "_law_bag") fdB := funOf FB0
  have gB : mg "_law_bag" = some (.ref (He.ga K "_law_bag")) := He.glo_ok X G (cd.fact 37 (f := .glo "_law_bag") rfl)
  have bB := FB.binds (ps := ["_law_script"]) fun _ _ _ _ _ _ us hl => match us, hl with | [_], _ => rfl
  obtain ⟨fdP, FP0⟩ := cd.def_ 10 (d := dOf ("_law_pull", none) "_law_pull" "_law_pull" sPull [] []) rfl
  have FP : Fun K "_law_pull" "_law_pull" sPull (He.ga K "_law_pull") fdP := funOf FP0
  have gP : mg "_law_pull" = some (.ref (He.ga K "_law_pull")) := He.glo_ok X G (cd.fact 38 (f := .glo "_law_pull") rfl)
  have bP := FP.binds (ps := ["_law_bag_here", "_law_size"]) fun _ _ _ _ _ _ us hl => match us, hl with | [_, _], _ => rfl
  obtain ⟨fdO, FO0⟩ := cd.def_ 11 (d := dOf ("_law_of", none) "_law_of" "_law_of" sOf [] []) rfl
  have FO : Fun K "_law_of" "_law_of" sOf (He.ga K "_law_of") fdO := funOf FO0
  have gO : mg "_law_of" = some (.ref (He.ga K "_law_of")) := He.glo_ok X G (cd.fact 39 (f := .glo "_law_of") rfl)
  have bO := FO.binds (ps := ["_law_bag_here", "_law_things"]) fun _ _ _ _ _ _ us hl => match us, hl with | [_, _], _ => rfl
  obtain ⟨fdHu, FHu0⟩ := cd.def_ 12 (d := dOf ("_law_hues", none) "_law_hues" "_law_hues" sHues [] []) rfl
  have FHu : Fun K "_law_hues" "_law_hues" sHues (He.ga K "_law_hues") fdHu := funOf FHu0
  have gHu : mg "_law_hues" = some (.ref (He.ga K "_law_hues")) := He.glo_ok X G (cd.fact 40 (f := .glo "_law_hues") rfl)
  have bHu := FHu.binds (ps := ["_law_bag_here", "_law_most"]) fun _ _ _ _ _ _ us hl => match us, hl with | [_, _], _ => rfl
  obtain ⟨fdSp, FSp0⟩ := cd.def_ 13 (d := dOf ("_law_shape", none) "_law_shape" "_law_shape" sShape [] []) rfl
  have FSp : Fun K "_law_shape" "_law_shape" sShape (He.ga K "_law_shape") fdSp := funOf FSp0
  have gSp : mg "_law_shape" = some (.ref (He.ga K "_law_shape")) := He.glo_ok X G (cd.fact 41 (f := .glo "_law_shape") rfl)
  have bSp := FSp.binds (ps := ["_law_bag_here", "_law_colours"]) fun _ _ _ _ _ _ us hl => match us, hl with | [_, _], _ => rfl
  obtain ⟨fdBa, FBa0⟩ := cd.def_ 14 (d := dOf ("_law_bars", none) "_law_bars" "_law_bars" sBars [] []) rfl
  have FBa : Fun K "_law_bars" "_law_bars" sBars (He.ga K "_law_bars") fdBa := funOf FBa0
  have gBa : mg "_law_bars" = some (.ref (He.ga K "_law_bars")) := He.glo_ok X G (cd.fact 42 (f := .glo "_law_bars") rfl)
  have bBa := FBa.binds (ps := ["_law_one", "_law_other"]) fun _ _ _ _ _ _ us hl => match us, hl with | [_, _], _ => rfl
  obtain ⟨fdSs, FSs0⟩ := cd.def_ 15 (d := dOf ("_law_shapes", none) "_law_shapes" "_law_shapes" sShapes [] []) rfl
  have FSs : Fun K "_law_shapes" "_law_shapes" sShapes (He.ga K "_law_shapes") fdSs := funOf FSs0
  have gSs : mg "_law_shapes" = some (.ref (He.ga K "_law_shapes")) := He.glo_ok X G (cd.fact 43 (f := .glo "_law_shapes") rfl)
  have bSs := FSs.binds (ps := ["_law_bag_here", "_law_colours", "_law_most"]) fun _ _ _ _ _ _ us hl => match us, hl with | [_, _, _], _ => rfl
  obtain ⟨fdF, FF0⟩ := cd.def_ 16 (d := dOf ("_law_far", none) "_law_far" "_law_far" sFar [] []) rfl
  have FF : Fun K "_law_far" "_law_far" sFar (He.ga K "_law_far") fdF := funOf FF0
  have gF : mg "_law_far" = some (.ref (He.ga K "_law_far")) := He.glo_ok X G (cd.fact 44 (f := .glo "_law_far") rfl)
  have bF := FF.binds (ps := ["_law_bag_here"]) fun _ _ _ _ _ _ us hl => match us, hl with | [_], _ => rfl
  obtain ⟨fdT, FT0⟩ := cd.def_ 17 (d := dOf ("_law_tried", none) "_law_tried" "_law_tried" sTried [] []) rfl
  have FT : Fun K "_law_tried" "_law_tried" sTried (He.ga K "_law_tried") fdT := funOf FT0
  have gT : mg "_law_tried" = some (.ref (He.ga K "_law_tried")) := He.glo_ok X G (cd.fact 45 (f := .glo "_law_tried") rfl)
  have bT := FT.binds (ps := ["_law_act"]) fun _ _ _ _ _ _ us hl => match us, hl with | [_], _ => rfl
  obtain ⟨fdK, FK0⟩ := cd.def_ 18 (d := dOf ("_law_like", none) "_law_like" "_law_like" sLike [] []) rfl
  have FK : Fun K "_law_like" "_law_like" sLike (He.ga K "_law_like") fdK := funOf FK0
  have gK : mg "_law_like" = some (.ref (He.ga K "_law_like")) := He.glo_ok X G (cd.fact 46 (f := .glo "_law_like") rfl)
  have bK := FK.binds (ps := ["_law_one", "_law_due"]) fun _ _ _ _ _ _ us hl => match us, hl with | [_, _], _ => rfl
  obtain ⟨fdIs, FIs0⟩ := cd.def_ 19 (d := dOf ("_law_is", none) "_law_is" "_law_is" sIs [] []) rfl
  have FIs : Fun K "_law_is" "_law_is" sIs (He.ga K "_law_is") fdIs := funOf FIs0
  have gIs : mg "_law_is" = some (.ref (He.ga K "_law_is")) := He.glo_ok X G (cd.fact 47 (f := .glo "_law_is") rfl)
  have bIs := FIs.binds (ps := ["_law_act", "_law_due"]) fun _ _ _ _ _ _ us hl => match us, hl with | [_, _], _ => rfl
  obtain ⟨fdLST, FLST0⟩ := cd.def_ 20 (d := dOf ("_law_shape_text", none) "_law_shape_text" "_law_shape_text" sLST [] []) rfl
  have FLST : Fun K "_law_shape_text" "_law_shape_text" sLST (He.ga K "_law_shape_text") fdLST := funOf FLST0
  have gLST : mg "_law_shape_text" = some (.ref (He.ga K "_law_shape_text")) := He.glo_ok X G (cd.fact 48 (f := .glo "_law_shape_text") rfl)
  have bLST := FLST.binds (ps := ["_law_shape_here"]) fun _ _ _ _ _ _ us hl => match us, hl with | [_], _ => rfl
  obtain ⟨fdLBS, FLBS0⟩ := cd.def_ 21 (d := dOf ("_law_book_said", none) "_law_book_said" "_law_book_said" sLBS [] []) rfl
  have FLBS : Fun K "_law_book_said" "_law_book_said" sLBS (He.ga K "_law_book_said") fdLBS := funOf FLBS0
  have gLBS : mg "_law_book_said" = some (.ref (He.ga K "_law_book_said")) := He.glo_ok X G (cd.fact 49 (f := .glo "_law_book_said") rfl)
  have bLBS := FLBS.binds (ps := ["_law_colours", "_law_shapes_here"]) fun _ _ _ _ _ _ us hl => match us, hl with | [_, _], _ => rfl
  obtain ⟨fdtt, Ftt0⟩ := cd.def_ 22 (d := dOf ("triple_text", none) "triple_text" "triple_text" sTriTx [] []) rfl
  have Ftt : Fun K "triple_text" "triple_text" sTriTx (He.ga K "triple_text") fdtt := funOf Ftt0
  have gtt : mg "triple_text" = some (.ref (He.ga K "triple_text")) := He.glo_ok X G (cd.fact 50 (f := .glo "triple_text") rfl)
  have btt := Ftt.binds (ps := ["triple"]) fun _ _ _ _ _ _ us hl => match us, hl with | [_], _ => rfl
  obtain ⟨fdft, Fft0⟩ := cd.def_ 23 (d := dOf ("figure_text", none) "figure_text" "figure_text" sFigTx [] []) rfl
  have Fft : Fun K "figure_text" "figure_text" sFigTx (He.ga K "figure_text") fdft := funOf Fft0
  have gft : mg "figure_text" = some (.ref (He.ga K "figure_text")) := He.glo_ok X G (cd.fact 51 (f := .glo "figure_text") rfl)
  have bft := Fft.binds (ps := ["figure"]) fun _ _ _ _ _ _ us hl => match us, hl with | [_], _ => rfl
  obtain ⟨fdct, Fct0⟩ := cd.def_ 24 (d := dOf ("colours_text", none) "colours_text" "colours_text" sColTx [] []) rfl
  have Fct : Fun K "colours_text" "colours_text" sColTx (He.ga K "colours_text") fdct := funOf Fct0
  have gct : mg "colours_text" = some (.ref (He.ga K "colours_text")) := He.glo_ok X G (cd.fact 52 (f := .glo "colours_text") rfl)
  have bct := Fct.binds (ps := ["colours"]) fun _ _ _ _ _ _ us hl => match us, hl with | [_], _ => rfl
  obtain ⟨fdbt, Fbt0⟩ := cd.def_ 25 (d := dOf ("book_text", none) "book_text" "book_text" sBTx [] []) rfl
  have Fbt : Fun K "book_text" "book_text" sBTx (He.ga K "book_text") fdbt := funOf Fbt0
  have gbt : mg "book_text" = some (.ref (He.ga K "book_text")) := He.glo_ok X G (cd.fact 53 (f := .glo "book_text") rfl)
  have bbt := Fbt.binds (ps := ["book"]) fun _ _ _ _ _ _ us hl => match us, hl with | [_], _ => rfl
  obtain ⟨fdW, FW0⟩ := cd.def_ 26 (d := dOf ("law", none) "law" "law" sLaw [] []) rfl
  have FW : Fun K "law" "law" sLaw (He.ga K "law") fdW := funOf FW0
  have gW : mg "law" = some (.ref (He.ga K "law")) := He.glo_ok X G (cd.fact 54 (f := .glo "law") rfl)
  obtain ⟨fdb_TearError, Fb_TearError⟩ := cd.def_ 27 (d := dOf ("TearError", some "__init__") "__init__" "TearError.__init__" sI_TearError [.str "TearError"] []) rfl
  have mb_TearError : mg "TearError" = some (.ref (He.ga K "TearError")) := He.glo_ok X G (cd.fact 55 (f := .glo "TearError") rfl)
  obtain ⟨fdx_BadColours, Fx_BadColours⟩ := cd.def_ 28 (d := dOf ("BadColours", some "__init__") "__init__" "BadColours.__init__" sI_BadColours [] []) rfl
  have mx_BadColours : mg "BadColours" = some (.ref (He.ga K "BadColours")) := He.glo_ok X G (cd.fact 56 (f := .glo "BadColours") rfl)
  have R_BadColours : ∀ (base : Heap) (j : Nat), 2 ≤ j → ExcK l.prog w K mg base j "BadColours" (He.ga K "BadColours") 1 (fun ws => [("at", ws.getD 0 .non), ("word", .str "BadColours")]) := fun base j hj => exk_BadColours (leafV x1) (funOf Fx_BadColours) Fb_TearError mx_BadColours mb_TearError hj
  obtain ⟨fdx_Meeting, Fx_Meeting⟩ := cd.def_ 29 (d := dOf ("Meeting", some "__init__") "__init__" "Meeting.__init__" sI_Meeting [] []) rfl
  have mx_Meeting : mg "Meeting" = some (.ref (He.ga K "Meeting")) := He.glo_ok X G (cd.fact 57 (f := .glo "Meeting") rfl)
  have R_Meeting : ∀ (base : Heap) (j : Nat), 2 ≤ j → ExcK l.prog w K mg base j "Meeting" (He.ga K "Meeting") 2 (fun ws => [("other", ws.getD 1 .non), ("one", ws.getD 0 .non), ("word", .str "Meeting")]) := fun base j hj => exk_Meeting (leafV x2) (funOf Fx_Meeting) Fb_TearError mx_Meeting mb_TearError hj
  obtain ⟨fdx_TooMany, Fx_TooMany⟩ := cd.def_ 30 (d := dOf ("TooMany", some "__init__") "__init__" "TooMany.__init__" sI_TooMany [] []) rfl
  have mx_TooMany : mg "TooMany" = some (.ref (He.ga K "TooMany")) := He.glo_ok X G (cd.fact 58 (f := .glo "TooMany") rfl)
  have R_TooMany : ∀ (base : Heap) (j : Nat), 2 ≤ j → ExcK l.prog w K mg base j "TooMany" (He.ga K "TooMany") 1 (fun ws => [("most", ws.getD 0 .non), ("word", .str "TooMany")]) := fun base j hj => exk_TooMany (leafV x3) (funOf Fx_TooMany) Fb_TearError mx_TooMany mb_TearError hj
  obtain ⟨fdb_Missing, Fb_Missing⟩ := cd.def_ 31 (d := dOf ("Missing", some "__init__") "__init__" "Missing.__init__" sI_Missing [.str "Missing"] []) rfl
  have mb_Missing : mg "Missing" = some (.ref (He.ga K "Missing")) := He.glo_ok X G (cd.fact 59 (f := .glo "Missing") rfl)
  obtain ⟨fdx_NoFigure, Fx_NoFigure⟩ := cd.def_ 32 (d := dOf ("NoFigure", some "__init__") "__init__" "NoFigure.__init__" sI_NoFigure [] []) rfl
  have mx_NoFigure : mg "NoFigure" = some (.ref (He.ga K "NoFigure")) := He.glo_ok X G (cd.fact 60 (f := .glo "NoFigure") rfl)
  have R_NoFigure : ∀ (base : Heap) (j : Nat), 2 ≤ j → ExcK l.prog w K mg base j "NoFigure" (He.ga K "NoFigure") 1 (fun ws => [("figure", ws.getD 0 .non), ("word", .str "NoFigure")]) := fun base j hj => exk_NoFigure (leafL x4) (funOf Fx_NoFigure) Fb_Missing mx_NoFigure mb_Missing hj
  have g_Bk : mg "Book" = some (.ref (He.ga K "Book")) := He.glo_ok X G (cd.fact 61 (f := .glo "Book") rfl)
  have cl_Bk : Cls K (He.ga K "Book") := He.cls_ok (cd.fact 62 (f := .cls "Book") rfl)
  have nBk_palette : NoAttr K (He.ga K "Book") "palette" := He.noat_ok (cd.fact 63 (f := .noat "Book" "palette") rfl)
  have nBk_shapes : NoAttr K (He.ga K "Book") "shapes" := He.noat_ok (cd.fact 64 (f := .noat "Book" "shapes") rfl)
  have mk_Bk : Mk K (He.ga K "Book") (He.ma K (He.ga K "Book") "__init__") := He.mkr_ok (cd.fact 65 (f := .mkr "Book") rfl)
  obtain ⟨fdIn, FIn0⟩ := cd.def_ 33 (d := dOf ("Book", some "__init__") "__init__" "Book.__init__" sInit [] [("figures", .adr emptyT)]) rfl
  have mIn : Meth K (He.ga K "Book") "__init__" (He.ma K (He.ga K "Book") "__init__") := He.meth_ok (cd.fact 66 (f := .meth "Book" "__init__") rfl)
  obtain ⟨fdbPd, FbPd0⟩ := cd.def_ 34 (d := dOf ("Book", some "pads") "pads" "Book.pads" sPadsM [] []) rfl
  have FbPd : Fun K "pads" "Book.pads" sPadsM (He.ma K (He.ga K "Book") "pads") fdbPd := funOf FbPd0
  have bbPd := FbPd.binds (ps := ["self"]) fun _ _ _ _ _ _ us hl => match us, hl with | [_], _ => rfl
  have mbPd : Meth K (He.ga K "Book") "pads" (He.ma K (He.ga K "Book") "pads") := He.meth_ok (cd.fact 67 (f := .meth "Book" "pads") rfl)
  obtain ⟨fdbC, FbC0⟩ := cd.def_ 35 (d := dOf ("Book", some "colours") "colours" "Book.colours" sCols [] []) rfl
  have FbC : Fun K "colours" "Book.colours" sCols (He.ma K (He.ga K "Book") "colours") fdbC := funOf FbC0
  have bbC := FbC.binds (ps := ["self"]) fun _ _ _ _ _ _ us hl => match us, hl with | [_], _ => rfl
  have mbC : Meth K (He.ga K "Book") "colours" (He.ma K (He.ga K "Book") "colours") := He.meth_ok (cd.fact 68 (f := .meth "Book" "colours") rfl)
  obtain ⟨fdbF, FbF0⟩ := cd.def_ 36 (d := dOf ("Book", some "figures") "figures" "Book.figures" sFigs [] []) rfl
  have FbF : Fun K "figures" "Book.figures" sFigs (He.ma K (He.ga K "Book") "figures") fdbF := funOf FbF0
  have bbF := FbF.binds (ps := ["self"]) fun _ _ _ _ _ _ us hl => match us, hl with | [_], _ => rfl
  have mbF : Meth K (He.ga K "Book") "figures" (He.ma K (He.ga K "Book") "figures") := He.meth_ok (cd.fact 69 (f := .meth "Book" "figures") rfl)
  obtain ⟨fdbSh, FbSh0⟩ := cd.def_ 37 (d := dOf ("Book", some "shape") "shape" "Book.shape" sShpX [] []) rfl
  have FbSh : Fun K "shape" "Book.shape" sShpX (He.ma K (He.ga K "Book") "shape") fdbSh := funOf FbSh0
  have bbSh := FbSh.binds (ps := ["self", "at"]) fun _ _ _ _ _ _ us hl => match us, hl with | [_, _], _ => rfl
  have mbSh : Meth K (He.ga K "Book") "shape" (He.ma K (He.ga K "Book") "shape") := He.meth_ok (cd.fact 70 (f := .meth "Book" "shape") rfl)
  obtain ⟨fdbLn, FbLn0⟩ := cd.def_ 38 (d := dOf ("Book", some "__len__") "__len__" "Book.__len__" sBLen [] []) rfl
  have FbLn : Fun K "__len__" "Book.__len__" sBLen (He.ma K (He.ga K "Book") "__len__") fdbLn := funOf FbLn0
  have bbLn := FbLn.binds (ps := ["self"]) fun _ _ _ _ _ _ us hl => match us, hl with | [_], _ => rfl
  have mbLn : Meth K (He.ga K "Book") "__len__" (He.ma K (He.ga K "Book") "__len__") := He.meth_ok (cd.fact 71 (f := .meth "Book" "__len__") rfl)
  obtain ⟨fdbEq, FbEq0⟩ := cd.def_ 39 (d := dOf ("Book", some "__eq__") "__eq__" "Book.__eq__" sBEq [] []) rfl
  have FbEq : Fun K "__eq__" "Book.__eq__" sBEq (He.ma K (He.ga K "Book") "__eq__") fdbEq := funOf FbEq0
  have bbEq := FbEq.binds (ps := ["self", "other"]) fun _ _ _ _ _ _ us hl => match us, hl with | [_, _], _ => rfl
  have mbEq : Meth K (He.ga K "Book") "__eq__" (He.ma K (He.ga K "Book") "__eq__") := He.meth_ok (cd.fact 72 (f := .meth "Book" "__eq__") rfl)
  obtain ⟨fdbSt, FbSt0⟩ := cd.def_ 40 (d := dOf ("Book", some "__str__") "__str__" "Book.__str__" sBStr [] []) rfl
  have FbSt : Fun K "__str__" "Book.__str__" sBStr (He.ma K (He.ga K "Book") "__str__") fdbSt := funOf FbSt0
  have bbSt := FbSt.binds (ps := ["self"]) fun _ _ _ _ _ _ us hl => match us, hl with | [_], _ => rfl
  have mbSt : Meth K (He.ga K "Book") "__str__" (He.ma K (He.ga K "Book") "__str__") := He.meth_ok (cd.fact 73 (f := .meth "Book" "__str__") rfl)
  obtain ⟨fdbRp, FbRp0⟩ := cd.def_ 41 (d := dOf ("Book", some "__repr__") "__repr__" "Book.__repr__" sBRep [] []) rfl
  have FbRp : Fun K "__repr__" "Book.__repr__" sBRep (He.ma K (He.ga K "Book") "__repr__") fdbRp := funOf FbRp0
  have bbRp := FbRp.binds (ps := ["self"]) fun _ _ _ _ _ _ us hl => match us, hl with | [_], _ => rfl
  have mbRp : Meth K (He.ga K "Book") "__repr__" (He.ma K (He.ga K "Book") "__repr__") := He.meth_ok (cd.fact 74 (f := .meth "Book" "__repr__") rfl)
  have m_len : mg "len" = none := He.free_ok X G (cd.fact 75 (f := .free "len") rfl)
  have m_list : mg "list" = none := He.free_ok X G (cd.fact 76 (f := .free "list") rfl)
  have m_tuple : mg "tuple" = none := He.free_ok X G (cd.fact 77 (f := .free "tuple") rfl)
  have m_range : mg "range" = none := He.free_ok X G (cd.fact 78 (f := .free "range") rfl)
  have m_isinstance : mg "isinstance" = none := He.free_ok X G (cd.fact 79 (f := .free "isinstance") rfl)
  have m_all : mg "all" = none := He.free_ok X G (cd.fact 80 (f := .free "all") rfl)
  have m_any : mg "any" = none := He.free_ok X G (cd.fact 81 (f := .free "any") rfl)
  have m_bool : mg "bool" = none := He.free_ok X G (cd.fact 82 (f := .free "bool") rfl)
  have m_int : mg "int" = none := He.free_ok X G (cd.fact 83 (f := .free "int") rfl)
  have m_str : mg "str" = none := He.free_ok X G (cd.fact 84 (f := .free "str") rfl)
  have m_dict : mg "dict" = none := He.free_ok X G (cd.fact 85 (f := .free "dict") rfl)
  have m_enumerate : mg "enumerate" = none := He.free_ok X G (cd.fact 86 (f := .free "enumerate") rfl)
  have m_zip : mg "zip" = none := He.free_ok X G (cd.fact 87 (f := .free "zip") rfl)
  have m_sum : mg "sum" = none := He.free_ok X G (cd.fact 88 (f := .free "sum") rfl)
  have m_repr : mg "repr" = none := He.free_ok X G (cd.fact 89 (f := .free "repr") rfl)
  obtain ⟨tk1, w_1⟩ := He.int_ok X G (cd.fact 90 (f := .int "MOST_PADS" 6) rfl)
  obtain ⟨tk2, w_2⟩ := He.int_ok X G (cd.fact 91 (f := .int "MOST_COLOURS" 4) rfl)
  obtain ⟨tk3, w_3⟩ := He.int_ok X G (cd.fact 92 (f := .int "MOST_FIGURES" 12) rfl)
  obtain ⟨tk4, w_4⟩ := He.int_ok X G (cd.fact 93 (f := .int "MOST_DEPTH" 3) rfl)
  have e := hfa.symm.trans gW
  cases e
  obtain ⟨ocW, odW, kVW, dcW, pmW, anW, cdW, ctW, slW, eW, lW, cW⟩ := FW.ex
  subst eW
  obtain ⟨cLw, rfl⟩ := He.codeIn_ref cW
  have eC0 : He.codeOf K (("law", none) : He.Defn) = cLw := He.codeOf_eq (p := ("law", none)) lW rfl
  have hm0 : (("law", none) : He.Defn) ∈ hTf := List.mem_singleton.mpr rfl
  have hd0 := c.hd _ hm0
  have ho0 := c.out _ hm0
  have he0 := c.empty _ hm0
  have e10 : (He.cT K (("law", none) : He.Defn)).1 = cLw := eC0
  generalize hp0 : (He.cT K (("law", none) : He.Defn)).2 = pLw at hd0 ho0 he0
  rw [e10] at hd0
  refine ⟨PySem.W.fnOf "law" "law" (defArgs sLaw) (defBody sLaw) (defScope sLaw) .none kVW dcW pmW anW (.ref cLw) ctW, [(cLw, pLw)], spLaw K pLw, fun p hp => ?_, fun p hp => ?_, fun p hp => ?_, fun s u => .of_eq rfl, fun H a ns h1 h2 h3 h4 => ?_, fun base hK hN hTB => ?_⟩
  · rw [List.mem_singleton.mp hp]
    exact he0
  · rw [List.mem_singleton.mp hp]
    exact ho0
  · rw [List.mem_singleton.mp hp]
    exact PySem.W.codeHd_of_K X hd0
  · exact ⟨a, ns, rfl, h4, h1, h3 (cLw, pLw) (List.mem_singleton.mpr rfl), fun _ => rfl⟩
  have tb : LamX.TabB base mg cLw pLw := hTB (cLw, pLw) (List.mem_singleton.mpr rfl)
  have TB : BkTxt K mg (He.ga K "Book") := ⟨cl_Bk, nBk_palette, nBk_shapes, g_Bk⟩
  have M : LkG mg := ⟨m_isinstance, m_tuple, m_list, m_len, m_all, m_range, m_bool, m_int, m_str⟩
  have TLN := lenB_ok x5
  have TST := strB_ok x6
  have TRP := repB_ok x7
  have TBE := clsEB_ok x8
  have tT := emptyB_ok x9
  have O2 := othB_ok x10
  have O3 := othB_ok x11
  obtain ⟨mvI, kbI⟩ := FIn0.kbinds0 (ps := ["self", "colours", "figures"]) 2 ["figures"] [] (fun us mv ws => us ++ ws) (List.cons_ne_nil _ _) (fun q hq => by cases hq) (fun r1 r2 r3 => r1.append r3) (fun D doc pm an cdv ct us mv ws l1 l2 l3 => match us, mv, ws, l1, l2, l3 with | [_, _], [], [_], _, _, _ => rfl)
  obtain ⟨dsJ, vJ, bJ0⟩ := FIn0.binds0 (ps := ["self", "colours", "figures"]) 2 (List.cons_ne_nil _ _) rfl (fun D doc pm an cdv ct us ks l1 l2 => match us, ks, l1, l2 with | [_, _], [_], _, _ => ⟨_, _, _, _, _, _, rfl, rfl, rfl⟩)
  have Gms : FnOk l.prog w K mg base CX0 4 _ _ ["figure"] (spMaskA K) := ok_maskA (k := 3) Fms m_sum
  have Gba : FnOk l.prog w K mg base CX0 4 _ _ ["one", "other"] (spBarA K) := ok_barA (k := 3) Fba m_any
  have Gfi : FnOk l.prog w K mg base CX0 4 _ _ ["colours", "figure"] (spIsFigA K) := ok_isfigA (k := 2) Ffi m_len m_all m_zip w_4 Fti bti gti Fpo_ bpo_ gpo_
  have Gcc : FnOk l.prog w K mg base (L2.CX l.prog w) 5 _ _ ["colours"] (spCColA K (He.ga K "BadColours")) := ok_ccolA (k := 3) Fcc (R_BadColours base 3 (by decide)) m_len m_enumerate w_1 w_2
  have Gcf : FnOk l.prog w K mg base CX0 5 _ _ ["colours", "figures"] (spCFigA K) := ok_cfigA (k := 4) Fcf m_enumerate Ffi bfi gfi Gfi
  have Gcm : FnOk l.prog w K mg base (L2.CX l.prog w) 5 _ _ ["figures"] (spCMeetA K (He.ga K "Meeting")) := ok_cmeetA (k := 3) Fcm m_enumerate m_range m_len (R_Meeting base 3 (by decide)) Fms bms gms Gms Fba bba gba Gba
  have Gcy : FnOk l.prog w K mg base CX0 5 _ _ ["figure"] (spCopyFA K) := ok_copyfA (k := 4) Fcy m_tuple
  have GIn : FnOk l.prog w K mg base (L2.CX l.prog w) 6 _ _ ["self", "colours", "figures"] (spInitA K (He.ga K "Book") (fun i => (rNms.map (He.ga K)).getD i 0)) := ok_initA (k := 4) FIn0 TB m_len m_tuple w_3 (R_TooMany base 4 (by decide)) Fcc bcc gcc Gcc Fcf bcf gcf Gcf Fcm bcm gcm Gcm Fcy bcy gcy Gcy
  have GJ : FnOk l.prog w K mg base CX0 6 _ _ ["self", "colours", "figures"] (spInitG K (He.ga K "Book")) := initGC GIn
  have Gbp (k : Nat) : FnOk l.prog w K mg base CX0 (k + 1) _ _ ["self"] (spPadsM K (He.ga K "Book")) := ok_padsM (k := k) FbPd TB m_len
  have Gbc (k : Nat) : FnOk l.prog w K mg base CX0 (k + 1) _ _ ["self"] (spCols K (He.ga K "Book")) := ok_cols (k := k) FbC TB
  have Gbf (k : Nat) : FnOk l.prog w K mg base CX0 (k + 1) _ _ ["self"] (spFigs K (He.ga K "Book")) := ok_figs (k := k) FbF TB m_list
  have Gbl (k : Nat) : FnOk l.prog w K mg base CX0 (k + 1) _ _ ["self"] (spBLen K (He.ga K "Book")) := ok_blen (k := k) FbLn TB m_len
  have GbS : FnOk l.prog w K mg base (L2.CX l.prog w) 8 _ _ ["self", "at"] (spShpX K (He.ga K "Book") (He.ga K "NoFigure")) := ok_shpX (k := 6) FbSh TB m_len (R_NoFigure base 6 (by decide))
  have GbS2 : FnOk l.prog w K mg base (L2.CX l.prog w) 11 _ _ ["self", "at"] (spShpX K (He.ga K "Book") (He.ga K "NoFigure")) := ok_shpX (k := 9) FbSh TB m_len (R_NoFigure base 9 (by decide))
  have Gbe (k : Nat) : FnOk l.prog w K mg base CX0 (k + 1) _ _ ["self", "other"] (spBEq K (He.ga K "Book")) := ok_beq (k := k) FbEq TB TBE m_isinstance
  have Gtt (k : Nat) : FnOk l.prog w K mg base CX0 (k + 1) _ _ ["triple"] (spTriTx K) := ok_tritx (k := k) Ftt
  have Gft (k : Nat) : FnOk l.prog w K mg base CX0 (k + 2) _ _ ["figure"] (spFigTx K) := ok_figtx (k := k + 1) Fft Ftt btt gtt (Gtt k)
  have Gct (k : Nat) : FnOk l.prog w K mg base CX0 (k + 1) _ _ ["colours"] (spColTx K) := ok_coltx (k := k) Fct m_str
  have Gst (k : Nat) : FnOk l.prog w K mg base CX0 (k + 3) _ _ ["self"] (spBStr K (He.ga K "Book")) := ok_bstr (k := k + 2) FbSt TB Fct bct gct (Gct (k + 1)) Fft bft gft (Gft k)
  have Grp (k : Nat) : FnOk l.prog w K mg base CX0 (k + 1) _ _ ["self"] (spBRep K (He.ga K "Book")) := ok_brep (k := k) FbRp TB m_len
  have Gbt : FnOk l.prog w K mg base CX0 11 _ _ ["book"] (spBStr K (He.ga K "Book")) := ok_btx (k := 8) Fbt TST bbSt (Gst 5) m_str
  have GLST (k : Nat) : FnOk l.prog w K mg base CX0 (k + 1) _ _ ["_law_shape_here"] (spFigTx K) := ok_lst (k := k) FLST m_str
  have GLBS : FnOk l.prog w K mg base CX0 11 _ _ ["_law_colours", "_law_shapes_here"] (spLBS K) := ok_lbs (k := 10) FLBS m_str FLST bLST gLST (GLST 9)
  have GP (k : Nat) : FnOk l.prog w K mg base CX0 (k + 1) _ _ ["_law_bag_here", "_law_size"] spPull := ok_pull (k := k) FP m_len
  have GO (k : Nat) : FnOk l.prog w K mg base CX0 (k + 2) _ _ ["_law_bag_here", "_law_things"] spOf := ok_of (k := k) FO m_len FP bP gP
  have GHu : FnOk l.prog w K mg base CX0 11 _ _ ["_law_bag_here", "_law_most"] spHues := ok_hues (k := 10) FHu m_range FP bP gP (GP 9) FO bO gO (GO 8)
  have GSp : FnOk l.prog w K mg base CX0 10 _ _ ["_law_bag_here", "_law_colours"] (spShape K) := ok_shape (k := 9) FSp m_range m_len m_tuple FP bP gP (GP 8) FO bO gO (GO 7)
  have GBa (k : Nat) : FnOk l.prog w K mg base CX0 (k + 1) _ _ ["_law_one", "_law_other"] (spBars K) := ok_bars (k := k) FBa m_dict m_any
  have GSs : FnOk l.prog w K mg base CX0 11 _ _ ["_law_bag_here", "_law_colours", "_law_most"] (spShapes K) := ok_shapes (k := 10) FSs m_range m_all FSp bSp gSp GSp FBa bBa gBa (GBa 9)
  have GF (k : Nat) : FnOk l.prog w K mg base CX0 (k + 2) _ _ ["_law_bag_here"] spFar := ok_far (k := k + 1) FF FP bP gP (GP k)
  have GK : FnOk l.prog w K mg base CX0 5 _ _ ["_law_one", "_law_due"] (spLike K 5) := ok_like FK bK gK M 5
  exact ok_law03 (cm := (fun i => (rNms.map (He.ga K)).getD i 0)) lW cW tb TB FB bB gB (ok_bag (k := 10) FB m_len m_list) FO bO gO (GO 9) FHu bHu gHu GHu FSs bSs gSs GSs FF bF gF (GF 9) FK bK gK GK FT bT gT RT FIs bIs gIs FLBS bLBS gLBS GLBS Fbt bbt gbt Gbt mk_Bk kbI bJ0 vJ tT (GJ.mono (by decide)) bbC mbC (Gbc 10) bbPd mbPd (Gbp 10) bbF mbF (Gbf 10) bbSh mbSh GbS (shpG GbS2) TLN bbLn (Gbl 9) TST bbSt (Gst 6) TRP bbRp (Grp 9) TBE bbEq (Gbe 9) O2 O3 m_range m_len m_list m_tuple m_str m_repr
theorem hRunA (w : World) (os : OsState) : (HandSHeadRun.endF (HandSHeadRun.stepQ (HandSHeadRun.denQ HandSHeadRun.tabQ) hR.prog w) 20000 hR.prog w os).map (fun s => HandSHeadRun.looksF hR.prog (PySem.W.boot_heap w.params) s.abs) = some true := by
  kernel_rfl
theorem hRunB (w : World) (os : OsState) : (HandSHeadRun.endF (HandSHeadRun.stepQ (HandSHeadRun.denQ HandSHeadRun.tabQ) hR.prog w) 20000 hR.prog w os).map (fun s => HandSHeadRun.seenQ (PySem.W.view hR.prog [67]) hNames (importedModules hR.prog.main.body) (fun s => PySem.W.xlAt (PySem.W.view hR.prog [67]) [] s && PySem.W.recOk hR.toRowW.records s) s.abs) = some (PySem.W.openGood (PySem.W.view hR.prog [67]) hNames) := by
  kernel_rfl
theorem hRunC (w : World) (os : OsState) : (HandSHeadRun.endF (HandSHeadRun.stepQ (HandSHeadRun.denQ HandSHeadRun.tabQ) hR.prog w) 20000 hR.prog w os).map (fun s => (hOb s).1) = some (He.valX hFn [] w).1 := by
  kernel_rfl
theorem hRunD (w : World) (os : OsState) : (HandSHeadRun.endF (HandSHeadRun.stepQ (HandSHeadRun.denQ HandSHeadRun.tabQ) hR.prog w) 20000 hR.prog w os).map (fun s => (hOb s).2) = some true := by
  kernel_rfl
theorem map_four {α β γ δ ε : Type} {o : Option α} {f : α → β} {g : α → γ} {h : α → δ × ε} {x : β} {y : γ} {z : δ} {u : ε} (a : o.map f = some x) (b : o.map g = some y) (c : o.map (fun s => (h s).1) = some z) (d : o.map (fun s => (h s).2) = some u) : o.map (fun s => (f s, g s, h s)) = some (x, y, z, u) := by
  cases o with
  | none => cases a
  | some s =>
    have a := Option.some.inj a
    have b := Option.some.inj b
    have c := Option.some.inj c
    have d := Option.some.inj d
    dsimp only at a b c d
    show some (f s, g s, h s) = _
    rw [a, b, show h s = (z, u) from Prod.ext c d]
theorem hRun (w : World) : HandSHeadRun.RunEq hR (PySem.W.view hR.prog [67]) hK hOb 20000 hNames w := fun os => map_four (hRunA w os) (hRunB w os) (hRunC w os) (hRunD w os)
end TB
open PySem PySem.W PySem.Calls PyProof.Rows
set_option maxHeartbeats 0 in
theorem PySem.Challenge.cw_tearboard_k03_books_told_holds : PySem.Challenge.rw_tearboard_k03_books_told.Holds := by
  w_on; o_law
  refine HandSHeadRun.head_any (r := OpenLaw.row PySem.Challenge.rw_tearboard_k03_books_told) (q := view (OpenLaw.row PySem.Challenge.rw_tearboard_k03_books_told).prog [67]) (H := TB.hK) (ob := TB.hOb) (M := 20000) (loose := TB.hNames) (d := HandSHeadRun.topDef (OpenLaw.row PySem.Challenge.rw_tearboard_k03_books_told).prog 67) (kwd := []) TB.hOb_eq
    (by kernel_rfl) (fun s => by kernel_rfl) TB.hRun (by kernel_rfl) (by kernel_rfl) (by kernel_rfl) (by rfl) (by first | assumption | decide +kernel) (by decide +kernel) ⟨rfl, rfl, rfl, rfl, rfl, by decide +kernel⟩ ?hw ?hc
  case hw => w_witness2
  case hc =>
    refine LamX.walk_ofTsE (l := PySem.Challenge.rw_tearboard_k03_books_told) (n := 63) (k := 12) (x := "_law_script") (CX := fun _ => L2.CX0) rfl (by decide) (by kernel_rfl) ⟨rfl, by decide, by decide⟩ ?F (fun _ _ _ _ _ z => z)
    intro w mg fa h Y G hmg0
    obtain ⟨K, KX, c⟩ := Y
    have hmg : mg ("law" : PySem.Str) = some (.ref fa) := by
      have e : (HandSHeadRun.topDef (OpenLaw.row PySem.Challenge.rw_tearboard_k03_books_told).prog 67).name = ("law" : PySem.Str) := by kernel_rfl
      rw [← e]
      exact hmg0
    exact ⟨K, KX, TB.hFacts KX G hmg c⟩
