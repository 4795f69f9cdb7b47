import PyProof.Rows.All
import Wide.All
import OpenK.AllK
import Wide.FinOn
import HandS.ForMost
import HandS.IsInst
import HandS.TupAny
import HandS.TupMul
import HandS.Wide
import HandS.Codes
import HandS.DictComp
import HandS.Walk
import HandS.Zip
import HandS.Deep
import HandS.MakeKwOnly
import HandS.SortRule
import HandS.SortInts
import HandS.TupSets
import HandS.CallRecv
import HandS.ExcInit
import HandS.ClsMeth
import HandS.ExcField
import HandS.TryMany
import HandS.Lambda
import HandS.ExcIs
import HandS.WordsExc
import HandS.Style
import HandS.Strs
import HandS.EndOwn
import KE.KStateDown
import KE.KNest
import KE.KNestM
import HandS.Defaults
import HandS.Head0
import HandS.Head1
import HandS.Head2
import HandS.HeadHook1
import HandS.HeadHook2
import HandS.HeadHook3
import HandS.HeadHook4
import HandS.HeadWalk
import KE.GoesMore
import KE.KExcInit
import KE.KExcIs
import HandS.Text
import HandS.SetFor
import HandS.Strs
import KE.LtSeq
import PySem.Challenge.RW_tearboard_k05_parts
set_option Elab.async false
set_option linter.all false
set_option maxRecDepth 100000
set_option maxHeartbeats 4000000
namespace TB
open PySem PySem.Spec PyProof.Rows L2
def topS (i : Nat) : Stmt := PySem.Challenge.pw_tearboard_k05_parts.main.body.getD i (.Pass ⟨0, 0, 0, 0⟩)
/-! heaps -/
theorem same_upd {H : Hp} {p : Addr} {o : HO} (h : H p = none) : Same H (upd H p o) := fun b x e => by
  rw [upd_ne (ne_of_none e h)]
  exact e
/-- all that was tracked is as it was, but at b -/
def Off (b : Addr) (H H' : Hp) : Prop := ∀ a o, a ≠ b → H a = some o → H' a = some o
theorem Off.refl {b : Addr} {H : Hp} : Off b H H := fun _ _ _ h => h
theorem Off.trans {b : Addr} {H H1 H2 : Hp} (x : Off b H H1) (y : Off b H1 H2) : Off b H H2 := fun a o n h => y a o n (x a o n h)
theorem Off.same {b : Addr} {H H' : Hp} (x : Same H H') : Off b H H' := fun a o _ h => x a o h
theorem Off.upd {b : Addr} {H : Hp} {o : HO} : Off b H (upd H b o) := fun a x n h => by
  rw [upd_ne n]
  exact h
theorem Off.seqL {K : PySem.W.Frag} {b : Addr} {H H' : Hp} {a : Addr} {xs : List V} (x : Off b H H') (n : a ≠ b) (h : H a = some (.lst xs)) : H' a = some (.lst xs) := x a _ n h
/-- the bag of drawn numbers -/
structure Bag (H : Hp) (b c : Addr) : Prop where
  ex : ∃ (cells : List Int) (at' rest seed : Int), H b = some (.lst [.ref c, .int at', .int rest, .int seed]) ∧ H c = some (.lst (cells.map V.int)) ∧ 0 ≤ at' ∧ 0 ≤ rest ∧ 0 ≤ seed ∧ seed < 1000000000000 ∧ c ≠ b
theorem Bag.same {H H' : Hp} {b c : Addr} (h : Bag H b c) (x : Same H H') : Bag H' b c := by
  obtain ⟨cells, a, r, s, h1, h2, h3⟩ := h.ex
  exact ⟨cells, a, r, s, x _ _ h1, x _ _ h2, h3⟩
theorem Bag.ne {H : Hp} {b c p : Addr} (h : Bag H b c) (n : H p = none) : p ≠ b ∧ p ≠ c := by
  obtain ⟨cells, a, r, s, h1, h2, h3⟩ := h.ex
  exact ⟨(ne_of_none h1 n).symm, (ne_of_none h2 n).symm⟩
theorem Bag.upd {H : Hp} {b c p : Addr} {o : HO} (h : Bag H b c) (n : p ≠ b ∧ p ≠ c) : Bag (upd H p o) b c := by
  obtain ⟨cells, a, r, s, h1, h2, h3⟩ := h.ex
  refine ⟨cells, a, r, s, ?_, ?_, h3⟩
  · rw [upd_ne n.1.symm]
    exact h1
  · rw [upd_ne n.2.symm]
    exact h2
/-! ### exceptions of own classes over any of the plain built-in bases -/
/-- what the written part tells of the class at C; D is its mro behind C, B the built-in base -/
structure OexG (K : PySem.W.Frag) (C : Addr) : Prop where
  cls : ∃ (nm q : Str) (N : Addr) (bs bm : List Value) (sn : List Str) (sub : List Value) (ab : Bool) (col : Option Bool) (dd : Option Addr) (k0 k1 k2 k3 k5 : Option Value) (B nw it : String) (bmB : List Value),
    ExcBaseFacts B nw it bmB ∧ K.lookup C = some (excClassObj nm q C N bs bm true sn sub ab col dd k0 k1 k2 k3 k5 nw) ∧ (∀ Y : String, bm.contains (.type Y) = bmB.contains (.type Y)) ∧
      bmB.contains (.type "object") = true ∧ ∀ self : Value, refuseLoop self "__setattr__" (.ref C :: bm) = pure ()
  sa : PySem.W.findIn K (.ref C) "__setattr__" = some (some (.builtin "object.__setattr__"))
  exC : PySem.W.subIn K (.ref C) (.type "BaseException") = some true
  tyC : PySem.W.typeIn K (.ref C) = some (.type "type")
  kC : PySem.W.keepIn K (.ref C) = true
section
open Builtin Builtin.ObjectAttr PySem.W PySem.HandSPX
variable {prog : Program} {w : World} {A : Around} {R : Result → Shared → Prop} {hp : Heap} {g : Array GenState} {d : Drawn} {t : Nat} {os : OsState} {K : Frag} {name : Str} {tk : Tok} {v : Value} {x C : Addr} {fv : Array Value} {cd : ClassData}
/-- object.__setattr__ up to the own dict, whatever dict there is -/
theorem gosa {ox : Obj} {od : Option Obj} (hT : K.In hp) (I : InstAt hp x ox C od) (hcd : clsIn K C = some cd) (hne : cd.mro.isEmpty = false) (hob : cd.mro.contains (.type "object") = true) (hps : ∀ self : Value, refuseLoop self "__setattr__" cd.mro = pure ())
    (hno : findIn K (.ref C) name = some none)
    (hq : wpAny (model prog w) A.in1 (storeInOwnDict (.ref x) (.ref C) (.str name tk) name v false) (fun fin s' => match fin with | .done (.ret u) => R (.ok (.ret u)) s' | _ => False) (fun _ _ => False) ⟨hp, g, d, t, os⟩) :
    codeAny (model prog w) A (.call (.builtin "object.__setattr__") ⟨[.ref x, .str name tk, v], []⟩) R ⟨hp, g, d, t, os⟩ := by
  have so := PySem.F.store_object
  have isO : Looks (model prog w) hp (isInstance (.ref x) (.type "object")) true := I.type.andThen (looks_mroIn hT (by unfold mroIn; rw [hcd, Option.bind_some, if_neg (by rw [hne]; decide), hob]))
  refine codeAny_call_builtin so.slot.plain so.entry (@check_slot (model prog w) _ _ ⟨hp, g, d, t, os⟩ "object.__setattr__" "object" "__setattr__" (.ref x) [.str name tk, v] [] _ so.kind so.split isO (so.args (.ref x) (.str name tk) v) ?_)
  have lm : Looks (model prog w) hp (mroOf (.ref C)) cd.mro := (looks_clsIn hT hcd).andThen .now
  have ln : Looks (model prog w) hp (storeTaker? none) none := .now
  rw [osa_eq, refuse_eq]
  refine wpAny_bind (wpAny_bind (I.type.at (wpAny_bind (lm.at ?_))))
  rw [hps]
  refine wpAny_pure (wpAny_bind (I.type.at (wpAny_bind ((looks_findIn hT hno).at (wpAny_bind (ln.at ?_))))))
  refine wpAny_mono hq (fun fin s' z => ?_) fun _ _ z => z.elim
  rcases fin with (_ | _ | _ | _) | c <;> first | exact z | exact z.elim
/-- the first field: the dict is new -/
theorem gosa_new (hT : K.In hp) (hx : hp.get? x = some { cls := .ref C, data := .fields fv }) (hcd : clsIn K C = some cd) (hne : cd.mro.isEmpty = false) (hob : cd.mro.contains (.type "object") = true) (hps : ∀ self : Value, refuseLoop self "__setattr__" cd.mro = pure ())
    (hh : cd.hasDict = true) (hno : findIn K (.ref C) name = some none)
    (hq : ∀ h' tk' dx, (∀ b o, b ≠ x → hp.get? b = some o → h'.get? b = some o) → hp.objs.size ≤ dx → dx ≠ x → h'.get? x = some { cls := .ref C, dict := some dx, data := .fields fv } →
      h'.Ns1 dx (fun y => if y = name then some v else none) → R (.ok (.ret .none)) ⟨h', g, d, tk', os⟩) :
    codeAny (model prog w) A (.call (.builtin "object.__setattr__") ⟨[.ref x, .str name tk, v], []⟩) R ⟨hp, g, d, t, os⟩ := by
  refine gosa hT (⟨hx, rfl, rfl, trivial⟩ : InstAt hp x { cls := .ref C, data := .fields fv } C none) hcd hne hob hps hno ?_
  have lc : Looks (model prog w) hp (classData C) cd := looks_clsIn hT hcd
  have far : x ≠ hp.objs.size := Nat.ne_of_lt (Heap.lt_size hx)
  cases cd
  dsimp only at hh
  subst hh
  unfold storeInOwnDict ownDictForStores
  repeat (first | with_reducible refine store_in_new ?_ ?_ | with_reducible refine wpAny_loadPart_at hx ?_ | with_reducible refine lc.at ?_ | wp_step)
  · exact ⟨_, #[], _, (Heap.get?_update_ne _ _ _ _ far.symm).trans (Heap.get?_push_at rfl rfl), rfl, fun e he => absurd he (by simp), fun _ => rfl⟩
  · intro h' tk' hn' hs
    refine hq h' tk' hp.objs.size (fun b o hb ho => ?_) (Nat.le_refl _) far.symm ?_ hn'
    · exact (hs.2 b (Nat.ne_of_lt (Heap.lt_size ho))).trans ((Heap.get?_update_ne _ _ _ _ hb).trans (Heap.get?_push_of_some _ ho))
    · exact (hs.2 x far).trans (Heap.get?_update_self _ (Heap.get?_push_of_some _ hx) rfl)
/-- a later field: the dict is there -/
theorem gosa_old {dx : Addr} {m0 : Str → Option Value} {nl : List Str} (hT : K.In hp) (hx : hp.get? x = some { cls := .ref C, dict := some dx, data := .fields fv }) (hns : hp.Ns1 dx m0) (hw : Within m0 nl) (hz : nl.length ≤ 1000)
    (hcd : clsIn K C = some cd) (hne : cd.mro.isEmpty = false) (hob : cd.mro.contains (.type "object") = true) (hps : ∀ self : Value, refuseLoop self "__setattr__" cd.mro = pure ()) (hh : cd.hasDict = true) (hno : findIn K (.ref C) name = some none)
    (hq : ∀ h' tk', (∀ b o, b ≠ dx → hp.get? b = some o → h'.get? b = some o) → h'.Ns1 dx (fun y => if y = name then some v else m0 y) → R (.ok (.ret .none)) ⟨h', g, d, tk', os⟩) :
    codeAny (model prog w) A (.call (.builtin "object.__setattr__") ⟨[.ref x, .str name tk, v], []⟩) R ⟨hp, g, d, t, os⟩ := by
  obtain ⟨oD, _, _, hoD, _, _⟩ := hns.count hw
  refine gosa hT (⟨hx, rfl, rfl, hoD⟩ : InstAt hp x { cls := .ref C, dict := some dx, data := .fields fv } C (some oD)) hcd hne hob hps hno ?_
  have lc : Looks (model prog w) hp (classData C) cd := looks_clsIn hT hcd
  cases cd
  dsimp only at hh
  subst hh
  unfold storeInOwnDict ownDictForStores
  repeat (first | with_reducible refine PySem.OEX.store_in_old hns hw hz ?_ | with_reducible refine wpAny_loadPart_at hx ?_ | with_reducible refine lc.at ?_ | wp_step)
  intro h' tk' hn' hs
  exact hq h' tk' (fun b o hb ho => (hs.2 b hb).trans ho) hn'
end
section
variable {X : Cx} {pins : List (Addr × Obj)} {σ : L2.St} {H : Hp} {s : Shared} {a C dx : Addr} {f : Str} {y : V} {u : Value} {fs : List (Str × V)} {Q : Unit → Shared → Prop} {E : Value → Shared → Prop} {A : Around}
theorem OexG.clsD {K : PySem.W.Frag} {C : Addr} (T : OexG K C) : ∃ cd, PySem.W.clsIn K C = some cd ∧ cd.mro.isEmpty = false ∧ cd.mro.contains (.type "object") = true ∧ (∀ self : Value, refuseLoop self "__setattr__" cd.mro = pure ()) ∧ cd.hasDict = true := by
  obtain ⟨nm, q, N, bs, bm, sn, sub, ab, col, dd, k0, k1, k2, k3, k5, B, nw, it, bmB, F, hC, hc, ho, hp⟩ := T.cls
  refine ⟨{ name := nm, bases := bs, mro := .ref C :: bm, ns := N, qualname := q, hasDict := true, slotNames := sn, subclasses := sub, abstract := ab, collection := col, hasDel := false }, by unfold PySem.W.clsIn; rw [hC] <;> rfl, rfl, ?_, hp, rfl⟩
  show (Value.ref C :: bm).contains (.type "object") = true
  rw [List.contains_cons, hc, ho, Bool.or_true]
/-- self.f = y, the first field -/
theorem gost_new (T : OexG X.K C) (I : Inv X pins σ H s) (e : H a = some (exo a C none)) (hno : PySem.W.findIn X.K (.ref C) f = some none) (ry : RelV y u)
    (h : ∀ dx s', H dx = none → dx ≠ a → Inv X pins σ (upd (upd H dx (exd dx [(f, y)])) a (exo a C (some dx))) s' → Q () s') : wpAny (model X.prog X.w) A (setAttr (.ref a) f u) Q E s := by
  obtain ⟨cd, hcd, c1, c2, c3, c4⟩ := T.clsD
  obtain ⟨t1, ho⟩ := exo_at I.hok e
  obtain ⟨hp, g, dr, tk, os⟩ := s
  refine PySem.W.set_plain I.kIn (ox := { cls := .ref C, dict := none, data := .fields #[.ref t1, .none, .none, .none, .bool false, .none] }) (od := none) ⟨ho, rfl, rfl, trivial⟩ T.sa ?_
  refine gosa_new I.kIn ho hcd c1 c2 c3 c4 hno fun h' tk' dx kp big ndx hx hn => ?_
  have n0 : H dx = none := I.hok.fresh big
  have nd : ∀ {b : Addr} {o : Obj}, hp.get? b = some o → b ≠ dx := fun {b o} z => Nat.ne_of_lt (Nat.lt_of_lt_of_le (Heap.lt_size z) big)
  have na : ∀ {b : Addr}, H b = none → b ≠ a := fun {b} z1 z2 => by
    rw [z2, e] at z1
    cases z1
  have U : Un X.fs [] H (upd (upd H dx (exd dx [(f, y)])) a (exo a C (some dx))) hp h' :=
    ⟨fun b o z n _ _ => kp b o (na n) z, fun b o z n _ _ => ⟨o.slots, kp b o (na n) z⟩, fun b o z n _ => by rw [upd_ne (na n), upd_ne (nd z)]; exact n, fun b o z _ => by
      by_cases hb : b = a
      · exact ⟨_, by rw [hb]; exact hx⟩
      · exact ⟨o, kp b o hb z⟩,
     fun b xs z => by rw [upd_ne (at_ne e z exo_tup), upd_ne (ne_of_none z n0)]; exact z, fun b o w z => by rw [upd_ne (at_ne e z exo_frz), upd_ne (ne_of_none z n0)]; exact z,
     fun b ps z => ⟨#[], by rw [upd_ne (at_ne e z exo_tbl), upd_ne (ne_of_none z n0), z]; simp⟩⟩
  refine h dx _ n0 ndx (I.un (t' := tk') U fun b o z => ?_)
  by_cases hb : b = a
  · rw [hb, upd_same] at z
    cases z
    rw [hb]
    exact exo_ok hx
  rw [upd_ne hb] at z
  by_cases hd : b = dx
  · rw [hd, upd_same] at z
    cases z
    rw [hd]
    exact exd_ok hn (relO_put (fs := []) ry fun _ => True.intro)
  rw [upd_ne hd] at z
  refine (I.hok b o z).stay (fun c w hc z' => kp c w ?_ z') (fun c hc => ?_) fun c xs hc => ?_
  · rcases hc with hc | hc
    · rw [hc]
      exact hb
    · exact at_ne e hc exo_own
  · rw [upd_ne (at_ne e hc exo_own), upd_ne (ne_of_none hc n0)]
    exact hc
  · rw [upd_ne (at_ne e hc exo_tup), upd_ne (ne_of_none hc n0)]
    exact hc
/-- self.f = y, a later field -/
theorem gost_old (T : OexG X.K C) (I : Inv X pins σ H s) (e : H a = some (exo a C (some dx))) (ed : H dx = some (exd dx fs)) (hl : fs.length ≤ 900) (hno : PySem.W.findIn X.K (.ref C) f = some none) (ry : RelV y u)
    (h : ∀ s', Inv X pins σ (upd H dx (exd dx ((f, y) :: fs))) s' → Q () s') : wpAny (model X.prog X.w) A (setAttr (.ref a) f u) Q E s := by
  obtain ⟨cd, hcd, c1, c2, c3, c4⟩ := T.clsD
  obtain ⟨t1, ho⟩ := exo_at I.hok e
  obtain ⟨mA, hns, rel⟩ := exd_at I.hok ed
  have hw := within_of rel
  obtain ⟨hp, g, dr, tk, os⟩ := s
  obtain ⟨oD, _, _, hoD, _, _⟩ := hns.count hw
  refine PySem.W.set_plain I.kIn (ox := { cls := .ref C, dict := some dx, data := .fields #[.ref t1, .none, .none, .none, .bool false, .none] }) (od := some oD) ⟨ho, rfl, rfl, hoD⟩ T.sa ?_
  refine gosa_old I.kIn ho hns hw (by rw [List.length_map]; omega) hcd c1 c2 c3 c4 hno fun h' tk' kp hn => ?_
  have st : ∃ o, h'.get? dx = some o := by
    obtain ⟨o, _, _, z, _⟩ := hn
    exact ⟨o, z⟩
  exact h _ (I.write (t' := tk') (x := dx) (e := dx) (o := exd dx ((f, y) :: fs)) (by rw [ed]; exact True.intro) (.inl rfl) kp st (exd_ok hn (relO_put ry rel)))
end
/-- self.f = e, self an exception that is being made -/
def tGst (K : PySem.W.Frag) (f : Str) (to te : TE) : TS := fun D σ H => te σ H fun y H1 => to σ H1 fun x H2 => ∃ a C : Addr, x = .ref a ∧ OexG K C ∧ PySem.W.findIn K (.ref C) f = some none ∧
  ((H2 a = some (exo a C none) ∧ ∀ dx, H2 dx = none → dx ≠ a → D.nx σ (upd (upd H2 dx (exd dx [(f, y)])) a (exo a C (some dx)))) ∨
    ∃ (dx : Addr) (fs : List (Str × V)), H2 a = some (exo a C (some dx)) ∧ H2 dx = some (exd dx fs) ∧ fs.length ≤ 900 ∧ D.nx σ (upd H2 dx (exd dx ((f, y) :: fs))))
section
variable {X : Cx} {o e : Expr} {es : List Expr} {to te : TE} {ta : TA} {f : Str} {p p' p1 p2 pos : Pos}
theorem ps_gst (ho : PE X o to) (he : PE X e te) (hs : swapsWith e (some (.Attribute o f p')) pos.line X.env = pure false := by rfl) : PS X (.Assign [.Attribute o f p'] e pos) (tGst X.K f to te) := by
  refine ⟨fun pins s σ H D I h => ?_⟩
  refine plainObj_wpAny_Assign_Attribute (thn (he.run pins s σ H _ I h) fun v s1 ⟨y, H1, I1, r1, q1⟩ => thn (ho.run pins s1 σ H1 _ I1 q1) fun u s2 z => ?_) hs
  obtain ⟨x, H2, I2, r2, a, C, rfl, T, hno, q⟩ := z
  obtain rfl : u = Value.ref a := r2
  rcases q with ⟨ea, q⟩ | ⟨dx, fs, ea, ed, hl, q⟩
  · exact gost_new T I2 ea hno r1 fun dx s' n ne J => ⟨σ, _, J, q dx n ne⟩
  · exact gost_old T I2 ea ed hl hno r1 fun s' J => ⟨σ, _, J, q⟩
end
/-! ### making such an exception: C(e, ..), its own __init__ keeping sp -/
section
variable {X : Cx} {pins : List (Addr × Obj)} {σ : L2.St} {CX : CXT} {C fI : Addr} {k : Nat} {fd : FuncData} {ps : List Str} {sp : Sp} {ds : List Value} {dvs : List V}
/-- the call, its arguments at hand; G: what is wanted behind it -/
theorem gmake {H1 : Hp} {us : List Value} {vs : List V} {s1 : Shared} {Q' : VK} {G : Value → Shared → Prop} (T : OexG X.K C) (iC : PySem.W.findIn X.K (.ref C) "__init__" = some (some (.ref fI))) (tI : PySem.W.typeIn X.K (.ref fI) = some (.type "function"))
    (F1 : FnOk X.prog X.w X.K X.mg X.base CX k fI fd ps sp) (hr : Room (k + 1) X.A) (hb : Binds X.K fd ps ds) (hd : Vals dvs ds) (hx : Passes CX X (fun _ _ _ => False)) (I1 : Inv X pins σ H1 s1) (r1 : Vals vs us) (hz : vs.length ≤ 1000)
    (q1 : sp (.ref (s1.heap.objs.size + 1) :: (vs ++ dvs)) (upd H1 (s1.heap.objs.size + 1) (exo (s1.heap.objs.size + 1) C none)) Q' (fun _ _ _ => False))
    (hG : ∀ (s0 s2 : Shared) (u : Value), (∀ b o, s1.heap.get? b = some o → s0.heap.get? b = some o) → s0.os = s1.os → Inv X pins σ (upd H1 (s1.heap.objs.size + 1) (exo (s1.heap.objs.size + 1) C none)) s0 →
      CE X.stack X.prog X.w (upd H1 (s1.heap.objs.size + 1) (exo (s1.heap.objs.size + 1) C none)) s0 Q' u s2 → u = .none ∧ G (.ref (s1.heap.objs.size + 1)) s2) :
    wpAny (model X.prog X.w) X.A (call (.ref C) us) G X.xe s1 := by
  obtain ⟨nm, q, N, bs, bm, sn, sub, ab, col, dd, k0, k1, k2, k3, k5, B, nw, it, bmB, FB, hC, hc, _, _⟩ := T.cls
  obtain ⟨hp, g, dr, tk, os⟩ := s1
  dsimp only at q1 hG
  have up : ∀ b o, hp.get? b = some o → ((hp.push (PySem.W.kdv_tup us)).push (PySem.HandSPX.excO C hp.objs.size)).get? b = some o := fun b o z => Heap.get?_push_of_some _ (Heap.get?_push_of_some _ z)
  have new : ((hp.push (PySem.W.kdv_tup us)).push (PySem.HandSPX.excO C hp.objs.size)).get? (hp.objs.size + 1) = some (PySem.HandSPX.excO C hp.objs.size) := by heap_get
  have J : Inv X pins σ (upd H1 (hp.objs.size + 1) (exo (hp.objs.size + 1) C none)) ⟨(hp.push (PySem.W.kdv_tup us)).push (PySem.HandSPX.excO C hp.objs.size), g, dr, tk, os⟩ :=
    I1.laid (t' := tk) (a := hp.objs.size + 1) (o := exo (hp.objs.size + 1) C none) (h' := (hp.push (PySem.W.kdv_tup us)).push (PySem.HandSPX.excO C hp.objs.size)) up (Nat.le_succ _) (exo_ok new)
  have rr : Vals (V.ref (hp.objs.size + 1) :: (vs ++ dvs)) (Value.ref (hp.objs.size + 1) :: (us ++ ds)) := .cons rfl (r1.append hd)
  have hl : (Value.ref (hp.objs.size + 1) :: us ++ ds).length = ps.length := rr.length.symm.trans (F1.len _ _ _ _ q1)
  have hu : us.length ≤ sizeLine := by
    rw [← Paired.length r1, sizeLine_eq]
    omega
  refine wpAny_call (PySem.HandSPX.call_own FB hc (I1.kIn _ _ hC) (PySem.W.looks_findIn I1.kIn iC) (fun self => PySem.W.bind_fn I1.kIn self tI) hu ?_)
  refine codeAny_mono (F1.run _ X.stack _ _ ⟨Value.ref (hp.objs.size + 1) :: us, []⟩ (Value.ref (hp.objs.size + 1) :: (us ++ ds)) _ _ (fun _ _ _ => False) (hr.make C us []) (J.env0.make C us []) (hb _ (Value.ref (hp.objs.size + 1) :: us) J.kIn hl) rr q1) fun r s' z => ?_
  cases r with
  | error er => exact hx pins σ _ _ er s' J z
  | ok fl =>
    cases fl with
    | ret u => exact hG _ s' u up rfl J z
    | next => exact False.elim z
    | brk => exact False.elim z
    | cont => exact False.elim z
/-- .. to be raised -/
theorem gmake_x {H1 : Hp} {us : List Value} {vs : List V} {s1 : Shared} {Q : XK} (T : OexG X.K C) (iC : PySem.W.findIn X.K (.ref C) "__init__" = some (some (.ref fI))) (tI : PySem.W.typeIn X.K (.ref fI) = some (.type "function"))
    (F1 : FnOk X.prog X.w X.K X.mg X.base CX k fI fd ps sp) (hr : Room (k + 1) X.A) (hb : Binds X.K fd ps ds) (hd : Vals dvs ds) (hx : Passes CX X (fun _ _ _ => False)) (I1 : Inv X pins σ H1 s1) (r1 : Vals vs us) (hz : vs.length ≤ 1000)
    (q1 : ∀ a, H1 a = none → sp (.ref a :: (vs ++ dvs)) (upd H1 a (exo a C none))
      (fun v H2 => v = .non ∧ ∃ (d : Addr) (fs : List (Str × V)), H2 a = some (exo a C (some d)) ∧ H2 d = some (exd d fs) ∧ H1 d = none ∧ Q (.ref C) (some d) (upd (del H2 a) d (.xd fs))) (fun _ _ _ => False)) :
    wpAny (model X.prog X.w) X.A (call (.ref C) us) (MkP X pins σ Q) X.xe s1 := by
  refine gmake T iC tI F1 hr hb hd hx I1 r1 hz (q1 _ (I1.hok.fresh (Nat.le_succ _))) fun s0 s2 u up e0 J z => ?_
  obtain ⟨v, H2, os2, bare2, un2, hok2, rv, ev, d, fs, ea, ed, hd1, q2⟩ := z
  subst ev
  obtain ⟨h1, g1, d1, t1, o1⟩ := s1
  obtain ⟨h2, g2, d2, t2, o2⟩ := s2
  obtain ⟨h0, g0, d0, t0, o0⟩ := s0
  obtain rfl : o0 = o1 := e0
  exact ⟨rv, mk_end (raises_own T.exC T.tyC) I1 (Nat.le_succ _) up un2 hok2 os2 bare2 ea ed hd1 q2⟩
variable {x : Str} {p pos : Pos} {e : Expr} {es : List Expr} {ta : TA}
theorem pmk_gex (T : OexG X.K C) (iC : PySem.W.findIn X.K (.ref C) "__init__" = some (some (.ref fI))) (tI : PySem.W.typeIn X.K (.ref fI) = some (.type "function"))
    (F1 : FnOk X.prog X.w X.K X.mg X.base CX k fI fd ps sp) (hr : Room (k + 1) X.A) (hb : Binds X.K fd ps ds) (hd : Vals dvs ds) (hx : Passes CX X (fun _ _ _ => False)) (hg : Gl X x) (hm : X.mg x = some (.ref C)) (ha : PA X (e :: es) ta)
    (hdb : (x == ("__debug__" : Str)) = false := by decide) (he : starEach (e :: es) X.env = (false, eval e X.env) :: starEach es X.env := by rfl) (hpl : (backTo pos (starEach es X.env)).any (·.1) = false := by rfl) :
    PMk X (.Call (.Name x p) (e :: es) [] pos) (tMkO C sp dvs ta) := by
  intro pins s σ H Q I h
  refine wpAny_Call_Name_kw (ld_glob I hg hm ?_ hdb)
  refine PySem.W.callWith_K (h₀ := X.base) I.ok.mod.kin T.kC (thn (ha.run pos pins s σ H _ I h) fun us s1 z => ?_) he hpl
  obtain ⟨vs, H1, I1, r1, hz, q1⟩ := z
  exact ⟨I1.kIn, gmake_x T iC tI F1 hr hb hd hx I1 r1 hz q1⟩
theorem pmk_gex0 (T : OexG X.K C) (iC : PySem.W.findIn X.K (.ref C) "__init__" = some (some (.ref fI))) (tI : PySem.W.typeIn X.K (.ref fI) = some (.type "function"))
    (F1 : FnOk X.prog X.w X.K X.mg X.base CX k fI fd ps sp) (hr : Room (k + 1) X.A) (hb : Binds X.K fd ps ds) (hd : Vals dvs ds) (hx : Passes CX X (fun _ _ _ => False)) (hg : Gl X x) (hm : X.mg x = some (.ref C))
    (hdb : (x == ("__debug__" : Str)) = false := by decide) : PMk X (.Call (.Name x p) [] [] pos) (tMkO C sp dvs tNil) := by
  intro pins s σ H Q I h
  refine wpAny_Call_Name_kw (ld_glob I hg hm ?_ hdb)
  exact PySem.W.callWith_K0 I.kIn T.kC (gmake_x (us := []) T iC tI F1 hr hb hd hx I .nil h.1 h.2)
/-- C(e, ..) as a value that is kept -/
def tMkV (C : Addr) (sp : Sp) (dvs : List V) (ta : TA) : TE := fun σ H Q => ta σ H fun vs H1 => vs.length ≤ 1000 ∧ ∀ a, H1 a = none → sp (.ref a :: (vs ++ dvs)) (upd H1 a (exo a C none)) (fun v H2 => v = .non ∧ Q (.ref a) H2) (fun _ _ _ => False)
theorem gmake_v {H1 : Hp} {us : List Value} {vs : List V} {s1 : Shared} {Q : VK} (T : OexG X.K C) (iC : PySem.W.findIn X.K (.ref C) "__init__" = some (some (.ref fI))) (tI : PySem.W.typeIn X.K (.ref fI) = some (.type "function"))
    (F1 : FnOk X.prog X.w X.K X.mg X.base CX k fI fd ps sp) (hr : Room (k + 1) X.A) (hb : Binds X.K fd ps ds) (hd : Vals dvs ds) (hx : Passes CX X (fun _ _ _ => False)) (I1 : Inv X pins σ H1 s1) (r1 : Vals vs us) (hz : vs.length ≤ 1000)
    (q1 : ∀ a, H1 a = none → sp (.ref a :: (vs ++ dvs)) (upd H1 a (exo a C none)) (fun v H2 => v = .non ∧ Q (.ref a) H2) (fun _ _ _ => False)) :
    wpAny (model X.prog X.w) X.A (call (.ref C) us) (EP X pins σ Q) X.xe s1 := by
  refine gmake T iC tI F1 hr hb hd hx I1 r1 hz (q1 _ (I1.hok.fresh (Nat.le_succ _))) fun s0 s2 u up e0 J z => ?_
  obtain ⟨v, H2, J2, rv, ev, q2⟩ := J.after z
  subst ev
  exact ⟨rv, .ref (s1.heap.objs.size + 1), H2, J2, rfl, q2⟩
theorem pe_gex (T : OexG X.K C) (iC : PySem.W.findIn X.K (.ref C) "__init__" = some (some (.ref fI))) (tI : PySem.W.typeIn X.K (.ref fI) = some (.type "function"))
    (F1 : FnOk X.prog X.w X.K X.mg X.base CX k fI fd ps sp) (hr : Room (k + 1) X.A) (hb : Binds X.K fd ps ds) (hd : Vals dvs ds) (hx : Passes CX X (fun _ _ _ => False)) (hg : Gl X x) (hm : X.mg x = some (.ref C)) (ha : PA X (e :: es) ta)
    (hdb : (x == ("__debug__" : Str)) = false := by decide) (he : starEach (e :: es) X.env = (false, eval e X.env) :: starEach es X.env := by rfl) (hpl : (backTo pos (starEach es X.env)).any (·.1) = false := by rfl) :
    PE X (.Call (.Name x p) (e :: es) [] pos) (tMkV C sp dvs ta) := by
  refine ⟨fun pins s σ H Q I h => ?_⟩
  refine wpAny_Call_Name_kw (ld_glob I hg hm ?_ hdb)
  refine PySem.W.callWith_K (h₀ := X.base) I.ok.mod.kin T.kC (thn (ha.run pos pins s σ H _ I h) fun us s1 z => ?_) he hpl
  obtain ⟨vs, H1, I1, r1, hz, q1⟩ := z
  exact ⟨I1.kIn, gmake_v T iC tI F1 hr hb hd hx I1 r1 hz q1⟩
theorem pe_gex0 (T : OexG X.K C) (iC : PySem.W.findIn X.K (.ref C) "__init__" = some (some (.ref fI))) (tI : PySem.W.typeIn X.K (.ref fI) = some (.type "function"))
    (F1 : FnOk X.prog X.w X.K X.mg X.base CX k fI fd ps sp) (hr : Room (k + 1) X.A) (hb : Binds X.K fd ps ds) (hd : Vals dvs ds) (hx : Passes CX X (fun _ _ _ => False)) (hg : Gl X x) (hm : X.mg x = some (.ref C))
    (hdb : (x == ("__debug__" : Str)) = false := by decide) : PE X (.Call (.Name x p) [] [] pos) (tMkV C sp dvs tNil) := by
  refine ⟨fun pins s σ H Q I h => ?_⟩
  refine wpAny_Call_Name_kw (ld_glob I hg hm ?_ hdb)
  exact PySem.W.callWith_K0 I.kIn T.kC (gmake_v (us := []) T iC tI F1 hr hb hd hx I .nil h.1 h.2)
end
/-! ### C.m(e, ..): a plain def of a class, called by the class's name -/
/-- the class at C tells of its def g under the name m -/
structure CFn (K : PySem.W.Frag) (C : Addr) (m : Str) (g : Addr) : Prop where
  rd : PySem.W.readsIn K C (.type "type") = true
  ga : PySem.W.specialIn K (.ref C) "__getattribute__" = some (some (.builtin "type.__getattribute__"))
  at_ : PySem.W.findCls K (.ref C) (.type "type") m = some (.val (.ref g))
  kp : PySem.W.keepIn K (.ref g) = true
section
variable {X : Cx} {CX : CXT} {k : Nat} {C g : Addr} {fd : FuncData} {ps : List Str} {sp : Sp} {ds : List Value} {dvs : List V} {E : XK} {e : Expr} {es : List Expr} {c m : Str} {p pos apos : Pos} {t : TA} {pl : Sem Bool}
theorem pe_cfn (T : CFn X.K C m g) (F : FnOk X.prog X.w X.K X.mg X.base CX k g fd ps sp) (hr : Room k X.A) (hb : Binds X.K fd ps ds) (hd : Vals dvs ds) (hx : Passes CX X E) (hg : Gl X c) (hm : X.mg c = some (.ref C)) (ha : PA X (e :: es) t)
    (hdb : (c == ("__debug__" : Str)) = false := by decide) (hst : starEach (e :: es) X.env = (false, eval e X.env) :: starEach es X.env := by rfl) (hpl : (backTo pos (starEach es X.env)).any (·.1) = false := by rfl)
    (ht : eval (.Call (.Attribute (.Name c p) m apos) (e :: es) [] pos) X.env = (do
      let ov ← eval (.Name c p) X.env
      standAt apos.atName
      let (f, first) ← holding [ov] (getMethod ov m pl)
      callWith pos f first (backTo pos (starEach (e :: es) X.env)) (backToKw pos (keywordEach [] X.env))) := by rfl) :
    PE X (.Call (.Attribute (.Name c p) m apos) (e :: es) [] pos) (tCall sp dvs E t) := by
  refine ⟨fun pins s σ H Q I h => ?_⟩
  refine PySem.W.methodCall_KW (pl := pl) (ld_glob I hg hm ?_ hdb) ht
  refine PySem.W.method_cls I.kIn T.ga (PySem.W.cls_value I.kIn T.rd T.at_ rfl ?_)
  refine PySem.W.callWith_K (h₀ := X.base) (first := []) I.ok.mod.kin T.kp (thn (ha.run pos pins _ σ H _ (I.tok _) h) fun us s1 z => ?_) hst hpl
  obtain ⟨vs, H1, I1, r, q⟩ := z
  exact ⟨I1.kIn, run_fn F hr hb hd hx I1 r q⟩
end
/-! ### what the __init__s keep -/
/-- a base: self.word = word -/
def spBase (K : PySem.W.Frag) : Sp := fun vs H Q _ => ∃ (a C : Addr) (y : V), vs = [.ref a, y] ∧ OexG K C ∧ PySem.W.findIn K (.ref C) "word" = some none ∧ H a = some (exo a C none) ∧
  ∀ dx, H dx = none → dx ≠ a → Q .non (upd (upd H dx (exd dx [("word", y)])) a (exo a C (some dx)))
/-- a class of refusals: n values, kept under the names that fs tells -/
def spMade (C : Addr) (n : Nat) (fs : List V → List (Str × V)) : Sp := fun vs H Q _ => ∃ (a : Addr) (ws : List V), vs = .ref a :: ws ∧ ws.length = n ∧ H a = some (exo a C none) ∧
  ∀ (dx : Addr) (H2 : Hp), H dx = none → dx ≠ a → (∀ b, b ≠ a → b ≠ dx → H2 b = H b) → H2 a = some (exo a C (some dx)) → H2 dx = some (exd dx (fs ws)) → Q .non H2
/-- all that is wanted of a class of refusals by the def that makes one -/
structure ExcK (P : Program) (w : World) (K : PySem.W.Frag) (mg : Str → Option Value) (base : Heap) (k : Nat) (nm : Str) (C : Addr) (n : Nat) (fs : List V → List (Str × V)) : Prop where
  oex : OexG K C
  mgC : mg nm = some (.ref C)
  init : ∃ (fI : Addr) (fd : FuncData) (ps : List Str), PySem.W.findIn K (.ref C) "__init__" = some (some (.ref fI)) ∧ PySem.W.typeIn K (.ref fI) = some (.type "function") ∧ FnOk P w K mg base CX0 k fI fd ps (spMade C n fs) ∧ Binds K fd ps []
/-- the reading: nm(e, ..), to be raised -/
def tRef (C : Addr) (n : Nat) (fs : List V → List (Str × V)) (ta : TA) : L2.St → Hp → XK → Prop := fun σ H Q => ta σ H fun vs H1 => vs.length = n ∧ vs.length ≤ 1000 ∧ ∀ (d : Addr) (H2 : Hp), H1 d = none → (∀ b, b ≠ d → H1 b ≠ none → H2 b = H1 b) → H2 d = some (.xd (fs vs)) → Q (.ref C) (some d) H2
section
variable {X : Cx} {k : Nat} {nm : Str} {C : Addr} {n : Nat} {fs : List V → List (Str × V)} {p pos : Pos} {e : Expr} {es : List Expr} {ta : TA}
theorem tRef_mk {H1 : Hp} {vs : List V} {Q : XK} (hn : vs.length = n) (h : ∀ (d : Addr) (H2 : Hp), H1 d = none → (∀ b, b ≠ d → H1 b ≠ none → H2 b = H1 b) → H2 d = some (.xd (fs vs)) → Q (.ref C) (some d) H2) (a : Addr) (ha : H1 a = none) :
    spMade C n fs (.ref a :: (vs ++ [])) (upd H1 a (exo a C none))
      (fun v H2 => v = .non ∧ ∃ (d : Addr) (gs : List (Str × V)), H2 a = some (exo a C (some d)) ∧ H2 d = some (exd d gs) ∧ H1 d = none ∧ Q (.ref C) (some d) (upd (del H2 a) d (.xd gs))) (fun _ _ _ => False) := by
  refine ⟨a, vs, by rw [List.append_nil], hn, upd_same, fun dx H2 h1 h2 h3 h4 h5 => ⟨rfl, dx, _, h4, h5, ?_, ?_⟩⟩
  · rw [upd_ne h2] at h1
    exact h1
  · rw [upd_ne h2] at h1
    refine h dx _ h1 (fun b hb hb2 => ?_) upd_same
    have nb : b ≠ a := fun z => hb2 (by rw [z]; exact ha)
    rw [upd_ne hb, del_ne nb, h3 b nb hb, upd_ne nb]
theorem pmk_ref (T : ExcK X.prog X.w X.K X.mg X.base k nm C n fs) (hr : Room (k + 1) X.A) (hg : Gl X nm) (ha : PA X (e :: es) ta)
    (hdb : (nm == ("__debug__" : Str)) = false := by decide) (he : starEach (e :: es) X.env = (false, eval e X.env) :: starEach es X.env := by rfl) (hpl : (backTo pos (starEach es X.env)).any (·.1) = false := by rfl) :
    PMk X (.Call (.Name nm p) (e :: es) [] pos) (tRef C n fs ta) := by
  obtain ⟨fI, fd, ps, i1, i2, i3, i4⟩ := T.init
  intro pins s σ H Q I h
  refine wpAny_Call_Name_kw (ld_glob I hg T.mgC ?_ hdb)
  refine PySem.W.callWith_K (h₀ := X.base) I.ok.mod.kin T.oex.kC (thn (ha.run pos pins s σ H _ I h) fun us s1 z => ?_) he hpl
  obtain ⟨vs, H1, I1, r1, z1, z2, z3⟩ := z
  exact ⟨I1.kIn, gmake_x T.oex i1 i2 i3 hr i4 .nil pass0 I1 r1 z2 (tRef_mk z1 z3)⟩
theorem pmk_ref0 (T : ExcK X.prog X.w X.K X.mg X.base k nm C n fs) (hr : Room (k + 1) X.A) (hg : Gl X nm) (hdb : (nm == ("__debug__" : Str)) = false := by decide) : PMk X (.Call (.Name nm p) [] [] pos) (tRef C n fs tNil) := by
  obtain ⟨fI, fd, ps, i1, i2, i3, i4⟩ := T.init
  intro pins s σ H Q I h
  exact pmk_gex0 T.oex i1 i2 i3 hr i4 .nil pass0 hg T.mgC hdb pins s σ H Q I ⟨h.2.1, fun a ha => tRef_mk h.1 h.2.2 a ha⟩
end
/-! ### the head by facts: Bools over what the top has written -/
theorem funOf {K : PySem.W.Frag} {x qual : Str} {st : Stmt} {f : Addr} {fd : FuncData} (F : FunD K x qual (defArgs st) (defBody st) (defScope st) [] [] f fd) : Fun K x qual st f fd := by
  obtain ⟨oc, od, dV, kV, doc, pm, an, cdv, ct, osl, e, lk, hcd, hd, _⟩ := F.ex
  have hn : dV = .none := by
    rcases hd with ⟨_, z⟩ | ⟨z, _⟩
    · exact z
    · exact absurd rfl z
  subst hn
  exact ⟨⟨oc, od, kV, doc, pm, an, cdv, ct, osl, e, lk, hcd⟩, F.kp⟩
def dOf (a : Str × Option Str) (nm q : Str) (st : Stmt) (dfl : List He.Dv) (kwd : List (Str × He.Dv)) : He.DefD := ⟨a, nm, q, defArgs st, defBody st, defScope st, dfl, kwd⟩
def frN (n : Nat) (k : Nat → Bool) : Bool := match n with
  | 0 => k 0
  | m + 1 => k (m + 1)
theorem frN_eq (n : Nat) (k : Nat → Bool) : frN n k = k n := by
  cases n <;> rfl
def frL : List Addr → (List Addr → Bool) → Bool
  | [], k => k []
  | a :: r, k => frN a fun a => frL r fun r => k (a :: r)
theorem frL_eq : ∀ (l : List Addr) (k : List Addr → Bool), frL l k = k l
  | [], _ => rfl
  | a :: r, k => by
    show frN a (fun a => frL r fun r => k (a :: r)) = _
    rw [frN_eq, frL_eq r]
def isNw (nw : String) : List (Option Value) → Bool
  | [_, _, _, _, some (.builtin z), _] => decide (z = nw)
  | _ => false
theorem isNw_ok {nw : String} {l : List (Option Value)} (h : isNw nw l = true) : ∃ k0 k1 k2 k3 k5 : Option Value, l = [k0, k1, k2, k3, some (.builtin nw), k5] := by
  unfold isNw at h
  split at h
  · have e := of_decide_eq_true h
    subst e
    exact ⟨_, _, _, _, _, rfl⟩
  · cases h
abbrev excT (B : String) : List Value := [.type B, .type "Exception", .type "BaseException", .type "object"]
/-- a class of refusals at C under the class at CB, which stands over the built-in B -/
def oexB (K : PySem.W.Frag) (C CB : Addr) (B nw : String) : Bool := (match K.lookup C with
  | some ⟨.type t, _, .cls cd, sl⟩ => decide (t = "type") && (decide (cd.mro = .ref C :: .ref CB :: excT B) && (cd.hasDict && (!cd.hasDel && isNw nw sl.toList)))
  | _ => false) && (He.eqO (PySem.W.findIn K (.ref C) "__setattr__") (some (some (.builtin "object.__setattr__"))) && (decide (PySem.W.subIn K (.ref C) (.type "BaseException") = some true) && (decide (PySem.W.typeIn K (.ref C) = some (.type "type")) && PySem.W.keepIn K (.ref C))))
theorem oexB_ok {K : PySem.W.Frag} {C CB : Addr} {B nw it : String} (FB : ExcBaseFacts B nw it (excT B)) (S : ∀ self : Value, refuseLoop self "__setattr__" (excT B) = pure ()) (hob : (excT B).contains (.type "object") = true) (h : oexB K C CB B nw = true) : OexG K C := by
  obtain ⟨h1, h⟩ := He.ba h
  obtain ⟨h2, h⟩ := He.ba h
  obtain ⟨h3, h⟩ := He.ba h
  obtain ⟨h4, h5⟩ := He.ba h
  refine ⟨?_, He.eqO_ok h2, of_decide_eq_true h3, of_decide_eq_true h4, h5⟩
  cases q : K.lookup C with
  | none =>
    rw [q] at h1
    cases h1
  | some o =>
    obtain ⟨oc, od, dt, osl⟩ := o
    rw [q] at h1
    cases oc with
    | type t =>
      cases dt with
      | cls cd =>
        obtain ⟨n1, n2, n3, n4, n5, n6, n7, n8, n9, n10, n11⟩ := cd
        obtain ⟨a1, h1⟩ := He.ba h1
        obtain ⟨a2, h1⟩ := He.ba h1
        obtain ⟨a3, h1⟩ := He.ba h1
        obtain ⟨a4, a5⟩ := He.ba h1
        have e1 : t = "type" := of_decide_eq_true a1
        have e2 : n3 = .ref C :: .ref CB :: excT B := of_decide_eq_true a2
        have e3 : n6 = true := a3
        have e4 : n11 = false := by
          cases n11 with
          | false => rfl
          | true => cases a4
        obtain ⟨sl⟩ := osl
        obtain ⟨k0, k1, k2, k3, k5, e5⟩ := isNw_ok a5
        have e6 : sl = [k0, k1, k2, k3, some (.builtin nw), k5] := e5
        subst e1 e2 e3 e4 e6
        exact ⟨_, _, _, _, _, _, _, _, _, _, _, _, _, _, _, B, _, _, _, FB, rfl, fun Y => by rw [List.contains_cons]; rfl, hob, fun self => by rw [refuseLoop_ref, refuseLoop_ref]; exact S self⟩
      | _ => cases h1
    | _ => cases dt <;> cases h1
def cfnB (K : PySem.W.Frag) (C g : Addr) : Bool := PySem.W.readsIn K C (.type "type") && (He.eqO (PySem.W.specialIn K (.ref C) "__getattribute__") (some (some (.builtin "type.__getattribute__"))) && ((match PySem.W.findCls K (.ref C) (.type "type") "__init__" with
  | some (.val (.ref a)) => decide (a = g)
  | _ => false) && PySem.W.keepIn K (.ref g)))
theorem cfnB_ok {K : PySem.W.Frag} {C g : Addr} (h : cfnB K C g = true) : CFn K C "__init__" g := by
  obtain ⟨h1, h⟩ := He.ba h
  obtain ⟨h2, h⟩ := He.ba h
  obtain ⟨h3, h4⟩ := He.ba h
  refine ⟨h1, He.eqO_ok h2, ?_, h4⟩
  split at h3
  · rename_i a e
    have e2 : a = g := of_decide_eq_true h3
    rw [e, e2]
  · cases h3
/-- all that is looked at of the class x, under b, with these fields -/
def leafB (K : PySem.W.Frag) (x b : Str) (B nw : String) (fl : List Str) : Bool := frN (He.ga K x) fun C => frN (He.ga K b) fun CB => oexB K C CB B nw && (cfnB K CB (He.ma K CB "__init__") && (He.eqO (PySem.W.findIn K (.ref C) "__init__") (some (some (.ref (He.ma K C "__init__")))) &&
  (decide (PySem.W.typeIn K (.ref (He.ma K C "__init__")) = some (.type "function")) && (("word" : Str) :: fl).all fun f => He.eqO (PySem.W.findIn K (.ref C) f) (some none))))
structure LeafK (K : PySem.W.Frag) (x b : Str) (fl : List Str) : Prop where
  T : OexG K (He.ga K x)
  B : CFn K (He.ga K b) "__init__" (He.ma K (He.ga K b) "__init__")
  i : PySem.W.findIn K (.ref (He.ga K x)) "__init__" = some (some (.ref (He.ma K (He.ga K x) "__init__")))
  t : PySem.W.typeIn K (.ref (He.ma K (He.ga K x) "__init__")) = some (.type "function")
  n : ∀ f ∈ ("word" : Str) :: fl, PySem.W.findIn K (.ref (He.ga K x)) f = some none
theorem leafB_ok {K : PySem.W.Frag} {x b : Str} {B nw it : String} {fl : List Str} (FB : ExcBaseFacts B nw it (excT B)) (S : ∀ self : Value, refuseLoop self "__setattr__" (excT B) = pure ()) (hob : (excT B).contains (.type "object") = true) (h : leafB K x b B nw fl = true) : LeafK K x b fl := by
  unfold leafB at h
  rw [frN_eq, frN_eq] at h
  obtain ⟨h1, h⟩ := He.ba h
  obtain ⟨h2, h⟩ := He.ba h
  obtain ⟨h3, h⟩ := He.ba h
  obtain ⟨h4, h5⟩ := He.ba h
  exact ⟨oexB_ok FB S hob h1, cfnB_ok h2, He.eqO_ok h3, of_decide_eq_true h4, fun f hf => He.eqO_ok (List.all_eq_true.mp h5 f hf)⟩
theorem leafV {K : PySem.W.Frag} {x b : Str} {fl : List Str} (h : leafB K x b "ValueError" "ValueError.__new__" fl = true) : LeafK K x b fl := leafB_ok F.excBase_ValueError F.store_ValueError.passes (by decide +kernel) h
theorem leafL {K : PySem.W.Frag} {x b : Str} {fl : List Str} (h : leafB K x b "LookupError" "LookupError.__new__" fl = true) : LeafK K x b fl := leafB_ok F.excBase_LookupError F.store_LookupError.passes (by decide +kernel) h
theorem leafR {K : PySem.W.Frag} {x b : Str} {fl : List Str} (h : leafB K x b "RuntimeError" "RuntimeError.__new__" fl = true) : LeafK K x b fl := leafB_ok F.excBase_RuntimeError F.store_RuntimeError.passes (by decide +kernel) h
/-! ### the Hook: what the top's names reach in n steps, and the statics (which readsIn asks for) -/
def wide (g : Addr → Option Obj) (n : Nat) : List Addr := PySem.cStatics :: He.asD g n
theorem tabs_out {g : Addr → Option Obj} {tf : List He.Defn} {as : List Addr} (h : He.tabsB g tf (He.frT g as) = true) (p : He.Defn) (hp : p ∈ tf) :
    PySem.W.codeHdIn (He.frT g as) (He.cT (He.frT g as) p).1 (He.cT (He.frT g as) p).2 = true ∧ (He.frT g as).lookup (He.cT (He.frT g as) p).2 = none ∧ g (He.cT (He.frT g as) p).2 = some { cls := .none, data := .fields #[] } := by
  have z := List.all_eq_true.mp h p hp
  obtain ⟨z1, z2⟩ := He.ba z
  generalize (He.cT (He.frT g as) p).2 = t at z1 z2 ⊢
  cases e : g t with
  | none =>
    rw [e] at z2
    cases z2
  | some u =>
    rw [e] at z2
    exact ⟨z1, He.frT_none e z2, congrArg some (He.emptyTab_eq z2)⟩
def lookS (n : Nat) (fa : List He.Fa) (fn : List He.DefD) (tf : List He.Defn) (ex : PySem.W.Frag → Bool) (g : Addr → Option Obj) : He.AlX :=
  (He.obsT fa fn [] (He.frT g (wide g n)), ex (He.frT g (wide g n)) && He.tabsB g tf (He.frT g (wide g n)))
theorem lookS_says {n : Nat} {fa : List He.Fa} {fn : List He.DefD} {tf : List He.Defn} {ex : PySem.W.Frag → Bool} {w : World} {h : Heap} (e : lookS n fa fn tf ex h.get? = He.valX fn [] w) : He.SaysX fa fn [] tf ex w h (He.frT h.get? (wide h.get? n)) := by
  have a : _ = He.valT fn [] w := congrArg Prod.fst e
  obtain ⟨b, c⟩ := He.ba (show _ = true from congrArg Prod.snd e)
  exact { t := a, more := b, hd := fun p hp => (tabs_out c p hp).1, out := fun p hp => (tabs_out c p hp).2.1, empty := fun p hp => (tabs_out c p hp).2.2 }
def hookS (n : Nat) (fa : List He.Fa) (fn : List He.DefD) (tf : List He.Defn) (ex : PySem.W.Frag → Bool) : PySem.W.Hook :=
  { α := He.AlX, obs := fun s => lookS n fa fn tf ex s.heap.get?, val := He.valX fn [], says := fun w h => ∃ K : PySem.W.Frag, K.In h ∧ He.SaysX fa fn [] tf ex w h K, of := fun w s e => ⟨_, He.frT_in, lookS_says e⟩,
    keeps := fun w h h' y k => by
      obtain ⟨K, i, c⟩ := y
      exact ⟨K, PySem.W.Frag.In.keeps i k, { t := c.t, more := c.more, hd := c.hd, out := c.out, empty := fun p hp => k _ _ (c.empty p hp) }⟩ }
theorem lookS_eq {n : Nat} {fa : List He.Fa} {fn : List He.DefD} {tf : List He.Defn} {ex : PySem.W.Frag → Bool} (s : PySem.W.SharedT) : lookS n fa fn tf ex (HandSHeadRun.getT s) = (hookS n fa fn tf ex).obs s.abs := by
  rw [show HandSHeadRun.getT s = s.abs.heap.get? from funext (HandSHeadRun.getT_eq s)]
  rfl
/-! ### t.index(n), t a tuple of ints -/
section
variable {X : Cx}
theorem mt_tup_indexI : MtR X "tuple.index" (fun x xs H Q => ∃ (p : Addr) (ys : List Int) (n : Int) (j : Nat), x = .ref p ∧ xs = [.int n] ∧ SqT X.K H p (ys.map V.int) ∧ ys[j]? = some n ∧ (∀ m, m < j → ys[m]? ≠ some n) ∧ Q (.int (j : Nat)) H) := by
  intro pins s σ H x xs v us Q I rx rs h
  obtain ⟨p, ys, n, j, ex, exs, hT, hj, hb, q⟩ := h
  subst ex exs
  cases rx
  obtain ⟨un, eu, tu, etu⟩ := vals1 rs
  subst eu etu
  obtain ⟨its, r, ⟨⟨oc, od, odt, osl⟩, hob, hcl, ep, hdt⟩, hz⟩ := I.tuple hT
  simp only at hcl hdt
  subst hcl hdt
  have hs : its.toArray.size = ys.length := by
    rw [List.size_toArray, ← r.length, List.length_map]
  have hlt : j < ys.length := (List.getElem?_eq_some_iff.mp hj).1
  have what : ∀ (m : Nat) (hm : m < its.toArray.size), ∃ (y : Int) (ty : Tok), ys[m]? = some y ∧ its.toArray[m] = Value.int y ty := fun m hm => by
    have hm2 : m < ys.length := hs ▸ hm
    obtain ⟨wv, hw, ty, hty⟩ := r.get (i := m) (x := V.int ys[m]) (by simp [hm2])
    have e1 := (List.getElem?_eq_some_iff.mp hw).2
    exact ⟨ys[m], ty, List.getElem?_eq_getElem hm2, by rw [← hty, ← e1]; simp⟩
  refine call_meets PySem.F.slot_tuple_index ⟨_, hob, rfl⟩ PySem.F.entry_tuple_index (PySem.F.args_tuple_index_2 _ _)
    (TI.tuple_indexAt p its.toArray ep od osl (.int n tu) (eqU (.int n)) j (by rw [hs]; exact hlt) ?_ fun m hm hmj => ?_)
    ⟨hob, fun wv hw => mem_eqAt (x := .int n) ⟨tu, rfl⟩ rfl r (by rw [List.all_map]; exact List.all_eq_true.mpr fun _ _ => rfl) wv (by simpa using hw), ⟨.int (j : Nat), H, I.tok _, ⟨_, rfl⟩, q⟩⟩
  · obtain ⟨y, ty, h1, h2⟩ := what j (by rw [hs]; exact hlt)
    rw [hj] at h1
    obtain rfl := Option.some.inj h1
    rw [h2]
    show decide (n = n) = true
    exact decide_eq_true rfl
  · obtain ⟨y, ty, h1, h2⟩ := what m hm
    rw [h2]
    show decide (y = n) = false
    exact decide_eq_false fun z => hb m hmj (by rw [h1, z])
end
/-! ### tuples that are known to have no dict of their own: written down as they stand -/
def NoD (o : Obj) : Prop := o.cls = .type "tuple" ∧ o.dict = none
def tTupF (t : TA) : TE := fun σ H Q => t σ H fun xs H1 => xs.length ≤ sizeLine ∧ ∀ (p : Addr) (o : Obj), H1 p = none → NoD o → Q (.ref p) (upd H1 p (.frz o (.tup xs)))
def tBMF (r : V → List V → Hp → VK → Prop) (to : TE) (t : TA) : TE := fun σ H Q => to σ H fun x H1 => (∃ (p : Addr) (o : Obj) (ys : List V), x = .ref p ∧ H1 p = some (.frz o (.tup ys)) ∧ NoD o) ∧ t σ H1 fun xs H2 => r x xs H2 Q
section
variable {X : Cx} {e : Expr} {es : List Expr} {t : TA} {pos : Pos}
theorem pe_tupF {x1} (h : PA X es t) : PE X (.Tuple es x1 pos) (tTupF t) := ⟨fun pins s σ H Q I hq => by
  refine wpAny_Tuple_spliced (thn (h.run pos pins s σ H _ I hq) fun us s1 ⟨xs, H1, I1, r, z, q⟩ => ⟨r.length ▸ z, ?_⟩)
  have fresh := I1.hok.fresh (Nat.le_refl s1.heap.objs.size)
  refine ⟨.ref s1.heap.objs.size, _, I1.laid (o := .frz _ (.tup xs)) (t' := s1.toks) (fun b u e => Heap.get?_push_of_some _ e) (Nat.le_refl _) ⟨Heap.get?_push_size _ rfl, z, us, r, _, Heap.get?_push_size _ rfl, rfl, _, rfl⟩, rfl, q _ _ fresh ⟨rfl, rfl⟩⟩⟩
theorem pe_bmF {o : Expr} {to : TE} {name : Str} {apos : Pos} {id : String} {r : V → List V → Hp → VK → Prop} (slot : Slot "tuple" name id) (hty : typeOf (.builtin id) = pure (.type "method_descriptor")) (hm : MtR X id r) (ho : PE X o to) (ha : PA X (e :: es) t)
    (hb : attributeBase o name X.env (eval o X.env) = eval o X.env := by rfl) (hfw : ((backTo pos (starEach (e :: es) X.env)).all (fun x => !x.1) && (backToKw pos (keywordEach [] X.env)).all (fun x => x.1.isSome) && decide ((e :: es).length + ([] : List Keyword).length + (if ([] : List Keyword).isEmpty then 0 else 1) < 30)) = true := by rfl)
    (hln : (apos.endLine == pos.line) = true := by rfl) (hst : starEach (e :: es) X.env = (false, eval e X.env) :: starEach es X.env := by rfl) (hpl : (backTo pos (starEach es X.env)).any (·.1) = false := by rfl) :
    PE X (.Call (.Attribute o name apos) (e :: es) [] pos) (tBMF r to t) := ⟨fun pins s σ H Q I h => by
  refine wpAny_Call_method_late hb hfw hln rfl (thn (ho.run pins s σ H _ I h) fun v s1 ⟨x, H1, I1, r1, ⟨p, ob, ys, ex, hp, hc, hd⟩, q1⟩ => ?_)
  subst ex
  cases r1
  obtain ⟨hob, _⟩ := I1.hok p _ hp
  refine ⟨"tuple", id, PySem.F.plainAttrs_tuple, slot, hty, ⟨ob, hob, hc⟩, fun a ea => ?_, ?_⟩
  · cases ea
    exact ⟨ob, hob, hd⟩
  have run := ha.run pos pins s1 σ H1 _ I1 q1
  rw [hst] at run ⊢
  refine Calls.callWith_builtin ?_ (Calls.evalArgs_plain (thn run fun us s2 ⟨vs, H2, I2, r2, q2⟩ => hm pins s2 σ H2 (.ref p) vs (.ref p) us Q I2 rfl r2 q2))
  show (false || (backTo pos (starEach es X.env)).any (·.1)) = false
  rw [hpl]
  rfl⟩
end
/-! ### _law_pull -/
abbrev sPull : Stmt := topS 31
theorem scPull : FnScope ["_law_bag_here", "_law_size", "_law_got", "_law_cell"] ["_law_bag_here", "_law_size"] (defScope sPull) := ⟨rfl, rfl, rfl, by decide +kernel, rfl, by decide +kernel, by decide +kernel⟩
def spPull : Sp := fun vs H Q _ => ∃ (b c : Addr) (size : Int), vs = [.ref b, .int size] ∧ Bag H b c ∧ 0 < size ∧ size.natAbs < 2 ^ 200 ∧
  ∀ H' r, Off b H H' → Bag H' b c → 0 ≤ r → r < size → Q (.int r) H'
section
variable {P : Program} {w : World} {K : PySem.W.Frag} {mg : Str → Option Value} {base : Heap}
theorem ok_pull {f : Addr} {fd : FuncData} {k : Nat} (F : Fun K "_law_pull" "_law_pull" sPull f fd) (ml : mg "len" = none) : FnOk P w K mg base CX0 (k + 1) f fd ["_law_bag_here", "_law_size"] spPull := by
  refine F.ok scPull (fun vs H Q E h => ?_) (fun cdv A outer s H vs Q E hr h => ?_)
  · obtain ⟨b, c, size, rfl, _⟩ := h
    rfl
  · obtain ⟨b, c, size, rfl, ⟨cells, at', rest, seed, hb, hc, ha, hr0, hs0, hs1, hcb⟩, hz, hzb, q⟩ := h
    refine ⟨_, pss_cons (ps_if (pt_cmpR op_ge (pe_ix ix_list (pv 0) pe_int (fun _ _ => rfl)) (pv 1) (nomark _))
        (pss_cons (ps_set (i := 2) scPull.nd rfl (.inl rfl) (pe_op op_mod (pe_ix ix_list (pv 0) pe_int (fun _ _ => rfl)) (pv 1)))
        (pss_cons (ps_asg (pe_op op_fdivW (pe_ix ix_list (pv 0) pe_int (fun _ _ => rfl)) (pv 1)) (pg_sub (pv 0) pe_int set_list))
        (pss_one (ps_ret (pv 2))))) pss_nil)
      (pss_cons (ps_set (i := 3) scPull.nd rfl (.inl rfl) pe_int)
      (pss_cons (ps_if (pt_cmpR op_lt (pe_ix ix_list (pv 0) pe_int (fun _ _ => rfl)) (pe_callB call_len_seq (by rfl) ml PySem.boot_len (pa_cons (pe_ix ix_list (pv 0) pe_int (fun _ _ => rfl)) pa_nil)) (nomark _))
        (pss_one (ps_set (i := 3) scPull.nd rfl (.inl rfl) (pe_ix ix_list (pe_ix ix_list (pv 0) pe_int (fun _ _ => rfl)) (pe_ix ix_list (pv 0) pe_int (fun _ _ => rfl)) (fun _ _ => rfl)))) pss_nil)
      (pss_cons (ps_asg (pe_op op_add (pe_ix ix_list (pv 0) pe_int (fun _ _ => rfl)) pe_int) (pg_sub (pv 0) pe_int set_list))
      (pss_cons (ps_if (pt_cmpR op_ge (pv 3) (pe_op op_pow pe_int pe_int) (nomark _))
        (pss_cons (ps_asg (pe_op op_fdivW (pv 3) (pv 1)) (pg_sub (pv 0) pe_int set_list))
        (pss_one (ps_ret (pe_op op_mod (pv 3) (pv 1))))) pss_nil)
      (pss_cons (ps_asg (pe_op op_mod (pe_op op_add (pe_op op_add (pe_op op_add (pe_op op_pow (pe_ix ix_list (pv 0) pe_int (fun _ _ => rfl)) pe_int) (pe_op op_mul pe_int (pe_ix ix_list (pv 0) pe_int (fun _ _ => rfl)))) (pe_op op_mod (pv 3) pe_int)) pe_int) pe_int) (pg_sub (pv 0) pe_int set_list))
      (pss_one (ps_ret (pe_op op_mod (pe_op op_add (pe_op op_fdivW (pe_ix ix_list (pv 0) pe_int (fun _ _ => rfl)) pe_int) (pv 3)) (pv 1))))))))), ?_⟩
    have hd : CDivW rest size := wide_div (b := 200) hz hzb (by decide) (by decide)
    -- if bag[2] >= size
    refine ⟨.ref b, rfl, b, _, 2, .int rest, rfl, rfl, .inl (.inl hb), atI_nat (j := 2) rfl, .int size, rfl, _, _, rfl, rfl, _, rfl, ite2 (fun e => ?_) (fun e => ?_)⟩
    · refine ⟨.ref b, rfl, b, _, 2, .int rest, rfl, rfl, .inl (.inl hb), atI_nat (j := 2) rfl, .int size, rfl, _, _, rfl, rfl, hz, ?_⟩
      refine ⟨.ref b, rfl, b, _, 2, .int rest, rfl, rfl, .inl (.inl hb), atI_nat (j := 2) rfl, .int size, rfl, _, _, rfl, rfl, hd, ?_⟩
      refine ⟨.ref b, rfl, b, _, 2, 2, rfl, rfl, hb, rfl, ?_⟩
      refine ⟨.int (rest % size), rfl, q _ _ Off.upd ⟨cells, at', rest / size, seed, upd_same, ?_, ha, Int.ediv_nonneg hr0 (by omega), hs0, hs1, hcb⟩ (Int.emod_nonneg _ (by omega)) (Int.emod_lt_of_pos _ hz)⟩
      rw [upd_ne hcb]
      exact hc
    · -- cell = 0; if bag[1] < len(bag[0])
      obtain ⟨j, rfl⟩ := Int.eq_ofNat_of_zero_le ha
      refine ⟨.ref b, rfl, b, _, 1, .int (j : Nat), rfl, rfl, .inl (.inl hb), atI_nat (j := 1) rfl, .ref b, rfl, b, _, 0, .ref c, rfl, rfl, .inl (.inl hb), atI_nat (j := 0) rfl, c, _, rfl, .inl (.inl (.inl hc)), _, _, rfl, rfl, _, rfl, ite2 (fun e2 => ?_) (fun e2 => ?_)⟩
      · have hl := of_decide_eq_true e2
        rw [List.length_map] at hl
        have hj : j < cells.length := by omega
        refine ⟨.ref b, rfl, b, _, 0, .ref c, rfl, rfl, .inl (.inl hb), atI_nat (j := 0) rfl, .ref b, rfl, b, _, 1, .int (j : Nat), rfl, rfl, .inl (.inl hb), atI_nat (j := 1) rfl, c, _, _, .int cells[j], rfl, rfl, .inl (.inl hc), atI_nat (j := j) (by rw [List.getElem?_map, List.getElem?_eq_getElem hj]; rfl), ?_⟩
        obtain ⟨cell, hcell⟩ : ∃ cell : Int, cell = cells[j] := ⟨_, rfl⟩
        rw [← hcell]
        -- bag[1] = bag[1] + 1
        refine ⟨.ref b, rfl, b, _, 1, .int (j : Nat), rfl, rfl, .inl (.inl hb), atI_nat (j := 1) rfl, _, _, rfl, rfl, ?_⟩
        refine ⟨.ref b, rfl, b, _, 1, 1, rfl, rfl, hb, rfl, ?_⟩
        have hb1 : (upd H b (.lst [.ref c, .int ((j : Int) + 1), .int rest, .int seed])) b = some (.lst [.ref c, .int ((j : Int) + 1), .int rest, .int seed]) := upd_same
        have hc1 : (upd H b (.lst [.ref c, .int ((j : Int) + 1), .int rest, .int seed])) c = some (.lst (cells.map V.int)) := by
          rw [upd_ne hcb]
          exact hc
        -- if cell >= 10 ** 18
        refine ⟨.int cell, rfl, 10, 18, rfl, rfl, ⟨by decide, by decide, by decide⟩, _, _, rfl, rfl, _, rfl, ite2 (fun e3 => ?_) (fun e3 => ?_)⟩
        · have h18 : (10 : Int) ^ (18 : Int).toNat ≤ cell := of_decide_eq_true e3
          have h0 : (0 : Int) ≤ 10 ^ (18 : Int).toNat := by decide
          refine ⟨.int cell, rfl, .int size, rfl, _, _, rfl, rfl, wide_div (b := 200) hz hzb (by decide) (by decide), ?_⟩
          refine ⟨.ref b, rfl, b, _, 2, 2, rfl, rfl, hb1, rfl, ?_⟩
          refine ⟨.int cell, rfl, .int size, rfl, _, _, rfl, rfl, hz, ?_⟩
          refine q _ _ (Off.upd.trans Off.upd) ⟨cells, (j : Int) + 1, cell / size, seed, upd_same, ?_, by omega, Int.ediv_nonneg (by omega) (by omega), hs0, hs1, hcb⟩ (Int.emod_nonneg _ (by omega)) (Int.emod_lt_of_pos _ hz)
          rw [upd_ne hcb]
          exact hc1
        · -- bag[3] = (bag[3] ** 5 + 69069 * bag[1] + cell % 1000003 + 7) % 2147483629
          have hp : CPow seed 5 := ⟨by decide, by decide, by omega⟩
          refine ⟨.ref b, rfl, b, _, 3, .int seed, rfl, rfl, .inl (.inl hb1), atI_nat (j := 3) rfl, _, _, rfl, rfl, hp, ?_⟩
          refine ⟨.ref b, rfl, b, _, 1, .int ((j : Int) + 1), rfl, rfl, .inl (.inl hb1), atI_nat (j := 1) rfl, _, _, rfl, rfl, .inl ⟨by decide, by decide⟩, _, _, rfl, rfl, ?_⟩
          refine ⟨.int cell, rfl, _, _, rfl, rfl, (show (0 : Int) < 1000003 by decide), _, _, rfl, rfl, _, _, rfl, rfl, _, _, rfl, rfl, (show (0 : Int) < 2147483629 by decide), ?_⟩
          refine ⟨.ref b, rfl, b, _, 3, 3, rfl, rfl, hb1, rfl, ?_⟩
          refine ⟨.ref b, rfl, b, _, 3, _, rfl, rfl, .inl (.inl upd_same), atI_nat (j := 3) rfl, _, _, rfl, rfl, wide_div (b := 200) (by decide) (by decide) (by decide) (by decide), .int cell, rfl, _, _, rfl, rfl, .int size, rfl, _, _, rfl, rfl, hz, ?_⟩
          refine q _ _ (Off.upd.trans Off.upd) ⟨cells, (j : Int) + 1, rest, _, upd_same, ?_, by omega, hr0, Int.emod_nonneg _ (by decide), Int.lt_trans (Int.emod_lt_of_pos _ (by decide)) (by decide), hcb⟩ (Int.emod_nonneg _ (by omega)) (Int.emod_lt_of_pos _ hz)
          rw [upd_ne hcb]
          exact hc1
      · obtain ⟨cell, hcell⟩ : ∃ cell : Int, cell = 0 := ⟨_, rfl⟩
        rw [show (V.int 0) = V.int cell by rw [hcell]]
        -- bag[1] = bag[1] + 1
        refine ⟨.ref b, rfl, b, _, 1, .int (j : Nat), rfl, rfl, .inl (.inl hb), atI_nat (j := 1) rfl, _, _, rfl, rfl, ?_⟩
        refine ⟨.ref b, rfl, b, _, 1, 1, rfl, rfl, hb, rfl, ?_⟩
        have hb1 : (upd H b (.lst [.ref c, .int ((j : Int) + 1), .int rest, .int seed])) b = some (.lst [.ref c, .int ((j : Int) + 1), .int rest, .int seed]) := upd_same
        have hc1 : (upd H b (.lst [.ref c, .int ((j : Int) + 1), .int rest, .int seed])) c = some (.lst (cells.map V.int)) := by
          rw [upd_ne hcb]
          exact hc
        -- if cell >= 10 ** 18
        refine ⟨.int cell, rfl, 10, 18, rfl, rfl, ⟨by decide, by decide, by decide⟩, _, _, rfl, rfl, _, rfl, ite2 (fun e3 => ?_) (fun e3 => ?_)⟩
        · have h18 : (10 : Int) ^ (18 : Int).toNat ≤ cell := of_decide_eq_true e3
          have h0 : (0 : Int) ≤ 10 ^ (18 : Int).toNat := by decide
          refine ⟨.int cell, rfl, .int size, rfl, _, _, rfl, rfl, wide_div (b := 200) hz hzb (by decide) (by decide), ?_⟩
          refine ⟨.ref b, rfl, b, _, 2, 2, rfl, rfl, hb1, rfl, ?_⟩
          refine ⟨.int cell, rfl, .int size, rfl, _, _, rfl, rfl, hz, ?_⟩
          refine q _ _ (Off.upd.trans Off.upd) ⟨cells, (j : Int) + 1, cell / size, seed, upd_same, ?_, by omega, Int.ediv_nonneg (by omega) (by omega), hs0, hs1, hcb⟩ (Int.emod_nonneg _ (by omega)) (Int.emod_lt_of_pos _ hz)
          rw [upd_ne hcb]
          exact hc1
        · -- bag[3] = (bag[3] ** 5 + 69069 * bag[1] + cell % 1000003 + 7) % 2147483629
          have hp : CPow seed 5 := ⟨by decide, by decide, by omega⟩
          refine ⟨.ref b, rfl, b, _, 3, .int seed, rfl, rfl, .inl (.inl hb1), atI_nat (j := 3) rfl, _, _, rfl, rfl, hp, ?_⟩
          refine ⟨.ref b, rfl, b, _, 1, .int ((j : Int) + 1), rfl, rfl, .inl (.inl hb1), atI_nat (j := 1) rfl, _, _, rfl, rfl, .inl ⟨by decide, by decide⟩, _, _, rfl, rfl, ?_⟩
          refine ⟨.int cell, rfl, _, _, rfl, rfl, (show (0 : Int) < 1000003 by decide), _, _, rfl, rfl, _, _, rfl, rfl, _, _, rfl, rfl, (show (0 : Int) < 2147483629 by decide), ?_⟩
          refine ⟨.ref b, rfl, b, _, 3, 3, rfl, rfl, hb1, rfl, ?_⟩
          refine ⟨.ref b, rfl, b, _, 3, _, rfl, rfl, .inl (.inl upd_same), atI_nat (j := 3) rfl, _, _, rfl, rfl, wide_div (b := 200) (by decide) (by decide) (by decide) (by decide), .int cell, rfl, _, _, rfl, rfl, .int size, rfl, _, _, rfl, rfl, hz, ?_⟩
          refine q _ _ (Off.upd.trans Off.upd) ⟨cells, (j : Int) + 1, rest, _, upd_same, ?_, by omega, hr0, Int.emod_nonneg _ (by decide), Int.lt_trans (Int.emod_lt_of_pos _ (by decide)) (by decide), hcb⟩ (Int.emod_nonneg _ (by omega)) (Int.emod_lt_of_pos _ hz)
          rw [upd_ne hcb]
          exact hc1
end
/-! ### _law_bag -/
abbrev sBag : Stmt := topS 30
theorem scBag : FnScope ["_law_script"] ["_law_script"] (defScope sBag) := ⟨rfl, rfl, rfl, by decide +kernel, rfl, by decide +kernel, by decide +kernel⟩
def spBag (K : PySem.W.Frag) : Sp := fun vs H Q _ => ∃ (a : Addr) (ns : List Int), vs = [.ref a] ∧ SqL K H a (ns.map V.int) ∧ ns.length ≤ 63 ∧
  ∀ H' b c, Same H H' → Bag H' b c → H b = none → Q (.ref b) H'
theorem cut_map (ns : List Int) (lo hi : Option Int) : ∃ ms : List Int, cutV (ns.map V.int) lo hi = ms.map V.int ∧ ms.length ≤ ns.length := by
  unfold cutV
  refine ⟨(ns.drop (HT.sIx (ns.map V.int).length 0 lo)).take (HT.sIx (ns.map V.int).length (ns.map V.int).length hi - HT.sIx (ns.map V.int).length 0 lo), ?_, ?_⟩
  · rw [List.map_take, List.map_drop]
  · rw [List.length_take, List.length_drop]
    omega
section
variable {P : Program} {w : World} {K : PySem.W.Frag} {mg : Str → Option Value} {base : Heap}
theorem ok_bag {f : Addr} {fd : FuncData} {k : Nat} (F : Fun K "_law_bag" "_law_bag" sBag f fd) (ml : mg "len" = none) (mli : mg "list" = none) : FnOk P w K mg base CX0 (k + 1) f fd ["_law_script"] (spBag K) := by
  refine F.ok scBag (fun vs H Q E h => ?_) (fun cdv A outer s H vs Q E hr h => ?_)
  · obtain ⟨a, ns, rfl, _⟩ := h
    rfl
  · obtain ⟨a, ns, rfl, hS, hlen, q⟩ := h
    refine ⟨_, pss_one (ps_ret (pe_lst (pa_cons (pe_callTy call_list_of (by rfl) mli (by decide +kernel) (pa_cons (pe_slice sl_list (pv 0) po_none (po_some pe_int)) pa_nil))
      (pa_cons pe_int (pa_cons pe_int (pa_cons (pe_op op_add pe_int (pe_callB call_len_seq (by rfl) ml PySem.boot_len (pa_cons (pe_slice sl_list (pv 0) po_none (po_some pe_int)) pa_nil))) pa_nil)))))), ?_⟩
    obtain ⟨ms, em, lm⟩ := cut_map ns none (some 63)
    refine ⟨.ref a, rfl, 63, rfl, a, _, rfl, hS, fun p np => ?_⟩
    rw [em]
    refine ⟨p, _, rfl, .inl (.inl (.inl upd_same)), fun l nl => ?_⟩
    have s1 : Same H (upd H p (.lst (ms.map V.int))) := same_upd np
    have s2 : Same (upd H p (.lst (ms.map V.int))) (upd (upd H p (.lst (ms.map V.int))) l (.lst (ms.map V.int))) := same_upd nl
    refine ⟨.ref a, rfl, 63, rfl, a, _, rfl, (s1.trans s2).seq hS, fun p2 np2 => ?_⟩
    rw [em]
    have s3 := same_upd (o := .lst (ms.map V.int)) np2
    refine ⟨p2, _, rfl, .inl (.inl (.inl upd_same)), _, _, rfl, rfl, (show (4 : Nat) ≤ sizeLine by decide), fun b nb => ?_⟩
    have s4 := same_upd (o := .lst [.ref l, .int 0, .int 0, .int (9463 + ((ms.map V.int).length : Nat))]) nb
    have hl : (upd (upd (upd (upd H p (.lst (ms.map V.int))) l (.lst (ms.map V.int))) p2 (.lst (ms.map V.int))) b (.lst [.ref l, .int 0, .int 0, .int (9463 + ((ms.map V.int).length : Nat))])) l = some (.lst (ms.map V.int)) := s4 _ _ (s3 _ _ upd_same)
    refine q _ b l (((s1.trans s2).trans s3).trans s4) ⟨ms, 0, 0, _, upd_same, hl, by decide, by decide, ?_, ?_, ?_⟩ (((s1.trans s2).trans s3).free nb)
    · omega
    · rw [List.length_map]
      omega
    · exact ne_of_none (s3 _ _ (upd_same (H := upd H p (.lst (ms.map V.int))) (a := l) (o := .lst (ms.map V.int)))) nb
end
/-! ### _law_of -/
abbrev sOf : Stmt := topS 32
theorem scOf : FnScope ["_law_bag_here", "_law_things"] ["_law_bag_here", "_law_things"] (defScope sOf) := ⟨rfl, rfl, rfl, by decide +kernel, rfl, by decide +kernel, by decide +kernel⟩
def spOf : Sp := fun vs H Q _ => ∃ (b c t : Addr) (xs : List V), vs = [.ref b, .ref t] ∧ Bag H b c ∧ H t = some (.lst xs) ∧ t ≠ b ∧ 0 < xs.length ∧ xs.length ≤ 1000 ∧
  ∀ H' v, Off b H H' → Bag H' b c → v ∈ xs → Q v H'
section
variable {P : Program} {w : World} {K : PySem.W.Frag} {mg : Str → Option Value} {base : Heap}
theorem ok_of {f fP : Addr} {fd fdP : FuncData} {k : Nat} (F : Fun K "_law_of" "_law_of" sOf f fd) (ml : mg "len" = none)
    (FP : Fun K "_law_pull" "_law_pull" sPull fP fdP) (bP : Binds K fdP ["_law_bag_here", "_law_size"] []) (gP : mg "_law_pull" = some (.ref fP)) : FnOk P w K mg base CX0 (k + 2) f fd ["_law_bag_here", "_law_things"] spOf := by
  have GP : FnOk P w K mg base CX0 (k + 1) fP fdP ["_law_bag_here", "_law_size"] spPull := ok_pull FP ml
  refine F.ok scOf (fun vs H Q E h => ?_) (fun cdv A outer s H vs Q E hr h => ?_)
  · obtain ⟨b, c, t, xs, rfl, _⟩ := h
    rfl
  · obtain ⟨b, c, t, xs, rfl, hB, hT, htb, h0, h1, q⟩ := h
    refine ⟨_, pss_one (ps_ret (pe_ix ix_list (pv 1) (pe_call GP hr (by rfl) gP FP.kp bP .nil pass0 (pa_cons (pv 0) (pa_cons (pe_callB call_len_seq (by rfl) ml PySem.boot_len (pa_cons (pv 1) pa_nil)) pa_nil))) (fun _ _ => rfl))), ?_⟩
    refine ⟨.ref t, rfl, .ref b, rfl, .ref t, rfl, t, xs, rfl, .inl (.inl (.inl hT)), b, c, _, rfl, hB, by omega, ?_, fun H' r off bag hr0 hr1 => ?_⟩
    · rw [Int.natAbs_natCast]
      exact Nat.lt_of_le_of_lt h1 (by decide)
    · obtain ⟨n, rfl⟩ := Int.eq_ofNat_of_zero_le hr0
      have hn : n < xs.length := by omega
      refine ⟨t, xs, _, xs[n], rfl, rfl, .inl (.inl (off _ _ htb hT)), atI_nat (List.getElem?_eq_getElem hn), ?_⟩
      exact q _ _ off bag (List.getElem_mem hn)
end
/-! ### _law_like -/
theorem Same.tup {K : PySem.W.Frag} {H H' : Hp} {a : Addr} {xs : List V} (e : Same H H') (h : SqT K H a xs) : SqT K H' a xs := by
  rcases h with (h | ⟨o, h⟩) | h
  · exact .inl (.inl (e _ _ h))
  · exact .inl (.inr ⟨o, e _ _ h⟩)
  · exact .inr h
theorem tyL {K : PySem.W.Frag} {H : Hp} {a : Addr} {xs : List V} (h : SqL K H a xs) : TyX K H (.ref a) (.type "list") := by
  rcases h with (h | ⟨o, h⟩) | ⟨o, its, n, h1, h2, h3⟩
  · exact .base (.lst h)
  · exact .base (.frz h)
  · exact .kList h1 h2
theorem tyT {K : PySem.W.Frag} {H : Hp} {a : Addr} {xs : List V} (h : SqT K H a xs) : TyX K H (.ref a) (.type "tuple") := by
  rcases h with (h | ⟨o, h⟩) | ⟨o, its, n, h1, h2, h3⟩
  · exact .base (.tup h)
  · exact .fTuple h
  · exact .kTuple h1 h2
theorem ix_any {K : PySem.W.Frag} {H : Hp} {a : Addr} {xs : List V} {i : Nat} {v : V} {Q : VK} (h : SqL K H a xs ∨ SqT K H a xs) (e : xs[i]? = some v) (q : Q v H) : rIx K (.ref a) (.int (i : Nat)) H Q := by
  rcases h with h | h
  · exact .inl ⟨a, xs, _, v, rfl, rfl, h, atI_nat e, q⟩
  · exact .inr (.inl ⟨a, xs, _, v, rfl, rfl, h, atI_nat e, q⟩)
/-- what was there before a new object was made stays, though that object changes -/
theorem Same.offUpd {H H' : Hp} {D : Addr} {o : HO} (e : Same H H') (n : H D = none) : Same H (upd H' D o) := fun b x h => by
  rw [upd_ne (ne_of_none h n)]
  exact e b x h
theorem yesT {σ : L2.St} {H : Hp} {A B : Hp → Prop} (h : A H) : tYes σ H (fun b H3 => if b = true then A H3 else B H3) := h
/-- the same data, of a depth below n -/
def Lk (K : PySem.W.Frag) (H : Hp) : Nat → V → V → Prop
  | 0, _, _ => False
  | n + 1, v, u => (v = u ∧ (v = .non ∨ (∃ b, v = .bl b) ∨ (∃ i, v = .int i) ∨ ∃ z, v = .str z)) ∨
    ∃ a b xs ys, v = .ref a ∧ u = .ref b ∧ ((SqL K H a xs ∧ SqL K H b ys) ∨ (SqT K H a xs ∧ SqT K H b ys)) ∧ xs.length = ys.length ∧ xs.length ≤ 1000 ∧ ∀ (i : Nat) (x y : V), xs[i]? = some x → ys[i]? = some y → Lk K H n x y
theorem Lk.same {K : PySem.W.Frag} {H H' : Hp} (e : Same H H') : ∀ (n : Nat) (v u : V), Lk K H n v u → Lk K H' n v u
  | 0, _, _, h => h
  | n + 1, v, u, h => by
    rcases h with h | ⟨a, b, xs, ys, e1, e2, h3, h4, h5, h6⟩
    · exact .inl h
    · refine .inr ⟨a, b, xs, ys, e1, e2, ?_, h4, h5, fun i x y p q => Lk.same e n x y (h6 i x y p q)⟩
      rcases h3 with ⟨p, q⟩ | ⟨p, q⟩
      · exact .inl ⟨e.seq p, e.seq q⟩
      · exact .inr ⟨Same.tup e p, Same.tup e q⟩
abbrev sLike : Stmt := topS 37
theorem scLike : FnScope ["_law_one", "_law_due", "_law_at"] ["_law_one", "_law_due"] (defScope sLike) := ⟨rfl, rfl, rfl, by decide +kernel, rfl, by decide +kernel, by decide +kernel⟩
def spLike (K : PySem.W.Frag) (n : Nat) : Sp := fun vs H Q _ => ∃ v u, vs = [v, u] ∧ Lk K H n v u ∧ ∀ H', Same H H' → Q (.bl true) H'
structure LkG (mg : Str → Option Value) : Prop where
  isi : mg "isinstance" = none
  tup : mg "tuple" = none
  lst : mg "list" = none
  len : mg "len" = none
  all : mg "all" = none
  rng : mg "range" = none
  bool : mg "bool" = none
  int : mg "int" = none
  str : mg "str" = none
section
variable {P : Program} {w : World} {K : PySem.W.Frag} {mg : Str → Option Value} {base : Heap}
theorem like_step {f : Addr} {fd : FuncData} {n : Nat} (F : Fun K "_law_like" "_law_like" sLike f fd) (b : Binds K fd ["_law_one", "_law_due"] []) (g : mg "_law_like" = some (.ref f)) (M : LkG mg)
    (G : FnOk P w K mg base CX0 n f fd ["_law_one", "_law_due"] (spLike K n)) : FnOk P w K mg base CX0 (n + 1) f fd ["_law_one", "_law_due"] (spLike K (n + 1)) := by
  refine F.ok scLike (fun vs H Q E h => ?_) (fun cdv A outer s H vs Q E hr h => ?_)
  · obtain ⟨v, u, rfl, _⟩ := h
    rfl
  · obtain ⟨v, u, rfl, hL, q⟩ := h
    refine ⟨_, pss_cons (ps_if (pt_val (pe_callB call_isiT (by rfl) M.isi (by decide +kernel) (pa_cons (pv 1) (pa_cons (pe_tup (pa_cons (pe_bltn (v := .ty "tuple") (by rfl) M.tup (by decide +kernel) rfl) (pa_cons (pe_bltn (v := .ty "list") (by rfl) M.lst (by decide +kernel) rfl) pa_nil))) pa_nil))))
        (pss_cons (ps_if (pt_cmpR op_ne (pe_callB call_isi (by rfl) M.isi (by decide +kernel) (pa_cons (pv 0) (pa_cons (pe_bltn (v := .ty "tuple") (by rfl) M.tup (by decide +kernel) rfl) pa_nil))) (pe_callB call_isi (by rfl) M.isi (by decide +kernel) (pa_cons (pv 1) (pa_cons (pe_bltn (v := .ty "tuple") (by rfl) M.tup (by decide +kernel) rfl) pa_nil))) (nomark _))
          (pss_one (ps_ret pe_bl)) pss_nil)
        (pss_cons (ps_if (PW.pt (pw_or (pt_not (pt_val (pe_callB call_isiT (by rfl) M.isi (by decide +kernel) (pa_cons (pv 0) (pa_cons (pe_tup (pa_cons (pe_bltn (v := .ty "tuple") (by rfl) M.tup (by decide +kernel) rfl) (pa_cons (pe_bltn (v := .ty "list") (by rfl) M.lst (by decide +kernel) rfl) pa_nil))) pa_nil)))))
            (pw_or1 (pt_cmpR op_ne (pe_callB call_len_seq (by rfl) M.len PySem.boot_len (pa_cons (pv 0) pa_nil)) (pe_callB call_len_seq (by rfl) M.len PySem.boot_len (pa_cons (pv 1) pa_nil)) (nomark _)))))
          (pss_one (ps_ret pe_bl)) pss_nil)
        (pss_one (ps_ret (pe_callB (cr_all rfl) (by rfl) M.all (by decide +kernel) (pa_cons (pe_lc (own := [("_law_at", 2)]) (g := gName 2) (tt := tYes) rfl scLike.nd (pi_range1 (by rfl) M.rng (pa_cons (pe_callB call_len_seq (by rfl) M.len PySem.boot_len (pa_cons (pv 1) pa_nil)) pa_nil))
            (blkOk_by (own := [("_law_at", 2)]) (N := ["_law_one", "_law_due", "_law_at"]) (sc := defScope sLike) (by decide +kernel)) (fun _ _ _ _ _ => pg_name (i := 2) scLike.nd rfl (Or.inl rfl)) (fun _ _ _ _ _ => pts_nil)
            (fun _ _ _ _ _ => pe_call G hr (by rfl) g F.kp b .nil pass0 (pa_cons (pe_ix (r := rIx K) ix_seq (pv 0) (pv 2) (fun _ _ => rfl)) (pa_cons (pe_ix (r := rIx K) ix_seq (pv 1) (pv 2) (fun _ _ => rfl)) pa_nil)))) pa_nil)))))) pss_nil)
      (pss_cons (ps_if (pt_val (pe_callB call_isi (by rfl) M.isi (by decide +kernel) (pa_cons (pv 1) (pa_cons (pe_bltn (v := .ty "bool") (by rfl) M.bool (by decide +kernel) rfl) pa_nil))))
        (pss_one (ps_ret (pe_and (pe_callB call_isi (by rfl) M.isi (by decide +kernel) (pa_cons (pv 0) (pa_cons (pe_bltn (v := .ty "bool") (by rfl) M.bool (by decide +kernel) rfl) pa_nil))) (pe_one (pe_cmpR op_eq (pv 0) (pv 1) (nomark _)))))) pss_nil)
      (pss_cons (ps_if (pt_val (pe_callB call_isi (by rfl) M.isi (by decide +kernel) (pa_cons (pv 1) (pa_cons (pe_bltn (v := .ty "int") (by rfl) M.int (by decide +kernel) rfl) pa_nil))))
        (pss_one (ps_ret (pe_and (pe_callB call_isi (by rfl) M.isi (by decide +kernel) (pa_cons (pv 0) (pa_cons (pe_bltn (v := .ty "int") (by rfl) M.int (by decide +kernel) rfl) pa_nil))) (pe_and (pe_not (pe_callB call_isi (by rfl) M.isi (by decide +kernel) (pa_cons (pv 0) (pa_cons (pe_bltn (v := .ty "bool") (by rfl) M.bool (by decide +kernel) rfl) pa_nil)))) (pe_one (pe_cmpR op_eq (pv 0) (pv 1) (nomark _))))))) pss_nil)
      (pss_cons (ps_if (pt_val (pe_callB call_isi (by rfl) M.isi (by decide +kernel) (pa_cons (pv 1) (pa_cons (pe_bltn (v := .ty "str") (by rfl) M.str (by decide +kernel) rfl) pa_nil))))
        (pss_one (ps_ret (pe_and (pe_callB call_isi (by rfl) M.isi (by decide +kernel) (pa_cons (pv 0) (pa_cons (pe_bltn (v := .ty "str") (by rfl) M.str (by decide +kernel) rfl) pa_nil))) (pe_one (pe_cmpR op_eq (pv 0) (pv 1) (nomark _)))))) pss_nil)
      (pss_one (ps_ret (pe_and (pe_cmp (pc_isN (pv 1)) rfl) (pe_one (pe_cmp (pc_isN (pv 0)) rfl)))))))), ?_⟩
    rcases hL with ⟨rfl, hs⟩ | ⟨a1, a2, xs, ys, rfl, rfl, h3, h4, h5, h6⟩
    · rcases hs with rfl | ⟨bb, rfl⟩ | ⟨i, rfl⟩ | ⟨z, rfl⟩
      · refine ⟨.non, rfl, (show (2 : Nat) ≤ sizeLine by decide), fun t nt => ⟨.non, t, _, .type "NoneType", [.type "tuple", .type "list"], false, rfl, upd_same, .cons (.ty _) (.cons (.ty _) .nil), .base .non, kitAny_cons (b := false) (kit_ty (by decide +kernel)) (fun _ => kitAny_cons (b := false) (kit_ty (by decide +kernel)) (fun _ => kitAny_nil) (fun e => nomatch e)) (fun e => nomatch e), _, rfl, iteF ?_⟩⟩
        refine ⟨.non, rfl, .non, _, _, _, false, rfl, .ty _, .base .non, kit_ty (by decide +kernel), _, rfl, iteF ?_⟩
        refine ⟨.non, rfl, .non, _, _, _, false, rfl, .ty _, .base .non, kit_ty (by decide +kernel), _, rfl, iteF ?_⟩
        refine ⟨.non, rfl, .non, _, _, _, false, rfl, .ty _, .base .non, kit_ty (by decide +kernel), _, rfl, iteF ?_⟩
        refine ⟨.non, rfl, _, rfl, iteT ⟨.non, rfl, ?_⟩⟩
        exact q _ (same_upd nt)
      · refine ⟨.bl bb, rfl, (show (2 : Nat) ≤ sizeLine by decide), fun t nt => ⟨.bl bb, t, _, .type "bool", [.type "tuple", .type "list"], false, rfl, upd_same, .cons (.ty _) (.cons (.ty _) .nil), .base (.bl bb), kitAny_cons (b := false) (kit_ty (by decide +kernel)) (fun _ => kitAny_cons (b := false) (kit_ty (by decide +kernel)) (fun _ => kitAny_nil) (fun e => nomatch e)) (fun e => nomatch e), _, rfl, iteF ?_⟩⟩
        refine ⟨.bl bb, rfl, .bl bb, _, _, _, true, rfl, .ty _, .base (.bl bb), kit_ty (by decide +kernel), _, rfl, iteT ?_⟩
        refine ⟨.bl bb, rfl, .bl bb, _, _, _, true, rfl, .ty _, .base (.bl bb), kit_ty (by decide +kernel), _, rfl, iteT ⟨.bl bb, rfl, .bl bb, rfl, rfl, ?_⟩⟩
        rw [decide_eq_true rfl]
        exact q _ (same_upd nt)
      · refine ⟨.int i, rfl, (show (2 : Nat) ≤ sizeLine by decide), fun t nt => ⟨.int i, t, _, .type "int", [.type "tuple", .type "list"], false, rfl, upd_same, .cons (.ty _) (.cons (.ty _) .nil), .base (.int i), kitAny_cons (b := false) (kit_ty (by decide +kernel)) (fun _ => kitAny_cons (b := false) (kit_ty (by decide +kernel)) (fun _ => kitAny_nil) (fun e => nomatch e)) (fun e => nomatch e), _, rfl, iteF ?_⟩⟩
        refine ⟨.int i, rfl, .int i, _, _, _, false, rfl, .ty _, .base (.int i), kit_ty (by decide +kernel), _, rfl, iteF ?_⟩
        refine ⟨.int i, rfl, .int i, _, _, _, true, rfl, .ty _, .base (.int i), kit_ty (by decide +kernel), _, rfl, iteT ?_⟩
        refine ⟨.int i, rfl, .int i, _, _, _, true, rfl, .ty _, .base (.int i), kit_ty (by decide +kernel), _, rfl, iteT ⟨.int i, rfl, .int i, _, _, _, false, rfl, .ty _, .base (.int i), kit_ty (by decide +kernel), _, rfl, _, rfl, iteT ⟨.int i, rfl, .int i, rfl, rfl, ?_⟩⟩⟩
        rw [decide_eq_true rfl]
        exact q _ (same_upd nt)
      · refine ⟨.str z, rfl, (show (2 : Nat) ≤ sizeLine by decide), fun t nt => ⟨.str z, t, _, .type "str", [.type "tuple", .type "list"], false, rfl, upd_same, .cons (.ty _) (.cons (.ty _) .nil), .base (.str z), kitAny_cons (b := false) (kit_ty (by decide +kernel)) (fun _ => kitAny_cons (b := false) (kit_ty (by decide +kernel)) (fun _ => kitAny_nil) (fun e => nomatch e)) (fun e => nomatch e), _, rfl, iteF ?_⟩⟩
        refine ⟨.str z, rfl, .str z, _, _, _, false, rfl, .ty _, .base (.str z), kit_ty (by decide +kernel), _, rfl, iteF ?_⟩
        refine ⟨.str z, rfl, .str z, _, _, _, false, rfl, .ty _, .base (.str z), kit_ty (by decide +kernel), _, rfl, iteF ?_⟩
        refine ⟨.str z, rfl, .str z, _, _, _, true, rfl, .ty _, .base (.str z), kit_ty (by decide +kernel), _, rfl, iteT ?_⟩
        refine ⟨.str z, rfl, .str z, _, _, _, true, rfl, .ty _, .base (.str z), kit_ty (by decide +kernel), _, rfl, iteT ⟨.str z, rfl, .str z, rfl, rfl, ?_⟩⟩
        rw [decide_eq_true rfl]
        exact q _ (same_upd nt)
    · obtain ⟨ty, bt, ht1, ht2, k2, k3, hq1, hq2⟩ : ∃ (ty : String) (bt : Bool), (∀ H', Same H H' → TyX K H' (.ref a1) (.type ty)) ∧ (∀ H', Same H H' → TyX K H' (.ref a2) (.type ty)) ∧ PySem.W.kitAny K (.type ty) [.type "tuple", .type "list"] = some true ∧ PySem.W.kitOne K (.type ty) (.type "tuple") = some bt ∧ (∀ H', Same H H' → SqL K H' a1 xs ∨ SqT K H' a1 xs) ∧ (∀ H', Same H H' → SqL K H' a2 ys ∨ SqT K H' a2 ys) := by
        rcases h3 with ⟨p1, p2⟩ | ⟨p1, p2⟩
        · exact ⟨"list", false, fun _ e => tyL (e.seq p1), fun _ e => tyL (e.seq p2), kitAny_cons (b := false) (kit_ty (by decide +kernel)) (fun _ => kitAny_cons (b := true) (kit_ty (by decide +kernel)) (fun e => nomatch e) (fun _ => rfl)) (fun e => nomatch e), kit_ty (by decide +kernel), fun _ e => .inl (e.seq p1), fun _ e => .inl (e.seq p2)⟩
        · exact ⟨"tuple", true, fun _ e => tyT (Same.tup e p1), fun _ e => tyT (Same.tup e p2), kitAny_cons (b := true) (kit_ty (by decide +kernel)) (fun e => nomatch e) (fun _ => rfl), kit_ty (by decide +kernel), fun _ e => .inr (Same.tup e p1), fun _ e => .inr (Same.tup e p2)⟩
      refine ⟨.ref a2, rfl, (show (2 : Nat) ≤ sizeLine by decide), fun t nt => ⟨.ref a2, t, _, .type ty, [.type "tuple", .type "list"], true, rfl, upd_same, .cons (.ty _) (.cons (.ty _) .nil), ht2 _ (same_upd nt), k2, _, rfl, iteT ?_⟩⟩
      have s1 : Same H (upd H t (.tup [.ty "tuple", .ty "list"])) := same_upd nt
      refine ⟨.ref a1, rfl, .ref a1, _, _, _, bt, rfl, .ty _, ht1 _ s1, k3, .ref a2, rfl, .ref a2, _, _, _, bt, rfl, .ty _, ht2 _ s1, k3, rfl, _, rfl, iteNS rfl ?_⟩
      refine ⟨.ref a1, rfl, (show (2 : Nat) ≤ sizeLine by decide), fun t2 nt2 => ⟨.ref a1, t2, _, .type ty, [.type "tuple", .type "list"], true, rfl, upd_same, .cons (.ty _) (.cons (.ty _) .nil), ht1 _ (s1.trans (same_upd nt2)), k2, _, rfl, iteF ?_⟩⟩
      have s2 := s1.trans (same_upd (o := .tup [.ty "tuple", .ty "list"]) nt2)
      generalize upd (upd H t (.tup [.ty "tuple", .ty "list"])) t2 (.tup [.ty "tuple", .ty "list"]) = H2 at s2 ⊢
      refine ⟨.ref a1, rfl, a1, xs, rfl, hq1 _ s2, .ref a2, rfl, a2, ys, rfl, hq2 _ s2, rfl, _, rfl, iteNS (by rw [h4]) ?_⟩
      refine ⟨.ref a2, rfl, a2, ys, rfl, hq2 _ s2, (ys.length : Nat), rfl, by omega, by omega, fun D nD => ?_⟩
      refine lc_range (lo := 0) (n := ((ys.length : Nat) : Int).toNat) (fun i H' => Same H2 H' ∧ H' D = some (.lst ((List.replicate i true).map V.bl))) ⟨same_upd nD, upd_same⟩ (fun i H' hi hP => ?_) (fun H' hP => ?_)
      · obtain ⟨sm, hD⟩ := hP
        have hi2 : i < ys.length := by omega
        have hi1 : i < xs.length := by omega
        have e0 : (0 : Int) + (i : Int) = (i : Nat) := by omega
        have s3 := s2.trans sm
        refine ⟨rfl, yesT ?_⟩
        refine ⟨.ref a1, rfl, .int (0 + i), rfl, ?_⟩
        rw [e0]
        refine ix_any (hq1 _ s3) (List.getElem?_eq_getElem hi1) ⟨.ref a2, rfl, _, rfl, ?_⟩
        refine ix_any (hq2 _ s3) (List.getElem?_eq_getElem hi2) ?_
        refine ⟨xs[i], ys[i], rfl, Lk.same s3 n _ _ (h6 i _ _ (List.getElem?_eq_getElem hi1) (List.getElem?_eq_getElem hi2)), fun H3 sm3 => ?_⟩
        refine ⟨_, sm3 _ _ hD, ?_, Same.offUpd (sm.trans sm3) nD, ?_⟩
        · rw [List.length_map, List.length_replicate]
          exact small1000 (by omega)
        · rw [upd_same, List.replicate_succ', List.map_append]
          rfl
      · obtain ⟨sm, hD⟩ := hP
        refine ⟨D, _, rfl, .inl (.inl hD), ?_⟩
        rw [show (List.replicate ((ys.length : Nat) : Int).toNat true).all id = true by simp]
        exact q _ (s2.trans sm)
theorem ok_like {f : Addr} {fd : FuncData} (F : Fun K "_law_like" "_law_like" sLike f fd) (b : Binds K fd ["_law_one", "_law_due"] []) (g : mg "_law_like" = some (.ref f)) (M : LkG mg) : ∀ n : Nat, FnOk P w K mg base CX0 n f fd ["_law_one", "_law_due"] (spLike K n)
  | 0 => ⟨fun vs H Q E h => by obtain ⟨v, u, _, h, _⟩ := h; exact h.elim, fun A outer s H args us vs Q E hr he hb hv h => by obtain ⟨v, u, _, h, _⟩ := h; exact h.elim⟩
  | n + 1 => like_step F b g M (ok_like F b g M n)
end
/-! ### rules whose answer is some object that holds the wanted things, new or not -/
theorem tuple_mulW1 (l : Addr) (items : Array Value) (n : Nat) (dd : Option Addr) (sl : Array (Option Value)) (u : Tok) :
    Meets (Builtin.«tuple.__mul__» ⟨[.ref l, .int 1 u], []⟩) (fun _ R s => s.heap.get? l = some { cls := .type "tuple", dict := dd, data := .seq items n, slots := sl } ∧ R (.ok (.ret (Value.ref l))) { s with heap := s.heap, toks := s.toks }) :=
  .of_wp fun prog w A R s h => by
    obtain ⟨hp, g, d, tk, os⟩ := s
    obtain ⟨hl, h⟩ := h
    have f1 := AutoSeq1.idx_int
    wp_walk using wpAny_loadPart' hl
    exact ⟨_, rfl, h⟩
section
variable {X : Cx}
def rRepT1 (K : PySem.W.Frag) : R2 := fun x y H Q => ∃ l xs, x = .ref l ∧ y = .int 1 ∧ SqT K H l xs ∧ Q (.ref l) H
theorem op_repT1 : OpR X (binaryOp .Mult) (rRepT1 X.K) := by
  intro pins s σ H x y v u Q I rx ry h
  obtain ⟨l, xs, rfl, rfl, hT, q⟩ := h
  cases rx
  obtain ⟨t, rfl⟩ := ry
  obtain ⟨its, r, ⟨⟨cls, dd, data, sl⟩, ho, hc, n, hd⟩, hs⟩ := I.tuple hT
  simp only at hc hd
  subst hc hd
  refine wpAny_binaryOp_repeat_ref (T := "tuple") (U := "int") (by decide) ⟨_, ho, rfl⟩ (fun s' => typeIs_int s' 1 t) noFill_tuple_mul F.fills_int_mul F.slot_int_rmul repeat_tuple F.slot_int_index.lookup
    (call_meets F.slot_int_rmul (typeIs_int s 1 t) F.entry_int_rmul (F.args_int_rmul_2 _ _) (int_rmul_tuple 1 t l its.toArray n dd sl)
      ⟨ho, rfl, ⟨_, ho, rfl⟩, call_meets F.slot_tuple_mul ⟨_, ho, rfl⟩ F.entry_tuple_mul (F.args_tuple_mul_2 _ _) (tuple_mulW1 l its.toArray n dd sl t) ⟨ho, ?_⟩⟩)
  exact ⟨.ref l, H, I, rfl, q⟩
/-- t * k -/
def rRepS (K : PySem.W.Frag) : R2 := fun x y H Q => ∃ l k xs, x = .ref l ∧ y = .int k ∧ SqT K H l xs ∧ xs ≠ [] ∧ 1 ≤ k ∧ k ≤ 1000 ∧ xs.length ≤ 1000 ∧ ∀ p H', Same H H' → SqT K H' p (List.replicate k.toNat xs).flatten → Q (.ref p) H'
theorem op_repS : OpR X (binaryOp .Mult) (rRepS X.K) := by
  intro pins s σ H x y v u Q I rx ry h
  obtain ⟨l, k, xs, rfl, rfl, hT, hne, h1, h2, h3, q⟩ := h
  by_cases hk : k = 1
  · subst hk
    refine op_repT1 pins s σ H _ _ v u Q I rx ry ⟨l, xs, rfl, rfl, hT, q l H (Same.refl H) ?_⟩
    rw [show (List.replicate (1 : Int).toNat xs).flatten = xs by simp]
    exact hT
  · exact op_repT pins s σ H _ _ v u Q I rx ry ⟨l, k, xs, rfl, rfl, hT, hne, by omega, h2, h3, fun p np => q p _ (same_upd np) (SqT.of upd_same)⟩
/-- t + u -/
def rCatS (K : PySem.W.Frag) : R2 := fun x y H Q => ∃ a b xs ys, x = .ref a ∧ y = .ref b ∧ SqT K H a xs ∧ SqT K H b ys ∧ xs.length + ys.length ≤ sizeLine ∧ ∀ p H', Same H H' → SqT K H' p (xs ++ ys) → Q (.ref p) H'
theorem op_catS : OpR X (binaryOp .Add) (rCatS X.K) := by
  intro pins s σ H x y v u Q I rx ry h
  obtain ⟨a, b, xs, ys, rfl, rfl, ha, hb, hz, q⟩ := h
  refine op_catA pins s σ H _ _ v u Q I rx ry ⟨a, b, xs, ys, rfl, rfl, ha, hb, hz, fun e => ?_, fun _ e => ?_, fun _ _ p np => q p _ (same_upd np) (SqT.of upd_same)⟩
  · subst e
    exact q b H (Same.refl H) hb
  · subst e
    exact q a H (Same.refl H) (by rw [List.append_nil]; exact ha)
/-- t[lo:hi] -/
def rSlS (K : PySem.W.Frag) : V → Option Int → Option Int → Hp → VK → Prop := fun x lo hi H Q => ∃ a xs, x = .ref a ∧ (SqL K H a xs ∨ SqT K H a xs) ∧ ∀ p H', Same H H' → ((∃ ys, SqL K H a ys) → SqL K H' p (cutV xs lo hi)) → ((∃ ys, SqT K H a ys) → SqT K H' p (cutV xs lo hi)) → (SqL K H' p (cutV xs lo hi) ∨ SqT K H' p (cutV xs lo hi)) → Q (.ref p) H'
def rSlT' (K : PySem.W.Frag) : V → Option Int → Option Int → Hp → VK → Prop := fun x lo hi H Q => ∃ a xs, x = .ref a ∧ SqT K H a xs ∧ ∀ p H', Same H H' → SqT K H' p (cutV xs lo hi) → Q (.ref p) H'
theorem cut_whole {α : Type} {xs : List α} {lo hi : Option Int} (h : HT.sIx xs.length 0 lo = 0 ∧ HT.sIx xs.length xs.length hi = xs.length) : ((xs.drop (HT.sIx xs.length 0 lo)).take (HT.sIx xs.length xs.length hi - HT.sIx xs.length 0 lo)) = xs := by
  rw [h.1, h.2]
  simp
theorem sl_tupS : L2.SlR X (rSlT' X.K) := by
  intro pins s σ H x v vl vu lo hi sl Q I rx hs pl pu h
  obtain ⟨a, xs, rfl, hx, q⟩ := h
  refine sl_tupA pins s σ H _ v vl vu lo hi sl Q I rx hs pl pu ⟨a, xs, rfl, hx, fun e => ?_, fun _ p np => q p _ (same_upd np) (SqT.of upd_same)⟩
  exact q a H (Same.refl H) (by rw [show cutV xs lo hi = xs from cut_whole e]; exact hx)
/-- a list's or a tuple's slice -/
def rSlQ (K : PySem.W.Frag) : V → Option Int → Option Int → Hp → VK → Prop := fun x lo hi H Q => ∃ a xs, x = .ref a ∧ (SqL K H a xs ∨ SqT K H a xs) ∧ ∀ p H', Same H H' → (SqL K H' p (cutV xs lo hi) ∨ SqT K H' p (cutV xs lo hi)) → Q (.ref p) H'
theorem sl_seqS : L2.SlR X (rSlQ X.K) := by
  intro pins s σ H x v vl vu lo hi sl Q I rx hs pl pu h
  obtain ⟨a, xs, rfl, hx, q⟩ := h
  rcases hx with hx | hx
  · exact sl_list pins s σ H _ v vl vu lo hi sl Q I rx hs pl pu ⟨a, xs, rfl, hx, fun p np => q p _ (same_upd np) (.inl (SqL.of upd_same))⟩
  · exact sl_tupS pins s σ H _ v vl vu lo hi sl Q I rx hs pl pu ⟨a, xs, rfl, hx, fun p H' e h => q p H' e (.inr h)⟩
/-- tuple(x) -/
def rTupS (K : PySem.W.Frag) : List V → Hp → VK → Prop := fun vs H Q => ∃ p ys, vs = [.ref p] ∧ (SqL K H p ys ∨ SqT K H p ys) ∧ ∀ l H', Same H H' → SqT K H' l ys → Q (.ref l) H'
theorem call_tupS : CallR X (.type "tuple") (rTupS X.K) := by
  intro pins s σ H xs us Q I r h
  obtain ⟨p, ys, rfl, hx, q⟩ := h
  refine call_tuple_of pins s σ H _ us Q I r ⟨p, ys, rfl, ?_⟩
  rcases hx with hx | hx
  · exact .inl ⟨hx, fun l nl => q l _ (same_upd nl) (SqT.of upd_same)⟩
  · exact .inr ⟨hx, q p H (Same.refl H) hx⟩
/-- len(x) -/
def rLenQ (K : PySem.W.Frag) : List V → Hp → VK → Prop := fun xs H Q => ∃ p ys, xs = [.ref p] ∧ (SqL K H p ys ∨ SqT K H p ys) ∧ Q (.int (ys.length : Nat)) H
theorem call_lenQ : CallR X (.builtin "len") (rLenQ X.K) := call_len_seq
end
theorem cut_to {α : Type} (xs : List α) (k : Nat) : ((xs.drop (HT.sIx xs.length 0 none)).take (HT.sIx xs.length xs.length (some (k : Int)) - HT.sIx xs.length 0 none)) = xs.take k := by
  rw [HT.sIx_none, HT.sIx_nat, List.drop_zero, Nat.sub_zero]
  rcases Nat.le_total k xs.length with h | h
  · rw [Nat.min_eq_left h]
  · rw [Nat.min_eq_right h, List.take_of_length_le h, List.take_length]
theorem cut_from {α : Type} (xs : List α) (k : Nat) : ((xs.drop (HT.sIx xs.length 0 (some (k : Int)))).take (HT.sIx xs.length xs.length none - HT.sIx xs.length 0 (some (k : Int)))) = xs.drop k := by
  rw [HT.sIx_none, HT.sIx_nat]
  rcases Nat.le_total k xs.length with h | h
  · rw [Nat.min_eq_left h, ← List.length_drop, List.take_length]
  · rw [Nat.min_eq_right h, List.drop_of_length_le h, List.drop_length, List.take_nil]
theorem cutV_to (xs : List V) (k : Nat) : cutV xs none (some (k : Int)) = xs.take k := cut_to xs k
theorem cutV_from (xs : List V) (k : Nat) : cutV xs (some (k : Int)) none = xs.drop k := cut_from xs k
/-! ### data of whole numbers -/
theorem dpI {K : PySem.W.Frag} {H : Hp} : ∀ ns : List Int, DpAll K H (ns.map V.int) (ns.map PyData.int)
  | [] => .nil
  | n :: r => .cons (.int n) (dpI r)
theorem canLay_ints : ∀ ns : List Int, PyData.canLayAll0 (ns.map PyData.int) = true
  | [] => rfl
  | _ :: r => by simp [PyData.canLayAll0, PyData.canLay0, canLay_ints r]
theorem depth_ints : ∀ ns : List Int, PyData.depthAll (ns.map PyData.int) = 0
  | [] => rfl
  | _ :: r => by simp [PyData.depthAll, PyData.depth, depth_ints r]
theorem shL (ns : List Int) : SeqAt.shaped (.list (ns.map PyData.int)) = true := by
  simp [SeqAt.shaped, PyData.canLay0, PyData.depth, canLay_ints, depth_ints]
theorem shT (ns : List Int) : SeqAt.shaped (.tuple (ns.map PyData.int)) = true := by
  simp [SeqAt.shaped, PyData.canLay0, PyData.depth, canLay_ints, depth_ints]
theorem eqv_ints : ∀ ns ms : List Int, PyData.eqvAll (ns.map PyData.int) (ms.map PyData.int) = decide (ns = ms)
  | [], [] => rfl
  | [], _ :: _ => by simp [PyData.eqvAll]
  | _ :: _, [] => by simp [PyData.eqvAll]
  | a :: r, b :: t => by
    simp only [List.map_cons, PyData.eqvAll, PyData.eqv, eqv_ints r t]
    by_cases h : a = b <;> by_cases h' : r = t <;> simp [h, h']
theorem eqvL (ns ms : List Int) : PyData.eqv (.list (ns.map PyData.int)) (.list (ms.map PyData.int)) = decide (ns = ms) := by
  simp only [PyData.eqv]
  exact eqv_ints ns ms
theorem eqvT (ns ms : List Int) : PyData.eqv (.tuple (ns.map PyData.int)) (.tuple (ms.map PyData.int)) = decide (ns = ms) := by
  simp only [PyData.eqv]
  exact eqv_ints ns ms
theorem dpL {K : PySem.W.Frag} {H : Hp} {a : Addr} {ns : List Int} (h : SqL K H a (ns.map V.int)) : Dp K H (.ref a) (.list (ns.map PyData.int)) := .lst h (dpI ns)
theorem dpT {K : PySem.W.Frag} {H : Hp} {a : Addr} {ns : List Int} (h : SqT K H a (ns.map V.int)) : Dp K H (.ref a) (.tuple (ns.map PyData.int)) := .tup h (dpI ns)
theorem flat_map (ns : List Int) (k : Nat) : (List.replicate k (ns.map V.int)).flatten = ((List.replicate k ns).flatten).map V.int := by
  induction k with
  | zero => rfl
  | succ k ih => rw [List.replicate_succ, List.replicate_succ, List.flatten_cons, List.flatten_cons, List.map_append, ih]
theorem small_k {n : Nat} (h : n ≤ 5000) : n < sizeLine := by
  rw [sizeLine_eq]
  omega
theorem same_any {K : PySem.W.Frag} {H H' : Hp} {a : Addr} {xs : List V} (e : Same H H') (h : SqL K H a xs ∨ SqT K H a xs) : SqL K H' a xs ∨ SqT K H' a xs := by
  rcases h with h | h
  · exact .inl (e.seq h)
  · exact .inr (Same.tup e h)
def nI (ns : List Nat) : List Int := ns.map fun (n : Nat) => (n : Int)
/-! ### the refusals by their numbers -/
def rNms : List Str := ["BadColours", "BadFigure", "Meeting", "TooMany", "TooFar", "BadOrder", "OtherColours", "OtherBook", "BadRow", "BadNote", "BadBeneath", "Full", "NoEnd", "NotStanding", "NeverClear", "BadDeed", "BadNumber", "NoBeginning", "Barred", "BadHeights", "BadWeights", "NoMean", "BadText", "NoPad", "NoFigure", "NoNote", "NothingBack", "NothingAgain"]
def rFls : List (List Str) := [["at"], ["at"], ["one", "other"], ["most"], ["most"], [], [], [], ["at"], ["note"], [], ["pad"], ["pad"], ["figure"], ["pad"], [], ["number"], [], ["pad"], ["at"], ["at"], [], ["at"], ["pad"], ["figure"], ["depth"], [], []]
def rNm (i : Nat) : Str := rNms.getD i ""
def rFl (i : Nat) : List Str := rFls.getD i []
/-- the fields of the refusal i with these values -/
def rFs (i : Nat) (ws : List V) : List (Str × V) := ((rFl i).zip ws).reverse ++ [(("word" : Str), V.str (rNm i))]
/-! ### figures on the heap -/
def All2 {α : Type} (R : V → α → Prop) : List V → List α → Prop
  | [], [] => True
  | v :: vs, a :: as => R v a ∧ All2 R vs as
  | _, _ => False
theorem All2.len {α : Type} {R : V → α → Prop} : ∀ {xs : List V} {as : List α}, All2 R xs as → xs.length = as.length
  | [], [], _ => rfl
  | _ :: _, _ :: _, h => congrArg Nat.succ (All2.len h.2)
  | [], _ :: _, h => h.elim
  | _ :: _, [], h => h.elim
theorem All2.get {α : Type} {R : V → α → Prop} : ∀ {xs : List V} {as : List α} {i : Nat} {x : V}, All2 R xs as → xs[i]? = some x → ∃ a, as[i]? = some a ∧ R x a
  | [], [], i, x, _, e => by simp at e
  | v :: vs, a :: as, 0, x, h, e => ⟨a, rfl, by rw [← Option.some.inj e]; exact h.1⟩
  | v :: vs, a :: as, i + 1, x, h, e => All2.get (xs := vs) (as := as) (i := i) h.2 e
  | [], _ :: _, _, _, h, _ => h.elim
  | _ :: _, [], _, _, h, _ => h.elim
theorem All2.at {α : Type} {R : V → α → Prop} : ∀ {xs : List V} {as : List α} {i : Nat} {a : α}, All2 R xs as → as[i]? = some a → ∃ x, xs[i]? = some x ∧ R x a
  | [], [], i, x, _, e => by simp at e
  | v :: vs, a :: as, 0, x, h, e => ⟨v, rfl, by rw [← Option.some.inj e]; exact h.1⟩
  | v :: vs, a :: as, i + 1, x, h, e => All2.at (xs := vs) (as := as) (i := i) h.2 e
  | [], _ :: _, _, _, h, _ => h.elim
  | _ :: _, [], _, _, h, _ => h.elim
theorem All2.mono {α : Type} {R S : V → α → Prop} (f : ∀ x a, R x a → S x a) : ∀ {xs : List V} {as : List α}, All2 R xs as → All2 S xs as
  | [], [], _ => True.intro
  | _ :: _, _ :: _, h => ⟨f _ _ h.1, All2.mono f h.2⟩
  | [], _ :: _, h => h.elim
  | _ :: _, [], h => h.elim
theorem All2.snoc {α : Type} {R : V → α → Prop} {x : V} {a : α} (r : R x a) : ∀ {xs : List V} {as : List α}, All2 R xs as → All2 R (xs ++ [x]) (as ++ [a])
  | [], [], _ => ⟨r, True.intro⟩
  | _ :: _, _ :: _, h => ⟨h.1, All2.snoc r h.2⟩
  | [], _ :: _, h => h.elim
  | _ :: _, [], h => h.elim
abbrev Tri := Int × Int × Int
def triV (t : Tri) : List V := [.int t.1, .int t.2.1, .int t.2.2]
def TriAt (K : PySem.W.Frag) (H : Hp) (v : V) (t : Tri) : Prop := ∃ a, v = .ref a ∧ SqT K H a (triV t)
def FigT (K : PySem.W.Frag) (H : Hp) (v : V) (f : List Tri) : Prop := ∃ a xs, v = .ref a ∧ SqT K H a xs ∧ All2 (TriAt K H) xs f
/-- tuples stay -/
def TS (K : PySem.W.Frag) (H H' : Hp) : Prop := ∀ a xs, SqT K H a xs → SqT K H' a xs
theorem TS.refl {K : PySem.W.Frag} {H : Hp} : TS K H H := fun _ _ h => h
theorem TS.trans {K : PySem.W.Frag} {H H1 H2 : Hp} (x : TS K H H1) (y : TS K H1 H2) : TS K H H2 := fun a xs h => y a xs (x a xs h)
theorem TS.of {K : PySem.W.Frag} {H H' : Hp} (e : Same H H') : TS K H H' := fun a xs h => Same.tup e h
theorem TS.but {K : PySem.W.Frag} {H H' : Hp} {b : Addr} {ys : List V} (e : Off b H H') (hb : H b = some (.lst ys)) : TS K H H' := fun a xs h => by
  rcases h with (h | ⟨o, h⟩) | h
  · exact .inl (.inl (e _ _ (fun z => by rw [z, hb] at h; cases h) h))
  · exact .inl (.inr ⟨o, e _ _ (fun z => by rw [z, hb] at h; cases h) h⟩)
  · exact .inr h
theorem TS.bag {K : PySem.W.Frag} {H H' : Hp} {b c : Addr} (e : Off b H H') (h : Bag H b c) : TS K H H' := by
  obtain ⟨cells, a, r, s, h1, _⟩ := h.ex
  exact TS.but e h1
theorem TS.upd {K : PySem.W.Frag} {H : Hp} {D : Addr} {ys : List V} {o : HO} (hD : H D = some (.lst ys)) : TS K H (upd H D o) := TS.but Off.upd hD
theorem TriAt.ts {K : PySem.W.Frag} {H H' : Hp} (e : TS K H H') {v : V} {t : Tri} (h : TriAt K H v t) : TriAt K H' v t := by
  obtain ⟨a, h1, h2⟩ := h
  exact ⟨a, h1, e _ _ h2⟩
theorem FigT.ts {K : PySem.W.Frag} {H H' : Hp} (e : TS K H H') {v : V} {f : List Tri} (h : FigT K H v f) : FigT K H' v f := by
  obtain ⟨a, xs, h1, h2, h3⟩ := h
  exact ⟨a, xs, h1, e _ _ h2, h3.mono fun _ _ => TriAt.ts e⟩
theorem Off.new {b D : Addr} {H H' : Hp} {o : HO} (e : Off b H H') (n : H D = none) : Off b H (L2.upd H' D o) := fun a x h q => by
  rw [upd_ne (ne_of_none q n)]
  exact e a x h q
/-- what a book asks of a figure -/
structure GoodT (cs : List Int) (t : Tri) : Prop where
  p0 : 0 ≤ t.1
  p1 : t.1 < cs.length
  n0 : 0 ≤ t.2.1
  n1 : t.2.1 < cs.getD t.1.toNat 0
  d0 : 1 ≤ t.2.2
  d1 : t.2.2 ≤ 3
structure GoodF (cs : List Int) (f : List Tri) : Prop where
  ne : f ≠ []
  all : ∀ t ∈ f, GoodT cs t
  up : (f.map (·.1)).Pairwise (· < ·)
theorem rise_len : ∀ {l : List Int} {lo hi : Int}, l.Pairwise (· < ·) → (∀ x ∈ l, lo ≤ x ∧ x < hi) → lo ≤ hi → (l.length : Int) ≤ hi - lo
  | [], lo, hi, _, _, h => by
    show (0 : Int) ≤ _
    omega
  | x :: l, lo, hi, p, a, h => by
    have hx := a x List.mem_cons_self
    have p2 := List.pairwise_cons.mp p
    have := rise_len (l := l) (lo := x + 1) (hi := hi) p2.2 (fun y hy => ⟨by have := p2.1 y hy; omega, (a y (List.mem_cons_of_mem _ hy)).2⟩) (by omega)
    rw [List.length_cons]
    omega
theorem GoodF.len {cs : List Int} {f : List Tri} (h : GoodF cs f) : f.length ≤ cs.length := by
  have := rise_len (lo := 0) (hi := cs.length) h.up (fun x hx => by
    obtain ⟨t, ht, rfl⟩ := List.mem_map.mp hx
    exact ⟨(h.all t ht).p0, (h.all t ht).p1⟩) (by omega)
  rw [List.length_map] at this
  omega
theorem tri_data {K : PySem.W.Frag} {H : Hp} : ∀ {xs : List V} {fg : List Tri}, All2 (TriAt K H) xs fg → ∃ ds : List PyData, DpAll K H xs ds ∧ SeqAt.shaped (.list ds) = true ∧ PyData.eqv (.list ds) (.list []) = decide (fg = []) := by
  intro xs fg h
  refine ⟨fg.map fun t => .tuple [.int t.1, .int t.2.1, .int t.2.2], ?_, ?_, ?_⟩
  · induction fg generalizing xs with
    | nil =>
      cases xs with
      | nil => exact .nil
      | cons _ _ => exact h.elim
    | cons t r ih =>
      cases xs with
      | nil => exact h.elim
      | cons x l =>
        obtain ⟨a, e, ha⟩ := h.1
        subst e
        exact .cons (.tup ha (.cons (.int _) (.cons (.int _) (.cons (.int _) .nil)))) (ih h.2)
  · have h1 : ∀ l : List Tri, PyData.canLayAll0 (l.map fun t => .tuple [.int t.1, .int t.2.1, .int t.2.2]) = true := fun l => by
      induction l with
      | nil => rfl
      | cons t r ih => simp [PyData.canLayAll0, PyData.canLay0, ih]
    have h2 : ∀ l : List Tri, PyData.depthAll (l.map fun t => .tuple [.int t.1, .int t.2.1, .int t.2.2]) ≤ 1 := fun l => by
      induction l with
      | nil => simp [PyData.depthAll]
      | cons t r ih =>
        simp only [List.map_cons, PyData.depthAll, PyData.depth]
        omega
    have h3 := h1 fg
    have h4 := h2 fg
    have h5 : PyData.depth (.list (fg.map fun t => .tuple [.int t.1, .int t.2.1, .int t.2.2])) ≤ 64 := by
      simp only [PyData.depth]
      omega
    show (PyData.canLay0 _ && decide (PyData.depth _ ≤ 64)) = true
    rw [Bool.and_eq_true]
    exact ⟨by simp only [PyData.canLay0]; exact h3, decide_eq_true h5⟩
  · cases fg with
    | nil => simp [PyData.eqv, PyData.eqvAll]
    | cons _ _ => simp [PyData.eqv, PyData.eqvAll]
/-! ### _law_hues -/
abbrev sHues : Stmt := topS 33
abbrev nHues : List Str := ["_law_bag_here", "_law_most", "_law_pad"]
theorem scHues : FnScope nHues ["_law_bag_here", "_law_most"] (defScope sHues) := ⟨rfl, rfl, rfl, by decide +kernel, rfl, by decide +kernel, by decide +kernel⟩
def spHues : Sp := fun vs H Q _ => ∃ (b c : Addr) (most : Nat), vs = [.ref b, .int (most : Nat)] ∧ Bag H b c ∧ 0 < most ∧ most ≤ 100 ∧
  ∀ (H' : Hp) (p : Addr) (cs : List Int), Off b H H' → Bag H' b c → H p = none → p ≠ b → H' p = some (.lst (cs.map V.int)) → 1 ≤ cs.length → cs.length ≤ most → (∀ x ∈ cs, (1 : Int) ≤ x ∧ x ≤ 4) → Q (.ref p) H'
section
variable {P : Program} {w : World} {K : PySem.W.Frag} {mg : Str → Option Value} {base : Heap}
theorem ok_hues {f fP fO : Addr} {fd fdP fdO : FuncData} {k : Nat} (F : Fun K "_law_hues" "_law_hues" sHues f fd) (mr : mg "range" = none)
    (FP : Fun K "_law_pull" "_law_pull" sPull fP fdP) (bP : Binds K fdP ["_law_bag_here", "_law_size"] []) (gP : mg "_law_pull" = some (.ref fP)) (GP : FnOk P w K mg base CX0 k fP fdP ["_law_bag_here", "_law_size"] spPull)
    (FO : Fun K "_law_of" "_law_of" sOf fO fdO) (bO : Binds K fdO ["_law_bag_here", "_law_things"] []) (gO : mg "_law_of" = some (.ref fO)) (GO : FnOk P w K mg base CX0 k fO fdO ["_law_bag_here", "_law_things"] spOf) :
    FnOk P w K mg base CX0 (k + 1) f fd ["_law_bag_here", "_law_most"] spHues := by
  refine F.ok scHues (fun vs H Q E h => ?_) (fun cdv A outer s H vs Q E hr h => ?_)
  · obtain ⟨b, c, most, rfl, _⟩ := h
    rfl
  · obtain ⟨b, c, most, rfl, hB, h0, h1, q⟩ := h
    refine ⟨_, pss_one (ps_ret (pe_lc (own := [("_law_pad", 2)]) (g := gName 2) (tt := tYes) rfl scHues.nd (pi_range1 (by rfl) mr (pa_cons (pe_op op_add pe_int (pe_call GP hr (by rfl) gP FP.kp bP .nil pass0 (pa_cons (pv 0) (pa_cons (pv 1) pa_nil)))) pa_nil))
      (blkOk_by (own := [("_law_pad", 2)]) (N := nHues) (sc := defScope sHues) (by decide +kernel)) (fun _ _ _ _ _ => pg_name (i := 2) scHues.nd rfl (Or.inl rfl)) (fun _ _ _ _ _ => pts_nil)
      (fun _ _ _ _ _ => pe_call GO hr (by rfl) gO FO.kp bO .nil pass0 (pa_cons (pv 0) (pa_cons (pe_lst (pa_cons pe_int (pa_cons pe_int (pa_cons pe_int (pa_cons pe_int (pa_cons pe_int pa_nil)))))) pa_nil))))), ?_⟩
    refine ⟨.ref b, rfl, .int (most : Nat), rfl, b, c, most, rfl, hB, by omega, ?_, fun H2 r off2 hB2 r0 r1 => ?_⟩
    · rw [Int.natAbs_natCast]
      exact Nat.lt_of_le_of_lt h1 (by decide)
    obtain ⟨n, rfl⟩ := Int.eq_ofNat_of_zero_le r0
    refine ⟨1, (n : Int), rfl, rfl, 1 + (n : Int), rfl, by omega, by omega, fun D nD => ?_⟩
    have hne := hB2.ne nD
    have hDH : H D = none := by
      cases e : H D with
      | none => rfl
      | some o =>
        rw [off2 D o hne.1 e] at nD
        cases nD
    refine lc_range (lo := 0) (n := (1 + (n : Int)).toNat) (fun i H' => Bag H' b c ∧ Off b H H' ∧ ∃ cs : List Int, cs.length = i ∧ H' D = some (.lst (cs.map V.int)) ∧ ∀ x ∈ cs, (1 : Int) ≤ x ∧ x ≤ 4) ⟨hB2.same (same_upd nD), off2.trans (Off.same (same_upd nD)), [], rfl, upd_same, fun x hx => by cases hx⟩ (fun i H' hi hP => ?_) (fun H' hP => ?_)
    · obtain ⟨hB4, off4, cs, hx, hD, hc⟩ := hP
      refine ⟨rfl, yesT ⟨.ref b, rfl, (show (5 : Nat) ≤ sizeLine by decide), fun t nt => ?_⟩⟩
      have u1 := same_upd (o := .lst [V.int 2, V.int 3, V.int 2, V.int 4, V.int 1]) nt
      refine ⟨b, c, t, _, rfl, hB4.same u1, upd_same, (hB4.ne nt).1, (show (0 : Nat) < 5 by decide), (show (5 : Nat) ≤ 1000 by decide), fun H5 v off5 hB5 hv => ?_⟩
      obtain ⟨x, rfl, hx1⟩ : ∃ x : Int, v = .int x ∧ 1 ≤ x ∧ x ≤ 4 := by
        simp only [List.mem_cons, List.not_mem_nil, or_false] at hv
        rcases hv with rfl | rfl | rfl | rfl | rfl
        · exact ⟨2, rfl, by decide⟩
        · exact ⟨3, rfl, by decide⟩
        · exact ⟨2, rfl, by decide⟩
        · exact ⟨4, rfl, by decide⟩
        · exact ⟨1, rfl, by decide⟩
      refine ⟨_, off5 _ _ hne.1 (u1 _ _ hD), ?_, hB5.upd hne, ((off4.trans (Off.same u1)).trans off5).new hDH, cs ++ [x], ?_, ?_, ?_⟩
      · rw [List.length_map]
        exact small1000 (by omega)
      · rw [List.length_append, hx]
        rfl
      · rw [upd_same, List.map_append]
        rfl
      · intro y hy
        rcases List.mem_append.mp hy with hy | hy
        · exact hc y hy
        · rw [List.mem_singleton.mp hy]
          exact hx1
    · obtain ⟨hB4, off4, cs, hx, hD, hc⟩ := hP
      exact q H' D cs off4 hB4 hDH hne.1 hD (by omega) (by omega) hc
end
/-! ### _law_shape -/
abbrev sShape : Stmt := topS 34
abbrev nShape : List Str := ["_law_bag_here", "_law_colours", "_law_found", "_law_pad"]
theorem scShape : FnScope nShape ["_law_bag_here", "_law_colours"] (defScope sShape) := ⟨rfl, rfl, rfl, by decide +kernel, rfl, by decide +kernel, by decide +kernel⟩
def spShape (K : PySem.W.Frag) : Sp := fun vs H Q _ => ∃ (b c p : Addr) (cs : List Int), vs = [.ref b, .ref p] ∧ Bag H b c ∧ H p = some (.lst (cs.map V.int)) ∧ p ≠ b ∧ 1 ≤ cs.length ∧ cs.length ≤ 6 ∧ (∀ x ∈ cs, (1 : Int) ≤ x ∧ x ≤ 4) ∧
  ∀ H' v f, Off b H H' → Bag H' b c → FigT K H' v f → GoodF cs f → Q v H'
theorem cs_at {cs : List Int} {i : Nat} (h : i < cs.length) : atI (cs.map V.int) (i : Int) = some (.int (cs.getD i 0)) := by
  refine atI_nat ?_
  rw [List.getElem?_map, List.getElem?_eq_getElem h, List.getD_eq_getElem?_getD, List.getElem?_eq_getElem h]
  rfl
theorem cs_in {cs : List Int} {i : Nat} (h : i < cs.length) (a : ∀ x ∈ cs, (1 : Int) ≤ x ∧ x ≤ 4) : 1 ≤ cs.getD i 0 ∧ cs.getD i 0 ≤ 4 := by
  rw [List.getD_eq_getElem?_getD, List.getElem?_eq_getElem h]
  exact a _ (List.getElem_mem h)
section
variable {P : Program} {w : World} {K : PySem.W.Frag} {mg : Str → Option Value} {base : Heap}
theorem ok_shape {f fP fO : Addr} {fd fdP fdO : FuncData} {k : Nat} (F : Fun K "_law_shape" "_law_shape" sShape f fd) (mr : mg "range" = none) (ml : mg "len" = none) (mt : mg "tuple" = none)
    (FP : Fun K "_law_pull" "_law_pull" sPull fP fdP) (bP : Binds K fdP ["_law_bag_here", "_law_size"] []) (gP : mg "_law_pull" = some (.ref fP)) (GP : FnOk P w K mg base CX0 k fP fdP ["_law_bag_here", "_law_size"] spPull)
    (FO : Fun K "_law_of" "_law_of" sOf fO fdO) (bO : Binds K fdO ["_law_bag_here", "_law_things"] []) (gO : mg "_law_of" = some (.ref fO)) (GO : FnOk P w K mg base CX0 k fO fdO ["_law_bag_here", "_law_things"] spOf) :
    FnOk P w K mg base CX0 (k + 1) f fd ["_law_bag_here", "_law_colours"] (spShape K) := by
  refine F.ok scShape (fun vs H Q E h => ?_) (fun cdv A outer s H vs Q E hr h => ?_)
  · obtain ⟨b, c, p, cs, rfl, _⟩ := h
    rfl
  · obtain ⟨b, c, p, cs, rfl, hB, hp, hpb, h1, h6, hcs, q⟩ := h
    refine ⟨_, pss_cons (ps_set (i := 2) scShape.nd rfl (.inl rfl) (pe_lst pa_nil))
      (pss_cons (ps_for PassesOwn.never rfl (pi_range1 (by rfl) mr (pa_cons (pe_callB call_lenQ (by rfl) ml PySem.boot_len (pa_cons (pv 1) pa_nil)) pa_nil)) (pg_name (i := 3) scShape.nd rfl (.inl rfl))
        (pss_one (ps_if (pt_cmpR op_lt (pe_call GP hr (by rfl) gP FP.kp bP .nil pass0 (pa_cons (pv 0) (pa_cons pe_int pa_nil))) pe_int (nomark _))
          (pss_one (ps_expr (pe_bm PySem.F.plainAttrs_list PySem.F.slot_list_append PySem.F.type_list_append mt_append (pv 2) (pa_cons (pe_tup (pa_cons (pv 3)
            (pa_cons (pe_call GP hr (by rfl) gP FP.kp bP .nil pass0 (pa_cons (pv 0) (pa_cons (pe_ix ix_list (pv 1) (pv 3) (fun _ _ => rfl)) pa_nil)))
            (pa_cons (pe_call GO hr (by rfl) gO FO.kp bO .nil pass0 (pa_cons (pv 0) (pa_cons (pe_lst (pa_cons pe_int (pa_cons pe_int (pa_cons pe_int (pa_cons pe_int (pa_cons pe_int pa_nil)))))) pa_nil))) pa_nil)))) pa_nil)))) pss_nil)))
      (C8.pss_cut (ps_if (pt_cmpR (op_eqD hr.units) (pv 2) (pe_lst pa_nil) (nomark _))
          (pss_cons (ps_set (i := 3) scShape.nd rfl (.inl rfl) (pe_call GP hr (by rfl) gP FP.kp bP .nil pass0 (pa_cons (pv 0) (pa_cons (pe_callB call_lenQ (by rfl) ml PySem.boot_len (pa_cons (pv 1) pa_nil)) pa_nil))))
          (pss_one (ps_expr (pe_bm PySem.F.plainAttrs_list PySem.F.slot_list_append PySem.F.type_list_append mt_append (pv 2) (pa_cons (pe_tup (pa_cons (pv 3)
            (pa_cons (pe_call GP hr (by rfl) gP FP.kp bP .nil pass0 (pa_cons (pv 0) (pa_cons (pe_ix ix_list (pv 1) (pv 3) (fun _ _ => rfl)) pa_nil)))
            (pa_cons (pe_op op_add pe_int (pe_call GP hr (by rfl) gP FP.kp bP .nil pass0 (pa_cons (pv 0) (pa_cons pe_int pa_nil)))) pa_nil)))) pa_nil))))) pss_nil)
      (pss_one (ps_ret (pe_callTy call_tupS (by rfl) mt (by decide +kernel) (pa_cons (pv 2) pa_nil)))))), ?_⟩
    refine ⟨Nat.zero_le _, fun D nD => ?_⟩
    have hne := hB.ne nD
    refine ⟨.ref p, rfl, p, _, rfl, .inl (SqL.of (same_upd nD _ _ hp)), ((cs.map V.int).length : Nat), rfl, by rw [List.length_map]; omega, by rw [List.length_map]; omega, ?_⟩
    rw [show (((cs.map V.int).length : Nat) : Int).toNat = cs.length by rw [List.length_map, Int.toNat_natCast]]
    refine for_range (lo := 0) (n := cs.length) (fun i σ H' => ∃ (y3 : Option V) (xs : List V) (fg : List Tri), σ = [some (.ref b), some (.ref p), some (.ref D), y3] ∧ Bag H' b c ∧ Off b H H' ∧ H' D = some (.lst xs) ∧ All2 (TriAt K H') xs fg ∧ (∀ t ∈ fg, GoodT cs t ∧ t.1 < (i : Int)) ∧ (fg.map (·.1)).Pairwise (· < ·) ∧ fg.length ≤ i)
      ⟨none, [], [], rfl, hB.same (same_upd nD), Off.same (same_upd nD), upd_same, True.intro, fun t ht => (by cases ht), List.Pairwise.nil, Nat.le_refl _⟩ ?_ ?_
    · rintro i σ H' hi ⟨y3, xs, fg, rfl, hB4, off4, hD, hA, hG, hU, hl⟩
      refine ⟨.ref b, rfl, b, c, 5, rfl, hB4, by decide, by decide, fun H5 r off5 hB5 _ _ => ?_⟩
      have ts5 : TS K H' H5 := TS.bag off5 hB4
      have hD5 := off5 _ _ hne.1 hD
      refine ⟨r, 2, rfl, rfl, _, rfl, ite2 (fun e => ?_) (fun e => ?_)⟩
      · have hp5 := (off4.trans off5) _ _ hpb hp
        have hci := cs_in hi hcs
        refine ⟨.ref D, rfl, .inl ⟨rfl, _, SqL.of hD5⟩, .int (0 + (i : Int)), rfl, ?_⟩
        refine ⟨.ref b, rfl, .ref p, rfl, .int (0 + (i : Int)), rfl, p, _, 0 + (i : Int), .int (cs.getD i 0), rfl, rfl, SqL.of hp5, by rw [Int.zero_add]; exact cs_at hi, ?_⟩
        refine ⟨b, c, cs.getD i 0, rfl, hB5, by omega, ?_, fun H6 n off6 hB6 n0 n1 => ?_⟩
        · have : (cs.getD i 0).natAbs ≤ 4 := by omega
          exact Nat.lt_of_le_of_lt this (by decide)
        refine ⟨.ref b, rfl, (show (5 : Nat) ≤ sizeLine by decide), fun t nt => ?_⟩
        have u1 := same_upd (o := .lst [V.int 1, V.int 1, V.int 2, V.int 1, V.int 3]) nt
        refine ⟨b, c, t, _, rfl, hB6.same u1, upd_same, (hB6.ne nt).1, (show (0 : Nat) < 5 by decide), (show (5 : Nat) ≤ 1000 by decide), fun H7 v off7 hB7 hv => ?_⟩
        obtain ⟨d, rfl, hd⟩ : ∃ d : Int, v = .int d ∧ 1 ≤ d ∧ d ≤ 3 := by
          simp only [List.mem_cons, List.not_mem_nil, or_false] at hv
          rcases hv with rfl | rfl | rfl | rfl | rfl
          · exact ⟨1, rfl, by decide⟩
          · exact ⟨1, rfl, by decide⟩
          · exact ⟨2, rfl, by decide⟩
          · exact ⟨1, rfl, by decide⟩
          · exact ⟨3, rfl, by decide⟩
        have ts7 : TS K H5 H7 := (TS.bag off6 hB5).trans ((TS.of u1).trans (TS.bag off7 (hB6.same u1)))
        refine ⟨(show (3 : Nat) ≤ sizeLine by decide), fun tt ntt => ?_⟩
        have u2 := same_upd (o := .tup [V.int (0 + (i : Int)), V.int n, V.int d]) ntt
        have hD7 := u2 _ _ (off7 _ _ hne.1 (u1 _ _ (off6 _ _ hne.1 hD5)))
        refine ⟨D, _, _, rfl, rfl, hD7, ?_, ?_⟩
        · rw [hA.len]
          exact small1000 (by omega)
        · refine ⟨_, xs ++ [.ref tt], fg ++ [(0 + (i : Int), n, d)], rfl, (hB7.same u2).upd hne, ((((off4.trans off5).trans off6).trans (Off.same u1)).trans (off7.trans (Off.same u2))).new nD, upd_same, ?_, ?_, ?_, ?_⟩
          · refine All2.snoc ⟨tt, rfl, TS.upd hD7 _ _ (SqT.of upd_same)⟩ (hA.mono fun _ _ => TriAt.ts (ts5.trans (ts7.trans ((TS.of u2).trans (TS.upd hD7)))))
          · intro t ht
            rcases List.mem_append.mp ht with ht | ht
            · exact ⟨(hG t ht).1, by have := (hG t ht).2; omega⟩
            · rw [List.mem_singleton.mp ht]
              refine ⟨⟨by show (0 : Int) ≤ 0 + (i : Int); omega, by show 0 + (i : Int) < _; omega, n0, ?_, hd.1, hd.2⟩, by show 0 + (i : Int) < _; omega⟩
              show n < cs.getD (0 + (i : Int)).toNat 0
              rw [Int.zero_add, Int.toNat_natCast]
              exact n1
          · rw [List.map_append, List.pairwise_append]
            refine ⟨hU, List.pairwise_singleton _ _, fun x hx y hy => ?_⟩
            obtain ⟨t, ht, rfl⟩ := List.mem_map.mp hx
            rw [List.mem_singleton.mp hy]
            have := (hG t ht).2
            show t.1 < 0 + (i : Int)
            omega
          · rw [List.length_append]
            show fg.length + 1 ≤ i + 1
            omega
      · exact ⟨_, xs, fg, rfl, hB5, off4.trans off5, hD5, hA.mono fun _ _ => TriAt.ts ts5, fun t ht => ⟨(hG t ht).1, by have := (hG t ht).2; omega⟩, hU, by omega⟩
    · rintro σ H' ⟨y3, xs, fg, rfl, hB4, off4, hD, hA, hG, hU, hl⟩
      refine ⟨fun σ' H2 => ∃ (y3 : Option V) (xs : List V) (fg : List Tri), σ' = [some (.ref b), some (.ref p), some (.ref D), y3] ∧ Bag H2 b c ∧ Off b H H2 ∧ H2 D = some (.lst xs) ∧ All2 (TriAt K H2) xs fg ∧ GoodF cs fg, ?_, ?_⟩
      · refine ⟨.ref D, rfl, Nat.zero_le _, fun e ne => ?_⟩
        have u1 := same_upd (o := .lst []) ne
        obtain ⟨ds, hds, hsh, hev⟩ : ∃ ds : List PyData, DpAll K (upd H' e (.lst [])) xs ds ∧ SeqAt.shaped (.list ds) = true ∧ PyData.eqv (.list ds) (.list []) = decide (fg = []) := tri_data (hA.mono fun _ _ => TriAt.ts (TS.of u1))
        refine ⟨.list ds, .list [], .lst (SqL.of (u1 _ _ hD)) hds, .lst (SqL.of upd_same) .nil, hsh, by decide, ?_⟩
        rw [hev]
        refine ⟨_, rfl, ite2 (fun e => ?_) (fun e => ?_)⟩
        · have hfg : fg = [] := of_decide_eq_true e
          subst hfg
          have hxs : xs = [] := List.eq_nil_of_length_eq_zero hA.len
          subst hxs
          have hB5 := hB4.same u1
          have hD5 := u1 _ _ hD
          have off5 := off4.trans (Off.same u1)
          generalize upd H' _ (.lst []) = H5 at hB5 hD5 off5 ⊢
          have hp5 := off5 _ _ hpb hp
          refine ⟨.ref b, rfl, .ref p, rfl, p, _, rfl, .inl (SqL.of hp5), b, c, _, rfl, hB5, by rw [List.length_map]; omega, ?_, fun H6 r off6 hB6 r0 r1 => ?_⟩
          · rw [Int.natAbs_natCast, List.length_map]
            exact Nat.lt_of_le_of_lt h6 (by decide)
          rw [List.length_map] at r1
          obtain ⟨i, rfl⟩ := Int.eq_ofNat_of_zero_le r0
          have hi : i < cs.length := by omega
          have hci := cs_in hi hcs
          have hp6 := off6 _ _ hpb hp5
          have hD6 := off6 _ _ hne.1 hD5
          refine ⟨.ref D, rfl, .inl ⟨rfl, _, SqL.of hD6⟩, .int (i : Nat), rfl, ?_⟩
          refine ⟨.ref b, rfl, .ref p, rfl, .int (i : Nat), rfl, p, _, (i : Int), .int (cs.getD i 0), rfl, rfl, SqL.of hp6, cs_at hi, ?_⟩
          refine ⟨b, c, cs.getD i 0, rfl, hB6, by omega, ?_, fun H7 n off7 hB7 n0 n1 => ?_⟩
          · have : (cs.getD i 0).natAbs ≤ 4 := by omega
            exact Nat.lt_of_le_of_lt this (by decide)
          refine ⟨.ref b, rfl, b, c, 3, rfl, hB7, by decide, by decide, fun H8 d off8 hB8 d0 d1 => ⟨1, d, rfl, rfl, (show (3 : Nat) ≤ sizeLine by decide), fun tt ntt => ?_⟩⟩
          have u2 := same_upd (o := .tup [V.int (i : Int), V.int n, V.int (1 + d)]) ntt
          have hD8 := u2 _ _ (off8 _ _ hne.1 (off7 _ _ hne.1 hD6))
          refine ⟨D, _, _, rfl, rfl, hD8, by decide, ?_⟩
          refine ⟨_, [.ref tt], [((i : Int), n, 1 + d)], rfl, (hB8.same u2).upd hne, (((off5.trans off6).trans off7).trans (off8.trans (Off.same u2))).new nD, upd_same, ⟨⟨tt, rfl, TS.upd hD8 _ _ (SqT.of upd_same)⟩, True.intro⟩, ⟨List.cons_ne_nil _ _, fun t ht => ?_, List.pairwise_singleton _ _⟩⟩
          rw [List.mem_singleton.mp ht]
          refine ⟨by show (0 : Int) ≤ (i : Int); omega, by show (i : Int) < _; omega, n0, ?_, by show (1 : Int) ≤ 1 + d; omega, by show 1 + d ≤ (3 : Int); omega⟩
          show n < cs.getD (i : Int).toNat 0
          rw [Int.toNat_natCast]
          exact n1
        · exact ⟨_, xs, fg, rfl, hB4.same u1, off4.trans (Off.same u1), u1 _ _ hD, hA.mono fun _ _ => TriAt.ts (TS.of u1), ⟨fun z => e (decide_eq_true z), fun t ht => (hG t ht).1, hU⟩⟩
      · rintro σ' H2 ⟨y3, xs, fg, rfl, hB5, off5, hD5, hA5, hG5⟩
        refine ⟨.ref D, rfl, D, _, rfl, .inl (SqL.of hD5), fun l H6 s6 hl6 => ?_⟩
        exact q H6 _ fg (off5.trans (Off.same s6)) (hB5.same s6) ⟨l, xs, rfl, hl6, hA5.mono fun _ _ => TriAt.ts (TS.of s6)⟩ hG5
end
/-! ### who bars whom: the mathematics -/
/-- the note that a figure wants on a pad (of two the later) -/
def noteOf (f : List Tri) (p : Int) : Option Int := f.foldl (fun acc t => if p = t.1 then some t.2.1 else acc) none
theorem noteOf_go (p : Int) : ∀ (f : List Tri) (acc : Option Int), f.foldl (fun acc t => if p = t.1 then some t.2.1 else acc) acc = (noteOf f p).or acc
  | [], acc => by simp [noteOf]
  | t :: r, acc => by
    unfold noteOf
    rw [List.foldl_cons, List.foldl_cons, noteOf_go p r, noteOf_go p r (if p = t.1 then some t.2.1 else none)]
    by_cases h : p = t.1
    · rw [if_pos h, if_pos h]
      cases noteOf r p <;> rfl
    · rw [if_neg h, if_neg h]
      cases noteOf r p <;> rfl
theorem noteOf_cons (t : Tri) (r : List Tri) (p : Int) : noteOf (t :: r) p = (noteOf r p).or (if p = t.1 then some t.2.1 else none) := by
  show List.foldl _ _ (t :: r) = _
  rw [List.foldl_cons, noteOf_go]
theorem noteOf_snoc (f : List Tri) (t : Tri) (p : Int) : noteOf (f ++ [t]) p = if p = t.1 then some t.2.1 else noteOf f p := by
  unfold noteOf
  rw [List.foldl_append]
  rfl
theorem noteOf_some {f : List Tri} {p n : Int} (h : noteOf f p = some n) : ∃ t ∈ f, t.1 = p ∧ t.2.1 = n := by
  induction f with
  | nil => cases h
  | cons t r ih =>
    rw [noteOf_cons] at h
    cases e : noteOf r p with
    | some m =>
      rw [e] at h
      have : m = n := Option.some.inj h
      subst this
      obtain ⟨u, hu, h1, h2⟩ := ih e
      exact ⟨u, List.mem_cons_of_mem _ hu, h1, h2⟩
    | none =>
      rw [e] at h
      by_cases hp : p = t.1
      · rw [if_pos hp] at h
        exact ⟨t, List.mem_cons_self, hp.symm, Option.some.inj h⟩
      · rw [if_neg hp] at h
        cases h
theorem noteOf_none {f : List Tri} {p : Int} (h : noteOf f p = none) : ∀ t ∈ f, t.1 ≠ p := by
  induction f with
  | nil => intro t ht; cases ht
  | cons t r ih =>
    rw [noteOf_cons] at h
    cases e : noteOf r p with
    | some m => rw [e] at h; cases h
    | none =>
      rw [e] at h
      by_cases hp : p = t.1
      · rw [if_pos hp] at h
        cases h
      · intro u hu
        rcases List.mem_cons.mp hu with rfl | hu
        · exact fun z => hp z.symm
        · exact ih e u hu
theorem up_inj {f : List Tri} (h : (f.map (·.1)).Pairwise (· < ·)) {t u : Tri} (ht : t ∈ f) (hu : u ∈ f) (e : t.1 = u.1) : t = u := by
  induction f with
  | nil => cases ht
  | cons x r ih =>
    rw [List.map_cons, List.pairwise_cons] at h
    rcases List.mem_cons.mp ht with h1 | h1 <;> rcases List.mem_cons.mp hu with h2 | h2
    · rw [h1, h2]
    · have := h.1 u.1 (List.mem_map.mpr ⟨u, h2, rfl⟩)
      rw [h1] at e
      omega
    · have := h.1 t.1 (List.mem_map.mpr ⟨t, h1, rfl⟩)
      rw [h2] at e
      omega
    · exact ih h.2 h1 h2
def meetB (f g : List Tri) : Bool := f.any fun t => g.any fun u => decide (u.1 = t.1)
def barB (f g : List Tri) : Bool := g.any fun u => !decide ((noteOf f u.1).getD u.2.1 = u.2.1)
theorem meetB_iff {f g : List Tri} : meetB f g = true ↔ ∃ t ∈ f, ∃ u ∈ g, u.1 = t.1 := by
  unfold meetB
  simp only [List.any_eq_true, decide_eq_true_eq]
theorem meetB_comm (f g : List Tri) : meetB f g = meetB g f := by
  rw [Bool.eq_iff_iff, meetB_iff, meetB_iff]
  constructor
  · rintro ⟨t, ht, u, hu, e⟩
    exact ⟨u, hu, t, ht, e.symm⟩
  · rintro ⟨t, ht, u, hu, e⟩
    exact ⟨u, hu, t, ht, e.symm⟩
theorem barB_iff {f g : List Tri} (hf : (f.map (·.1)).Pairwise (· < ·)) : barB f g = true ↔ ∃ t ∈ f, ∃ u ∈ g, u.1 = t.1 ∧ u.2.1 ≠ t.2.1 := by
  unfold barB
  rw [List.any_eq_true]
  constructor
  · rintro ⟨u, hu, h⟩
    cases e : noteOf f u.1 with
    | none => rw [e] at h; simp at h
    | some n =>
      rw [e] at h
      obtain ⟨t, ht, h1, h2⟩ := noteOf_some e
      refine ⟨t, ht, u, hu, h1.symm, fun z => ?_⟩
      simp only [Option.getD_some, Bool.not_eq_true', decide_eq_false_iff_not] at h
      exact h (by rw [← h2, z])
  · rintro ⟨t, ht, u, hu, h1, h2⟩
    refine ⟨u, hu, ?_⟩
    cases e : noteOf f u.1 with
    | none => exact absurd h1.symm (noteOf_none e t ht)
    | some n =>
      obtain ⟨t', ht', h1', h2'⟩ := noteOf_some e
      have := up_inj hf ht ht' (by rw [h1', h1])
      subst this
      simp only [Option.getD_some, Bool.not_eq_true', decide_eq_false_iff_not]
      rw [← h2']
      exact fun z => h2 z.symm
theorem barB_comm {f g : List Tri} (hf : (f.map (·.1)).Pairwise (· < ·)) (hg : (g.map (·.1)).Pairwise (· < ·)) : barB f g = barB g f := by
  rw [Bool.eq_iff_iff, barB_iff hf, barB_iff hg]
  constructor
  · rintro ⟨t, ht, u, hu, e, n⟩
    exact ⟨u, hu, t, ht, e.symm, fun z => n z.symm⟩
  · rintro ⟨t, ht, u, hu, e, n⟩
    exact ⟨u, hu, t, ht, e.symm, fun z => n z.symm⟩
/-- the others' triples on the first one's pads -/
def commonOf (f g : List Tri) : List Tri := g.filter fun u => (noteOf f u.1).isSome
theorem commonOf_nil {f g : List Tri} : commonOf f g = [] ↔ meetB f g = false := by
  rw [← Bool.not_eq_true, meetB_iff]
  unfold commonOf
  rw [List.filter_eq_nil_iff]
  constructor
  · rintro h ⟨t, ht, u, hu, e⟩
    refine h u hu ?_
    cases e2 : noteOf f u.1 with
    | none => exact absurd e.symm (noteOf_none e2 t ht)
    | some n => rfl
  · intro h u hu e
    cases e2 : noteOf f u.1 with
    | none => rw [e2] at e; cases e
    | some n =>
      obtain ⟨t, ht, h1, _⟩ := noteOf_some e2
      exact h ⟨t, ht, u, hu, h1.symm⟩
theorem common_bar (f g : List Tri) : ((commonOf f g).any fun u => !decide ((noteOf f u.1).getD u.2.1 = u.2.1)) = barB f g := by
  unfold commonOf barB
  rw [List.any_filter]
  congr 1
  funext u
  cases noteOf f u.1 with
  | none => simp
  | some n => simp
/-- two figures of a book: apart, or barring one another -/
def okB (f g : List Tri) : Bool := !meetB f g || barB f g
/-- the figures of a book -/
structure GoodB (cs : List Int) (fs : List (List Tri)) : Prop where
  all : ∀ f ∈ fs, GoodF cs f
  two : fs.Pairwise fun g f => okB f g = true
theorem GoodB.pair {cs : List Int} {fs : List (List Tri)} (h : GoodB cs fs) {i j : Nat} {f g : List Tri} (hij : i < j) (hf : fs[i]? = some f) (hg : fs[j]? = some g) : meetB f g = true → barB f g = true := by
  intro hm
  obtain ⟨hi, rfl⟩ := List.getElem?_eq_some_iff.mp hf
  obtain ⟨hj, rfl⟩ := List.getElem?_eq_some_iff.mp hg
  have h2 := List.pairwise_iff_getElem.mp h.two i j hi hj hij
  unfold okB at h2
  rw [meetB_comm, hm] at h2
  rw [barB_comm (h.all _ (List.getElem_mem hi)).up (h.all _ (List.getElem_mem hj)).up]
  exact h2
/-- a figure's pads and notes as a dict -/
def kvsOf (f : List Tri) : List (Key × V) := f.map fun t => (Sum.inl t.1, V.int t.2.1)
theorem val_merge (p : Int) : ∀ (f : List Tri) (acc : List (Key × V)), valV (mergeK acc (kvsOf f)) (Sum.inl p) = ((noteOf f p).map V.int).or (valV acc (Sum.inl p))
  | [], acc => rfl
  | t :: r, acc => by
    have e : mergeK acc (kvsOf (t :: r)) = mergeK (putK acc (Sum.inl t.1) (.int t.2.1)) (kvsOf r) := rfl
    rw [e, val_merge p r, valV_put, noteOf_cons]
    by_cases h : p = t.1
    · rw [if_pos h, if_pos (by rw [h])]
      cases noteOf r p <;> rfl
    · rw [if_neg h, if_neg (fun z => h (Sum.inl.inj z))]
      cases noteOf r p <;> simp
theorem val_fig (f : List Tri) (p : Int) : valV (mergeK [] (kvsOf f)) (Sum.inl p) = (noteOf f p).map V.int := by
  rw [val_merge]
  cases noteOf f p <;> rfl
theorem merge_snoc (f : List Tri) (t : Tri) : mergeK [] (kvsOf (f ++ [t])) = putK (mergeK [] (kvsOf f)) (Sum.inl t.1) (.int t.2.1) := by
  unfold mergeK kvsOf
  rw [List.map_append, List.foldl_append]
  rfl
theorem putK_len' (c : List (Key × V)) (k : Key) (x : V) : (putK c k x).length ≤ c.length + 1 := by
  unfold putK
  split
  · rw [List.length_map]
    omega
  · rw [List.length_append]
    exact Nat.le_refl _
theorem merge_len (f : List Tri) : (mergeK [] (kvsOf f)).length ≤ f.length := by
  have h : ∀ (f : List Tri) (acc : List (Key × V)), (mergeK acc (kvsOf f)).length ≤ acc.length + f.length := fun f => by
    induction f with
    | nil => intro acc; exact Nat.le_refl _
    | cons t r ih =>
      intro acc
      have e : mergeK acc (kvsOf (t :: r)) = mergeK (putK acc (Sum.inl t.1) (.int t.2.1)) (kvsOf r) := rfl
      have h1 := ih (putK acc (Sum.inl t.1) (.int t.2.1))
      have h2 := putK_len' acc (Sum.inl t.1) (.int t.2.1)
      rw [e, List.length_cons]
      omega
  have := h f []
  rw [List.length_nil, Nat.zero_add] at this
  exact this
/-! ### sets of pads as numbers: the mathematics -/
theorem pow_dvd_sum (p : Nat) : ∀ (l : List Nat), (∀ x ∈ l, p < x) → 2 ^ (p + 1) ∣ (l.map (2 ^ ·)).sum
  | [], _ => ⟨0, rfl⟩
  | x :: l, h => by
    rw [List.map_cons, List.sum_cons]
    exact Nat.dvd_add (Nat.pow_dvd_pow 2 (h x List.mem_cons_self)) (pow_dvd_sum p l fun y hy => h y (List.mem_cons_of_mem _ hy))
theorem sum_bits : ∀ {l : List Nat}, l.Pairwise (· < ·) → ∀ i, (l.map (2 ^ ·)).sum.testBit i = decide (i ∈ l)
  | [], _, i => by simp
  | p :: l, h, i => by
    have h2 := List.pairwise_cons.mp h
    obtain ⟨m, hm⟩ := pow_dvd_sum p l h2.1
    have ih := sum_bits h2.2 i
    have e : ((p :: l).map (2 ^ ·)).sum = 2 ^ (p + 1) * m ||| 2 ^ p := by
      rw [List.map_cons, List.sum_cons, hm, Nat.add_comm]
      exact Nat.two_pow_add_eq_or_of_lt (Nat.pow_lt_pow_right (by decide) (Nat.lt_succ_self p)) m
    rw [e, Nat.testBit_or, ← hm, ih, Nat.testBit_two_pow]
    by_cases z : p = i
    · subst z; simp
    · simp [z, Ne.symm z]
theorem and_bits {a b : List Nat} (ha : a.Pairwise (· < ·)) (hb : b.Pairwise (· < ·)) : ((a.map (2 ^ ·)).sum &&& (b.map (2 ^ ·)).sum) ≠ 0 ↔ ∃ i, i ∈ a ∧ i ∈ b := by
  constructor
  · intro h
    obtain ⟨i, hi⟩ := Nat.exists_testBit_of_ne_zero h
    rw [Nat.testBit_and, sum_bits ha, sum_bits hb, Bool.and_eq_true, decide_eq_true_eq, decide_eq_true_eq] at hi
    exact ⟨i, hi⟩
  · rintro ⟨i, h1, h2⟩ z
    have := congrArg (fun x => Nat.testBit x i) z
    simp only [Nat.testBit_and, sum_bits ha, sum_bits hb, Nat.zero_testBit, h1, h2] at this
    simp at this
/-- the set of a figure's pads as a number -/
def maskN (f : List Tri) : Nat := (f.map fun t => 2 ^ t.1.toNat).sum
/-- pads that rise, none below nought -/
structure PadsUp (f : List Tri) : Prop where
  up : (f.map (·.1)).Pairwise (· < ·)
  lo : ∀ t ∈ f, 0 ≤ t.1
  hi : ∀ t ∈ f, t.1 ≤ 1000
theorem GoodF.padsUp {cs : List Int} {f : List Tri} (h : GoodF cs f) (h6 : cs.length ≤ 6) : PadsUp f := ⟨h.up, fun t ht => (h.all t ht).p0, fun t ht => by have := (h.all t ht).p1; omega⟩
theorem pads_nat {f : List Tri} (h : PadsUp f) : (f.map fun t => t.1.toNat).Pairwise (· < ·) := by
  have h1 := h.up
  have h2 := h.lo
  clear h
  induction f with
  | nil => exact List.Pairwise.nil
  | cons t r ih =>
    rw [List.map_cons, List.pairwise_cons] at h1 ⊢
    refine ⟨fun x hx => ?_, ih h1.2 fun u hu => h2 u (List.mem_cons_of_mem _ hu)⟩
    obtain ⟨u, hu, rfl⟩ := List.mem_map.mp hx
    have a1 := h1.1 u.1 (List.mem_map.mpr ⟨u, hu, rfl⟩)
    have a2 := h2 t List.mem_cons_self
    have a3 := h2 u (List.mem_cons_of_mem _ hu)
    omega
theorem mask_bits {f g : List Tri} (hf : PadsUp f) (hg : PadsUp g) : (maskN f &&& maskN g) ≠ 0 ↔ meetB f g = true := by
  have e : ∀ f : List Tri, maskN f = ((f.map fun t => t.1.toNat).map (2 ^ ·)).sum := fun f => by
    unfold maskN
    rw [List.map_map]
    rfl
  rw [e f, e g, and_bits (pads_nat hf) (pads_nat hg), meetB_iff]
  constructor
  · rintro ⟨i, h1, h2⟩
    obtain ⟨t, ht, e1⟩ := List.mem_map.mp h1
    obtain ⟨u, hu, e2⟩ := List.mem_map.mp h2
    have a2 := hf.lo t ht
    have a3 := hg.lo u hu
    exact ⟨t, ht, u, hu, by omega⟩
  · rintro ⟨t, ht, u, hu, e1⟩
    exact ⟨t.1.toNat, List.mem_map.mpr ⟨t, ht, rfl⟩, List.mem_map.mpr ⟨u, hu, by rw [e1]⟩⟩
/-- as the program asks: one & other != 0 -/
theorem mask_test {f g : List Tri} (hf : PadsUp f) (hg : PadsUp g) : (!decide (V.int (Builtin.bitAnd (maskN f : Nat) (maskN g : Nat)) = V.int 0)) = meetB f g := by
  rw [bitAnd_pp (by omega) (by omega), Int.toNat_natCast, Int.toNat_natCast]
  have := mask_bits hf hg
  cases e : meetB f g with
  | true =>
    rw [e] at this
    have h := this.mpr rfl
    rw [decide_eq_false (fun z => h (by have := V.int.inj z; omega))]
    rfl
  | false =>
    rw [e] at this
    have h : (maskN f &&& maskN g) = 0 := Classical.byContradiction fun z => by cases this.mp z
    rw [h]
    rfl
/-! ### _law_bars -/
abbrev sBars : Stmt := topS 35
abbrev nBars : List Str := ["_law_one", "_law_other", "_law_mine", "_law_common", "_law_pad", "_law_note", "_law_depth"]
theorem scBars : FnScope nBars ["_law_one", "_law_other"] (defScope sBars) := ⟨rfl, rfl, rfl, by decide +kernel, rfl, by decide +kernel, by decide +kernel⟩
def spBars (K : PySem.W.Frag) : Sp := fun vs H Q _ => ∃ (v u : V) (f g : List Tri), vs = [v, u] ∧ FigT K H v f ∧ FigT K H u g ∧ f.length ≤ 100 ∧ g.length ≤ 100 ∧ ∀ H', Same H H' → Q (.bl (okB f g)) H'
abbrev g3 (K : PySem.W.Frag) (i j k : Nat) : TG := gTup K 3 (gCons (gName i) (gCons (gName j) (gCons (gName k) gNil)))
abbrev g2 (K : PySem.W.Frag) (i j : Nat) : TG := gTup K 2 (gCons (gName i) (gCons (gName j) gNil))
def pairV (t : Tri) : List V := [.int t.1, .int t.2.1]
def PairAt (K : PySem.W.Frag) (H : Hp) (v : V) (t : Tri) : Prop := ∃ a, v = .ref a ∧ SqT K H a (pairV t)
theorem PairAt.ts {K : PySem.W.Frag} {H H' : Hp} (e : TS K H H') {v : V} {t : Tri} (h : PairAt K H v t) : PairAt K H' v t := by
  obtain ⟨a, h1, h2⟩ := h
  exact ⟨a, h1, e _ _ h2⟩
theorem pair_paired {K : PySem.W.Frag} {H : Hp} : ∀ {xs : List V} {f : List Tri}, All2 (PairAt K H) xs f → ∃ ps : List Addr, xs = ps.map V.ref ∧ Paired (fun p kv => SqT K H p [kV kv.1, kv.2]) ps (kvsOf f)
  | [], [], _ => ⟨[], rfl, .nil⟩
  | x :: xs, t :: f, h => by
    obtain ⟨a, rfl, ha⟩ := h.1
    obtain ⟨ps, e, hp⟩ := pair_paired h.2
    exact ⟨a :: ps, by rw [e]; rfl, .cons ha hp⟩
  | [], _ :: _, h => h.elim
  | _ :: _, [], h => h.elim
theorem pair_data {K : PySem.W.Frag} {H : Hp} : ∀ {xs : List V} {fg : List Tri}, All2 (PairAt K H) xs fg → ∃ ds : List PyData, DpAll K H xs ds ∧ SeqAt.shaped (.list ds) = true ∧ PyData.eqv (.list ds) (.list []) = decide (fg = []) := by
  intro xs fg h
  refine ⟨fg.map fun t => .tuple [.int t.1, .int t.2.1], ?_, ?_, ?_⟩
  · induction fg generalizing xs with
    | nil =>
      cases xs with
      | nil => exact .nil
      | cons _ _ => exact h.elim
    | cons t r ih =>
      cases xs with
      | nil => exact h.elim
      | cons x l =>
        obtain ⟨a, e, ha⟩ := h.1
        subst e
        exact .cons (.tup ha (.cons (.int _) (.cons (.int _) .nil))) (ih h.2)
  · have h1 : ∀ l : List Tri, PyData.canLayAll0 (l.map fun t => .tuple [.int t.1, .int t.2.1]) = true := fun l => by
      induction l with
      | nil => rfl
      | cons t r ih => simp [PyData.canLayAll0, PyData.canLay0, ih]
    have h2 : ∀ l : List Tri, PyData.depthAll (l.map fun t => .tuple [.int t.1, .int t.2.1]) ≤ 1 := fun l => by
      induction l with
      | nil => simp [PyData.depthAll]
      | cons t r ih =>
        simp only [List.map_cons, PyData.depthAll, PyData.depth]
        omega
    have h3 := h1 fg
    have h4 := h2 fg
    have h5 : PyData.depth (.list (fg.map fun t => .tuple [.int t.1, .int t.2.1])) ≤ 64 := by
      simp only [PyData.depth]
      omega
    show (PyData.canLay0 _ && decide (PyData.depth _ ≤ 64)) = true
    rw [Bool.and_eq_true]
    exact ⟨by simp only [PyData.canLay0]; exact h3, decide_eq_true h5⟩
  · cases fg with
    | nil => simp [PyData.eqv, PyData.eqvAll]
    | cons _ _ => simp [PyData.eqv, PyData.eqvAll]
theorem take_snoc {α : Type} {l : List α} {i : Nat} {a : α} (h : l[i]? = some a) : l.take (i + 1) = l.take i ++ [a] := by
  rw [List.take_add_one, h]
  rfl
section
variable {P : Program} {w : World} {K : PySem.W.Frag} {mg : Str → Option Value} {base : Heap}
theorem ok_bars {f : Addr} {fd : FuncData} {k : Nat} (F : Fun K "_law_bars" "_law_bars" sBars f fd) (md : mg "dict" = none) (ma : mg "any" = none) : FnOk P w K mg base CX0 (k + 1) f fd ["_law_one", "_law_other"] (spBars K) := by
  refine F.ok scBars (fun vs H Q E h => ?_) (fun cdv A outer s H vs Q E hr h => ?_)
  · obtain ⟨v, u, f, g, rfl, _⟩ := h
    rfl
  · obtain ⟨v, u, f, g, rfl, hV, hU, hfl, hgl, q⟩ := h
    obtain ⟨a, xs, rfl, ha, hxs⟩ := hV
    obtain ⟨b, ys, rfl, hb, hys⟩ := hU
    refine ⟨_, pss_cons (ps_set (i := 2) scBars.nd rfl (.inr rfl) (pe_callTy (call_dictP rfl) (by rfl) md (by decide +kernel) (pa_cons (pe_lc (own := [("_law_pad", 4), ("_law_note", 5), ("_law_depth", 6)]) (g := g3 K 4 5 6) (tt := tYes) rfl scBars.nd (pi_tup (pv 0))
        (blkOk_by (own := [("_law_pad", 4), ("_law_note", 5), ("_law_depth", 6)]) (N := nBars) (sc := defScope sBars) (by decide +kernel))
        (fun _ _ _ _ _ => pg_tup rfl (pgs_cons (pg_name (i := 4) scBars.nd rfl (.inl rfl)) (pgs_cons (pg_name (i := 5) scBars.nd rfl (.inl rfl)) (pgs_cons (pg_name (i := 6) scBars.nd rfl (.inl rfl)) pgs_nil)))) (fun _ _ _ _ _ => pts_nil)
        (fun _ _ _ _ _ => pe_tup (pa_cons (pv 4) (pa_cons (pv 5) pa_nil)))) pa_nil)))
      (pss_cons (ps_setLc (i := 3) (own := [("_law_pad", 4), ("_law_note", 5), ("_law_depth", 6)]) (g := g3 K 4 5 6) rfl scBars.nd rfl rfl (sw_true rfl rfl rfl (by decide +kernel)) (pi_tup (pv 1))
        (blkOk_by (own := [("_law_pad", 4), ("_law_note", 5), ("_law_depth", 6)]) (N := nBars) (sc := defScope sBars) (by decide +kernel))
        (fun _ _ _ _ _ => pg_tup rfl (pgs_cons (pg_name (i := 4) scBars.nd rfl (.inl rfl)) (pgs_cons (pg_name (i := 5) scBars.nd rfl (.inl rfl)) (pgs_cons (pg_name (i := 6) scBars.nd rfl (.inl rfl)) pgs_nil))))
        (fun _ _ _ _ _ => pts_one (pt_cmp (pc_din (hu_of hr) (pv 4) (pv 2)))) (fun _ _ _ _ _ => pe_tup (pa_cons (pv 4) (pa_cons (pv 5) pa_nil))))
      (pss_one (ps_ret (pe_or (pe_cmpR (op_eqD hr.units) (pv 3) (pe_lst pa_nil) (nomark _)) (pe_one (pe_callB (cr_any rfl) (by rfl) ma (by decide +kernel) (pa_cons (pe_lc (own := [("_law_pad", 4), ("_law_note", 5)]) (g := g2 K 4 5) (tt := tYes) rfl scBars.nd (pi_list (pv 3))
        (blkOk_by (own := [("_law_pad", 4), ("_law_note", 5)]) (N := nBars) (sc := defScope sBars) (by decide +kernel))
        (fun _ _ _ _ _ => pg_tup rfl (pgs_cons (pg_name (i := 4) scBars.nd rfl (.inl rfl)) (pgs_cons (pg_name (i := 5) scBars.nd rfl (.inl rfl)) pgs_nil))) (fun _ _ _ _ _ => pts_nil)
        (fun _ _ _ _ _ => pe_cmpR op_ne (pe_dget (hu_of hr) (pv 2) (pv 4) (fun _ _ => rfl)) (pv 5) (nomark _))) pa_nil))))))), ?_⟩
    -- mine
    refine ⟨.ref a, rfl, a, rfl, ⟨_, ha⟩, fun D nD => ?_⟩
    refine lc_tup (K := K) (a := a) (xs := xs) (fun i H' => Same H H' ∧ ∃ zs, H' D = some (.lst zs) ∧ All2 (PairAt K H') zs (f.take i)) ⟨same_upd nD, [], upd_same, True.intro⟩ (fun i H' _ hP => Same.tup hP.1 ha) (fun i x H' hx hP => ?_) (fun H1 hP => ?_)
    · obtain ⟨sm, zs, hD, hz⟩ := hP
      obtain ⟨t, ht, tp, rfl, htp⟩ := hxs.get hx
      refine ⟨tp, triV t, rfl, Same.tup sm htp, rfl, _, _, rfl, _, _, rfl, _, _, rfl, rfl, rfl, yesT ⟨_, rfl, _, rfl, (show (2 : Nat) ≤ sizeLine by decide), fun n nn => ?_⟩⟩
      have u1 := same_upd (o := .tup [V.int t.1, V.int t.2.1]) nn
      have hD1 := u1 _ _ hD
      refine ⟨_, hD1, ?_, Same.offUpd (sm.trans u1) nD, zs ++ [.ref n], upd_same, ?_⟩
      · rw [hz.len, List.length_take]
        exact small1000 (by omega)
      · rw [take_snoc ht]
        exact All2.snoc ⟨n, rfl, TS.upd hD1 _ _ (SqT.of upd_same)⟩ (hz.mono fun _ _ => PairAt.ts ((TS.of u1).trans (TS.upd hD1)))
    · obtain ⟨sm1, zs, hD, hz⟩ := hP
      rw [List.take_of_length_le (by rw [hxs.len]; exact Nat.le_refl _)] at hz
      obtain ⟨ps, rfl, hpp⟩ := pair_paired hz
      refine ⟨D, ps, kvsOf f, rfl, SqL.of hD, hpp, fun d nd => ?_⟩
      have u1 := same_upd (o := .dK (mergeK [] (kvsOf f))) nd
      have s1 := sm1.trans u1
      have hd : (upd H1 d (.dK (mergeK [] (kvsOf f)))) d = some (.dK (mergeK [] (kvsOf f))) := upd_same
      generalize upd H1 d (.dK (mergeK [] (kvsOf f))) = H2 at s1 hd ⊢
      -- common
      refine ⟨.ref b, rfl, b, rfl, ⟨_, Same.tup s1 hb⟩, fun D2 nD2 => ?_⟩
      refine lc_tup (K := K) (a := b) (xs := ys) (fun i H' => Same H2 H' ∧ ∃ zs, H' D2 = some (.lst zs) ∧ All2 (PairAt K H') zs (commonOf f (g.take i))) ⟨same_upd nD2, [], upd_same, True.intro⟩ (fun i H' _ hP => Same.tup (s1.trans hP.1) hb) (fun i x H' hx hP => ?_) (fun H3 hP => ?_)
      · obtain ⟨sm, zs, hD2, hz⟩ := hP
        obtain ⟨t, ht, tp, rfl, htp⟩ := hys.get hx
        have hl : zs.length ≤ 100 := by
          rw [hz.len]
          have := List.length_filter_le (fun u : Tri => (noteOf f u.1).isSome) (g.take i)
          rw [List.length_take] at this
          exact Nat.le_trans this (by omega)
        refine ⟨tp, triV t, rfl, Same.tup (s1.trans sm) htp, rfl, _, _, rfl, _, _, rfl, _, _, rfl, rfl, rfl, ?_⟩
        refine ⟨_, rfl, _, rfl, d, _, rfl, DGet.k (k := Sum.inl t.1) (sm _ _ hd), _, rfl, ?_⟩
        rw [val_fig]
        have cm : commonOf f (g.take (i + 1)) = commonOf f (g.take i) ++ (if (noteOf f t.1).isSome = true then [t] else []) := by
          rw [take_snoc ht]
          unfold commonOf
          rw [List.filter_append]
          congr 1
          simp only [List.filter_cons, List.filter_nil]
        cases e : noteOf f t.1 with
        | none =>
          refine iteF ⟨sm, zs, hD2, ?_⟩
          rw [cm, e, if_neg (by simp), List.append_nil]
          exact hz
        | some n0 =>
          refine iteT ⟨_, rfl, _, rfl, (show (2 : Nat) ≤ sizeLine by decide), fun n nn => ?_⟩
          have u1 := same_upd (o := .tup [V.int t.1, V.int t.2.1]) nn
          have hD1 := u1 _ _ hD2
          refine ⟨_, hD1, small1000 (by omega), Same.offUpd (sm.trans u1) nD2, zs ++ [.ref n], upd_same, ?_⟩
          rw [cm, e, if_pos (by simp)]
          exact All2.snoc ⟨n, rfl, TS.upd hD1 _ _ (SqT.of upd_same)⟩ (hz.mono fun _ _ => PairAt.ts ((TS.of u1).trans (TS.upd hD1)))
      · obtain ⟨sm2, zs, hD2, hz⟩ := hP
        rw [List.take_of_length_le (by rw [hys.len]; exact Nat.le_refl _)] at hz
        have s2 := s1.trans sm2
        have hd3 := sm2 _ _ hd
        refine ⟨.ref D2, rfl, Nat.zero_le _, fun e ne => ?_⟩
        have u1 := same_upd (o := .lst []) ne
        obtain ⟨ds, hds, hsh, hev⟩ := pair_data (hz.mono fun _ _ => PairAt.ts (TS.of u1))
        refine ⟨.list ds, .list [], .lst (SqL.of (u1 _ _ hD2)) hds, .lst (SqL.of upd_same) .nil, hsh, by decide, ?_⟩
        rw [hev]
        have s3 := s2.trans u1
        have hd4 := u1 _ _ hd3
        have hD4 := u1 _ _ hD2
        have hz4 := hz.mono fun _ _ => PairAt.ts (TS.of (K := K) u1)
        generalize upd H3 e (.lst []) = H4 at s3 hd4 hD4 hz4 ⊢
        refine ⟨_, rfl, ite2 (fun e => ?_) (fun e => ?_)⟩
        · have e1 := commonOf_nil.mp (of_decide_eq_true e)
          have := q _ s3
          unfold okB at this
          rw [e1] at this
          exact this
        · have e1 : meetB f g = true := by
            cases e2 : meetB f g with
            | true => rfl
            | false => exact absurd (decide_eq_true (commonOf_nil.mpr e2)) e
          refine ⟨.ref D2, rfl, D2, rfl, ⟨_, SqL.of hD4⟩, fun D3 nD3 => ?_⟩
          refine lc_list (K := K) (a := D2) (xs := zs) (fun i H' => Same H4 H' ∧ H' D3 = some (.lst ((((commonOf f g).take i).map fun u => !decide ((noteOf f u.1).getD u.2.1 = u.2.1)).map V.bl))) ⟨same_upd nD3, upd_same⟩ (fun i H' _ hP => SqL.of (hP.1 _ _ hD4)) (fun i x H' hx hP => ?_) (fun H5 hP => ?_)
          · obtain ⟨sm, hD3⟩ := hP
            obtain ⟨t, ht, tp, rfl, htp⟩ := hz4.get hx
            have htm : t ∈ commonOf f g := List.mem_of_getElem? ht
            have hsome := (List.mem_filter.mp htm).2
            obtain ⟨n0, hn0⟩ := Option.isSome_iff_exists.mp hsome
            refine ⟨tp, pairV t, rfl, Same.tup sm htp, rfl, _, _, rfl, _, _, rfl, rfl, rfl, yesT ?_⟩
            refine ⟨_, rfl, _, rfl, d, .int n0, rfl, ?_, _, rfl, rfl, _, hD3, ?_, Same.offUpd sm nD3, ?_⟩
            · have := DGet.k (k := Sum.inl t.1) (sm _ _ hd4)
              rw [val_fig, hn0] at this
              exact this
            · rw [List.length_map, List.length_map, List.length_take]
              have := List.length_filter_le (fun u : Tri => (noteOf f u.1).isSome) g
              have h2 : (commonOf f g).length ≤ g.length := this
              exact small1000 (by omega)
            · rw [upd_same, take_snoc ht, List.map_append, List.map_append]
              have : (!decide (V.int n0 = V.int t.2.1)) = (!decide ((noteOf f t.1).getD t.2.1 = t.2.1)) := by
                rw [hn0, Option.getD_some]
                congr 1
                rw [decide_eq_decide]
                exact ⟨fun z => V.int.inj z, fun z => by rw [z]⟩
              rw [this]
              rfl
          · obtain ⟨sm, hD3⟩ := hP
            rw [hz4.len, List.take_length] at hD3
            refine ⟨D3, _, rfl, SqL.of hD3, ?_⟩
            have := q _ (s3.trans sm)
            unfold okB at this
            rw [e1, ← common_bar] at this
            rw [List.any_map]
            exact this
end
/-! ### _law_shapes -/
abbrev sShapes : Stmt := topS 36
abbrev nShapes : List Str := ["_law_bag_here", "_law_colours", "_law_most", "_law_found", "_law_turn", "_law_one", "_law_other"]
theorem scShapes : FnScope nShapes ["_law_bag_here", "_law_colours", "_law_most"] (defScope sShapes) := ⟨rfl, rfl, rfl, by decide +kernel, rfl, by decide +kernel, by decide +kernel⟩
def spShapes (K : PySem.W.Frag) : Sp := fun vs H Q _ => ∃ (b c p : Addr) (cs : List Int) (most : Nat), vs = [.ref b, .ref p, .int (most : Nat)] ∧ Bag H b c ∧ H p = some (.lst (cs.map V.int)) ∧ p ≠ b ∧ 1 ≤ cs.length ∧ cs.length ≤ 6 ∧ (∀ x ∈ cs, (1 : Int) ≤ x ∧ x ≤ 4) ∧ most ≤ 100 ∧
  ∀ (H' : Hp) (d : Addr) (xs : List V) (fs : List (List Tri)), Off b H H' → Bag H' b c → H d = none → d ≠ b → H' d = some (.lst xs) → All2 (FigT K H') xs fs → GoodB cs fs → fs.length ≤ most → (0 < most → fs ≠ []) → Q (.ref d) H'
section
variable {P : Program} {w : World} {K : PySem.W.Frag} {mg : Str → Option Value} {base : Heap}
theorem ok_shapes {f fS fB : Addr} {fd fdS fdB : FuncData} {k : Nat} (F : Fun K "_law_shapes" "_law_shapes" sShapes f fd) (mr : mg "range" = none) (ma : mg "all" = none)
    (FS : Fun K "_law_shape" "_law_shape" sShape fS fdS) (bS : Binds K fdS ["_law_bag_here", "_law_colours"] []) (gS : mg "_law_shape" = some (.ref fS)) (GS : FnOk P w K mg base CX0 k fS fdS ["_law_bag_here", "_law_colours"] (spShape K))
    (FB : Fun K "_law_bars" "_law_bars" sBars fB fdB) (bB : Binds K fdB ["_law_one", "_law_other"] []) (gB : mg "_law_bars" = some (.ref fB)) (GB : FnOk P w K mg base CX0 k fB fdB ["_law_one", "_law_other"] (spBars K)) :
    FnOk P w K mg base CX0 (k + 1) f fd ["_law_bag_here", "_law_colours", "_law_most"] (spShapes K) := by
  refine F.ok scShapes (fun vs H Q E h => ?_) (fun cdv A outer s H vs Q E hr h => ?_)
  · obtain ⟨b, c, p, cs, most, rfl, _⟩ := h
    rfl
  · obtain ⟨b, c, p, cs, most, rfl, hB, hp, hpb, h1, h6, hcs, hm, q⟩ := h
    refine ⟨_, pss_cons (ps_set (i := 3) scShapes.nd rfl (.inl rfl) (pe_lst pa_nil))
      (pss_cons (ps_for PassesOwn.never rfl (pi_range1 (by rfl) mr (pa_cons (pv 2) pa_nil)) (pg_name (i := 4) scShapes.nd rfl (.inl rfl))
        (pss_cons (ps_set (i := 5) scShapes.nd rfl (.inr rfl) (pe_call GS hr (by rfl) gS FS.kp bS .nil pass0 (pa_cons (pv 0) (pa_cons (pv 1) pa_nil))))
        (pss_one (ps_if (pt_val (pe_callB (cr_all rfl) (by rfl) ma (by decide +kernel) (pa_cons (pe_lc (own := [("_law_other", 6)]) (g := gName 6) (tt := tYes) rfl scShapes.nd (pi_list (pv 3))
            (blkOk_by (own := [("_law_other", 6)]) (N := nShapes) (sc := defScope sShapes) (by decide +kernel)) (fun _ _ _ _ _ => pg_name (i := 6) scShapes.nd rfl (Or.inl rfl)) (fun _ _ _ _ _ => pts_nil)
            (fun _ _ _ _ _ => pe_call GB hr (by rfl) gB FB.kp bB .nil pass0 (pa_cons (pv 5) (pa_cons (pv 6) pa_nil)))) pa_nil)))
          (pss_one (ps_expr (pe_bm PySem.F.plainAttrs_list PySem.F.slot_list_append PySem.F.type_list_append mt_append (pv 3) (pa_cons (pv 5) pa_nil)))) pss_nil))))
      (pss_one (ps_ret (pv 3)))), ?_⟩
    refine ⟨Nat.zero_le _, fun D nD => ?_⟩
    have hne := hB.ne nD
    refine ⟨.int (most : Nat), rfl, (most : Nat), rfl, by omega, by omega, ?_⟩
    rw [Int.toNat_natCast]
    refine for_range (lo := 0) (n := most) (fun i σ H' => ∃ (y4 y5 : Option V) (xs : List V) (fs : List (List Tri)), σ = [some (.ref b), some (.ref p), some (.int (most : Nat)), some (.ref D), y4, y5, none] ∧ Bag H' b c ∧ Off b H H' ∧ H' D = some (.lst xs) ∧ All2 (FigT K H') xs fs ∧ GoodB cs fs ∧ fs.length ≤ i ∧ (0 < i → fs ≠ []))
      ⟨none, none, [], [], rfl, hB.same (same_upd nD), Off.same (same_upd nD), upd_same, True.intro, ⟨fun f hf => (by cases hf), List.Pairwise.nil⟩, Nat.le_refl _, fun z => (by omega)⟩ ?_ ?_
    · rintro i σ H' hi ⟨y4, y5, xs, fs, rfl, hB4, off4, hD, hA, hG, hl, hne0⟩
      refine ⟨.ref b, rfl, .ref p, rfl, b, c, p, cs, rfl, hB4, off4 _ _ hpb hp, hpb, h1, h6, hcs, fun H5 v fg off5 hB5 hV hGf => ?_⟩
      have ts5 : TS K H' H5 := TS.bag off5 hB4
      have hD5 := off5 _ _ hne.1 hD
      have hA5 := hA.mono fun _ _ => FigT.ts ts5
      refine ⟨.ref D, rfl, D, rfl, ⟨_, SqL.of hD5⟩, fun D2 nD2 => ?_⟩
      have hgl := hGf.len
      refine lc_list (K := K) (a := D) (xs := xs) (fun j H' => Same H5 H' ∧ H' D2 = some (.lst (((fs.take j).map fun g => okB fg g).map V.bl))) ⟨same_upd nD2, upd_same⟩ (fun j H' _ hP => SqL.of (hP.1 _ _ hD5)) (fun j x H' hx hP => ?_) (fun H6 hP => ?_)
      · obtain ⟨sm, hD2⟩ := hP
        obtain ⟨g, hg, hgT⟩ := hA5.get hx
        have hgG := hG.all g (List.mem_of_getElem? hg)
        have hgl2 := hgG.len
        refine ⟨rfl, yesT ⟨v, rfl, x, rfl, v, x, fg, g, rfl, hV.ts (TS.of sm), hgT.ts (TS.of sm), by omega, by omega, fun H7 s7 => ?_⟩⟩
        refine ⟨_, s7 _ _ hD2, ?_, Same.offUpd (sm.trans s7) nD2, ?_⟩
        · rw [List.length_map, List.length_map, List.length_take]
          exact small1000 (by omega)
        · rw [upd_same, take_snoc hg, List.map_append, List.map_append]
          rfl
      · obtain ⟨sm, hD2⟩ := hP
        rw [hA5.len, List.take_length] at hD2
        refine ⟨D2, _, rfl, SqL.of hD2, _, rfl, ite2 (fun e => ?_) (fun e => ?_)⟩
        · have hD6 := sm _ _ hD5
          have hA6 := hA5.mono fun _ _ => FigT.ts (TS.of (K := K) sm)
          refine ⟨.ref D, rfl, .inl ⟨rfl, _, SqL.of hD6⟩, v, rfl, D, _, _, rfl, rfl, hD6, ?_, ?_⟩
          · rw [hA6.len]
            exact small1000 (by omega)
          · refine ⟨_, _, xs ++ [v], fs ++ [fg], rfl, (hB5.same sm).upd hne, ((off4.trans off5).trans (Off.same sm)).new nD, upd_same, ?_, ⟨?_, ?_⟩, ?_, fun _ z => by simp at z⟩
            · exact All2.snoc ((hV.ts (TS.of sm)).ts (TS.upd hD6)) (hA6.mono fun _ _ => FigT.ts (TS.upd hD6))
            · intro f hf
              rcases List.mem_append.mp hf with hf | hf
              · exact hG.all f hf
              · rw [List.mem_singleton.mp hf]
                exact hGf
            · rw [List.pairwise_append]
              refine ⟨hG.two, List.pairwise_singleton _ _, fun g hg f hf => ?_⟩
              rw [List.mem_singleton.mp hf]
              rw [List.all_map, List.all_eq_true] at e
              exact e g hg
            · rw [List.length_append]
              show fs.length + 1 ≤ i + 1
              omega
        · refine ⟨_, _, xs, fs, rfl, hB5.same sm, (off4.trans off5).trans (Off.same sm), sm _ _ hD5, hA5.mono fun _ _ => FigT.ts (TS.of sm), hG, by omega, fun _ z => e ?_⟩
          rw [z]
          rfl
    · rintro σ H' ⟨y4, y5, xs, fs, rfl, hB4, off4, hD, hA, hG, hl, hne0⟩
      exact ⟨.ref D, rfl, q H' D xs fs off4 hB4 nD hne.1 hD hA hG hl hne0⟩
end
/-! ### pads_of, mask_of, bar -/
def spPads (K : PySem.W.Frag) : Sp := fun vs H Q _ => ∃ (v : V) (f : List Tri), vs = [v] ∧ FigT K H v f ∧ f.length ≤ 100 ∧ ∀ (H' : Hp) (p : Addr), Same H H' → H p = none → H' p = some (.lst ((f.map (·.1)).map V.int)) → Q (.ref p) H'
abbrev sPadsOf : Stmt := topS 21
abbrev nPadsOf : List Str := ["figure", "pad", "note", "depth"]
theorem scPadsOf : FnScope nPadsOf ["figure"] (defScope sPadsOf) := ⟨rfl, rfl, rfl, by decide +kernel, rfl, by decide +kernel, by decide +kernel⟩
section
variable {P : Program} {w : World} {K : PySem.W.Frag} {mg : Str → Option Value} {base : Heap}
theorem ok_padsof {f : Addr} {fd : FuncData} {k : Nat} (F : Fun K "pads_of" "pads_of" sPadsOf f fd) : FnOk P w K mg base CX0 (k + 1) f fd ["figure"] (spPads K) := by
  refine F.ok scPadsOf (fun vs H Q E h => ?_) (fun cdv A outer s H vs Q E hr h => ?_)
  · obtain ⟨v, f, rfl, _⟩ := h
    rfl
  · obtain ⟨v, f, rfl, hV, hfl, q⟩ := h
    obtain ⟨a, xs, rfl, ha, hxs⟩ := hV
    refine ⟨_, pss_one (ps_ret (pe_lc (own := [("pad", 1), ("note", 2), ("depth", 3)]) (g := g3 K 1 2 3) (tt := tYes) rfl scPadsOf.nd (pi_tup (pv 0))
        (blkOk_by (own := [("pad", 1), ("note", 2), ("depth", 3)]) (N := nPadsOf) (sc := defScope sPadsOf) (by decide +kernel))
        (fun _ _ _ _ _ => pg_tup rfl (pgs_cons (pg_name (i := 1) scPadsOf.nd rfl (.inl rfl)) (pgs_cons (pg_name (i := 2) scPadsOf.nd rfl (.inl rfl)) (pgs_cons (pg_name (i := 3) scPadsOf.nd rfl (.inl rfl)) pgs_nil)))) (fun _ _ _ _ _ => pts_nil)
        (fun _ _ _ _ _ => pv 1))), ?_⟩
    refine ⟨.ref a, rfl, a, rfl, ⟨_, ha⟩, fun D nD => ?_⟩
    refine lc_tup (K := K) (a := a) (xs := xs) (fun i H' => Same H H' ∧ H' D = some (.lst (((f.take i).map (·.1)).map V.int))) ⟨same_upd nD, upd_same⟩ (fun i H' _ hP => Same.tup hP.1 ha) (fun i x H' hx hP => ?_) (fun H1 hP => ?_)
    · obtain ⟨sm, hD⟩ := hP
      obtain ⟨t, ht, tp, rfl, htp⟩ := hxs.get hx
      refine ⟨tp, triV t, rfl, Same.tup sm htp, rfl, _, _, rfl, _, _, rfl, _, _, rfl, rfl, rfl, yesT ⟨_, rfl, _, hD, ?_, Same.offUpd sm nD, ?_⟩⟩
      · rw [List.length_map, List.length_map, List.length_take]
        exact small1000 (by omega)
      · rw [upd_same, take_snoc ht, List.map_append, List.map_append]
        rfl
    · obtain ⟨sm, hD⟩ := hP
      rw [hxs.len, List.take_length] at hD
      exact q H1 D sm nD hD
end
theorem inV_ints (p : Int) (qs : List Int) : inV (.int p) (qs.map V.int) = qs.any fun r => decide (r = p) := by
  unfold inV
  rw [List.any_map]
  congr 1
theorem flat_ints (qs : List Int) : (qs.map V.int).all flatV = true := by
  rw [List.all_map, List.all_eq_true]
  intro x _
  rfl
/-! ### mask_of -/
def spMask (K : PySem.W.Frag) : Sp := fun vs H Q _ => ∃ (v : V) (f : List Tri), vs = [v] ∧ FigT K H v f ∧ f.length ≤ 100 ∧ PadsUp f ∧ ∀ H' : Hp, Same H H' → Q (.int (maskN f : Nat)) H'
abbrev sMask : Stmt := topS 22
abbrev nMask : List Str := ["figure", "pad", "note", "depth"]
theorem scMask : FnScope nMask ["figure"] (defScope sMask) := ⟨rfl, rfl, rfl, by decide +kernel, rfl, by decide +kernel, by decide +kernel⟩
def masksI (f : List Tri) : List Int := f.map fun t => 1 * 2 ^ t.1.toNat
theorem masksI_sum (f : List Tri) : (masksI f).sum = (maskN f : Nat) := by
  unfold masksI maskN
  induction f with
  | nil => rfl
  | cons t r ih =>
    rw [List.map_cons, List.sum_cons, List.map_cons, List.sum_cons, ih]
    push_cast
    omega
section
variable {P : Program} {w : World} {K : PySem.W.Frag} {mg : Str → Option Value} {base : Heap}
theorem ok_mask {f : Addr} {fd : FuncData} {k : Nat} (F : Fun K "mask_of" "mask_of" sMask f fd) (ms : mg "sum" = none) : FnOk P w K mg base CX0 (k + 1) f fd ["figure"] (spMask K) := by
  refine F.ok scMask (fun vs H Q E h => ?_) (fun cdv A outer s H vs Q E hr h => ?_)
  · obtain ⟨v, f, rfl, _⟩ := h
    rfl
  · obtain ⟨v, f, rfl, hV, hfl, hU, q⟩ := h
    obtain ⟨a, xs, rfl, ha, hxs⟩ := hV
    refine ⟨_, pss_one (ps_ret (pe_callB (cr_sum rfl) (by rfl) ms (by decide +kernel) (pa_cons (pe_lc (own := [("pad", 1), ("note", 2), ("depth", 3)]) (g := g3 K 1 2 3) (tt := tYes) rfl scMask.nd (pi_tup (pv 0))
        (blkOk_by (own := [("pad", 1), ("note", 2), ("depth", 3)]) (N := nMask) (sc := defScope sMask) (by decide +kernel))
        (fun _ _ _ _ _ => pg_tup rfl (pgs_cons (pg_name (i := 1) scMask.nd rfl (.inl rfl)) (pgs_cons (pg_name (i := 2) scMask.nd rfl (.inl rfl)) (pgs_cons (pg_name (i := 3) scMask.nd rfl (.inl rfl)) pgs_nil)))) (fun _ _ _ _ _ => pts_nil)
        (fun _ _ _ _ _ => pe_op op_shl pe_int (pv 1))) pa_nil))), ?_⟩
    refine ⟨.ref a, rfl, a, rfl, ⟨_, ha⟩, fun D nD => ?_⟩
    refine lc_tup (K := K) (a := a) (xs := xs) (fun i H' => Same H H' ∧ H' D = some (.lst ((masksI (f.take i)).map V.int))) ⟨same_upd nD, upd_same⟩ (fun i H' _ hP => Same.tup hP.1 ha) (fun i x H' hx hP => ?_) (fun H1 hP => ?_)
    · obtain ⟨sm, hD⟩ := hP
      obtain ⟨t, ht, tp, rfl, htp⟩ := hxs.get hx
      have m := List.mem_of_getElem? ht
      have b1 := hU.lo t m
      have b2 := hU.hi t m
      refine ⟨tp, triV t, rfl, Same.tup sm htp, rfl, _, _, rfl, _, _, rfl, _, _, rfl, rfl, rfl, yesT ⟨_, rfl, 1, t.1, rfl, rfl, ⟨b1, by omega, by decide⟩, _, hD, ?_, Same.offUpd sm nD, ?_⟩⟩
      · unfold masksI
        rw [List.length_map, List.length_map, List.length_take]
        exact small1000 (by omega)
      · unfold masksI
        rw [upd_same, take_snoc ht, List.map_append, List.map_append]
        rfl
    · obtain ⟨sm, hD⟩ := hP
      rw [hxs.len, List.take_length] at hD
      refine ⟨D, _, rfl, SqL.of hD, ?_⟩
      rw [masksI_sum]
      exact q H1 sm
end
def spBar (K : PySem.W.Frag) : Sp := fun vs H Q _ => ∃ (v u : V) (f g : List Tri), vs = [v, u] ∧ FigT K H v f ∧ FigT K H u g ∧ f.length ≤ 100 ∧ g.length ≤ 100 ∧ ∀ H', Same H H' → Q (.bl (barB f g)) H'
abbrev sBar : Stmt := topS 24
abbrev nBar : List Str := ["one", "other", "wanted", "pad", "note", "depth"]
theorem scBar : FnScope nBar ["one", "other"] (defScope sBar) := ⟨rfl, rfl, rfl, by decide +kernel, rfl, by decide +kernel, by decide +kernel⟩
section
variable {P : Program} {w : World} {K : PySem.W.Frag} {mg : Str → Option Value} {base : Heap}
theorem ok_bar {f : Addr} {fd : FuncData} {k : Nat} (F : Fun K "bar" "bar" sBar f fd) (ma : mg "any" = none) : FnOk P w K mg base CX0 (k + 1) f fd ["one", "other"] (spBar K) := by
  refine F.ok scBar (fun vs H Q E h => ?_) (fun cdv A outer s H vs Q E hr h => ?_)
  · obtain ⟨v, u, f, g, rfl, _⟩ := h
    rfl
  · obtain ⟨v, u, f, g, rfl, hV, hU, hfl, hgl, q⟩ := h
    obtain ⟨a, xs, rfl, ha, hxs⟩ := hV
    obtain ⟨b, ys, rfl, hb, hys⟩ := hU
    refine ⟨_, pss_cons (ps_set (i := 2) scBar.nd rfl (.inr rfl) (pe_dc (own := [("pad", 3), ("note", 4), ("depth", 5)]) (g := g3 K 3 4 5) (tt := tYes) rfl scBar.nd (pi_tup (pv 0))
        (blkOk_by (own := [("pad", 3), ("note", 4), ("depth", 5)]) (N := nBar) (sc := defScope sBar) (by decide +kernel))
        (fun _ _ _ _ _ => pg_tup rfl (pgs_cons (pg_name (i := 3) scBar.nd rfl (.inl rfl)) (pgs_cons (pg_name (i := 4) scBar.nd rfl (.inl rfl)) (pgs_cons (pg_name (i := 5) scBar.nd rfl (.inl rfl)) pgs_nil)))) (fun _ _ _ _ _ => pts_nil)
        (fun _ _ _ _ _ => pv 3) (fun _ _ _ _ _ => pv 4)))
      (pss_one (ps_ret (pe_callB (cr_any rfl) (by rfl) ma (by decide +kernel) (pa_cons (pe_lc (own := [("pad", 3), ("note", 4), ("depth", 5)]) (g := g3 K 3 4 5) (tt := tYes) rfl scBar.nd (pi_tup (pv 1))
        (blkOk_by (own := [("pad", 3), ("note", 4), ("depth", 5)]) (N := nBar) (sc := defScope sBar) (by decide +kernel))
        (fun _ _ _ _ _ => pg_tup rfl (pgs_cons (pg_name (i := 3) scBar.nd rfl (.inl rfl)) (pgs_cons (pg_name (i := 4) scBar.nd rfl (.inl rfl)) (pgs_cons (pg_name (i := 5) scBar.nd rfl (.inl rfl)) pgs_nil)))) (fun _ _ _ _ _ => pts_nil)
        (fun _ _ _ _ _ => pe_cmpR op_ne (pe_dget2 (hu_of hr) (pv 2) (pv 3) (pv 4) ⟨rfl, rfl, rfl, rfl⟩) (pv 4) (nomark _))) pa_nil)))), ?_⟩
    refine ⟨.ref a, rfl, a, rfl, ⟨_, ha⟩, fun D nD => ?_⟩
    refine dc_tup (K := K) (a := a) (xs := xs) (fun i H' => Same H H' ∧ H' D = some (.dK (mergeK [] (kvsOf (f.take i))))) ⟨same_upd nD, upd_same⟩ (fun i H' _ hP => Same.tup hP.1 ha) (fun i x H' hx hP => ?_) (fun H1 hP => ?_)
    · obtain ⟨sm, hD⟩ := hP
      obtain ⟨t, ht, tp, rfl, htp⟩ := hxs.get hx
      refine ⟨tp, triV t, rfl, Same.tup sm htp, rfl, _, _, rfl, _, _, rfl, _, _, rfl, rfl, rfl, yesT ⟨_, rfl, _, rfl, _, Sum.inl t.1, rfl, hD, ?_, Same.offUpd sm nD, ?_⟩⟩
      · have := merge_len (f.take i)
        rw [List.length_take] at this
        exact small1000 (by omega)
      · rw [upd_same, take_snoc ht, merge_snoc]
    · obtain ⟨s1, hD⟩ := hP
      rw [hxs.len, List.take_length] at hD
      refine ⟨.ref b, rfl, b, rfl, ⟨_, Same.tup s1 hb⟩, fun D2 nD2 => ?_⟩
      refine lc_tup (K := K) (a := b) (xs := ys) (fun i H' => Same H1 H' ∧ H' D2 = some (.lst (((g.take i).map fun u => !decide ((noteOf f u.1).getD u.2.1 = u.2.1)).map V.bl))) ⟨same_upd nD2, upd_same⟩ (fun i H' _ hP => Same.tup (s1.trans hP.1) hb) (fun i x H' hx hP => ?_) (fun H2 hP => ?_)
      · obtain ⟨sm, hD2⟩ := hP
        obtain ⟨t, ht, tp, rfl, htp⟩ := hys.get hx
        refine ⟨tp, triV t, rfl, Same.tup (s1.trans sm) htp, rfl, _, _, rfl, _, _, rfl, _, _, rfl, rfl, rfl, yesT ?_⟩
        refine ⟨_, rfl, D, rfl, .inl ⟨_, .inl (sm _ _ hD)⟩, _, rfl, _, rfl, _, DGet.k (k := Sum.inl t.1) (sm _ _ hD), _, rfl, ?_⟩
        rw [val_fig]
        have ev : (((noteOf f t.1).map V.int).getD (V.int t.2.1)) = V.int ((noteOf f t.1).getD t.2.1) := by
          cases noteOf f t.1 <;> rfl
        rw [ev]
        refine ⟨rfl, _, hD2, ?_, Same.offUpd sm nD2, ?_⟩
        · rw [List.length_map, List.length_map, List.length_take]
          exact small1000 (by omega)
        · rw [upd_same, take_snoc ht, List.map_append, List.map_append]
          have : (!decide (V.int ((noteOf f t.1).getD t.2.1) = V.int t.2.1)) = (!decide ((noteOf f t.1).getD t.2.1 = t.2.1)) := by
            congr 1
            rw [decide_eq_decide]
            exact ⟨fun z => V.int.inj z, fun z => by rw [z]⟩
          rw [this]
          rfl
      · obtain ⟨sm, hD2⟩ := hP
        rw [hys.len, List.take_length] at hD2
        refine ⟨D2, _, rfl, SqL.of hD2, ?_⟩
        have := q _ (s1.trans sm)
        unfold barB at this
        rw [List.any_map]
        exact this
end
/-! ### is_triple, is_figure -/
def spIsTri (K : PySem.W.Frag) : Sp := fun vs H Q _ => ∃ (a : Addr) (cs : List Int) (v : V) (t : Tri), vs = [.ref a, v] ∧ (SqL K H a (cs.map V.int) ∨ SqT K H a (cs.map V.int)) ∧ TriAt K H v t ∧ GoodT cs t ∧ ∀ H', Same H H' → Q (.bl true) H'
abbrev sIsTri : Stmt := topS 18
abbrev nIsTri : List Str := ["colours", "triple", "pad", "note", "depth"]
theorem scIsTri : FnScope nIsTri ["colours", "triple"] (defScope sIsTri) := ⟨rfl, rfl, rfl, by decide +kernel, rfl, by decide +kernel, by decide +kernel⟩
section
variable {P : Program} {w : World} {K : PySem.W.Frag} {mg : Str → Option Value} {base : Heap}
theorem ok_istri {f : Addr} {fd : FuncData} {k : Nat} {tkD : Tok} (F : Fun K "is_triple" "is_triple" sIsTri f fd) (ml : mg "len" = none) (mD : mg "MOST_DEPTH" = some (.int 3 tkD)) : FnOk P w K mg base CX0 (k + 1) f fd ["colours", "triple"] (spIsTri K) := by
  refine F.ok scIsTri (fun vs H Q E h => ?_) (fun cdv A outer s H vs Q E hr h => ?_)
  · obtain ⟨a, cs, v, t, rfl, _⟩ := h
    rfl
  · obtain ⟨a, cs, v, t, rfl, ha, ⟨tp, rfl, htp⟩, hG, q⟩ := h
    refine ⟨_, pss_cons (ps_if (pt_cmpR op_ne (pe_callB call_lenQ (by rfl) ml PySem.boot_len (pa_cons (pv 1) pa_nil)) pe_int (nomark _)) (pss_one (ps_ret pe_bl)) pss_nil)
      (pss_cons (ps_asg (pv 1) (pg_tup rfl (pgs_cons (pg_name (i := 2) scIsTri.nd rfl (.inl rfl)) (pgs_cons (pg_name (i := 3) scIsTri.nd rfl (.inl rfl)) (pgs_cons (pg_name (i := 4) scIsTri.nd rfl (.inl rfl)) pgs_nil)))))
      (pss_one (ps_ret (pe_and (pe_chain op_le op_lt pe_int (pv 2) (pe_callB call_lenQ (by rfl) ml PySem.boot_len (pa_cons (pv 0) pa_nil)))
        (pe_and (pe_chain op_le op_lt pe_int (pv 3) (pe_ix ix_seq (pv 0) (pv 2) (fun _ _ => rfl))) (pe_one (pe_chain op_le op_le pe_int (pv 4) (pe_glob (v := .int 3) (by rfl) mD ⟨_, rfl⟩)))))))), ?_⟩
    refine ⟨.ref tp, rfl, tp, _, rfl, .inr htp, rfl, _, rfl, iteNS rfl ?_⟩
    refine ⟨.ref tp, rfl, tp, _, rfl, htp, rfl, _, _, rfl, _, _, rfl, _, _, rfl, rfl, ?_⟩
    have d1 : decide ((0 : Int) ≤ t.1) = true := decide_eq_true hG.p0
    have d2 : decide (t.1 < (((cs.map V.int).length : Nat) : Int)) = true := decide_eq_true (by rw [List.length_map]; exact hG.p1)
    have d3 : decide ((0 : Int) ≤ t.2.1) = true := decide_eq_true hG.n0
    have d4 : decide (t.2.1 < cs.getD t.1.toNat 0) = true := decide_eq_true hG.n1
    have d5 : decide ((1 : Int) ≤ t.2.2) = true := decide_eq_true hG.d0
    have d6 : decide (t.2.2 ≤ (3 : Int)) = true := decide_eq_true hG.d1
    have hp0 := hG.p0
    have hp1 := hG.p1
    have e0 : ((t.1.toNat : Nat) : Int) = t.1 := Int.toNat_of_nonneg hp0
    have hi : t.1.toNat < cs.length := by omega
    have hread : ∀ Q : VK, Q (.int (cs.getD t.1.toNat 0)) H → rIx K (.ref a) (.int t.1) H Q := fun Q z => by
      have g := cs_at hi
      rw [e0] at g
      rcases ha with ha | ha
      · exact .inl ⟨a, _, _, _, rfl, rfl, ha, g, z⟩
      · exact .inr (.inl ⟨a, _, _, _, rfl, rfl, ha, g, z⟩)
    refine ⟨.int t.1, rfl, 0, t.1, rfl, rfl, _, rfl, ?_⟩
    rw [d1]
    refine iteT ⟨.ref a, rfl, a, _, rfl, ha, t.1, _, rfl, rfl, _, rfl, ?_⟩
    rw [d2]
    refine iteT ⟨.int t.2.1, rfl, 0, t.2.1, rfl, rfl, _, rfl, ?_⟩
    rw [d3]
    refine iteT ⟨.ref a, rfl, .int t.1, rfl, hread _ ⟨t.2.1, _, rfl, rfl, _, rfl, ?_⟩⟩
    rw [d4]
    refine iteT ⟨.int t.2.2, rfl, 1, t.2.2, rfl, rfl, _, rfl, ?_⟩
    rw [d5]
    refine iteT ⟨t.2.2, 3, rfl, rfl, ?_⟩
    show Q (V.bl (decide (t.2.2 ≤ (3 : Int)))) H
    rw [d6]
    exact q _ (Same.refl _)
end
def spIsFig (K : PySem.W.Frag) : Sp := fun vs H Q _ => ∃ (a : Addr) (cs : List Int) (v : V) (f : List Tri), vs = [.ref a, v] ∧ (SqL K H a (cs.map V.int) ∨ SqT K H a (cs.map V.int)) ∧ FigT K H v f ∧ GoodF cs f ∧ f.length ≤ 100 ∧ ∀ H', Same H H' → Q (.bl true) H'
abbrev sIsFig : Stmt := topS 17
abbrev nIsFig : List Str := ["colours", "figure", "pads", "triple", "pad", "later"]
theorem scIsFig : FnScope nIsFig ["colours", "figure"] (defScope sIsFig) := ⟨rfl, rfl, rfl, by decide +kernel, rfl, by decide +kernel, by decide +kernel⟩
section
variable {P : Program} {w : World} {K : PySem.W.Frag} {mg : Str → Option Value} {base : Heap}
theorem ok_isfig {f fT fP : Addr} {fd fdT fdP : FuncData} {k : Nat} {tkD : Tok} (F : Fun K "is_figure" "is_figure" sIsFig f fd) (ml : mg "len" = none) (ma : mg "all" = none) (mz : mg "zip" = none) (mD : mg "MOST_DEPTH" = some (.int 3 tkD))
    (FT : Fun K "is_triple" "is_triple" sIsTri fT fdT) (bT : Binds K fdT ["colours", "triple"] []) (gT : mg "is_triple" = some (.ref fT))
    (FP : Fun K "pads_of" "pads_of" sPadsOf fP fdP) (bP : Binds K fdP ["figure"] []) (gP : mg "pads_of" = some (.ref fP)) : FnOk P w K mg base CX0 (k + 2) f fd ["colours", "figure"] (spIsFig K) := by
  have GT : FnOk P w K mg base CX0 (k + 1) fT fdT ["colours", "triple"] (spIsTri K) := ok_istri FT ml mD
  have GP : FnOk P w K mg base CX0 (k + 1) fP fdP ["figure"] (spPads K) := ok_padsof FP
  refine F.ok scIsFig (fun vs H Q E h => ?_) (fun cdv A outer s H vs Q E hr h => ?_)
  · obtain ⟨a, cs, v, f, rfl, _⟩ := h
    rfl
  · obtain ⟨a, cs, v, f, rfl, ha, hV, hG, hfl, q⟩ := h
    obtain ⟨b, xs, rfl, hb, hxs⟩ := id hV
    refine ⟨_, pss_cons (ps_if (PW.pt (pw_or (pt_cmpR op_eq (pe_callB call_lenQ (by rfl) ml PySem.boot_len (pa_cons (pv 1) pa_nil)) pe_int (nomark _))
        (pw_or1 (pt_not (pt_val (pe_callB (cr_all rfl) (by rfl) ma (by decide +kernel) (pa_cons (pe_lc (own := [("triple", 3)]) (g := gName 3) (tt := tYes) rfl scIsFig.nd (pi_tup (pv 1))
          (blkOk_by (own := [("triple", 3)]) (N := nIsFig) (sc := defScope sIsFig) (by decide +kernel)) (fun _ _ _ _ _ => pg_name (i := 3) scIsFig.nd rfl (.inl rfl)) (fun _ _ _ _ _ => pts_nil)
          (fun _ _ _ _ _ => pe_call GT hr (by rfl) gT FT.kp bT .nil pass0 (pa_cons (pv 0) (pa_cons (pv 3) pa_nil)))) pa_nil))))))) (pss_one (ps_ret pe_bl)) pss_nil)
      (pss_cons (ps_set (i := 2) scIsFig.nd rfl (.inl rfl) (pe_call GP hr (by rfl) gP FP.kp bP .nil pass0 (pa_cons (pv 1) pa_nil)))
      (pss_one (ps_ret (pe_callB (cr_all rfl) (by rfl) ma (by decide +kernel) (pa_cons (pe_lc (own := [("pad", 4), ("later", 5)]) (g := g2 K 4 5) (tt := tYes) rfl scIsFig.nd (pi_zip (by rfl) mz (pa_cons (pv 2) (pa_cons (pe_slice sl_list (pv 2) (po_some pe_int) po_none) pa_nil)))
        (blkOk_by (own := [("pad", 4), ("later", 5)]) (N := nIsFig) (sc := defScope sIsFig) (by decide +kernel))
        (fun _ _ _ _ _ => pg_tup rfl (pgs_cons (pg_name (i := 4) scIsFig.nd rfl (.inl rfl)) (pgs_cons (pg_name (i := 5) scIsFig.nd rfl (.inl rfl)) pgs_nil))) (fun _ _ _ _ _ => pts_nil)
        (fun _ _ _ _ _ => pe_cmpR op_lt (pv 4) (pv 5) (nomark _))) pa_nil))))), ?_⟩
    have hlen : 0 < f.length := List.length_pos_iff.mpr hG.ne
    have hxl := hxs.len
    refine ⟨.ref b, rfl, b, _, rfl, .inr hb, rfl, _, rfl, ?_⟩
    rw [decide_eq_false (fun z => by have := V.int.inj z; omega)]
    refine iteF ?_
    refine ⟨.ref b, rfl, b, rfl, ⟨_, hb⟩, fun D nD => ?_⟩
    refine lc_tup (K := K) (a := b) (xs := xs) (fun i H' => Same H H' ∧ H' D = some (.lst ((List.replicate i true).map V.bl))) ⟨same_upd nD, upd_same⟩ (fun i H' _ hP => Same.tup hP.1 hb) (fun i x H' hx hP => ?_) (fun H1 hP => ?_)
    · obtain ⟨sm, hD⟩ := hP
      obtain ⟨t, ht, htp⟩ := hxs.get hx
      have hi : i < xs.length := (List.getElem?_eq_some_iff.mp hx).1
      refine ⟨rfl, yesT ⟨.ref a, rfl, x, rfl, a, cs, x, t, rfl, same_any sm ha, htp.ts (TS.of sm), hG.all t (List.mem_of_getElem? ht), fun H2 s2 => ⟨_, s2 _ _ hD, ?_, Same.offUpd (sm.trans s2) nD, ?_⟩⟩⟩
      · rw [List.length_map, List.length_replicate]
        exact small1000 (by omega)
      · rw [upd_same, List.replicate_succ', List.map_append]
        rfl
    · obtain ⟨s1, hD⟩ := hP
      refine ⟨D, _, rfl, SqL.of hD, ?_⟩
      rw [show (List.replicate xs.length true).all id = true by simp]
      refine ⟨_, rfl, iteF ?_⟩
      refine ⟨_, rfl, _, f, rfl, hV.ts (TS.of s1), hfl, fun H2 p s2 _ hp => ?_⟩
      refine ⟨.ref p, rfl, .ref p, rfl, 1, rfl, p, _, rfl, SqL.of hp, fun p2 np2 => ?_⟩
      rw [show (some (1 : Int)) = some ((1 : Nat) : Int) from rfl, cutV_from]
      have s3 := same_upd (o := .lst (((f.map (·.1)).map V.int).drop 1)) np2
      refine ⟨p, p2, _, _, rfl, SqL.of (s3 _ _ hp), SqL.of upd_same, fun D2 nD2 => ?_⟩
      have hp3 := s3 _ _ hp
      have hp23 : (upd H2 p2 (.lst (((f.map (·.1)).map V.int).drop 1))) p2 = some (.lst (((f.map (·.1)).map V.int).drop 1)) := upd_same
      have s123 := (s1.trans s2).trans s3
      generalize upd H2 p2 (.lst (((f.map (·.1)).map V.int).drop 1)) = H3 at hp3 hp23 s123 nD2 ⊢
      refine lc_it (walk_zip (K := K) (a := p) (b := p2) (xs := (f.map (·.1)).map V.int) (ys := ((f.map (·.1)).map V.int).drop 1) rfl) (fun i H' => Same H3 H' ∧ H' D2 = some (.lst ((List.replicate i true).map V.bl))) ⟨same_upd nD2, upd_same⟩ (fun i H' _ hP => ⟨SqL.of (hP.1 _ _ hp3), SqL.of (hP.1 _ _ hp23)⟩) (fun i v H' H'' hi hP hY => ?_) (fun H4 hP => ?_)
      · obtain ⟨sm, hD2⟩ := hP
        obtain ⟨T, x, y, rfl, nT, rfl, hx, hy⟩ := hY
        have u1 := same_upd (o := .tup [x, y]) nT
        rw [List.length_drop, List.length_map, List.length_map] at hi
        have h1 : i < (f.map (·.1)).length := by rw [List.length_map]; omega
        have h2 : i + 1 < (f.map (·.1)).length := by rw [List.length_map]; omega
        have ex : x = .int (f.map (·.1))[i] := by
          have hx : ((f.map (·.1)).map V.int)[i]? = some x := hx
          rw [List.getElem?_map, List.getElem?_eq_getElem h1] at hx
          exact (Option.some.inj hx).symm
        have ey : y = .int (f.map (·.1))[i + 1] := by
          have hy : (((f.map (·.1)).map V.int).drop 1)[i]? = some y := hy
          rw [List.getElem?_drop, Nat.add_comm 1 i, List.getElem?_map, List.getElem?_eq_getElem h2] at hy
          exact (Option.some.inj hy).symm
        have hlt := List.pairwise_iff_getElem.mp hG.up i (i + 1) h1 h2 (Nat.lt_succ_self i)
        have hD2' := u1 _ _ hD2
        refine ⟨T, [x, y], rfl, SqT.of upd_same, rfl, x, _, rfl, y, _, rfl, rfl, rfl, yesT ⟨x, rfl, y, rfl, _, _, ex, ey, ?_⟩⟩
        refine ⟨_, hD2', ?_, Same.offUpd (sm.trans u1) nD2, ?_⟩
        · rw [List.length_map, List.length_replicate]
          exact small1000 (by omega)
        · rw [upd_same, List.replicate_succ', List.map_append]
          show some (HO.lst (_ ++ [V.bl (decide ((f.map (·.1))[i] < (f.map (·.1))[i + 1]))])) = _
          rw [decide_eq_true hlt]
          rfl
      · obtain ⟨sm, hD2⟩ := hP
        refine ⟨D2, _, rfl, SqL.of hD2, ?_⟩
        have e : (List.replicate (min ((f.map (·.1)).map V.int).length (((f.map (·.1)).map V.int).drop 1).length) true).all id = true := by simp
        rw [e]
        exact q _ (s123.trans sm)
end
/-! ### check_colours, check_figures, check_meetings, copy_of_figure -/
def GoodC (cs : List Int) : Prop := 1 ≤ cs.length ∧ cs.length ≤ 6 ∧ ∀ x ∈ cs, (1 : Int) ≤ x ∧ x ≤ 4
def spCCol (K : PySem.W.Frag) : Sp := fun vs H Q _ => ∃ (a : Addr) (cs : List Int), vs = [.ref a] ∧ SqL K H a (cs.map V.int) ∧ GoodC cs ∧ ∀ H', Same H H' → Q .non H'
abbrev sCCol : Stmt := topS 15
abbrev nCCol : List Str := ["colours", "at", "many"]
theorem scCCol : FnScope nCCol ["colours"] (defScope sCCol) := ⟨rfl, rfl, rfl, by decide +kernel, rfl, by decide +kernel, by decide +kernel⟩
section
variable {P : Program} {w : World} {K : PySem.W.Frag} {mg : Str → Option Value} {base : Heap}
theorem ok_ccol {f : Addr} {fd : FuncData} {k : Nat} {tkP tkC : Tok} (F : Fun K "check_colours" "check_colours" sCCol f fd) (ml : mg "len" = none) (me : mg "enumerate" = none) (mP : mg "MOST_PADS" = some (.int 6 tkP)) (mC : mg "MOST_COLOURS" = some (.int 4 tkC)) : FnOk P w K mg base CX0 (k + 1) f fd ["colours"] (spCCol K) := by
  refine F.ok scCCol (fun vs H Q E h => ?_) (fun cdv A outer s H vs Q E hr h => ?_)
  · obtain ⟨a, cs, rfl, _⟩ := h
    rfl
  · obtain ⟨a, cs, rfl, ha, hG, q⟩ := h
    refine ⟨_, pss_cons (ps_if (pt_not (pt_chain op_le op_le pe_int (pe_callB call_lenQ (by rfl) ml PySem.boot_len (pa_cons (pv 0) pa_nil)) (pe_glob (v := .int 6) (by rfl) mP ⟨_, rfl⟩))) (pss_one ps_never) pss_nil)
      (pss_one (ps_for PassesOwn.never rfl (pi_enum (by rfl) me (pa_cons (pv 0) pa_nil)) (pg_tup rfl (pgs_cons (pg_name (i := 1) scCCol.nd rfl (.inl rfl)) (pgs_cons (pg_name (i := 2) scCCol.nd rfl (.inl rfl)) pgs_nil)))
        (pss_one (ps_if (pt_not (pt_chain op_le op_le pe_int (pv 2) (pe_glob (v := .int 4) (by rfl) mC ⟨_, rfl⟩))) (pss_one ps_never) pss_nil)))), ?_⟩
    obtain ⟨h1, h6, hc⟩ := hG
    have d1 : decide ((1 : Int) ≤ (((cs.map V.int).length : Nat) : Int)) = true := decide_eq_true (by rw [List.length_map]; omega)
    have d2 : (((cs.map V.int).length : Nat) : Int) ≤ (6 : Int) := by rw [List.length_map]; omega
    refine ⟨.ref a, rfl, a, _, rfl, .inl ha, 1, _, rfl, rfl, _, rfl, ?_⟩
    rw [d1]
    refine iteT ⟨_, 6, rfl, rfl, _, rfl, iteNS d2 ?_⟩
    refine ⟨.ref a, rfl, a, _, rfl, ha, ?_⟩
    refine for_it (walk_enum (K := K) (a := a) (xs := cs.map V.int)) (fun i σ H' => ∃ (y1 y2 : Option V), σ = [some (.ref a), y1, y2] ∧ Same H H') ⟨none, none, rfl, Same.refl H⟩ (fun i σ H' _ hP => ?_) (fun i v σ H' H'' hi hP hY => ?_) (fun σ H' hP => ?_)
    · obtain ⟨_, _, _, sm⟩ := hP
      exact sm.seq ha
    · obtain ⟨y1, y2, rfl, sm⟩ := hP
      obtain ⟨T, x, y, rfl, nT, rfl, hx, hy⟩ := hY
      have u1 := same_upd (o := .tup [x, y]) nT
      rw [List.length_map] at hi
      have ey : y = .int cs[i] := by
        have hy : (cs.map V.int)[i]? = some y := hy
        rw [List.getElem?_map, List.getElem?_eq_getElem hi] at hy
        exact (Option.some.inj hy).symm
      subst ey
      have hci := hc _ (List.getElem_mem hi)
      refine ⟨T, _, rfl, SqT.of upd_same, rfl, x, _, rfl, _, _, rfl, rfl, ?_⟩
      refine ⟨_, rfl, 1, cs[i], rfl, rfl, _, rfl, ?_⟩
      rw [decide_eq_true hci.1]
      exact iteT ⟨cs[i], 4, rfl, rfl, _, rfl, iteNS hci.2 ⟨_, _, rfl, sm.trans u1⟩⟩
    · obtain ⟨y1, y2, rfl, sm⟩ := hP
      exact q _ sm
end
def spCFig (K : PySem.W.Frag) : Sp := fun vs H Q _ => ∃ (a b : Addr) (cs : List Int) (xs : List V) (fs : List (List Tri)), vs = [.ref a, .ref b] ∧ (SqL K H a (cs.map V.int) ∨ SqT K H a (cs.map V.int)) ∧ SqL K H b xs ∧ All2 (FigT K H) xs fs ∧ GoodB cs fs ∧ cs.length ≤ 6 ∧ ∀ H', Same H H' → Q .non H'
abbrev sCFig : Stmt := topS 16
abbrev nCFig : List Str := ["colours", "figures", "at", "figure"]
theorem scCFig : FnScope nCFig ["colours", "figures"] (defScope sCFig) := ⟨rfl, rfl, rfl, by decide +kernel, rfl, by decide +kernel, by decide +kernel⟩
section
variable {P : Program} {w : World} {K : PySem.W.Frag} {mg : Str → Option Value} {base : Heap}
theorem ok_cfig {f fI : Addr} {fd fdI : FuncData} {k : Nat} (F : Fun K "check_figures" "check_figures" sCFig f fd) (me : mg "enumerate" = none)
    (FI : Fun K "is_figure" "is_figure" sIsFig fI fdI) (bI : Binds K fdI ["colours", "figure"] []) (gI : mg "is_figure" = some (.ref fI)) (GI : FnOk P w K mg base CX0 k fI fdI ["colours", "figure"] (spIsFig K)) : FnOk P w K mg base CX0 (k + 1) f fd ["colours", "figures"] (spCFig K) := by
  refine F.ok scCFig (fun vs H Q E h => ?_) (fun cdv A outer s H vs Q E hr h => ?_)
  · obtain ⟨a, b, cs, xs, fs, rfl, _⟩ := h
    rfl
  · obtain ⟨a, b, cs, xs, fs, rfl, ha, hb, hA, hG, h6, q⟩ := h
    refine ⟨_, pss_one (ps_for PassesOwn.never rfl (pi_enum (by rfl) me (pa_cons (pv 1) pa_nil)) (pg_tup rfl (pgs_cons (pg_name (i := 2) scCFig.nd rfl (.inl rfl)) (pgs_cons (pg_name (i := 3) scCFig.nd rfl (.inl rfl)) pgs_nil)))
        (pss_one (ps_if (pt_not (pt_val (pe_call GI hr (by rfl) gI FI.kp bI .nil pass0 (pa_cons (pv 0) (pa_cons (pv 3) pa_nil))))) (pss_one ps_never) pss_nil))), ?_⟩
    refine ⟨.ref b, rfl, b, _, rfl, hb, ?_⟩
    refine for_it (walk_enum (K := K) (a := b) (xs := xs)) (fun i σ H' => ∃ (y1 y2 : Option V), σ = [some (.ref a), some (.ref b), y1, y2] ∧ Same H H') ⟨none, none, rfl, Same.refl H⟩ (fun i σ H' _ hP => ?_) (fun i v σ H' H'' hi hP hY => ?_) (fun σ H' hP => ?_)
    · obtain ⟨_, _, _, sm⟩ := hP
      exact sm.seq hb
    · obtain ⟨y1, y2, rfl, sm⟩ := hP
      obtain ⟨T, x, y, rfl, nT, rfl, hx, hy⟩ := hY
      have u1 := same_upd (o := .tup [x, y]) nT
      have s1 := sm.trans u1
      obtain ⟨g, hg, hgT⟩ := hA.get hy
      have hgG := hG.all g (List.mem_of_getElem? hg)
      have hgl := hgG.len
      refine ⟨T, _, rfl, SqT.of upd_same, rfl, x, _, rfl, y, _, rfl, rfl, ?_⟩
      refine ⟨_, rfl, y, rfl, a, cs, y, g, rfl, same_any s1 ha, hgT.ts (TS.of s1), hgG, by omega, fun H2 s2 => ⟨_, rfl, iteF ⟨_, _, rfl, s1.trans s2⟩⟩⟩
    · obtain ⟨y1, y2, rfl, sm⟩ := hP
      exact q _ sm
end
def spCMeet (K : PySem.W.Frag) : Sp := fun vs H Q _ => ∃ (b : Addr) (cs : List Int) (xs : List V) (fs : List (List Tri)), vs = [.ref b] ∧ SqL K H b xs ∧ All2 (FigT K H) xs fs ∧ GoodB cs fs ∧ cs.length ≤ 6 ∧ fs.length ≤ 100 ∧ ∀ H', Same H H' → Q .non H'
abbrev sCMeet : Stmt := topS 19
abbrev nCMeet : List Str := ["figures", "masks", "one", "figure", "other"]
theorem scCMeet : FnScope nCMeet ["figures"] (defScope sCMeet) := ⟨rfl, rfl, rfl, by decide +kernel, rfl, by decide +kernel, by decide +kernel⟩
section
variable {P : Program} {w : World} {K : PySem.W.Frag} {mg : Str → Option Value} {base : Heap}
theorem ok_cmeet {f fM fB : Addr} {fd fdM fdB : FuncData} {k : Nat} (F : Fun K "check_meetings" "check_meetings" sCMeet f fd) (me : mg "enumerate" = none) (mr : mg "range" = none) (ml : mg "len" = none)
    (FM : Fun K "mask_of" "mask_of" sMask fM fdM) (bM : Binds K fdM ["figure"] []) (gM : mg "mask_of" = some (.ref fM)) (GM : FnOk P w K mg base CX0 k fM fdM ["figure"] (spMask K))
    (FB : Fun K "bar" "bar" sBar fB fdB) (bB : Binds K fdB ["one", "other"] []) (gB : mg "bar" = some (.ref fB)) (GB : FnOk P w K mg base CX0 k fB fdB ["one", "other"] (spBar K)) : FnOk P w K mg base CX0 (k + 1) f fd ["figures"] (spCMeet K) := by
  refine F.ok scCMeet (fun vs H Q E h => ?_) (fun cdv A outer s H vs Q E hr h => ?_)
  · obtain ⟨b, cs, xs, fs, rfl, _⟩ := h
    rfl
  · obtain ⟨b, cs, xs, fs, rfl, hb, hA, hG, h6, hfl, q⟩ := h
    refine ⟨_, pss_cons (ps_setLc (i := 1) (own := [("figure", 3)]) (g := gName 3) (tt := tYes) rfl scCMeet.nd rfl rfl (sw_true rfl rfl rfl (by decide +kernel)) (pi_list (pv 0)) (blkOk_by (own := [("figure", 3)]) (N := nCMeet) (sc := defScope sCMeet) (by decide +kernel)) (fun _ _ _ _ _ => pg_name (i := 3) scCMeet.nd rfl (.inl rfl)) (fun _ _ _ _ _ => pts_nil) (fun _ _ _ _ _ => pe_call GM hr (by rfl) gM FM.kp bM .nil pass0 (pa_cons (pv 3) pa_nil)))
      (pss_one (ps_for PassesOwn.never rfl (pi_enum (by rfl) me (pa_cons (pv 0) pa_nil)) (pg_tup (by rfl) (pgs_cons (pg_name (i := 2) scCMeet.nd rfl (.inl rfl)) (pgs_cons (pg_name (i := 3) scCMeet.nd rfl (.inl rfl)) pgs_nil))) (pss_one (ps_for PassesOwn.never rfl (pi_range2 (by rfl) mr (pa_cons (pe_op op_add (pv 2) pe_int) (pa_cons (pe_callB call_lenQ (by rfl) ml PySem.boot_len (pa_cons (pv 0) pa_nil)) pa_nil))) (pg_name (i := 4) scCMeet.nd rfl (.inl rfl)) (pss_one (ps_if (PW.pt (pw_and (pt_cmpR op_ne (pe_op op_and (pe_ix ix_list (pv 1) (pv 2) (fun _ _ => rfl)) (pe_ix ix_list (pv 1) (pv 4) (fun _ _ => rfl))) pe_int (nomark _)) (pw_and1 (pt_not (pt_val (pe_call GB hr (by rfl) gB FB.kp bB .nil pass0 (pa_cons (pv 3) (pa_cons (pe_ix ix_list (pv 0) (pv 4) (fun _ _ => rfl)) pa_nil)))))))) (pss_one ps_never) pss_nil)))))), ?_⟩
    have hxl := hA.len
    refine ⟨.ref b, rfl, b, rfl, ⟨_, hb⟩, fun D nD => ?_⟩
    refine lc_list (K := K) (a := b) (xs := xs) (fun i H' => Same H H' ∧ H' D = some (.lst ((fs.take i).map fun f => V.int (maskN f : Nat)))) ⟨same_upd nD, upd_same⟩ (fun i H' _ hP => hP.1.seq hb) (fun i x H' hx hP => ?_) (fun H0 hP => ?_)
    · obtain ⟨sm, hD⟩ := hP
      obtain ⟨g, hg, hgT⟩ := hA.get hx
      have hgG := hG.all g (List.mem_of_getElem? hg)
      have hgl := hgG.len
      refine ⟨rfl, yesT ⟨x, rfl, x, g, rfl, hgT.ts (TS.of sm), by omega, hgG.padsUp h6, fun H2 s2 => ⟨_, s2 _ _ hD, ?_, Same.offUpd (sm.trans s2) nD, ?_⟩⟩⟩
      · rw [List.length_map, List.length_take]
        exact small1000 (by omega)
      · rw [upd_same, take_snoc hg, List.map_append]
        rfl
    obtain ⟨s0, hD⟩ := hP
    rw [hxl, List.take_length] at hD
    have hmk : ∀ (i : Nat) (f : List Tri), fs[i]? = some f → atI (fs.map fun f => V.int (maskN f : Nat)) (i : Int) = some (.int (maskN f : Nat)) := fun i f e => atI_nat (by rw [List.getElem?_map, e]; rfl)
    refine ⟨.ref b, rfl, b, _, rfl, s0.seq hb, ?_⟩
    refine for_it (walk_enum (K := K) (a := b) (xs := xs)) (fun i σ H' => ∃ (y1 y2 y3 : Option V), σ = [some (.ref b), some (.ref D), y1, y2, y3] ∧ Same H0 H') ⟨none, none, none, rfl, Same.refl H0⟩ (fun i σ H' _ hP => ?_) (fun i v σ H' H'' hi hP hY => ?_) (fun σ H' hP => ?_)
    · obtain ⟨_, _, _, _, sm⟩ := hP
      exact (s0.trans sm).seq hb
    · obtain ⟨y1, y2, y3, rfl, sm⟩ := hP
      obtain ⟨T, x, y, rfl, nT, rfl, hx, hy⟩ := hY
      have u1 := same_upd (o := .tup [x, y]) nT
      have s1 := sm.trans u1
      have ex : x = .int (i : Nat) := (Option.some.inj hx).symm
      subst ex
      obtain ⟨g, hg, hgT⟩ := hA.get hy
      have hgG := hG.all g (List.mem_of_getElem? hg)
      have hgl := hgG.len
      refine ⟨T, _, rfl, SqT.of upd_same, rfl, _, _, rfl, y, _, rfl, rfl, ?_⟩
      generalize upd H' T (.tup [.int (i : Nat), y]) = H1 at s1 ⊢
      refine ⟨_, rfl, _, _, rfl, rfl, .ref b, rfl, b, _, rfl, .inl ((s0.trans s1).seq hb), (i : Int) + 1, ((xs.length : Nat) : Int), rfl, ⟨by omega, by omega, by omega, by omega⟩, ?_⟩
      refine for_range (lo := (i : Int) + 1) (n := (((xs.length : Nat) : Int) - ((i : Int) + 1)).toNat) (fun j σ H' => ∃ (y3 : Option V), σ = [some (.ref b), some (.ref D), some (.int (i : Nat)), some y, y3] ∧ Same H0 H') ⟨_, rfl, s1⟩ ?_ ?_
      · rintro j σ H2 hj ⟨y3, rfl, sm2⟩
        have hj2 : i + 1 + j < xs.length := by omega
        have ej : (i : Int) + 1 + (j : Int) = ((i + 1 + j : Nat) : Int) := by omega
        obtain ⟨g2, hg2, hgT2⟩ := hA.get (List.getElem?_eq_getElem hj2)
        have hgG2 := hG.all g2 (List.mem_of_getElem? hg2)
        have hgl2 := hgG2.len
        have hix : atI xs ((i : Int) + 1 + (j : Int)) = some xs[i + 1 + j] := by
          rw [ej]
          exact atI_nat (List.getElem?_eq_getElem hj2)
        have hm2 := hmk _ _ hg2
        rw [← ej] at hm2
        have hD2 := sm2 _ _ hD
        refine ⟨.ref D, rfl, .int (i : Nat), rfl, D, _, _, _, rfl, rfl, SqL.of hD2, hmk _ _ hg, .ref D, rfl, .int ((i : Int) + 1 + (j : Int)), rfl, D, _, _, _, rfl, rfl, SqL.of hD2, hm2, _, _, rfl, rfl, rfl, _, rfl, ?_⟩
        rw [mask_test (hgG.padsUp h6) (hgG2.padsUp h6)]
        have s02 := s0.trans sm2
        refine ite2 (fun e => ?_) (fun e => ?_)
        · refine ⟨y, rfl, .ref b, rfl, .int ((i : Int) + 1 + (j : Int)), rfl, b, xs, _, _, rfl, rfl, s02.seq hb, hix, y, _, g, g2, rfl, hgT.ts (TS.of s02), hgT2.ts (TS.of s02), by omega, by omega, fun H4 s4 => ⟨_, rfl, ?_⟩⟩
          rw [hG.pair (by omega) hg hg2 e]
          exact iteF ⟨_, rfl, sm2.trans s4⟩
        · exact iteF ⟨_, rfl, sm2⟩
      · rintro σ H2 ⟨y3, rfl, sm2⟩
        exact ⟨_, _, _, rfl, sm2⟩
    · obtain ⟨y1, y2, y3, rfl, sm⟩ := hP
      exact q _ (s0.trans sm)
end
def spCopyF (K : PySem.W.Frag) : Sp := fun vs H Q _ => ∃ (v : V) (f : List Tri), vs = [v] ∧ FigT K H v f ∧ f.length ≤ 100 ∧ ∀ H' u, Same H H' → FigT K H' u f → Q u H'
abbrev sCopyF : Stmt := topS 20
abbrev nCopyF : List Str := ["figure", "triple"]
theorem scCopyF : FnScope nCopyF ["figure"] (defScope sCopyF) := ⟨rfl, rfl, rfl, by decide +kernel, rfl, by decide +kernel, by decide +kernel⟩
section
variable {P : Program} {w : World} {K : PySem.W.Frag} {mg : Str → Option Value} {base : Heap}
theorem ok_copyf {f : Addr} {fd : FuncData} {k : Nat} (F : Fun K "copy_of_figure" "copy_of_figure" sCopyF f fd) (mt : mg "tuple" = none) : FnOk P w K mg base CX0 (k + 1) f fd ["figure"] (spCopyF K) := by
  refine F.ok scCopyF (fun vs H Q E h => ?_) (fun cdv A outer s H vs Q E hr h => ?_)
  · obtain ⟨v, f, rfl, _⟩ := h
    rfl
  · obtain ⟨v, f, rfl, hV, hfl, q⟩ := h
    obtain ⟨a, xs, rfl, ha, hxs⟩ := hV
    refine ⟨_, pss_one (ps_ret (pe_callTy call_tupS (by rfl) mt (by decide +kernel) (pa_cons (pe_lc (own := [("triple", 1)]) (g := gName 1) (tt := tYes) rfl scCopyF.nd (pi_tup (pv 0))
        (blkOk_by (own := [("triple", 1)]) (N := nCopyF) (sc := defScope sCopyF) (by decide +kernel)) (fun _ _ _ _ _ => pg_name (i := 1) scCopyF.nd rfl (.inl rfl)) (fun _ _ _ _ _ => pts_nil)
        (fun _ _ _ _ _ => pe_callTy (r := rTupS K) call_tupS (by rfl) mt (by decide +kernel) (pa_cons (pv 1) pa_nil))) pa_nil))), ?_⟩
    refine ⟨.ref a, rfl, a, rfl, ⟨_, ha⟩, fun D nD => ?_⟩
    refine lc_tup (K := K) (a := a) (xs := xs) (fun i H' => Same H H' ∧ ∃ zs, H' D = some (.lst zs) ∧ All2 (TriAt K H') zs (f.take i)) ⟨same_upd nD, [], upd_same, True.intro⟩ (fun i H' _ hP => Same.tup hP.1 ha) (fun i x H' hx hP => ?_) (fun H1 hP => ?_)
    · obtain ⟨sm, zs, hD, hz⟩ := hP
      obtain ⟨t, ht, tp, rfl, htp⟩ := hxs.get hx
      refine ⟨rfl, yesT ⟨.ref tp, rfl, tp, _, rfl, .inr (Same.tup sm htp), fun l H2 s2 hl => ?_⟩⟩
      have hD2 := s2 _ _ hD
      refine ⟨_, hD2, ?_, Same.offUpd (sm.trans s2) nD, zs ++ [.ref l], upd_same, ?_⟩
      · rw [hz.len, List.length_take]
        exact small1000 (by omega)
      · rw [take_snoc ht]
        exact All2.snoc ⟨l, rfl, TS.upd hD2 _ _ hl⟩ (hz.mono fun _ _ => TriAt.ts ((TS.of s2).trans (TS.upd hD2)))
    · obtain ⟨sm, zs, hD, hz⟩ := hP
      rw [hxs.len, List.take_length] at hz
      refine ⟨D, _, rfl, .inl (SqL.of hD), fun l H2 s2 hl => ?_⟩
      exact q _ _ (sm.trans s2) ⟨l, zs, rfl, hl, hz.mono fun _ _ => TriAt.ts (TS.of s2)⟩
end
/-! ### Book.__init__ -/
def bkF (a b : Addr) : List (Str × V) := [("palette", .ref a), ("shapes", .ref b)]
def BookAt (K : PySem.W.Frag) (C : Addr) (H : Hp) (p : Addr) (cs : List Int) (fs : List (List Tri)) : Prop :=
  ∃ (dx a b : Addr) (xs : List V), H p = some (.ins C dx (bkF a b)) ∧ SqT K H a (cs.map V.int) ∧ SqT K H b xs ∧ All2 (FigT K H) xs fs
theorem BookAt.same {K : PySem.W.Frag} {C : Addr} {H H' : Hp} {p : Addr} {cs : List Int} {fs : List (List Tri)} (h : BookAt K C H p cs fs) (e : Same H H') : BookAt K C H' p cs fs := by
  obtain ⟨dx, a, b, xs, h1, h2, h3, h4⟩ := h
  exact ⟨dx, a, b, xs, e _ _ h1, Same.tup e h2, Same.tup e h3, h4.mono fun _ _ => FigT.ts (TS.of e)⟩
structure BkTxt (K : PySem.W.Frag) (mg : Str → Option Value) (C : Addr) : Prop where
  cl : Cls K C
  nP : NoAttr K C "palette"
  nS : NoAttr K C "shapes"
  mgC : mg "Book" = some (.ref C)
def spInit (K : PySem.W.Frag) (C : Addr) : Sp := fun vs H Q _ => ∃ (p dx a b : Addr) (cs : List Int) (xs : List V) (fs : List (List Tri)), vs = [.ref p, .ref a, .ref b] ∧ H p = some (.ins C dx []) ∧ SqL K H a (cs.map V.int) ∧ SqL K H b xs ∧ All2 (FigT K H) xs fs ∧ GoodC cs ∧ GoodB cs fs ∧ fs.length ≤ 12 ∧
  ∀ H', Off p H H' → BookAt K C H' p cs fs → Q .non H'
abbrev sInit : Stmt := inClass (topS 14) 0
abbrev nInit : List Str := ["self", "colours", "figures", "figure"]
theorem scInit : FnScope nInit ["self", "colours", "figures"] (defScope sInit) := ⟨rfl, rfl, rfl, by decide +kernel, rfl, by decide +kernel, by decide +kernel⟩
theorem TS.ins {K : PySem.W.Frag} {H H' : Hp} {p C dx : Addr} {fs : List (Str × V)} (e : Off p H H') (h : H p = some (.ins C dx fs)) : TS K H H' := fun a xs q => by
  rcases q with (q | ⟨o, q⟩) | q
  · exact .inl (.inl (e _ _ (fun z => by rw [z, h] at q; cases q) q))
  · exact .inl (.inr ⟨o, e _ _ (fun z => by rw [z, h] at q; cases q) q⟩)
  · exact .inr q
theorem seqL_off {K : PySem.W.Frag} {H H' : Hp} {p C dx b : Addr} {fs : List (Str × V)} {xs : List V} (e : Off p H H') (h : H p = some (.ins C dx fs)) (q : SqL K H b xs) : SqL K H' b xs := by
  rcases q with (q | ⟨o, q⟩) | q
  · exact .inl (.inl (e _ _ (fun z => by rw [z, h] at q; cases q) q))
  · exact .inl (.inr ⟨o, e _ _ (fun z => by rw [z, h] at q; cases q) q⟩)
  · exact .inr q
section
variable {P : Program} {w : World} {K : PySem.W.Frag} {mg : Str → Option Value} {base : Heap}
theorem ok_init {f C f1 f2 f3 f4 : Addr} {fd fd1 fd2 fd3 fd4 : FuncData} {k : Nat} {tkF : Tok} {kws : List (Str × V)} (F : FunD K "__init__" "Book.__init__" (defArgs sInit) (defBody sInit) (defScope sInit) [] kws f fd) (T : BkTxt K mg C)
    (ml : mg "len" = none) (mt : mg "tuple" = none) (mF : mg "MOST_FIGURES" = some (.int 12 tkF))
    (F1 : Fun K "check_colours" "check_colours" sCCol f1 fd1) (b1 : Binds K fd1 ["colours"] []) (g1 : mg "check_colours" = some (.ref f1)) (G1 : FnOk P w K mg base CX0 k f1 fd1 ["colours"] (spCCol K))
    (F2 : Fun K "check_figures" "check_figures" sCFig f2 fd2) (b2 : Binds K fd2 ["colours", "figures"] []) (g2 : mg "check_figures" = some (.ref f2)) (G2 : FnOk P w K mg base CX0 k f2 fd2 ["colours", "figures"] (spCFig K))
    (F3 : Fun K "check_meetings" "check_meetings" sCMeet f3 fd3) (b3 : Binds K fd3 ["figures"] []) (g3 : mg "check_meetings" = some (.ref f3)) (G3 : FnOk P w K mg base CX0 k f3 fd3 ["figures"] (spCMeet K))
    (F4 : Fun K "copy_of_figure" "copy_of_figure" sCopyF f4 fd4) (b4 : Binds K fd4 ["figure"] []) (g4 : mg "copy_of_figure" = some (.ref f4)) (G4 : FnOk P w K mg base CX0 k f4 fd4 ["figure"] (spCopyF K)) :
    FnOk P w K mg base CX0 (k + 1) f fd ["self", "colours", "figures"] (spInit K C) := by
  refine F.ok (CX := CX0) scInit (fun vs H Q E h => ?_) (fun cdv A outer s H vs Q E hr h => ?_)
  · obtain ⟨p, dx, a, b, cs, xs, fs, rfl, _⟩ := h
    rfl
  · obtain ⟨p, dx, a, b, cs, xs, fs, rfl, hp, ha, hb, hA, hC, hG, h12, q⟩ := h
    refine ⟨_, PSs.nox (pss_cons (ps_expr (pe_call G1 hr (by rfl) g1 F1.kp b1 .nil pass0 (pa_cons (pv 1) pa_nil)))
      (pss_cons (ps_if (pt_cmpR op_gt (pe_callB call_lenQ (by rfl) ml PySem.boot_len (pa_cons (pv 2) pa_nil)) (pe_glob (v := .int 12) (by rfl) mF ⟨_, rfl⟩) (nomark _)) (pss_one ps_never) pss_nil)
      (pss_cons (ps_expr (pe_call G2 hr (by rfl) g2 F2.kp b2 .nil pass0 (pa_cons (pv 1) (pa_cons (pv 2) pa_nil))))
      (pss_cons (ps_expr (pe_call G3 hr (by rfl) g3 F3.kp b3 .nil pass0 (pa_cons (pv 2) pa_nil)))
      (pss_cons (ps_fld (pv 0) (pe_callTy call_tupS (by rfl) mt (by decide +kernel) (pa_cons (pv 1) pa_nil)) rfl)
      (pss_one (ps_fld (pv 0) (pe_callTy call_tupS (by rfl) mt (by decide +kernel) (pa_cons (pe_lc (own := [("figure", 3)]) (g := gName 3) (tt := tYes) rfl scInit.nd (pi_list (pv 2))
        (blkOk_by (own := [("figure", 3)]) (N := nInit) (sc := defScope sInit) (by decide +kernel)) (fun _ _ _ _ _ => pg_name (i := 3) scInit.nd rfl (.inl rfl)) (fun _ _ _ _ _ => pts_nil)
        (fun _ _ _ _ _ => pe_call G4 hr (by rfl) g4 F4.kp b4 .nil pass0 (pa_cons (pv 3) pa_nil))) pa_nil)) rfl))))))), ?_⟩
    have hxl := hA.len
    refine ⟨.ref a, rfl, a, cs, rfl, ha, hC, fun H1 s1 => ?_⟩
    refine ⟨.ref b, rfl, b, _, rfl, .inl (s1.seq hb), _, 12, rfl, rfl, _, rfl, ?_⟩
    rw [decide_eq_false (show ¬ (12 : Int) < ((xs.length : Nat) : Int) by omega)]
    refine iteF ?_
    refine ⟨.ref a, rfl, .ref b, rfl, a, b, cs, xs, fs, rfl, .inl (s1.seq ha), s1.seq hb, hA.mono fun _ _ => FigT.ts (TS.of s1), hG, hC.2.1, fun H2 s2 => ?_⟩
    have s12 := s1.trans s2
    refine ⟨.ref b, rfl, b, cs, xs, fs, rfl, s12.seq hb, hA.mono fun _ _ => FigT.ts (TS.of s12), hG, hC.2.1, by omega, fun H3 s3 => ?_⟩
    have s13 := s12.trans s3
    refine ⟨.ref a, rfl, a, _, rfl, .inl (s13.seq ha), fun a2 H4 s4 ha2 => ?_⟩
    have s14 := s13.trans s4
    have hp4 := s14 _ _ hp
    refine ⟨.ref p, rfl, p, C, dx, [], rfl, hp4, T.cl, T.nP, (show 0 < 1000 by decide), ?_⟩
    have off5 : Off p H4 (upd H4 p (.ins C dx (putF "palette" (.ref a2) []))) := Off.upd
    have hp5 : (upd H4 p (.ins C dx (putF "palette" (.ref a2) []))) p = some (.ins C dx [("palette", .ref a2)]) := upd_same
    have hb5 := seqL_off off5 hp4 (s14.seq hb)
    have ts5 : TS K H (upd H4 p (.ins C dx (putF "palette" (.ref a2) []))) := (TS.of s14).trans (TS.ins off5 hp4)
    have ha5 : SqT K (upd H4 p (.ins C dx (putF "palette" (.ref a2) []))) a2 (cs.map V.int) := TS.ins off5 hp4 _ _ ha2
    have off15 : Off p H (upd H4 p (.ins C dx (putF "palette" (.ref a2) []))) := (Off.same s14).trans off5
    generalize upd H4 p (.ins C dx (putF "palette" (.ref a2) [])) = H5 at off5 hp5 hb5 ts5 ha5 off15 ⊢
    have hA5 := hA.mono fun _ _ => FigT.ts ts5
    refine ⟨.ref b, rfl, b, rfl, ⟨_, hb5⟩, fun D nD => ?_⟩
    refine lc_list (K := K) (a := b) (xs := xs) (fun i H' => Same H5 H' ∧ ∃ zs, H' D = some (.lst zs) ∧ All2 (FigT K H') zs (fs.take i)) ⟨same_upd nD, [], upd_same, True.intro⟩ (fun i H' _ hP => hP.1.seq hb5) (fun i x H' hx hP => ?_) (fun H6 hP => ?_)
    · obtain ⟨sm, zs, hD, hz⟩ := hP
      obtain ⟨g, hg, hgT⟩ := hA5.get hx
      have hgl := (hG.all g (List.mem_of_getElem? hg)).len
      have := hC.2.1
      refine ⟨rfl, yesT ⟨x, rfl, x, g, rfl, hgT.ts (TS.of sm), by omega, fun H7 u s7 hu => ?_⟩⟩
      have hD7 := s7 _ _ hD
      refine ⟨_, hD7, ?_, Same.offUpd (sm.trans s7) nD, zs ++ [u], upd_same, ?_⟩
      · rw [hz.len, List.length_take]
        exact small1000 (by omega)
      · rw [take_snoc hg]
        exact All2.snoc (hu.ts (TS.upd hD7)) (hz.mono fun _ _ => FigT.ts ((TS.of s7).trans (TS.upd hD7)))
    · obtain ⟨sm, zs, hD, hz⟩ := hP
      rw [hxl, List.take_length] at hz
      refine ⟨D, _, rfl, .inl (SqL.of hD), fun l H7 s7 hl => ?_⟩
      have s57 := sm.trans s7
      have hp7 := s57 _ _ hp5
      refine ⟨.ref p, rfl, p, C, dx, _, rfl, hp7, T.cl, T.nS, (show 1 < 1000 by decide), ?_⟩
      have off8 : Off p H7 (upd H7 p (.ins C dx (putF "shapes" (.ref l) [("palette", .ref a2)]))) := Off.upd
      refine q _ ((off15.trans (Off.same s57)).trans off8) ⟨dx, a2, l, zs, upd_same, ?_, TS.ins off8 hp7 _ _ hl, hz.mono fun _ _ => FigT.ts ((TS.of s7).trans (TS.ins off8 hp7))⟩
      exact TS.ins off8 hp7 _ _ (Same.tup s57 ha5)
end
/-! ### figures as they are handed in: tuples of any lengths -/
def TupZ (K : PySem.W.Frag) (H : Hp) (v : V) (t : List Int) : Prop := ∃ a, v = .ref a ∧ SqT K H a (t.map V.int)
theorem TupZ.ts {K : PySem.W.Frag} {H H' : Hp} (e : TS K H H') {v : V} {t : List Int} (h : TupZ K H v t) : TupZ K H' v t := by
  obtain ⟨a, h1, h2⟩ := h
  exact ⟨a, h1, e _ _ h2⟩
abbrev RF := List (List Int)
def RFigT (K : PySem.W.Frag) (H : Hp) (v : V) (f : RF) : Prop := ∃ a xs, v = .ref a ∧ SqT K H a xs ∧ All2 (TupZ K H) xs f
theorem RFigT.ts {K : PySem.W.Frag} {H H' : Hp} (e : TS K H H') {v : V} {f : RF} (h : RFigT K H v f) : RFigT K H' v f := by
  obtain ⟨a, xs, h1, h2, h3⟩ := h
  exact ⟨a, xs, h1, e _ _ h2, h3.mono fun _ _ => TupZ.ts e⟩
def RFigL (K : PySem.W.Frag) (H : Hp) (v : V) (f : RF) : Prop := ∃ a xs, v = .ref a ∧ SqL K H a xs ∧ All2 (TupZ K H) xs f
theorem RFigL.same {K : PySem.W.Frag} {H H' : Hp} (e : Same H H') {v : V} {f : RF} (h : RFigL K H v f) : RFigL K H' v f := by
  obtain ⟨a, xs, h1, h2, h3⟩ := h
  exact ⟨a, xs, h1, e.seq h2, h3.mono fun _ _ => TupZ.ts (TS.of e)⟩
/-- a list of good triples -/
def FigL (K : PySem.W.Frag) (H : Hp) (v : V) (f : List Tri) : Prop := ∃ a xs, v = .ref a ∧ SqL K H a xs ∧ All2 (TriAt K H) xs f
theorem FigL.same {K : PySem.W.Frag} {H H' : Hp} (e : Same H H') {v : V} {f : List Tri} (h : FigL K H v f) : FigL K H' v f := by
  obtain ⟨a, xs, h1, h2, h3⟩ := h
  exact ⟨a, xs, h1, e.seq h2, h3.mono fun _ _ => TriAt.ts (TS.of e)⟩
def triB (cs : List Int) : List Int → Bool
  | [p, n, d] => decide (0 ≤ p) && (decide (p < cs.length) && (decide (0 ≤ n) && (decide (n < cs.getD p.toNat 0) && (decide (1 ≤ d) && decide (d ≤ 3)))))
  | _ => false
def toTri : List Int → Tri
  | [p, n, d] => (p, n, d)
  | _ => (0, 0, 0)
theorem triB_ok {cs t : List Int} (h : triB cs t = true) : ∃ p n d, t = [p, n, d] ∧ GoodT cs (p, n, d) := by
  unfold triB at h
  split at h
  · rename_i p n d
    simp only [Bool.and_eq_true, decide_eq_true_eq] at h
    obtain ⟨h1, h2, h3, h4, h5, h6⟩ := h
    exact ⟨p, n, d, rfl, h1, h2, h3, h4, h5, h6⟩
  · cases h
def risesFrom (last : Int) : List Int → Bool
  | [] => true
  | p :: r => decide (last < p) && risesFrom p r
/-- good triples whose pads rise, above last -/
def wellGo (cs : List Int) (last : Int) : RF → Bool
  | [] => true
  | t :: r => triB cs t && (decide (last < (toTri t).1) && wellGo cs (toTri t).1 r)
def figB (cs : List Int) (f : RF) : Bool := decide (f ≠ []) && wellGo cs (-1) f
theorem wellGo_eq (cs : List Int) : ∀ (f : RF) (last : Int), wellGo cs last f = (f.all (triB cs) && risesFrom last (f.map fun t => (toTri t).1))
  | [], _ => rfl
  | t :: r, last => by
    unfold wellGo
    rw [wellGo_eq cs r, List.all_cons, List.map_cons]
    show _ = (triB cs t && r.all (triB cs) && (decide (last < (toTri t).1) && risesFrom (toTri t).1 (r.map fun t => (toTri t).1)))
    cases triB cs t <;> cases r.all (triB cs) <;> cases decide (last < (toTri t).1) <;> cases risesFrom (toTri t).1 (r.map fun t => (toTri t).1) <;> rfl
theorem rises_pair : ∀ (l : List Int) (last : Int), risesFrom last l = true → (last :: l).Pairwise (· < ·)
  | [], _, _ => List.pairwise_singleton _ _
  | p :: r, last, h => by
    obtain ⟨h1, h2⟩ := Bool.and_eq_true_iff.mp (show (decide (last < p) && risesFrom p r) = true from h)
    have h3 := rises_pair r p h2
    have h4 := of_decide_eq_true h1
    refine List.pairwise_cons.mpr ⟨fun x hx => ?_, h3⟩
    rcases List.mem_cons.mp hx with rfl | hx
    · exact h4
    · exact Int.lt_trans h4 ((List.pairwise_cons.mp h3).1 x hx)
theorem figB_good {cs : List Int} {f : RF} (h : figB cs f = true) : GoodF cs (f.map toTri) ∧ ∀ t ∈ f, ∃ p n d, t = [p, n, d] := by
  obtain ⟨h1, h2⟩ := Bool.and_eq_true_iff.mp h
  rw [wellGo_eq] at h2
  obtain ⟨h3, h4⟩ := Bool.and_eq_true_iff.mp h2
  have a := List.all_eq_true.mp h3
  refine ⟨⟨fun z => of_decide_eq_true h1 (List.map_eq_nil_iff.mp z), fun u hu => ?_, ?_⟩, fun t ht => ?_⟩
  · obtain ⟨t, ht, rfl⟩ := List.mem_map.mp hu
    obtain ⟨p, n, d, rfl, g⟩ := triB_ok (a t ht)
    exact g
  · rw [List.map_map]
    exact (List.pairwise_cons.mp (rises_pair _ _ h4)).2
  · obtain ⟨p, n, d, e, _⟩ := triB_ok (a t ht)
    exact ⟨p, n, d, e⟩
theorem tris_of {K : PySem.W.Frag} {H : Hp} : ∀ {xs : List V} {f : RF}, All2 (TupZ K H) xs f → (∀ t ∈ f, ∃ p n d, t = [p, n, d]) → All2 (TriAt K H) xs (f.map toTri)
  | [], [], _, _ => True.intro
  | x :: xs, t :: f, h, g => by
    obtain ⟨p, n, d, rfl⟩ := g t (List.mem_cons_self ..)
    obtain ⟨a, e, ha⟩ := h.1
    exact ⟨⟨a, e, ha⟩, tris_of h.2 fun t ht => g t (List.mem_cons_of_mem _ ht)⟩
  | [], _ :: _, h, _ => h.elim
  | _ :: _, [], h, _ => h.elim
/-! the first that is not so -/
def FirstNo {α : Type} (p : α → Prop) (l : List α) (i : Nat) : Prop := (∃ x, l[i]? = some x ∧ ¬ p x) ∧ ∀ (j : Nat) (x : α), j < i → l[j]? = some x → p x
theorem FirstNo.uniq {α : Type} {p : α → Prop} {l : List α} {i j : Nat} (h : FirstNo p l i) (g : FirstNo p l j) : i = j := by
  obtain ⟨⟨x, x1, x2⟩, x3⟩ := h
  obtain ⟨⟨y, y1, y2⟩, y3⟩ := g
  rcases Nat.lt_trichotomy i j with z | z | z
  · exact absurd (y3 i x z x1) x2
  · exact z
  · exact absurd (x3 j y z y1) y2
theorem FirstNo.not {α : Type} {p : α → Prop} {l : List α} {i : Nat} (h : FirstNo p l i) (g : ∀ x ∈ l, p x) : False := by
  obtain ⟨⟨x, x1, x2⟩, _⟩ := h
  exact x2 (g x (List.mem_of_getElem? x1))
def mtB (fs : List RF) (i j : Nat) : Bool := okB ((fs.getD i []).map toTri) ((fs.getD j []).map toTri)
/-- the first two that meet and do not bar -/
def FirstM (fs : List RF) (i j : Nat) : Prop := (i < j ∧ j < fs.length ∧ mtB fs i j = false) ∧ ∀ i' j', i' < j' → j' < fs.length → (i' < i ∨ (i' = i ∧ j' < j)) → mtB fs i' j' = true
theorem FirstM.uniq {fs : List RF} {i j i' j' : Nat} (h : FirstM fs i j) (g : FirstM fs i' j') : i = i' ∧ j = j' := by
  obtain ⟨⟨h1, h2, h3⟩, h4⟩ := h
  obtain ⟨⟨g1, g2, g3⟩, g4⟩ := g
  have a : ¬ (i < i' ∨ (i = i' ∧ j < j')) := fun z => by
    have := g4 i j h1 h2 z
    rw [h3] at this
    cases this
  have b : ¬ (i' < i ∨ (i' = i ∧ j' < j)) := fun z => by
    have := h4 i' j' g1 g2 z
    rw [g3] at this
    cases this
  omega
def NoneM (fs : List RF) : Prop := ∀ i j, i < j → j < fs.length → mtB fs i j = true
theorem FirstM.not {fs : List RF} {i j : Nat} (h : FirstM fs i j) (g : NoneM fs) : False := by
  obtain ⟨⟨h1, h2, h3⟩, _⟩ := h
  have := g i j h1 h2
  rw [h3] at this
  cases this
abbrev colOk (x : Int) : Prop := 1 ≤ x ∧ x ≤ 4
/-- what is due of a book: none, or the refusal's number and values -/
inductive DueR (cs : List Int) (fs : List RF) : Option (Nat × List Int) → Prop
  | many (h : ¬ (1 ≤ cs.length ∧ cs.length ≤ 6)) : DueR cs fs (some (0, [-1]))
  | col (i : Nat) (h : 1 ≤ cs.length ∧ cs.length ≤ 6) (g : FirstNo colOk cs i) : DueR cs fs (some (0, [(i : Int)]))
  | figs (h : GoodC cs) (g : 12 < fs.length) : DueR cs fs (some (3, [12]))
  | fig (i : Nat) (h : GoodC cs) (g : fs.length ≤ 12) (e : FirstNo (fun f => figB cs f = true) fs i) : DueR cs fs (some (1, [(i : Int)]))
  | meet (i j : Nat) (h : GoodC cs) (g : fs.length ≤ 12) (e : ∀ f ∈ fs, figB cs f = true) (m : FirstM fs i j) : DueR cs fs (some (2, [(i : Int), (j : Int)]))
  | none (h : GoodC cs) (g : fs.length ≤ 12) (e : ∀ f ∈ fs, figB cs f = true) (m : NoneM fs) : DueR cs fs Option.none
theorem DueR.uniq {cs : List Int} {fs : List RF} {o o' : Option (Nat × List Int)} (h : DueR cs fs o) (g : DueR cs fs o') : o = o' := by
  have nc : ∀ {i}, FirstNo colOk cs i → GoodC cs → False := fun f c => f.not c.2.2
  cases h with
  | many h =>
    cases g with
    | many => rfl
    | col i h' => exact absurd h' h
    | figs c => exact absurd ⟨c.1, c.2.1⟩ h
    | fig i c => exact absurd ⟨c.1, c.2.1⟩ h
    | meet i j c => exact absurd ⟨c.1, c.2.1⟩ h
    | none c => exact absurd ⟨c.1, c.2.1⟩ h
  | col i h f =>
    cases g with
    | many h' => exact absurd h h'
    | col j h' f' => rw [f.uniq f']
    | figs c => exact (nc f c).elim
    | fig j c => exact (nc f c).elim
    | meet j k c => exact (nc f c).elim
    | none c => exact (nc f c).elim
  | figs c n =>
    cases g with
    | many h' => exact absurd ⟨c.1, c.2.1⟩ h'
    | col j h' f' => exact (nc f' c).elim
    | figs => rfl
    | fig j c' n' => omega
    | meet j k c' n' => omega
    | none c' n' => omega
  | fig i c n f =>
    cases g with
    | many h' => exact absurd ⟨c.1, c.2.1⟩ h'
    | col j h' f' => exact (nc f' c).elim
    | figs c' n' => omega
    | fig j c' n' f' => rw [f.uniq f']
    | meet j k c' n' e' => exact (f.not e').elim
    | none c' n' e' => exact (f.not e').elim
  | meet i j c n e m =>
    cases g with
    | many h' => exact absurd ⟨c.1, c.2.1⟩ h'
    | col j h' f' => exact (nc f' c).elim
    | figs c' n' => omega
    | fig j c' n' f' => exact (f'.not e).elim
    | meet i' j' c' n' e' m' =>
      obtain ⟨rfl, rfl⟩ := m.uniq m'
      rfl
    | none c' n' e' m' => exact (m.not m').elim
  | none c n e m =>
    cases g with
    | many h' => exact absurd ⟨c.1, c.2.1⟩ h'
    | col j h' f' => exact (nc f' c).elim
    | figs c' n' => omega
    | fig j c' n' f' => exact (f'.not e).elim
    | meet i' j' c' n' e' m' => exact (m'.not m).elim
    | none => rfl
theorem DueR.shape {cs : List Int} {fs : List RF} {i : Nat} {ws : List Int} (h : DueR cs fs (some (i, ws))) : i < 28 ∧ ws.length = (rFl i).length ∧ rNm i ≠ "told" := by
  cases h <;> exact ⟨by decide, rfl, by decide +kernel⟩
theorem same_ref {H H2 : Hp} {d : Addr} (h1 : H d = none) (h2 : ∀ b, b ≠ d → H b ≠ none → H2 b = H b) : Same H H2 := fun b o e => by
  rw [h2 b (ne_of_none e h1) (by rw [e]; simp)]
  exact e
/-- the refusal i with these numbers -/
def refuseN (i : Nat) (C : Addr) (ws : List Int) (H : Hp) (E : XK) : Prop := ∀ (d : Addr) (H' : Hp), Same H H' → H' d = some (.xd (rFs i (ws.map V.int))) → E (.ref C) (some d) H'
theorem refuseN.later {i : Nat} {C : Addr} {ws : List Int} {H H1 : Hp} {E : XK} (h : refuseN i C ws H E) (s : Same H H1) : refuseN i C ws H1 E := fun d H' s' hd => h d H' (s.trans s') hd
abbrev exc1 (i : Nat) (nm fl : Str) (C : Addr) (P : Program) (w : World) (K : PySem.W.Frag) (mg : Str → Option Value) (base : Heap) (k : Nat) : Prop := ExcK P w K mg base k nm C 1 (fun ws => [(fl, ws.getD 0 .non), ("word", .str nm)])
/-! ### Book.pads; Book.shape with its refusal; Book.meet with it -/
theorem bkF_shapesX (a b : Addr) : List.lookup (Str.ofString "shapes") (bkF a b) = some (V.ref b) := rfl
abbrev sPadsM : Stmt := inClass (topS 14) 2
theorem scPadsM : FnScope ["self"] ["self"] (defScope sPadsM) := ⟨rfl, rfl, rfl, by decide +kernel, rfl, by decide +kernel, by decide +kernel⟩
def spPadsM (K : PySem.W.Frag) (C : Addr) : Sp := fun vs H Q _ => ∃ (p : Addr) (cs : List Int) (fs : List (List Tri)), vs = [.ref p] ∧ BookAt K C H p cs fs ∧ Q (.int (cs.length : Nat)) H
abbrev sShpX : Stmt := inClass (topS 14) 4
abbrev nShpX : List Str := ["self", "at"]
theorem scShpX : FnScope nShpX ["self", "at"] (defScope sShpX) := ⟨rfl, rfl, rfl, by decide +kernel, rfl, by decide +kernel, by decide +kernel⟩
/-- NoFigure is the refusal 24 -/
def spShpX (K : PySem.W.Frag) (C CN : Addr) : Sp := fun vs H Q E => ∃ (p : Addr) (cs : List Int) (fs : List (List Tri)) (z : Int), vs = [.ref p, .int z] ∧ BookAt K C H p cs fs ∧ (∀ i : Nat, z = (i : Int) → i < fs.length → ∀ v, FigT K H v (fs.getD i []) → Q v H) ∧ (¬ (0 ≤ z ∧ z < (fs.length : Nat)) → refuseN 24 CN [z] H E)
section
variable {P : Program} {w : World} {K : PySem.W.Frag} {mg : Str → Option Value} {base : Heap}
theorem ok_padsM {f C : Addr} {fd : FuncData} {k : Nat} (F : Fun K "pads" "Book.pads" sPadsM f fd) (T : BkTxt K mg C) (ml : mg "len" = none) : FnOk P w K mg base CX0 (k + 1) f fd ["self"] (spPadsM K C) := by
  refine F.ok scPadsM (fun vs H Q E h => ?_) (fun cdv A outer s H vs Q E hr h => ?_)
  · obtain ⟨p, cs, fs, rfl, _⟩ := h
    rfl
  · obtain ⟨p, cs, fs, rfl, ⟨dx, a, b, xs, hp, ha, hb, hA⟩, q⟩ := h
    refine ⟨_, pss_one (ps_ret (pe_callB call_lenQ (by rfl) ml PySem.boot_len (pa_cons (pe_fld (pv 0) rfl) pa_nil))), ?_⟩
    refine ⟨.ref p, rfl, p, C, dx, _, _, rfl, hp, T.cl, T.nP, rfl, a, _, rfl, .inr ha, ?_⟩
    rw [List.length_map]
    exact q
theorem ok_shpX {f C CN : Addr} {fd : FuncData} {k : Nat} (F : Fun K "shape" "Book.shape" sShpX f fd) (T : BkTxt K mg C) (ml : mg "len" = none) (R : exc1 24 "NoFigure" "figure" CN P w K mg base k) : FnOk P w K mg base (L2.CX P w) (k + 2) f fd ["self", "at"] (spShpX K C CN) := by
  refine F.okX scShpX (fun vs H Q E h => ?_) (fun cdv A outer s H vs Q E hr h => ?_)
  · obtain ⟨p, cs, fs, z, rfl, _⟩ := h
    rfl
  · obtain ⟨p, cs, fs, z, rfl, ⟨dx, a, b, xs, hp, ha, hb, hA⟩, q, q1⟩ := h
    refine ⟨_, pss_cons (ps_if (pt_not (pt_chain op_le op_lt pe_int (pv 1) (pe_callB call_lenQ (by rfl) ml PySem.boot_len (pa_cons (pe_fld (pv 0) rfl) pa_nil)))) (pss_one (ps_raise rfl (takes_of rfl rfl rfl rfl) (pmk_ref R hr (by rfl) (pa_cons (pv 1) pa_nil)))) pss_nil)
      (pss_one (ps_ret (pe_ix ix_tup (pe_fld (pv 0) rfl) (pv 1) (fun _ _ => rfl)))), ?_⟩
    have hxl := hA.len
    have bad : ¬ (0 ≤ z ∧ z < (fs.length : Nat)) → ∀ σ : L2.St, σ[1]? = some (some (.int z)) → tRef CN 1 (fun ws => [("figure", ws.getD 0 .non), ("word", .str "NoFigure")]) (tCons (tVar 1) tNil) σ H fun cls d H' => E cls d H' := fun e σ hσ =>
      ⟨.int z, hσ, rfl, (show (1 : Nat) ≤ 1000 by decide), fun dd H2 h1 h2 h3 => q1 e dd H2 (same_ref h1 h2) h3⟩
    refine ⟨.int z, rfl, 0, z, rfl, rfl, _, rfl, ?_⟩
    by_cases e0 : 0 ≤ z
    rotate_left
    · rw [decide_eq_false e0]
      exact iteF ⟨_, rfl, iteT (bad (fun y => e0 y.1) _ rfl)⟩
    rw [decide_eq_true e0]
    refine iteT ⟨.ref p, rfl, p, C, dx, _, _, rfl, hp, T.cl, T.nS, bkF_shapesX a b, b, _, rfl, .inr hb, z, _, rfl, rfl, _, rfl, ?_⟩
    by_cases e1 : z < ((xs.length : Nat) : Int)
    rotate_left
    · rw [decide_eq_false e1]
      exact iteT (bad (fun y => e1 (by rw [hxl]; exact y.2)) _ rfl)
    rw [decide_eq_true e1]
    obtain ⟨i, rfl⟩ : ∃ i : Nat, z = (i : Int) := ⟨z.toNat, by omega⟩
    have hi2 : i < xs.length := by omega
    obtain ⟨g, hg, hgT⟩ := hA.get (List.getElem?_eq_getElem hi2)
    refine iteF ⟨.ref p, rfl, p, C, dx, _, _, rfl, hp, T.cl, T.nS, bkF_shapesX a b, .int (i : Nat), rfl, b, xs, _, xs[i], rfl, rfl, hb, atI_nat (List.getElem?_eq_getElem hi2), ?_⟩
    refine q i rfl (by omega) _ ?_
    rw [List.getD_eq_getElem?_getD, hg]
    exact hgT
end
theorem getD_len100 {fs : List (List Tri)} (h : ∀ f ∈ fs, f.length ≤ 100) (i : Nat) : (fs.getD i []).length ≤ 100 := by
  rw [List.getD_eq_getElem?_getD]
  cases e : fs[i]? with
  | none => exact Nat.zero_le _
  | some f => exact h f (List.mem_of_getElem? e)
abbrev sMeetX : Stmt := inClass (topS 14) 5
abbrev nMeetX : List Str := ["self", "one", "other"]
theorem scMeetX : FnScope nMeetX ["self", "one", "other"] (defScope sMeetX) := ⟨rfl, rfl, rfl, by decide +kernel, rfl, by decide +kernel, by decide +kernel⟩
def spMeetX (K : PySem.W.Frag) (C CN : Addr) : Sp := fun vs H Q E => ∃ (p : Addr) (cs : List Int) (fs : List (List Tri)) (y z : Int), vs = [.ref p, .int y, .int z] ∧ BookAt K C H p cs fs ∧ (∀ f ∈ fs, f.length ≤ 100) ∧ (∀ f ∈ fs, PadsUp f) ∧ (∀ i j : Nat, y = (i : Int) → z = (j : Int) → i < fs.length → j < fs.length → ∀ H', Same H H' → Q (.bl (meetB (fs.getD i []) (fs.getD j []))) H') ∧ (¬ (0 ≤ y ∧ y < (fs.length : Nat)) → refuseN 24 CN [y] H E) ∧ (0 ≤ y ∧ y < (fs.length : Nat) → ¬ (0 ≤ z ∧ z < (fs.length : Nat)) → refuseN 24 CN [z] H E)
theorem getD_pads {fs : List (List Tri)} (h : ∀ f ∈ fs, PadsUp f) {i : Nat} (hi : i < fs.length) : PadsUp (fs.getD i []) := by
  rw [List.getD_eq_getElem?_getD, List.getElem?_eq_getElem hi]
  exact h _ (List.getElem_mem hi)
section
variable {P : Program} {w : World} {K : PySem.W.Frag} {mg : Str → Option Value} {base : Heap}
theorem ok_meetX {f C CN fS fM : Addr} {fd fdS fdM : FuncData} {k : Nat} (F : Fun K "meet" "Book.meet" sMeetX f fd) (T : BkTxt K mg C)
    (bS : Binds K fdS ["self", "at"] []) (mS : Meth K C "shape" fS) (GS : FnOk P w K mg base (L2.CX P w) (k + 1) fS fdS ["self", "at"] (spShpX K C CN))
    (FM : Fun K "mask_of" "mask_of" sMask fM fdM) (bM : Binds K fdM ["figure"] []) (gM : mg "mask_of" = some (.ref fM)) (GM : FnOk P w K mg base CX0 (k + 1) fM fdM ["figure"] (spMask K)) :
    FnOk P w K mg base (L2.CX P w) (k + 2) f fd ["self", "one", "other"] (spMeetX K C CN) := by
  refine F.okX scMeetX (fun vs H Q E h => ?_) (fun cdv A outer s H vs Q E hr h => ?_)
  · obtain ⟨p, cs, fs, y, z, rfl, _⟩ := h
    rfl
  · obtain ⟨p, cs, fs, y, z, rfl, hK, hl, hU, q, q1, q2⟩ := h
    obtain ⟨dx, a, b, xs, hp, ha, hb, hA⟩ := id hK
    refine ⟨_, pss_one (ps_ret (pe_cmpR op_ne (pe_op op_and (pe_call GM hr (by rfl) gM FM.kp bM .nil pass0 (pa_cons (pe_meth (pv 0) T.cl mS GS hr bS .nil (passes_call (takes_of rfl rfl rfl rfl) (fun _ _ _ _ h => h)) (pa_cons (pv 1) pa_nil)) pa_nil)) (pe_call GM hr (by rfl) gM FM.kp bM .nil pass0 (pa_cons (pe_meth (pv 0) T.cl mS GS hr bS .nil (passes_call (takes_of rfl rfl rfl rfl) (fun _ _ _ _ h => h)) (pa_cons (pv 2) pa_nil)) pa_nil))) pe_int (nomark _))), ?_⟩
    refine ⟨.ref p, rfl, p, dx, _, rfl, hp, rfl, .int y, rfl, p, cs, fs, y, rfl, hK, fun i ey hi v hv => ?_, q1⟩
    refine ⟨v, _, rfl, hv, getD_len100 hl i, getD_pads hU hi, fun H1 s1 => ?_⟩
    refine ⟨.ref p, rfl, p, dx, _, rfl, s1 _ _ hp, rfl, .int z, rfl, p, cs, fs, z, rfl, hK.same s1, fun j ez hj u hu => ?_, fun e => (q2 (by omega) e).later s1⟩
    refine ⟨u, _, rfl, hu, getD_len100 hl j, getD_pads hU hj, fun H2 s2 => ?_⟩
    refine ⟨_, _, rfl, rfl, rfl, ?_⟩
    have := q i j ey ez hi hj _ (s1.trans s2)
    rw [← mask_test (getD_pads hU hi) (getD_pads hU hj)] at this
    exact this
end
/-! ### sorted(xs) of tuples of whole numbers, the first one empty -/
theorem lex_asym : ∀ x y : List Int, HT.lexLt x y = true → HT.lexLt y x = false
  | [], [], h => by cases h
  | [], _ :: _, _ => rfl
  | _ :: _, [], h => by cases h
  | a :: x, b :: y, h => by
    rw [HT.lexLt_cons] at h ⊢
    by_cases e : a = b
    · rw [if_pos e] at h
      rw [if_pos e.symm]
      exact lex_asym x y h
    · rw [if_neg e] at h
      rw [if_neg (fun z => e z.symm)]
      have := of_decide_eq_true h
      exact decide_eq_false (by omega)
theorem lex_tr : ∀ x y z : List Int, HT.lexLt y x = false → HT.lexLt z y = false → HT.lexLt z x = false
  | [], y, [], _, _ => rfl
  | [], y, _ :: _, _, _ => rfl
  | a :: x, [], z, h, _ => by cases h
  | a :: x, b :: y, [], _, h => by cases h
  | a :: x, b :: y, c :: z, h1, h2 => by
    rw [HT.lexLt_cons] at h1 h2 ⊢
    by_cases e1 : b = a
    · rw [if_pos e1] at h1
      by_cases e2 : c = b
      · rw [if_pos e2] at h2
        rw [if_pos (e2.trans e1)]
        exact lex_tr x y z h1 h2
      · rw [if_neg e2] at h2
        rw [if_neg (fun q => e2 (q.trans e1.symm))]
        have := of_decide_eq_false h2
        exact decide_eq_false (by omega)
    · rw [if_neg e1] at h1
      have g1 := of_decide_eq_false h1
      by_cases e2 : c = b
      · rw [if_neg (fun q => e1 (e2.symm.trans q))]
        exact decide_eq_false (by omega)
      · rw [if_neg e2] at h2
        have g2 := of_decide_eq_false h2
        rw [if_neg (by omega)]
        exact decide_eq_false (by omega)
theorem lex_anti : ∀ x y : List Int, HT.lexLt x y = false → HT.lexLt y x = false → x = y
  | [], [], _, _ => rfl
  | [], _ :: _, h, _ => by cases h
  | _ :: _, [], _, h => by cases h
  | a :: x, b :: y, h1, h2 => by
    rw [HT.lexLt_cons] at h1 h2
    by_cases e : a = b
    · rw [if_pos e] at h1
      rw [if_pos e.symm] at h2
      rw [e, lex_anti x y h1 h2]
    · rw [if_neg e] at h1
      rw [if_neg (fun q => e q.symm)] at h2
      have := of_decide_eq_false h1
      have := of_decide_eq_false h2
      omega
/-- two sorted lists of the same things are one -/
theorem lex_uniq : ∀ {l m : List (List Int)}, l.Perm m → l.Pairwise (fun x y => HT.lexLt y x = false) → m.Pairwise (fun x y => HT.lexLt y x = false) → l = m
  | [], m, p, _, _ => (List.Perm.eq_nil p.symm).symm
  | x :: l, [], p, _, _ => absurd p.length_eq (by simp)
  | x :: l, y :: m, p, h1, h2 => by
    have a1 := List.pairwise_cons.mp h1
    have a2 := List.pairwise_cons.mp h2
    have refl : ∀ z : List Int, HT.lexLt z z = false := fun z => by
      cases e : HT.lexLt z z with
      | false => rfl
      | true => rw [lex_asym z z e] at e; cases e
    have e : x = y := by
      apply lex_anti
      · rcases List.mem_cons.mp (p.mem_iff.mp (List.mem_cons_self (a := x) (l := l))) with h | h
        · rw [h]
          exact refl y
        · exact a2.1 x h
      · rcases List.mem_cons.mp (p.mem_iff.mpr (List.mem_cons_self (a := y) (l := m))) with h | h
        · rw [h]
          exact refl x
        · exact a1.1 y h
    subst e
    rw [lex_uniq p.cons_inv a1.2 a2.2]
section
variable {M : Model} {A : Around} {E : Value → Shared → Prop} {s : Shared}
theorem any_firsts : ∀ (vs : List Value) {Q : List (Option Value) → Shared → Prop}, (∀ v ∈ vs, ∃ a xs, v = .ref a ∧ IsTup s.heap a xs) → (∀ fs, Q fs s) → wpAny M A (vs.mapM firstOfTuple') Q E s
  | [], Q, _, h => by
    rw [List.mapM_nil]
    exact wpAny_pure (h [])
  | v :: vs, Q, t, h => by
    obtain ⟨a, xs, rfl, o, ho, hc, n, hd⟩ := t _ List.mem_cons_self
    rw [List.mapM_cons]
    refine wpAny_bind ?_
    rw [PySem.W.kas_first_eq]
    refine wpAny_bind (PySem.W.Looks.here (show PySem.W.Looks M s.heap (typeOf (.ref a)) o.cls from (PySem.W.Looks.ld ho).andThen .now) ?_)
    rw [hc, if_neg (by first | decide | simp)]
    refine wpAny_bind (listItems_at ho hd (wpAny_pure ?_))
    exact wpAny_bind (any_firsts vs (Q := fun bs s' => wpAny M A (pure (xs[0]? :: bs)) Q E s') (fun u hu => t u (List.mem_cons_of_mem _ hu)) (fun fs => wpAny_pure (h _)))
theorem kind_tups {v : Value} {vs : List Value} {a : Addr} {Q : SortKind → Shared → Prop} (e : v = .ref a) (t0 : IsTup s.heap a #[]) (t : ∀ u ∈ vs, ∃ a xs, u = .ref a ∧ IsTup s.heap a xs) (h : Q oneType' s) : wpAny M A (keyKind' (v :: vs).toArray) Q E s := by
  subst e
  have hT : ∀ u ∈ Value.ref a :: vs, PySem.W.Looks M s.heap (typeOf u) (.type "tuple") := fun u hu => by
    rcases List.mem_cons.mp hu with rfl | hu
    · obtain ⟨o, ho, hc, _⟩ := t0
      rw [← hc]
      exact (PySem.W.Looks.ld ho).andThen .now
    · obtain ⟨b, xs, rfl, o, ho, hc, _⟩ := t u hu
      rw [← hc]
      exact (PySem.W.Looks.ld ho).andThen .now
  obtain ⟨o, ho, hc, n, hd⟩ := t0
  rw [kat_kind_eq, List.mapM_toArray, map_eq_pure_bind]
  refine wpAny_bind (wpAny_bind ?_)
  rw [List.mapM_cons]
  refine wpAny_bind ?_
  rw [PySem.W.kas_first_eq]
  refine wpAny_bind (PySem.W.Looks.here (show PySem.W.Looks M s.heap (typeOf (.ref a)) o.cls from (PySem.W.Looks.ld ho).andThen .now) ?_)
  rw [hc, if_neg (by first | decide | simp)]
  refine wpAny_bind (listItems_at ho hd (wpAny_pure ?_))
  refine wpAny_bind (any_firsts vs t fun fs => wpAny_pure (wpAny_pure ?_))
  rw [if_neg (by simp), if_neg (by simp)]
  rw [oneTypeOnly'_eq, List.mapM_toArray, map_eq_pure_bind]
  refine wpAny_bind (wpAny_bind (wpAny_bind (PySem.W.kas_mapM (r := Value.type "tuple") _ (fun v hv Q' hq => (hT v hv).here hq) (wpAny_pure ?_))))
  have hall : ((List.map (fun _ => Value.type "tuple") (Value.ref a :: vs)).toArray.all fun x => x == Value.type "tuple") = true := by
    simp only [List.all_toArray, List.all_map, List.all_eq_true]
    intro _ _
    rfl
  have h0 : (List.map (fun _ => Value.type "tuple") (Value.ref a :: vs)).toArray[0]? = some (Value.type "tuple") := by simp
  rw [h0]
  simp only [hall, if_true]
  exact wpAny_pure (wpAny_pure h)
end
section
variable {prog : Program} {w : World} {A : Around} {E : Value → Shared → Prop} {s : Shared}
theorem oneLt_tup {l b : Addr} {items items2 : Array Value} {ns ms : List Int} {Q : Bool → Shared → Prop} (hl : IsTup s.heap l items) (hb : IsTup s.heap b items2) (hi : IntsAre items.toList ns) (hj : IntsAre items2.toList ms) (hu : A.units < cLine)
    (h : Q (HT.lexLt ns ms) s) : wpAny (model prog w) A (oneLt' true (.ref l) (.ref b)) Q E s := by
  obtain ⟨⟨cls, dd, data, sl⟩, ho, hc, n, hd⟩ := id hl
  obtain ⟨⟨cls2, dd2, data2, sl2⟩, ho2, hc2, n2, hd2⟩ := id hb
  simp only at hc hd hc2 hd2
  subst hc hd hc2 hd2
  rw [oneLt'_eq]
  simp only [if_true]
  refine wpAny_bind (wpAny_cRoomFor hu ?_)
  refine wpAny_bind (wpAny_callSpecialIfBound?_slot ⟨_, ho, rfl⟩ PySem.F.slot_tuple_lt (call_meets PySem.F.slot_tuple_lt ⟨_, ho, rfl⟩ PySem.F.entry_tuple_lt (PySem.F.args_tuple_lt_2 _ _) (HT.tuple_lt_ints l b items items2 n n2 dd dd2 sl sl2 ns ms hi hj) ⟨ho, ho2, ?_⟩))
  exact wpAny_truthy_bool h
end
section
variable {X : Cx}
def rSortX (K : PySem.W.Frag) : List V → Hp → VK → Prop := fun vs H Q => ∃ (a : Addr) (xs : List V) (cs : List (List Int)), vs = [V.ref a] ∧ SqL K H a xs ∧ All2 (TupI K H) xs cs ∧ cs.head? = some [] ∧
  ∀ (ys : List V) (ds : List (List Int)) (p : Addr), All2 (TupI K H) ys ds → ds.Perm cs → ds.Pairwise (fun x y => HT.lexLt y x = false) → H p = none → Q (.ref p) (upd H p (.lst ys))
theorem All2.of_map {α : Type} {R : V → α → Prop} {β : Type} (f : β → V) (g : β → α) : ∀ (l : List β), (∀ b ∈ l, R (f b) (g b)) → All2 R (l.map f) (l.map g)
  | [], _ => True.intro
  | b :: l, h => ⟨h b List.mem_cons_self, All2.of_map f g l fun c hc => h c (List.mem_cons_of_mem _ hc)⟩
theorem All2.map_eq {α β : Type} {R : V → α → Prop} (f : β → V) (g : β → α) (hg : ∀ b a, R (f b) a → g b = a) : ∀ {l : List β} {as : List α}, All2 R (l.map f) as → l.map g = as
  | [], [], _ => rfl
  | b :: l, a :: as, h => by
    rw [List.map_cons, hg b a h.1, All2.map_eq f g hg h.2]
  | [], _ :: _, h => h.elim
  | _ :: _, [], h => h.elim
theorem cr_sortX (hu : X.A.units + 64 < cLine) : CallR X (.builtin "sorted") (rSortX X.K) := by
  intro pins s σ H vs us Q I r h
  obtain ⟨a, xs, cs, rfl, hs, hA, h0, q⟩ := h
  obtain ⟨its, rv, hl, hz⟩ := I.list hs
  obtain ⟨u, rfl, ru⟩ := vals1 r
  obtain rfl : u = Value.ref a := ru
  obtain ⟨e1, e2⟩ := refs_back rv fun x m => by
    obtain ⟨i, hi, e⟩ := List.mem_iff_getElem.mp m
    obtain ⟨ns, _, t, ht, _⟩ := hA.get (i := i) (x := x) (by rw [List.getElem?_eq_getElem hi, e])
    exact ⟨t, ht⟩
  subst e1
  have hk : ∀ (v : Value) (ns : List Int), TupI X.K H (backV v) ns → _root_.TS.TupInts s.heap v ns := fun v ns hv => by
    obtain ⟨t, e, ht⟩ := hv
    cases v with
    | ref b =>
      cases e
      exact tupI_raw I ht
    | _ => cases e
  have key : ∀ v ∈ its, ∃ ns, TupI X.K H (backV v) ns ∧ _root_.TS.TupInts s.heap v ns := fun v hv => by
    obtain ⟨i, hi, e⟩ := List.mem_iff_getElem.mp hv
    obtain ⟨ns, _, hn⟩ := hA.get (i := i) (x := backV v) (by rw [List.getElem?_map, List.getElem?_eq_getElem hi, e]; rfl)
    exact ⟨ns, hn, hk v ns hn⟩
  have hcs : its.map (_root_.TS.intsOf s.heap) = cs := All2.map_eq backV (_root_.TS.intsOf s.heap) (fun v ns hv => (hk v ns hv).ints) hA
  refine SrtO.sorted_ord (ltv := fun v u => HT.lexLt (_root_.TS.intsOf s.heap v) (_root_.TS.intsOf s.heap u)) ⟨fun x y => lex_asym _ _, fun x y z => lex_tr _ _ _⟩ hl.isList (by rw [List.length_map] at hz; exact hz) (fun h2 h₁ a' ha kk h' keep => ?_) fun out hso hst => ?_
  · have tk : ∀ b o, s.heap.get? b = some o → o.cls = .type "tuple" → h'.get? b = some o := fun b o e c => keep b o (kk b o e).1 (kk b o e).2
    have key' : ∀ v ∈ its, ∃ b xs, v = .ref b ∧ IsTup h' b xs ∧ IntsAre xs.toList (_root_.TS.intsOf s.heap v) := fun v hv => by
      obtain ⟨ns, _, hn⟩ := key v hv
      obtain ⟨b, ys, e, h1, h2⟩ := hn.keeps tk
      rw [hn.ints]
      exact ⟨b, ys, e, h1, h2⟩
    refine ⟨oneType', fun Q E hq => ?_, fun p q' hm hm' => ?_⟩
    · cases its with
      | nil => simp at h2
      | cons v r =>
        obtain ⟨b, ys, e, hb, hi⟩ := key' v List.mem_cons_self
        have hv : _root_.TS.intsOf s.heap v = [] := by
          rw [← hcs] at h0
          exact Option.some.inj h0
        rw [hv] at hi
        have hy : ys = #[] := by
          cases hi' : ys.toList with
          | nil => exact Array.toList_eq_nil_iff.mp hi'
          | cons _ _ => rw [hi'] at hi; cases hi
        subst hy
        exact kind_tups (s := { s with heap := h' }) e hb (fun u hu => by
          obtain ⟨c, zs, e', hc, _⟩ := key' u (List.mem_cons_of_mem _ hu)
          exact ⟨c, zs, e', hc⟩) hq
    · obtain ⟨b, ys, e, hb, hi⟩ := key' _ hm
      obtain ⟨b', ys', e', hb', hi'⟩ := key' _ hm'
      show wpAny _ _ (keyLt' oneType' p.1 q'.1) (fun r s' => s' = _ ∧ r = HT.lexLt (_root_.TS.intsOf s.heap p.1) (_root_.TS.intsOf s.heap q'.1)) _ _
      generalize _root_.TS.intsOf s.heap p.1 = n1 at hi ⊢
      generalize _root_.TS.intsOf s.heap q'.1 = n2 at hi' ⊢
      rw [e, e', keyLt'_oneType]
      exact oneLt_tup hb hb' hi hi' (by show X.A.units + 1 + 1 < cLine; omega) ⟨rfl, rfl⟩
  · obtain ⟨ep, he'⟩ := sortedAll_at s.heap its out.toArray
    have h3 : ∀ u ∈ out, ∃ a, u = Value.ref a := fun u hu => e2 u (hst.perm.mem_iff.mp hu)
    have hlen : (out.map backV).length ≤ sizeLine := by
      rw [List.length_map, hst.perm.length_eq]
      rw [List.length_map] at hz
      exact hz
    refine ⟨.ref _, upd H (s.heap.objs.size + 1) (.lst (out.map backV)), I.laid (t' := s.toks) (fun _ _ => sortedAll_old) (Nat.le_succ _) ⟨hlen, out, ep, vals_back h3, he'⟩, rfl, q _ (out.map (_root_.TS.intsOf s.heap)) _ (All2.of_map backV _ out fun v hv => ?_) ?_ (List.pairwise_map.mpr hso) (I.hok.fresh (Nat.le_succ _))⟩
    · obtain ⟨ns, h1, h2⟩ := key v (hst.perm.mem_iff.mp hv)
      rw [h2.ints]
      exact h1
    · rw [← hcs]
      exact hst.perm.map _
end
/-! ### sorted(xs) of lists of whole numbers -/
theorem first_shift (e r : Nat → Bool) (fin : Bool) : ∀ l : List Nat, PySem.SeqAt.firstLt e r fin (l.map Nat.succ) = PySem.SeqAt.firstLt (fun j => e (j + 1)) (fun j => r (j + 1)) fin l
  | [] => rfl
  | j :: l => by
    rw [List.map_cons]
    unfold PySem.SeqAt.firstLt
    rw [first_shift e r fin l]
theorem first_lex : ∀ (ns ms : List Int), PySem.SeqAt.firstLt (fun j => ns.getD j 0 == ms.getD j 0) (fun j => decide (ns.getD j 0 < ms.getD j 0)) (decide (ns.length < ms.length)) (List.range (min ns.length ms.length)) = HT.lexLt ns ms
  | [], [] => rfl
  | [], _ :: _ => by simp [PySem.SeqAt.firstLt, HT.lexLt]
  | _ :: _, [] => by simp [PySem.SeqAt.firstLt, HT.lexLt]
  | a :: ns, b :: ms => by
    have ih := first_lex ns ms
    have e : min (a :: ns).length (b :: ms).length = min ns.length ms.length + 1 := by simp only [List.length_cons]; omega
    rw [e, List.range_succ_eq_map, HT.lexLt_cons]
    unfold PySem.SeqAt.firstLt
    rw [first_shift]
    simp only [List.getD_cons_zero, List.getD_cons_succ, List.length_cons, Nat.add_lt_add_iff_right, beq_iff_eq]
    rw [ih]
theorem gd_at {l : List Int} {j : Nat} (h : j < l.length) : l.getD j 0 = l[j] := by
  rw [List.getD_eq_getElem?_getD, List.getElem?_eq_getElem h]
  rfl
/-- the whole numbers of a list, on the heap -/
def LstInts (h : Heap) (v : Value) (ns : List Int) : Prop := ∃ a xs, v = .ref a ∧ h.IsList a xs ∧ IntsAre xs.toList ns
section
variable {prog : Program} {w : World} {A : Around} {E : Value → Shared → Prop} {s : Shared}
theorem oneLt_lst {l b : Addr} {xs ys : Array Value} {ns ms : List Int} {Q : Bool → Shared → Prop} (hl : s.heap.IsList l xs) (hb : s.heap.IsList b ys) (hi : IntsAre xs.toList ns) (hj : IntsAre ys.toList ms) (hu : A.units < cLine)
    (h : Q (HT.lexLt ns ms) s) : wpAny (model prog w) A (oneLt' true (.ref l) (.ref b)) Q E s := by
  have z1 : xs.size = ns.length := by rw [← hi.length]; simp
  have z2 : ys.size = ms.length := by rw [← hj.length]; simp
  obtain ⟨o, ho, hc, _⟩ := id hl
  rw [oneLt'_eq]
  simp only [if_true]
  refine wpAny_bind (wpAny_cRoomFor hu ?_)
  refine wpAny_bind (wpAny_callSpecialIfBound?_slot (T := "list") ⟨_, ho, hc⟩ PySem.F.slot_list_lt (PySem.SeqAt.call_list_lt (e := fun j => ns.getD j 0 == ms.getD j 0) (r := fun j => decide (ns.getD j 0 < ms.getD j 0)) hl hb (fun j j1 j2 => ?_) (fun j j1 j2 hne => ?_) ?_))
  · have k1 : j < ns.length := z1 ▸ j1
    have k2 : j < ms.length := z2 ▸ j2
    obtain ⟨t, e1⟩ := hi.get j _ (List.getElem?_eq_getElem k1)
    obtain ⟨u, e2⟩ := hj.get j _ (List.getElem?_eq_getElem k2)
    have g1 : xs[j] = .int ns[j] t := by simpa [j1] using e1
    have g2 : ys[j] = .int ms[j] u := by simpa [j2] using e2
    rw [g1, g2, gd_at k1, gd_at k2]
    exact PySem.SeqAt.EqAt.int_int _ _ _ _
  · have k1 : j < ns.length := z1 ▸ j1
    have k2 : j < ms.length := z2 ▸ j2
    obtain ⟨t, e1⟩ := hi.get j _ (List.getElem?_eq_getElem k1)
    obtain ⟨u, e2⟩ := hj.get j _ (List.getElem?_eq_getElem k2)
    have g1 : xs[j] = .int ns[j] t := by simpa [j1] using e1
    have g2 : ys[j] = .int ms[j] u := by simpa [j2] using e2
    rw [g1, g2, gd_at k1, gd_at k2]
    exact fun prog w E Q h => HT.rcLt_int _ _ _ _ _ _ prog w E Q h
  · rw [z1, z2, first_lex]
    exact wpAny_truthy_bool h
end
section
variable {X : Cx}
/-- sorted(xs), xs a list of lists of whole numbers: the same lists, rising -/
def rSortLL (K : PySem.W.Frag) : List V → Hp → VK → Prop := fun vs H Q => ∃ (a : Addr) (L : List (Addr × List Int)), vs = [V.ref a] ∧ SqL K H a (L.map fun p => V.ref p.1) ∧ (∀ p ∈ L, SqL K H p.1 (p.2.map V.int)) ∧
  ∀ (L' : List (Addr × List Int)) (p : Addr), L'.Perm L → L'.Pairwise (fun x y => HT.lexLt y.2 x.2 = false) → H p = none → Q (.ref p) (upd H p (.lst (L'.map fun p => V.ref p.1)))
def adr : Value → Addr
  | .ref a => a
  | _ => 0
theorem cr_sortLL (hu : X.A.units + 64 < cLine) : CallR X (.builtin "sorted") (rSortLL X.K) := by
  intro pins s σ H vs us Q I r h
  obtain ⟨a, L, rfl, hs, hA, q⟩ := h
  rw [Vals.ref1 r]
  obtain ⟨its, rv, hl, hz⟩ := I.list hs
  obtain rfl := refs_of_vals rv
  have raw : ∀ p ∈ L, LstInts s.heap (.ref p.1) p.2 := fun p hp => by
    obtain ⟨xs, r1, h1, _⟩ := I.list (hA p hp)
    exact ⟨p.1, xs.toArray, rfl, h1.isList, by simpa using ints_of_vals r1⟩
  have intsE : ∀ p ∈ L, _root_.TS.intsOf s.heap (.ref p.1) = p.2 := fun p hp => by
    obtain ⟨b, xs, e, ⟨o, ho, hc, n, hd⟩, hi⟩ := raw p hp
    cases e
    unfold _root_.TS.intsOf
    simp only [ho, hd]
    exact hi.nums
  have back : (L.map fun p => Value.ref p.1).map (fun v => (adr v, _root_.TS.intsOf s.heap v)) = L := by
    rw [List.map_map]
    conv => rhs; rw [← List.map_id L]
    exact List.map_congr_left fun p hp => by
      show (p.1, _root_.TS.intsOf s.heap (.ref p.1)) = p
      rw [intsE p hp]
  refine SrtO.sorted_ord (ltv := fun v u => HT.lexLt (_root_.TS.intsOf s.heap v) (_root_.TS.intsOf s.heap u)) ⟨fun x y => lex_asym _ _, fun x y z => lex_tr _ _ _⟩ hl.isList (by rw [List.length_map] at hz ⊢; exact hz) (fun h2 h₁ a' ha kk h' keep => ?_) fun out hso hst => ?_
  · have key : ∀ v ∈ L.map (fun p => Value.ref p.1), ∃ b xs, v = .ref b ∧ h'.IsList b xs ∧ IntsAre xs.toList (_root_.TS.intsOf s.heap v) := fun v hv => by
      obtain ⟨p, hp, rfl⟩ := List.mem_map.mp hv
      obtain ⟨b, xs, e, ⟨o, ho, hc, hd⟩, hi⟩ := raw p hp
      cases e
      rw [intsE p hp]
      exact ⟨p.1, xs, rfl, ⟨o, keep _ o (kk _ o ho).1 (kk _ o ho).2, hc, hd⟩, hi⟩
    refine ⟨oneType', fun Q E hq => ?_, fun p q' hm hm' => ?_⟩
    · refine PySem.W.kas_kind (T := .type "list") h2 (fun v hv => ?_) (by decide) (by decide) hq
      obtain ⟨b, xs, rfl, ⟨o, ho, hc, _⟩, _⟩ := key v hv
      rw [← hc]
      exact (PySem.W.Looks.ld ho).andThen .now
    · obtain ⟨b, ys, e, hb, hi⟩ := key _ hm
      obtain ⟨b', ys', e', hb', hi'⟩ := key _ hm'
      show wpAny _ _ (keyLt' oneType' p.1 q'.1) (fun r s' => s' = _ ∧ r = HT.lexLt (_root_.TS.intsOf s.heap p.1) (_root_.TS.intsOf s.heap q'.1)) _ _
      generalize _root_.TS.intsOf s.heap p.1 = n1 at hi ⊢
      generalize _root_.TS.intsOf s.heap q'.1 = n2 at hi' ⊢
      rw [e, e', keyLt'_oneType]
      exact oneLt_lst hb hb' hi hi' (by show X.A.units + 1 + 1 < cLine; omega) ⟨rfl, rfl⟩
  · obtain ⟨ep, he'⟩ := sortedAll_at s.heap (L.map fun p => Value.ref p.1) out.toArray
    have pm : (out.map fun v => (adr v, _root_.TS.intsOf s.heap v)).Perm L := by
      have := hst.perm.map (fun v => (adr v, _root_.TS.intsOf s.heap v))
      rw [back] at this
      exact this
    have ho : out = (out.map fun v => (adr v, _root_.TS.intsOf s.heap v)).map fun p => Value.ref p.1 := by
      rw [List.map_map]
      conv => lhs; rw [← List.map_id out]
      exact List.map_congr_left fun v hv => by
        obtain ⟨p, _, rfl⟩ := List.mem_map.mp (hst.perm.mem_iff.mp hv)
        rfl
    have pw : (out.map fun v => (adr v, _root_.TS.intsOf s.heap v)).Pairwise (fun x y => HT.lexLt y.2 x.2 = false) := List.pairwise_map.mpr hso
    generalize (out.map fun v => (adr v, _root_.TS.intsOf s.heap v)) = L' at pm ho pw
    subst ho
    have hlen : (L'.map fun p => V.ref p.1).length ≤ sizeLine := by
      rw [List.length_map, pm.length_eq]
      rw [List.length_map] at hz
      exact hz
    exact ⟨.ref _, upd H (s.heap.objs.size + 1) (.lst (L'.map fun p => V.ref p.1)), I.laid (t' := s.toks) (fun _ _ => sortedAll_old) (Nat.le_succ _) ⟨hlen, _, ep, vals_of_refs L', he'⟩, rfl, q L' _ pm pw (I.hok.fresh (Nat.le_succ _))⟩
end
/-! ### parts: the mathematics -/
/-- whoever meets it lies in it -/
def Clo (fs : List (List Nat)) (S : Nat → Prop) : Prop := ∀ f ∈ fs, (∃ i, i ∈ f ∧ S i) → ∀ i ∈ f, S i
def up6 (p : Nat → Bool) : List Nat := (List.range 6).filter p
theorem up6_mem {p : Nat → Bool} {i : Nat} : i ∈ up6 p ↔ i < 6 ∧ p i = true := by
  unfold up6
  rw [List.mem_filter, List.mem_range]
def Can (X : List Nat) : Prop := X = up6 fun i => decide (i ∈ X)
theorem can_up (p : Nat → Bool) : Can (up6 p) := by
  unfold Can
  conv => lhs; unfold up6
  unfold up6
  refine List.filter_congr fun i hi => ?_
  cases e : p i with
  | true => exact (decide_eq_true (List.mem_filter.mpr ⟨hi, e⟩)).symm
  | false => exact (decide_eq_false fun z => by rw [(List.mem_filter.mp z).2] at e; cases e).symm
theorem can_one {p : Nat} (h : p < 6) : Can [p] := by
  have : ∀ p, p < 6 → [p] = up6 fun i => decide (i ∈ [p]) := by decide
  exact this p h
theorem can_ext {X Y : List Nat} (hX : Can X) (hY : Can Y) (e : ∀ i, i ∈ X ↔ i ∈ Y) : X = Y := by
  rw [hX, hY]
  exact List.filter_congr fun i _ => by simp only [e i]
theorem can_lt {X : List Nat} (hX : Can X) {i : Nat} (h : i ∈ X) : i < 6 := by
  rw [hX] at h
  exact (up6_mem.mp h).1
theorem can_len {X Y : List Nat} (hX : Can X) (hY : Can Y) (e : ∀ i, i ∈ X → i ∈ Y) (h : ¬ ∀ i, i ∈ Y → i ∈ X) : X.length < Y.length := by
  have sub : X.Sublist Y := by
    have : X = Y.filter fun i => decide (i ∈ X) := by
      conv => rhs; rw [hY]
      unfold up6
      rw [List.filter_filter]
      conv => lhs; rw [hX]
      refine List.filter_congr fun i _ => ?_
      by_cases q : i ∈ X
      · simp [q, e i q]
      · simp [q]
    rw [this]
    exact List.filter_sublist
  have le := sub.length_le
  rcases Nat.lt_or_ge X.length Y.length with z | z
  · exact z
  · have := sub.eq_of_length_le z
    subst this
    exact absurd (fun i h => h) h
def stepP (X f : List Nat) : List Nat := if (f.any fun i => decide (i ∈ X)) = true then up6 fun i => decide (i ∈ X ++ f) else X
theorem step_mem {X f : List Nat} (hX : Can X) (hf : ∀ i ∈ f, i < 6) (i : Nat) : i ∈ stepP X f ↔ i ∈ X ∨ ((∃ j, j ∈ f ∧ j ∈ X) ∧ i ∈ f) := by
  unfold stepP
  by_cases z : (f.any fun i => decide (i ∈ X)) = true
  · rw [if_pos z, up6_mem, decide_eq_true_eq, List.mem_append]
    obtain ⟨j, hj, hx⟩ := List.any_eq_true.mp z
    have hx := of_decide_eq_true hx
    constructor
    · rintro ⟨_, h | h⟩
      · exact .inl h
      · exact .inr ⟨⟨j, hj, hx⟩, h⟩
    · rintro (h | ⟨_, h⟩)
      · exact ⟨can_lt hX h, .inl h⟩
      · exact ⟨hf i h, .inr h⟩
  · rw [if_neg z]
    constructor
    · exact .inl
    · rintro (h | ⟨⟨j, hj, hx⟩, _⟩)
      · exact h
      · exact absurd (List.any_eq_true.mpr ⟨j, hj, decide_eq_true hx⟩) z
theorem step_can {X f : List Nat} (hX : Can X) : Can (stepP X f) := by
  unfold stepP
  split
  · exact can_up _
  · exact hX
theorem fold_can : ∀ (fs : List (List Nat)) {X : List Nat}, Can X → Can (fs.foldl stepP X)
  | [], _, h => h
  | f :: fs, _, h => fold_can fs (step_can h)
theorem fold_grow : ∀ (fs : List (List Nat)) {X : List Nat}, (∀ f ∈ fs, ∀ i ∈ f, i < 6) → Can X → ∀ {i}, i ∈ X → i ∈ fs.foldl stepP X
  | [], _, _, _, _, h => h
  | f :: fs, X, hf, hX, i, h => fold_grow fs (fun g hg => hf g (List.mem_cons_of_mem _ hg)) (step_can hX) ((step_mem hX (hf f List.mem_cons_self) i).mpr (.inl h))
theorem fold_min {S : Nat → Prop} : ∀ (fs : List (List Nat)) {X : List Nat}, (∀ f ∈ fs, ∀ i ∈ f, i < 6) → Clo fs S → Can X → (∀ i ∈ X, S i) → ∀ i ∈ fs.foldl stepP X, S i
  | [], _, _, _, _, h => h
  | f :: fs, X, hf, hc, hX, h => fold_min fs (fun g hg => hf g (List.mem_cons_of_mem _ hg)) (fun g hg => hc g (List.mem_cons_of_mem _ hg)) (step_can hX) fun i hi => by
    rcases (step_mem hX (hf f List.mem_cons_self) i).mp hi with a | ⟨⟨j, hj, hx⟩, a⟩
    · exact h i a
    · exact hc f List.mem_cons_self ⟨j, hj, h j hx⟩ i a
theorem fold_fix : ∀ (fs : List (List Nat)) {X : List Nat}, (∀ f ∈ fs, ∀ i ∈ f, i < 6) → Can X → (∀ i ∈ fs.foldl stepP X, i ∈ X) → Clo fs (· ∈ X)
  | [], _, _, _, _ => fun f hf => by cases hf
  | f :: fs, X, hf, hX, h => by
    have hf1 := hf f List.mem_cons_self
    have hf2 : ∀ g ∈ fs, ∀ i ∈ g, i < 6 := fun g hg => hf g (List.mem_cons_of_mem _ hg)
    have a : ∀ i ∈ stepP X f, i ∈ X := fun i hi => h i (fold_grow fs hf2 (step_can hX) hi)
    have e : stepP X f = X := can_ext (step_can hX) hX fun i => ⟨a i, fun q => (step_mem hX hf1 i).mpr (.inl q)⟩
    have ih := fold_fix fs hf2 hX (fun i hi => h i (by show i ∈ fs.foldl stepP (stepP X f); rw [e]; exact hi))
    intro g hg m i hi
    rcases List.mem_cons.mp hg with rfl | hg
    · exact a i ((step_mem hX hf1 i).mpr (.inr ⟨m, hi⟩))
    · exact ih g hg m i hi
def walkP (fs : List (List Nat)) (p : Nat) : Nat → List Nat
  | 0 => [p]
  | k + 1 => fs.foldl stepP (walkP fs p k)
section
variable {fs : List (List Nat)} {p : Nat}
theorem walk_can (hp : p < 6) : ∀ k, Can (walkP fs p k)
  | 0 => can_one hp
  | k + 1 => fold_can fs (walk_can hp k)
theorem walk_in (hf : ∀ f ∈ fs, ∀ i ∈ f, i < 6) (hp : p < 6) : ∀ k, p ∈ walkP fs p k
  | 0 => List.mem_singleton.mpr rfl
  | k + 1 => fold_grow fs hf (walk_can hp k) (walk_in hf hp k)
theorem walk_min {S : Nat → Prop} (hf : ∀ f ∈ fs, ∀ i ∈ f, i < 6) (hp : p < 6) (hc : Clo fs S) (h : S p) : ∀ k, ∀ i ∈ walkP fs p k, S i
  | 0 => fun i hi => by rw [List.mem_singleton.mp hi]; exact h
  | k + 1 => fold_min fs hf hc (walk_can hp k) (walk_min hf hp hc h k)
theorem walk_len (hf : ∀ f ∈ fs, ∀ i ∈ f, i < 6) (hp : p < 6) : ∀ k, Clo fs (· ∈ walkP fs p k) ∨ k + 1 ≤ (walkP fs p k).length
  | 0 => .inr (Nat.le_refl _)
  | k + 1 => by
    have hk := walk_can (fs := fs) hp k
    have hk1 := walk_can (fs := fs) hp (k + 1)
    have up : ∀ i, i ∈ walkP fs p k → i ∈ walkP fs p (k + 1) := fun i hi => fold_grow fs hf hk hi
    by_cases c : ∀ i, i ∈ walkP fs p (k + 1) → i ∈ walkP fs p k
    · have e := can_ext hk hk1 fun i => ⟨up i, c i⟩
      left
      rw [← e]
      exact fold_fix fs hf hk c
    · rcases walk_len hf hp k with q | q
      · exact absurd (fold_min fs hf q hk fun i hi => hi) c
      · have := can_len hk hk1 up c
        exact .inr (by omega)
theorem can_six {X : List Nat} (h : Can X) : X.length ≤ 6 := by
  rw [h]
  exact Nat.le_trans (List.length_filter_le _ _) (by simp)
theorem walk_clo (hf : ∀ f ∈ fs, ∀ i ∈ f, i < 6) (hp : p < 6) : Clo fs (· ∈ walkP fs p 6) := by
  rcases walk_len hf hp 6 with h | h
  · exact h
  · have := can_six (walk_can (fs := fs) hp 6)
    omega
end
/-- numbers with no bit in common are put together by adding -/
theorem add_or {a b : Nat} (h : a &&& b = 0) : a + b = a ||| b := by
  have la : a < 2 ^ (a + b + 1) := Nat.lt_of_le_of_lt (by omega) (Nat.lt_two_pow_self (n := a + b + 1))
  have lb : b < 2 ^ (a + b + 1) := Nat.lt_of_le_of_lt (by omega) (Nat.lt_two_pow_self (n := a + b + 1))
  have lab : a + b < 2 ^ (a + b + 1) := Nat.lt_of_le_of_lt (by omega) (Nat.lt_two_pow_self (n := a + b + 1))
  have := BitVec.add_eq_or_of_and_eq_zero (BitVec.ofNat (a + b + 1) a) (BitVec.ofNat (a + b + 1) b) (by
    apply BitVec.eq_of_toNat_eq
    rw [BitVec.toNat_and, BitVec.toNat_ofNat, BitVec.toNat_ofNat, Nat.mod_eq_of_lt la, Nat.mod_eq_of_lt lb, h]
    rfl)
  have := congrArg BitVec.toNat this
  rw [BitVec.toNat_add, BitVec.toNat_or, BitVec.toNat_ofNat, BitVec.toNat_ofNat, Nat.mod_eq_of_lt la, Nat.mod_eq_of_lt lb, Nat.mod_eq_of_lt lab] at this
  exact this
theorem sum_dj : ∀ (l : List Nat), l.Pairwise (fun a b => a &&& b = 0) → ∀ i, l.sum.testBit i = true ↔ ∃ g, g ∈ l ∧ g.testBit i = true
  | [], _, i => by simp
  | a :: l, h, i => by
    have h2 := List.pairwise_cons.mp h
    have ih := sum_dj l h2.2
    have z : a &&& l.sum = 0 := by
      apply Nat.eq_of_testBit_eq
      intro j
      rw [Nat.testBit_and, Nat.zero_testBit]
      cases e : l.sum.testBit j with
      | false => simp
      | true =>
        obtain ⟨g, hg, hb⟩ := (ih j).mp e
        have := congrArg (fun x => Nat.testBit x j) (h2.1 g hg)
        simp only [Nat.testBit_and, hb, Nat.zero_testBit] at this
        exact this
    rw [List.sum_cons, add_or z, Nat.testBit_or, Bool.or_eq_true, ih i]
    constructor
    · rintro (q | ⟨g, hg, q⟩)
      · exact ⟨a, List.mem_cons_self, q⟩
      · exact ⟨g, List.mem_cons_of_mem _ hg, q⟩
    · rintro ⟨g, hg, q⟩
      rcases List.mem_cons.mp hg with rfl | hg
      · exact .inl q
      · exact .inr ⟨g, hg, q⟩
theorem and_nz {a b : Nat} : a &&& b ≠ 0 ↔ ∃ i, a.testBit i = true ∧ b.testBit i = true := by
  constructor
  · intro h
    obtain ⟨i, hi⟩ := Nat.exists_testBit_of_ne_zero h
    rw [Nat.testBit_and, Bool.and_eq_true] at hi
    exact ⟨i, hi⟩
  · rintro ⟨i, h1, h2⟩ z
    have := congrArg (fun x => Nat.testBit x i) z
    simp [Nat.testBit_and, h1, h2] at this
theorem pw_two {l : List Nat} (h : l.Pairwise (fun a b => a &&& b = 0)) {a b : Nat} (ha : a ∈ l) (hb : b ∈ l) (ne : a ≠ b) : a &&& b = 0 := by
  induction l with
  | nil => cases ha
  | cons c l ih =>
    have h2 := List.pairwise_cons.mp h
    rcases List.mem_cons.mp ha with e1 | ha'
    · rcases List.mem_cons.mp hb with e2 | hb'
      · exact absurd (e1.trans e2.symm) ne
      · rw [e1]
        exact h2.1 b hb'
    · rcases List.mem_cons.mp hb with e2 | hb'
      · rw [e2, Nat.and_comm]
        exact h2.1 a ha'
      · exact ih h2.2 ha' hb'
/-- the groups with those made one that have some of these pads -/
def uniN (gs : List Nat) (m : Nat) : List Nat := (gs.filter fun g => decide (g &&& m = 0)) ++ [(gs.filter fun g => !decide (g &&& m = 0)).sum]
structure Grp (n : Nat) (fs : List (List Nat)) (gs : List Nat) : Prop where
  nz : ∀ g ∈ gs, ∃ i, g.testBit i = true
  lt : ∀ g ∈ gs, ∀ i, g.testBit i = true → i < n
  dj : gs.Pairwise (fun a b => a &&& b = 0)
  cov : ∀ i, i < n → ∃ g, g ∈ gs ∧ g.testBit i = true
  clo : ∀ g ∈ gs, Clo fs (fun i => g.testBit i = true)
  mn : ∀ g ∈ gs, ∀ S : Nat → Prop, Clo fs S → (∃ i, g.testBit i = true ∧ S i) → ∀ i, g.testBit i = true → S i
theorem grp_start (n : Nat) : Grp n [] ((List.range n).map fun p => 2 ^ p) := by
  have tb : ∀ p i, (2 ^ p).testBit i = true ↔ p = i := fun p i => by rw [Nat.testBit_two_pow, decide_eq_true_eq]
  refine ⟨fun g hg => ?_, fun g hg i hi => ?_, ?_, fun i hi => ?_, fun g hg f hf => (by cases hf), fun g hg S _ hs i hi => ?_⟩
  · obtain ⟨p, _, rfl⟩ := List.mem_map.mp hg
    exact ⟨p, (tb p p).mpr rfl⟩
  · obtain ⟨p, hp, rfl⟩ := List.mem_map.mp hg
    rw [← (tb p i).mp hi]
    exact List.mem_range.mp hp
  · rw [List.pairwise_map]
    refine List.Pairwise.imp ?_ (List.pairwise_lt_range (n := n))
    intro a b hab
    refine Classical.byContradiction fun z => ?_
    obtain ⟨i, h1, h2⟩ := and_nz.mp z
    have := (tb a i).mp h1
    have := (tb b i).mp h2
    omega
  · exact ⟨2 ^ i, List.mem_map.mpr ⟨i, List.mem_range.mpr hi, rfl⟩, (tb i i).mpr rfl⟩
  · obtain ⟨p, _, rfl⟩ := List.mem_map.mp hg
    obtain ⟨j, h1, h2⟩ := hs
    rw [← (tb p i).mp hi, (tb p j).mp h1]
    exact h2
theorem grp_step {n : Nat} {fs : List (List Nat)} {gs : List Nat} {f : List Nat} {m : Nat} (G : Grp n fs gs) (hne : f ≠ []) (hl : ∀ i ∈ f, i < n) (hm : ∀ i, m.testBit i = true ↔ i ∈ f) : Grp n (fs ++ [f]) (uniN gs m) := by
  have hT : ∀ g, g ∈ (gs.filter fun g => !decide (g &&& m = 0)) ↔ g ∈ gs ∧ ∃ j, g.testBit j = true ∧ j ∈ f := fun g => by
    rw [List.mem_filter, Bool.not_eq_true', decide_eq_false_iff_not]
    refine and_congr_right fun _ => ?_
    rw [show (¬ g &&& m = 0) ↔ g &&& m ≠ 0 from Iff.rfl, and_nz]
    exact exists_congr fun j => and_congr_right fun _ => hm j
  have hU : ∀ g, g ∈ (gs.filter fun g => decide (g &&& m = 0)) ↔ g ∈ gs ∧ ¬ ∃ j, g.testBit j = true ∧ j ∈ f := fun g => by
    rw [List.mem_filter, decide_eq_true_eq]
    refine and_congr_right fun _ => ?_
    rw [show (g &&& m = 0) ↔ ¬ g &&& m ≠ 0 from (Classical.not_not).symm, and_nz]
    exact not_congr (exists_congr fun j => and_congr_right fun _ => hm j)
  have hu := sum_dj (gs.filter fun g => !decide (g &&& m = 0)) (G.dj.sublist List.filter_sublist)
  have hM : ∀ g, g ∈ uniN gs m ↔ (g ∈ (gs.filter fun g => decide (g &&& m = 0)) ∨ g = (gs.filter fun g => !decide (g &&& m = 0)).sum) := fun g => by
    unfold uniN
    rw [List.mem_append, List.mem_singleton]
  have hd : (uniN gs m).Pairwise (fun a b => a &&& b = 0) := by
    unfold uniN
    refine List.pairwise_append.mpr ⟨G.dj.sublist List.filter_sublist, List.pairwise_singleton _ _, fun a ha b hb => ?_⟩
    rw [List.mem_singleton.mp hb]
    refine Classical.byContradiction fun z => ?_
    obtain ⟨i, h1, h2⟩ := and_nz.mp z
    obtain ⟨g, hg, h3⟩ := (hu i).mp h2
    obtain ⟨g1, g2⟩ := (hT g).mp hg
    obtain ⟨a1, a2⟩ := (hU a).mp ha
    have ne : a ≠ g := fun e => a2 (e ▸ g2)
    exact and_nz.mpr ⟨i, h1, h3⟩ (pw_two G.dj a1 g1 ne)
  generalize (gs.filter fun g => !decide (g &&& m = 0)).sum = u at hu hM
  generalize (gs.filter fun g => !decide (g &&& m = 0)) = T at hT hu
  generalize (gs.filter fun g => decide (g &&& m = 0)) = W at hU hM
  have inU : ∀ i ∈ f, u.testBit i = true := fun i hi => by
    obtain ⟨g, hg, hb⟩ := G.cov i (hl i hi)
    exact (hu i).mpr ⟨g, (hT g).mpr ⟨hg, i, hb, hi⟩, hb⟩
  refine ⟨fun g hg => ?_, fun g hg i hi => ?_, hd, fun i hi => ?_, fun g hg f' hf' ⟨i, hi, hb⟩ j hj => ?_, fun g hg S hS hm' i hi => ?_⟩
  · rcases (hM g).mp hg with h | rfl
    · exact G.nz g ((hU g).mp h).1
    · cases f with
      | nil => exact absurd rfl hne
      | cons i _ => exact ⟨i, inU i List.mem_cons_self⟩
  · rcases (hM g).mp hg with h | rfl
    · exact G.lt g ((hU g).mp h).1 i hi
    · obtain ⟨t, ht, hb⟩ := (hu i).mp hi
      exact G.lt t ((hT t).mp ht).1 i hb
  · obtain ⟨g, hg, hb⟩ := G.cov i hi
    by_cases q : ∃ j, g.testBit j = true ∧ j ∈ f
    · exact ⟨u, (hM u).mpr (.inr rfl), (hu i).mpr ⟨g, (hT g).mpr ⟨hg, q⟩, hb⟩⟩
    · exact ⟨g, (hM g).mpr (.inl ((hU g).mpr ⟨hg, q⟩)), hb⟩
  · have hb : g.testBit i = true := hb
    show g.testBit j = true
    rcases (hM g).mp hg with h | rfl
    · obtain ⟨h1, h2⟩ := (hU g).mp h
      rcases List.mem_append.mp hf' with q | q
      · exact G.clo g h1 f' q ⟨i, hi, hb⟩ j hj
      · rw [List.mem_singleton.mp q] at hi
        exact absurd ⟨i, hb, hi⟩ h2
    · rcases List.mem_append.mp hf' with q | q
      · obtain ⟨t, ht, hb2⟩ := (hu i).mp hb
        have := G.clo t ((hT t).mp ht).1 f' q ⟨i, hi, hb2⟩ j hj
        exact (hu j).mpr ⟨t, ht, this⟩
      · rw [List.mem_singleton.mp q] at hj
        exact inU j hj
  · have hS0 : Clo fs S := fun f' hf' => hS f' (List.mem_append_left _ hf')
    rcases (hM g).mp hg with h | rfl
    · exact G.mn g ((hU g).mp h).1 S hS0 hm' i hi
    · obtain ⟨j, hj, hs⟩ := hm'
      obtain ⟨t, ht, hb⟩ := (hu j).mp hj
      obtain ⟨t1, k, hk, hkf⟩ := (hT t).mp ht
      have sk := G.mn t t1 S hS0 ⟨j, hb, hs⟩ k hk
      have sf := hS f (List.mem_append_right _ (List.mem_singleton.mpr rfl)) ⟨k, hkf, sk⟩
      obtain ⟨t', ht', hb'⟩ := (hu i).mp hi
      obtain ⟨t1', k', hk', hkf'⟩ := (hT t').mp ht'
      exact G.mn t' t1' S hS0 ⟨k', hk', sf k' hkf'⟩ i hb'
/-- the pads of such a set -/
def padsN (g : Nat) : List Nat := up6 fun i => g.testBit i
/-- the law's list -/
def lawPs (fs : List (List Nat)) : Nat → List (List Nat)
  | 0 => []
  | k + 1 => if walkP fs k 6 ∈ lawPs fs k then lawPs fs k else lawPs fs k ++ [walkP fs k 6]
theorem lawPs_mem (fs : List (List Nat)) : ∀ k x, x ∈ lawPs fs k ↔ ∃ p, p < k ∧ x = walkP fs p 6
  | 0, x => by
    constructor
    · intro h; cases h
    · rintro ⟨p, h, _⟩; omega
  | k + 1, x => by
    have ih := lawPs_mem fs k
    unfold lawPs
    split
    · rename_i q
      rw [ih x]
      constructor
      · rintro ⟨p, h, e⟩
        exact ⟨p, by omega, e⟩
      · rintro ⟨p, h, e⟩
        by_cases z : p = k
        · subst z
          rw [e]
          exact (ih _).mp q
        · exact ⟨p, by omega, e⟩
    · rw [List.mem_append, ih x, List.mem_singleton]
      constructor
      · rintro (⟨p, h, e⟩ | e)
        · exact ⟨p, by omega, e⟩
        · exact ⟨k, by omega, e⟩
      · rintro ⟨p, h, e⟩
        by_cases z : p = k
        · subst z
          exact .inr e
        · exact .inl ⟨p, by omega, e⟩
theorem lawPs_nodup (fs : List (List Nat)) : ∀ k, (lawPs fs k).Nodup
  | 0 => List.nodup_nil
  | k + 1 => by
    have ih := lawPs_nodup fs k
    unfold lawPs
    split
    · exact ih
    · rename_i q
      exact List.nodup_append.mpr ⟨ih, (by simp), fun a ha b hb e => q (by rw [← List.mem_singleton.mp hb, ← e]; exact ha)⟩
section
variable {fs : List (List Nat)}
theorem walk_same (hf : ∀ f ∈ fs, ∀ i ∈ f, i < 6) {p j : Nat} (hp : p < 6) (h : j ∈ walkP fs p 6) : walkP fs j 6 = walkP fs p 6 := by
  have hj := can_lt (walk_can (fs := fs) hp 6) h
  have sub : ∀ i, i ∈ walkP fs j 6 → i ∈ walkP fs p 6 := walk_min hf hj (walk_clo hf hp) h 6
  refine can_ext (walk_can hj 6) (walk_can hp 6) fun i => ⟨sub i, ?_⟩
  have back : p ∈ walkP fs j 6 := by
    refine Classical.byContradiction fun np => ?_
    have c : Clo fs fun i => i ∈ walkP fs p 6 ∧ i ∉ walkP fs j 6 := fun f hf' ⟨i, hi, h1, h2⟩ k hk => by
      refine ⟨walk_clo hf hp f hf' ⟨i, hi, h1⟩ k hk, fun z => h2 ?_⟩
      exact walk_clo hf hj f hf' ⟨k, hk, z⟩ i hi
    exact (walk_min hf hp c ⟨walk_in hf hp 6, np⟩ 6 j h).2 (walk_in hf hj 6)
  exact walk_min hf hp (walk_clo hf hj) back 6 i
theorem grp_walk {n : Nat} {gs : List Nat} (hn : n ≤ 6) (hf : ∀ f ∈ fs, ∀ i ∈ f, i < n) (G : Grp n fs gs) {g p : Nat} (hg : g ∈ gs) (hb : g.testBit p = true) : padsN g = walkP fs p 6 := by
  have hf6 : ∀ f ∈ fs, ∀ i ∈ f, i < 6 := fun f h i hi => by have := hf f h i hi; omega
  have hp : p < 6 := by have := G.lt g hg p hb; omega
  refine can_ext (can_up _) (walk_can hp 6) fun i => ?_
  unfold padsN
  rw [up6_mem]
  constructor
  · rintro ⟨_, h⟩
    exact G.mn g hg _ (walk_clo hf6 hp) ⟨p, hb, walk_in hf6 hp 6⟩ i h
  · intro h
    exact ⟨can_lt (walk_can hp 6) h, walk_min hf6 hp (G.clo g hg) hb 6 i h⟩
theorem parts_perm {n : Nat} {gs : List Nat} (hn : n ≤ 6) (hf : ∀ f ∈ fs, ∀ i ∈ f, i < n) (G : Grp n fs gs) : (gs.map padsN).Perm (lawPs fs n) := by
  have nd : (gs.map padsN).Nodup := by
    unfold List.Nodup
    rw [List.pairwise_map]
    refine (G.dj.imp_of_mem ?_)
    intro a b ha hb h e
    obtain ⟨i, hi⟩ := G.nz a ha
    have l6 : i < 6 := by have := G.lt a ha i hi; omega
    have : i ∈ padsN b := e ▸ up6_mem.mpr ⟨l6, hi⟩
    exact and_nz.mpr ⟨i, hi, (up6_mem.mp this).2⟩ h
  refine (List.perm_ext_iff_of_nodup nd (lawPs_nodup fs n)).mpr fun x => ?_
  rw [lawPs_mem, List.mem_map]
  constructor
  · rintro ⟨g, hg, rfl⟩
    obtain ⟨p, hp⟩ := G.nz g hg
    exact ⟨p, G.lt g hg p hp, grp_walk hn hf G hg hp⟩
  · rintro ⟨p, hp, rfl⟩
    obtain ⟨g, hg, hb⟩ := G.cov p hp
    exact ⟨g, hg, grp_walk hn hf G hg hb⟩
end
/-! ### the law's list rises -/
theorem can_rise {X : List Nat} (h : Can X) : X.Pairwise (· < ·) := by
  rw [h]
  exact List.Pairwise.sublist List.filter_sublist List.pairwise_lt_range
theorem lawPs_rise {fs : List (List Nat)} (hf : ∀ f ∈ fs, ∀ i ∈ f, i < 6) : ∀ k, k ≤ 6 → (lawPs fs k).Pairwise (fun x y => HT.lexLt (nI y) (nI x) = false)
  | 0, _ => List.Pairwise.nil
  | k + 1, hk => by
    have ih := lawPs_rise hf k (by omega)
    unfold lawPs
    split
    · exact ih
    · rename_i q
      have hk6 : k < 6 := by omega
      refine List.pairwise_append.mpr ⟨ih, List.pairwise_singleton _ _, fun x hx y hy => ?_⟩
      rw [List.mem_singleton.mp hy]
      obtain ⟨j, hj, rfl⟩ := (lawPs_mem fs k x).mp hx
      have hj6 : j < 6 := by omega
      have jin := walk_in hf hj6 6
      have kin := walk_in hf hk6 6
      have low : ∀ i ∈ walkP fs k 6, k ≤ i := fun i hi => by
        rcases Nat.lt_or_ge i k with z | z
        · exact absurd ((lawPs_mem fs k _).mpr ⟨i, z, (walk_same hf hk6 hi).symm⟩) q
        · exact z
      have rx := can_rise (walk_can (fs := fs) hj6 6)
      generalize walkP fs j 6 = x at jin rx
      generalize walkP fs k 6 = y at kin low
      cases x with
      | nil => cases jin
      | cons a x =>
        cases y with
        | nil => cases kin
        | cons b y =>
          have ha : a ≤ j := by
            rcases List.mem_cons.mp jin with e | e
            · omega
            · exact Nat.le_of_lt ((List.pairwise_cons.mp rx).1 j e)
          have hb : k ≤ b := low b List.mem_cons_self
          show HT.lexLt ((b : Int) :: nI y) ((a : Int) :: nI x) = false
          rw [HT.lexLt_cons, if_neg (by omega)]
          exact decide_eq_false (by omega)
theorem rise_uniq {a b : List Int} (ha : a.Pairwise (· < ·)) (hb : b.Pairwise (· < ·)) (e : ∀ k, k ∈ a ↔ k ∈ b) : a = b := by
  induction a generalizing b with
  | nil =>
    cases b with
    | nil => rfl
    | cons y b => exact absurd ((e y).mpr List.mem_cons_self) (by simp)
  | cons x a ih =>
    cases b with
    | nil => exact absurd ((e x).mp List.mem_cons_self) (by simp)
    | cons y b =>
      have a2 := List.pairwise_cons.mp ha
      have b2 := List.pairwise_cons.mp hb
      have exy : x = y := by
        rcases List.mem_cons.mp ((e x).mp List.mem_cons_self) with h | h
        · exact h
        · rcases List.mem_cons.mp ((e y).mpr List.mem_cons_self) with h' | h'
          · exact h'.symm
          · have := a2.1 y h'
            have := b2.1 x h
            omega
      subst exy
      rw [ih a2.2 b2.2 fun k => ?_]
      constructor
      · intro h
        rcases List.mem_cons.mp ((e k).mp (List.mem_cons_of_mem _ h)) with z | z
        · have := a2.1 k h
          omega
        · exact z
      · intro h
        rcases List.mem_cons.mp ((e k).mpr (List.mem_cons_of_mem _ h)) with z | z
        · have := b2.1 k h
          omega
        · exact z
/-! ### set(xs) of a list of whole numbers, with its order -/
/-- a set with nothing in it, as the machine makes one -/
abbrev bareS (w : World) : Obj :=
  { cls := .type "set", dict := none, data := .set #[] 0 (.fresh 0 0 (!w.params.followText "set-order")) }
section
variable {P : Program} {w : World} {A : Around} {E : Value → Shared → Prop} {s : Shared}
theorem set_of_ints {l : Addr} {items : Array Value} {ns : List Int} {Q : Value → Shared → Prop} (calm : A.handled = none) (hl : s.heap.IsList l items) (hi : IntsAre items.toList ns) (few : ns.length + 1 < scanBound)
    (q : ∀ (g : Heap) (tk c : Nat), c ≤ ns.length → (∀ b o, s.heap.get? b = some o → g.get? b = some o) → SetR w g s.heap.objs.size (fun j => decide (j ∈ ns)) c → Q (.ref s.heap.objs.size) { s with heap := g, toks := tk }) :
    wpAny (model P w) A (call (.type "set") [.ref l]) Q E s := by
  have size : items.size = ns.length := (Array.length_toList (xs := items)).symm.trans (IntsAre.length hi)
  obtain ⟨cl, rest, mro⟩ := F.called_set.mro
  have ft := F.called_set.notType
  have fm := F.called_set.made
  have fc := F.called_set.canCreate
  have fs := F.called_set.sub
  have fk := F.typeCall_set_1 (.ref l)
  refine wpAny_call <| codeAny_of_tree ?_
  show wpAny _ _ (callAny (.type "set") _) _ _ _
  refine wpAny_pure ⟨(Code.quiet_builtin _ (by decide +kernel)), codeAny_builtin F.entry_type_call ?_⟩
  rw [Around.under_plain (weight_type_call_type "set" [Value.ref l] []) rfl]
  repeat (any_goals (first | assumption | wp_step))
  refine codeAny_mono (code_set_led1 (.ref l) (E := E) (Q₁ := fun x u => x = .ref s.heap.objs.size ∧ u = { s with heap := s.heap.push (bareS w) }) ⟨rfl, rfl⟩) fun r u hr => ?_
  cases r with
  | error e => exact hr
  | ok fl =>
    cases fl with
    | ret x =>
      obtain ⟨rfl, rfl⟩ := hr
      have new : (s.heap.push (bareS w)).get? s.heap.objs.size = some (bareS w) := Heap.get?_push_size _ rfl
      have isS : Shared.TypeIs { s with heap := s.heap.push (bareS w) } (.ref s.heap.objs.size) "set" := ⟨_, new, rfl⟩
      have f1 := F.called_set.init.lookup
      have f2 := F.called_set.init.bind (.ref s.heap.objs.size)
      repeat (any_goals (first | assumption | wp_step))
      refine codeAny_mono (codeAny_call_builtin (R := wants (fun r u => r = .none ∧ ∃ g tk c, u = { s with heap := g, toks := tk } ∧ c ≤ ns.length ∧ (∀ b o, s.heap.get? b = some o → g.get? b = some o) ∧ SetR w g s.heap.objs.size (fun j => decide (j ∈ ns)) c) E)
        F.called_set.init.plain F.entry_set_init (check_set_init_1 isS ?_)) fun r u hr => ?_
      · obtain ⟨⟨oc, od, oa, os⟩, ho, hc, n, hd⟩ := hl
        simp only at hc hd
        subst hc hd
        have ho2 : (s.heap.push (bareS w)).get? l = some { cls := .type "list", dict := od, data := .seq items n, slots := os } := Heap.get?_push_of_some _ ho
        have g1 := F.sub_list_set
        have g2 := F.sub_list_frozenset
        have g3 : (Value.type "list" == Value.type "dict") = false := by decide
        have isl : (s.heap.push (bareS w)).IsList l items := ⟨_, ho2, rfl, n, rfl⟩
        unfold Builtin.«set.__init__» noKeywords Builtin.Frozenset.updateFrom
        generalize hPI : pyIter = PI
        wp_walk
        subst hPI
        refine wpAny_pyIter_list isl ?_
        refine wpAny_bind (wpAny_runValue ?_)
        have lt : l < s.heap.objs.size := Heap.lt_size ho
        have z1 : (s.heap.push (bareS w)).objs.size = s.heap.objs.size + 1 := Heap.size_push ..
        have apart : l ≠ (s.heap.push (bareS w)).objs.size := by rw [z1]; exact Nat.ne_of_lt (Nat.lt_succ_of_lt lt)
        have off : s.heap.objs.size ∉ [(s.heap.push (bareS w)).objs.size, l] := by
          rw [z1]
          simp only [List.mem_cons, List.not_mem_nil, or_false, not_or]
          exact ⟨Nat.ne_of_lt (Nat.lt_succ_self _), Nat.ne_of_gt lt⟩
        have val : ∀ (i : Nat) (v : Value), items[i]? = some v → ∃ k t, ns[i]? = some k ∧ v = .int k t := fun i v hv => by
          have hlt : i < ns.length := size ▸ (Array.getElem?_eq_some_iff.mp hv).1
          obtain ⟨t, e⟩ := hi.get i _ (List.getElem?_eq_getElem hlt)
          rw [Array.getElem?_toList, hv] at e
          exact ⟨_, t, List.getElem?_eq_getElem hlt, Option.some.inj e⟩
        have calm3 : A.in1.in1.in1.handled = none := by simp [calm]
        refine set_update_ints ((Walks.list calm3 _ l apart items).toS) _ off ns size few val (items.size - 0) 0 _ (by omega) (Nat.zero_le _) ⟨⟨_, Heap.get?_push_size _ rfl, rfl, rfl⟩, isl.push _⟩ ⟨0, Nat.le_refl 0, setR_new_at (Heap.get?_push_of_some _ new)⟩ ?_
        intro u c mv hc hS
        obtain ⟨g, gs, dr, tk, os'⟩ := u
        obtain rfl : gs = s.gens := mv.gens
        obtain rfl : dr = s.drawn := mv.drawn
        obtain rfl : os' = s.os := mv.os
        show wpAny _ _ _ _ _ _
        refine wpAny_pure ?_
        show wpAny _ _ (ret Value.none) _ _ _
        refine wpAny_pure ⟨rfl, g, tk, c, rfl, size ▸ hc, fun b o e => ?_, hS⟩
        have hb : b < s.heap.objs.size := Heap.lt_size e
        refine mv.heap b o ?_ (Heap.get?_push_of_some _ (Heap.get?_push_of_some _ e))
        rw [z1]
        simp only [List.mem_cons, List.not_mem_nil, or_false, not_or]
        exact ⟨Nat.ne_of_lt hb, Nat.ne_of_lt (Nat.lt_succ_of_lt hb)⟩
      · cases r with
        | error e => exact hr
        | ok f2 =>
          cases f2 with
          | ret y =>
            obtain ⟨rfl, g, tk, c, rfl, hc, keep, hS⟩ := hr
            repeat (any_goals (first | assumption | wp_step))
            exact q _ _ _ hc keep hS
          | _ => exact hr.elim
    | _ => exact hr.elim
end
section
variable {X : Cx}
/-- set(xs), xs a list of whole numbers -/
def rSetL (K : PySem.W.Frag) (w : World) : List V → Hp → VK → Prop := fun vs H Q => ∃ (a : Addr) (ns : List Int), vs = [V.ref a] ∧ SqL K H a (ns.map V.int) ∧ ns.length + 1 < scanBound ∧
  ∀ (p : Addr) (c : Nat), c ≤ ns.length → H p = none → Q (.ref p) (upd H p (SetO w p (fun j => decide (j ∈ ns)) c))
theorem cr_setL (hc : X.calm = true) : CallR X (.type "set") (rSetL X.K X.w) := by
  intro pins s σ H vs us Q I r h
  obtain ⟨a, ns, rfl, hs, few, q⟩ := h
  rw [Vals.ref1 r]
  obtain ⟨its, rv, pl, hz⟩ := I.list hs
  refine set_of_ints (P := X.prog) (I.ok.hd hc) pl.isList (ns := ns) (by simpa using ints_of_vals rv) few fun g tk c le keep R => ?_
  exact ⟨.ref s.heap.objs.size, upd H s.heap.objs.size (SetO X.w s.heap.objs.size (fun j => decide (j ∈ ns)) c), I.laid (t' := tk) keep (Nat.le_refl _) (setO_new R), rfl, q _ c le (I.hok.fresh (Nat.le_refl _))⟩
end
/-! ### pads_in, united, Book.parts -/
theorem bitAnd_nn (a b : Nat) : Builtin.bitAnd (a : Nat) (b : Nat) = ((a &&& b : Nat) : Int) := by
  rw [bitAnd_pp (by omega) (by omega), Int.toNat_natCast, Int.toNat_natCast]
theorem and_test (a b : Nat) : V.bl (decide (V.int (Builtin.bitAnd (a : Nat) (b : Nat)) = V.int 0)) = V.bl (decide (a &&& b = 0)) := by
  rw [bitAnd_nn]
  congr 1
  by_cases e : a &&& b = 0
  · rw [e]; rfl
  · rw [decide_eq_false e, decide_eq_false fun z => e (by have := V.int.inj z; omega)]
theorem and_testN (a b : Nat) : V.bl (!decide (V.int (Builtin.bitAnd (a : Nat) (b : Nat)) = V.int 0)) = V.bl (!decide (a &&& b = 0)) := by
  have := and_test a b
  rw [V.bl.inj this]
theorem shr_test (g i : Nat) : V.bl (decide (V.int (Builtin.bitAnd ((g : Int) / 2 ^ i) 1) = V.int 1)) = V.bl (g.testBit i) := by
  have e : ((g : Int) / 2 ^ i) = ((g / 2 ^ i : Nat) : Int) := by push_cast; rfl
  rw [e, show (1 : Int) = ((1 : Nat) : Int) from rfl, bitAnd_nn, Nat.and_one_is_mod]
  congr 1
  rw [Nat.testBit_eq_decide_div_mod_eq]
  by_cases z : g / 2 ^ i % 2 = 1
  · rw [z]; rfl
  · rw [decide_eq_false z, decide_eq_false fun y => z (by have := V.int.inj y; omega)]
def spPIn : Sp := fun vs H Q _ => ∃ g : Nat, vs = [.int g] ∧ ∀ (H' : Hp) (d : Addr), Same H H' → H d = none → H' d = some (.lst ((nI (padsN g)).map V.int)) → Q (.ref d) H'
abbrev sPIn : Stmt := topS 23
abbrev nPIn : List Str := ["mask", "pad"]
theorem scPIn : FnScope nPIn ["mask"] (defScope sPIn) := ⟨rfl, rfl, rfl, by decide +kernel, rfl, by decide +kernel, by decide +kernel⟩
theorem filt_snoc {p : Nat → Bool} (i : Nat) : (List.range (i + 1)).filter p = (List.range i).filter p ++ (if p i = true then [i] else []) := by
  rw [List.range_succ, List.filter_append]
  congr 1
  by_cases h : p i = true
  · simp [h]
  · simp [h]
section
variable {P : Program} {w : World} {K : PySem.W.Frag} {mg : Str → Option Value} {base : Heap}
theorem ok_pin {f : Addr} {fd : FuncData} {k : Nat} {tkP : Tok} (F : Fun K "pads_in" "pads_in" sPIn f fd) (mr : mg "range" = none) (mP : mg "MOST_PADS" = some (.int 6 tkP)) : FnOk P w K mg base CX0 (k + 1) f fd ["mask"] spPIn := by
  refine F.ok scPIn (fun vs H Q E h => ?_) (fun cdv A outer s H vs Q E hr h => ?_)
  · obtain ⟨g, rfl, _⟩ := h
    rfl
  · obtain ⟨g, rfl, q⟩ := h
    refine ⟨_, pss_one (ps_ret (pe_lc (own := [("pad", 1)]) (g := gName 1) rfl scPIn.nd (pi_range1 (by rfl) mr (pa_cons (pe_glob (v := .int 6) (by rfl) mP ⟨_, rfl⟩) pa_nil)) (blkOk_by (own := [("pad", 1)]) (N := nPIn) (sc := defScope sPIn) (by decide +kernel)) (fun _ _ _ _ _ => pg_name (i := 1) scPIn.nd rfl (.inl rfl)) (fun _ _ _ _ _ => pts_one (pt_cmpR op_eq (pe_op op_and (pe_op op_shr (pv 0) (pv 1)) pe_int) pe_int (nomark _))) (fun _ _ _ _ _ => pv 1))), ?_⟩
    refine ⟨6, rfl, by decide, by decide, fun D nD => ?_⟩
    refine lc_range (lo := 0) (n := 6) (fun i H' => Same H H' ∧ H' D = some (.lst ((nI ((List.range i).filter fun j => g.testBit j)).map V.int))) ⟨same_upd nD, upd_same⟩ (fun i H' hi hP => ?_) (fun H1 hP => ?_)
    · obtain ⟨sm, hD⟩ := hP
      have e0 : ((0 : Int) + (i : Int)).toNat = i := by omega
      have hl : ((List.range i).filter fun j => g.testBit j).length ≤ i := Nat.le_trans (List.length_filter_le _ _) (by simp)
      have hb := shr_test g i
      rw [← e0] at hb
      refine ⟨rfl, .int (g : Nat), rfl, .int (0 + (i : Int)), rfl, _, _, rfl, rfl, (show (0 : Int) ≤ 0 + (i : Int) by omega), _, _, rfl, rfl, rfl, _, hb, ite2 (fun et => ?_) (fun et => ?_)⟩
      · rw [e0] at et
        refine ⟨_, rfl, _, hD, ?_, Same.offUpd sm nD, ?_⟩
        · unfold nI
          rw [List.length_map, List.length_map]
          exact small1000 (by omega)
        · rw [upd_same, filt_snoc, if_pos et]
          unfold nI
          rw [List.map_append, List.map_append, Int.zero_add]
          rfl
      · rw [e0] at et
        refine ⟨sm, ?_⟩
        rw [filt_snoc, if_neg et, List.append_nil]
        exact hD
    · exact q H1 D hP.1 nD hP.2
end
def spUni (K : PySem.W.Frag) : Sp := fun vs H Q _ => ∃ (a : Addr) (gs : List Nat) (m : Nat), vs = [.ref a, .int m] ∧ SqL K H a ((nI gs).map V.int) ∧ gs.length ≤ 100 ∧
  ∀ (H' : Hp) (d : Addr), Same H H' → H d = none → H' d = some (.lst ((nI (uniN gs m)).map V.int)) → Q (.ref d) H'
abbrev sUni : Stmt := topS 25
abbrev nUni : List Str := ["groups", "mask", "touched", "group"]
theorem scUni : FnScope nUni ["groups", "mask"] (defScope sUni) := ⟨rfl, rfl, rfl, by decide +kernel, rfl, by decide +kernel, by decide +kernel⟩
theorem take_filt {p : Nat → Bool} {l : List Nat} {i g : Nat} (h : l[i]? = some g) : (l.take (i + 1)).filter p = (l.take i).filter p ++ (if p g = true then [g] else []) := by
  rw [take_snoc h, List.filter_append]
  congr 1
  by_cases h : p g = true
  · simp [h]
  · simp [h]
theorem nI_at {l : List Nat} {i : Nat} {x : V} (h : ((nI l).map V.int)[i]? = some x) : ∃ g, l[i]? = some g ∧ x = .int (g : Nat) := by
  unfold nI at h
  rw [List.getElem?_map, List.getElem?_map] at h
  cases e : l[i]? with
  | none => rw [e] at h; cases h
  | some g => rw [e] at h; exact ⟨g, rfl, (Option.some.inj h).symm⟩
theorem nI_sum (l : List Nat) : (nI l).sum = ((l.sum : Nat) : Int) := by
  unfold nI
  induction l with
  | nil => rfl
  | cons a l ih => rw [List.map_cons, List.sum_cons, List.sum_cons, ih]; omega
theorem nI_ln (l : List Nat) : ((nI l).map V.int).length = l.length := by
  unfold nI
  rw [List.length_map, List.length_map]
section
variable {P : Program} {w : World} {K : PySem.W.Frag} {mg : Str → Option Value} {base : Heap}
theorem ok_uni {f : Addr} {fd : FuncData} {k : Nat} (F : Fun K "united" "united" sUni f fd) (ms : mg "sum" = none) : FnOk P w K mg base CX0 (k + 1) f fd ["groups", "mask"] (spUni K) := by
  refine F.ok scUni (fun vs H Q E h => ?_) (fun cdv A outer s H vs Q E hr h => ?_)
  · obtain ⟨a, gs, m, rfl, _⟩ := h
    rfl
  · obtain ⟨a, gs, m, rfl, ha, hl, q⟩ := h
    refine ⟨_, pss_cons (ps_setLc (i := 2) (own := [("group", 3)]) (g := gName 3) rfl scUni.nd rfl rfl (sw_true rfl rfl rfl (by decide +kernel)) (pi_list (pv 0)) (blkOk_by (own := [("group", 3)]) (N := nUni) (sc := defScope sUni) (by decide +kernel)) (fun _ _ _ _ _ => pg_name (i := 3) scUni.nd rfl (.inl rfl)) (fun _ _ _ _ _ => pts_one (pt_cmpR op_ne (pe_op op_and (pv 3) (pv 1)) pe_int (nomark _))) (fun _ _ _ _ _ => pv 3))
      (pss_one (ps_ret (pe_op op_cat (pe_lc (own := [("group", 3)]) (g := gName 3) rfl scUni.nd (pi_list (pv 0)) (blkOk_by (own := [("group", 3)]) (N := nUni) (sc := defScope sUni) (by decide +kernel)) (fun _ _ _ _ _ => pg_name (i := 3) scUni.nd rfl (.inl rfl)) (fun _ _ _ _ _ => pts_one (pt_cmpR op_eq (pe_op op_and (pv 3) (pv 1)) pe_int (nomark _))) (fun _ _ _ _ _ => pv 3)) (pe_lst (pa_cons (pe_callB (cr_sum rfl) (by rfl) ms (by decide +kernel) (pa_cons (pv 2) pa_nil)) pa_nil))))), ?_⟩
    have fl : ∀ (p : Nat → Bool) (i : Nat), ((gs.take i).filter p).length ≤ 100 := fun p i => by
      have h1 := List.length_filter_le p (gs.take i)
      rw [List.length_take] at h1
      omega
    refine ⟨.ref a, rfl, a, rfl, ⟨_, ha⟩, fun D nD => ?_⟩
    refine lc_list (K := K) (a := a) (xs := (nI gs).map V.int) (fun i H' => Same H H' ∧ H' D = some (.lst ((nI ((gs.take i).filter fun g => !decide (g &&& m = 0))).map V.int))) ⟨same_upd nD, upd_same⟩ (fun i H' _ hP => hP.1.seq ha) (fun i x H' hx hP => ?_) (fun H1 hP => ?_)
    · obtain ⟨sm, hD⟩ := hP
      obtain ⟨g, hg, rfl⟩ := nI_at hx
      have hb := and_testN g m
      refine ⟨rfl, .int (g : Nat), rfl, .int (m : Nat), rfl, _, _, rfl, rfl, rfl, _, hb, ite2 (fun et => ?_) (fun et => ?_)⟩
      · refine ⟨_, rfl, _, hD, ?_, Same.offUpd sm nD, ?_⟩
        · rw [nI_ln]
          have := fl (fun g => !decide (g &&& m = 0)) i
          exact small1000 (by omega)
        · rw [upd_same, take_filt hg, if_pos et]
          unfold nI
          rw [List.map_append, List.map_append]
          rfl
      · refine ⟨sm, ?_⟩
        rw [take_filt hg, if_neg et, List.append_nil]
        exact hD
    · obtain ⟨s1, hD⟩ := hP
      rw [nI_ln, List.take_length] at hD
      refine ⟨.ref a, rfl, a, rfl, ⟨_, s1.seq ha⟩, fun B nB => ?_⟩
      refine lc_list (K := K) (a := a) (xs := (nI gs).map V.int) (fun i H' => Same H1 H' ∧ H' B = some (.lst ((nI ((gs.take i).filter fun g => decide (g &&& m = 0))).map V.int))) ⟨same_upd nB, upd_same⟩ (fun i H' _ hP => hP.1.seq (s1.seq ha)) (fun i x H' hx hP => ?_) (fun H2 hP => ?_)
      · obtain ⟨sm, hB⟩ := hP
        obtain ⟨g, hg, rfl⟩ := nI_at hx
        have hb := and_test g m
        refine ⟨rfl, .int (g : Nat), rfl, .int (m : Nat), rfl, _, _, rfl, rfl, rfl, _, hb, ite2 (fun et => ?_) (fun et => ?_)⟩
        · refine ⟨_, rfl, _, hB, ?_, Same.offUpd sm nB, ?_⟩
          · rw [nI_ln]
            have := fl (fun g => decide (g &&& m = 0)) i
            exact small1000 (by omega)
          · rw [upd_same, take_filt hg, if_pos et]
            unfold nI
            rw [List.map_append, List.map_append]
            rfl
        · refine ⟨sm, ?_⟩
          rw [take_filt hg, if_neg et, List.append_nil]
          exact hB
      · obtain ⟨s2, hB⟩ := hP
        rw [nI_ln, List.take_length] at hB
        refine ⟨.ref D, rfl, D, _, rfl, SqL.of (s2 _ _ hD), (show (1 : Nat) ≤ sizeLine by decide), fun o no => ?_⟩
        have u1 := same_upd (o := .lst [V.int (nI (gs.filter fun g => !decide (g &&& m = 0))).sum]) no
        refine ⟨B, o, _, _, rfl, rfl, u1 _ _ hB, upd_same, ?_, fun p np => ?_⟩
        · rw [nI_ln]
          have h1 := List.length_filter_le (fun g => decide (g &&& m = 0)) gs
          show _ + 1 ≤ sizeLine
          exact small1000 (by omega)
        · refine q _ p (((s1.trans s2).trans u1).trans (same_upd np)) (Same.free (s1.trans (s2.trans u1)) np) ?_
          rw [upd_same, nI_sum]
          unfold uniN nI
          rw [List.map_append, List.map_append]
          rfl
end
/-! ### Book.parts -/
def padNs (f : List Tri) : List Nat := f.map fun t => t.1.toNat
/-- what the law's books are like -/
structure FigsIn (n : Nat) (fs : List (List Tri)) : Prop where
  ne : ∀ f ∈ fs, f ≠ []
  up : ∀ f ∈ fs, PadsUp f
  len : ∀ f ∈ fs, f.length ≤ 100
  lt : ∀ f ∈ fs, ∀ i ∈ padNs f, i < n
theorem mask_tb {f : List Tri} (h : PadsUp f) (i : Nat) : (maskN f).testBit i = true ↔ i ∈ padNs f := by
  have e : maskN f = ((padNs f).map (2 ^ ·)).sum := by
    unfold maskN padNs
    rw [List.map_map]
    rfl
  rw [e, sum_bits (l := padNs f) (pads_nat h), decide_eq_true_eq]
def grpN (n : Nat) (fs : List (List Tri)) : List Nat := fs.foldl (fun gs f => uniN gs (maskN f)) ((List.range n).map fun p => 2 ^ p)
theorem grpN_snoc (n : Nat) (fs : List (List Tri)) (f : List Tri) : grpN n (fs ++ [f]) = uniN (grpN n fs) (maskN f) := by
  unfold grpN
  rw [List.foldl_append]
  rfl
theorem grpN_ok {n : Nat} {fs : List (List Tri)} (h : FigsIn n fs) : ∀ i, i ≤ fs.length → Grp n ((fs.take i).map padNs) (grpN n (fs.take i)) ∧ (grpN n (fs.take i)).length ≤ n + i
  | 0, _ => by
    refine ⟨grp_start n, ?_⟩
    show ((List.range n).map fun p => 2 ^ p).length ≤ n
    simp
  | i + 1, hi => by
    obtain ⟨ih, ihl⟩ := grpN_ok h i (by omega)
    have hg : fs[i]? = some fs[i] := List.getElem?_eq_getElem (by omega)
    have hm := List.mem_of_getElem? hg
    rw [take_snoc hg, List.map_append, grpN_snoc]
    refine ⟨grp_step ih (f := padNs fs[i]) (fun z => h.ne _ hm (List.map_eq_nil_iff.mp z)) (h.lt _ hm) (mask_tb (h.up _ hm)), ?_⟩
    unfold uniN
    rw [List.length_append]
    have := List.length_filter_le (fun g => decide (g &&& maskN fs[i] = 0)) (grpN n (fs.take i))
    show _ + 1 ≤ _
    omega
theorem parts_eq {n : Nat} {fs : List (List Tri)} (h : FigsIn n fs) (hn : n ≤ 6) {ds : List (List Int)} (pm : ds.Perm ((grpN n fs).map fun g => nI (padsN g))) (pw : ds.Pairwise (fun x y => HT.lexLt y x = false)) : ds = (lawPs (fs.map padNs) n).map nI := by
  have G := (grpN_ok h fs.length (Nat.le_refl _)).1
  rw [List.take_length] at G
  have hf : ∀ f ∈ fs.map padNs, ∀ i ∈ f, i < n := fun f hf => by
    obtain ⟨g, hg, rfl⟩ := List.mem_map.mp hf
    exact h.lt g hg
  have p1 := (parts_perm hn hf G).map nI
  rw [List.map_map] at p1
  refine lex_uniq (pm.trans p1) pw (List.pairwise_map.mpr ?_)
  exact lawPs_rise (fun f hf' i hi => by have := hf f hf' i hi; omega) n hn
def spParts (K : PySem.W.Frag) (C : Addr) : Sp := fun vs H Q _ => ∃ (p : Addr) (cs : List Int) (fs : List (List Tri)), vs = [.ref p] ∧ BookAt K C H p cs fs ∧ cs.length ≤ 6 ∧ fs.length ≤ 12 ∧ FigsIn cs.length fs ∧
  ∀ (H' : Hp) (d : Addr) (L : List (Addr × List Int)), Same H H' → H d = none → H' d = some (.lst (L.map fun q => V.ref q.1)) → (∀ q ∈ L, q.1 ≠ d ∧ H q.1 = none ∧ H' q.1 = some (.lst (q.2.map V.int))) → L.map (·.2) = (lawPs (fs.map padNs) cs.length).map nI → Q (.ref d) H'
abbrev sPts : Stmt := inClass (topS 14) 6
abbrev nPts : List Str := ["self", "groups", "shape", "pad", "group"]
theorem scPts : FnScope nPts ["self"] (defScope sPts) := ⟨rfl, rfl, rfl, by decide +kernel, rfl, by decide +kernel, by decide +kernel⟩
theorem bkF_palP (a b : Addr) : List.lookup (Str.ofString "palette") (bkF a b) = some (V.ref a) := rfl
section
variable {P : Program} {w : World} {K : PySem.W.Frag} {mg : Str → Option Value} {base : Heap}
theorem ok_parts {f C fM fU fI : Addr} {fd fdM fdU fdI : FuncData} {k : Nat} (F : Fun K "parts" "Book.parts" sPts f fd) (T : BkTxt K mg C) (ml : mg "len" = none) (mr : mg "range" = none) (mso : mg "sorted" = none)
    (FM : Fun K "mask_of" "mask_of" sMask fM fdM) (bM : Binds K fdM ["figure"] []) (gM : mg "mask_of" = some (.ref fM)) (GM : FnOk P w K mg base CX0 k fM fdM ["figure"] (spMask K))
    (FU : Fun K "united" "united" sUni fU fdU) (bU : Binds K fdU ["groups", "mask"] []) (gU : mg "united" = some (.ref fU)) (GU : FnOk P w K mg base CX0 k fU fdU ["groups", "mask"] (spUni K))
    (FI : Fun K "pads_in" "pads_in" sPIn fI fdI) (bI : Binds K fdI ["mask"] []) (gI : mg "pads_in" = some (.ref fI)) (GI : FnOk P w K mg base CX0 k fI fdI ["mask"] spPIn) :
    FnOk P w K mg base CX0 (k + 1) f fd ["self"] (spParts K C) := by
  refine F.ok scPts (fun vs H Q E h => ?_) (fun cdv A outer s H vs Q E hr h => ?_)
  · obtain ⟨p, cs, fs, rfl, _⟩ := h
    rfl
  · obtain ⟨p, cs, fs, rfl, hK, h6, h12, hF, q⟩ := h
    refine ⟨_, pss_cons (ps_setLc (i := 1) (own := [("pad", 3)]) (g := gName 3) (tt := tYes) rfl scPts.nd rfl rfl (sw_true rfl rfl rfl (by decide +kernel)) (pi_range1 (by rfl) mr (pa_cons (pe_callB call_lenQ (by rfl) ml PySem.boot_len (pa_cons (pe_fld (pv 0) rfl) pa_nil)) pa_nil)) (blkOk_by (own := [("pad", 3)]) (N := nPts) (sc := defScope sPts) (by decide +kernel)) (fun _ _ _ _ _ => pg_name (i := 3) scPts.nd rfl (.inl rfl)) (fun _ _ _ _ _ => pts_nil) (fun _ _ _ _ _ => pe_op op_shl pe_int (pv 3)))
      (pss_cons (ps_for PassesOwn.never rfl (pi_tup (pe_fld (pv 0) rfl)) (pg_name (i := 2) scPts.nd rfl (.inl rfl)) (pss_one (ps_set (i := 1) scPts.nd rfl (.inl rfl) (pe_call GU hr (by rfl) gU FU.kp bU .nil pass0 (pa_cons (pv 1) (pa_cons (pe_call GM hr (by rfl) gM FM.kp bM .nil pass0 (pa_cons (pv 2) pa_nil)) pa_nil))))))
      (pss_one (ps_ret (pe_callB (cr_sortLL hr.units) (by rfl) mso (by decide +kernel) (pa_cons (pe_lc (own := [("group", 4)]) (g := gName 4) (tt := tYes) rfl scPts.nd (pi_list (pv 1)) (blkOk_by (own := [("group", 4)]) (N := nPts) (sc := defScope sPts) (by decide +kernel)) (fun _ _ _ _ _ => pg_name (i := 4) scPts.nd rfl (.inl rfl)) (fun _ _ _ _ _ => pts_nil) (fun _ _ _ _ _ => pe_call GI hr (by rfl) gI FI.kp bI .nil pass0 (pa_cons (pv 4) pa_nil))) pa_nil))))), ?_⟩
    obtain ⟨dx, a, b, xs, hp, ha, hb, hA⟩ := id hK
    have hxl := hA.len
    refine ⟨.ref p, rfl, p, C, dx, _, _, rfl, hp, T.cl, T.nP, bkF_palP a b, a, _, rfl, .inr ha, ((cs.map V.int).length : Nat), rfl, by rw [List.length_map]; omega, by rw [List.length_map]; omega, fun D nD => ?_⟩
    rw [Int.toNat_natCast, List.length_map]
    refine lc_range (lo := 0) (n := cs.length) (fun i H' => Same H H' ∧ H' D = some (.lst ((nI ((List.range i).map fun p => 2 ^ p)).map V.int))) ⟨same_upd nD, upd_same⟩ (fun i H' hi hP => ?_) (fun H1 hP => ?_)
    · obtain ⟨sm, hD⟩ := hP
      refine ⟨rfl, yesT ⟨.int (0 + (i : Int)), rfl, 1, 0 + (i : Int), rfl, rfl, ⟨by omega, by omega, by decide⟩, _, hD, ?_, Same.offUpd sm nD, ?_⟩⟩
      · rw [nI_ln, List.length_map, List.length_range]
        exact small1000 (by omega)
      · rw [upd_same, List.range_succ, List.map_append]
        unfold nI
        rw [List.map_append, List.map_append, Int.zero_add]
        simp
    · obtain ⟨s1, hD⟩ := hP
      refine ⟨.ref p, rfl, p, C, dx, _, _, rfl, s1 _ _ hp, T.cl, T.nS, bkF_shapesX a b, b, rfl, ⟨_, Same.tup s1 hb⟩, ?_⟩
      refine for_tup (K := K) (a := b) (xs := xs) (fun i σ H' => ∃ (g : Addr) (y2 : Option V), σ = [some (.ref p), some (.ref g), y2, none, none] ∧ Same H H' ∧ H' g = some (.lst ((nI (grpN cs.length (fs.take i))).map V.int)))
        ⟨D, none, rfl, s1, hD⟩ (fun i σ H' _ ⟨_, _, _, sm, _⟩ => Same.tup sm hb) ?_ ?_
      · rintro i x σ H' hx ⟨g, y2, rfl, sm, hg⟩
        obtain ⟨f0, hf0, hfT⟩ := hA.get hx
        have hm := List.mem_of_getElem? hf0
        have hil : i < fs.length := (List.getElem?_eq_some_iff.mp hf0).1
        have hl := (grpN_ok hF i (by omega)).2
        refine ⟨.ref g, rfl, x, rfl, x, f0, rfl, hfT.ts (TS.of sm), hF.len f0 hm, hF.up f0 hm, fun H2 s2 => ?_⟩
        refine ⟨g, _, maskN f0, rfl, SqL.of (s2 _ _ hg), by omega, fun H3 d s3 nd hd => ?_⟩
        refine ⟨d, some x, rfl, (sm.trans s2).trans s3, ?_⟩
        rw [take_snoc hf0, grpN_snoc]
        exact hd
      · rintro σ H' ⟨g, y2, rfl, sm, hg⟩
        rw [hxl, List.take_length] at hg
        have hl := (grpN_ok hF fs.length (Nat.le_refl _)).2
        rw [List.take_length] at hl
        refine ⟨.ref g, rfl, g, rfl, ⟨_, SqL.of hg⟩, fun B nB => ?_⟩
        refine lc_list (K := K) (a := g) (xs := (nI (grpN cs.length fs)).map V.int) (fun i H2 => Same H' H2 ∧ ∃ L : List (Addr × List Int), H2 B = some (.lst (L.map fun q => V.ref q.1)) ∧ (∀ q ∈ L, q.1 ≠ B ∧ H' q.1 = none ∧ H2 q.1 = some (.lst (q.2.map V.int))) ∧ L.map (·.2) = ((grpN cs.length fs).take i).map fun g => nI (padsN g))
          ⟨same_upd nB, [], upd_same, (fun q hq => by cases hq), rfl⟩ (fun i H2 _ hP => hP.1.seq (SqL.of hg)) (fun i x H2 hx hP => ?_) (fun H2 hP => ?_)
        · obtain ⟨s2, L, hB, hL, eL⟩ := hP
          obtain ⟨g0, hg0, rfl⟩ := nI_at hx
          have hi : i < (grpN cs.length fs).length := (List.getElem?_eq_some_iff.mp hg0).1
          have hLl : L.length ≤ i := by
            have := congrArg List.length eL
            rw [List.length_map, List.length_map, List.length_take] at this
            omega
          refine ⟨rfl, yesT ⟨.int (g0 : Nat), rfl, g0, rfl, fun H3 d s3 nd hd => ?_⟩⟩
          have ndB : d ≠ B := fun e => by rw [e, hB] at nd; cases nd
          refine ⟨_, s3 _ _ hB, ?_, Same.offUpd (s2.trans s3) nB, L ++ [(d, nI (padsN g0))], ?_, fun q hq => ?_, ?_⟩
          · rw [List.length_map]
            exact small1000 (by omega)
          · rw [upd_same, List.map_append]
            rfl
          · rcases List.mem_append.mp hq with z | z
            · obtain ⟨q1, q2, q3⟩ := hL q z
              exact ⟨q1, q2, by rw [upd_ne q1]; exact s3 _ _ q3⟩
            · rw [List.mem_singleton.mp z]
              exact ⟨ndB, s2.free nd, by rw [upd_ne ndB]; exact hd⟩
          · rw [List.map_append, eL, take_snoc hg0, List.map_append]
            rfl
        · obtain ⟨s2, L, hB, hL, eL⟩ := hP
          rw [nI_ln, List.take_length] at eL
          refine ⟨B, L, rfl, SqL.of hB, fun q hq => SqL.of (hL q hq).2.2, fun L' d pm pw nd => ?_⟩
          have u := same_upd (o := .lst (L'.map fun p => V.ref p.1)) nd
          refine q _ d L' ((sm.trans s2).trans u) (Same.free (sm.trans s2) nd) upd_same (fun z hz => ?_) ?_
          · obtain ⟨_, q2, q3⟩ := hL z (pm.mem_iff.mp hz)
            exact ⟨(fun e => by rw [e, nd] at q3; cases q3), sm.free q2, u _ _ q3⟩
          · refine parts_eq hF h6 ?_ (List.pairwise_map.mpr pw)
            rw [← eL]
            exact pm.map _
end
/-! ### _law_pads, _law_meet -/
abbrev sLPads : Stmt := topS 38
abbrev nLPads : List Str := ["_law_shape_here", "_law_pad", "_law_note", "_law_depth"]
theorem scLPads : FnScope nLPads ["_law_shape_here"] (defScope sLPads) := ⟨rfl, rfl, rfl, by decide +kernel, rfl, by decide +kernel, by decide +kernel⟩
section
variable {P : Program} {w : World} {K : PySem.W.Frag} {mg : Str → Option Value} {base : Heap}
theorem ok_lpads {f : Addr} {fd : FuncData} {k : Nat} (F : Fun K "_law_pads" "_law_pads" sLPads f fd) : FnOk P w K mg base CX0 (k + 1) f fd ["_law_shape_here"] (spPads K) := by
  refine F.ok scLPads (fun vs H Q E h => ?_) (fun cdv A outer s H vs Q E hr h => ?_)
  · obtain ⟨v, f, rfl, _⟩ := h
    rfl
  · obtain ⟨v, f, rfl, hV, hfl, q⟩ := h
    obtain ⟨a, xs, rfl, ha, hxs⟩ := hV
    refine ⟨_, pss_one (ps_ret (pe_lc (own := [("_law_pad", 1), ("_law_note", 2), ("_law_depth", 3)]) (g := g3 K 1 2 3) (tt := tYes) rfl scLPads.nd (pi_tup (pv 0))
        (blkOk_by (own := [("_law_pad", 1), ("_law_note", 2), ("_law_depth", 3)]) (N := nLPads) (sc := defScope sLPads) (by decide +kernel))
        (fun _ _ _ _ _ => pg_tup rfl (pgs_cons (pg_name (i := 1) scLPads.nd rfl (.inl rfl)) (pgs_cons (pg_name (i := 2) scLPads.nd rfl (.inl rfl)) (pgs_cons (pg_name (i := 3) scLPads.nd rfl (.inl rfl)) pgs_nil)))) (fun _ _ _ _ _ => pts_nil)
        (fun _ _ _ _ _ => pv 1))), ?_⟩
    refine ⟨.ref a, rfl, a, rfl, ⟨_, ha⟩, fun D nD => ?_⟩
    refine lc_tup (K := K) (a := a) (xs := xs) (fun i H' => Same H H' ∧ H' D = some (.lst (((f.take i).map (·.1)).map V.int))) ⟨same_upd nD, upd_same⟩ (fun i H' _ hP => Same.tup hP.1 ha) (fun i x H' hx hP => ?_) (fun H1 hP => ?_)
    · obtain ⟨sm, hD⟩ := hP
      obtain ⟨t, ht, tp, rfl, htp⟩ := hxs.get hx
      refine ⟨tp, triV t, rfl, Same.tup sm htp, rfl, _, _, rfl, _, _, rfl, _, _, rfl, rfl, rfl, yesT ⟨_, rfl, _, hD, ?_, Same.offUpd sm nD, ?_⟩⟩
      · rw [List.length_map, List.length_map, List.length_take]
        exact small1000 (by omega)
      · rw [upd_same, take_snoc ht, List.map_append, List.map_append]
        rfl
    · obtain ⟨sm, hD⟩ := hP
      rw [hxs.len, List.take_length] at hD
      exact q H1 D sm nD hD
end
/-! ### _law_part -/
theorem pads_nI {f : List Tri} (h : PadsUp f) : f.map (·.1) = nI (padNs f) := by
  unfold nI padNs
  rw [List.map_map]
  refine List.map_congr_left fun t ht => ?_
  have := h.lo t ht
  show t.1 = ((t.1.toNat : Nat) : Int)
  omega
theorem rise6 {l : List Nat} {n : Nat} (h : l.Pairwise (· < ·)) (hl : ∀ i ∈ l, i < n) : l.length ≤ n := by
  have := rise_len (l := nI l) (lo := 0) (hi := n) (by unfold nI; rw [List.pairwise_map]; exact h.imp (fun h => by omega)) (fun x hx => by
    obtain ⟨m, hm, rfl⟩ := List.mem_map.mp hx
    have := hl m hm
    omega) (by omega)
  unfold nI at this
  rw [List.length_map] at this
  omega
theorem nI_in {l : List Nat} {k : Int} : k ∈ nI l ↔ ∃ i : Nat, i ∈ l ∧ k = (i : Nat) := by
  unfold nI
  rw [List.mem_map]
  exact exists_congr fun i => and_congr_right fun _ => eq_comm
theorem nI_has {l : List Nat} {i : Nat} : ((i : Nat) : Int) ∈ nI l ↔ i ∈ l := by
  rw [nI_in]
  constructor
  · rintro ⟨j, hj, e⟩
    have : i = j := by omega
    rw [this]
    exact hj
  · exact fun h => ⟨i, h, rfl⟩
theorem in_any (t : Nat) (X : List Nat) : ((nI X).any fun r => decide (r = (t : Nat))) = decide (t ∈ X) := by
  by_cases e : t ∈ X
  · rw [decide_eq_true e]
    exact List.any_eq_true.mpr ⟨((t : Nat) : Int), nI_has.mpr e, decide_eq_true rfl⟩
  · rw [decide_eq_false e]
    refine List.any_eq_false.mpr fun z hz => ?_
    rw [decide_eq_true_eq]
    intro ez
    rw [ez] at hz
    exact e (nI_has.mp hz)
/-- sorted(set(found + pads)) -/
theorem sorted_up {X f : List Nat} {ns : List Int} (hX : ∀ i ∈ X, i < 6) (hf : ∀ i ∈ f, i < 6) (pw : ns.Pairwise (· < ·)) (hm : ∀ k : Int, k ∈ ns ↔ decide (k ∈ nI X ++ nI f) = true) : ns = nI (up6 fun i => decide (i ∈ X ++ f)) := by
  have pw2 : (nI (up6 fun i => decide (i ∈ X ++ f))).Pairwise (· < ·) := by
    unfold nI
    rw [List.pairwise_map]
    exact (can_rise (can_up _)).imp (fun h => by omega)
  refine rise_uniq pw pw2 fun k => ?_
  rw [hm k, decide_eq_true_eq, List.mem_append, nI_in, nI_in, nI_in]
  constructor
  · rintro (⟨i, hi, rfl⟩ | ⟨i, hi, rfl⟩)
    · exact ⟨i, up6_mem.mpr ⟨hX i hi, decide_eq_true (List.mem_append_left _ hi)⟩, rfl⟩
    · exact ⟨i, up6_mem.mpr ⟨hf i hi, decide_eq_true (List.mem_append_right _ hi)⟩, rfl⟩
  · rintro ⟨i, hi, rfl⟩
    rcases List.mem_append.mp (of_decide_eq_true (up6_mem.mp hi).2) with z | z
    · exact .inl ⟨i, z, rfl⟩
    · exact .inr ⟨i, z, rfl⟩
def spLPt (K : PySem.W.Frag) : Sp := fun vs H Q _ => ∃ (a : Addr) (xs : List V) (fs : List (List Tri)) (p : Nat), vs = [.ref a, .int p] ∧ SqL K H a xs ∧ All2 (FigT K H) xs fs ∧ FigsIn 6 fs ∧ p < 6 ∧
  ∀ (H' : Hp) (d : Addr), Same H H' → H d = none → H' d = some (.lst ((nI (walkP (fs.map padNs) p 6)).map V.int)) → Q (.ref d) H'
abbrev sLPt : Stmt := topS 39
abbrev nLPt : List Str := ["_law_shapes_here", "_law_pad", "_law_found", "_law_turn", "_law_shape_here", "_law_one"]
theorem scLPt : FnScope nLPt ["_law_shapes_here", "_law_pad"] (defScope sLPt) := ⟨rfl, rfl, rfl, by decide +kernel, rfl, by decide +kernel, by decide +kernel⟩
section
variable {P : Program} {w : World} {K : PySem.W.Frag} {mg : Str → Option Value} {base : Heap}
theorem ok_lpt {f fP : Addr} {fd fdP : FuncData} {k : Nat} (F : Fun K "_law_part" "_law_part" sLPt f fd) (mr : mg "range" = none) (ma : mg "any" = none) (mso : mg "sorted" = none) (mse : mg "set" = none)
    (FP : Fun K "_law_pads" "_law_pads" sLPads fP fdP) (bP : Binds K fdP ["_law_shape_here"] []) (gP : mg "_law_pads" = some (.ref fP)) (GP : FnOk P w K mg base CX0 k fP fdP ["_law_shape_here"] (spPads K)) :
    FnOk P w K mg base CX0 (k + 1) f fd ["_law_shapes_here", "_law_pad"] (spLPt K) := by
  refine F.ok scLPt (fun vs H Q E h => ?_) (fun cdv A outer s H vs Q E hr h => ?_)
  · obtain ⟨a, xs, fs, p, rfl, _⟩ := h
    rfl
  · obtain ⟨a, xs, fs, p, rfl, ha, hA, hF, hp, q⟩ := h
    refine ⟨_, pss_cons (ps_set (i := 2) scLPt.nd rfl (.inr rfl) (pe_lst (pa_cons (pv 1) pa_nil)))
      (pss_cons (ps_for PassesOwn.never rfl (pi_range1 (by rfl) mr (pa_cons pe_int pa_nil)) (pg_name (i := 3) scLPt.nd rfl (.inl rfl)) (pss_one (ps_for PassesOwn.never rfl (pi_list (pv 0)) (pg_name (i := 4) scLPt.nd rfl (.inl rfl)) (pss_one (ps_if (pt_val (pe_callB (cr_any rfl) (by rfl) ma (by decide +kernel) (pa_cons (pe_lc (own := [("_law_one", 5)]) (g := gName 5) (tt := tYes) rfl scLPt.nd (pi_list (pe_call GP hr (by rfl) gP FP.kp bP .nil pass0 (pa_cons (pv 4) pa_nil))) (blkOk_by (own := [("_law_one", 5)]) (N := nLPt) (sc := defScope sLPt) (by decide +kernel)) (fun _ _ _ _ _ => pg_name (i := 5) scLPt.nd rfl (.inl rfl)) (fun _ _ _ _ _ => pts_nil) (fun _ _ _ _ _ => pe_cmpR (r := rIn K false) op_in_seq (pv 5) (pv 2) (by rfl))) pa_nil))) (pss_one (ps_set (i := 2) scLPt.nd rfl (.inr rfl) (pe_callB (cr_sortedSet rfl) (by rfl) mso (by decide +kernel) (pa_cons (pe_callTy (cr_setL rfl) (by rfl) mse (by decide +kernel) (pa_cons (pe_op op_cat (pv 2) (pe_call GP hr (by rfl) gP FP.kp bP .nil pass0 (pa_cons (pv 4) pa_nil))) pa_nil)) pa_nil)))) pss_nil)))))
      (pss_one (ps_ret (pv 2)))), ?_⟩
    have hF6 : ∀ f ∈ fs.map padNs, ∀ i ∈ f, i < 6 := fun f hf => by
      obtain ⟨g, hg, rfl⟩ := List.mem_map.mp hf
      exact hF.lt g hg
    have hxl := hA.len
    refine ⟨.int (p : Nat), rfl, (show (1 : Nat) ≤ sizeLine by decide), fun d0 nd0 => ?_⟩
    refine ⟨6, rfl, by decide, by decide, ?_⟩
    refine for_range (lo := 0) (n := 6) (fun i σ H' => ∃ (d : Addr) (y3 y4 : Option V), σ = [some (.ref a), some (.int (p : Nat)), some (.ref d), y3, y4, none] ∧ Same H H' ∧ H d = none ∧ H' d = some (.lst ((nI (walkP (fs.map padNs) p i)).map V.int)))
      ⟨d0, none, none, rfl, same_upd nd0, nd0, upd_same⟩ ?_ ?_
    · rintro i σ H1 hi ⟨d, y3, y4, rfl, s1, nd, hd⟩
      refine ⟨.ref a, rfl, a, rfl, ⟨_, s1.seq ha⟩, ?_⟩
      refine for_list (K := K) (a := a) (xs := xs) (fun j σ H' => ∃ (d : Addr) (y3 y4 : Option V), σ = [some (.ref a), some (.int (p : Nat)), some (.ref d), y3, y4, none] ∧ Same H H' ∧ H d = none ∧ H' d = some (.lst ((nI (((fs.map padNs).take j).foldl stepP (walkP (fs.map padNs) p i))).map V.int)))
        ⟨d, _, y4, rfl, s1, nd, hd⟩ (fun j σ H' _ ⟨_, _, _, _, sm, _⟩ => sm.seq ha) ?_ ?_
      · rintro j x σ H2 hx ⟨d, y3, y4, rfl, s2, nd, hd⟩
        obtain ⟨f0, hf0, hfT⟩ := hA.get hx
        have hm := List.mem_of_getElem? hf0
        have hfl := hF.len f0 hm
        have hfu := hF.up f0 hm
        have hf0N : (fs.map padNs)[j]? = some (padNs f0) := by rw [List.getElem?_map, hf0]; rfl
        have cX : Can (((fs.map padNs).take j).foldl stepP (walkP (fs.map padNs) p i)) := fold_can _ (walk_can hp i)
        have sx : ((fs.map padNs).take (j + 1)).foldl stepP (walkP (fs.map padNs) p i) = stepP (((fs.map padNs).take j).foldl stepP (walkP (fs.map padNs) p i)) (padNs f0) := by
          rw [take_snoc hf0N, List.foldl_append]
          rfl
        rw [sx]
        generalize ((fs.map padNs).take j).foldl stepP (walkP (fs.map padNs) p i) = X at cX hd
        have hX6 := can_six cX
        have hf6 := rise6 (pads_nat hfu) (hF.lt f0 hm)
        have hf6' : (padNs f0).length ≤ 6 := hf6
        refine ⟨x, rfl, x, f0, rfl, hfT.ts (TS.of s2), hfl, fun H3 l s3 nl hl => ?_⟩
        rw [pads_nI hfu] at hl
        refine ⟨l, rfl, ⟨_, SqL.of hl⟩, fun D nD => ?_⟩
        refine lc_list (K := K) (a := l) (xs := (nI (padNs f0)).map V.int) (fun m H' => Same H3 H' ∧ H' D = some (.lst ((((padNs f0).take m).map fun t => decide (t ∈ X)).map V.bl))) ⟨same_upd nD, upd_same⟩ (fun m H' _ hP => SqL.of (hP.1 _ _ hl)) (fun m y H' hy hP => ?_) (fun H4 hP => ?_)
        · obtain ⟨sm, hD⟩ := hP
          obtain ⟨t, ht, rfl⟩ := nI_at hy
          refine ⟨rfl, yesT ⟨.int (t : Nat), rfl, .ref d, rfl, d, _, rfl, .inl (SqL.of (sm _ _ (s3 _ _ hd))), rfl, flat_ints _, _, hD, ?_, Same.offUpd sm nD, ?_⟩⟩
          · rw [List.length_map, List.length_map, List.length_take]
            exact small1000 (by omega)
          · rw [upd_same, take_snoc ht, List.map_append, List.map_append]
            show some (HO.lst (_ ++ [V.bl (inV (V.int (t : Nat)) ((nI X).map V.int))])) = some (HO.lst (_ ++ [V.bl (decide (t ∈ X))]))
            rw [inV_ints, in_any]
        · obtain ⟨sm, hD⟩ := hP
          rw [nI_ln, List.take_length] at hD
          have s24 := s2.trans (s3.trans sm)
          have hd4 := sm _ _ (s3 _ _ hd)
          refine ⟨D, _, rfl, SqL.of hD, _, rfl, ite2 (fun e => ?_) (fun e => ?_)⟩
          · have e : ((padNs f0).any fun i => decide (i ∈ X)) = true := by
              rw [List.any_map] at e
              exact e
            refine ⟨.ref d, rfl, x, rfl, x, f0, rfl, hfT.ts (TS.of s24), hfl, fun H5 l2 s5 nl2 hl2 => ?_⟩
            rw [pads_nI hfu] at hl2
            refine ⟨d, l2, _, _, rfl, rfl, s5 _ _ hd4, hl2, ?_, fun c nc => ?_⟩
            · rw [nI_ln, nI_ln]
              exact Nat.le_of_lt (small1000 (by omega))
            have u1 := same_upd (o := .lst ((nI X).map V.int ++ (nI (padNs f0)).map V.int)) nc
            have hln : (nI X ++ nI (padNs f0)).length ≤ 12 := by
              have a1 := nI_ln X
              have a2 := nI_ln (padNs f0)
              rw [List.length_map] at a1 a2
              rw [List.length_append]
              omega
            refine ⟨c, nI X ++ nI (padNs f0), rfl, SqL.of (by rw [upd_same, List.map_append]), (by unfold scanBound; omega), fun sp n hn nsp => ?_⟩
            have u2 := same_upd (o := SetO w sp (fun j => decide (j ∈ nI X ++ nI (padNs f0))) n) nsp
            refine ⟨sp, _, n, rfl, upd_same, (by omega), fun ns r pw hm2 _ nr => ?_⟩
            have u3 := same_upd (o := .lst (ns.map V.int)) nr
            have s6 := ((s24.trans s5).trans u1).trans u2
            refine ⟨r, _, _, rfl, s6.trans u3, s6.free nr, ?_⟩
            have en := sorted_up (fun i hi => can_lt cX hi) (hF.lt f0 hm) pw hm2
            rw [upd_same, en]
            unfold stepP
            rw [if_pos e]
          · have e : ¬ ((padNs f0).any fun i => decide (i ∈ X)) = true := fun z => e (by
              rw [List.any_map]
              exact z)
            refine ⟨d, _, _, rfl, s24, nd, ?_⟩
            unfold stepP
            rw [if_neg e]
            exact hd4
      · rintro σ H2 ⟨d, y3, y4, rfl, s2, nd, hd⟩
        rw [hxl, ← List.length_map (f := padNs) (as := fs), List.take_length] at hd
        exact ⟨d, _, _, rfl, s2, nd, hd⟩
    · rintro σ H1 ⟨d, y3, y4, rfl, s1, nd, hd⟩
      exact ⟨.ref d, rfl, q H1 d s1 nd hd⟩
end
/-! ### _law_parts -/
theorem nIinj {a b : List Nat} (h : nI a = nI b) : a = b := by
  unfold nI at h
  exact (List.map_inj_right (fun x y e => by omega)).mp h
theorem lists_data {K : PySem.W.Frag} {H : Hp} : ∀ {L : List (Addr × List Int)}, (∀ q ∈ L, SqL K H q.1 (q.2.map V.int)) → DpAll K H (L.map fun q => V.ref q.1) ((L.map (·.2)).map fun c => .list (c.map PyData.int))
  | [], _ => .nil
  | q :: L, h => .cons (dpL (h q List.mem_cons_self)) (lists_data fun z hz => h z (List.mem_cons_of_mem _ hz))
theorem lists_shape (cs : List (List Int)) : SeqAt.shaped (.list (cs.map fun c => .list (c.map PyData.int))) = true := by
  have lay : PyData.canLayAll0 (cs.map fun c => .list (c.map PyData.int)) = true := by
    induction cs with
    | nil => rfl
    | cons c r ih => simp [PyData.canLayAll0, PyData.canLay0, canLay_ints, ih]
  have deep : PyData.depthAll (cs.map fun c => .list (c.map PyData.int)) ≤ 1 := by
    clear lay
    induction cs with
    | nil => simp [PyData.depthAll]
    | cons c r ih =>
      simp only [List.map_cons, PyData.depthAll, PyData.depth, depth_ints]
      omega
  show (PyData.canLay0 _ && decide (PyData.depth _ ≤ 64)) = true
  rw [Bool.and_eq_true]
  refine ⟨by simp only [PyData.canLay0]; exact lay, decide_eq_true ?_⟩
  simp only [PyData.depth]
  omega
theorem any_lists (l : List (List Nat)) (x : List Nat) : ((((l.map nI).map fun c => PyData.list (c.map PyData.int))).any fun z => PyData.eqv z (.list ((nI x).map PyData.int))) = decide (x ∈ l) := by
  rw [List.any_map, List.any_map, Bool.eq_iff_iff, List.any_eq_true, decide_eq_true_eq]
  constructor
  · rintro ⟨c, hc, e⟩
    have e : PyData.eqv (.list ((nI c).map PyData.int)) (.list ((nI x).map PyData.int)) = true := e
    rw [eqvL, decide_eq_true_eq] at e
    rw [← nIinj e]
    exact hc
  · intro h
    refine ⟨x, h, ?_⟩
    show PyData.eqv (.list ((nI x).map PyData.int)) (.list ((nI x).map PyData.int)) = true
    rw [eqvL]
    exact decide_eq_true rfl
theorem lawPs_len (fs : List (List Nat)) : ∀ k, (lawPs fs k).length ≤ k
  | 0 => Nat.le_refl _
  | k + 1 => by
    have := lawPs_len fs k
    unfold lawPs
    split
    · omega
    · rw [List.length_append]
      show _ + 1 ≤ k + 1
      omega
def spLPs (K : PySem.W.Frag) : Sp := fun vs H Q _ => ∃ (c a : Addr) (cs : List Int) (xs : List V) (fs : List (List Tri)), vs = [.ref c, .ref a] ∧ SqL K H c (cs.map V.int) ∧ SqL K H a xs ∧ All2 (FigT K H) xs fs ∧ FigsIn 6 fs ∧ cs.length ≤ 6 ∧
  ∀ (H' : Hp) (d : Addr) (L : List (Addr × List Int)), Same H H' → H' d = some (.lst (L.map fun q => V.ref q.1)) → (∀ q ∈ L, H' q.1 = some (.lst (q.2.map V.int))) → L.map (·.2) = (lawPs (fs.map padNs) cs.length).map nI → Q (.ref d) H'
abbrev sLPs : Stmt := topS 40
abbrev nLPs : List Str := ["_law_colours", "_law_shapes_here", "_law_found", "_law_pad", "_law_mine"]
theorem scLPs : FnScope nLPs ["_law_colours", "_law_shapes_here"] (defScope sLPs) := ⟨rfl, rfl, rfl, by decide +kernel, rfl, by decide +kernel, by decide +kernel⟩
section
variable {P : Program} {w : World} {K : PySem.W.Frag} {mg : Str → Option Value} {base : Heap}
theorem ok_lps {f fO : Addr} {fd fdO : FuncData} {k : Nat} (F : Fun K "_law_parts" "_law_parts" sLPs f fd) (mr : mg "range" = none) (ml : mg "len" = none)
    (FO : Fun K "_law_part" "_law_part" sLPt fO fdO) (bO : Binds K fdO ["_law_shapes_here", "_law_pad"] []) (gO : mg "_law_part" = some (.ref fO)) (GO : FnOk P w K mg base CX0 k fO fdO ["_law_shapes_here", "_law_pad"] (spLPt K)) :
    FnOk P w K mg base CX0 (k + 1) f fd ["_law_colours", "_law_shapes_here"] (spLPs K) := by
  refine F.ok scLPs (fun vs H Q E h => ?_) (fun cdv A outer s H vs Q E hr h => ?_)
  · obtain ⟨c, a, cs, xs, fs, rfl, _⟩ := h
    rfl
  · obtain ⟨c, a, cs, xs, fs, rfl, hc, ha, hA, hF, h6, q⟩ := h
    have h65 : (A.deeper (envOfC "_law_parts" (defScope sLPs) s.heap.objs.size f cdv)).units + 65 < cLine := by
      have := hr.un
      omega
    refine ⟨_, pss_cons (ps_set (i := 2) scLPs.nd rfl (.inl rfl) (pe_lst pa_nil))
      (pss_cons (ps_for PassesOwn.never rfl (pi_range1 (by rfl) mr (pa_cons (pe_callB call_lenQ (by rfl) ml PySem.boot_len (pa_cons (pv 0) pa_nil)) pa_nil)) (pg_name (i := 3) scLPs.nd rfl (.inl rfl)) (pss_cons (ps_set (i := 4) scLPs.nd rfl (.inl rfl) (pe_call GO hr (by rfl) gO FO.kp bO .nil pass0 (pa_cons (pv 1) (pa_cons (pv 3) pa_nil))))
      (pss_one (ps_if (pt_cmpR (op_notInD h65) (pv 4) (pv 2) (by rfl)) (pss_one (ps_expr (pe_bm PySem.F.plainAttrs_list PySem.F.slot_list_append PySem.F.type_list_append mt_append (pv 2) (pa_cons (pv 4) pa_nil)))) pss_nil))))
      (pss_one (ps_ret (pv 2)))), ?_⟩
    refine ⟨Nat.zero_le _, fun D nD => ?_⟩
    have u0 := same_upd (o := .lst []) nD
    refine ⟨.ref c, rfl, c, _, rfl, .inl (u0.seq hc), ((cs.map V.int).length : Nat), rfl, by rw [List.length_map]; omega, by rw [List.length_map]; omega, ?_⟩
    rw [Int.toNat_natCast, List.length_map]
    refine for_range (lo := 0) (n := cs.length) (fun i σ H' => ∃ (y3 y4 : Option V) (L : List (Addr × List Int)), σ = [some (.ref c), some (.ref a), some (.ref D), y3, y4] ∧ Same H H' ∧ H' D = some (.lst (L.map fun q => V.ref q.1)) ∧ (∀ q ∈ L, q.1 ≠ D ∧ H' q.1 = some (.lst (q.2.map V.int))) ∧ L.map (·.2) = (lawPs (fs.map padNs) i).map nI)
      ⟨none, none, [], rfl, u0, upd_same, (fun q hq => by cases hq), rfl⟩ ?_ ?_
    · rintro i σ H1 hi ⟨y3, y4, L, rfl, s1, hD, hL, eL⟩
      have e0 : (0 : Int) + (i : Int) = ((i : Nat) : Int) := by omega
      rw [e0]
      refine ⟨.ref a, rfl, .int (i : Nat), rfl, a, xs, fs, i, rfl, s1.seq ha, hA.mono fun _ _ => FigT.ts (TS.of s1), hF, by omega, fun H2 d s2 nd hd => ?_⟩
      have hD2 := s2 _ _ hD
      have ndD : d ≠ D := fun e => by rw [e, hD] at nd; cases nd
      refine ⟨.ref d, rfl, .ref D, rfl, _, _, dpL (SqL.of hd), .lst (SqL.of hD2) (lists_data fun q hq => SqL.of (s2 _ _ (hL q hq).2)), shL _, lists_shape _, ?_⟩
      rw [eL, any_lists]
      have hlen : L.length ≤ i := by
        have h1 := congrArg List.length eL
        rw [List.length_map, List.length_map] at h1
        have := lawPs_len (fs.map padNs) i
        omega
      refine ⟨_, rfl, ite2 (fun e => ?_) (fun e => ?_)⟩
      · have nin : walkP (fs.map padNs) i 6 ∉ lawPs (fs.map padNs) i := fun z => by
          rw [decide_eq_true z] at e
          cases e
        refine ⟨.ref D, rfl, .inl ⟨rfl, _, SqL.of hD2⟩, .ref d, rfl, D, _, _, rfl, rfl, hD2, ?_, ?_⟩
        · rw [List.length_map]
          exact small1000 (by omega)
        · refine ⟨_, _, L ++ [(d, nI (walkP (fs.map padNs) i 6))], rfl, Same.offUpd (s1.trans s2) nD, ?_, fun q hq => ?_, ?_⟩
          · rw [upd_same, List.map_append]
            rfl
          · rcases List.mem_append.mp hq with z | z
            · obtain ⟨q1, q2⟩ := hL q z
              exact ⟨q1, by rw [upd_ne q1]; exact s2 _ _ q2⟩
            · rw [List.mem_singleton.mp z]
              exact ⟨ndD, by rw [upd_ne ndD]; exact hd⟩
          · rw [show lawPs (fs.map padNs) (i + 1) = lawPs (fs.map padNs) i ++ [walkP (fs.map padNs) i 6] from if_neg nin, List.map_append, List.map_append, eL]
            rfl
      · have hin : walkP (fs.map padNs) i 6 ∈ lawPs (fs.map padNs) i := Classical.byContradiction fun z => e (by rw [decide_eq_false z]; rfl)
        refine ⟨_, _, L, rfl, s1.trans s2, hD2, (fun q hq => ⟨(hL q hq).1, s2 _ _ (hL q hq).2⟩), ?_⟩
        rw [show lawPs (fs.map padNs) (i + 1) = lawPs (fs.map padNs) i from if_pos hin]
        exact eL
    · rintro σ H1 ⟨y3, y4, L, rfl, s1, hD, hL, eL⟩
      exact ⟨.ref D, rfl, q H1 D L s1 hD (fun z hz => (hL z hz).2) eL⟩
end
/-! ### the law -/
abbrev sLaw : Stmt := topS 41
abbrev nLaw : List Str := ["_law_script", "_law_bag_here", "_law_turn", "_law_colours", "_law_shapes_here", "_law_book", "_law_again", "_law_told", "_law_part_here"]
theorem scLaw : FnScope nLaw ["_law_script"] (defScope sLaw) := ⟨rfl, rfl, rfl, by decide +kernel, rfl, by decide +kernel, by decide +kernel⟩
def spLaw (K : PySem.W.Frag) : Sp := fun vs H Q _ => ∃ (a : Addr) (ns : List Int), vs = [.ref a] ∧ SqL K H a (ns.map V.int) ∧ ns.length ≤ 63 ∧ ∀ H', Q (.bl true) H'
theorem lk_int {K : PySem.W.Frag} {H : Hp} {n : Nat} (i : Int) : Lk K H (n + 1) (.int i) (.int i) := .inl ⟨rfl, .inr (.inr (.inl ⟨i, rfl⟩))⟩
theorem lk_intL {K : PySem.W.Frag} {H : Hp} {n : Nat} {a b : Addr} {c : List Int} (h1 : SqL K H a (c.map V.int)) (h2 : SqL K H b (c.map V.int)) (hl : c.length ≤ 1000) : Lk K H (n + 2) (.ref a) (.ref b) :=
  .inr ⟨a, b, _, _, rfl, rfl, .inl ⟨h1, h2⟩, rfl, by rw [List.length_map]; exact hl, fun i x y hx hy => by
    rw [hx] at hy
    obtain rfl := Option.some.inj hy
    rw [List.getElem?_map] at hx
    cases hz : c[i]? with
    | none => rw [hz] at hx; cases hx
    | some z =>
      rw [hz] at hx
      obtain rfl := Option.some.inj hx
      exact lk_int z⟩
theorem lk_lists {K : PySem.W.Frag} {H : Hp} {n : Nat} {a b : Addr} {L M : List (Addr × List Int)} (h1 : SqL K H a (L.map fun q => V.ref q.1)) (h2 : SqL K H b (M.map fun q => V.ref q.1)) (hL : ∀ q ∈ L, SqL K H q.1 (q.2.map V.int)) (hM : ∀ q ∈ M, SqL K H q.1 (q.2.map V.int))
    (e : L.map (·.2) = M.map (·.2)) (hl : L.length ≤ 1000) (hd : ∀ q ∈ L, q.2.length ≤ 1000) : Lk K H (n + 3) (.ref a) (.ref b) := by
  refine .inr ⟨a, b, _, _, rfl, rfl, .inl ⟨h1, h2⟩, ?_, by rw [List.length_map]; exact hl, fun i x y hx hy => ?_⟩
  · have := congrArg List.length e
    rw [List.length_map, List.length_map] at this
    rw [List.length_map, List.length_map, this]
  · rw [List.getElem?_map] at hx hy
    have ei := congrArg (fun l : List (List Int) => l[i]?) e
    simp only [List.getElem?_map] at ei
    cases hp : L[i]? with
    | none => rw [hp] at hx; cases hx
    | some p =>
      cases hq : M[i]? with
      | none => rw [hq] at hy; cases hy
      | some q =>
        rw [hp] at hx ei
        rw [hq] at hy ei
        obtain rfl := Option.some.inj hx
        obtain rfl := Option.some.inj hy
        have e2 : p.2 = q.2 := Option.some.inj ei
        have mp := List.mem_of_getElem? hp
        have mq := List.mem_of_getElem? hq
        refine lk_intL (hL p mp) ?_ (hd p mp)
        rw [e2]
        exact hM q mq
theorem FigsIn.of {cs : List Int} {fs : List (List Tri)} (h : GoodB cs fs) (h6 : cs.length ≤ 6) : FigsIn cs.length fs :=
  ⟨fun f hf => (h.all f hf).ne, fun f hf => (h.all f hf).padsUp h6, fun f hf => by have := (h.all f hf).len; omega, fun f hf i hi => by
    obtain ⟨t, ht, rfl⟩ := List.mem_map.mp hi
    have g := (h.all f hf).all t ht
    have := g.p0
    have := g.p1
    omega⟩
theorem FigsIn.six {n : Nat} {fs : List (List Tri)} (h : FigsIn n fs) (hn : n ≤ 6) : FigsIn 6 fs := ⟨h.ne, h.up, h.len, fun f hf i hi => by have := h.lt f hf i hi; omega⟩
theorem lawPs_small {fs : List (List Nat)} {k : Nat} (hk : k ≤ 6) {c : List Int} (h : c ∈ (lawPs fs k).map nI) : c.length ≤ 6 := by
  obtain ⟨x, hx, rfl⟩ := List.mem_map.mp h
  obtain ⟨p, hp, rfl⟩ := (lawPs_mem fs k x).mp hx
  have := can_six (walk_can (fs := fs) (p := p) (by omega) 6)
  unfold nI
  rw [List.length_map]
  exact this
section
variable {P : Program} {w : World} {K : PySem.W.Frag} {mg : Str → Option Value} {base : Heap}
theorem ok_law {f C fB fH fS fP fI fA fL fK : Addr} {fd fdB fdH fdS fdP fdI fdA fdL fdK : FuncData} {gI : List Value → List Value → List Value} (F : Fun K "law" "law" sLaw f fd) (T : BkTxt K mg C) (MI : Mk K C fI)
    (FB : Fun K "_law_bag" "_law_bag" sBag fB fdB) (bB : Binds K fdB ["_law_script"] []) (gB : mg "_law_bag" = some (.ref fB)) (GB : FnOk P w K mg base CX0 5 fB fdB ["_law_script"] (spBag K))
    (FH : Fun K "_law_hues" "_law_hues" sHues fH fdH) (bH : Binds K fdH ["_law_bag_here", "_law_most"] []) (gH : mg "_law_hues" = some (.ref fH)) (GH : FnOk P w K mg base CX0 5 fH fdH ["_law_bag_here", "_law_most"] spHues)
    (FP : Fun K "_law_pull" "_law_pull" sPull fP fdP) (bP : Binds K fdP ["_law_bag_here", "_law_size"] []) (gP : mg "_law_pull" = some (.ref fP)) (GP : FnOk P w K mg base CX0 5 fP fdP ["_law_bag_here", "_law_size"] spPull)
    (FS : Fun K "_law_shapes" "_law_shapes" sShapes fS fdS) (bS : Binds K fdS ["_law_bag_here", "_law_colours", "_law_most"] []) (gS : mg "_law_shapes" = some (.ref fS)) (GS : FnOk P w K mg base CX0 5 fS fdS ["_law_bag_here", "_law_colours", "_law_most"] (spShapes K))
    (kI : KBn K fdI ["self", "colours", "figures"] 2 ["figures"] gI (fun vs zs => vs ++ zs)) (GI : FnOk P w K mg base CX0 4 fI fdI ["self", "colours", "figures"] (spInit K C))
    (bA : Binds K fdA ["self"] []) (mA : Meth K C "parts" fA) (GA : FnOk P w K mg base CX0 5 fA fdA ["self"] (spParts K C))
    (FL : Fun K "_law_parts" "_law_parts" sLPs fL fdL) (bL : Binds K fdL ["_law_colours", "_law_shapes_here"] []) (gL : mg "_law_parts" = some (.ref fL)) (GL : FnOk P w K mg base CX0 5 fL fdL ["_law_colours", "_law_shapes_here"] (spLPs K))
    (FK : Fun K "_law_like" "_law_like" sLike fK fdK) (bK : Binds K fdK ["_law_one", "_law_due"] []) (gK : mg "_law_like" = some (.ref fK)) (GK : FnOk P w K mg base CX0 5 fK fdK ["_law_one", "_law_due"] (spLike K 5))
    (mr : mg "range" = none) : FnOk P w K mg base CX0 6 f fd ["_law_script"] (spLaw K) := by
  refine F.ok scLaw (fun vs H Q E h => ?_) (fun cdv A outer s H vs Q E hr h => ?_)
  · obtain ⟨a, ns, rfl, _⟩ := h
    rfl
  · obtain ⟨a, ns, rfl, hS, hlen, q⟩ := h
    refine ⟨_, pss_cons (ps_set (i := 1) scLaw.nd rfl (.inl rfl) (pe_call GB hr (by rfl) gB FB.kp bB .nil pass0 (pa_cons (pv 0) pa_nil)))
      (pss_cons (ps_for PassesOwn.never rfl (pi_range1 (by rfl) mr (pa_cons pe_int pa_nil)) (pg_name (i := 2) scLaw.nd rfl (.inl rfl)) (pss_cons (ps_set (i := 3) scLaw.nd rfl (.inl rfl) (pe_call GH hr (by rfl) gH FH.kp bH .nil pass0 (pa_cons (pv 1) (pa_cons pe_int pa_nil))))
      (pss_cons (ps_set (i := 4) scLaw.nd rfl (.inl rfl) (pe_call GS hr (by rfl) gS FS.kp bS .nil pass0 (pa_cons (pv 1) (pa_cons (pv 3) (pa_cons (pe_call GP hr (by rfl) gP FP.kp bP .nil pass0 (pa_cons (pv 1) (pa_cons pe_int pa_nil))) pa_nil)))))
      (pss_cons (ps_set (i := 5) scLaw.nd rfl (.inl rfl) (pe_makeK (n := 1) MI GI hr (by rfl) T.mgC kI pass0 (pa_cons (pv 3) pa_nil) (pk_cons (pv 4) pk_nil)))
      (pss_one (ps_for PassesOwn.never rfl (pi_range1 (by rfl) mr (pa_cons pe_int pa_nil)) (pg_name (i := 6) scLaw.nd rfl (.inl rfl)) (pss_cons (ps_set (i := 7) scLaw.nd rfl (.inl rfl) (pe_meth0 (pv 5) T.cl mA GA hr bA .nil pass0))
      (pss_cons (ps_if (pt_not (pt_val (pe_call GK hr (by rfl) gK FK.kp bK .nil pass0 (pa_cons (pv 7) (pa_cons (pe_call GL hr (by rfl) gL FL.kp bL .nil pass0 (pa_cons (pv 3) (pa_cons (pv 4) pa_nil))) pa_nil))))) (pss_one (ps_ret pe_bl)) pss_nil)
      (pss_cons (ps_for PassesOwn.never rfl (pi_list (pv 7)) (pg_name (i := 8) scLaw.nd rfl (.inl rfl)) (pss_one (ps_expr (pe_bm PySem.F.plainAttrs_list PySem.F.slot_list_append PySem.F.type_list_append mt_append (pv 8) (pa_cons pe_int pa_nil)))))
      (pss_one (ps_expr (pe_bm0 PySem.F.plainAttrs_list PySem.F.slot_list_clear PySem.F.type_list_clear mt_clear (pv 7)))))))))))))
      (pss_one (ps_ret pe_bl))), ?_⟩
    refine ⟨.ref a, rfl, a, ns, rfl, hS, hlen, fun H1 b c s1 hB _ => ?_⟩
    refine ⟨3, rfl, by decide, by decide, for_range (lo := 0) (n := 3) (fun i σ H' => ∃ (y0 y2 y3 y4 y5 y6 y7 y8 : Option V), σ = [y0, some (.ref b), y2, y3, y4, y5, y6, y7, y8] ∧ Bag H' b c) ⟨_, _, _, _, _, _, _, _, rfl, hB⟩ ?_ ?_⟩
    · rintro i σ H1 hi ⟨y0, y2, y3, y4, y5, y6, y7, y8, rfl, hB⟩
      refine ⟨.ref b, rfl, b, c, 6, rfl, hB, by decide, by decide, fun H2 p cs off2 hB2 _ hpb hp hc1 hc6 hcs => ?_⟩
      refine ⟨.ref b, rfl, .ref p, rfl, .ref b, rfl, b, c, 7, rfl, hB2, by decide, by decide, fun Hm r offm hBm hr0 hr7 => ?_⟩
      obtain ⟨m, rfl⟩ : ∃ m : Nat, r = (m : Nat) := ⟨r.toNat, by omega⟩
      have hpm := offm _ _ hpb hp
      refine ⟨b, c, p, cs, m, rfl, hBm, hpm, hpb, hc1, hc6, hcs, by omega, fun H3 d xs fs off3 hB3 _ hdb hd hA hG hfl _ => ?_⟩
      have hp3 := off3 _ _ hpb hpm
      refine ⟨.ref p, rfl, .ref d, rfl, rfl, rfl, fun x dx nx ndx nxd => ?_⟩
      have u1 := same_upd (o := .own x) ndx
      have nx1 : (upd H3 dx (.own x)) x = none := by
        rw [upd_ne nxd.symm]
        exact nx
      have u2 := same_upd (o := .ins C dx []) nx1
      have u12 := u1.trans u2
      refine ⟨x, dx, p, d, cs, xs, fs, rfl, upd_same, u12.seq (SqL.of hp3), u12.seq (SqL.of hd), hA.mono fun _ _ => FigT.ts (TS.of u12), ⟨hc1, hc6, hcs⟩, hG, by omega, fun H4 off4 hBk => ⟨rfl, ?_⟩⟩
      have s34 : Same H3 H4 := fun q o e => off4 q o (ne_of_none e nx) (u12 q o e)
      have hd4 := s34 _ _ hd
      have hp4 := s34 _ _ hp3
      have hA4 := hA.mono fun _ _ => FigT.ts (TS.of (K := K) s34)
      have hB4 := hB3.same s34
      have hFn := FigsIn.of hG hc6
      refine ⟨2, rfl, by decide, by decide, for_range (lo := 0) (n := 2) (fun j σ H' => ∃ (y0 y2 y6 y7 y8 : Option V), σ = [y0, some (.ref b), y2, some (.ref p), some (.ref d), some (.ref x), y6, y7, y8] ∧ Same H4 H') ⟨_, _, _, _, _, rfl, Same.refl _⟩ ?_ ?_⟩
      · rintro j σ H' hj ⟨y0, y2, y6, y7, y8, rfl, sm⟩
        obtain ⟨dx', a', b', xs', hx', _⟩ := id (hBk.same sm)
        refine ⟨.ref x, rfl, x, dx', _, rfl, hx', rfl, x, cs, fs, rfl, hBk.same sm, hc6, by omega, hFn, fun H5 t L s5 nt ht hL eL => ?_⟩
        have s45 := sm.trans s5
        have hLs : ∀ q ∈ L, q.2.length ≤ 6 := fun q hq => lawPs_small hc6 (by rw [← eL]; exact List.mem_map.mpr ⟨q, hq, rfl⟩)
        have hLl : L.length ≤ 6 := by
          have h1 := congrArg List.length eL
          rw [List.length_map, List.length_map] at h1
          have := lawPs_len (fs.map padNs) cs.length
          omega
        refine ⟨.ref t, rfl, .ref p, rfl, .ref d, rfl, p, d, cs, xs, fs, rfl, SqL.of (s45 _ _ hp4), SqL.of (s45 _ _ hd4), hA4.mono fun _ _ => FigT.ts (TS.of s45), hFn.six hc6, hc6, fun H6 t2 M s6 ht2 hM eM => ?_⟩
        refine ⟨.ref t, .ref t2, rfl, lk_lists (SqL.of (s6 _ _ ht)) (SqL.of ht2) (fun q hq => SqL.of (s6 _ _ (hL q hq).2.2)) (fun q hq => SqL.of (hM q hq)) (eL.trans eM.symm) (by omega) (fun q hq => by have := hLs q hq; omega), fun H7 s7 => ⟨_, rfl, iteF ?_⟩⟩
        have ht7 := s7 _ _ (s6 _ _ ht)
        refine ⟨.ref t, rfl, t, rfl, ⟨_, SqL.of ht7⟩, ?_⟩
        refine for_list (K := K) (a := t) (xs := L.map fun q => V.ref q.1) (fun n σ H' => ∃ (y0 y2 y6 y8 : Option V), σ = [y0, some (.ref b), y2, some (.ref p), some (.ref d), some (.ref x), y6, some (.ref t), y8] ∧ Same H4 H' ∧ H' t = some (.lst (L.map fun q => V.ref q.1)) ∧ ∀ q ∈ L, ∃ zs, H' q.1 = some (.lst zs) ∧ zs.length ≤ 6 + n)
          ⟨_, _, _, _, rfl, (s45.trans s6).trans s7, ht7, fun q hq => ⟨_, s7 _ _ (s6 _ _ (hL q hq).2.2), by have := hLs q hq; rw [List.length_map]; omega⟩⟩ (fun n σ H' _ ⟨_, _, _, _, _, _, h, _⟩ => SqL.of h) ?_ ?_
        · rintro n v σ H8 hv ⟨y0, y2, y6, y8, rfl, s8, ht8, hz⟩
          rw [List.getElem?_map] at hv
          cases hq : L[n]? with
          | none => rw [hq] at hv; cases hv
          | some q0 =>
            rw [hq] at hv
            obtain rfl := Option.some.inj hv
            have m0 := List.mem_of_getElem? hq
            have hn : n < L.length := (List.getElem?_eq_some_iff.mp hq).1
            obtain ⟨zs, hzs, hzl⟩ := hz q0 m0
            obtain ⟨q1, q2, _⟩ := hL q0 m0
            have n4 : H4 q0.1 = none := sm.free q2
            refine ⟨.ref q0.1, rfl, .inl ⟨rfl, _, SqL.of hzs⟩, q0.1, _, _, rfl, rfl, hzs, small1000 (by omega), ?_⟩
            refine ⟨_, _, _, _, rfl, Same.offUpd s8 n4, ?_, fun q hq' => ?_⟩
            · rw [upd_ne q1.symm]
              exact ht8
            · by_cases e : q.1 = q0.1
              · refine ⟨zs ++ [.int 9], by rw [e, upd_same], ?_⟩
                rw [List.length_append]
                show zs.length + 1 ≤ _
                omega
              · obtain ⟨ws, h1, h2⟩ := hz q hq'
                exact ⟨ws, by rw [upd_ne e]; exact h1, by omega⟩
        · rintro σ H8 ⟨y0, y2, y6, y8, rfl, s8, ht8, hz⟩
          refine ⟨.ref t, rfl, .inl ⟨rfl, _, SqL.of ht8⟩, t, _, rfl, rfl, ht8, ?_⟩
          exact ⟨_, _, _, _, _, rfl, Same.offUpd s8 (sm.free nt)⟩
      · rintro σ H' ⟨y0, y2, y6, y7, y8, rfl, sm⟩
        exact ⟨_, _, _, _, _, _, _, _, rfl, hB4.same sm⟩
    · rintro σ H' ⟨y0, y2, y3, y4, y5, y6, y7, y8, rfl, _⟩
      exact q _
end
/-! ### the default of Heap's row and of Book's figures: the tuple without things -/
def emptyB (K : PySem.W.Frag) (a : Addr) : Bool := match K.lookup a with
  | some ⟨.type c, _, .seq its _, _⟩ => decide (c = "tuple") && decide (its.size = 0)
  | _ => false
theorem emptyB_ok {K : PySem.W.Frag} {a : Addr} (h : emptyB K a = true) (H : Hp) : SqT K H a [] := by
  unfold emptyB at h
  split at h
  · rename_i c od its n sl e
    obtain ⟨h1, h2⟩ := He.ba h
    have h1 := of_decide_eq_true h1
    have h2 := of_decide_eq_true h2
    subst h1
    obtain rfl : its = #[] := Array.eq_empty_of_size_eq_zero h2
    exact .inr ⟨_, #[], n, e, rfl, rfl, Nat.zero_le _, .nil⟩
  · cases h
/-- the first default of a method -/
def dflOf (K : PySem.W.Frag) (C m : Str) : Addr := match K.lookup (He.ma K (He.ga K C) m) with
  | some ⟨_, _, .func fd, _⟩ => (match fd.defaults with
    | .ref T => (match K.lookup T with
      | some ⟨_, _, .seq its _, _⟩ => (match its.toList with
        | .ref a :: _ => a
        | _ => 0)
      | _ => 0)
    | _ => 0)
  | _ => 0
def emptyH (K : PySem.W.Frag) : Addr := dflOf K "Heap" "__init__"
/-- the default of Book's figures -/
def emptyT (K : PySem.W.Frag) : Addr := match K.lookup (He.ma K (He.ga K "Book") "__init__") with
  | some ⟨_, _, .func fd, _⟩ => (match fd.kwdefaults with
    | .ref D => (match PySem.W.nsIn K D "figures" with
      | some (some (.ref a)) => a
      | _ => 0)
    | _ => 0)
  | _ => 0
/-! ### the head by facts; the end -/
def hFa : List He.Fa := (([.glo "check_colours", .glo "check_figures", .glo "is_figure", .glo "is_triple", .glo "check_meetings", .glo "copy_of_figure", .glo "pads_of", .glo "mask_of", .glo "pads_in", .glo "united", .glo "bar", .glo "_law_bag"] : List He.Fa) ++ ([.glo "_law_pull", .glo "_law_of", .glo "_law_hues", .glo "_law_shape", .glo "_law_bars", .glo "_law_shapes", .glo "_law_like", .glo "_law_pads", .glo "_law_part", .glo "_law_parts", .glo "law", .glo "Book"] : List He.Fa) ++ ([.cls "Book", .noat "Book" "palette", .noat "Book" "shapes", .mkr "Book", .meth "Book" "__init__", .meth "Book" "parts", .free "len", .free "list", .free "tuple", .free "range", .free "isinstance", .free "all"] : List He.Fa) ++ ([.free "any", .free "bool", .free "int", .free "str", .free "dict", .free "enumerate", .free "zip", .free "sorted", .free "sum", .free "set", .int "MOST_PADS" 6, .int "MOST_COLOURS" 4] : List He.Fa) ++ ([.int "MOST_FIGURES" 12, .int "MOST_DEPTH" 3] : List He.Fa))
def hFn : List He.DefD := ([dOf ("check_colours", none) "check_colours" "check_colours" sCCol [] [], dOf ("check_figures", none) "check_figures" "check_figures" sCFig [] [], dOf ("is_figure", none) "is_figure" "is_figure" sIsFig [] [], dOf ("is_triple", none) "is_triple" "is_triple" sIsTri [] [], dOf ("check_meetings", none) "check_meetings" "check_meetings" sCMeet [] [], dOf ("copy_of_figure", none) "copy_of_figure" "copy_of_figure" sCopyF [] [], dOf ("pads_of", none) "pads_of" "pads_of" sPadsOf [] [], dOf ("mask_of", none) "mask_of" "mask_of" sMask [] [], dOf ("pads_in", none) "pads_in" "pads_in" sPIn [] [], dOf ("united", none) "united" "united" sUni [] [], dOf ("bar", none) "bar" "bar" sBar [] [], dOf ("_law_bag", none) "_law_bag" "_law_bag" sBag [] []] : List He.DefD) ++ ([dOf ("_law_pull", none) "_law_pull" "_law_pull" sPull [] [], dOf ("_law_of", none) "_law_of" "_law_of" sOf [] [], dOf ("_law_hues", none) "_law_hues" "_law_hues" sHues [] [], dOf ("_law_shape", none) "_law_shape" "_law_shape" sShape [] [], dOf ("_law_bars", none) "_law_bars" "_law_bars" sBars [] [], dOf ("_law_shapes", none) "_law_shapes" "_law_shapes" sShapes [] [], dOf ("_law_like", none) "_law_like" "_law_like" sLike [] [], dOf ("_law_pads", none) "_law_pads" "_law_pads" sLPads [] [], dOf ("_law_part", none) "_law_part" "_law_part" sLPt [] [], dOf ("_law_parts", none) "_law_parts" "_law_parts" sLPs [] [], dOf ("law", none) "law" "law" sLaw [] [], dOf ("Book", some "__init__") "__init__" "Book.__init__" sInit [] [("figures", .adr emptyT)]] : List He.DefD) ++ ([dOf ("Book", some "parts") "parts" "Book.parts" sPts [] []] : List He.DefD)
def hEx (K : PySem.W.Frag) : Bool := emptyB K (emptyT K)
def hTf : List He.Defn := []
def hNames : List PySem.Str := (["_wall", "TearError", "BadColours", "BadFigure", "Meeting", "TooMany", "Missing", "NoFigure", "MOST_PADS", "MOST_COLOURS", "MOST_FIGURES", "MOST_DEPTH"] : List PySem.Str) ++ (["Book", "check_colours", "check_figures", "is_figure", "is_triple", "check_meetings", "copy_of_figure", "pads_of", "mask_of", "pads_in", "bar", "united"] : List PySem.Str) ++ (["colours_text", "figure_text", "triple_text", "_law_bag", "_law_pull", "_law_of", "_law_hues", "_law_shape", "_law_bars", "_law_shapes", "_law_like", "_law_pads"] : List PySem.Str) ++ (["_law_part", "_law_parts"] : List PySem.Str)
abbrev hR : PySem.W.OpenRow := PySem.W.OpenLaw.row PySem.Challenge.rw_tearboard_k05_parts
abbrev hK : PySem.W.Hook := hookS 5 hFa hFn hTf hEx
def hOb (s : PySem.W.SharedT) : He.AlX := lookS 5 hFa hFn hTf hEx (HandSHeadRun.getT s)
theorem hOb_eq (s : PySem.W.SharedT) : hOb s = hK.obs s.abs := lookS_eq s
theorem hFacts {l : PySem.W.OpenLaw} {w : World} {K : PySem.W.Frag} {h : Heap} {mg : Str → Option Value} {fa0 : Addr} (X : K.In h) (G : h.Ns mainGlobals mg) (hfa : mg "law" = some (.ref fa0)) (c : He.SaysX hFa hFn [] hTf hEx w h K) : LamX.LawAtS l w K CX0 6 63 "_law_script" mg fa0 h := by
  have cd := c.t.d
  have mo0 := c.more
  have x0 := mo0
  obtain ⟨fdcc, Fcc0⟩ := cd.def_ 0 (d := dOf ("check_colours", none) "check_colours" "check_colours" sCCol [] []) rfl
  have Fcc : Fun K "check_colours" "check_colours" sCCol (He.ga K "check_colours") fdcc := funOf Fcc0
  have gcc : mg "check_colours" = some (.ref (He.ga K "check_colours")) := He.glo_ok X G (cd.fact 0 (f := .glo "check_colours") rfl)
  have bcc := Fcc.binds (ps := ["colours"]) fun _ _ _ _ _ _ us hl => match us, hl with | [_], _ => rfl
  obtain ⟨fdcf, Fcf0⟩ := cd.def_ 1 (d := dOf ("check_figures", none) "check_figures" "check_figures" sCFig [] []) rfl
  have Fcf : Fun K "check_figures" "check_figures" sCFig (He.ga K "check_figures") fdcf := funOf Fcf0
  have gcf : mg "check_figures" = some (.ref (He.ga K "check_figures")) := He.glo_ok X G (cd.fact 1 (f := .glo "check_figures") rfl)
  have bcf := Fcf.binds (ps := ["colours", "figures"]) fun _ _ _ _ _ _ us hl => match us, hl with | [_, _], _ => rfl
  obtain ⟨fdfi, Ffi0⟩ := cd.def_ 2 (d := dOf ("is_figure", none) "is_figure" "is_figure" sIsFig [] []) rfl
  have Ffi : Fun K "is_figure" "is_figure" sIsFig (He.ga K "is_figure") fdfi := funOf Ffi0
  have gfi : mg "is_figure" = some (.ref (He.ga K "is_figure")) := He.glo_ok X G (cd.fact 2 (f := .glo "is_figure") rfl)
  have bfi := Ffi.binds (ps := ["colours", "figure"]) fun _ _ _ _ _ _ us hl => match us, hl with | [_, _], _ => rfl
  obtain ⟨fdti, Fti0⟩ := cd.def_ 3 (d := dOf ("is_triple", none) "is_triple" "is_triple" sIsTri [] []) rfl
  have Fti : Fun K "is_triple" "is_triple" sIsTri (He.ga K "is_triple") fdti := funOf Fti0
  have gti : mg "is_triple" = some (.ref (He.ga K "is_triple")) := He.glo_ok X G (cd.fact 3 (f := .glo "is_triple") rfl)
  have bti := Fti.binds (ps := ["colours", "triple"]) fun _ _ _ _ _ _ us hl => match us, hl with | [_, _], _ => rfl
  obtain ⟨fdcm, Fcm0⟩ := cd.def_ 4 (d := dOf ("check_meetings", none) "check_meetings" "check_meetings" sCMeet [] []) rfl
  have Fcm : Fun K "check_meetings" "check_meetings" sCMeet (He.ga K "check_meetings") fdcm := funOf Fcm0
  have gcm : mg "check_meetings" = some (.ref (He.ga K "check_meetings")) := He.glo_ok X G (cd.fact 4 (f := .glo "check_meetings") rfl)
  have bcm := Fcm.binds (ps := ["figures"]) fun _ _ _ _ _ _ us hl => match us, hl with | [_], _ => rfl
  obtain ⟨fdcy, Fcy0⟩ := cd.def_ 5 (d := dOf ("copy_of_figure", none) "copy_of_figure" "copy_of_figure" sCopyF [] []) rfl
  have Fcy : Fun K "copy_of_figure" "copy_of_figure" sCopyF (He.ga K "copy_of_figure") fdcy := funOf Fcy0
  have gcy : mg "copy_of_figure" = some (.ref (He.ga K "copy_of_figure")) := He.glo_ok X G (cd.fact 5 (f := .glo "copy_of_figure") rfl)
  have bcy := Fcy.binds (ps := ["figure"]) fun _ _ _ _ _ _ us hl => match us, hl with | [_], _ => rfl
  obtain ⟨fdpo_, Fpo_0⟩ := cd.def_ 6 (d := dOf ("pads_of", none) "pads_of" "pads_of" sPadsOf [] []) rfl
  have Fpo_ : Fun K "pads_of" "pads_of" sPadsOf (He.ga K "pads_of") fdpo_ := funOf Fpo_0
  have gpo_ : mg "pads_of" = some (.ref (He.ga K "pads_of")) := He.glo_ok X G (cd.fact 6 (f := .glo "pads_of") rfl)
  have bpo_ := Fpo_.binds (ps := ["figure"]) fun _ _ _ _ _ _ us hl => match us, hl with | [_], _ => rfl
  obtain ⟨fdms, Fms0⟩ := cd.def_ 7 (d := dOf ("mask_of", none) "mask_of" "mask_of" sMask [] []) rfl
  have Fms : Fun K "mask_of" "mask_of" sMask (He.ga K "mask_of") fdms := funOf Fms0
  have gms : mg "mask_of" = some (.ref (He.ga K "mask_of")) := He.glo_ok X G (cd.fact 7 (f := .glo "mask_of") rfl)
  have bms := Fms.binds (ps := ["figure"]) fun _ _ _ _ _ _ us hl => match us, hl with | [_], _ => rfl
  obtain ⟨fdpn, Fpn0⟩ := cd.def_ 8 (d := dOf ("pads_in", none) "pads_in" "pads_in" sPIn [] []) rfl
  have Fpn : Fun K "pads_in" "pads_in" sPIn (He.ga K "pads_in") fdpn := funOf Fpn0
  have gpn : mg "pads_in" = some (.ref (He.ga K "pads_in")) := He.glo_ok X G (cd.fact 8 (f := .glo "pads_in") rfl)
  have bpn := Fpn.binds (ps := ["mask"]) fun _ _ _ _ _ _ us hl => match us, hl with | [_], _ => rfl
  obtain ⟨fdui, Fui0⟩ := cd.def_ 9 (d := dOf ("united", none) "united" "united" sUni [] []) rfl
  have Fui : Fun K "united" "united" sUni (He.ga K "united") fdui := funOf Fui0
  have gui : mg "united" = some (.ref (He.ga K "united")) := He.glo_ok X G (cd.fact 9 (f := .glo "united") rfl)
  have bui := Fui.binds (ps := ["groups", "mask"]) fun _ _ _ _ _ _ us hl => match us, hl with | [_, _], _ => rfl
  obtain ⟨fdba, Fba0⟩ := cd.def_ 10 (d := dOf ("bar", none) "bar" "bar" sBar [] []) rfl
  have Fba : Fun K "bar" "bar" sBar (He.ga K "bar") fdba := funOf Fba0
  have gba : mg "bar" = some (.ref (He.ga K "bar")) := He.glo_ok X G (cd.fact 10 (f := .glo "bar") rfl)
  have bba := Fba.binds (ps := ["one", "other"]) fun _ _ _ _ _ _ us hl => match us, hl with | [_, _], _ => rfl
  obtain ⟨fdB, FB0⟩ := cd.def_ 11 (d := dOf ("_law_bag", none) "_law_bag" "_law_bag" sBag [] []) rfl
  have FB : Fun K "_law_bag" "_law_bag" sBag (He.ga K "_law_bag") fdB := funOf FB0
  have gB : mg "_law_bag" = some (.ref (He.ga K "_law_bag")) := He.glo_ok X G (cd.fact 11 (f := .glo "_law_bag") rfl)
  have bB := FB.binds (ps := ["_law_script"]) fun _ _ _ _ _ _ us hl => match us, hl with | [_], _ => rfl
  obtain ⟨fdP, FP0⟩ := cd.def_ 12 (d := dOf ("_law_pull", none) "_law_pull" "_law_pull" sPull [] []) rfl
  have FP : Fun K "_law_pull" "_law_pull" sPull (He.ga K "_law_pull") fdP := funOf FP0
  have gP : mg "_law_pull" = some (.ref (He.ga K "_law_pull")) := He.glo_ok X G (cd.fact 12 (f := .glo "_law_pull") rfl)
  have bP := FP.binds (ps := ["_law_bag_here", "_law_size"]) fun _ _ _ _ _ _ us hl => match us, hl with | [_, _], _ => rfl
  obtain ⟨fdO, FO0⟩ := cd.def_ 13 (d := dOf ("_law_of", none) "_law_of" "_law_of" sOf [] []) rfl
  have FO : Fun K "_law_of" "_law_of" sOf (He.ga K "_law_of") fdO := funOf FO0
  have gO : mg "_law_of" = some (.ref (He.ga K "_law_of")) := He.glo_ok X G (cd.fact 13 (f := .glo "_law_of") rfl)
  have bO := FO.binds (ps := ["_law_bag_here", "_law_things"]) fun _ _ _ _ _ _ us hl => match us, hl with | [_, _], _ => rfl
  obtain ⟨fdHu, FHu0⟩ := cd.def_ 14 (d := dOf ("_law_hues", none) "_law_hues" "_law_hues" sHues [] []) rfl
  have FHu : Fun K "_law_hues" "_law_hues" sHues (He.ga K "_law_hues") fdHu := funOf FHu0
  have gHu : mg "_law_hues" = some (.ref (He.ga K "_law_hues")) := He.glo_ok X G (cd.fact 14 (f := .glo "_law_hues") rfl)
  have bHu := FHu.binds (ps := ["_law_bag_here", "_law_most"]) fun _ _ _ _ _ _ us hl => match us, hl with | [_, _], _ => rfl
  obtain ⟨fdSp, FSp0⟩ := cd.def_ 15 (d := dOf ("_law_shape", none) "_law_shape" "_law_shape" sShape [] []) rfl
  have FSp : Fun K "_law_shape" "_law_shape" sShape (He.ga K "_law_shape") fdSp := funOf FSp0
  have gSp : mg "_law_shape" = some (.ref (He.ga K "_law_shape")) := He.glo_ok X G (cd.fact 15 (f := .glo "_law_shape") rfl)
  have bSp := FSp.binds (ps := ["_law_bag_here", "_law_colours"]) fun _ _ _ _ _ _ us hl => match us, hl with | [_, _], _ => rfl
  obtain ⟨fdBa, FBa0⟩ := cd.def_ 16 (d := dOf ("_law_bars", none) "_law_bars" "_law_bars" sBars [] []) rfl
  have FBa : Fun K "_law_bars" "_law_bars" sBars (He.ga K "_law_bars") fdBa := funOf FBa0
  have gBa : mg "_law_bars" = some (.ref (He.ga K "_law_bars")) := He.glo_ok X G (cd.fact 16 (f := .glo "_law_bars") rfl)
  have bBa := FBa.binds (ps := ["_law_one", "_law_other"]) fun _ _ _ _ _ _ us hl => match us, hl with | [_, _], _ => rfl
  obtain ⟨fdSs, FSs0⟩ := cd.def_ 17 (d := dOf ("_law_shapes", none) "_law_shapes" "_law_shapes" sShapes [] []) rfl
  have FSs : Fun K "_law_shapes" "_law_shapes" sShapes (He.ga K "_law_shapes") fdSs := funOf FSs0
  have gSs : mg "_law_shapes" = some (.ref (He.ga K "_law_shapes")) := He.glo_ok X G (cd.fact 17 (f := .glo "_law_shapes") rfl)
  have bSs := FSs.binds (ps := ["_law_bag_here", "_law_colours", "_law_most"]) fun _ _ _ _ _ _ us hl => match us, hl with | [_, _, _], _ => rfl
  obtain ⟨fdK, FK0⟩ := cd.def_ 18 (d := dOf ("_law_like", none) "_law_like" "_law_like" sLike [] []) rfl
  have FK : Fun K "_law_like" "_law_like" sLike (He.ga K "_law_like") fdK := funOf FK0
  have gK : mg "_law_like" = some (.ref (He.ga K "_law_like")) := He.glo_ok X G (cd.fact 18 (f := .glo "_law_like") rfl)
  have bK := FK.binds (ps := ["_law_one", "_law_due"]) fun _ _ _ _ _ _ us hl => match us, hl with | [_, _], _ => rfl
  obtain ⟨fdPd, FPd0⟩ := cd.def_ 19 (d := dOf ("_law_pads", none) "_law_pads" "_law_pads" sLPads [] []) rfl
  have FPd : Fun K "_law_pads" "_law_pads" sLPads (He.ga K "_law_pads") fdPd := funOf FPd0
  have gPd : mg "_law_pads" = some (.ref (He.ga K "_law_pads")) := He.glo_ok X G (cd.fact 19 (f := .glo "_law_pads") rfl)
  have bPd := FPd.binds (ps := ["_law_shape_here"]) fun _ _ _ _ _ _ us hl => match us, hl with | [_], _ => rfl
  obtain ⟨fdPt, FPt0⟩ := cd.def_ 20 (d := dOf ("_law_part", none) "_law_part" "_law_part" sLPt [] []) rfl
  have FPt : Fun K "_law_part" "_law_part" sLPt (He.ga K "_law_part") fdPt := funOf FPt0
  have gPt : mg "_law_part" = some (.ref (He.ga K "_law_part")) := He.glo_ok X G (cd.fact 20 (f := .glo "_law_part") rfl)
  have bPt := FPt.binds (ps := ["_law_shapes_here", "_law_pad"]) fun _ _ _ _ _ _ us hl => match us, hl with | [_, _], _ => rfl
  obtain ⟨fdPs, FPs0⟩ := cd.def_ 21 (d := dOf ("_law_parts", none) "_law_parts" "_law_parts" sLPs [] []) rfl
  have FPs : Fun K "_law_parts" "_law_parts" sLPs (He.ga K "_law_parts") fdPs := funOf FPs0
  have gPs : mg "_law_parts" = some (.ref (He.ga K "_law_parts")) := He.glo_ok X G (cd.fact 21 (f := .glo "_law_parts") rfl)
  have bPs := FPs.binds (ps := ["_law_colours", "_law_shapes_here"]) fun _ _ _ _ _ _ us hl => match us, hl with | [_, _], _ => rfl
  obtain ⟨fdW, FW0⟩ := cd.def_ 22 (d := dOf ("law", none) "law" "law" sLaw [] []) rfl
  have FW : Fun K "law" "law" sLaw (He.ga K "law") fdW := funOf FW0
  have gW : mg "law" = some (.ref (He.ga K "law")) := He.glo_ok X G (cd.fact 22 (f := .glo "law") rfl)
  have g_Bk : mg "Book" = some (.ref (He.ga K "Book")) := He.glo_ok X G (cd.fact 23 (f := .glo "Book") rfl)
  have cl_Bk : Cls K (He.ga K "Book") := He.cls_ok (cd.fact 24 (f := .cls "Book") rfl)
  have nBk_palette : NoAttr K (He.ga K "Book") "palette" := He.noat_ok (cd.fact 25 (f := .noat "Book" "palette") rfl)
  have nBk_shapes : NoAttr K (He.ga K "Book") "shapes" := He.noat_ok (cd.fact 26 (f := .noat "Book" "shapes") rfl)
  have mk_Bk : Mk K (He.ga K "Book") (He.ma K (He.ga K "Book") "__init__") := He.mkr_ok (cd.fact 27 (f := .mkr "Book") rfl)
  obtain ⟨fdIn, FIn0⟩ := cd.def_ 23 (d := dOf ("Book", some "__init__") "__init__" "Book.__init__" sInit [] [("figures", .adr emptyT)]) rfl
  have mIn : Meth K (He.ga K "Book") "__init__" (He.ma K (He.ga K "Book") "__init__") := He.meth_ok (cd.fact 28 (f := .meth "Book" "__init__") rfl)
  obtain ⟨fdmA, FmA0⟩ := cd.def_ 24 (d := dOf ("Book", some "parts") "parts" "Book.parts" sPts [] []) rfl
  have FmA : Fun K "parts" "Book.parts" sPts (He.ma K (He.ga K "Book") "parts") fdmA := funOf FmA0
  have bmA := FmA.binds (ps := ["self"]) fun _ _ _ _ _ _ us hl => match us, hl with | [_], _ => rfl
  have mmA : Meth K (He.ga K "Book") "parts" (He.ma K (He.ga K "Book") "parts") := He.meth_ok (cd.fact 29 (f := .meth "Book" "parts") rfl)
  have m_len : mg "len" = none := He.free_ok X G (cd.fact 30 (f := .free "len") rfl)
  have m_list : mg "list" = none := He.free_ok X G (cd.fact 31 (f := .free "list") rfl)
  have m_tuple : mg "tuple" = none := He.free_ok X G (cd.fact 32 (f := .free "tuple") rfl)
  have m_range : mg "range" = none := He.free_ok X G (cd.fact 33 (f := .free "range") rfl)
  have m_isinstance : mg "isinstance" = none := He.free_ok X G (cd.fact 34 (f := .free "isinstance") rfl)
  have m_all : mg "all" = none := He.free_ok X G (cd.fact 35 (f := .free "all") rfl)
  have m_any : mg "any" = none := He.free_ok X G (cd.fact 36 (f := .free "any") rfl)
  have m_bool : mg "bool" = none := He.free_ok X G (cd.fact 37 (f := .free "bool") rfl)
  have m_int : mg "int" = none := He.free_ok X G (cd.fact 38 (f := .free "int") rfl)
  have m_str : mg "str" = none := He.free_ok X G (cd.fact 39 (f := .free "str") rfl)
  have m_dict : mg "dict" = none := He.free_ok X G (cd.fact 40 (f := .free "dict") rfl)
  have m_enumerate : mg "enumerate" = none := He.free_ok X G (cd.fact 41 (f := .free "enumerate") rfl)
  have m_zip : mg "zip" = none := He.free_ok X G (cd.fact 42 (f := .free "zip") rfl)
  have m_sorted : mg "sorted" = none := He.free_ok X G (cd.fact 43 (f := .free "sorted") rfl)
  have m_sum : mg "sum" = none := He.free_ok X G (cd.fact 44 (f := .free "sum") rfl)
  have m_set : mg "set" = none := He.free_ok X G (cd.fact 45 (f := .free "set") rfl)
  obtain ⟨tk1, w_1⟩ := He.int_ok X G (cd.fact 46 (f := .int "MOST_PADS" 6) rfl)
  obtain ⟨tk2, w_2⟩ := He.int_ok X G (cd.fact 47 (f := .int "MOST_COLOURS" 4) rfl)
  obtain ⟨tk3, w_3⟩ := He.int_ok X G (cd.fact 48 (f := .int "MOST_FIGURES" 12) rfl)
  obtain ⟨tk4, w_4⟩ := He.int_ok X G (cd.fact 49 (f := .int "MOST_DEPTH" 3) rfl)
  have e := hfa.symm.trans gW
  cases e
  obtain ⟨ocW, odW, kVW, dcW, pmW, anW, cdW, ctW, slW, eW, lW, cW⟩ := FW.ex
  subst eW
  obtain ⟨cLw, rfl⟩ := He.codeIn_ref cW
  refine ⟨PySem.W.fnOf "law" "law" (defArgs sLaw) (defBody sLaw) (defScope sLaw) .none kVW dcW pmW anW (.ref cLw) ctW, [], spLaw K, fun p hp => (nomatch hp), fun p hp => (nomatch hp), fun p hp => (nomatch hp), fun s u => .of_eq rfl, fun H a ns h1 h2 h3 h4 => ⟨a, ns, rfl, h4, h1, fun _ => rfl⟩, fun base hK hN hTB => ?_⟩
  have FW : Fun K "law" "law" sLaw (He.ga K "law") _ := fun_mk lW cW FW.kp
  have T : BkTxt K mg (He.ga K "Book") := ⟨cl_Bk, nBk_palette, nBk_shapes, g_Bk⟩
  have M : LkG mg := ⟨m_isinstance, m_tuple, m_list, m_len, m_all, m_range, m_bool, m_int, m_str⟩
  obtain ⟨mvI, kbI⟩ := FIn0.kbinds0 (ps := ["self", "colours", "figures"]) 2 ["figures"] [] (fun us mv ws => us ++ ws) (List.cons_ne_nil _ _) (fun q hq => by cases hq) (fun r1 r2 r3 => r1.append r3) (fun D doc pm an cdv ct us mv ws l1 l2 l3 => match us, mv, ws, l1, l2, l3 with | [_, _], [], [_], _, _, _ => rfl)
  have GP : FnOk l.prog w K mg base CX0 2 _ _ ["_law_bag_here", "_law_size"] spPull := ok_pull FP m_len
  have GO : FnOk l.prog w K mg base CX0 2 _ _ ["_law_bag_here", "_law_things"] spOf := ok_of (k := 0) FO m_len FP bP gP
  have GSp : FnOk l.prog w K mg base CX0 3 _ _ ["_law_bag_here", "_law_colours"] (spShape K) := ok_shape FSp m_range m_len m_tuple FP bP gP GP FO bO gO GO
  have GBa : FnOk l.prog w K mg base CX0 3 _ _ ["_law_one", "_law_other"] (spBars K) := ok_bars FBa m_dict m_any
  have Gms (k : Nat) : FnOk l.prog w K mg base CX0 (k + 1) _ _ ["figure"] (spMask K) := ok_mask (k := k) Fms m_sum
  have Gba : FnOk l.prog w K mg base CX0 2 _ _ ["one", "other"] (spBar K) := ok_bar (k := 1) Fba m_any
  have Gfi : FnOk l.prog w K mg base CX0 2 _ _ ["colours", "figure"] (spIsFig K) := ok_isfig (k := 0) Ffi m_len m_all m_zip w_4 Fti bti gti Fpo_ bpo_ gpo_
  have Gcc : FnOk l.prog w K mg base CX0 3 _ _ ["colours"] (spCCol K) := ok_ccol Fcc m_len m_enumerate w_1 w_2
  have Gcy : FnOk l.prog w K mg base CX0 3 _ _ ["figure"] (spCopyF K) := ok_copyf Fcy m_tuple
  have GIn : FnOk l.prog w K mg base CX0 4 _ _ ["self", "colours", "figures"] (spInit K (He.ga K "Book")) := ok_init FIn0 T m_len m_tuple w_3 Fcc bcc gcc Gcc Fcf bcf gcf (ok_cfig Fcf m_enumerate Ffi bfi gfi Gfi) Fcm bcm gcm (ok_cmeet Fcm m_enumerate m_range m_len Fms bms gms (Gms 1) Fba bba gba Gba) Fcy bcy gcy Gcy
  have GA : FnOk l.prog w K mg base CX0 5 _ _ ["self"] (spParts K (He.ga K "Book")) := ok_parts (k := 4) FmA T m_len m_range m_sorted Fms bms gms (Gms 3) Fui bui gui (ok_uni (k := 3) Fui m_sum) Fpn bpn gpn (ok_pin (k := 3) Fpn m_range w_1)
  have GPt : FnOk l.prog w K mg base CX0 4 _ _ ["_law_shapes_here", "_law_pad"] (spLPt K) := ok_lpt (k := 3) FPt m_range m_any m_sorted m_set FPd bPd gPd (ok_lpads (k := 2) FPd)
  have GPs : FnOk l.prog w K mg base CX0 5 _ _ ["_law_colours", "_law_shapes_here"] (spLPs K) := ok_lps (k := 4) FPs m_range m_len FPt bPt gPt GPt
  exact ok_law FW T mk_Bk FB bB gB (ok_bag FB m_len m_list) FHu bHu gHu (FnOk.mono (ok_hues FHu m_range FP bP gP GP FO bO gO GO) (by decide)) FP bP gP (FnOk.mono GP (by decide)) FSs bSs gSs (FnOk.mono (ok_shapes FSs m_range m_all FSp bSp gSp GSp FBa bBa gBa GBa) (by decide)) kbI GIn bmA mmA GA FPs bPs gPs GPs FK bK gK (ok_like FK bK gK M 5) m_range
theorem hRunA (w : World) (os : OsState) : (HandSHeadRun.endF (HandSHeadRun.stepQ (HandSHeadRun.denQ HandSHeadRun.tabQ) hR.prog w) 20000 hR.prog w os).map (fun s => HandSHeadRun.looksF hR.prog (PySem.W.boot_heap w.params) s.abs) = some true := by
  kernel_rfl
theorem hRunB (w : World) (os : OsState) : (HandSHeadRun.endF (HandSHeadRun.stepQ (HandSHeadRun.denQ HandSHeadRun.tabQ) hR.prog w) 20000 hR.prog w os).map (fun s => HandSHeadRun.seenQ (PySem.W.view hR.prog [41]) hNames (importedModules hR.prog.main.body) (fun s => PySem.W.xlAt (PySem.W.view hR.prog [41]) [] s && PySem.W.recOk hR.toRowW.records s) s.abs) = some (PySem.W.openGood (PySem.W.view hR.prog [41]) hNames) := by
  kernel_rfl
theorem hRunC (w : World) (os : OsState) : (HandSHeadRun.endF (HandSHeadRun.stepQ (HandSHeadRun.denQ HandSHeadRun.tabQ) hR.prog w) 20000 hR.prog w os).map (fun s => (hOb s).1) = some (He.valX hFn [] w).1 := by
  kernel_rfl
theorem hRunD (w : World) (os : OsState) : (HandSHeadRun.endF (HandSHeadRun.stepQ (HandSHeadRun.denQ HandSHeadRun.tabQ) hR.prog w) 20000 hR.prog w os).map (fun s => (hOb s).2) = some true := by
  kernel_rfl
theorem map_four {α β γ δ ε : Type} {o : Option α} {f : α → β} {g : α → γ} {h : α → δ × ε} {x : β} {y : γ} {z : δ} {u : ε} (a : o.map f = some x) (b : o.map g = some y) (c : o.map (fun s => (h s).1) = some z) (d : o.map (fun s => (h s).2) = some u) : o.map (fun s => (f s, g s, h s)) = some (x, y, z, u) := by
  cases o with
  | none => cases a
  | some s =>
    have a := Option.some.inj a
    have b := Option.some.inj b
    have c := Option.some.inj c
    have d := Option.some.inj d
    dsimp only at a b c d
    show some (f s, g s, h s) = _
    rw [a, b, show h s = (z, u) from Prod.ext c d]
theorem hRun (w : World) : HandSHeadRun.RunEq hR (PySem.W.view hR.prog [41]) hK hOb 20000 hNames w := fun os => map_four (hRunA w os) (hRunB w os) (hRunC w os) (hRunD w os)
end TB
open PySem PySem.W PySem.Calls PyProof.Rows
set_option maxHeartbeats 0 in
theorem PySem.Challenge.cw_tearboard_k05_parts_holds : PySem.Challenge.rw_tearboard_k05_parts.Holds := by
  w_on; o_law
  refine HandSHeadRun.head_any (r := OpenLaw.row PySem.Challenge.rw_tearboard_k05_parts) (q := view (OpenLaw.row PySem.Challenge.rw_tearboard_k05_parts).prog [41]) (H := TB.hK) (ob := TB.hOb) (M := 20000) (loose := TB.hNames) (d := HandSHeadRun.topDef (OpenLaw.row PySem.Challenge.rw_tearboard_k05_parts).prog 41) (kwd := []) TB.hOb_eq
    (by kernel_rfl) (fun s => by kernel_rfl) TB.hRun (by kernel_rfl) (by kernel_rfl) (by kernel_rfl) (by rfl) (by first | assumption | decide +kernel) (by decide +kernel) ⟨rfl, rfl, rfl, rfl, rfl, by decide +kernel⟩ ?hw ?hc
  case hw => w_witness2
  case hc =>
    refine LamX.walk_ofTsE (l := PySem.Challenge.rw_tearboard_k05_parts) (n := 63) (k := 6) (x := "_law_script") (CX := fun _ => L2.CX0) rfl (by decide) (by kernel_rfl) ⟨rfl, by decide, by decide⟩ ?F (fun _ _ _ _ _ z => z)
    intro w mg fa h Y G hmg0
    obtain ⟨K, KX, c⟩ := Y
    have hmg : mg ("law" : PySem.Str) = some (.ref fa) := by
      have e : (HandSHeadRun.topDef (OpenLaw.row PySem.Challenge.rw_tearboard_k05_parts).prog 41).name = ("law" : PySem.Str) := by kernel_rfl
      rw [← e]
      exact hmg0
    exact ⟨K, KX, TB.hFacts KX G hmg c⟩
