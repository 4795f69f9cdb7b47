import PyProof.Rows.All
import Wide.All
import OpenK.AllK
import Wide.FinOn
import HandS.ForMost
import HandS.IsInst
import HandS.TupAny
import HandS.TupMul
import HandS.Wide
import HandS.Codes
import HandS.DictComp
import HandS.Walk
import HandS.Zip
import HandS.Deep
import HandS.MakeKwOnly
import HandS.SortRule
import HandS.SortInts
import HandS.TupSets
import HandS.CallRecv
import HandS.ExcInit
import HandS.ClsMeth
import HandS.ExcField
import HandS.TryMany
import HandS.Lambda
import HandS.ExcIs
import HandS.WordsExc
import HandS.Style
import HandS.Strs
import HandS.EndOwn
import KE.KStateDown
import KE.KNest
import KE.KNestM
import HandS.Defaults
import HandS.Head0
import HandS.Head1
import HandS.Head2
import HandS.HeadHook1
import HandS.HeadHook2
import HandS.HeadHook3
import HandS.HeadHook4
import HandS.HeadWalk
import KE.GoesMore
import KE.KExcInit
import KE.KExcIs
import HandS.Text
import HandS.StrMore
import HandS.FStr
import HandS.Star
import HandS.Replace
import KE.KxIndex
import PySem.Challenge.RW_tearboard_k62_rows_as_texts
set_option Elab.async false
set_option linter.all false
set_option maxRecDepth 100000
set_option maxHeartbeats 4000000
namespace TB
open PySem PySem.Spec PyProof.Rows L2
def topS (i : Nat) : Stmt := PySem.Challenge.pw_tearboard_k62_rows_as_texts.main.body.getD i (.Pass ⟨0, 0, 0, 0⟩)
/-! heaps -/
theorem same_upd {H : Hp} {p : Addr} {o : HO} (h : H p = none) : Same H (upd H p o) := fun b x e => by
  rw [upd_ne (ne_of_none e h)]
  exact e
/-- all that was tracked is as it was, but at b -/
def Off (b : Addr) (H H' : Hp) : Prop := ∀ a o, a ≠ b → H a = some o → H' a = some o
theorem Off.refl {b : Addr} {H : Hp} : Off b H H := fun _ _ _ h => h
theorem Off.trans {b : Addr} {H H1 H2 : Hp} (x : Off b H H1) (y : Off b H1 H2) : Off b H H2 := fun a o n h => y a o n (x a o n h)
theorem Off.same {b : Addr} {H H' : Hp} (x : Same H H') : Off b H H' := fun a o _ h => x a o h
theorem Off.upd {b : Addr} {H : Hp} {o : HO} : Off b H (upd H b o) := fun a x n h => by
  rw [upd_ne n]
  exact h
theorem Off.seqL {K : PySem.W.Frag} {b : Addr} {H H' : Hp} {a : Addr} {xs : List V} (x : Off b H H') (n : a ≠ b) (h : H a = some (.lst xs)) : H' a = some (.lst xs) := x a _ n h
/-- the bag of drawn numbers -/
structure Bag (H : Hp) (b c : Addr) : Prop where
  ex : ∃ (cells : List Int) (at' rest seed : Int), H b = some (.lst [.ref c, .int at', .int rest, .int seed]) ∧ H c = some (.lst (cells.map V.int)) ∧ 0 ≤ at' ∧ 0 ≤ rest ∧ 0 ≤ seed ∧ seed < 1000000000000 ∧ c ≠ b
theorem Bag.same {H H' : Hp} {b c : Addr} (h : Bag H b c) (x : Same H H') : Bag H' b c := by
  obtain ⟨cells, a, r, s, h1, h2, h3⟩ := h.ex
  exact ⟨cells, a, r, s, x _ _ h1, x _ _ h2, h3⟩
theorem Bag.ne {H : Hp} {b c p : Addr} (h : Bag H b c) (n : H p = none) : p ≠ b ∧ p ≠ c := by
  obtain ⟨cells, a, r, s, h1, h2, h3⟩ := h.ex
  exact ⟨(ne_of_none h1 n).symm, (ne_of_none h2 n).symm⟩
theorem Bag.upd {H : Hp} {b c p : Addr} {o : HO} (h : Bag H b c) (n : p ≠ b ∧ p ≠ c) : Bag (upd H p o) b c := by
  obtain ⟨cells, a, r, s, h1, h2, h3⟩ := h.ex
  refine ⟨cells, a, r, s, ?_, ?_, h3⟩
  · rw [upd_ne n.1.symm]
    exact h1
  · rw [upd_ne n.2.symm]
    exact h2
/-! ### exceptions of own classes over any of the plain built-in bases -/
/-- what the written part tells of the class at C; D is its mro behind C, B the built-in base -/
structure OexG (K : PySem.W.Frag) (C : Addr) : Prop where
  cls : ∃ (nm q : Str) (N : Addr) (bs bm : List Value) (sn : List Str) (sub : List Value) (ab : Bool) (col : Option Bool) (dd : Option Addr) (k0 k1 k2 k3 k5 : Option Value) (B nw it : String) (bmB : List Value),
    ExcBaseFacts B nw it bmB ∧ K.lookup C = some (excClassObj nm q C N bs bm true sn sub ab col dd k0 k1 k2 k3 k5 nw) ∧ (∀ Y : String, bm.contains (.type Y) = bmB.contains (.type Y)) ∧
      bmB.contains (.type "object") = true ∧ ∀ self : Value, refuseLoop self "__setattr__" (.ref C :: bm) = pure ()
  sa : PySem.W.findIn K (.ref C) "__setattr__" = some (some (.builtin "object.__setattr__"))
  exC : PySem.W.subIn K (.ref C) (.type "BaseException") = some true
  tyC : PySem.W.typeIn K (.ref C) = some (.type "type")
  kC : PySem.W.keepIn K (.ref C) = true
section
open Builtin Builtin.ObjectAttr PySem.W PySem.HandSPX
variable {prog : Program} {w : World} {A : Around} {R : Result → Shared → Prop} {hp : Heap} {g : Array GenState} {d : Drawn} {t : Nat} {os : OsState} {K : Frag} {name : Str} {tk : Tok} {v : Value} {x C : Addr} {fv : Array Value} {cd : ClassData}
/-- object.__setattr__ up to the own dict, whatever dict there is -/
theorem gosa {ox : Obj} {od : Option Obj} (hT : K.In hp) (I : InstAt hp x ox C od) (hcd : clsIn K C = some cd) (hne : cd.mro.isEmpty = false) (hob : cd.mro.contains (.type "object") = true) (hps : ∀ self : Value, refuseLoop self "__setattr__" cd.mro = pure ())
    (hno : findIn K (.ref C) name = some none)
    (hq : wpAny (model prog w) A.in1 (storeInOwnDict (.ref x) (.ref C) (.str name tk) name v false) (fun fin s' => match fin with | .done (.ret u) => R (.ok (.ret u)) s' | _ => False) (fun _ _ => False) ⟨hp, g, d, t, os⟩) :
    codeAny (model prog w) A (.call (.builtin "object.__setattr__") ⟨[.ref x, .str name tk, v], []⟩) R ⟨hp, g, d, t, os⟩ := by
  have so := PySem.F.store_object
  have isO : Looks (model prog w) hp (isInstance (.ref x) (.type "object")) true := I.type.andThen (looks_mroIn hT (by unfold mroIn; rw [hcd, Option.bind_some, if_neg (by rw [hne]; decide), hob]))
  refine codeAny_call_builtin so.slot.plain so.entry (@check_slot (model prog w) _ _ ⟨hp, g, d, t, os⟩ "object.__setattr__" "object" "__setattr__" (.ref x) [.str name tk, v] [] _ so.kind so.split isO (so.args (.ref x) (.str name tk) v) ?_)
  have lm : Looks (model prog w) hp (mroOf (.ref C)) cd.mro := (looks_clsIn hT hcd).andThen .now
  have ln : Looks (model prog w) hp (storeTaker? none) none := .now
  rw [osa_eq, refuse_eq]
  refine wpAny_bind (wpAny_bind (I.type.at (wpAny_bind (lm.at ?_))))
  rw [hps]
  refine wpAny_pure (wpAny_bind (I.type.at (wpAny_bind ((looks_findIn hT hno).at (wpAny_bind (ln.at ?_))))))
  refine wpAny_mono hq (fun fin s' z => ?_) fun _ _ z => z.elim
  rcases fin with (_ | _ | _ | _) | c <;> first | exact z | exact z.elim
/-- the first field: the dict is new -/
theorem gosa_new (hT : K.In hp) (hx : hp.get? x = some { cls := .ref C, data := .fields fv }) (hcd : clsIn K C = some cd) (hne : cd.mro.isEmpty = false) (hob : cd.mro.contains (.type "object") = true) (hps : ∀ self : Value, refuseLoop self "__setattr__" cd.mro = pure ())
    (hh : cd.hasDict = true) (hno : findIn K (.ref C) name = some none)
    (hq : ∀ h' tk' dx, (∀ b o, b ≠ x → hp.get? b = some o → h'.get? b = some o) → hp.objs.size ≤ dx → dx ≠ x → h'.get? x = some { cls := .ref C, dict := some dx, data := .fields fv } →
      h'.Ns1 dx (fun y => if y = name then some v else none) → R (.ok (.ret .none)) ⟨h', g, d, tk', os⟩) :
    codeAny (model prog w) A (.call (.builtin "object.__setattr__") ⟨[.ref x, .str name tk, v], []⟩) R ⟨hp, g, d, t, os⟩ := by
  refine gosa hT (⟨hx, rfl, rfl, trivial⟩ : InstAt hp x { cls := .ref C, data := .fields fv } C none) hcd hne hob hps hno ?_
  have lc : Looks (model prog w) hp (classData C) cd := looks_clsIn hT hcd
  have far : x ≠ hp.objs.size := Nat.ne_of_lt (Heap.lt_size hx)
  cases cd
  dsimp only at hh
  subst hh
  unfold storeInOwnDict ownDictForStores
  repeat (first | with_reducible refine store_in_new ?_ ?_ | with_reducible refine wpAny_loadPart_at hx ?_ | with_reducible refine lc.at ?_ | wp_step)
  · exact ⟨_, #[], _, (Heap.get?_update_ne _ _ _ _ far.symm).trans (Heap.get?_push_at rfl rfl), rfl, fun e he => absurd he (by simp), fun _ => rfl⟩
  · intro h' tk' hn' hs
    refine hq h' tk' hp.objs.size (fun b o hb ho => ?_) (Nat.le_refl _) far.symm ?_ hn'
    · exact (hs.2 b (Nat.ne_of_lt (Heap.lt_size ho))).trans ((Heap.get?_update_ne _ _ _ _ hb).trans (Heap.get?_push_of_some _ ho))
    · exact (hs.2 x far).trans (Heap.get?_update_self _ (Heap.get?_push_of_some _ hx) rfl)
/-- a later field: the dict is there -/
theorem gosa_old {dx : Addr} {m0 : Str → Option Value} {nl : List Str} (hT : K.In hp) (hx : hp.get? x = some { cls := .ref C, dict := some dx, data := .fields fv }) (hns : hp.Ns1 dx m0) (hw : Within m0 nl) (hz : nl.length ≤ 1000)
    (hcd : clsIn K C = some cd) (hne : cd.mro.isEmpty = false) (hob : cd.mro.contains (.type "object") = true) (hps : ∀ self : Value, refuseLoop self "__setattr__" cd.mro = pure ()) (hh : cd.hasDict = true) (hno : findIn K (.ref C) name = some none)
    (hq : ∀ h' tk', (∀ b o, b ≠ dx → hp.get? b = some o → h'.get? b = some o) → h'.Ns1 dx (fun y => if y = name then some v else m0 y) → R (.ok (.ret .none)) ⟨h', g, d, tk', os⟩) :
    codeAny (model prog w) A (.call (.builtin "object.__setattr__") ⟨[.ref x, .str name tk, v], []⟩) R ⟨hp, g, d, t, os⟩ := by
  obtain ⟨oD, _, _, hoD, _, _⟩ := hns.count hw
  refine gosa hT (⟨hx, rfl, rfl, hoD⟩ : InstAt hp x { cls := .ref C, dict := some dx, data := .fields fv } C (some oD)) hcd hne hob hps hno ?_
  have lc : Looks (model prog w) hp (classData C) cd := looks_clsIn hT hcd
  cases cd
  dsimp only at hh
  subst hh
  unfold storeInOwnDict ownDictForStores
  repeat (first | with_reducible refine PySem.OEX.store_in_old hns hw hz ?_ | with_reducible refine wpAny_loadPart_at hx ?_ | with_reducible refine lc.at ?_ | wp_step)
  intro h' tk' hn' hs
  exact hq h' tk' (fun b o hb ho => (hs.2 b hb).trans ho) hn'
end
section
variable {X : Cx} {pins : List (Addr × Obj)} {σ : L2.St} {H : Hp} {s : Shared} {a C dx : Addr} {f : Str} {y : V} {u : Value} {fs : List (Str × V)} {Q : Unit → Shared → Prop} {E : Value → Shared → Prop} {A : Around}
theorem OexG.clsD {K : PySem.W.Frag} {C : Addr} (T : OexG K C) : ∃ cd, PySem.W.clsIn K C = some cd ∧ cd.mro.isEmpty = false ∧ cd.mro.contains (.type "object") = true ∧ (∀ self : Value, refuseLoop self "__setattr__" cd.mro = pure ()) ∧ cd.hasDict = true := by
  obtain ⟨nm, q, N, bs, bm, sn, sub, ab, col, dd, k0, k1, k2, k3, k5, B, nw, it, bmB, F, hC, hc, ho, hp⟩ := T.cls
  refine ⟨{ name := nm, bases := bs, mro := .ref C :: bm, ns := N, qualname := q, hasDict := true, slotNames := sn, subclasses := sub, abstract := ab, collection := col, hasDel := false }, by unfold PySem.W.clsIn; rw [hC] <;> rfl, rfl, ?_, hp, rfl⟩
  show (Value.ref C :: bm).contains (.type "object") = true
  rw [List.contains_cons, hc, ho, Bool.or_true]
/-- self.f = y, the first field -/
theorem gost_new (T : OexG X.K C) (I : Inv X pins σ H s) (e : H a = some (exo a C none)) (hno : PySem.W.findIn X.K (.ref C) f = some none) (ry : RelV y u)
    (h : ∀ dx s', H dx = none → dx ≠ a → Inv X pins σ (upd (upd H dx (exd dx [(f, y)])) a (exo a C (some dx))) s' → Q () s') : wpAny (model X.prog X.w) A (setAttr (.ref a) f u) Q E s := by
  obtain ⟨cd, hcd, c1, c2, c3, c4⟩ := T.clsD
  obtain ⟨t1, ho⟩ := exo_at I.hok e
  obtain ⟨hp, g, dr, tk, os⟩ := s
  refine PySem.W.set_plain I.kIn (ox := { cls := .ref C, dict := none, data := .fields #[.ref t1, .none, .none, .none, .bool false, .none] }) (od := none) ⟨ho, rfl, rfl, trivial⟩ T.sa ?_
  refine gosa_new I.kIn ho hcd c1 c2 c3 c4 hno fun h' tk' dx kp big ndx hx hn => ?_
  have n0 : H dx = none := I.hok.fresh big
  have nd : ∀ {b : Addr} {o : Obj}, hp.get? b = some o → b ≠ dx := fun {b o} z => Nat.ne_of_lt (Nat.lt_of_lt_of_le (Heap.lt_size z) big)
  have na : ∀ {b : Addr}, H b = none → b ≠ a := fun {b} z1 z2 => by
    rw [z2, e] at z1
    cases z1
  have U : Un X.fs [] H (upd (upd H dx (exd dx [(f, y)])) a (exo a C (some dx))) hp h' :=
    ⟨fun b o z n _ _ => kp b o (na n) z, fun b o z n _ _ => ⟨o.slots, kp b o (na n) z⟩, fun b o z n _ => by rw [upd_ne (na n), upd_ne (nd z)]; exact n, fun b o z _ => by
      by_cases hb : b = a
      · exact ⟨_, by rw [hb]; exact hx⟩
      · exact ⟨o, kp b o hb z⟩,
     fun b xs z => by rw [upd_ne (at_ne e z exo_tup), upd_ne (ne_of_none z n0)]; exact z, fun b o w z => by rw [upd_ne (at_ne e z exo_frz), upd_ne (ne_of_none z n0)]; exact z,
     fun b ps z => ⟨#[], by rw [upd_ne (at_ne e z exo_tbl), upd_ne (ne_of_none z n0), z]; simp⟩⟩
  refine h dx _ n0 ndx (I.un (t' := tk') U fun b o z => ?_)
  by_cases hb : b = a
  · rw [hb, upd_same] at z
    cases z
    rw [hb]
    exact exo_ok hx
  rw [upd_ne hb] at z
  by_cases hd : b = dx
  · rw [hd, upd_same] at z
    cases z
    rw [hd]
    exact exd_ok hn (relO_put (fs := []) ry fun _ => True.intro)
  rw [upd_ne hd] at z
  refine (I.hok b o z).stay (fun c w hc z' => kp c w ?_ z') (fun c hc => ?_) fun c xs hc => ?_
  · rcases hc with hc | hc
    · rw [hc]
      exact hb
    · exact at_ne e hc exo_own
  · rw [upd_ne (at_ne e hc exo_own), upd_ne (ne_of_none hc n0)]
    exact hc
  · rw [upd_ne (at_ne e hc exo_tup), upd_ne (ne_of_none hc n0)]
    exact hc
/-- self.f = y, a later field -/
theorem gost_old (T : OexG X.K C) (I : Inv X pins σ H s) (e : H a = some (exo a C (some dx))) (ed : H dx = some (exd dx fs)) (hl : fs.length ≤ 900) (hno : PySem.W.findIn X.K (.ref C) f = some none) (ry : RelV y u)
    (h : ∀ s', Inv X pins σ (upd H dx (exd dx ((f, y) :: fs))) s' → Q () s') : wpAny (model X.prog X.w) A (setAttr (.ref a) f u) Q E s := by
  obtain ⟨cd, hcd, c1, c2, c3, c4⟩ := T.clsD
  obtain ⟨t1, ho⟩ := exo_at I.hok e
  obtain ⟨mA, hns, rel⟩ := exd_at I.hok ed
  have hw := within_of rel
  obtain ⟨hp, g, dr, tk, os⟩ := s
  obtain ⟨oD, _, _, hoD, _, _⟩ := hns.count hw
  refine PySem.W.set_plain I.kIn (ox := { cls := .ref C, dict := some dx, data := .fields #[.ref t1, .none, .none, .none, .bool false, .none] }) (od := some oD) ⟨ho, rfl, rfl, hoD⟩ T.sa ?_
  refine gosa_old I.kIn ho hns hw (by rw [List.length_map]; omega) hcd c1 c2 c3 c4 hno fun h' tk' kp hn => ?_
  have st : ∃ o, h'.get? dx = some o := by
    obtain ⟨o, _, _, z, _⟩ := hn
    exact ⟨o, z⟩
  exact h _ (I.write (t' := tk') (x := dx) (e := dx) (o := exd dx ((f, y) :: fs)) (by rw [ed]; exact True.intro) (.inl rfl) kp st (exd_ok hn (relO_put ry rel)))
end
/-- self.f = e, self an exception that is being made -/
def tGst (K : PySem.W.Frag) (f : Str) (to te : TE) : TS := fun D σ H => te σ H fun y H1 => to σ H1 fun x H2 => ∃ a C : Addr, x = .ref a ∧ OexG K C ∧ PySem.W.findIn K (.ref C) f = some none ∧
  ((H2 a = some (exo a C none) ∧ ∀ dx, H2 dx = none → dx ≠ a → D.nx σ (upd (upd H2 dx (exd dx [(f, y)])) a (exo a C (some dx)))) ∨
    ∃ (dx : Addr) (fs : List (Str × V)), H2 a = some (exo a C (some dx)) ∧ H2 dx = some (exd dx fs) ∧ fs.length ≤ 900 ∧ D.nx σ (upd H2 dx (exd dx ((f, y) :: fs))))
section
variable {X : Cx} {o e : Expr} {es : List Expr} {to te : TE} {ta : TA} {f : Str} {p p' p1 p2 pos : Pos}
theorem ps_gst (ho : PE X o to) (he : PE X e te) (hs : swapsWith e (some (.Attribute o f p')) pos.line X.env = pure false := by rfl) : PS X (.Assign [.Attribute o f p'] e pos) (tGst X.K f to te) := by
  refine ⟨fun pins s σ H D I h => ?_⟩
  refine plainObj_wpAny_Assign_Attribute (thn (he.run pins s σ H _ I h) fun v s1 ⟨y, H1, I1, r1, q1⟩ => thn (ho.run pins s1 σ H1 _ I1 q1) fun u s2 z => ?_) hs
  obtain ⟨x, H2, I2, r2, a, C, rfl, T, hno, q⟩ := z
  obtain rfl : u = Value.ref a := r2
  rcases q with ⟨ea, q⟩ | ⟨dx, fs, ea, ed, hl, q⟩
  · exact gost_new T I2 ea hno r1 fun dx s' n ne J => ⟨σ, _, J, q dx n ne⟩
  · exact gost_old T I2 ea ed hl hno r1 fun s' J => ⟨σ, _, J, q⟩
end
/-! ### making such an exception: C(e, ..), its own __init__ keeping sp -/
section
variable {X : Cx} {pins : List (Addr × Obj)} {σ : L2.St} {CX : CXT} {C fI : Addr} {k : Nat} {fd : FuncData} {ps : List Str} {sp : Sp} {ds : List Value} {dvs : List V}
/-- the call, its arguments at hand; G: what is wanted behind it -/
theorem gmake {H1 : Hp} {us : List Value} {vs : List V} {s1 : Shared} {Q' : VK} {G : Value → Shared → Prop} (T : OexG X.K C) (iC : PySem.W.findIn X.K (.ref C) "__init__" = some (some (.ref fI))) (tI : PySem.W.typeIn X.K (.ref fI) = some (.type "function"))
    (F1 : FnOk X.prog X.w X.K X.mg X.base CX k fI fd ps sp) (hr : Room (k + 1) X.A) (hb : Binds X.K fd ps ds) (hd : Vals dvs ds) (hx : Passes CX X (fun _ _ _ => False)) (I1 : Inv X pins σ H1 s1) (r1 : Vals vs us) (hz : vs.length ≤ 1000)
    (q1 : sp (.ref (s1.heap.objs.size + 1) :: (vs ++ dvs)) (upd H1 (s1.heap.objs.size + 1) (exo (s1.heap.objs.size + 1) C none)) Q' (fun _ _ _ => False))
    (hG : ∀ (s0 s2 : Shared) (u : Value), (∀ b o, s1.heap.get? b = some o → s0.heap.get? b = some o) → s0.os = s1.os → Inv X pins σ (upd H1 (s1.heap.objs.size + 1) (exo (s1.heap.objs.size + 1) C none)) s0 →
      CE X.stack X.prog X.w (upd H1 (s1.heap.objs.size + 1) (exo (s1.heap.objs.size + 1) C none)) s0 Q' u s2 → u = .none ∧ G (.ref (s1.heap.objs.size + 1)) s2) :
    wpAny (model X.prog X.w) X.A (call (.ref C) us) G X.xe s1 := by
  obtain ⟨nm, q, N, bs, bm, sn, sub, ab, col, dd, k0, k1, k2, k3, k5, B, nw, it, bmB, FB, hC, hc, _, _⟩ := T.cls
  obtain ⟨hp, g, dr, tk, os⟩ := s1
  dsimp only at q1 hG
  have up : ∀ b o, hp.get? b = some o → ((hp.push (PySem.W.kdv_tup us)).push (PySem.HandSPX.excO C hp.objs.size)).get? b = some o := fun b o z => Heap.get?_push_of_some _ (Heap.get?_push_of_some _ z)
  have new : ((hp.push (PySem.W.kdv_tup us)).push (PySem.HandSPX.excO C hp.objs.size)).get? (hp.objs.size + 1) = some (PySem.HandSPX.excO C hp.objs.size) := by heap_get
  have J : Inv X pins σ (upd H1 (hp.objs.size + 1) (exo (hp.objs.size + 1) C none)) ⟨(hp.push (PySem.W.kdv_tup us)).push (PySem.HandSPX.excO C hp.objs.size), g, dr, tk, os⟩ :=
    I1.laid (t' := tk) (a := hp.objs.size + 1) (o := exo (hp.objs.size + 1) C none) (h' := (hp.push (PySem.W.kdv_tup us)).push (PySem.HandSPX.excO C hp.objs.size)) up (Nat.le_succ _) (exo_ok new)
  have rr : Vals (V.ref (hp.objs.size + 1) :: (vs ++ dvs)) (Value.ref (hp.objs.size + 1) :: (us ++ ds)) := .cons rfl (r1.append hd)
  have hl : (Value.ref (hp.objs.size + 1) :: us ++ ds).length = ps.length := rr.length.symm.trans (F1.len _ _ _ _ q1)
  have hu : us.length ≤ sizeLine := by
    rw [← Paired.length r1, sizeLine_eq]
    omega
  refine wpAny_call (PySem.HandSPX.call_own FB hc (I1.kIn _ _ hC) (PySem.W.looks_findIn I1.kIn iC) (fun self => PySem.W.bind_fn I1.kIn self tI) hu ?_)
  refine codeAny_mono (F1.run _ X.stack _ _ ⟨Value.ref (hp.objs.size + 1) :: us, []⟩ (Value.ref (hp.objs.size + 1) :: (us ++ ds)) _ _ (fun _ _ _ => False) (hr.make C us []) (J.env0.make C us []) (hb _ (Value.ref (hp.objs.size + 1) :: us) J.kIn hl) rr q1) fun r s' z => ?_
  cases r with
  | error er => exact hx pins σ _ _ er s' J z
  | ok fl =>
    cases fl with
    | ret u => exact hG _ s' u up rfl J z
    | next => exact False.elim z
    | brk => exact False.elim z
    | cont => exact False.elim z
/-- .. to be raised -/
theorem gmake_x {H1 : Hp} {us : List Value} {vs : List V} {s1 : Shared} {Q : XK} (T : OexG X.K C) (iC : PySem.W.findIn X.K (.ref C) "__init__" = some (some (.ref fI))) (tI : PySem.W.typeIn X.K (.ref fI) = some (.type "function"))
    (F1 : FnOk X.prog X.w X.K X.mg X.base CX k fI fd ps sp) (hr : Room (k + 1) X.A) (hb : Binds X.K fd ps ds) (hd : Vals dvs ds) (hx : Passes CX X (fun _ _ _ => False)) (I1 : Inv X pins σ H1 s1) (r1 : Vals vs us) (hz : vs.length ≤ 1000)
    (q1 : ∀ a, H1 a = none → sp (.ref a :: (vs ++ dvs)) (upd H1 a (exo a C none))
      (fun v H2 => v = .non ∧ ∃ (d : Addr) (fs : List (Str × V)), H2 a = some (exo a C (some d)) ∧ H2 d = some (exd d fs) ∧ H1 d = none ∧ Q (.ref C) (some d) (upd (del H2 a) d (.xd fs))) (fun _ _ _ => False)) :
    wpAny (model X.prog X.w) X.A (call (.ref C) us) (MkP X pins σ Q) X.xe s1 := by
  refine gmake T iC tI F1 hr hb hd hx I1 r1 hz (q1 _ (I1.hok.fresh (Nat.le_succ _))) fun s0 s2 u up e0 J z => ?_
  obtain ⟨v, H2, os2, bare2, un2, hok2, rv, ev, d, fs, ea, ed, hd1, q2⟩ := z
  subst ev
  obtain ⟨h1, g1, d1, t1, o1⟩ := s1
  obtain ⟨h2, g2, d2, t2, o2⟩ := s2
  obtain ⟨h0, g0, d0, t0, o0⟩ := s0
  obtain rfl : o0 = o1 := e0
  exact ⟨rv, mk_end (raises_own T.exC T.tyC) I1 (Nat.le_succ _) up un2 hok2 os2 bare2 ea ed hd1 q2⟩
variable {x : Str} {p pos : Pos} {e : Expr} {es : List Expr} {ta : TA}
theorem pmk_gex (T : OexG X.K C) (iC : PySem.W.findIn X.K (.ref C) "__init__" = some (some (.ref fI))) (tI : PySem.W.typeIn X.K (.ref fI) = some (.type "function"))
    (F1 : FnOk X.prog X.w X.K X.mg X.base CX k fI fd ps sp) (hr : Room (k + 1) X.A) (hb : Binds X.K fd ps ds) (hd : Vals dvs ds) (hx : Passes CX X (fun _ _ _ => False)) (hg : Gl X x) (hm : X.mg x = some (.ref C)) (ha : PA X (e :: es) ta)
    (hdb : (x == ("__debug__" : Str)) = false := by decide) (he : starEach (e :: es) X.env = (false, eval e X.env) :: starEach es X.env := by rfl) (hpl : (backTo pos (starEach es X.env)).any (·.1) = false := by rfl) :
    PMk X (.Call (.Name x p) (e :: es) [] pos) (tMkO C sp dvs ta) := by
  intro pins s σ H Q I h
  refine wpAny_Call_Name_kw (ld_glob I hg hm ?_ hdb)
  refine PySem.W.callWith_K (h₀ := X.base) I.ok.mod.kin T.kC (thn (ha.run pos pins s σ H _ I h) fun us s1 z => ?_) he hpl
  obtain ⟨vs, H1, I1, r1, hz, q1⟩ := z
  exact ⟨I1.kIn, gmake_x T iC tI F1 hr hb hd hx I1 r1 hz q1⟩
theorem pmk_gex0 (T : OexG X.K C) (iC : PySem.W.findIn X.K (.ref C) "__init__" = some (some (.ref fI))) (tI : PySem.W.typeIn X.K (.ref fI) = some (.type "function"))
    (F1 : FnOk X.prog X.w X.K X.mg X.base CX k fI fd ps sp) (hr : Room (k + 1) X.A) (hb : Binds X.K fd ps ds) (hd : Vals dvs ds) (hx : Passes CX X (fun _ _ _ => False)) (hg : Gl X x) (hm : X.mg x = some (.ref C))
    (hdb : (x == ("__debug__" : Str)) = false := by decide) : PMk X (.Call (.Name x p) [] [] pos) (tMkO C sp dvs tNil) := by
  intro pins s σ H Q I h
  refine wpAny_Call_Name_kw (ld_glob I hg hm ?_ hdb)
  exact PySem.W.callWith_K0 I.kIn T.kC (gmake_x (us := []) T iC tI F1 hr hb hd hx I .nil h.1 h.2)
/-- C(e, ..) as a value that is kept -/
def tMkV (C : Addr) (sp : Sp) (dvs : List V) (ta : TA) : TE := fun σ H Q => ta σ H fun vs H1 => vs.length ≤ 1000 ∧ ∀ a, H1 a = none → sp (.ref a :: (vs ++ dvs)) (upd H1 a (exo a C none)) (fun v H2 => v = .non ∧ Q (.ref a) H2) (fun _ _ _ => False)
theorem gmake_v {H1 : Hp} {us : List Value} {vs : List V} {s1 : Shared} {Q : VK} (T : OexG X.K C) (iC : PySem.W.findIn X.K (.ref C) "__init__" = some (some (.ref fI))) (tI : PySem.W.typeIn X.K (.ref fI) = some (.type "function"))
    (F1 : FnOk X.prog X.w X.K X.mg X.base CX k fI fd ps sp) (hr : Room (k + 1) X.A) (hb : Binds X.K fd ps ds) (hd : Vals dvs ds) (hx : Passes CX X (fun _ _ _ => False)) (I1 : Inv X pins σ H1 s1) (r1 : Vals vs us) (hz : vs.length ≤ 1000)
    (q1 : ∀ a, H1 a = none → sp (.ref a :: (vs ++ dvs)) (upd H1 a (exo a C none)) (fun v H2 => v = .non ∧ Q (.ref a) H2) (fun _ _ _ => False)) :
    wpAny (model X.prog X.w) X.A (call (.ref C) us) (EP X pins σ Q) X.xe s1 := by
  refine gmake T iC tI F1 hr hb hd hx I1 r1 hz (q1 _ (I1.hok.fresh (Nat.le_succ _))) fun s0 s2 u up e0 J z => ?_
  obtain ⟨v, H2, J2, rv, ev, q2⟩ := J.after z
  subst ev
  exact ⟨rv, .ref (s1.heap.objs.size + 1), H2, J2, rfl, q2⟩
theorem pe_gex (T : OexG X.K C) (iC : PySem.W.findIn X.K (.ref C) "__init__" = some (some (.ref fI))) (tI : PySem.W.typeIn X.K (.ref fI) = some (.type "function"))
    (F1 : FnOk X.prog X.w X.K X.mg X.base CX k fI fd ps sp) (hr : Room (k + 1) X.A) (hb : Binds X.K fd ps ds) (hd : Vals dvs ds) (hx : Passes CX X (fun _ _ _ => False)) (hg : Gl X x) (hm : X.mg x = some (.ref C)) (ha : PA X (e :: es) ta)
    (hdb : (x == ("__debug__" : Str)) = false := by decide) (he : starEach (e :: es) X.env = (false, eval e X.env) :: starEach es X.env := by rfl) (hpl : (backTo pos (starEach es X.env)).any (·.1) = false := by rfl) :
    PE X (.Call (.Name x p) (e :: es) [] pos) (tMkV C sp dvs ta) := by
  refine ⟨fun pins s σ H Q I h => ?_⟩
  refine wpAny_Call_Name_kw (ld_glob I hg hm ?_ hdb)
  refine PySem.W.callWith_K (h₀ := X.base) I.ok.mod.kin T.kC (thn (ha.run pos pins s σ H _ I h) fun us s1 z => ?_) he hpl
  obtain ⟨vs, H1, I1, r1, hz, q1⟩ := z
  exact ⟨I1.kIn, gmake_v T iC tI F1 hr hb hd hx I1 r1 hz q1⟩
theorem pe_gex0 (T : OexG X.K C) (iC : PySem.W.findIn X.K (.ref C) "__init__" = some (some (.ref fI))) (tI : PySem.W.typeIn X.K (.ref fI) = some (.type "function"))
    (F1 : FnOk X.prog X.w X.K X.mg X.base CX k fI fd ps sp) (hr : Room (k + 1) X.A) (hb : Binds X.K fd ps ds) (hd : Vals dvs ds) (hx : Passes CX X (fun _ _ _ => False)) (hg : Gl X x) (hm : X.mg x = some (.ref C))
    (hdb : (x == ("__debug__" : Str)) = false := by decide) : PE X (.Call (.Name x p) [] [] pos) (tMkV C sp dvs tNil) := by
  refine ⟨fun pins s σ H Q I h => ?_⟩
  refine wpAny_Call_Name_kw (ld_glob I hg hm ?_ hdb)
  exact PySem.W.callWith_K0 I.kIn T.kC (gmake_v (us := []) T iC tI F1 hr hb hd hx I .nil h.1 h.2)
end
/-! ### C.m(e, ..): a plain def of a class, called by the class's name -/
/-- the class at C tells of its def g under the name m -/
structure CFn (K : PySem.W.Frag) (C : Addr) (m : Str) (g : Addr) : Prop where
  rd : PySem.W.readsIn K C (.type "type") = true
  ga : PySem.W.specialIn K (.ref C) "__getattribute__" = some (some (.builtin "type.__getattribute__"))
  at_ : PySem.W.findCls K (.ref C) (.type "type") m = some (.val (.ref g))
  kp : PySem.W.keepIn K (.ref g) = true
section
variable {X : Cx} {CX : CXT} {k : Nat} {C g : Addr} {fd : FuncData} {ps : List Str} {sp : Sp} {ds : List Value} {dvs : List V} {E : XK} {e : Expr} {es : List Expr} {c m : Str} {p pos apos : Pos} {t : TA} {pl : Sem Bool}
theorem pe_cfn (T : CFn X.K C m g) (F : FnOk X.prog X.w X.K X.mg X.base CX k g fd ps sp) (hr : Room k X.A) (hb : Binds X.K fd ps ds) (hd : Vals dvs ds) (hx : Passes CX X E) (hg : Gl X c) (hm : X.mg c = some (.ref C)) (ha : PA X (e :: es) t)
    (hdb : (c == ("__debug__" : Str)) = false := by decide) (hst : starEach (e :: es) X.env = (false, eval e X.env) :: starEach es X.env := by rfl) (hpl : (backTo pos (starEach es X.env)).any (·.1) = false := by rfl)
    (ht : eval (.Call (.Attribute (.Name c p) m apos) (e :: es) [] pos) X.env = (do
      let ov ← eval (.Name c p) X.env
      standAt apos.atName
      let (f, first) ← holding [ov] (getMethod ov m pl)
      callWith pos f first (backTo pos (starEach (e :: es) X.env)) (backToKw pos (keywordEach [] X.env))) := by rfl) :
    PE X (.Call (.Attribute (.Name c p) m apos) (e :: es) [] pos) (tCall sp dvs E t) := by
  refine ⟨fun pins s σ H Q I h => ?_⟩
  refine PySem.W.methodCall_KW (pl := pl) (ld_glob I hg hm ?_ hdb) ht
  refine PySem.W.method_cls I.kIn T.ga (PySem.W.cls_value I.kIn T.rd T.at_ rfl ?_)
  refine PySem.W.callWith_K (h₀ := X.base) (first := []) I.ok.mod.kin T.kp (thn (ha.run pos pins _ σ H _ (I.tok _) h) fun us s1 z => ?_) hst hpl
  obtain ⟨vs, H1, I1, r, q⟩ := z
  exact ⟨I1.kIn, run_fn F hr hb hd hx I1 r q⟩
end
/-! ### what the __init__s keep -/
/-- a base: self.word = word -/
def spBase (K : PySem.W.Frag) : Sp := fun vs H Q _ => ∃ (a C : Addr) (y : V), vs = [.ref a, y] ∧ OexG K C ∧ PySem.W.findIn K (.ref C) "word" = some none ∧ H a = some (exo a C none) ∧
  ∀ dx, H dx = none → dx ≠ a → Q .non (upd (upd H dx (exd dx [("word", y)])) a (exo a C (some dx)))
/-- a class of refusals: n values, kept under the names that fs tells -/
def spMade (C : Addr) (n : Nat) (fs : List V → List (Str × V)) : Sp := fun vs H Q _ => ∃ (a : Addr) (ws : List V), vs = .ref a :: ws ∧ ws.length = n ∧ H a = some (exo a C none) ∧
  ∀ (dx : Addr) (H2 : Hp), H dx = none → dx ≠ a → (∀ b, b ≠ a → b ≠ dx → H2 b = H b) → H2 a = some (exo a C (some dx)) → H2 dx = some (exd dx (fs ws)) → Q .non H2
/-- all that is wanted of a class of refusals by the def that makes one -/
structure ExcK (P : Program) (w : World) (K : PySem.W.Frag) (mg : Str → Option Value) (base : Heap) (k : Nat) (nm : Str) (C : Addr) (n : Nat) (fs : List V → List (Str × V)) : Prop where
  oex : OexG K C
  mgC : mg nm = some (.ref C)
  init : ∃ (fI : Addr) (fd : FuncData) (ps : List Str), PySem.W.findIn K (.ref C) "__init__" = some (some (.ref fI)) ∧ PySem.W.typeIn K (.ref fI) = some (.type "function") ∧ FnOk P w K mg base CX0 k fI fd ps (spMade C n fs) ∧ Binds K fd ps []
/-- the reading: nm(e, ..), to be raised -/
def tRef (C : Addr) (n : Nat) (fs : List V → List (Str × V)) (ta : TA) : L2.St → Hp → XK → Prop := fun σ H Q => ta σ H fun vs H1 => vs.length = n ∧ vs.length ≤ 1000 ∧ ∀ (d : Addr) (H2 : Hp), H1 d = none → (∀ b, b ≠ d → H1 b ≠ none → H2 b = H1 b) → H2 d = some (.xd (fs vs)) → Q (.ref C) (some d) H2
section
variable {X : Cx} {k : Nat} {nm : Str} {C : Addr} {n : Nat} {fs : List V → List (Str × V)} {p pos : Pos} {e : Expr} {es : List Expr} {ta : TA}
theorem tRef_mk {H1 : Hp} {vs : List V} {Q : XK} (hn : vs.length = n) (h : ∀ (d : Addr) (H2 : Hp), H1 d = none → (∀ b, b ≠ d → H1 b ≠ none → H2 b = H1 b) → H2 d = some (.xd (fs vs)) → Q (.ref C) (some d) H2) (a : Addr) (ha : H1 a = none) :
    spMade C n fs (.ref a :: (vs ++ [])) (upd H1 a (exo a C none))
      (fun v H2 => v = .non ∧ ∃ (d : Addr) (gs : List (Str × V)), H2 a = some (exo a C (some d)) ∧ H2 d = some (exd d gs) ∧ H1 d = none ∧ Q (.ref C) (some d) (upd (del H2 a) d (.xd gs))) (fun _ _ _ => False) := by
  refine ⟨a, vs, by rw [List.append_nil], hn, upd_same, fun dx H2 h1 h2 h3 h4 h5 => ⟨rfl, dx, _, h4, h5, ?_, ?_⟩⟩
  · rw [upd_ne h2] at h1
    exact h1
  · rw [upd_ne h2] at h1
    refine h dx _ h1 (fun b hb hb2 => ?_) upd_same
    have nb : b ≠ a := fun z => hb2 (by rw [z]; exact ha)
    rw [upd_ne hb, del_ne nb, h3 b nb hb, upd_ne nb]
theorem pmk_ref (T : ExcK X.prog X.w X.K X.mg X.base k nm C n fs) (hr : Room (k + 1) X.A) (hg : Gl X nm) (ha : PA X (e :: es) ta)
    (hdb : (nm == ("__debug__" : Str)) = false := by decide) (he : starEach (e :: es) X.env = (false, eval e X.env) :: starEach es X.env := by rfl) (hpl : (backTo pos (starEach es X.env)).any (·.1) = false := by rfl) :
    PMk X (.Call (.Name nm p) (e :: es) [] pos) (tRef C n fs ta) := by
  obtain ⟨fI, fd, ps, i1, i2, i3, i4⟩ := T.init
  intro pins s σ H Q I h
  refine wpAny_Call_Name_kw (ld_glob I hg T.mgC ?_ hdb)
  refine PySem.W.callWith_K (h₀ := X.base) I.ok.mod.kin T.oex.kC (thn (ha.run pos pins s σ H _ I h) fun us s1 z => ?_) he hpl
  obtain ⟨vs, H1, I1, r1, z1, z2, z3⟩ := z
  exact ⟨I1.kIn, gmake_x T.oex i1 i2 i3 hr i4 .nil pass0 I1 r1 z2 (tRef_mk z1 z3)⟩
theorem pmk_ref0 (T : ExcK X.prog X.w X.K X.mg X.base k nm C n fs) (hr : Room (k + 1) X.A) (hg : Gl X nm) (hdb : (nm == ("__debug__" : Str)) = false := by decide) : PMk X (.Call (.Name nm p) [] [] pos) (tRef C n fs tNil) := by
  obtain ⟨fI, fd, ps, i1, i2, i3, i4⟩ := T.init
  intro pins s σ H Q I h
  exact pmk_gex0 T.oex i1 i2 i3 hr i4 .nil pass0 hg T.mgC hdb pins s σ H Q I ⟨h.2.1, fun a ha => tRef_mk h.1 h.2.2 a ha⟩
end
/-! ### except (A, B, ..) as n: any number of classes, any number of clauses -/
section
open PySem.W
variable {M : Model} {K : Frag} {A : Around} {E : Value → Shared → Prop}
theorem exm_walk1 {cls : Value} {h : Heap} {f : Value → PUnit → Sem (ForInStep PUnit)} (hf : ∀ (c : Value) (b : Bool), exmOne K cls c = some b → Looks M h (f c PUnit.unit) (.yield PUnit.unit)) :
    ∀ (cs : List Value) (b : Bool), exmAny K cls cs = some b → Looks M h (forIn cs PUnit.unit f) PUnit.unit := by
  intro cs
  induction cs with
  | nil =>
    intro b _ A Q E s k q
    rw [List.forIn_nil]
    exact wpAny_pure q
  | cons c r ih =>
    intro b hb A Q E s k q
    obtain ⟨b1, d1, e1, e2, _⟩ := exmAny_cons hb
    rw [List.forIn_cons]
    refine wpAny_bind (hf c b1 e1 A _ E s k ?_)
    exact ih d1 e2 A Q E s k q
theorem exm_walk2 {cls : Value} {h : Heap} {f : Value → Option Bool × Unit → Sem (ForInStep (Option Bool × Unit))}
    (hf : ∀ (c : Value) (b : Bool), exmOne K cls c = some b → Looks M h (f c (none, ())) (if b = true then .done (some true, ()) else .yield (none, ()))) :
    ∀ (cs : List Value) (b : Bool), exmAny K cls cs = some b → Looks M h (forIn cs (none, ()) f) (if b = true then some true else none, ()) := by
  intro cs
  induction cs with
  | nil =>
    intro b hb A Q E s k q
    have z : some false = some b := hb
    cases z
    rw [List.forIn_nil]
    exact wpAny_pure q
  | cons c r ih =>
    intro b hb A Q E s k q
    obtain ⟨b1, d1, e1, e2, e3⟩ := exmAny_cons hb
    rw [List.forIn_cons]
    refine wpAny_bind (hf c b1 e1 A _ E s k ?_)
    cases b1 with
    | true =>
      rw [if_pos rfl]
      have z : b = true := e3
      rw [z] at q
      exact wpAny_pure q
    | false =>
      rw [if_neg Bool.false_ne_true]
      have z : b = d1 := e3
      rw [z] at q
      exact ih d1 e2 A Q E s k q
theorem exm_tupN {cs : List Value} {cls : Value} {tp e : Addr} {b : Bool} {h : Heap} (X : K.In h) (LT : Looks M h (typeOf (.ref e)) cls) (hp : h.get? tp = some { cls := .type "tuple", data := .seq cs.toArray }) (hx : exmAny K cls cs = some b) :
    Looks M h (excMatches (.ref e) (.ref tp)) b := by
  intro A Q E s k₀ q
  obtain ⟨hh, g, d, tk, os⟩ := s
  have k : ∀ b o, h.get? b = some o → hh.get? b = some o := k₀
  have isT : Looks M h (isInstance (.ref tp) (.type "tuple")) true := ((Looks.ld hp).andThen .now).andThen (Looks.of_pure isSubtype_tuple_tuple)
  have w1 := exm_walk1 (M := M) (h := h) (K := K) (cls := cls) (f := fun c __s => do
      let __do_lift ← isExcClass c
      if (!__do_lift) = true then do
          rule "try.except-non-exception-class"
          raiseErrorWords "TypeError" "catching classes that do not inherit from BaseException is not allowed"
          pure (ForInStep.yield PUnit.unit)
        else pure (ForInStep.yield PUnit.unit)) (fun c b hc A Q E s k q => wpAny_bind (((exm_cls (M := M) X hc).1.keeps k).here (by rw [if_neg (by decide)]; exact wpAny_pure q))) cs b hx
  have w2 := exm_walk2 (M := M) (h := h) (K := K) (cls := cls) (f := fun c __s => do
      let __do_lift ← isSubtype cls c
      if __do_lift = true then pure (ForInStep.done (some true, ())) else pure (ForInStep.yield (none, ())))
    (fun c b hc A Q E s k q => wpAny_bind (((exm_cls (M := M) X hc).2.keeps k).here (by cases b <;> exact wpAny_pure q))) cs b hx
  unfold excMatches
  refine wpAny_bind ((isT.keeps k).at ?_)
  dsimp only
  rw [if_pos rfl]
  first
    | refine wpAny_bind (wpAny_seqItems (k _ _ hp) rfl ?_)
    | refine wpAny_bind (wpAny_bind (wpAny_seqItems (k _ _ hp) rfl (wpAny_pure ?_)))
  dsimp only [Option.getD_some, Option.getD]
  first
    | refine wpAny_pure (wpAny_bind ((w1.keeps k).at (wpAny_bind ((LT.keeps k).at (wpAny_bind ((w2.keeps k).at ?_))))))
    | refine wpAny_bind (wpAny_pure (wpAny_bind ((w1.keeps k).at (wpAny_bind ((LT.keeps k).at (wpAny_bind ((w2.keeps k).at ?_)))))))
  cases b <;> exact wpAny_pure q
end
theorem flyZ_keeps {B : Heap} {l : List Env} {a : Addr} {Z : Obj → Prop} {h h' : Heap} (fl : HandSPX.FlyingZ B l a Z h) (k : ∀ b o, h.get? b = some o → h'.get? b = some o) : HandSPX.FlyingZ B l a Z h' := by
  obtain ⟨k1, k2, k3, oe, vs, T, oT, ts, he, hz, hd, h1, hnT, hTe, hT, hdT, h3⟩ := fl
  exact ⟨fun b o z => k b o (k1 b o z), k2, k3.of_keeps (fun b o hb _ => ⟨o, k b o hb, rfl⟩), oe, vs, T, oT, ts, k _ _ he, hz, hd, h1, hnT, hTe, k _ _ hT, hdT, h3⟩
/-- the classes that an except clause names -/
inductive NamesL (X : Cx) : List Expr → List Value → Prop
  | nil : NamesL X [] []
  | cons {x : Str} {c : Value} {p : Pos} {es : List Expr} {cs : List Value} : Names X x c → NamesL X es cs → NamesL X (.Name x p :: es) (c :: cs)
inductive TestIs (X : Cx) : Expr → List Value → Prop
  | one {x : Str} {c : Value} {p : Pos} : Names X x c → TestIs X (.Name x p) [c]
  | tup {es : List Expr} {cs : List Value} {k : Nat} {p : Pos} : NamesL X es cs → cs.length ≤ 1000 → TestIs X (.Tuple es k p) cs
section
variable {X : Cx} {a : Addr} {pn : List (Addr × Obj)} {σ : L2.St} {H : Hp} {s : Shared}
theorem name_run {x : Str} {c : Value} {p : Pos} {Q : Value → Shared → Prop} {E : Value → Shared → Prop} (S : Inv (X.suite a pn) [] σ H s) (n : Names X x c) (q : Q c s) : wpAny (model X.prog X.w) (X.A.mark (some (.ref a))) (eval (.Name x p) X.env) Q E s := by
  obtain ⟨hg, hd, hm | ⟨hm, hv, hn⟩⟩ := n
  · exact ld_glob (X := X.suite a pn) S hg hm q hd
  · exact ld_blt (X := X.suite a pn) S hg hm hv q hn hd
theorem names_run {E : Value → Shared → Prop} {pos : Pos} (S : Inv (X.suite a pn) [] σ H s) : ∀ {es : List Expr} {cs : List Value} {Q : List Value → Shared → Prop}, NamesL X es cs → Q cs s → wpAny (model X.prog X.w) (X.A.mark (some (.ref a))) (spliced (backTo pos (starEach es X.env))) Q E s := by
  intro es cs Q n
  induction n generalizing Q with
  | nil => exact fun q => wpAny_items_nil q
  | cons hn _ ih => exact fun q => wpAny_items_cons (name_run S hn (ih (Q := fun vs s2 => Q (_ :: vs) s2) q))
theorem test_run {t : Expr} {cs : List Value} {cls : Value} {b : Bool} {Q : Bool → Shared → Prop} {E : Value → Shared → Prop} (S : Inv (X.suite a pn) [] σ H s) (T : TestIs X t cs) (LT : PySem.W.Looks (model X.prog X.w) s.heap (typeOf (.ref a)) cls) (hx : PySem.W.exmAny X.K cls cs = some b)
    (hq : ∀ h', (∀ q o, s.heap.get? q = some o → h'.get? q = some o) → Q b { s with heap := h' }) :
    wpAny (model X.prog X.w) (X.A.mark (some (.ref a))) (eval t X.env) (fun c s₁ => wpAny (model X.prog X.w) (X.A.mark (some (.ref a))) (excMatches (.ref a) c) Q E s₁) E s := by
  cases T with
  | one n =>
    obtain ⟨b1, d1, e1, e2, e3⟩ := PySem.W.exmAny_cons hx
    have z : some false = some d1 := e2
    cases z
    rw [Bool.or_false] at e3
    subst e3
    exact name_run S n ((PySem.W.exm_one S.kIn LT e1).here (hq s.heap fun _ _ z => z))
  | tup n hl =>
    refine wpAny_Tuple (names_run S n ⟨by rw [sizeLine_eq]; omega, ?_⟩)
    have kp : ∀ q o, s.heap.get? q = some o → (s.heap.push { cls := .type "tuple", data := .seq cs.toArray }).get? q = some o := fun _ _ z => Heap.get?_push_of_some _ z
    exact (exm_tupN (S.kIn.keeps kp) (LT.keeps kp) (Heap.get?_push_size s.heap rfl) hx).here (hq _ kp)
end
/-- what the clauses 'except .. as n' wish of an exception of the body, one behind the other: slot i is n's -/
def wAsN (K : PySem.W.Frag) (i : Nat) (Wout : WX) (D : Ends) : List (List Value × (Addr → Value → Option Addr → TS)) → WX
  | [] => Wout
  | (cs, ts) :: r => fun cls d σ H => ∃ b, PySem.W.exmAny K cls cs = some b ∧
      (b = true → ∀ a, H a = none → ts a cls d { nx := fun σ' H' => D.nx (σ'.set i none) H', rt := D.rt, bk := fun σ' H' => D.bk (σ'.set i none) H', ct := fun σ' H' => D.ct (σ'.set i none) H' } (σ.set i (some (.ref a))) H) ∧
      (b = false → wAsN K i Wout D r cls d σ H)
inductive HdsAs (X : Cx) (n : Str) : List ExceptHandler → List (List Value × (Addr → Value → Option Addr → TS)) → Prop
  | nil : HdsAs X n [] []
  | cons {t : Expr} {cs : List Value} {ts : Addr → Value → Option Addr → TS} {b₀ : Stmt} {suite : List Stmt} {pos' : Pos} {hds : List ExceptHandler} {l : List (List Value × (Addr → Value → Option Addr → TS))} (ht : TestIs X t cs)
      (hsu : ∀ (a : Addr) (oe : Obj) (cls : Value) (d : Option Addr) (pn : List (Addr × Obj)), Zc cls d oe → (∃ vs, oe.data = .fields vs) → PSs (X.suite a ((a, oe) :: pn)) (b₀ :: suite) (ts a cls d)) (r : HdsAs X n hds l) :
      HdsAs X n (.ExceptHandler (some t) (some n) (b₀ :: suite) pos' :: hds) ((cs, ts) :: l)
section
variable {X : Cx} {n : Str} {i : Nat} {body : List Stmt} {h₀ : ExceptHandler} {hds : List ExceptHandler} {l : List (List Value × (Addr → Value → Option Addr → TS))} {pos : Pos} {tb : WX → TS} {Wout : WX}
/-- the clauses are gone through, the exception at a being caught -/
theorem hds_run (hs : X.stack = X.env :: X.outer) (hf : X.env.frame = some X.env.locals) (hN : X.N.Nodup) (hi : X.N[i]? = some n) (hln : X.env.kindOf n = some .local) (tk : Takes X Wout)
    {pins : List (Addr × Obj)} {a : Addr} {B : Heap} {sI : Shared} {σ : L2.St} {H : Hp} {cls : Value} {d : Option Addr} {D : Ends} (J : Inv X pins σ H sI) (nb : ∀ b o, sI.heap.get? b = some o → b ∉ frs X.stack → B.get? b = some o) (na : H a = none) :
    ∀ {hs' : List ExceptHandler} {l' : List (List Value × (Addr → Value → Option Addr → TS))}, HdsAs X n hs' l' → wAsN X.K i Wout D l' cls d σ H → ∀ s' : Shared, HandSPX.FlyingZ B (X.env :: X.outer) a (Zc cls d) s'.heap → sI.heap.UpToSlots s'.heap → s'.os = sI.os → AllBare s'.gens →
      wpAny (model X.prog X.w) X.A (handleBy (.ref a) X.env hs') (SP X pins D) X.xe s' := by
  intro hs' l' hk
  induction hk with
  | nil =>
    intro w s' fl up os ag
    refine wpAny_handleBy_nil ?_
    obtain ⟨_, _, _, oe, vs, T, oT, ts', he, hz, hd, h1, _⟩ := id fl
    unfold PySem.passOn
    refine wpAny_bind (wpAny_field he hd h1 ?_)
    rw [if_neg (show ¬ ((Value.ref T == Value.none) = true) from by simp)]
    have fin : wpAny (model X.prog X.w) X.A (setFlight (.ref a) X.env.frame) (fun _ s4 => wpAny (model X.prog X.w) X.A (throw (.ref a) : Sem Flow) (SP X pins D) X.xe s4) X.xe s' := by
      rw [hf]
      refine HandSPX.setFlight_upZ fl fun h4 hh4 up4 => wpAny_throw (tk _ _ ?_)
      exact ⟨a, B, sI, pins, σ, H, cls, d, rfl, J, nb, up.trans up4, .inr (.inr (by rw [hs]; exact hh4)), na, os, ag, w⟩
    first
      | exact wpAny_bind (wpAny_pure (wpAny_bind fin))
      | exact wpAny_bind fin
  | @cons t cs ts b₀ suite pos' hds2 l2 ht hsu r ih =>
    intro w s' fl up os ag
    obtain ⟨b, hb1, hyes, hno⟩ := w
    have ok := J.ok
    have J3 : Inv X pins σ H s' := J.landed nb fl.1 up os ag
    have out : ∀ {h : Heap} {o : Obj} {vs : Array Value}, h.FunFrames B (X.env :: X.outer) → h.get? a = some o → o.data = .fields vs → a ∉ frs (X.env :: X.outer) := fun {h o vs} ff e dd hm => by
      obtain ⟨_, o', e', hnf⟩ := ff.mem hm
      rw [e] at e'
      cases e'
      exact hnf _ dd
    obtain ⟨oe3, vs3, he3, hz3, hd3⟩ := fl.there
    have nfr := out fl.2.2.1 he3 hd3
    have nL : a ≠ X.env.locals := fun z => nfr (List.mem_filterMap.mpr ⟨X.env, List.mem_cons_self, by rw [hf, z]⟩)
    have nF : a ∉ X.fs := fun hm => by
      obtain ⟨e, he, q⟩ := List.mem_filterMap.mp hm
      exact nfr (List.mem_filterMap.mpr ⟨e, List.mem_cons_of_mem _ he, q⟩)
    have S3 := J3.suite he3 hd3 na nL nF
    have LT : PySem.W.Looks (model X.prog X.w) s'.heap (typeOf (.ref a)) cls := fun A Q E s k q => wpAny_typeOf_ref (k _ _ he3) (by rw [hz3.1]; exact q)
    refine wpAny_handleBy_cons (codeAny_handlers_test ?_) (by intro q; cases q)
    refine test_run S3 ht LT hb1 fun h4 kp => ?_
    have fl4 : HandSPX.FlyingZ B (X.env :: X.outer) a (Zc cls d) h4 := flyZ_keeps fl kp
    have up4 : sI.heap.UpToSlots h4 := up.trans (Heap.UpToSlots.of_keeps kp)
    cases b with
    | false =>
      show wpAny _ X.A (handleBy (.ref a) X.env hds2) _ _ _
      exact ih (hno rfl) { s' with heap := h4 } fl4 up4 os ag
    | true =>
      refine codeAny_handlers_suite_as ?_
      refine HandSPX.lands_againZ (s := { s' with heap := h4 }) fl4 fun h5 fl5 up5 => ?_
      have J5 : Inv X pins σ H { s' with heap := h5 } := J.landed nb fl5.1 (up4.trans up5) os ag
      obtain ⟨oe5, vs5, he5, hz5, hd5⟩ := fl5.there
      have S5 := J5.suite he5 hd5 na nL nF
      refine store_ok (X := X.suite a ((a, oe5) :: (X.pn ++ pins))) (v := .ref a) S5 hN hi (.inl hln) rfl (fun s6 S6 => ?_) (.inr hln)
      refine wpAny_mono ((hsu a oe5 cls d (X.pn ++ pins) hz5 ⟨_, hd5⟩).run [] s6 _ H _ S6 (hyes rfl a na)) (fun f s7 hsp => ?_) (fun _ _ z => False.elim z)
      have goes : ∀ {σ7 : L2.St} {H7 : Hp} {Q : Shared → Prop}, Inv (X.suite a ((a, oe5) :: (X.pn ++ pins))) [] σ7 H7 s7 → (∀ s8, Inv X pins (σ7.set i none) H7 s8 → Q s8) →
          wpAny (model X.prog X.w) X.A (do bindName X.env n .none; unbindBehindTheSuite X.env n pos') (fun _ s8 => Q s8) X.xe s7 := fun {σ7 H7 Q} S7 hq => gone_ok (S7.unsuite ok) hN hi hln hq
      cases f with
      | next =>
        obtain ⟨σ7, H7, S7, q7⟩ := hsp
        exact goes S7 fun s8 J8 => ⟨_, _, J8, q7⟩
      | brk =>
        obtain ⟨σ7, H7, S7, q7⟩ := hsp
        exact goes S7 fun s8 J8 => ⟨_, _, J8, q7⟩
      | cont =>
        obtain ⟨σ7, H7, S7, q7⟩ := hsp
        exact goes S7 fun s8 J8 => ⟨_, _, J8, q7⟩
      | ret u =>
        obtain ⟨v7, σ7, H7, S7, r7, q7⟩ := hsp
        exact goes S7 fun s8 J8 => ⟨_, _, _, J8, r7, q7⟩
theorem ps_try_asN (hs : X.stack = X.env :: X.outer) (hf : X.env.frame = some X.env.locals) (hN : X.N.Nodup) (hi : X.N[i]? = some n) (hln : X.env.kindOf n = some .local) (tk : Takes X Wout)
    (hb : ∀ (W : WX) (pn : List (Addr × Obj)) (xe : Value → Shared → Prop), Takes (X.tr pn xe) W → PassesOwn (model X.prog X.w) X.A X.env xe → PSs (X.tr pn xe) body (tb W))
    (hh : HdsAs X n (h₀ :: hds) l) : PS X (.Try body (h₀ :: hds) [] [] pos) (fun D σ H => tb (wAsN X.K i Wout D l) D σ H) := by
  refine ⟨fun pins s σ H D I h => ?_⟩
  have ok := I.ok
  have hfr : X.A.frames = some (X.env :: X.outer) := by rw [ok.frames, hs]
  refine wpAny_Try_except ?_
  refine wpAny_mono ((hb (wAsN X.K i Wout D l) (X.pn ++ pins) (fun e s₁ => wpAny (model X.prog X.w) X.A (noteFrame e X.env) (fun _ s₂ => wpAny (model X.prog X.w) X.A (setFlight e none) (fun _ s₃ =>
    wpAny (model X.prog X.w) X.A (handleBy e X.env (h₀ :: hds)) (SP X pins D) X.xe s₃) X.xe s₂) X.xe s₁) (fun u s' xx => ?_) PassesOwn.looking).run [] s σ H D (I.toTry _) h) (fun f s1 hsp => ?_) (fun e s1 he => he)
  · obtain ⟨a, B, sI, pins', σ', H', cls, d, rfl, J', nb, up, sky, na, os, ag, w⟩ := xx
    rw [show (X.tr (X.pn ++ pins) _).stack = X.env :: X.outer from hs] at sky
    show wpAny (model X.prog X.w) X.A (noteFrame (.ref a) X.env) _ _ _
    refine Sky.land Zc.steady hfr hf sky fun h3 fl3 up3 => ?_
    exact hds_run hs hf hN hi hln tk (J'.ofTry ok) nb na hh w { s' with heap := h3 } fl3 (up.trans up3) os ag
  · cases f with
    | next =>
      obtain ⟨σ', H', J', q⟩ := hsp
      exact wpAny_execs_nil ⟨σ', H', J'.ofTry ok, q⟩
    | brk =>
      obtain ⟨σ', H', J', q⟩ := hsp
      exact ⟨σ', H', J'.ofTry ok, q⟩
    | cont =>
      obtain ⟨σ', H', J', q⟩ := hsp
      exact ⟨σ', H', J'.ofTry ok, q⟩
    | ret u =>
      obtain ⟨v, σ', H', J', r, q⟩ := hsp
      exact ⟨v, σ', H', J'.ofTry ok, r, q⟩
end
/-! ### the head by facts: Bools over what the top has written -/
theorem funOf {K : PySem.W.Frag} {x qual : Str} {st : Stmt} {f : Addr} {fd : FuncData} (F : FunD K x qual (defArgs st) (defBody st) (defScope st) [] [] f fd) : Fun K x qual st f fd := by
  obtain ⟨oc, od, dV, kV, doc, pm, an, cdv, ct, osl, e, lk, hcd, hd, _⟩ := F.ex
  have hn : dV = .none := by
    rcases hd with ⟨_, z⟩ | ⟨z, _⟩
    · exact z
    · exact absurd rfl z
  subst hn
  exact ⟨⟨oc, od, kV, doc, pm, an, cdv, ct, osl, e, lk, hcd⟩, F.kp⟩
def dOf (a : Str × Option Str) (nm q : Str) (st : Stmt) (dfl : List He.Dv) (kwd : List (Str × He.Dv)) : He.DefD := ⟨a, nm, q, defArgs st, defBody st, defScope st, dfl, kwd⟩
def frN (n : Nat) (k : Nat → Bool) : Bool := match n with
  | 0 => k 0
  | m + 1 => k (m + 1)
theorem frN_eq (n : Nat) (k : Nat → Bool) : frN n k = k n := by
  cases n <;> rfl
def frL : List Addr → (List Addr → Bool) → Bool
  | [], k => k []
  | a :: r, k => frN a fun a => frL r fun r => k (a :: r)
theorem frL_eq : ∀ (l : List Addr) (k : List Addr → Bool), frL l k = k l
  | [], _ => rfl
  | a :: r, k => by
    show frN a (fun a => frL r fun r => k (a :: r)) = _
    rw [frN_eq, frL_eq r]
def isNw (nw : String) : List (Option Value) → Bool
  | [_, _, _, _, some (.builtin z), _] => decide (z = nw)
  | _ => false
theorem isNw_ok {nw : String} {l : List (Option Value)} (h : isNw nw l = true) : ∃ k0 k1 k2 k3 k5 : Option Value, l = [k0, k1, k2, k3, some (.builtin nw), k5] := by
  unfold isNw at h
  split at h
  · have e := of_decide_eq_true h
    subst e
    exact ⟨_, _, _, _, _, rfl⟩
  · cases h
abbrev excT (B : String) : List Value := [.type B, .type "Exception", .type "BaseException", .type "object"]
/-- a class of refusals at C under the class at CB, which stands over the built-in B -/
def oexB (K : PySem.W.Frag) (C CB : Addr) (B nw : String) : Bool := (match K.lookup C with
  | some ⟨.type t, _, .cls cd, sl⟩ => decide (t = "type") && (decide (cd.mro = .ref C :: .ref CB :: excT B) && (cd.hasDict && (!cd.hasDel && isNw nw sl.toList)))
  | _ => false) && (He.eqO (PySem.W.findIn K (.ref C) "__setattr__") (some (some (.builtin "object.__setattr__"))) && (decide (PySem.W.subIn K (.ref C) (.type "BaseException") = some true) && (decide (PySem.W.typeIn K (.ref C) = some (.type "type")) && PySem.W.keepIn K (.ref C))))
theorem oexB_ok {K : PySem.W.Frag} {C CB : Addr} {B nw it : String} (FB : ExcBaseFacts B nw it (excT B)) (S : ∀ self : Value, refuseLoop self "__setattr__" (excT B) = pure ()) (hob : (excT B).contains (.type "object") = true) (h : oexB K C CB B nw = true) : OexG K C := by
  obtain ⟨h1, h⟩ := He.ba h
  obtain ⟨h2, h⟩ := He.ba h
  obtain ⟨h3, h⟩ := He.ba h
  obtain ⟨h4, h5⟩ := He.ba h
  refine ⟨?_, He.eqO_ok h2, of_decide_eq_true h3, of_decide_eq_true h4, h5⟩
  cases q : K.lookup C with
  | none =>
    rw [q] at h1
    cases h1
  | some o =>
    obtain ⟨oc, od, dt, osl⟩ := o
    rw [q] at h1
    cases oc with
    | type t =>
      cases dt with
      | cls cd =>
        obtain ⟨n1, n2, n3, n4, n5, n6, n7, n8, n9, n10, n11⟩ := cd
        obtain ⟨a1, h1⟩ := He.ba h1
        obtain ⟨a2, h1⟩ := He.ba h1
        obtain ⟨a3, h1⟩ := He.ba h1
        obtain ⟨a4, a5⟩ := He.ba h1
        have e1 : t = "type" := of_decide_eq_true a1
        have e2 : n3 = .ref C :: .ref CB :: excT B := of_decide_eq_true a2
        have e3 : n6 = true := a3
        have e4 : n11 = false := by
          cases n11 with
          | false => rfl
          | true => cases a4
        obtain ⟨sl⟩ := osl
        obtain ⟨k0, k1, k2, k3, k5, e5⟩ := isNw_ok a5
        have e6 : sl = [k0, k1, k2, k3, some (.builtin nw), k5] := e5
        subst e1 e2 e3 e4 e6
        exact ⟨_, _, _, _, _, _, _, _, _, _, _, _, _, _, _, B, _, _, _, FB, rfl, fun Y => by rw [List.contains_cons]; rfl, hob, fun self => by rw [refuseLoop_ref, refuseLoop_ref]; exact S self⟩
      | _ => cases h1
    | _ => cases dt <;> cases h1
def cfnB (K : PySem.W.Frag) (C g : Addr) : Bool := PySem.W.readsIn K C (.type "type") && (He.eqO (PySem.W.specialIn K (.ref C) "__getattribute__") (some (some (.builtin "type.__getattribute__"))) && ((match PySem.W.findCls K (.ref C) (.type "type") "__init__" with
  | some (.val (.ref a)) => decide (a = g)
  | _ => false) && PySem.W.keepIn K (.ref g)))
theorem cfnB_ok {K : PySem.W.Frag} {C g : Addr} (h : cfnB K C g = true) : CFn K C "__init__" g := by
  obtain ⟨h1, h⟩ := He.ba h
  obtain ⟨h2, h⟩ := He.ba h
  obtain ⟨h3, h4⟩ := He.ba h
  refine ⟨h1, He.eqO_ok h2, ?_, h4⟩
  split at h3
  · rename_i a e
    have e2 : a = g := of_decide_eq_true h3
    rw [e, e2]
  · cases h3
/-- all that is looked at of the class x, under b, with these fields -/
def leafB (K : PySem.W.Frag) (x b : Str) (B nw : String) (fl : List Str) : Bool := frN (He.ga K x) fun C => frN (He.ga K b) fun CB => oexB K C CB B nw && (cfnB K CB (He.ma K CB "__init__") && (He.eqO (PySem.W.findIn K (.ref C) "__init__") (some (some (.ref (He.ma K C "__init__")))) &&
  (decide (PySem.W.typeIn K (.ref (He.ma K C "__init__")) = some (.type "function")) && (("word" : Str) :: fl).all fun f => He.eqO (PySem.W.findIn K (.ref C) f) (some none))))
structure LeafK (K : PySem.W.Frag) (x b : Str) (fl : List Str) : Prop where
  T : OexG K (He.ga K x)
  B : CFn K (He.ga K b) "__init__" (He.ma K (He.ga K b) "__init__")
  i : PySem.W.findIn K (.ref (He.ga K x)) "__init__" = some (some (.ref (He.ma K (He.ga K x) "__init__")))
  t : PySem.W.typeIn K (.ref (He.ma K (He.ga K x) "__init__")) = some (.type "function")
  n : ∀ f ∈ ("word" : Str) :: fl, PySem.W.findIn K (.ref (He.ga K x)) f = some none
theorem leafB_ok {K : PySem.W.Frag} {x b : Str} {B nw it : String} {fl : List Str} (FB : ExcBaseFacts B nw it (excT B)) (S : ∀ self : Value, refuseLoop self "__setattr__" (excT B) = pure ()) (hob : (excT B).contains (.type "object") = true) (h : leafB K x b B nw fl = true) : LeafK K x b fl := by
  unfold leafB at h
  rw [frN_eq, frN_eq] at h
  obtain ⟨h1, h⟩ := He.ba h
  obtain ⟨h2, h⟩ := He.ba h
  obtain ⟨h3, h⟩ := He.ba h
  obtain ⟨h4, h5⟩ := He.ba h
  exact ⟨oexB_ok FB S hob h1, cfnB_ok h2, He.eqO_ok h3, of_decide_eq_true h4, fun f hf => He.eqO_ok (List.all_eq_true.mp h5 f hf)⟩
theorem leafV {K : PySem.W.Frag} {x b : Str} {fl : List Str} (h : leafB K x b "ValueError" "ValueError.__new__" fl = true) : LeafK K x b fl := leafB_ok F.excBase_ValueError F.store_ValueError.passes (by decide +kernel) h
theorem leafL {K : PySem.W.Frag} {x b : Str} {fl : List Str} (h : leafB K x b "LookupError" "LookupError.__new__" fl = true) : LeafK K x b fl := leafB_ok F.excBase_LookupError F.store_LookupError.passes (by decide +kernel) h
theorem leafR {K : PySem.W.Frag} {x b : Str} {fl : List Str} (h : leafB K x b "RuntimeError" "RuntimeError.__new__" fl = true) : LeafK K x b fl := leafB_ok F.excBase_RuntimeError F.store_RuntimeError.passes (by decide +kernel) h
/-! ### the Hook: what the top's names reach in n steps, and the statics (which readsIn asks for) -/
def wide (g : Addr → Option Obj) (n : Nat) : List Addr := PySem.cStatics :: He.asD g n
theorem tabs_out {g : Addr → Option Obj} {tf : List He.Defn} {as : List Addr} (h : He.tabsB g tf (He.frT g as) = true) (p : He.Defn) (hp : p ∈ tf) :
    PySem.W.codeHdIn (He.frT g as) (He.cT (He.frT g as) p).1 (He.cT (He.frT g as) p).2 = true ∧ (He.frT g as).lookup (He.cT (He.frT g as) p).2 = none ∧ g (He.cT (He.frT g as) p).2 = some { cls := .none, data := .fields #[] } := by
  have z := List.all_eq_true.mp h p hp
  obtain ⟨z1, z2⟩ := He.ba z
  generalize (He.cT (He.frT g as) p).2 = t at z1 z2 ⊢
  cases e : g t with
  | none =>
    rw [e] at z2
    cases z2
  | some u =>
    rw [e] at z2
    exact ⟨z1, He.frT_none e z2, congrArg some (He.emptyTab_eq z2)⟩
def lookS (n : Nat) (fa : List He.Fa) (fn : List He.DefD) (tf : List He.Defn) (ex : PySem.W.Frag → Bool) (g : Addr → Option Obj) : He.AlX :=
  (He.obsT fa fn [] (He.frT g (wide g n)), ex (He.frT g (wide g n)) && He.tabsB g tf (He.frT g (wide g n)))
theorem lookS_says {n : Nat} {fa : List He.Fa} {fn : List He.DefD} {tf : List He.Defn} {ex : PySem.W.Frag → Bool} {w : World} {h : Heap} (e : lookS n fa fn tf ex h.get? = He.valX fn [] w) : He.SaysX fa fn [] tf ex w h (He.frT h.get? (wide h.get? n)) := by
  have a : _ = He.valT fn [] w := congrArg Prod.fst e
  obtain ⟨b, c⟩ := He.ba (show _ = true from congrArg Prod.snd e)
  exact { t := a, more := b, hd := fun p hp => (tabs_out c p hp).1, out := fun p hp => (tabs_out c p hp).2.1, empty := fun p hp => (tabs_out c p hp).2.2 }
def hookS (n : Nat) (fa : List He.Fa) (fn : List He.DefD) (tf : List He.Defn) (ex : PySem.W.Frag → Bool) : PySem.W.Hook :=
  { α := He.AlX, obs := fun s => lookS n fa fn tf ex s.heap.get?, val := He.valX fn [], says := fun w h => ∃ K : PySem.W.Frag, K.In h ∧ He.SaysX fa fn [] tf ex w h K, of := fun w s e => ⟨_, He.frT_in, lookS_says e⟩,
    keeps := fun w h h' y k => by
      obtain ⟨K, i, c⟩ := y
      exact ⟨K, PySem.W.Frag.In.keeps i k, { t := c.t, more := c.more, hd := c.hd, out := c.out, empty := fun p hp => k _ _ (c.empty p hp) }⟩ }
theorem lookS_eq {n : Nat} {fa : List He.Fa} {fn : List He.DefD} {tf : List He.Defn} {ex : PySem.W.Frag → Bool} (s : PySem.W.SharedT) : lookS n fa fn tf ex (HandSHeadRun.getT s) = (hookS n fa fn tf ex).obs s.abs := by
  rw [show HandSHeadRun.getT s = s.abs.heap.get? from funext (HandSHeadRun.getT_eq s)]
  rfl
/-! ### _law_pull -/
abbrev sPull : Stmt := topS 47
theorem scPull : FnScope ["_law_bag_here", "_law_size", "_law_got", "_law_cell"] ["_law_bag_here", "_law_size"] (defScope sPull) := ⟨rfl, rfl, rfl, by decide +kernel, rfl, by decide +kernel, by decide +kernel⟩
def spPull : Sp := fun vs H Q _ => ∃ (b c : Addr) (size : Int), vs = [.ref b, .int size] ∧ Bag H b c ∧ 0 < size ∧ size.natAbs < 2 ^ 200 ∧
  ∀ H' r, Off b H H' → Bag H' b c → 0 ≤ r → r < size → Q (.int r) H'
section
variable {P : Program} {w : World} {K : PySem.W.Frag} {mg : Str → Option Value} {base : Heap}
theorem ok_pull {f : Addr} {fd : FuncData} {k : Nat} (F : Fun K "_law_pull" "_law_pull" sPull f fd) (ml : mg "len" = none) : FnOk P w K mg base CX0 (k + 1) f fd ["_law_bag_here", "_law_size"] spPull := by
  refine F.ok scPull (fun vs H Q E h => ?_) (fun cdv A outer s H vs Q E hr h => ?_)
  · obtain ⟨b, c, size, rfl, _⟩ := h
    rfl
  · obtain ⟨b, c, size, rfl, ⟨cells, at', rest, seed, hb, hc, ha, hr0, hs0, hs1, hcb⟩, hz, hzb, q⟩ := h
    refine ⟨_, pss_cons (ps_if (pt_cmpR op_ge (pe_ix ix_list (pv 0) pe_int (fun _ _ => rfl)) (pv 1) (nomark _))
        (pss_cons (ps_set (i := 2) scPull.nd rfl (.inl rfl) (pe_op op_mod (pe_ix ix_list (pv 0) pe_int (fun _ _ => rfl)) (pv 1)))
        (pss_cons (ps_asg (pe_op op_fdivW (pe_ix ix_list (pv 0) pe_int (fun _ _ => rfl)) (pv 1)) (pg_sub (pv 0) pe_int set_list))
        (pss_one (ps_ret (pv 2))))) pss_nil)
      (pss_cons (ps_set (i := 3) scPull.nd rfl (.inl rfl) pe_int)
      (pss_cons (ps_if (pt_cmpR op_lt (pe_ix ix_list (pv 0) pe_int (fun _ _ => rfl)) (pe_callB call_len_seq (by rfl) ml PySem.boot_len (pa_cons (pe_ix ix_list (pv 0) pe_int (fun _ _ => rfl)) pa_nil)) (nomark _))
        (pss_one (ps_set (i := 3) scPull.nd rfl (.inl rfl) (pe_ix ix_list (pe_ix ix_list (pv 0) pe_int (fun _ _ => rfl)) (pe_ix ix_list (pv 0) pe_int (fun _ _ => rfl)) (fun _ _ => rfl)))) pss_nil)
      (pss_cons (ps_asg (pe_op op_add (pe_ix ix_list (pv 0) pe_int (fun _ _ => rfl)) pe_int) (pg_sub (pv 0) pe_int set_list))
      (pss_cons (ps_if (pt_cmpR op_ge (pv 3) (pe_op op_pow pe_int pe_int) (nomark _))
        (pss_cons (ps_asg (pe_op op_fdivW (pv 3) (pv 1)) (pg_sub (pv 0) pe_int set_list))
        (pss_one (ps_ret (pe_op op_mod (pv 3) (pv 1))))) pss_nil)
      (pss_cons (ps_asg (pe_op op_mod (pe_op op_add (pe_op op_add (pe_op op_add (pe_op op_pow (pe_ix ix_list (pv 0) pe_int (fun _ _ => rfl)) pe_int) (pe_op op_mul pe_int (pe_ix ix_list (pv 0) pe_int (fun _ _ => rfl)))) (pe_op op_mod (pv 3) pe_int)) pe_int) pe_int) (pg_sub (pv 0) pe_int set_list))
      (pss_one (ps_ret (pe_op op_mod (pe_op op_add (pe_op op_fdivW (pe_ix ix_list (pv 0) pe_int (fun _ _ => rfl)) pe_int) (pv 3)) (pv 1))))))))), ?_⟩
    have hd : CDivW rest size := wide_div (b := 200) hz hzb (by decide) (by decide)
    -- if bag[2] >= size
    refine ⟨.ref b, rfl, b, _, 2, .int rest, rfl, rfl, .inl (.inl hb), atI_nat (j := 2) rfl, .int size, rfl, _, _, rfl, rfl, _, rfl, ite2 (fun e => ?_) (fun e => ?_)⟩
    · refine ⟨.ref b, rfl, b, _, 2, .int rest, rfl, rfl, .inl (.inl hb), atI_nat (j := 2) rfl, .int size, rfl, _, _, rfl, rfl, hz, ?_⟩
      refine ⟨.ref b, rfl, b, _, 2, .int rest, rfl, rfl, .inl (.inl hb), atI_nat (j := 2) rfl, .int size, rfl, _, _, rfl, rfl, hd, ?_⟩
      refine ⟨.ref b, rfl, b, _, 2, 2, rfl, rfl, hb, rfl, ?_⟩
      refine ⟨.int (rest % size), rfl, q _ _ Off.upd ⟨cells, at', rest / size, seed, upd_same, ?_, ha, Int.ediv_nonneg hr0 (by omega), hs0, hs1, hcb⟩ (Int.emod_nonneg _ (by omega)) (Int.emod_lt_of_pos _ hz)⟩
      rw [upd_ne hcb]
      exact hc
    · -- cell = 0; if bag[1] < len(bag[0])
      obtain ⟨j, rfl⟩ := Int.eq_ofNat_of_zero_le ha
      refine ⟨.ref b, rfl, b, _, 1, .int (j : Nat), rfl, rfl, .inl (.inl hb), atI_nat (j := 1) rfl, .ref b, rfl, b, _, 0, .ref c, rfl, rfl, .inl (.inl hb), atI_nat (j := 0) rfl, c, _, rfl, .inl (.inl (.inl hc)), _, _, rfl, rfl, _, rfl, ite2 (fun e2 => ?_) (fun e2 => ?_)⟩
      · have hl := of_decide_eq_true e2
        rw [List.length_map] at hl
        have hj : j < cells.length := by omega
        refine ⟨.ref b, rfl, b, _, 0, .ref c, rfl, rfl, .inl (.inl hb), atI_nat (j := 0) rfl, .ref b, rfl, b, _, 1, .int (j : Nat), rfl, rfl, .inl (.inl hb), atI_nat (j := 1) rfl, c, _, _, .int cells[j], rfl, rfl, .inl (.inl hc), atI_nat (j := j) (by rw [List.getElem?_map, List.getElem?_eq_getElem hj]; rfl), ?_⟩
        obtain ⟨cell, hcell⟩ : ∃ cell : Int, cell = cells[j] := ⟨_, rfl⟩
        rw [← hcell]
        -- bag[1] = bag[1] + 1
        refine ⟨.ref b, rfl, b, _, 1, .int (j : Nat), rfl, rfl, .inl (.inl hb), atI_nat (j := 1) rfl, _, _, rfl, rfl, ?_⟩
        refine ⟨.ref b, rfl, b, _, 1, 1, rfl, rfl, hb, rfl, ?_⟩
        have hb1 : (upd H b (.lst [.ref c, .int ((j : Int) + 1), .int rest, .int seed])) b = some (.lst [.ref c, .int ((j : Int) + 1), .int rest, .int seed]) := upd_same
        have hc1 : (upd H b (.lst [.ref c, .int ((j : Int) + 1), .int rest, .int seed])) c = some (.lst (cells.map V.int)) := by
          rw [upd_ne hcb]
          exact hc
        -- if cell >= 10 ** 18
        refine ⟨.int cell, rfl, 10, 18, rfl, rfl, ⟨by decide, by decide, by decide⟩, _, _, rfl, rfl, _, rfl, ite2 (fun e3 => ?_) (fun e3 => ?_)⟩
        · have h18 : (10 : Int) ^ (18 : Int).toNat ≤ cell := of_decide_eq_true e3
          have h0 : (0 : Int) ≤ 10 ^ (18 : Int).toNat := by decide
          refine ⟨.int cell, rfl, .int size, rfl, _, _, rfl, rfl, wide_div (b := 200) hz hzb (by decide) (by decide), ?_⟩
          refine ⟨.ref b, rfl, b, _, 2, 2, rfl, rfl, hb1, rfl, ?_⟩
          refine ⟨.int cell, rfl, .int size, rfl, _, _, rfl, rfl, hz, ?_⟩
          refine q _ _ (Off.upd.trans Off.upd) ⟨cells, (j : Int) + 1, cell / size, seed, upd_same, ?_, by omega, Int.ediv_nonneg (by omega) (by omega), hs0, hs1, hcb⟩ (Int.emod_nonneg _ (by omega)) (Int.emod_lt_of_pos _ hz)
          rw [upd_ne hcb]
          exact hc1
        · -- bag[3] = (bag[3] ** 5 + 69069 * bag[1] + cell % 1000003 + 7) % 2147483629
          have hp : CPow seed 5 := ⟨by decide, by decide, by omega⟩
          refine ⟨.ref b, rfl, b, _, 3, .int seed, rfl, rfl, .inl (.inl hb1), atI_nat (j := 3) rfl, _, _, rfl, rfl, hp, ?_⟩
          refine ⟨.ref b, rfl, b, _, 1, .int ((j : Int) + 1), rfl, rfl, .inl (.inl hb1), atI_nat (j := 1) rfl, _, _, rfl, rfl, .inl ⟨by decide, by decide⟩, _, _, rfl, rfl, ?_⟩
          refine ⟨.int cell, rfl, _, _, rfl, rfl, (show (0 : Int) < 1000003 by decide), _, _, rfl, rfl, _, _, rfl, rfl, _, _, rfl, rfl, (show (0 : Int) < 2147483629 by decide), ?_⟩
          refine ⟨.ref b, rfl, b, _, 3, 3, rfl, rfl, hb1, rfl, ?_⟩
          refine ⟨.ref b, rfl, b, _, 3, _, rfl, rfl, .inl (.inl upd_same), atI_nat (j := 3) rfl, _, _, rfl, rfl, wide_div (b := 200) (by decide) (by decide) (by decide) (by decide), .int cell, rfl, _, _, rfl, rfl, .int size, rfl, _, _, rfl, rfl, hz, ?_⟩
          refine q _ _ (Off.upd.trans Off.upd) ⟨cells, (j : Int) + 1, rest, _, upd_same, ?_, by omega, hr0, Int.emod_nonneg _ (by decide), Int.lt_trans (Int.emod_lt_of_pos _ (by decide)) (by decide), hcb⟩ (Int.emod_nonneg _ (by omega)) (Int.emod_lt_of_pos _ hz)
          rw [upd_ne hcb]
          exact hc1
      · obtain ⟨cell, hcell⟩ : ∃ cell : Int, cell = 0 := ⟨_, rfl⟩
        rw [show (V.int 0) = V.int cell by rw [hcell]]
        -- bag[1] = bag[1] + 1
        refine ⟨.ref b, rfl, b, _, 1, .int (j : Nat), rfl, rfl, .inl (.inl hb), atI_nat (j := 1) rfl, _, _, rfl, rfl, ?_⟩
        refine ⟨.ref b, rfl, b, _, 1, 1, rfl, rfl, hb, rfl, ?_⟩
        have hb1 : (upd H b (.lst [.ref c, .int ((j : Int) + 1), .int rest, .int seed])) b = some (.lst [.ref c, .int ((j : Int) + 1), .int rest, .int seed]) := upd_same
        have hc1 : (upd H b (.lst [.ref c, .int ((j : Int) + 1), .int rest, .int seed])) c = some (.lst (cells.map V.int)) := by
          rw [upd_ne hcb]
          exact hc
        -- if cell >= 10 ** 18
        refine ⟨.int cell, rfl, 10, 18, rfl, rfl, ⟨by decide, by decide, by decide⟩, _, _, rfl, rfl, _, rfl, ite2 (fun e3 => ?_) (fun e3 => ?_)⟩
        · have h18 : (10 : Int) ^ (18 : Int).toNat ≤ cell := of_decide_eq_true e3
          have h0 : (0 : Int) ≤ 10 ^ (18 : Int).toNat := by decide
          refine ⟨.int cell, rfl, .int size, rfl, _, _, rfl, rfl, wide_div (b := 200) hz hzb (by decide) (by decide), ?_⟩
          refine ⟨.ref b, rfl, b, _, 2, 2, rfl, rfl, hb1, rfl, ?_⟩
          refine ⟨.int cell, rfl, .int size, rfl, _, _, rfl, rfl, hz, ?_⟩
          refine q _ _ (Off.upd.trans Off.upd) ⟨cells, (j : Int) + 1, cell / size, seed, upd_same, ?_, by omega, Int.ediv_nonneg (by omega) (by omega), hs0, hs1, hcb⟩ (Int.emod_nonneg _ (by omega)) (Int.emod_lt_of_pos _ hz)
          rw [upd_ne hcb]
          exact hc1
        · -- bag[3] = (bag[3] ** 5 + 69069 * bag[1] + cell % 1000003 + 7) % 2147483629
          have hp : CPow seed 5 := ⟨by decide, by decide, by omega⟩
          refine ⟨.ref b, rfl, b, _, 3, .int seed, rfl, rfl, .inl (.inl hb1), atI_nat (j := 3) rfl, _, _, rfl, rfl, hp, ?_⟩
          refine ⟨.ref b, rfl, b, _, 1, .int ((j : Int) + 1), rfl, rfl, .inl (.inl hb1), atI_nat (j := 1) rfl, _, _, rfl, rfl, .inl ⟨by decide, by decide⟩, _, _, rfl, rfl, ?_⟩
          refine ⟨.int cell, rfl, _, _, rfl, rfl, (show (0 : Int) < 1000003 by decide), _, _, rfl, rfl, _, _, rfl, rfl, _, _, rfl, rfl, (show (0 : Int) < 2147483629 by decide), ?_⟩
          refine ⟨.ref b, rfl, b, _, 3, 3, rfl, rfl, hb1, rfl, ?_⟩
          refine ⟨.ref b, rfl, b, _, 3, _, rfl, rfl, .inl (.inl upd_same), atI_nat (j := 3) rfl, _, _, rfl, rfl, wide_div (b := 200) (by decide) (by decide) (by decide) (by decide), .int cell, rfl, _, _, rfl, rfl, .int size, rfl, _, _, rfl, rfl, hz, ?_⟩
          refine q _ _ (Off.upd.trans Off.upd) ⟨cells, (j : Int) + 1, rest, _, upd_same, ?_, by omega, hr0, Int.emod_nonneg _ (by decide), Int.lt_trans (Int.emod_lt_of_pos _ (by decide)) (by decide), hcb⟩ (Int.emod_nonneg _ (by omega)) (Int.emod_lt_of_pos _ hz)
          rw [upd_ne hcb]
          exact hc1
end
/-! ### _law_bag -/
abbrev sBag : Stmt := topS 46
theorem scBag : FnScope ["_law_script"] ["_law_script"] (defScope sBag) := ⟨rfl, rfl, rfl, by decide +kernel, rfl, by decide +kernel, by decide +kernel⟩
def spBag (K : PySem.W.Frag) : Sp := fun vs H Q _ => ∃ (a : Addr) (ns : List Int), vs = [.ref a] ∧ SqL K H a (ns.map V.int) ∧ ns.length ≤ 63 ∧
  ∀ H' b c, Same H H' → Bag H' b c → H b = none → Q (.ref b) H'
theorem cut_map (ns : List Int) (lo hi : Option Int) : ∃ ms : List Int, cutV (ns.map V.int) lo hi = ms.map V.int ∧ ms.length ≤ ns.length := by
  unfold cutV
  refine ⟨(ns.drop (HT.sIx (ns.map V.int).length 0 lo)).take (HT.sIx (ns.map V.int).length (ns.map V.int).length hi - HT.sIx (ns.map V.int).length 0 lo), ?_, ?_⟩
  · rw [List.map_take, List.map_drop]
  · rw [List.length_take, List.length_drop]
    omega
section
variable {P : Program} {w : World} {K : PySem.W.Frag} {mg : Str → Option Value} {base : Heap}
theorem ok_bag {f : Addr} {fd : FuncData} {k : Nat} (F : Fun K "_law_bag" "_law_bag" sBag f fd) (ml : mg "len" = none) (mli : mg "list" = none) : FnOk P w K mg base CX0 (k + 1) f fd ["_law_script"] (spBag K) := by
  refine F.ok scBag (fun vs H Q E h => ?_) (fun cdv A outer s H vs Q E hr h => ?_)
  · obtain ⟨a, ns, rfl, _⟩ := h
    rfl
  · obtain ⟨a, ns, rfl, hS, hlen, q⟩ := h
    refine ⟨_, pss_one (ps_ret (pe_lst (pa_cons (pe_callTy call_list_of (by rfl) mli (by decide +kernel) (pa_cons (pe_slice sl_list (pv 0) po_none (po_some pe_int)) pa_nil))
      (pa_cons pe_int (pa_cons pe_int (pa_cons (pe_op op_add pe_int (pe_callB call_len_seq (by rfl) ml PySem.boot_len (pa_cons (pe_slice sl_list (pv 0) po_none (po_some pe_int)) pa_nil))) pa_nil)))))), ?_⟩
    obtain ⟨ms, em, lm⟩ := cut_map ns none (some 63)
    refine ⟨.ref a, rfl, 63, rfl, a, _, rfl, hS, fun p np => ?_⟩
    rw [em]
    refine ⟨p, _, rfl, .inl (.inl (.inl upd_same)), fun l nl => ?_⟩
    have s1 : Same H (upd H p (.lst (ms.map V.int))) := same_upd np
    have s2 : Same (upd H p (.lst (ms.map V.int))) (upd (upd H p (.lst (ms.map V.int))) l (.lst (ms.map V.int))) := same_upd nl
    refine ⟨.ref a, rfl, 63, rfl, a, _, rfl, (s1.trans s2).seq hS, fun p2 np2 => ?_⟩
    rw [em]
    have s3 := same_upd (o := .lst (ms.map V.int)) np2
    refine ⟨p2, _, rfl, .inl (.inl (.inl upd_same)), _, _, rfl, rfl, (show (4 : Nat) ≤ sizeLine by decide), fun b nb => ?_⟩
    have s4 := same_upd (o := .lst [.ref l, .int 0, .int 0, .int (9463 + ((ms.map V.int).length : Nat))]) nb
    have hl : (upd (upd (upd (upd H p (.lst (ms.map V.int))) l (.lst (ms.map V.int))) p2 (.lst (ms.map V.int))) b (.lst [.ref l, .int 0, .int 0, .int (9463 + ((ms.map V.int).length : Nat))])) l = some (.lst (ms.map V.int)) := s4 _ _ (s3 _ _ upd_same)
    refine q _ b l (((s1.trans s2).trans s3).trans s4) ⟨ms, 0, 0, _, upd_same, hl, by decide, by decide, ?_, ?_, ?_⟩ (((s1.trans s2).trans s3).free nb)
    · omega
    · rw [List.length_map]
      omega
    · exact ne_of_none (s3 _ _ (upd_same (H := upd H p (.lst (ms.map V.int))) (a := l) (o := .lst (ms.map V.int)))) nb
end
/-! ### _law_of -/
abbrev sOf : Stmt := topS 53
theorem scOf : FnScope ["_law_bag_here", "_law_things"] ["_law_bag_here", "_law_things"] (defScope sOf) := ⟨rfl, rfl, rfl, by decide +kernel, rfl, by decide +kernel, by decide +kernel⟩
def spOf : Sp := fun vs H Q _ => ∃ (b c t : Addr) (xs : List V), vs = [.ref b, .ref t] ∧ Bag H b c ∧ H t = some (.lst xs) ∧ t ≠ b ∧ 0 < xs.length ∧ xs.length ≤ 1000 ∧
  ∀ H' v, Off b H H' → Bag H' b c → v ∈ xs → Q v H'
section
variable {P : Program} {w : World} {K : PySem.W.Frag} {mg : Str → Option Value} {base : Heap}
theorem ok_of {f fP : Addr} {fd fdP : FuncData} {k : Nat} (F : Fun K "_law_of" "_law_of" sOf f fd) (ml : mg "len" = none)
    (FP : Fun K "_law_pull" "_law_pull" sPull fP fdP) (bP : Binds K fdP ["_law_bag_here", "_law_size"] []) (gP : mg "_law_pull" = some (.ref fP)) : FnOk P w K mg base CX0 (k + 2) f fd ["_law_bag_here", "_law_things"] spOf := by
  have GP : FnOk P w K mg base CX0 (k + 1) fP fdP ["_law_bag_here", "_law_size"] spPull := ok_pull FP ml
  refine F.ok scOf (fun vs H Q E h => ?_) (fun cdv A outer s H vs Q E hr h => ?_)
  · obtain ⟨b, c, t, xs, rfl, _⟩ := h
    rfl
  · obtain ⟨b, c, t, xs, rfl, hB, hT, htb, h0, h1, q⟩ := h
    refine ⟨_, pss_one (ps_ret (pe_ix ix_list (pv 1) (pe_call GP hr (by rfl) gP FP.kp bP .nil pass0 (pa_cons (pv 0) (pa_cons (pe_callB call_len_seq (by rfl) ml PySem.boot_len (pa_cons (pv 1) pa_nil)) pa_nil))) (fun _ _ => rfl))), ?_⟩
    refine ⟨.ref t, rfl, .ref b, rfl, .ref t, rfl, t, xs, rfl, .inl (.inl (.inl hT)), b, c, _, rfl, hB, by omega, ?_, fun H' r off bag hr0 hr1 => ?_⟩
    · rw [Int.natAbs_natCast]
      exact Nat.lt_of_le_of_lt h1 (by decide)
    · obtain ⟨n, rfl⟩ := Int.eq_ofNat_of_zero_le hr0
      have hn : n < xs.length := by omega
      refine ⟨t, xs, _, xs[n], rfl, rfl, .inl (.inl (off _ _ htb hT)), atI_nat (List.getElem?_eq_getElem hn), ?_⟩
      exact q _ _ off bag (List.getElem_mem hn)
end
/-! ### _law_like -/
theorem Same.tup {K : PySem.W.Frag} {H H' : Hp} {a : Addr} {xs : List V} (e : Same H H') (h : SqT K H a xs) : SqT K H' a xs := by
  rcases h with (h | ⟨o, h⟩) | h
  · exact .inl (.inl (e _ _ h))
  · exact .inl (.inr ⟨o, e _ _ h⟩)
  · exact .inr h
theorem tyL {K : PySem.W.Frag} {H : Hp} {a : Addr} {xs : List V} (h : SqL K H a xs) : TyX K H (.ref a) (.type "list") := by
  rcases h with (h | ⟨o, h⟩) | ⟨o, its, n, h1, h2, h3⟩
  · exact .base (.lst h)
  · exact .base (.frz h)
  · exact .kList h1 h2
theorem tyT {K : PySem.W.Frag} {H : Hp} {a : Addr} {xs : List V} (h : SqT K H a xs) : TyX K H (.ref a) (.type "tuple") := by
  rcases h with (h | ⟨o, h⟩) | ⟨o, its, n, h1, h2, h3⟩
  · exact .base (.tup h)
  · exact .fTuple h
  · exact .kTuple h1 h2
theorem ix_any {K : PySem.W.Frag} {H : Hp} {a : Addr} {xs : List V} {i : Nat} {v : V} {Q : VK} (h : SqL K H a xs ∨ SqT K H a xs) (e : xs[i]? = some v) (q : Q v H) : rIx K (.ref a) (.int (i : Nat)) H Q := by
  rcases h with h | h
  · exact .inl ⟨a, xs, _, v, rfl, rfl, h, atI_nat e, q⟩
  · exact .inr (.inl ⟨a, xs, _, v, rfl, rfl, h, atI_nat e, q⟩)
/-- what was there before a new object was made stays, though that object changes -/
theorem Same.offUpd {H H' : Hp} {D : Addr} {o : HO} (e : Same H H') (n : H D = none) : Same H (upd H' D o) := fun b x h => by
  rw [upd_ne (ne_of_none h n)]
  exact e b x h
theorem yesT {σ : L2.St} {H : Hp} {A B : Hp → Prop} (h : A H) : tYes σ H (fun b H3 => if b = true then A H3 else B H3) := h
/-- the same data, of a depth below n -/
def Lk (K : PySem.W.Frag) (H : Hp) : Nat → V → V → Prop
  | 0, _, _ => False
  | n + 1, v, u => (v = u ∧ (v = .non ∨ (∃ b, v = .bl b) ∨ (∃ i, v = .int i) ∨ ∃ z, v = .str z)) ∨
    ∃ a b xs ys, v = .ref a ∧ u = .ref b ∧ ((SqL K H a xs ∧ SqL K H b ys) ∨ (SqT K H a xs ∧ SqT K H b ys)) ∧ xs.length = ys.length ∧ xs.length ≤ 1000 ∧ ∀ (i : Nat) (x y : V), xs[i]? = some x → ys[i]? = some y → Lk K H n x y
theorem Lk.same {K : PySem.W.Frag} {H H' : Hp} (e : Same H H') : ∀ (n : Nat) (v u : V), Lk K H n v u → Lk K H' n v u
  | 0, _, _, h => h
  | n + 1, v, u, h => by
    rcases h with h | ⟨a, b, xs, ys, e1, e2, h3, h4, h5, h6⟩
    · exact .inl h
    · refine .inr ⟨a, b, xs, ys, e1, e2, ?_, h4, h5, fun i x y p q => Lk.same e n x y (h6 i x y p q)⟩
      rcases h3 with ⟨p, q⟩ | ⟨p, q⟩
      · exact .inl ⟨e.seq p, e.seq q⟩
      · exact .inr ⟨Same.tup e p, Same.tup e q⟩
abbrev sLike : Stmt := topS 52
theorem scLike : FnScope ["_law_one", "_law_due", "_law_at"] ["_law_one", "_law_due"] (defScope sLike) := ⟨rfl, rfl, rfl, by decide +kernel, rfl, by decide +kernel, by decide +kernel⟩
def spLike (K : PySem.W.Frag) (n : Nat) : Sp := fun vs H Q _ => ∃ v u, vs = [v, u] ∧ Lk K H n v u ∧ ∀ H', Same H H' → Q (.bl true) H'
structure LkG (mg : Str → Option Value) : Prop where
  isi : mg "isinstance" = none
  tup : mg "tuple" = none
  lst : mg "list" = none
  len : mg "len" = none
  all : mg "all" = none
  rng : mg "range" = none
  bool : mg "bool" = none
  int : mg "int" = none
  str : mg "str" = none
section
variable {P : Program} {w : World} {K : PySem.W.Frag} {mg : Str → Option Value} {base : Heap}
theorem like_step {f : Addr} {fd : FuncData} {n : Nat} (F : Fun K "_law_like" "_law_like" sLike f fd) (b : Binds K fd ["_law_one", "_law_due"] []) (g : mg "_law_like" = some (.ref f)) (M : LkG mg)
    (G : FnOk P w K mg base CX0 n f fd ["_law_one", "_law_due"] (spLike K n)) : FnOk P w K mg base CX0 (n + 1) f fd ["_law_one", "_law_due"] (spLike K (n + 1)) := by
  refine F.ok scLike (fun vs H Q E h => ?_) (fun cdv A outer s H vs Q E hr h => ?_)
  · obtain ⟨v, u, rfl, _⟩ := h
    rfl
  · obtain ⟨v, u, rfl, hL, q⟩ := h
    refine ⟨_, pss_cons (ps_if (pt_val (pe_callB call_isiT (by rfl) M.isi (by decide +kernel) (pa_cons (pv 1) (pa_cons (pe_tup (pa_cons (pe_bltn (v := .ty "tuple") (by rfl) M.tup (by decide +kernel) rfl) (pa_cons (pe_bltn (v := .ty "list") (by rfl) M.lst (by decide +kernel) rfl) pa_nil))) pa_nil))))
        (pss_cons (ps_if (pt_cmpR op_ne (pe_callB call_isi (by rfl) M.isi (by decide +kernel) (pa_cons (pv 0) (pa_cons (pe_bltn (v := .ty "tuple") (by rfl) M.tup (by decide +kernel) rfl) pa_nil))) (pe_callB call_isi (by rfl) M.isi (by decide +kernel) (pa_cons (pv 1) (pa_cons (pe_bltn (v := .ty "tuple") (by rfl) M.tup (by decide +kernel) rfl) pa_nil))) (nomark _))
          (pss_one (ps_ret pe_bl)) pss_nil)
        (pss_cons (ps_if (PW.pt (pw_or (pt_not (pt_val (pe_callB call_isiT (by rfl) M.isi (by decide +kernel) (pa_cons (pv 0) (pa_cons (pe_tup (pa_cons (pe_bltn (v := .ty "tuple") (by rfl) M.tup (by decide +kernel) rfl) (pa_cons (pe_bltn (v := .ty "list") (by rfl) M.lst (by decide +kernel) rfl) pa_nil))) pa_nil)))))
            (pw_or1 (pt_cmpR op_ne (pe_callB call_len_seq (by rfl) M.len PySem.boot_len (pa_cons (pv 0) pa_nil)) (pe_callB call_len_seq (by rfl) M.len PySem.boot_len (pa_cons (pv 1) pa_nil)) (nomark _)))))
          (pss_one (ps_ret pe_bl)) pss_nil)
        (pss_one (ps_ret (pe_callB (cr_all rfl) (by rfl) M.all (by decide +kernel) (pa_cons (pe_lc (own := [("_law_at", 2)]) (g := gName 2) (tt := tYes) rfl scLike.nd (pi_range1 (by rfl) M.rng (pa_cons (pe_callB call_len_seq (by rfl) M.len PySem.boot_len (pa_cons (pv 1) pa_nil)) pa_nil))
            (blkOk_by (own := [("_law_at", 2)]) (N := ["_law_one", "_law_due", "_law_at"]) (sc := defScope sLike) (by decide +kernel)) (fun _ _ _ _ _ => pg_name (i := 2) scLike.nd rfl (Or.inl rfl)) (fun _ _ _ _ _ => pts_nil)
            (fun _ _ _ _ _ => pe_call G hr (by rfl) g F.kp b .nil pass0 (pa_cons (pe_ix (r := rIx K) ix_seq (pv 0) (pv 2) (fun _ _ => rfl)) (pa_cons (pe_ix (r := rIx K) ix_seq (pv 1) (pv 2) (fun _ _ => rfl)) pa_nil)))) pa_nil)))))) pss_nil)
      (pss_cons (ps_if (pt_val (pe_callB call_isi (by rfl) M.isi (by decide +kernel) (pa_cons (pv 1) (pa_cons (pe_bltn (v := .ty "bool") (by rfl) M.bool (by decide +kernel) rfl) pa_nil))))
        (pss_one (ps_ret (pe_and (pe_callB call_isi (by rfl) M.isi (by decide +kernel) (pa_cons (pv 0) (pa_cons (pe_bltn (v := .ty "bool") (by rfl) M.bool (by decide +kernel) rfl) pa_nil))) (pe_one (pe_cmpR op_eq (pv 0) (pv 1) (nomark _)))))) pss_nil)
      (pss_cons (ps_if (pt_val (pe_callB call_isi (by rfl) M.isi (by decide +kernel) (pa_cons (pv 1) (pa_cons (pe_bltn (v := .ty "int") (by rfl) M.int (by decide +kernel) rfl) pa_nil))))
        (pss_one (ps_ret (pe_and (pe_callB call_isi (by rfl) M.isi (by decide +kernel) (pa_cons (pv 0) (pa_cons (pe_bltn (v := .ty "int") (by rfl) M.int (by decide +kernel) rfl) pa_nil))) (pe_and (pe_not (pe_callB call_isi (by rfl) M.isi (by decide +kernel) (pa_cons (pv 0) (pa_cons (pe_bltn (v := .ty "bool") (by rfl) M.bool (by decide +kernel) rfl) pa_nil)))) (pe_one (pe_cmpR op_eq (pv 0) (pv 1) (nomark _))))))) pss_nil)
      (pss_cons (ps_if (pt_val (pe_callB call_isi (by rfl) M.isi (by decide +kernel) (pa_cons (pv 1) (pa_cons (pe_bltn (v := .ty "str") (by rfl) M.str (by decide +kernel) rfl) pa_nil))))
        (pss_one (ps_ret (pe_and (pe_callB call_isi (by rfl) M.isi (by decide +kernel) (pa_cons (pv 0) (pa_cons (pe_bltn (v := .ty "str") (by rfl) M.str (by decide +kernel) rfl) pa_nil))) (pe_one (pe_cmpR op_eq (pv 0) (pv 1) (nomark _)))))) pss_nil)
      (pss_one (ps_ret (pe_and (pe_cmp (pc_isN (pv 1)) rfl) (pe_one (pe_cmp (pc_isN (pv 0)) rfl)))))))), ?_⟩
    rcases hL with ⟨rfl, hs⟩ | ⟨a1, a2, xs, ys, rfl, rfl, h3, h4, h5, h6⟩
    · rcases hs with rfl | ⟨bb, rfl⟩ | ⟨i, rfl⟩ | ⟨z, rfl⟩
      · refine ⟨.non, rfl, (show (2 : Nat) ≤ sizeLine by decide), fun t nt => ⟨.non, t, _, .type "NoneType", [.type "tuple", .type "list"], false, rfl, upd_same, .cons (.ty _) (.cons (.ty _) .nil), .base .non, kitAny_cons (b := false) (kit_ty (by decide +kernel)) (fun _ => kitAny_cons (b := false) (kit_ty (by decide +kernel)) (fun _ => kitAny_nil) (fun e => nomatch e)) (fun e => nomatch e), _, rfl, iteF ?_⟩⟩
        refine ⟨.non, rfl, .non, _, _, _, false, rfl, .ty _, .base .non, kit_ty (by decide +kernel), _, rfl, iteF ?_⟩
        refine ⟨.non, rfl, .non, _, _, _, false, rfl, .ty _, .base .non, kit_ty (by decide +kernel), _, rfl, iteF ?_⟩
        refine ⟨.non, rfl, .non, _, _, _, false, rfl, .ty _, .base .non, kit_ty (by decide +kernel), _, rfl, iteF ?_⟩
        refine ⟨.non, rfl, _, rfl, iteT ⟨.non, rfl, ?_⟩⟩
        exact q _ (same_upd nt)
      · refine ⟨.bl bb, rfl, (show (2 : Nat) ≤ sizeLine by decide), fun t nt => ⟨.bl bb, t, _, .type "bool", [.type "tuple", .type "list"], false, rfl, upd_same, .cons (.ty _) (.cons (.ty _) .nil), .base (.bl bb), kitAny_cons (b := false) (kit_ty (by decide +kernel)) (fun _ => kitAny_cons (b := false) (kit_ty (by decide +kernel)) (fun _ => kitAny_nil) (fun e => nomatch e)) (fun e => nomatch e), _, rfl, iteF ?_⟩⟩
        refine ⟨.bl bb, rfl, .bl bb, _, _, _, true, rfl, .ty _, .base (.bl bb), kit_ty (by decide +kernel), _, rfl, iteT ?_⟩
        refine ⟨.bl bb, rfl, .bl bb, _, _, _, true, rfl, .ty _, .base (.bl bb), kit_ty (by decide +kernel), _, rfl, iteT ⟨.bl bb, rfl, .bl bb, rfl, rfl, ?_⟩⟩
        rw [decide_eq_true rfl]
        exact q _ (same_upd nt)
      · refine ⟨.int i, rfl, (show (2 : Nat) ≤ sizeLine by decide), fun t nt => ⟨.int i, t, _, .type "int", [.type "tuple", .type "list"], false, rfl, upd_same, .cons (.ty _) (.cons (.ty _) .nil), .base (.int i), kitAny_cons (b := false) (kit_ty (by decide +kernel)) (fun _ => kitAny_cons (b := false) (kit_ty (by decide +kernel)) (fun _ => kitAny_nil) (fun e => nomatch e)) (fun e => nomatch e), _, rfl, iteF ?_⟩⟩
        refine ⟨.int i, rfl, .int i, _, _, _, false, rfl, .ty _, .base (.int i), kit_ty (by decide +kernel), _, rfl, iteF ?_⟩
        refine ⟨.int i, rfl, .int i, _, _, _, true, rfl, .ty _, .base (.int i), kit_ty (by decide +kernel), _, rfl, iteT ?_⟩
        refine ⟨.int i, rfl, .int i, _, _, _, true, rfl, .ty _, .base (.int i), kit_ty (by decide +kernel), _, rfl, iteT ⟨.int i, rfl, .int i, _, _, _, false, rfl, .ty _, .base (.int i), kit_ty (by decide +kernel), _, rfl, _, rfl, iteT ⟨.int i, rfl, .int i, rfl, rfl, ?_⟩⟩⟩
        rw [decide_eq_true rfl]
        exact q _ (same_upd nt)
      · refine ⟨.str z, rfl, (show (2 : Nat) ≤ sizeLine by decide), fun t nt => ⟨.str z, t, _, .type "str", [.type "tuple", .type "list"], false, rfl, upd_same, .cons (.ty _) (.cons (.ty _) .nil), .base (.str z), kitAny_cons (b := false) (kit_ty (by decide +kernel)) (fun _ => kitAny_cons (b := false) (kit_ty (by decide +kernel)) (fun _ => kitAny_nil) (fun e => nomatch e)) (fun e => nomatch e), _, rfl, iteF ?_⟩⟩
        refine ⟨.str z, rfl, .str z, _, _, _, false, rfl, .ty _, .base (.str z), kit_ty (by decide +kernel), _, rfl, iteF ?_⟩
        refine ⟨.str z, rfl, .str z, _, _, _, false, rfl, .ty _, .base (.str z), kit_ty (by decide +kernel), _, rfl, iteF ?_⟩
        refine ⟨.str z, rfl, .str z, _, _, _, true, rfl, .ty _, .base (.str z), kit_ty (by decide +kernel), _, rfl, iteT ?_⟩
        refine ⟨.str z, rfl, .str z, _, _, _, true, rfl, .ty _, .base (.str z), kit_ty (by decide +kernel), _, rfl, iteT ⟨.str z, rfl, .str z, rfl, rfl, ?_⟩⟩
        rw [decide_eq_true rfl]
        exact q _ (same_upd nt)
    · obtain ⟨ty, bt, ht1, ht2, k2, k3, hq1, hq2⟩ : ∃ (ty : String) (bt : Bool), (∀ H', Same H H' → TyX K H' (.ref a1) (.type ty)) ∧ (∀ H', Same H H' → TyX K H' (.ref a2) (.type ty)) ∧ PySem.W.kitAny K (.type ty) [.type "tuple", .type "list"] = some true ∧ PySem.W.kitOne K (.type ty) (.type "tuple") = some bt ∧ (∀ H', Same H H' → SqL K H' a1 xs ∨ SqT K H' a1 xs) ∧ (∀ H', Same H H' → SqL K H' a2 ys ∨ SqT K H' a2 ys) := by
        rcases h3 with ⟨p1, p2⟩ | ⟨p1, p2⟩
        · exact ⟨"list", false, fun _ e => tyL (e.seq p1), fun _ e => tyL (e.seq p2), kitAny_cons (b := false) (kit_ty (by decide +kernel)) (fun _ => kitAny_cons (b := true) (kit_ty (by decide +kernel)) (fun e => nomatch e) (fun _ => rfl)) (fun e => nomatch e), kit_ty (by decide +kernel), fun _ e => .inl (e.seq p1), fun _ e => .inl (e.seq p2)⟩
        · exact ⟨"tuple", true, fun _ e => tyT (Same.tup e p1), fun _ e => tyT (Same.tup e p2), kitAny_cons (b := true) (kit_ty (by decide +kernel)) (fun e => nomatch e) (fun _ => rfl), kit_ty (by decide +kernel), fun _ e => .inr (Same.tup e p1), fun _ e => .inr (Same.tup e p2)⟩
      refine ⟨.ref a2, rfl, (show (2 : Nat) ≤ sizeLine by decide), fun t nt => ⟨.ref a2, t, _, .type ty, [.type "tuple", .type "list"], true, rfl, upd_same, .cons (.ty _) (.cons (.ty _) .nil), ht2 _ (same_upd nt), k2, _, rfl, iteT ?_⟩⟩
      have s1 : Same H (upd H t (.tup [.ty "tuple", .ty "list"])) := same_upd nt
      refine ⟨.ref a1, rfl, .ref a1, _, _, _, bt, rfl, .ty _, ht1 _ s1, k3, .ref a2, rfl, .ref a2, _, _, _, bt, rfl, .ty _, ht2 _ s1, k3, rfl, _, rfl, iteNS rfl ?_⟩
      refine ⟨.ref a1, rfl, (show (2 : Nat) ≤ sizeLine by decide), fun t2 nt2 => ⟨.ref a1, t2, _, .type ty, [.type "tuple", .type "list"], true, rfl, upd_same, .cons (.ty _) (.cons (.ty _) .nil), ht1 _ (s1.trans (same_upd nt2)), k2, _, rfl, iteF ?_⟩⟩
      have s2 := s1.trans (same_upd (o := .tup [.ty "tuple", .ty "list"]) nt2)
      generalize upd (upd H t (.tup [.ty "tuple", .ty "list"])) t2 (.tup [.ty "tuple", .ty "list"]) = H2 at s2 ⊢
      refine ⟨.ref a1, rfl, a1, xs, rfl, hq1 _ s2, .ref a2, rfl, a2, ys, rfl, hq2 _ s2, rfl, _, rfl, iteNS (by rw [h4]) ?_⟩
      refine ⟨.ref a2, rfl, a2, ys, rfl, hq2 _ s2, (ys.length : Nat), rfl, by omega, by omega, fun D nD => ?_⟩
      refine lc_range (lo := 0) (n := ((ys.length : Nat) : Int).toNat) (fun i H' => Same H2 H' ∧ H' D = some (.lst ((List.replicate i true).map V.bl))) ⟨same_upd nD, upd_same⟩ (fun i H' hi hP => ?_) (fun H' hP => ?_)
      · obtain ⟨sm, hD⟩ := hP
        have hi2 : i < ys.length := by omega
        have hi1 : i < xs.length := by omega
        have e0 : (0 : Int) + (i : Int) = (i : Nat) := by omega
        have s3 := s2.trans sm
        refine ⟨rfl, yesT ?_⟩
        refine ⟨.ref a1, rfl, .int (0 + i), rfl, ?_⟩
        rw [e0]
        refine ix_any (hq1 _ s3) (List.getElem?_eq_getElem hi1) ⟨.ref a2, rfl, _, rfl, ?_⟩
        refine ix_any (hq2 _ s3) (List.getElem?_eq_getElem hi2) ?_
        refine ⟨xs[i], ys[i], rfl, Lk.same s3 n _ _ (h6 i _ _ (List.getElem?_eq_getElem hi1) (List.getElem?_eq_getElem hi2)), fun H3 sm3 => ?_⟩
        refine ⟨_, sm3 _ _ hD, ?_, Same.offUpd (sm.trans sm3) nD, ?_⟩
        · rw [List.length_map, List.length_replicate]
          exact small1000 (by omega)
        · rw [upd_same, List.replicate_succ', List.map_append]
          rfl
      · obtain ⟨sm, hD⟩ := hP
        refine ⟨D, _, rfl, .inl (.inl hD), ?_⟩
        rw [show (List.replicate ((ys.length : Nat) : Int).toNat true).all id = true by simp]
        exact q _ (s2.trans sm)
theorem ok_like {f : Addr} {fd : FuncData} (F : Fun K "_law_like" "_law_like" sLike f fd) (b : Binds K fd ["_law_one", "_law_due"] []) (g : mg "_law_like" = some (.ref f)) (M : LkG mg) : ∀ n : Nat, FnOk P w K mg base CX0 n f fd ["_law_one", "_law_due"] (spLike K n)
  | 0 => ⟨fun vs H Q E h => by obtain ⟨v, u, _, h, _⟩ := h; exact h.elim, fun A outer s H args us vs Q E hr he hb hv h => by obtain ⟨v, u, _, h, _⟩ := h; exact h.elim⟩
  | n + 1 => like_step F b g M (ok_like F b g M n)
end
/-! ### rules whose answer is some object that holds the wanted things, new or not -/
theorem tuple_mulW1 (l : Addr) (items : Array Value) (n : Nat) (dd : Option Addr) (sl : Array (Option Value)) (u : Tok) :
    Meets (Builtin.«tuple.__mul__» ⟨[.ref l, .int 1 u], []⟩) (fun _ R s => s.heap.get? l = some { cls := .type "tuple", dict := dd, data := .seq items n, slots := sl } ∧ R (.ok (.ret (Value.ref l))) { s with heap := s.heap, toks := s.toks }) :=
  .of_wp fun prog w A R s h => by
    obtain ⟨hp, g, d, tk, os⟩ := s
    obtain ⟨hl, h⟩ := h
    have f1 := AutoSeq1.idx_int
    wp_walk using wpAny_loadPart' hl
    exact ⟨_, rfl, h⟩
section
variable {X : Cx}
def rRepT1 (K : PySem.W.Frag) : R2 := fun x y H Q => ∃ l xs, x = .ref l ∧ y = .int 1 ∧ SqT K H l xs ∧ Q (.ref l) H
theorem op_repT1 : OpR X (binaryOp .Mult) (rRepT1 X.K) := by
  intro pins s σ H x y v u Q I rx ry h
  obtain ⟨l, xs, rfl, rfl, hT, q⟩ := h
  cases rx
  obtain ⟨t, rfl⟩ := ry
  obtain ⟨its, r, ⟨⟨cls, dd, data, sl⟩, ho, hc, n, hd⟩, hs⟩ := I.tuple hT
  simp only at hc hd
  subst hc hd
  refine wpAny_binaryOp_repeat_ref (T := "tuple") (U := "int") (by decide) ⟨_, ho, rfl⟩ (fun s' => typeIs_int s' 1 t) noFill_tuple_mul F.fills_int_mul F.slot_int_rmul repeat_tuple F.slot_int_index.lookup
    (call_meets F.slot_int_rmul (typeIs_int s 1 t) F.entry_int_rmul (F.args_int_rmul_2 _ _) (int_rmul_tuple 1 t l its.toArray n dd sl)
      ⟨ho, rfl, ⟨_, ho, rfl⟩, call_meets F.slot_tuple_mul ⟨_, ho, rfl⟩ F.entry_tuple_mul (F.args_tuple_mul_2 _ _) (tuple_mulW1 l its.toArray n dd sl t) ⟨ho, ?_⟩⟩)
  exact ⟨.ref l, H, I, rfl, q⟩
/-- t * k -/
def rRepS (K : PySem.W.Frag) : R2 := fun x y H Q => ∃ l k xs, x = .ref l ∧ y = .int k ∧ SqT K H l xs ∧ xs ≠ [] ∧ 1 ≤ k ∧ k ≤ 1000 ∧ xs.length ≤ 1000 ∧ ∀ p H', Same H H' → SqT K H' p (List.replicate k.toNat xs).flatten → Q (.ref p) H'
theorem op_repS : OpR X (binaryOp .Mult) (rRepS X.K) := by
  intro pins s σ H x y v u Q I rx ry h
  obtain ⟨l, k, xs, rfl, rfl, hT, hne, h1, h2, h3, q⟩ := h
  by_cases hk : k = 1
  · subst hk
    refine op_repT1 pins s σ H _ _ v u Q I rx ry ⟨l, xs, rfl, rfl, hT, q l H (Same.refl H) ?_⟩
    rw [show (List.replicate (1 : Int).toNat xs).flatten = xs by simp]
    exact hT
  · exact op_repT pins s σ H _ _ v u Q I rx ry ⟨l, k, xs, rfl, rfl, hT, hne, by omega, h2, h3, fun p np => q p _ (same_upd np) (SqT.of upd_same)⟩
/-- t + u -/
def rCatS (K : PySem.W.Frag) : R2 := fun x y H Q => ∃ a b xs ys, x = .ref a ∧ y = .ref b ∧ SqT K H a xs ∧ SqT K H b ys ∧ xs.length + ys.length ≤ sizeLine ∧ ∀ p H', Same H H' → SqT K H' p (xs ++ ys) → Q (.ref p) H'
theorem op_catS : OpR X (binaryOp .Add) (rCatS X.K) := by
  intro pins s σ H x y v u Q I rx ry h
  obtain ⟨a, b, xs, ys, rfl, rfl, ha, hb, hz, q⟩ := h
  refine op_catA pins s σ H _ _ v u Q I rx ry ⟨a, b, xs, ys, rfl, rfl, ha, hb, hz, fun e => ?_, fun _ e => ?_, fun _ _ p np => q p _ (same_upd np) (SqT.of upd_same)⟩
  · subst e
    exact q b H (Same.refl H) hb
  · subst e
    exact q a H (Same.refl H) (by rw [List.append_nil]; exact ha)
/-- t[lo:hi] -/
def rSlS (K : PySem.W.Frag) : V → Option Int → Option Int → Hp → VK → Prop := fun x lo hi H Q => ∃ a xs, x = .ref a ∧ (SqL K H a xs ∨ SqT K H a xs) ∧ ∀ p H', Same H H' → ((∃ ys, SqL K H a ys) → SqL K H' p (cutV xs lo hi)) → ((∃ ys, SqT K H a ys) → SqT K H' p (cutV xs lo hi)) → (SqL K H' p (cutV xs lo hi) ∨ SqT K H' p (cutV xs lo hi)) → Q (.ref p) H'
def rSlT' (K : PySem.W.Frag) : V → Option Int → Option Int → Hp → VK → Prop := fun x lo hi H Q => ∃ a xs, x = .ref a ∧ SqT K H a xs ∧ ∀ p H', Same H H' → SqT K H' p (cutV xs lo hi) → Q (.ref p) H'
theorem cut_whole {α : Type} {xs : List α} {lo hi : Option Int} (h : HT.sIx xs.length 0 lo = 0 ∧ HT.sIx xs.length xs.length hi = xs.length) : ((xs.drop (HT.sIx xs.length 0 lo)).take (HT.sIx xs.length xs.length hi - HT.sIx xs.length 0 lo)) = xs := by
  rw [h.1, h.2]
  simp
theorem sl_tupS : L2.SlR X (rSlT' X.K) := by
  intro pins s σ H x v vl vu lo hi sl Q I rx hs pl pu h
  obtain ⟨a, xs, rfl, hx, q⟩ := h
  refine sl_tupA pins s σ H _ v vl vu lo hi sl Q I rx hs pl pu ⟨a, xs, rfl, hx, fun e => ?_, fun _ p np => q p _ (same_upd np) (SqT.of upd_same)⟩
  exact q a H (Same.refl H) (by rw [show cutV xs lo hi = xs from cut_whole e]; exact hx)
/-- a list's or a tuple's slice -/
def rSlQ (K : PySem.W.Frag) : V → Option Int → Option Int → Hp → VK → Prop := fun x lo hi H Q => ∃ a xs, x = .ref a ∧ (SqL K H a xs ∨ SqT K H a xs) ∧ ∀ p H', Same H H' → (SqL K H' p (cutV xs lo hi) ∨ SqT K H' p (cutV xs lo hi)) → Q (.ref p) H'
theorem sl_seqS : L2.SlR X (rSlQ X.K) := by
  intro pins s σ H x v vl vu lo hi sl Q I rx hs pl pu h
  obtain ⟨a, xs, rfl, hx, q⟩ := h
  rcases hx with hx | hx
  · exact sl_list pins s σ H _ v vl vu lo hi sl Q I rx hs pl pu ⟨a, xs, rfl, hx, fun p np => q p _ (same_upd np) (.inl (SqL.of upd_same))⟩
  · exact sl_tupS pins s σ H _ v vl vu lo hi sl Q I rx hs pl pu ⟨a, xs, rfl, hx, fun p H' e h => q p H' e (.inr h)⟩
/-- tuple(x) -/
def rTupS (K : PySem.W.Frag) : List V → Hp → VK → Prop := fun vs H Q => ∃ p ys, vs = [.ref p] ∧ (SqL K H p ys ∨ SqT K H p ys) ∧ ∀ l H', Same H H' → SqT K H' l ys → Q (.ref l) H'
theorem call_tupS : CallR X (.type "tuple") (rTupS X.K) := by
  intro pins s σ H xs us Q I r h
  obtain ⟨p, ys, rfl, hx, q⟩ := h
  refine call_tuple_of pins s σ H _ us Q I r ⟨p, ys, rfl, ?_⟩
  rcases hx with hx | hx
  · exact .inl ⟨hx, fun l nl => q l _ (same_upd nl) (SqT.of upd_same)⟩
  · exact .inr ⟨hx, q p H (Same.refl H) hx⟩
/-- len(x) -/
def rLenQ (K : PySem.W.Frag) : List V → Hp → VK → Prop := fun xs H Q => ∃ p ys, xs = [.ref p] ∧ (SqL K H p ys ∨ SqT K H p ys) ∧ Q (.int (ys.length : Nat)) H
theorem call_lenQ : CallR X (.builtin "len") (rLenQ X.K) := call_len_seq
end
theorem cut_to {α : Type} (xs : List α) (k : Nat) : ((xs.drop (HT.sIx xs.length 0 none)).take (HT.sIx xs.length xs.length (some (k : Int)) - HT.sIx xs.length 0 none)) = xs.take k := by
  rw [HT.sIx_none, HT.sIx_nat, List.drop_zero, Nat.sub_zero]
  rcases Nat.le_total k xs.length with h | h
  · rw [Nat.min_eq_left h]
  · rw [Nat.min_eq_right h, List.take_of_length_le h, List.take_length]
theorem cut_from {α : Type} (xs : List α) (k : Nat) : ((xs.drop (HT.sIx xs.length 0 (some (k : Int)))).take (HT.sIx xs.length xs.length none - HT.sIx xs.length 0 (some (k : Int)))) = xs.drop k := by
  rw [HT.sIx_none, HT.sIx_nat]
  rcases Nat.le_total k xs.length with h | h
  · rw [Nat.min_eq_left h, ← List.length_drop, List.take_length]
  · rw [Nat.min_eq_right h, List.drop_of_length_le h, List.drop_length, List.take_nil]
theorem cutV_to (xs : List V) (k : Nat) : cutV xs none (some (k : Int)) = xs.take k := cut_to xs k
theorem cutV_from (xs : List V) (k : Nat) : cutV xs (some (k : Int)) none = xs.drop k := cut_from xs k
/-! ### data of whole numbers -/
theorem dpI {K : PySem.W.Frag} {H : Hp} : ∀ ns : List Int, DpAll K H (ns.map V.int) (ns.map PyData.int)
  | [] => .nil
  | n :: r => .cons (.int n) (dpI r)
theorem canLay_ints : ∀ ns : List Int, PyData.canLayAll0 (ns.map PyData.int) = true
  | [] => rfl
  | _ :: r => by simp [PyData.canLayAll0, PyData.canLay0, canLay_ints r]
theorem depth_ints : ∀ ns : List Int, PyData.depthAll (ns.map PyData.int) = 0
  | [] => rfl
  | _ :: r => by simp [PyData.depthAll, PyData.depth, depth_ints r]
theorem shL (ns : List Int) : SeqAt.shaped (.list (ns.map PyData.int)) = true := by
  simp [SeqAt.shaped, PyData.canLay0, PyData.depth, canLay_ints, depth_ints]
theorem shT (ns : List Int) : SeqAt.shaped (.tuple (ns.map PyData.int)) = true := by
  simp [SeqAt.shaped, PyData.canLay0, PyData.depth, canLay_ints, depth_ints]
theorem eqv_ints : ∀ ns ms : List Int, PyData.eqvAll (ns.map PyData.int) (ms.map PyData.int) = decide (ns = ms)
  | [], [] => rfl
  | [], _ :: _ => by simp [PyData.eqvAll]
  | _ :: _, [] => by simp [PyData.eqvAll]
  | a :: r, b :: t => by
    simp only [List.map_cons, PyData.eqvAll, PyData.eqv, eqv_ints r t]
    by_cases h : a = b <;> by_cases h' : r = t <;> simp [h, h']
theorem eqvL (ns ms : List Int) : PyData.eqv (.list (ns.map PyData.int)) (.list (ms.map PyData.int)) = decide (ns = ms) := by
  simp only [PyData.eqv]
  exact eqv_ints ns ms
theorem eqvT (ns ms : List Int) : PyData.eqv (.tuple (ns.map PyData.int)) (.tuple (ms.map PyData.int)) = decide (ns = ms) := by
  simp only [PyData.eqv]
  exact eqv_ints ns ms
theorem dpL {K : PySem.W.Frag} {H : Hp} {a : Addr} {ns : List Int} (h : SqL K H a (ns.map V.int)) : Dp K H (.ref a) (.list (ns.map PyData.int)) := .lst h (dpI ns)
theorem dpT {K : PySem.W.Frag} {H : Hp} {a : Addr} {ns : List Int} (h : SqT K H a (ns.map V.int)) : Dp K H (.ref a) (.tuple (ns.map PyData.int)) := .tup h (dpI ns)
theorem flat_map (ns : List Int) (k : Nat) : (List.replicate k (ns.map V.int)).flatten = ((List.replicate k ns).flatten).map V.int := by
  induction k with
  | zero => rfl
  | succ k ih => rw [List.replicate_succ, List.replicate_succ, List.flatten_cons, List.flatten_cons, List.map_append, ih]
theorem small_k {n : Nat} (h : n ≤ 5000) : n < sizeLine := by
  rw [sizeLine_eq]
  omega
theorem same_any {K : PySem.W.Frag} {H H' : Hp} {a : Addr} {xs : List V} (e : Same H H') (h : SqL K H a xs ∨ SqT K H a xs) : SqL K H' a xs ∨ SqT K H' a xs := by
  rcases h with h | h
  · exact .inl (e.seq h)
  · exact .inr (Same.tup e h)
def nI (ns : List Nat) : List Int := ns.map fun (n : Nat) => (n : Int)
/-! ### rows: the mathematics -/
def cyc (t : List Int) (z : Int) : Int := t.getD (z % (t.length : Int)).toNat 0
def isP (t : List Int) (q : Nat) : Prop := t.length % q = 0 ∧ (List.replicate (t.length / q) (t.take q)).flatten = t
structure IsPer (t : List Int) (p : Nat) : Prop where
  pos : 1 ≤ p
  le : p ≤ t.length
  is : isP t p
  min : ∀ q, 1 ≤ q → q ≤ t.length → isP t q → p ≤ q
theorem IsPer.det {t : List Int} {p q : Nat} (a : IsPer t p) (b : IsPer t q) : p = q :=
  Nat.le_antisymm (a.min q b.pos b.le b.is) (b.min p a.pos a.le a.is)
theorem rep_get (u : List Int) : ∀ (m i : Nat), i < m * u.length → (List.replicate m u).flatten[i]? = u[i % u.length]?
  | 0, i, h => by omega
  | m + 1, i, h => by
    rw [List.replicate_succ, List.flatten_cons]
    by_cases hi : i < u.length
    · rw [List.getElem?_append_left hi, Nat.mod_eq_of_lt hi]
    · rw [List.getElem?_append_right (by omega), rep_get u m (i - u.length) (by rw [Nat.succ_mul] at h; omega), ← Nat.mod_eq_sub_mod (by omega)]
theorem rep_len (u : List Int) (m : Nat) : (List.replicate m u).flatten.length = m * u.length := by
  induction m with
  | zero => simp
  | succ m ih => rw [List.replicate_succ, List.flatten_cons, List.length_append, ih, Nat.succ_mul, Nat.add_comm]
theorem mod_lt (z : Int) {n : Nat} (h : 0 < n) : (z % (n : Int)).toNat < n := by
  have h1 := Int.emod_nonneg z (b := (n : Int)) (by omega)
  have h2 := Int.emod_lt_of_pos z (b := (n : Int)) (by omega)
  omega
theorem cyc_get {t : List Int} (h : 0 < t.length) (z : Int) : t[(z % (t.length : Int)).toNat]? = some (cyc t z) := by
  unfold cyc
  rw [List.getD_eq_getElem?_getD, List.getElem?_eq_getElem (mod_lt z h)]
  rfl
theorem cyc_nat {t : List Int} {i : Nat} (h : i < t.length) : t[i]? = some (cyc t i) := by
  have := cyc_get (t := t) (by omega) (i : Int)
  rw [Int.emod_eq_of_lt (by omega) (by omega), Int.toNat_natCast] at this
  exact this
theorem cyc_add (t : List Int) (z : Int) : cyc t (z + t.length) = cyc t z := by
  unfold cyc
  rw [Int.add_emod_right]
theorem cyc_mod (t : List Int) (z : Int) : cyc t (z % t.length) = cyc t z := by
  unfold cyc
  rw [Int.emod_emod_of_dvd _ (Int.dvd_refl _)]
theorem isP_cyc {t : List Int} {q : Nat} (h1 : 1 ≤ q) (h2 : q ≤ t.length) (h : isP t q) (z : Int) : cyc (t.take q) z = cyc t z := by
  obtain ⟨hm, hf⟩ := h
  have hn : 0 < t.length := by omega
  have hl : (t.take q).length = q := by rw [List.length_take]; omega
  have hd : q * (t.length / q) = t.length := by
    have := Nat.div_add_mod t.length q
    omega
  have hi := mod_lt z hn
  have e1 := cyc_get hn z
  have e3 := rep_get (t.take q) (t.length / q) _ (show (z % (t.length : Int)).toNat < t.length / q * (t.take q).length by rw [hl, Nat.mul_comm, hd]; exact hi)
  rw [hf, e1, hl] at e3
  have e4 : (z % (t.length : Int)).toNat % q = (z % (q : Int)).toNat := by
    have g1 := Int.emod_nonneg z (b := (t.length : Int)) (by omega)
    have g2 : ((z % (t.length : Int)).toNat : Int) = z % (t.length : Int) := Int.toNat_of_nonneg g1
    have g3 : z % (t.length : Int) % (q : Int) = z % (q : Int) := Int.emod_emod_of_dvd z (by exact_mod_cast Nat.dvd_of_mod_eq_zero hm)
    have g4 : (((z % (t.length : Int)).toNat % q : Nat) : Int) = z % (q : Int) := by rw [Int.natCast_emod, g2, g3]
    omega
  rw [e4] at e3
  have e5 := cyc_get (t := t.take q) (by omega) z
  rw [hl] at e5
  rw [e5] at e3
  exact (Option.some.inj e3).symm
theorem cyc_isP {t : List Int} {q : Nat} (h1 : 1 ≤ q) (h2 : q ≤ t.length) (hm : t.length % q = 0) (h : ∀ z : Int, cyc t (z + q) = cyc t z) : isP t q := by
  refine ⟨hm, ?_⟩
  have hl : (t.take q).length = q := by rw [List.length_take]; omega
  have hd : t.length / q * q = t.length := by
    have := Nat.div_add_mod t.length q
    rw [Nat.mul_comm]
    omega
  have hk : ∀ (k : Nat) (z : Int), cyc t (z + (k : Int) * q) = cyc t z := by
    intro k
    induction k with
    | zero => intro z; simp
    | succ k ih =>
      intro z
      rw [show z + ((k + 1 : Nat) : Int) * q = (z + (k : Int) * q) + q by rw [Int.natCast_add, Int.add_mul]; omega, h, ih]
  apply List.ext_getElem?
  intro i
  by_cases hi : i < t.length
  · rw [rep_get _ _ _ (by rw [hl, hd]; exact hi), hl, cyc_nat hi, List.getElem?_take, if_pos (Nat.mod_lt _ (by omega)), cyc_nat (Nat.lt_of_le_of_lt (Nat.mod_le _ _) hi)]
    have := hk (i / q) ((i % q : Nat) : Int)
    have e : ((i % q : Nat) : Int) + ((i / q : Nat) : Int) * q = i := by
      have := Nat.mod_add_div i q
      have h2 : ((i % q + q * (i / q) : Nat) : Int) = i := by rw [this]
      rw [Int.natCast_add, Int.natCast_mul] at h2
      rw [Int.mul_comm]
      exact h2
    rw [e] at this
    rw [this]
  · rw [List.getElem?_eq_none (by rw [rep_len, hl, hd]; omega), List.getElem?_eq_none (by omega)]
/-- w turned by s -/
def rot (w : List Int) (s : Int) : List Int := (List.range w.length).map fun (k : Nat) => cyc w ((k : Int) - s)
theorem rot_len (w : List Int) (s : Int) : (rot w s).length = w.length := by
  unfold rot
  rw [List.length_map, List.length_range]
theorem rot_get {w : List Int} {s : Int} {k : Nat} (h : k < w.length) : (rot w s)[k]? = some (cyc w ((k : Int) - s)) := by
  unfold rot
  rw [List.getElem?_map, List.getElem?_range h]
  rfl
theorem cyc_rot {w : List Int} (h : 0 < w.length) (s z : Int) : cyc (rot w s) z = cyc w (z - s) := by
  have e1 := cyc_get (t := rot w s) (by rw [rot_len]; exact h) z
  rw [rot_len, rot_get (mod_lt z h)] at e1
  rw [← Option.some.inj e1, Int.toNat_of_nonneg (Int.emod_nonneg _ (by omega)), ← cyc_mod w (z % _ - s), ← cyc_mod w (z - s), Int.emod_sub_emod]
theorem rot_zero (w : List Int) : rot w 0 = w := by
  apply List.ext_getElem?
  intro i
  by_cases hi : i < w.length
  · rw [rot_get hi, cyc_nat hi, Int.sub_zero]
  · rw [List.getElem?_eq_none (by rw [rot_len]; omega), List.getElem?_eq_none (by omega)]
theorem rot_cut {w : List Int} (h : 0 < w.length) (s : Int) : w.drop ((-s) % (w.length : Int)).toNat ++ w.take ((-s) % (w.length : Int)).toNat = rot w s := by
  have hs := mod_lt (-s) h
  have hs0 := Int.emod_nonneg (-s) (b := (w.length : Int)) (by omega)
  have key : ∀ (k j : Nat), ((j : Int) = k + (-s) % (w.length : Int) ∨ (j : Int) = k + (-s) % (w.length : Int) - w.length) → cyc w j = cyc w ((k : Int) - s) := by
    intro k j hj
    have e1 : cyc w ((k : Int) + (-s) % (w.length : Int)) = cyc w ((k : Int) - s) := by
      rw [← cyc_mod w ((k : Int) + (-s) % _), Int.add_emod_emod, cyc_mod, Int.sub_eq_add_neg]
    rcases hj with hj | hj
    · rw [hj, e1]
    · rw [hj, ← e1, ← cyc_add w ((k : Int) + _ - _)]
      congr 1
      omega
  apply List.ext_getElem?
  intro i
  by_cases hi : i < w.length
  · rw [rot_get hi]
    by_cases h2 : i < w.length - ((-s) % (w.length : Int)).toNat
    · rw [List.getElem?_append_left (by rw [List.length_drop]; exact h2), List.getElem?_drop, cyc_nat (by omega)]
      congr 1
      exact key i _ (.inl (by omega))
    · rw [List.getElem?_append_right (by rw [List.length_drop]; omega), List.length_drop, List.getElem?_take, if_pos (by omega), cyc_nat (by omega)]
      congr 1
      exact key i _ (.inr (by omega))
  · rw [List.getElem?_eq_none (by rw [List.length_append, List.length_drop, List.length_take]; omega), List.getElem?_eq_none (by rw [rot_len]; omega)]
/-- s notes at the end of the lead are the round's -/
def Tail (xs w : List Int) (s : Nat) : Prop := s ≤ xs.length ∧ ∀ j : Nat, j < s → xs[xs.length - 1 - j]? = some (cyc w (-1 - (j : Int)))
structure IsSpare (xs w : List Int) (s : Nat) : Prop where
  tail : Tail xs w s
  max : s < xs.length → xs[xs.length - 1 - s]? ≠ some (cyc w (-1 - (s : Int)))
theorem IsSpare.det {xs w : List Int} {s r : Nat} (a : IsSpare xs w s) (b : IsSpare xs w r) : s = r := by
  rcases Nat.lt_trichotomy s r with h | h | h
  · exact absurd (b.tail.2 s h) (a.max (Nat.lt_of_lt_of_le h b.tail.1))
  · exact h
  · exact absurd (a.tail.2 r h) (b.max (Nat.lt_of_lt_of_le h a.tail.1))
/-- the least row -/
def LR (xs ts c d : List Int) : Prop := (ts = [] ∧ c = xs ∧ d = []) ∨ (ts ≠ [] ∧ ∃ p s, IsPer ts p ∧ IsSpare xs (ts.take p) s ∧ c = xs.take (xs.length - s) ∧ d = rot (ts.take p) s)
theorem LR.det {xs ts c d c' d' : List Int} (a : LR xs ts c d) (b : LR xs ts c' d') : c = c' ∧ d = d' := by
  rcases a with ⟨e, rfl, rfl⟩ | ⟨e, p, s, h1, h2, rfl, rfl⟩ <;> rcases b with ⟨e', rfl, rfl⟩ | ⟨e', p', s', h1', h2', rfl, rfl⟩
  · exact ⟨rfl, rfl⟩
  · exact absurd e e'
  · exact absurd e' e
  · have ep := h1.det h1'
    subst ep
    have es := h2.det h2'
    subst es
    exact ⟨rfl, rfl⟩
theorem LR.idem {xs ts c d : List Int} (a : LR xs ts c d) : LR c d c d := by
  rcases a with ⟨e, rfl, rfl⟩ | ⟨e, p, s, h1, h2, rfl, rfl⟩
  · exact .inl ⟨rfl, rfl, rfl⟩
  · have hp := h1.pos
    have hle := h1.le
    have hw : (ts.take p).length = p := by rw [List.length_take]; omega
    have hr : (rot (ts.take p) s).length = p := by rw [rot_len, hw]
    have hne : rot (ts.take p) s ≠ [] := fun z => by
      rw [z] at hr
      simp at hr
      omega
    have ht : (rot (ts.take p) s).take p = rot (ts.take p) s := List.take_of_length_le (by omega)
    refine .inr ⟨hne, p, 0, ⟨hp, by omega, ⟨by rw [hr, Nat.mod_self], ?_⟩, fun q q1 q2 q3 => ?_⟩, ⟨⟨Nat.zero_le _, fun j hj => by omega⟩, fun hs => ?_⟩, ?_, ?_⟩
    · rw [hr, Nat.div_self (by omega), ht]
      simp
    · have hq : q ≤ p := by omega
      have dq : p % q = 0 := by
        have := q3.1
        rw [hr] at this
        exact this
      refine h1.min q q1 (by omega) (cyc_isP q1 (by omega) ?_ fun z => ?_)
      · have := h1.is.1
        exact Nat.mod_eq_zero_of_dvd (Nat.dvd_trans (Nat.dvd_of_mod_eq_zero dq) (Nat.dvd_of_mod_eq_zero this))
      · have f1 : ∀ y : Int, cyc (rot (ts.take p) s) (y + q) = cyc (rot (ts.take p) s) y := fun y => by
          rw [← isP_cyc q1 q2 q3, ← isP_cyc q1 q2 q3 y]
          have := cyc_add ((rot (ts.take p) s).take q) y
          rw [List.length_take, hr, Nat.min_eq_left hq] at this
          exact this
        have f2 := f1 (z + s)
        rw [cyc_rot (by omega), cyc_rot (by omega), isP_cyc hp hle h1.is, isP_cyc hp hle h1.is] at f2
        rw [show z + (s : Int) + q - s = z + q by omega, show z + (s : Int) - s = z by omega] at f2
        exact f2
    · rw [List.length_take] at hs ⊢
      have hs' : s < xs.length := by omega
      have hm := h2.max hs'
      rw [ht, cyc_rot (by omega), List.getElem?_take, if_pos (by omega)]
      rw [show min (xs.length - s) xs.length - 1 - 0 = xs.length - 1 - s by omega]
      exact hm
    · rw [Nat.sub_zero, List.take_of_length_le (Nat.le_refl _)]
    · rw [ht]
      exact (rot_zero _).symm
/-- the note at a depth -/
def seenO (xs ts : List Int) (d : Nat) : Option Int := if d < xs.length then xs[d]? else if ts = [] then none else some (cyc ts ((d : Int) - xs.length))
theorem seen_tail {xs ts : List Int} {p s : Nat} (h : IsPer ts p) (t : Tail xs (ts.take p) s) (k : Nat) : seenO xs ts (xs.length - s + k) = some (cyc (ts.take p) ((k : Int) - s)) := by
  have hp := h.pos
  have hle := h.le
  have h1 := t.1
  unfold seenO
  by_cases hd : xs.length - s + k < xs.length
  · rw [if_pos hd]
    have := t.2 (s - k - 1) (by omega)
    rw [show xs.length - 1 - (s - k - 1) = xs.length - s + k by omega] at this
    rw [this]
    congr 2
    omega
  · rw [if_neg hd, if_neg (fun e => by rw [e] at hle; simp at hle; omega), isP_cyc hp hle h.is]
    congr 2
    omega
/-! ### repeats -/
instance isPdec (t : List Int) (q : Nat) : Decidable (isP t q) := inferInstanceAs (Decidable (_ ∧ _))
abbrev sReps : Stmt := topS 37
theorem scReps : FnScope ["turn", "size"] ["turn", "size"] (defScope sReps) := ⟨rfl, rfl, rfl, by decide +kernel, rfl, by decide +kernel, by decide +kernel⟩
def spReps (K : PySem.W.Frag) : Sp := fun vs H Q _ => ∃ (t : Addr) (ts : List Int) (q : Nat), vs = [.ref t, .int (q : Nat)] ∧ SqT K H t (ts.map V.int) ∧ 1 ≤ q ∧ q ≤ ts.length ∧ ts.length ≤ 1000 ∧ ∀ H', Same H H' → Q (.bl (decide (isP ts q))) H'
section
variable {P : Program} {w : World} {K : PySem.W.Frag} {mg : Str → Option Value} {base : Heap}
theorem ok_reps {f : Addr} {fd : FuncData} {k : Nat} (F : Fun K "repeats" "repeats" sReps f fd) (ml : mg "len" = none) : FnOk P w K mg base CX0 (k + 1) f fd ["turn", "size"] (spReps K) := by
  refine F.ok scReps (fun vs H Q E h => ?_) (fun cdv A outer s H vs Q E hr h => ?_)
  · obtain ⟨t, ts, q, rfl, _⟩ := h
    rfl
  · obtain ⟨t, ts, m, rfl, hT, h1, h2, h3, q⟩ := h
    refine ⟨_, pss_one (ps_ret (pe_and (pe_cmpR op_eq (pe_op op_mod (pe_callB call_lenQ (by rfl) ml PySem.boot_len (pa_cons (pv 0) pa_nil)) (pv 1)) pe_int (nomark _))
      (pe_one (pe_cmpR (op_eqD hr.units) (pe_op op_repS (pe_slice sl_tupS (pv 0) po_none (po_some (pv 1))) (pe_op op_fdivW (pe_callB call_lenQ (by rfl) ml PySem.boot_len (pa_cons (pv 0) pa_nil)) (pv 1))) (pv 0) (nomark _))))), ?_⟩
    refine ⟨.ref t, rfl, t, _, rfl, .inr hT, .int m, rfl, _, _, rfl, rfl, by omega, rfl, _, rfl, ite2 (fun e => ?_) (fun e => ?_)⟩
    · have e1 : (((ts.map V.int).length : Nat) : Int) % (m : Int) = 0 := V.int.inj (of_decide_eq_true e)
      rw [List.length_map] at e1
      have e2 : ts.length % m = 0 := by omega
      have hk : 1 ≤ ts.length / m := (Nat.le_div_iff_mul_le (by omega)).mpr (by omega)
      have hk2 : ts.length / m ≤ ts.length := Nat.div_le_self _ _
      refine ⟨.ref t, rfl, .int m, rfl, m, rfl, t, _, rfl, hT, fun p H1 s1 hp => ?_⟩
      rw [cutV_to, ← List.map_take] at hp
      refine ⟨.ref t, rfl, t, _, rfl, .inr (Same.tup s1 hT), .int m, rfl, _, _, rfl, rfl, wide_div (b := 200) (by omega) ?_ (by decide) (by decide), ?_⟩
      · rw [Int.natAbs_natCast]
        exact Nat.lt_of_le_of_lt (show m ≤ 1000 by omega) (by decide)
      have ek : (((ts.map V.int).length : Nat) : Int) / (m : Int) = ((ts.length / m : Nat) : Int) := by
        rw [List.length_map]
        exact (Int.natCast_ediv _ _).symm
      refine ⟨p, (((ts.map V.int).length : Nat) : Int) / (m : Int), _, rfl, rfl, hp, ?_, by rw [ek]; omega, by rw [ek]; omega, ?_, fun p2 H2 s2 hp2 => ?_⟩
      · intro z
        have := congrArg List.length z
        rw [List.length_map, List.length_take, List.length_nil] at this
        omega
      · rw [List.length_map, List.length_take]
        omega
      · rw [ek, Int.toNat_natCast, flat_map] at hp2
        refine ⟨.ref t, rfl, _, _, dpT hp2, dpT (Same.tup s2 (Same.tup s1 hT)), shT _, shT _, ?_⟩
        have ed : decide ((List.replicate (ts.length / m) (ts.take m)).flatten = ts) = decide (isP ts m) := decide_eq_decide.mpr ⟨fun z => ⟨e2, z⟩, fun z => z.2⟩
        rw [eqvT, ed]
        exact q _ (s1.trans s2)
    · have e2 : ¬ isP ts m := fun z => e (by
        rw [decide_eq_true_eq]
        have := z.1
        rw [List.length_map]
        show V.int ((ts.length : Int) % (m : Int)) = V.int 0
        rw [show (ts.length : Int) % (m : Int) = ((ts.length % m : Nat) : Int) from (Int.natCast_emod _ _).symm, this]
        rfl)
      have := q H (Same.refl H)
      rw [decide_eq_false e2] at this
      exact this
end
/-! ### shortest_round -/
abbrev sShort : Stmt := topS 36
theorem scShort : FnScope ["turn", "sizes", "size"] ["turn"] (defScope sShort) := ⟨rfl, rfl, rfl, by decide +kernel, rfl, by decide +kernel, by decide +kernel⟩
def spShort (K : PySem.W.Frag) : Sp := fun vs H Q _ => ∃ (t : Addr) (ts : List Int), vs = [.ref t] ∧ SqT K H t (ts.map V.int) ∧ ts ≠ [] ∧ ts.length ≤ 1000 ∧ ∀ H' p m, Same H H' → IsPer ts m → SqT K H' p ((ts.take m).map V.int) → Q (.ref p) H'
/-- 1 .. i, such as are good -/
def good (c : Nat → Bool) (i : Nat) : List Nat := ((List.range i).map (· + 1)).filter c
theorem good_succ (c : Nat → Bool) (i : Nat) : good c (i + 1) = good c i ++ (if c (i + 1) = true then [i + 1] else []) := by
  unfold good
  rw [List.range_succ, List.map_append, List.filter_append]
  congr 1
  simp only [List.map_cons, List.map_nil, List.filter_cons, List.filter_nil]
theorem good_len (c : Nat → Bool) (i : Nat) : (good c i).length ≤ i := by
  have h := List.length_filter_le c ((List.range i).map (· + 1))
  rw [List.length_map, List.length_range] at h
  exact h
theorem good_mem {c : Nat → Bool} {i q : Nat} : q ∈ good c i ↔ 1 ≤ q ∧ q ≤ i ∧ c q = true := by
  unfold good
  rw [List.mem_filter, List.mem_map]
  constructor
  · rintro ⟨⟨a, h, rfl⟩, h2⟩
    rw [List.mem_range] at h
    exact ⟨by omega, by omega, h2⟩
  · rintro ⟨h1, h2, h3⟩
    exact ⟨⟨q - 1, by rw [List.mem_range]; omega, by omega⟩, h3⟩
theorem isP_self {t : List Int} (h : t ≠ []) : isP t t.length := by
  have : 0 < t.length := List.length_pos_iff.mpr h
  refine ⟨Nat.mod_self _, ?_⟩
  rw [Nat.div_self this, List.take_length]
  simp
section
variable {P : Program} {w : World} {K : PySem.W.Frag} {mg : Str → Option Value} {base : Heap}
theorem ok_short {f fR : Addr} {fd fdR : FuncData} {k : Nat} (F : Fun K "shortest_round" "shortest_round" sShort f fd) (ml : mg "len" = none) (mr : mg "range" = none) (mm : mg "min" = none)
    (FR : Fun K "repeats" "repeats" sReps fR fdR) (bR : Binds K fdR ["turn", "size"] []) (gR : mg "repeats" = some (.ref fR)) : FnOk P w K mg base CX0 (k + 2) f fd ["turn"] (spShort K) := by
  have GR : FnOk P w K mg base CX0 (k + 1) fR fdR ["turn", "size"] (spReps K) := ok_reps FR ml
  refine F.ok scShort (fun vs H Q E h => ?_) (fun cdv A outer s H vs Q E hr h => ?_)
  · obtain ⟨t, ts, rfl, _⟩ := h
    rfl
  · obtain ⟨t, ts, rfl, hT, hne, h3, q⟩ := h
    refine ⟨_, pss_cons (ps_setLc (i := 1) (own := [("size", 2)]) (g := gName 2) rfl scShort.nd rfl rfl (sw_true rfl rfl rfl (by decide +kernel)) (pi_range2 (by rfl) mr (pa_cons pe_int (pa_cons (pe_op op_add (pe_callB call_lenQ (by rfl) ml PySem.boot_len (pa_cons (pv 0) pa_nil)) pe_int) pa_nil)))
        (blkOk_by (own := [("size", 2)]) (N := ["turn", "sizes", "size"]) (sc := defScope sShort) (by decide +kernel)) (fun _ _ _ _ _ => pg_name (i := 2) scShort.nd rfl (Or.inl rfl))
        (fun _ _ _ _ _ => pts_one (pt_val (pe_call GR hr (by rfl) gR FR.kp bR .nil pass0 (pa_cons (pv 0) (pa_cons (pv 2) pa_nil)))))
        (fun _ _ _ _ _ => pv 2))
      (pss_one (ps_ret (pe_slice sl_tupS (pv 0) po_none (po_some (pe_callB (cr_min rfl) (by rfl) mm (by decide +kernel) (pa_cons (pv 1) pa_nil)))))), ?_⟩
    have hlen : 0 < ts.length := List.length_pos_iff.mpr hne
    refine ⟨.ref t, rfl, t, _, rfl, .inr hT, _, _, rfl, rfl, 1, _, rfl, ⟨by decide, by decide, by omega, by rw [List.length_map]; omega⟩, fun D nD => ?_⟩
    have en : ((((ts.map V.int).length : Nat) : Int) + 1 - 1).toNat = ts.length := by rw [List.length_map]; omega
    rw [en]
    refine lc_range (lo := 1) (n := ts.length) (fun i H' => Same H H' ∧ H' D = some (.lst ((nI (good (fun q => decide (isP ts q)) i)).map V.int))) ⟨same_upd nD, upd_same⟩ (fun i H' hi hP => ?_) (fun H' hP => ?_)
    · obtain ⟨sm, hD⟩ := hP
      have e1 : (1 : Int) + (i : Int) = ((i + 1 : Nat) : Int) := by omega
      refine ⟨rfl, ?_⟩
      rw [e1]
      refine ⟨.ref t, rfl, _, rfl, t, ts, i + 1, rfl, Same.tup sm hT, by omega, by omega, h3, fun H2 s2 => ⟨_, rfl, ite2 (fun e => ?_) (fun e => ?_)⟩⟩
      · refine ⟨_, rfl, _, s2 _ _ hD, ?_, Same.offUpd (sm.trans s2) nD, ?_⟩
        · have := good_len (fun q => decide (isP ts q)) i
          unfold nI
          rw [List.length_map, List.length_map]
          exact small1000 (by omega)
        · rw [upd_same, good_succ, if_pos e]
          unfold nI
          rw [List.map_append, List.map_append]
          rfl
      · refine ⟨sm.trans s2, ?_⟩
        rw [good_succ, if_neg e, List.append_nil]
        exact s2 _ _ hD
    · obtain ⟨sm, hD⟩ := hP
      refine ⟨.ref t, rfl, .ref D, rfl, D, _, rfl, .inl (.inl hD), ?_, fun m hm hle => ?_⟩
      · have : ts.length ∈ good (fun q => decide (isP ts q)) ts.length := good_mem.mpr ⟨hlen, Nat.le_refl _, decide_eq_true (isP_self hne)⟩
        unfold nI
        rw [List.length_map]
        exact List.length_pos_of_mem this
      · obtain ⟨n, hn, rfl⟩ := List.mem_map.mp hm
        obtain ⟨n1, n2, n3⟩ := good_mem.mp hn
        have hper : IsPer ts n := ⟨n1, n2, of_decide_eq_true n3, fun q q1 q2 q3 => by
          have := hle (q : Int) (List.mem_map.mpr ⟨q, good_mem.mpr ⟨q1, q2, decide_eq_true q3⟩, rfl⟩)
          omega⟩
        refine ⟨(n : Int), rfl, t, _, rfl, Same.tup sm hT, fun p H2 s2 hp => ?_⟩
        rw [cutV_to, ← List.map_take] at hp
        exact q _ _ n (sm.trans s2) hper hp
end
/-! ### spare_notes -/
abbrev sSpare : Stmt := topS 38
theorem scSpare : FnScope ["lead", "turn", "spare"] ["lead", "turn"] (defScope sSpare) := ⟨rfl, rfl, rfl, by decide +kernel, rfl, by decide +kernel, by decide +kernel⟩
def spSpare (K : PySem.W.Frag) : Sp := fun vs H Q _ => ∃ (l t : Addr) (xs us : List Int), vs = [.ref l, .ref t] ∧ (SqL K H l (xs.map V.int) ∨ SqT K H l (xs.map V.int)) ∧ SqT K H t (us.map V.int) ∧ us ≠ [] ∧ ∀ n, IsSpare xs us n → Q (.int (n : Nat)) H
theorem atI_neg {α : Type} {xs : List α} {j : Nat} {v : α} (h : j < xs.length) (e : xs[xs.length - 1 - j]? = some v) : atI xs (-1 - (j : Int)) = some v := by
  unfold atI ixN
  rw [if_neg (by omega), if_pos (by omega)]
  show xs[(-1 - (j : Int) + (xs.length : Int)).toNat]? = some v
  rw [show (-1 - (j : Int) + (xs.length : Int)).toNat = xs.length - 1 - j by omega]
  exact e
section
variable {P : Program} {w : World} {K : PySem.W.Frag} {mg : Str → Option Value} {base : Heap}
theorem ok_spare {f : Addr} {fd : FuncData} {k : Nat} (F : Fun K "spare_notes" "spare_notes" sSpare f fd) (ml : mg "len" = none) : FnOk P w K mg base CX0 (k + 1) f fd ["lead", "turn"] (spSpare K) := by
  refine F.ok scSpare (fun vs H Q E h => ?_) (fun cdv A outer s H vs Q E hr h => ?_)
  · obtain ⟨l, t, xs, us, rfl, _⟩ := h
    rfl
  · obtain ⟨l, t, xs, us, rfl, hL, hT, hne, q⟩ := h
    refine ⟨_, pss_cons (ps_set (i := 2) scSpare.nd rfl (.inl rfl) pe_int)
      (pss_cons (ps_while PassesOwn.never (PW.pt (pw_and (pt_cmpR op_lt (pv 2) (pe_callB call_lenQ (by rfl) ml PySem.boot_len (pa_cons (pv 0) pa_nil)) (nomark _))
          (pw_and1 (pt_cmpR op_eq (pe_ix ix_seq (pv 0) (pe_op op_sub (pe_un un_neg pe_int) (pv 2)) (fun _ _ => rfl)) (pe_ix ix_tup (pv 1) (pe_op op_mod (pe_op op_sub (pe_un un_neg pe_int) (pv 2)) (pe_callB call_lenQ (by rfl) ml PySem.boot_len (pa_cons (pv 1) pa_nil))) (fun _ _ => rfl)) (nomark _)))))
        (pss_one (ps_aug (i := 2) scSpare.nd rfl (.inl rfl) pe_int ip_add)))
      (pss_one (ps_ret (pv 2)))), ?_⟩
    have hlu : 0 < us.length := List.length_pos_iff.mpr hne
    refine ⟨fun m σ H' => ∃ n : Nat, σ = [some (.ref l), some (.ref t), some (.int (n : Nat))] ∧ H = H' ∧ Tail xs us n ∧ m = xs.length - n, ⟨xs.length, 0, rfl, rfl, ⟨Nat.zero_le _, fun j hj => by omega⟩, by omega⟩, ?_⟩
    rintro m σ H' ⟨n, rfl, rfl, hTl, rfl⟩
    refine ⟨.int n, rfl, .ref l, rfl, l, _, rfl, hL, _, _, rfl, rfl, _, rfl, ite2 (fun e => ?_) (fun e => ?_)⟩
    · have h1 := of_decide_eq_true e
      rw [List.length_map] at h1
      have hn : n < xs.length := by omega
      have hx : xs.length - 1 - n < xs.length := by omega
      have g1 : (xs.map V.int)[(xs.map V.int).length - 1 - n]? = some (.int xs[xs.length - 1 - n]) := by
        rw [List.length_map, List.getElem?_map, List.getElem?_eq_getElem hx]
        rfl
      have g2 : atI (us.map V.int) ((-1 - (n : Int)) % (((us.map V.int).length : Nat) : Int)) = some (.int (cyc us (-1 - (n : Int)))) := by
        have a1 := cyc_get hlu (-1 - (n : Int))
        have a2 := Int.toNat_of_nonneg (Int.emod_nonneg (-1 - (n : Int)) (b := (us.length : Int)) (by omega))
        rw [List.length_map, ← a2]
        refine atI_nat ?_
        rw [List.getElem?_map, a1]
        rfl
      have g3 := atI_neg (xs := xs.map V.int) (j := n) (by rw [List.length_map]; exact hn) g1
      have hread : ∀ Q : VK, Q (.int xs[xs.length - 1 - n]) H → rIx K (.ref l) (.int (-1 - (n : Int))) H Q := fun Q z => by
        rcases hL with hL | hL
        · exact .inl ⟨l, _, _, _, rfl, rfl, hL, g3, z⟩
        · exact .inr (.inl ⟨l, _, _, _, rfl, rfl, hL, g3, z⟩)
      refine ⟨.ref l, rfl, 1, rfl, .int n, rfl, _, _, rfl, rfl, hread _ ?_⟩
      refine ⟨.ref t, rfl, 1, rfl, .int n, rfl, _, _, rfl, rfl, .ref t, rfl, t, _, rfl, .inr hT, _, _, rfl, rfl, ?_, t, _, _, _, rfl, rfl, hT, g2, rfl, _, rfl, ite2 (fun e2 => ?_) (fun e2 => ?_)⟩
      · show (0 : Int) < (((us.map V.int).length : Nat) : Int)
        rw [List.length_map]
        omega
      · have ev : xs[xs.length - 1 - n] = cyc us (-1 - (n : Int)) := V.int.inj (of_decide_eq_true e2)
        refine ⟨fun σ' H' => σ' = [some (.ref l), some (.ref t), some (.int ((n + 1 : Nat) : Int))] ∧ H = H', ?_, .int n, rfl, _, _, rfl, rfl, rfl, rfl⟩
        rintro σ' H' ⟨rfl, rfl⟩
        refine ⟨xs.length - (n + 1), by omega, n + 1, rfl, rfl, ⟨by omega, fun j hj => ?_⟩, rfl⟩
        by_cases hj2 : j < n
        · exact hTl.2 j hj2
        · obtain rfl : j = n := by omega
          rw [List.getElem?_eq_getElem hx, ev]
      · refine ⟨.int n, rfl, q n ⟨hTl, fun _ z => e2 ?_⟩⟩
        rw [List.getElem?_eq_getElem hx] at z
        rw [Option.some.inj z]
        exact decide_eq_true rfl
    · refine ⟨.int n, rfl, q n ⟨hTl, fun z => absurd ?_ e⟩⟩
      rw [List.length_map]
      exact decide_eq_true (by omega)
end
/-! ### least_row -/
def RowAt (K : PySem.W.Frag) (H : Hp) (p : Addr) (c d : List Int) : Prop := ∃ a b, SqT K H p [.ref a, .ref b] ∧ SqT K H a (c.map V.int) ∧ SqT K H b (d.map V.int)
theorem RowAt.same {K : PySem.W.Frag} {H H' : Hp} {p : Addr} {c d : List Int} (h : RowAt K H p c d) (e : Same H H') : RowAt K H' p c d := by
  obtain ⟨a, b, h1, h2, h3⟩ := h
  exact ⟨a, b, Same.tup e h1, Same.tup e h2, Same.tup e h3⟩
abbrev sLR : Stmt := topS 35
theorem scLR : FnScope ["lead", "turn", "least", "spare", "start"] ["lead", "turn"] (defScope sLR) := ⟨rfl, rfl, rfl, by decide +kernel, rfl, by decide +kernel, by decide +kernel⟩
def spLR (K : PySem.W.Frag) : Sp := fun vs H Q _ => ∃ (l t : Addr) (xs ts : List Int), vs = [.ref l, .ref t] ∧ (SqL K H l (xs.map V.int) ∨ SqT K H l (xs.map V.int)) ∧ (SqL K H t (ts.map V.int) ∨ SqT K H t (ts.map V.int)) ∧ xs.length ≤ 1000 ∧ ts.length ≤ 1000 ∧
  ∀ H' p c d, Same H H' → LR xs ts c d → RowAt K H' p c d → Q (.ref p) H'
section
variable {P : Program} {w : World} {K : PySem.W.Frag} {mg : Str → Option Value} {base : Heap}
theorem ok_LR {f fS fP : Addr} {fd fdS fdP : FuncData} {k : Nat} (F : Fun K "least_row" "least_row" sLR f fd) (ml : mg "len" = none) (mt : mg "tuple" = none)
    (FS : Fun K "shortest_round" "shortest_round" sShort fS fdS) (bS : Binds K fdS ["turn"] []) (gS : mg "shortest_round" = some (.ref fS))
    (FP : Fun K "spare_notes" "spare_notes" sSpare fP fdP) (bP : Binds K fdP ["lead", "turn"] []) (gP : mg "spare_notes" = some (.ref fP))
    (GS : FnOk P w K mg base CX0 (k + 2) fS fdS ["turn"] (spShort K)) : FnOk P w K mg base CX0 (k + 3) f fd ["lead", "turn"] (spLR K) := by
  have GP : FnOk P w K mg base CX0 (k + 2) fP fdP ["lead", "turn"] (spSpare K) := ok_spare FP ml
  refine F.ok scLR (fun vs H Q E h => ?_) (fun cdv A outer s H vs Q E hr h => ?_)
  · obtain ⟨l, t, xs, ts, rfl, _⟩ := h
    rfl
  · obtain ⟨l, t, xs, ts, rfl, hL, hT, h1, h2, q⟩ := h
    refine ⟨_, pss_cons (ps_if (pt_cmpR op_eq (pe_callB call_lenQ (by rfl) ml PySem.boot_len (pa_cons (pv 1) pa_nil)) pe_int (nomark _))
        (pss_one (ps_ret (pe_tup (pa_cons (pe_callTy call_tupS (by rfl) mt (by decide +kernel) (pa_cons (pv 0) pa_nil)) (pa_cons (pe_tup pa_nil) pa_nil))))) pss_nil)
      (pss_cons (ps_set (i := 2) scLR.nd rfl (.inl rfl) (pe_call GS hr (by rfl) gS FS.kp bS .nil pass0 (pa_cons (pe_callTy call_tupS (by rfl) mt (by decide +kernel) (pa_cons (pv 1) pa_nil)) pa_nil)))
      (pss_cons (ps_set (i := 3) scLR.nd rfl (.inl rfl) (pe_call GP hr (by rfl) gP FP.kp bP .nil pass0 (pa_cons (pv 0) (pa_cons (pv 2) pa_nil))))
      (pss_cons (ps_set (i := 4) scLR.nd rfl (.inl rfl) (pe_op op_mod (pe_un un_neg (pv 3)) (pe_callB call_lenQ (by rfl) ml PySem.boot_len (pa_cons (pv 2) pa_nil))))
      (pss_one (ps_ret (pe_tup (pa_cons (pe_callTy call_tupS (by rfl) mt (by decide +kernel) (pa_cons (pe_slice sl_seqS (pv 0) po_none (po_some (pe_op op_sub (pe_callB call_lenQ (by rfl) ml PySem.boot_len (pa_cons (pv 0) pa_nil)) (pv 3)))) pa_nil))
        (pa_cons (pe_op op_catS (pe_slice sl_tupS (pv 2) (po_some (pv 4)) po_none) (pe_slice sl_tupS (pv 2) po_none (po_some (pv 4)))) pa_nil)))))))), ?_⟩
    refine ⟨.ref t, rfl, t, _, rfl, hT, rfl, _, rfl, ite2 (fun e => ?_) (fun e => ?_)⟩
    · have e1 : (((ts.map V.int).length : Nat) : Int) = 0 := V.int.inj (of_decide_eq_true e)
      rw [List.length_map] at e1
      have e2 : ts = [] := List.eq_nil_of_length_eq_zero (by omega)
      subst e2
      refine ⟨.ref l, rfl, l, _, rfl, hL, fun a H1 s1 ha => ?_⟩
      refine ⟨Nat.zero_le _, fun b nb => ?_⟩
      refine ⟨(show (2 : Nat) ≤ sizeLine by decide), fun p np => ?_⟩
      have s2 := same_upd (o := .tup []) nb
      have s3 := same_upd (o := .tup [.ref a, .ref b]) np
      exact q _ p xs [] ((s1.trans s2).trans s3) (.inl ⟨rfl, rfl, rfl⟩) ⟨a, b, SqT.of upd_same, Same.tup (s2.trans s3) ha, Same.tup s3 (SqT.of upd_same)⟩
    · have hne : ts ≠ [] := fun z => e (by rw [z]; rfl)
      refine ⟨.ref t, rfl, t, _, rfl, hT, fun t2 H1 s1 ht2 => ?_⟩
      refine ⟨t2, ts, rfl, ht2, hne, h2, fun H2 p2 m s2 hper hp2 => ?_⟩
      have hp := hper.pos
      have hle := hper.le
      have hw : (ts.take m).length = m := by rw [List.length_take]; omega
      have hwne : ts.take m ≠ [] := fun z => by rw [z] at hw; simp at hw; omega
      refine ⟨.ref l, rfl, .ref p2, rfl, l, p2, xs, ts.take m, rfl, same_any (s1.trans s2) hL, hp2, hwne, fun n hsp => ?_⟩
      have hn := hsp.tail.1
      refine ⟨.int n, rfl, _, rfl, .ref p2, rfl, p2, _, rfl, .inr hp2, _, _, rfl, rfl, ?_, ?_⟩
      · show (0 : Int) < ((((ts.take m).map V.int).length : Nat) : Int)
        rw [List.length_map]
        omega
      obtain ⟨st, est⟩ : ∃ st : Nat, (-(n : Int)) % ((((ts.take m).map V.int).length : Nat) : Int) = (st : Int) ∧ st = ((-(n : Int)) % ((ts.take m).length : Int)).toNat := ⟨_, by rw [List.length_map]; exact (Int.toNat_of_nonneg (Int.emod_nonneg _ (by omega))).symm, rfl⟩
      have el : (((xs.map V.int).length : Nat) : Int) - (n : Int) = ((xs.length - n : Nat) : Int) := by rw [List.length_map]; omega
      refine ⟨.ref l, rfl, .ref l, rfl, l, _, rfl, same_any (s1.trans s2) hL, .int n, rfl, _, _, rfl, rfl, _, rfl, l, _, rfl, same_any (s1.trans s2) hL, fun c1 H3 s3 hc1 => ?_⟩
      rw [el, cutV_to, ← List.map_take] at hc1
      refine ⟨c1, _, rfl, hc1, fun c2 H4 s4 hc2 => ?_⟩
      refine ⟨.ref p2, rfl, _, rfl, _, rfl, p2, _, rfl, Same.tup (s3.trans s4) hp2, fun d1 H5 s5 hd1 => ?_⟩
      refine ⟨.ref p2, rfl, _, rfl, _, rfl, p2, _, rfl, Same.tup ((s3.trans s4).trans s5) hp2, fun d2 H6 s6 hd2 => ?_⟩
      rw [est.1, cutV_from, ← List.map_drop] at hd1
      rw [est.1, cutV_to, ← List.map_take] at hd2
      refine ⟨d1, d2, _, _, rfl, rfl, Same.tup s6 hd1, hd2, ?_, fun d3 H7 s7 hd3 => ?_⟩
      · simp only [List.length_map, List.length_drop, List.length_take]
        exact Nat.le_of_lt (small1000 (by omega))
      · rw [← List.map_append, est.2, rot_cut (by omega)] at hd3
        refine ⟨(show (2 : Nat) ≤ sizeLine by decide), fun p np => ?_⟩
        have s8 := same_upd (o := .tup [.ref c2, .ref d3]) np
        exact q _ p _ _ (((((((s1.trans s2).trans s3).trans s4).trans s5).trans s6).trans s7).trans s8) (.inr ⟨hne, m, n, hper, hsp, rfl, rfl⟩) ⟨c2, d3, SqT.of upd_same, Same.tup (((s5.trans s6).trans s7).trans s8) hc2, Same.tup s8 hd3⟩
end
/-! ### _law_seen -/
def seenV (xs ts : List Int) (z : Int) : V := if 0 ≤ z ∧ z < (xs.length : Int) then .int (xs.getD z.toNat 0) else if z < 0 ∨ ts = [] then .non else .int (cyc ts (z - xs.length))
theorem seenV_of {xs ts : List Int} {d : Nat} {v : Int} (h : seenO xs ts d = some v) : seenV xs ts (d : Int) = .int v := by
  unfold seenO at h
  unfold seenV
  by_cases hd : d < xs.length
  · rw [if_pos hd] at h
    rw [if_pos ⟨by omega, by omega⟩, Int.toNat_natCast, List.getD_eq_getElem?_getD, h]
    rfl
  · rw [if_neg hd] at h
    by_cases ht : ts = []
    · rw [if_pos ht] at h
      cases h
    · rw [if_neg ht] at h
      rw [if_neg (by omega), if_neg (by intro z; rcases z with z | z; exact absurd z (by omega); exact ht z), Option.some.inj h]
abbrev sSeen : Stmt := topS 49
theorem scSeen : FnScope ["_law_row", "_law_depth", "_law_lead", "_law_turn"] ["_law_row", "_law_depth"] (defScope sSeen) := ⟨rfl, rfl, rfl, by decide +kernel, rfl, by decide +kernel, by decide +kernel⟩
def spSeen (K : PySem.W.Frag) : Sp := fun vs H Q _ => ∃ (r la ta : Addr) (xs ts : List Int) (z : Int), vs = [.ref r, .int z] ∧ SqT K H r [.ref la, .ref ta] ∧ SqL K H la (xs.map V.int) ∧ SqL K H ta (ts.map V.int) ∧ ∀ H', Same H H' → Q (seenV xs ts z) H'
section
variable {P : Program} {w : World} {K : PySem.W.Frag} {mg : Str → Option Value} {base : Heap}
theorem ok_seen {f : Addr} {fd : FuncData} {k : Nat} (F : Fun K "_law_seen" "_law_seen" sSeen f fd) (ml : mg "len" = none) : FnOk P w K mg base CX0 (k + 1) f fd ["_law_row", "_law_depth"] (spSeen K) := by
  refine F.ok scSeen (fun vs H Q E h => ?_) (fun cdv A outer s H vs Q E hr h => ?_)
  · obtain ⟨r, la, ta, xs, ts, z, rfl, _⟩ := h
    rfl
  · obtain ⟨r, la, ta, xs, ts, z, rfl, hR, hL, hT, q⟩ := h
    refine ⟨_, pss_cons (ps_asg (pv 0) (pg_tup rfl (pgs_cons (pg_name (i := 2) scSeen.nd rfl (.inl rfl)) (pgs_cons (pg_name (i := 3) scSeen.nd rfl (.inl rfl)) pgs_nil))))
      (pss_cons (ps_if (pt_chain op_le op_lt pe_int (pv 1) (pe_callB call_lenQ (by rfl) ml PySem.boot_len (pa_cons (pv 2) pa_nil))) (pss_one (ps_ret (pe_ix ix_list (pv 2) (pv 1) (fun _ _ => rfl)))) pss_nil)
      (pss_cons (ps_if (PW.pt (pw_or (pt_cmpR op_lt (pv 1) pe_int (nomark _)) (pw_or1 (pt_cmpR (op_eqD hr.units) (pv 3) (pe_lst pa_nil) (nomark _))))) (pss_one (ps_ret pe_non)) pss_nil)
      (pss_one (ps_ret (pe_ix ix_list (pv 3) (pe_op op_mod (pe_op op_sub (pv 1) (pe_callB call_lenQ (by rfl) ml PySem.boot_len (pa_cons (pv 2) pa_nil))) (pe_callB call_lenQ (by rfl) ml PySem.boot_len (pa_cons (pv 3) pa_nil))) (fun _ _ => rfl)))))), ?_⟩
    refine ⟨.ref r, rfl, r, _, rfl, hR, rfl, .ref la, _, rfl, .ref ta, _, rfl, rfl, ?_⟩
    refine ⟨.int z, rfl, 0, z, rfl, rfl, _, rfl, ite2 (fun e1 => ?_) (fun e1 => ?_)⟩
    · refine ⟨.ref la, rfl, la, _, rfl, .inl hL, z, _, rfl, rfl, _, rfl, ite2 (fun e2 => ?_) (fun e2 => ?_)⟩
      · have a1 : 0 ≤ z := of_decide_eq_true e1
        have a2 := of_decide_eq_true e2
        rw [List.length_map] at a2
        obtain ⟨n, rfl⟩ := Int.eq_ofNat_of_zero_le a1
        have hn : n < xs.length := by omega
        refine ⟨.ref la, rfl, .int n, rfl, la, _, _, .int xs[n], rfl, rfl, hL, atI_nat (by rw [List.getElem?_map, List.getElem?_eq_getElem hn]; rfl), ?_⟩
        have := q H (Same.refl H)
        unfold seenV at this
        rw [if_pos ⟨by omega, by omega⟩, Int.toNat_natCast, List.getD_eq_getElem?_getD, List.getElem?_eq_getElem hn] at this
        exact this
      · have a1 : 0 ≤ z := of_decide_eq_true e1
        have a2 : ¬ z < (((xs.map V.int).length : Nat) : Int) := fun h => e2 (decide_eq_true h)
        rw [List.length_map] at a2
        refine ⟨.int z, rfl, _, _, rfl, rfl, _, rfl, ite2 (fun e3 => absurd (of_decide_eq_true e3) (show ¬ z < 0 by omega)) (fun e3 => ?_)⟩
        refine ⟨.ref ta, rfl, Nat.zero_le _, fun p np => ?_⟩
        have s1 := same_upd (o := .lst []) np
        refine ⟨_, _, dpL (s1.seq hT), dpL (ns := []) (SqL.of upd_same), shL _, shL _, ?_⟩
        rw [eqvL]
        refine ⟨_, rfl, ite2 (fun e4 => ?_) (fun e4 => ?_)⟩
        · have ht : ts = [] := of_decide_eq_true e4
          have := q _ s1
          unfold seenV at this
          rw [if_neg (by omega), if_pos (.inr ht)] at this
          exact this
        · have ht : ts ≠ [] := fun h => e4 (decide_eq_true h)
          have hl : 0 < ts.length := List.length_pos_iff.mpr ht
          refine ⟨.ref ta, rfl, .int z, rfl, .ref la, rfl, la, _, rfl, .inl (s1.seq hL), _, _, rfl, rfl, .ref ta, rfl, ta, _, rfl, .inl (s1.seq hT), _, _, rfl, rfl, ?_, ta, _, _, .int (cyc ts (z - xs.length)), rfl, rfl, s1.seq hT, ?_, ?_⟩
          · show (0 : Int) < (((ts.map V.int).length : Nat) : Int)
            rw [List.length_map]
            omega
          · have a3 := cyc_get hl (z - xs.length)
            have a4 := Int.toNat_of_nonneg (Int.emod_nonneg (z - xs.length) (b := (ts.length : Int)) (by omega))
            show atI (ts.map V.int) ((z - (((xs.map V.int).length : Nat) : Int)) % (((ts.map V.int).length : Nat) : Int)) = _
            rw [List.length_map, List.length_map, ← a4]
            refine atI_nat ?_
            rw [List.getElem?_map, a3]
            rfl
          · have := q _ s1
            unfold seenV at this
            rw [if_neg (by omega), if_neg (by intro y; rcases y with y | y; exact absurd y (by omega); exact ht y)] at this
            exact this
    · have a1 : ¬ 0 ≤ z := fun h => e1 (decide_eq_true h)
      refine ⟨_, rfl, iteF ?_⟩
      refine ⟨.int z, rfl, _, _, rfl, rfl, _, rfl, ite2 (fun e3 => ?_) (fun e3 => absurd (decide_eq_true (show z < 0 by omega)) e3)⟩
      refine iteT ?_
      have := q H (Same.refl H)
      unfold seenV at this
      rw [if_neg (by omega), if_pos (.inl (by omega))] at this
      exact this
end
/-! ### _law_least -/
abbrev sLst : Stmt := topS 50
abbrev nLst : List Str := ["_law_row", "_law_lead", "_law_turn", "_law_sizes", "_law_period", "_law_begin", "_law_size", "_law_k"]
theorem scLst : FnScope nLst ["_law_row"] (defScope sLst) := ⟨rfl, rfl, rfl, by decide +kernel, rfl, by decide +kernel, by decide +kernel⟩
def spLst (K : PySem.W.Frag) : Sp := fun vs H Q _ => ∃ (r la ta : Addr) (xs ts : List Int), vs = [.ref r] ∧ SqT K H r [.ref la, .ref ta] ∧ SqL K H la (xs.map V.int) ∧ SqL K H ta (ts.map V.int) ∧ xs.length ≤ 1000 ∧ ts.length ≤ 1000 ∧
  ∀ H' p c d, Same H H' → LR xs ts c d → RowAt K H' p c d → Q (.ref p) H'
/-- the first of those that are good is the least -/
theorem first_per {ts : List Int} {sz : List Nat} {p : Nat} {r : List Nat} (h : sz = good (fun q => decide (ts.length % q = 0)) ts.length) (e : sz.filter (fun q => decide ((List.replicate (ts.length / q) (ts.take q)).flatten = ts)) = p :: r) : IsPer ts p := by
  have mem : ∀ q, q ∈ p :: r ↔ 1 ≤ q ∧ q ≤ ts.length ∧ isP ts q := fun q => by
    rw [← e, List.mem_filter, h, good_mem]
    unfold isP
    simp only [decide_eq_true_eq]
    constructor
    · rintro ⟨⟨a, b, c⟩, d⟩
      exact ⟨a, b, c, d⟩
    · rintro ⟨a, b, c, d⟩
      exact ⟨⟨a, b, c⟩, d⟩
  have srt : (p :: r).Pairwise (· < ·) := by
    rw [← e, h]
    unfold good
    refine List.Pairwise.filter _ (List.Pairwise.filter _ ?_)
    rw [List.pairwise_map]
    exact List.pairwise_lt_range.imp (fun h => by omega)
  obtain ⟨a, b, c⟩ := (mem p).mp List.mem_cons_self
  refine ⟨a, b, c, fun q q1 q2 q3 => ?_⟩
  rcases List.mem_cons.mp ((mem q).mpr ⟨q1, q2, q3⟩) with rfl | h2
  · exact Nat.le_refl _
  · exact Nat.le_of_lt (List.rel_of_pairwise_cons srt h2)
section
variable {P : Program} {w : World} {K : PySem.W.Frag} {mg : Str → Option Value} {base : Heap}
theorem ok_lst {f fS : Addr} {fd fdS : FuncData} {k : Nat} (F : Fun K "_law_least" "_law_least" sLst f fd) (ml : mg "len" = none) (mt : mg "tuple" = none) (mr : mg "range" = none)
    (FS : Fun K "_law_seen" "_law_seen" sSeen fS fdS) (bS : Binds K fdS ["_law_row", "_law_depth"] []) (gS : mg "_law_seen" = some (.ref fS)) : FnOk P w K mg base CX0 (k + 2) f fd ["_law_row"] (spLst K) := by
  have GS : FnOk P w K mg base CX0 (k + 1) fS fdS ["_law_row", "_law_depth"] (spSeen K) := ok_seen FS ml
  refine F.ok scLst (fun vs H Q E h => ?_) (fun cdv A outer s H vs Q E hr h => ?_)
  · obtain ⟨r, la, ta, xs, ts, rfl, _⟩ := h
    rfl
  · obtain ⟨r, la, ta, xs, ts, rfl, hR, hL, hT, h1, h2, q⟩ := h
    refine ⟨_, pss_cons (ps_asg (pv 0) (pg_tup rfl (pgs_cons (pg_name (i := 1) scLst.nd rfl (.inl rfl)) (pgs_cons (pg_name (i := 2) scLst.nd rfl (.inr rfl)) pgs_nil))))
      (pss_cons (ps_if (pt_cmpR (op_eqD hr.units) (pv 2) (pe_lst pa_nil) (nomark _)) (pss_one (ps_ret (pe_tup (pa_cons (pe_callTy call_tupS (by rfl) mt (by decide +kernel) (pa_cons (pv 1) pa_nil)) (pa_cons (pe_tup pa_nil) pa_nil))))) pss_nil)
      (pss_cons (ps_setLc (i := 3) (own := [("_law_size", 6)]) (g := gName 6) rfl scLst.nd rfl rfl (sw_true rfl rfl rfl (by decide +kernel)) (pi_range2 (by rfl) mr (pa_cons pe_int (pa_cons (pe_op op_add (pe_callB call_lenQ (by rfl) ml PySem.boot_len (pa_cons (pv 2) pa_nil)) pe_int) pa_nil)))
        (blkOk_by (own := [("_law_size", 6)]) (N := nLst) (sc := defScope sLst) (by decide +kernel)) (fun _ _ _ _ _ => pg_name (i := 6) scLst.nd rfl (Or.inl rfl))
        (fun _ _ _ _ _ => pts_one (pt_cmpR op_eq (pe_op op_mod (pe_callB (r := rLenQ K) call_lenQ (by rfl) ml PySem.boot_len (pa_cons (pv 2) pa_nil)) (pv 6)) pe_int (nomark _)))
        (fun _ _ _ _ _ => pv 6))
      (pss_cons (ps_set (i := 4) scLst.nd rfl (.inl rfl) (pe_ix ix_list (pe_lc (own := [("_law_size", 6)]) (g := gName 6) rfl scLst.nd (pi_list (pv 3))
        (blkOk_by (own := [("_law_size", 6)]) (N := nLst) (sc := defScope sLst) (by decide +kernel)) (fun _ _ _ _ _ => pg_name (i := 6) scLst.nd rfl (Or.inl rfl))
        (fun _ _ _ _ _ => pts_one (pt_cmpR (r := rEqD K) (op_eqD hr.units) (pe_op op_rep (pe_slice (r := rSlL K) sl_list (pv 2) po_none (po_some (pv 6))) (pe_op op_fdivW (pe_callB (r := rLenQ K) call_lenQ (by rfl) ml PySem.boot_len (pa_cons (pv 2) pa_nil)) (pv 6))) (pv 2) (nomark _)))
        (fun _ _ _ _ _ => pv 6)) pe_int (fun _ _ => rfl)))
      (pss_cons (ps_set (i := 5) scLst.nd rfl (.inr rfl) (pe_callB call_lenQ (by rfl) ml PySem.boot_len (pa_cons (pv 1) pa_nil)))
      (pss_cons (ps_while PassesOwn.never (PW.pt (pw_and (pt_cmpR op_gt (pv 5) pe_int (nomark _)) (pw_and1 (pt_cmpR op_eq (pe_ix ix_list (pv 1) (pe_op op_sub (pv 5) pe_int) (fun _ _ => rfl)) (pe_call GS hr (by rfl) gS FS.kp bS .nil pass0 (pa_cons (pv 0) (pa_cons (pe_op op_add (pe_op op_sub (pv 5) pe_int) (pv 4)) pa_nil))) (nomark _)))))
        (pss_one (ps_set (i := 5) scLst.nd rfl (.inr rfl) (pe_op op_sub (pv 5) pe_int))))
      (pss_one (ps_ret (pe_tup (pa_cons (pe_callTy call_tupS (by rfl) mt (by decide +kernel) (pa_cons (pe_slice sl_list (pv 1) po_none (po_some (pv 5))) pa_nil))
        (pa_cons (pe_callTy call_tupS (by rfl) mt (by decide +kernel) (pa_cons (pe_lc (own := [("_law_k", 7)]) (g := gName 7) (tt := tYes) rfl scLst.nd (pi_range1 (by rfl) mr (pa_cons (pv 4) pa_nil))
          (blkOk_by (own := [("_law_k", 7)]) (N := nLst) (sc := defScope sLst) (by decide +kernel)) (fun _ _ _ _ _ => pg_name (i := 7) scLst.nd rfl (Or.inl rfl)) (fun _ _ _ _ _ => pts_nil)
          (fun _ _ _ _ _ => pe_call GS hr (by rfl) gS FS.kp bS .nil pass0 (pa_cons (pv 0) (pa_cons (pe_op op_add (pv 5) (pv 7)) pa_nil)))) pa_nil)) pa_nil)))))))))), ?_⟩
    refine ⟨.ref r, rfl, r, _, rfl, hR, rfl, .ref la, _, rfl, .ref ta, _, rfl, rfl, ?_⟩
    refine ⟨.ref ta, rfl, Nat.zero_le _, fun p np => ?_⟩
    have s1 := same_upd (o := .lst []) np
    refine ⟨_, _, dpL (s1.seq hT), dpL (ns := []) (SqL.of upd_same), shL _, shL _, ?_⟩
    rw [eqvL]
    generalize upd H p (.lst []) = H1 at s1 ⊢
    refine ⟨_, rfl, ite2 (fun e => ?_) (fun e => ?_)⟩
    · have ht : ts = [] := of_decide_eq_true e
      subst ht
      refine ⟨.ref la, rfl, la, _, rfl, .inl (s1.seq hL), fun a H2 s2 ha => ?_⟩
      refine ⟨Nat.zero_le _, fun b nb => ?_⟩
      refine ⟨(show (2 : Nat) ≤ sizeLine by decide), fun p9 np9 => ?_⟩
      have s3 := same_upd (o := .tup []) nb
      have s4 := same_upd (o := .tup [.ref a, .ref b]) np9
      exact q _ p9 xs [] (((s1.trans s2).trans s3).trans s4) (.inl ⟨rfl, rfl, rfl⟩) ⟨a, b, SqT.of upd_same, Same.tup (s3.trans s4) ha, Same.tup s4 (SqT.of upd_same)⟩
    · have hne : ts ≠ [] := fun h => e (decide_eq_true h)
      have hlen : 0 < ts.length := List.length_pos_iff.mpr hne
      refine ⟨.ref ta, rfl, ta, _, rfl, .inl (s1.seq hT), _, _, rfl, rfl, 1, _, rfl, ⟨by decide, by decide, by omega, by rw [List.length_map]; omega⟩, fun D nD => ?_⟩
      have en : ((((ts.map V.int).length : Nat) : Int) + 1 - 1).toNat = ts.length := by rw [List.length_map]; omega
      rw [en]
      refine lc_range (lo := 1) (n := ts.length) (fun i H' => Same H1 H' ∧ H' D = some (.lst ((nI (good (fun q => decide (ts.length % q = 0)) i)).map V.int))) ⟨same_upd nD, upd_same⟩ (fun i H' hi hP => ?_) (fun H2 hP => ?_)
      · obtain ⟨sm, hD⟩ := hP
        have e1 : (1 : Int) + (i : Int) = ((i + 1 : Nat) : Int) := by omega
        refine ⟨rfl, ?_⟩
        rw [e1]
        refine ⟨.ref ta, rfl, ta, _, rfl, .inl ((s1.trans sm).seq hT), _, rfl, _, _, rfl, rfl, (show (0 : Int) < ((i + 1 : Nat) : Int) by omega), rfl, _, rfl, ite2 (fun e => ?_) (fun e => ?_)⟩
        · have e2 : (((ts.map V.int).length : Nat) : Int) % ((i + 1 : Nat) : Int) = 0 := V.int.inj (of_decide_eq_true e)
          rw [List.length_map, ← Int.natCast_emod] at e2
          refine ⟨_, rfl, _, hD, ?_, Same.offUpd sm nD, ?_⟩
          · have := good_len (fun q => decide (ts.length % q = 0)) i
            unfold nI
            rw [List.length_map, List.length_map]
            exact small1000 (by omega)
          · rw [upd_same, good_succ, if_pos (decide_eq_true (by omega))]
            unfold nI
            rw [List.map_append, List.map_append]
            rfl
        · refine ⟨sm, ?_⟩
          rw [good_succ, if_neg, List.append_nil]
          · exact hD
          · intro z
            apply e
            rw [decide_eq_true_eq] at z ⊢
            show V.int ((((ts.map V.int).length : Nat) : Int) % ((i + 1 : Nat) : Int)) = V.int 0
            rw [List.length_map, ← Int.natCast_emod, z]
            rfl
      · obtain ⟨sm2, hD⟩ := hP
        have s2 := s1.trans sm2
        obtain ⟨sz, hsz⟩ : ∃ sz, sz = good (fun q => decide (ts.length % q = 0)) ts.length := ⟨_, rfl⟩
        rw [← hsz] at hD
        have szl : sz.length ≤ 1000 := by
          have := good_len (fun q => decide (ts.length % q = 0)) ts.length
          rw [hsz]
          omega
        refine ⟨.ref D, rfl, D, rfl, ⟨_, SqL.of hD⟩, fun D2 nD2 => ?_⟩
        refine lc_list (K := K) (a := D) (xs := (nI sz).map V.int) (fun i H' => Same H2 H' ∧ H' D2 = some (.lst ((nI ((sz.take i).filter (fun q => decide ((List.replicate (ts.length / q) (ts.take q)).flatten = ts)))).map V.int))) ⟨same_upd nD2, by rw [upd_same]; rfl⟩ (fun i H' _ hP => SqL.of (hP.1 _ _ hD)) (fun i x H' hx hP => ?_) (fun H3 hP => ?_)
        · obtain ⟨sm, hD2⟩ := hP
          have s3 := s2.trans sm
          have hi : i < sz.length := by
            have := (List.getElem?_eq_some_iff.mp hx).1
            unfold nI at this
            rw [List.length_map, List.length_map] at this
            exact this
          have ex : x = .int (sz[i] : Nat) := by
            unfold nI at hx
            rw [List.getElem?_map, List.getElem?_map, List.getElem?_eq_getElem hi] at hx
            exact (Option.some.inj hx).symm
          subst ex
          obtain ⟨m, hm⟩ : ∃ m, m = sz[i] := ⟨_, rfl⟩
          have hmem : m ∈ sz := by rw [hm]; exact List.getElem_mem hi
          rw [hsz] at hmem
          obtain ⟨m1, m2, m3⟩ := good_mem.mp hmem
          have m3 : ts.length % m = 0 := of_decide_eq_true m3
          have hk2 : ts.length / m ≤ ts.length := Nat.div_le_self _ _
          rw [← hm]
          refine ⟨rfl, .ref ta, rfl, .int (m : Nat), rfl, m, rfl, ta, _, rfl, s3.seq hT, fun p1 np1 => ?_⟩
          rw [cutV_to, ← List.map_take]
          have v1 := same_upd (o := .lst ((ts.take m).map V.int)) np1
          refine ⟨.ref ta, rfl, ta, _, rfl, .inl ((s3.trans v1).seq hT), .int (m : Nat), rfl, _, _, rfl, rfl, wide_div (b := 200) (by omega) ?_ (by decide) (by decide), ?_⟩
          · rw [Int.natAbs_natCast]
            exact Nat.lt_of_le_of_lt (show m ≤ 1000 by omega) (by decide)
          have ek : (((ts.map V.int).length : Nat) : Int) / (m : Int) = ((ts.length / m : Nat) : Int) := by
            rw [List.length_map]
            exact (Int.natCast_ediv _ _).symm
          refine ⟨p1, (((ts.map V.int).length : Nat) : Int) / (m : Int), _, rfl, rfl, upd_same, by rw [ek]; exact Int.le_trans (by decide) (Int.natCast_nonneg _), by rw [ek]; omega, ?_, fun p2 np2 => ?_⟩
          · rw [ek, Int.toNat_natCast, List.length_map, List.length_take, Nat.min_eq_left m2]
            have := Nat.div_mul_le_self ts.length m
            rw [Nat.mul_comm]
            exact Nat.le_of_lt (small1000 (by omega))
          rw [ek, Int.toNat_natCast, flat_map]
          have v2 := same_upd (o := .lst (((List.replicate (ts.length / m) (ts.take m)).flatten).map V.int)) np2
          refine ⟨.ref ta, rfl, _, _, dpL (SqL.of upd_same), dpL (((s3.trans v1).trans v2).seq hT), shL _, shL _, ?_⟩
          rw [eqvL]
          have w2 := sm.trans (v1.trans v2)
          have w3 := (v1.trans v2) _ _ hD2
          generalize upd (upd H' p1 (.lst ((ts.take m).map V.int))) p2 (.lst (((List.replicate (ts.length / m) (ts.take m)).flatten).map V.int)) = H4 at w2 w3 ⊢
          refine ⟨_, rfl, ite2 (fun e => ?_) (fun e => ?_)⟩
          · refine ⟨_, rfl, _, w3, ?_, Same.offUpd w2 nD2, ?_⟩
            · unfold nI
              rw [List.length_map, List.length_map]
              have := List.length_filter_le (fun q => decide ((List.replicate (ts.length / q) (ts.take q)).flatten = ts)) (sz.take i)
              rw [List.length_take] at this
              exact small1000 (by omega)
            · rw [upd_same, List.take_add_one, List.getElem?_eq_getElem hi, ← hm, List.filter_append]
              have : List.filter (fun q => decide ((List.replicate (ts.length / q) (ts.take q)).flatten = ts)) (some m).toList = [m] := by
                show List.filter _ [m] = [m]
                rw [List.filter_cons, if_pos e]
                rfl
              rw [this]
              unfold nI
              rw [List.map_append, List.map_append]
              rfl
          · refine ⟨w2, ?_⟩
            rw [List.take_add_one, List.getElem?_eq_getElem hi, ← hm, List.filter_append]
            have : List.filter (fun q => decide ((List.replicate (ts.length / q) (ts.take q)).flatten = ts)) (some m).toList = [] := by
              show List.filter _ [m] = []
              rw [List.filter_cons, if_neg e]
              rfl
            rw [this, List.append_nil]
            exact w3
        · obtain ⟨sm3, hD2⟩ := hP
          have s3 := s2.trans sm3
          rw [show ((nI sz).map V.int).length = sz.length by unfold nI; rw [List.length_map, List.length_map], List.take_length] at hD2
          have hmem : ts.length ∈ sz.filter (fun q => decide ((List.replicate (ts.length / q) (ts.take q)).flatten = ts)) := by
            rw [List.mem_filter, hsz, good_mem]
            exact ⟨⟨hlen, Nat.le_refl _, decide_eq_true (isP_self hne).1⟩, decide_eq_true (isP_self hne).2⟩
          obtain ⟨p0, rest, hp0⟩ : ∃ p0 rest, sz.filter (fun q => decide ((List.replicate (ts.length / q) (ts.take q)).flatten = ts)) = p0 :: rest := by
            cases hh : sz.filter (fun q => decide ((List.replicate (ts.length / q) (ts.take q)).flatten = ts)) with
            | nil => rw [hh] at hmem; cases hmem
            | cons a b => exact ⟨a, b, rfl⟩
          have hper : IsPer ts p0 := first_per hsz hp0
          have hp1 := hper.pos
          have hp2 := hper.le
          have hw : (ts.take p0).length = p0 := by rw [List.length_take]; omega
          rw [hp0] at hD2
          refine ⟨D2, _, 0, .int (p0 : Nat), rfl, rfl, SqL.of hD2, atI_nat (j := 0) rfl, ?_⟩
          refine ⟨.ref la, rfl, la, _, rfl, .inl (s3.seq hL), ?_⟩
          refine ⟨fun m σ H' => ∃ n : Nat, σ = [some (.ref r), some (.ref la), some (.ref ta), some (.ref D), some (.int (p0 : Nat)), some (.int ((xs.length - n : Nat) : Int)), none, none] ∧ Same H H' ∧ Tail xs (ts.take p0) n ∧ m = xs.length - n, ⟨xs.length, 0, by rw [List.length_map]; rfl, s3, ⟨Nat.zero_le _, fun j hj => by omega⟩, by omega⟩, ?_⟩
          rintro m σ H' ⟨n, rfl, sm, hTl, rfl⟩
          have hn := hTl.1
          refine ⟨.int ((xs.length - n : Nat) : Int), rfl, _, _, rfl, rfl, _, rfl, ite2 (fun e => ?_) (fun e => ?_)⟩
          · have e1 : (0 : Int) < ((xs.length - n : Nat) : Int) := of_decide_eq_true e
            have hx : xs.length - 1 - n < xs.length := by omega
            have ev : seenV xs ts (((xs.length - n : Nat) : Int) - 1 + (p0 : Int)) = .int (cyc (ts.take p0) (-1 - (n : Int))) := by
              rw [show ((xs.length - n : Nat) : Int) - 1 + (p0 : Int) = ((xs.length - n + (p0 - 1) : Nat) : Int) by omega, seenV_of (seen_tail hper hTl (p0 - 1))]
              have := cyc_add (ts.take p0) (-1 - (n : Int))
              rw [hw] at this
              rw [← this]
              congr 2
              omega
            have eb : ((xs.length - n : Nat) : Int) - 1 = ((xs.length - 1 - n : Nat) : Int) := by omega
            refine ⟨.ref la, rfl, .int ((xs.length - n : Nat) : Int), rfl, _, _, rfl, rfl, la, _, ((xs.length - n : Nat) : Int) - 1, .int xs[xs.length - 1 - n], rfl, rfl, sm.seq hL, by rw [eb]; exact atI_nat (by rw [List.getElem?_map, List.getElem?_eq_getElem hx]; rfl), ?_⟩
            refine ⟨.ref r, rfl, .int ((xs.length - n : Nat) : Int), rfl, _, _, rfl, rfl, .int (p0 : Nat), rfl, _, _, rfl, rfl, r, la, ta, xs, ts, ((xs.length - n : Nat) : Int) - 1 + (p0 : Int), rfl, Same.tup sm hR, sm.seq hL, sm.seq hT, fun H5 sm5 => ?_⟩
            rw [ev]
            refine ⟨rfl, _, rfl, ite2 (fun e2 => ?_) (fun e2 => ?_)⟩
            · have e3 : xs[xs.length - 1 - n] = cyc (ts.take p0) (-1 - (n : Int)) := V.int.inj (of_decide_eq_true e2)
              refine ⟨fun σ' H' => σ' = [some (.ref r), some (.ref la), some (.ref ta), some (.ref D), some (.int (p0 : Nat)), some (.int ((xs.length - (n + 1) : Nat) : Int)), none, none] ∧ Same H H', ?_, .int ((xs.length - n : Nat) : Int), rfl, _, _, rfl, rfl, ?_, sm.trans sm5⟩
              · rintro σ' H6 ⟨rfl, sm6⟩
                refine ⟨xs.length - (n + 1), by omega, n + 1, rfl, sm6, ⟨by omega, fun j hj => ?_⟩, rfl⟩
                by_cases hj2 : j < n
                · exact hTl.2 j hj2
                · obtain rfl : j = n := by omega
                  rw [List.getElem?_eq_getElem hx, e3]
              · rw [show ((xs.length - (n + 1) : Nat) : Int) = ((xs.length - n : Nat) : Int) - 1 by omega]
                rfl
            · have hsp : IsSpare xs (ts.take p0) n := ⟨hTl, fun _ z => e2 (by
                rw [List.getElem?_eq_getElem hx] at z
                rw [Option.some.inj z]
                exact decide_eq_true rfl)⟩
              have sm := sm.trans sm5
              refine ⟨.ref la, rfl, .int ((xs.length - n : Nat) : Int), rfl, _, rfl, la, _, rfl, sm.seq hL, fun a0 na0 => ?_⟩
              rw [cutV_to, ← List.map_take]
              have t1 := same_upd (o := .lst ((xs.take (xs.length - n)).map V.int)) na0
              refine ⟨a0, _, rfl, .inl (SqL.of upd_same), fun a H6 t2 ha => ?_⟩
              refine ⟨.int (p0 : Nat), rfl, (p0 : Nat), rfl, by omega, by omega, fun D3 nD3 => ?_⟩
              have t3 := (sm.trans t1).trans t2
              refine lc_range (lo := 0) (n := ((p0 : Nat) : Int).toNat) (fun i H' => Same H6 H' ∧ H' D3 = some (.lst (((rot (ts.take p0) n).take i).map V.int))) ⟨same_upd nD3, by rw [upd_same]; rfl⟩ (fun i H' hi hP => ?_) (fun H' hP => ?_)
              · obtain ⟨u1, hD3⟩ := hP
                have hi2 : i < p0 := by omega
                have u2 := t3.trans u1
                have ev : seenV xs ts (((xs.length - n : Nat) : Int) + (0 + (i : Int))) = .int (cyc (ts.take p0) ((i : Int) - n)) := by
                  rw [show ((xs.length - n : Nat) : Int) + (0 + (i : Int)) = ((xs.length - n + i : Nat) : Int) by omega]
                  exact seenV_of (seen_tail hper hsp.tail i)
                refine ⟨rfl, yesT ⟨.ref r, rfl, .int ((xs.length - n : Nat) : Int), rfl, .int (0 + (i : Int)), rfl, _, _, rfl, rfl, r, la, ta, xs, ts, ((xs.length - n : Nat) : Int) + (0 + (i : Int)), rfl, Same.tup u2 hR, u2.seq hL, u2.seq hT, fun H7 u3 => ?_⟩⟩
                rw [ev]
                refine ⟨_, u3 _ _ hD3, ?_, Same.offUpd (u1.trans u3) nD3, ?_⟩
                · rw [List.length_map, List.length_take]
                  exact small1000 (by omega)
                · rw [upd_same, List.take_add_one, rot_get (by omega), List.map_append]
                  rfl
              · obtain ⟨u1, hD3⟩ := hP
                rw [Int.toNat_natCast, List.take_of_length_le (by rw [rot_len]; omega)] at hD3
                refine ⟨D3, _, rfl, .inl (SqL.of hD3), fun b H8 u2 hb => ?_⟩
                refine ⟨(show (2 : Nat) ≤ sizeLine by decide), fun p9 np9 => ?_⟩
                have u3 := same_upd (o := .tup [.ref a, .ref b]) np9
                exact q _ p9 _ _ (((t3.trans u1).trans u2).trans u3) (.inr ⟨hne, p0, n, hper, hsp, rfl, rfl⟩) ⟨a, b, SqT.of upd_same, Same.tup ((u1.trans u2).trans u3) ha, Same.tup u3 hb⟩
          · have hsp : IsSpare xs (ts.take p0) n := ⟨hTl, fun z => absurd (decide_eq_true (show (0 : Int) < ((xs.length - n : Nat) : Int) by omega)) e⟩
            refine ⟨.ref la, rfl, .int ((xs.length - n : Nat) : Int), rfl, _, rfl, la, _, rfl, sm.seq hL, fun a0 na0 => ?_⟩
            rw [cutV_to, ← List.map_take]
            have t1 := same_upd (o := .lst ((xs.take (xs.length - n)).map V.int)) na0
            refine ⟨a0, _, rfl, .inl (SqL.of upd_same), fun a H6 t2 ha => ?_⟩
            refine ⟨.int (p0 : Nat), rfl, (p0 : Nat), rfl, by omega, by omega, fun D3 nD3 => ?_⟩
            have t3 := (sm.trans t1).trans t2
            refine lc_range (lo := 0) (n := ((p0 : Nat) : Int).toNat) (fun i H' => Same H6 H' ∧ H' D3 = some (.lst (((rot (ts.take p0) n).take i).map V.int))) ⟨same_upd nD3, by rw [upd_same]; rfl⟩ (fun i H' hi hP => ?_) (fun H' hP => ?_)
            · obtain ⟨u1, hD3⟩ := hP
              have hi2 : i < p0 := by omega
              have u2 := t3.trans u1
              have ev : seenV xs ts (((xs.length - n : Nat) : Int) + (0 + (i : Int))) = .int (cyc (ts.take p0) ((i : Int) - n)) := by
                rw [show ((xs.length - n : Nat) : Int) + (0 + (i : Int)) = ((xs.length - n + i : Nat) : Int) by omega]
                exact seenV_of (seen_tail hper hsp.tail i)
              refine ⟨rfl, yesT ⟨.ref r, rfl, .int ((xs.length - n : Nat) : Int), rfl, .int (0 + (i : Int)), rfl, _, _, rfl, rfl, r, la, ta, xs, ts, ((xs.length - n : Nat) : Int) + (0 + (i : Int)), rfl, Same.tup u2 hR, u2.seq hL, u2.seq hT, fun H7 u3 => ?_⟩⟩
              rw [ev]
              refine ⟨_, u3 _ _ hD3, ?_, Same.offUpd (u1.trans u3) nD3, ?_⟩
              · rw [List.length_map, List.length_take]
                exact small1000 (by omega)
              · rw [upd_same, List.take_add_one, rot_get (by omega), List.map_append]
                rfl
            · obtain ⟨u1, hD3⟩ := hP
              rw [Int.toNat_natCast, List.take_of_length_le (by rw [rot_len]; omega)] at hD3
              refine ⟨D3, _, rfl, .inl (SqL.of hD3), fun b H8 u2 hb => ?_⟩
              refine ⟨(show (2 : Nat) ≤ sizeLine by decide), fun p9 np9 => ?_⟩
              have u3 := same_upd (o := .tup [.ref a, .ref b]) np9
              exact q _ p9 _ _ (((t3.trans u1).trans u2).trans u3) (.inr ⟨hne, p0, n, hper, hsp, rfl, rfl⟩) ⟨a, b, SqT.of upd_same, Same.tup ((u1.trans u2).trans u3) ha, Same.tup u3 hb⟩
end
/-! ### texts: str of whole numbers, join, str of an own class -/
def strI (z : Int) : Str := toString z
theorem strI_small : ∀ n : Nat, n < 1001 → (strI (n : Int)).length ≤ 4 ∧ ((n : Int)).natAbs.log2 < 1920 := by decide +kernel
theorem sum_le {l : List Nat} {m : Nat} (h : ∀ x ∈ l, x ≤ m) : l.sum ≤ l.length * m := by
  induction l with
  | nil => exact Nat.zero_le _
  | cons x r ih =>
    rw [List.sum_cons, List.length_cons, Nat.succ_mul]
    have := h x (List.mem_cons_self ..)
    have := ih fun y hy => h y (List.mem_cons_of_mem _ hy)
    omega
theorem join_len (sep : Str) (l : List Str) : (Txt.join sep l).length ≤ (l.map (·.length)).sum + l.length * sep.length := by
  show (PySem.Builtin.Str.glued sep l).length ≤ _
  rw [StrLaws.glued_eq_join]
  exact StrLaws.join_length_le sep l
def rStrI : List V → Hp → VK → Prop := fun xs H Q => ∃ i, xs = [.int i] ∧ i.natAbs.log2 < 1920 ∧ Q (.str (strI i)) H
theorem call_strI {X : Cx} : CallR X (.type "str") rStrI := call_str_int
abbrev rJoinK (K : PySem.W.Frag) : V → List V → Hp → VK → Prop := fun x xs H Q => ∃ a p, ∃ ys : List Str, x = .str a ∧ xs = [.ref p] ∧ (SqL K H p (ys.map V.str) ∨ SqT K H p (ys.map V.str)) ∧ (ys.map (·.length)).sum + ys.length * a.length ≤ 16777216 ∧ Q (.str (Txt.join a ys)) H
theorem mt_joinK {X : Cx} : MtR X "str.join" (rJoinK X.K) := mt_join
theorem str_app_len (a b : Str) : (a ++ b).length = a.length + b.length := Str.length_append ..
/-! ### the __init__s of the refusals -/
theorem ws_0 {ws : List V} (h : ws.length = 0) : ws = [] := List.length_eq_zero_iff.mp h
theorem ws_1 {ws : List V} (h : ws.length = 1) : ∃ a, ws = [a] := match ws, h with | [a], _ => ⟨a, rfl⟩
theorem ws_2 {ws : List V} (h : ws.length = 2) : ∃ a b, ws = [a, b] := match ws, h with | [a, b], _ => ⟨a, b, rfl⟩
abbrev sI_TearError : Stmt := inClass (topS 1) 0
theorem scI_TearError : FnScope ["self", "word"] ["self", "word"] (defScope sI_TearError) := ⟨rfl, rfl, rfl, by decide +kernel, rfl, by decide +kernel, by decide +kernel⟩
theorem okI_TearError {P : Program} {w : World} {K : PySem.W.Frag} {mg : Str → Option Value} {base : Heap} {f : Addr} {fd : FuncData} {k : Nat} {ds : List V} (F : FunD K "__init__" "TearError.__init__" (defArgs sI_TearError) (defBody sI_TearError) (defScope sI_TearError) ds [] f fd) :
    FnOk P w K mg base CX0 (k + 1) f fd ["self", "word"] (spBase K) := by
  refine F.ok (CX := CX0) scI_TearError (fun vs H Q E h => ?_) (fun cdv A outer s H vs Q E hr h => ?_)
  · obtain ⟨a, C, y, rfl, _⟩ := h
    rfl
  · obtain ⟨a, C, y, rfl, T, hw, ha, q⟩ := h
    refine ⟨_, PSs.nox (pss_one (ps_gst (pv 0) (pv 1) rfl)), ?_⟩
    exact ⟨y, rfl, .ref a, rfl, a, C, rfl, T, hw, .inl ⟨ha, fun dx h1 h2 => q dx h1 h2⟩⟩
abbrev sI_BadText : Stmt := inClass (topS 24) 0
theorem scI_BadText : FnScope ["self", "at"] ["self", "at"] (defScope sI_BadText) := ⟨rfl, rfl, rfl, by decide +kernel, rfl, by decide +kernel, by decide +kernel⟩
theorem okI_BadText {P : Program} {w : World} {K : PySem.W.Frag} {mg : Str → Option Value} {base : Heap} {f C CB fB : Addr} {fd fdB : FuncData} {k : Nat} (F : Fun K "__init__" "BadText.__init__" sI_BadText f fd) (T : OexG K C) (hw : PySem.W.findIn K (.ref C) "word" = some none) (n_at : PySem.W.findIn K (.ref C) "at" = some none)
    (B : CFn K CB "__init__" fB) (GB : FnOk P w K mg base CX0 k fB fdB ["self", "word"] (spBase K)) (bB : Binds K fdB ["self", "word"] []) (mB : mg "TearError" = some (.ref CB)) :
    FnOk P w K mg base CX0 (k + 1) f fd ["self", "at"] (spMade C 1 (fun ws => [("at", ws.getD 0 .non), ("word", .str "BadText")])) := by
  refine F.ok scI_BadText (fun vs H Q E h => ?_) (fun cdv A outer s H vs Q E hr h => ?_)
  · obtain ⟨a, ws, rfl, hl, _⟩ := h
    rw [List.length_cons, hl]
    rfl
  · obtain ⟨a, ws, rfl, hl, ha, q⟩ := h
    obtain ⟨y0, rfl⟩ := ws_1 hl
    refine ⟨_, pss_cons (ps_expr (pe_cfn B GB hr bB .nil pass0 (by rfl) mB (pa_cons (pv 0) (pa_cons pe_str pa_nil)))) (pss_one (ps_gst (pv 0) (pv 1) rfl)), ?_⟩
    refine ⟨.ref a, rfl, a, C, _, rfl, T, hw, ha, fun dx h1 h2 => ?_⟩
    have nn : a ≠ dx := fun z => h2 z.symm
    refine ⟨y0, rfl, .ref a, rfl, a, C, rfl, T, n_at, .inr ⟨dx, _, by rw [upd_same], by rw [upd_ne h2, upd_same], by simp, ?_⟩⟩
    refine q dx _ h1 h2 (fun b b1 b2 => ?_) ?_ ?_
    · rw [upd_ne b2, upd_ne b1, upd_ne b2]
    · rw [upd_ne nn, upd_same]
    · rw [upd_same]
      rfl
/-! ### the refusals by their numbers -/
def rNms : List Str := ["BadColours", "BadFigure", "Meeting", "TooMany", "TooFar", "BadOrder", "OtherColours", "OtherBook", "BadRow", "BadNote", "BadBeneath", "Full", "NoEnd", "NotStanding", "NeverClear", "BadDeed", "BadNumber", "NoBeginning", "Barred", "BadHeights", "BadWeights", "NoMean", "BadText", "NoPad", "NoFigure", "NoNote", "NothingBack", "NothingAgain"]
def rFls : List (List Str) := [["at"], ["at"], ["one", "other"], ["most"], ["most"], [], [], [], ["at"], ["note"], [], ["pad"], ["pad"], ["figure"], ["pad"], [], ["number"], [], ["pad"], ["at"], ["at"], [], ["at"], ["pad"], ["figure"], ["depth"], [], []]
def rNm (i : Nat) : Str := rNms.getD i ""
def rFl (i : Nat) : List Str := rFls.getD i []
/-- the fields of the refusal i with these values -/
def rFs (i : Nat) (ws : List V) : List (Str × V) := ((rFl i).zip ws).reverse ++ [(("word" : Str), V.str (rNm i))]
structure RefsT (K : PySem.W.Frag) (mg : Str → Option Value) (cm : Nat → Addr) : Prop where
  mgC : ∀ i, i < 28 → mg (rNm i) = some (.ref (cm i))
  xf : ∀ i, i < 28 → XfC K (cm i)
  nw : ∀ i, i < 28 → ∀ f ∈ ("word" : Str) :: rFl i, PySem.W.findIn K (.ref (cm i)) f = some none
  sub : ∀ i j, i < 28 → j < 28 → PySem.W.exmOne K (.ref (cm i)) (.ref (cm j)) = some (decide (i = j))
theorem RefsT.any {K : PySem.W.Frag} {mg : Str → Option Value} {cm : Nat → Addr} (T : RefsT K mg cm) {i : Nat} (hi : i < 28) : ∀ (js : List Nat), (∀ j ∈ js, j < 28) → PySem.W.exmAny K (.ref (cm i)) (js.map fun j => .ref (cm j)) = some (js.any fun j => decide (i = j)) := by
  intro js
  induction js with
  | nil => exact fun _ => rfl
  | cons j r ih =>
    intro h
    have a := T.sub i j hi (h j (List.mem_cons_self ..))
    have b := ih fun x hx => h x (List.mem_cons_of_mem _ hx)
    show PySem.W.exmAny K (.ref (cm i)) (.ref (cm j) :: r.map fun j => .ref (cm j)) = _
    unfold PySem.W.exmAny
    rw [a, b]
    rfl
theorem nmT {X : Cx} {K : PySem.W.Frag} {cm : Nat → Addr} {i : Nat} (T : RefsT K X.mg cm) (hi : i < 28) (hg : Gl X (rNm i)) (hd : (rNm i == ("__debug__" : Str)) = false) : Names X (rNm i) (.ref (cm i)) := ⟨hg, hd, .inl (T.mgC i hi)⟩
/-- e.f in an except suite, e a refusal of whatever class -/
def tXfr (K : PySem.W.Frag) (a : Addr) (cls : Value) (d : Option Addr) (f : Str) (te : TE) : TE := fun σ H Q => te σ H fun x H1 => ∃ (C dd : Addr) (fs : List (Str × V)) (v : V), x = .ref a ∧ cls = .ref C ∧ XfC K C ∧ PySem.W.findIn K (.ref C) f = some none ∧ d = some dd ∧ H1 dd = some (.xd fs) ∧ fs.lookup f = some v ∧ Q v H1
theorem pe_xfr {X : Cx} {a : Addr} {oe : Obj} {cls : Value} {d : Option Addr} {pn : List (Addr × Obj)} {e : Expr} {te : TE} {pos : Pos} {f : Str} (hz : Zc cls d oe) (hf : ∃ vs, oe.data = .fields vs) (he : PE (X.suite a ((a, oe) :: pn)) e te)
    (hb : attributeBase e f X.env (eval e X.env) = eval e X.env := by rfl) : PE (X.suite a ((a, oe) :: pn)) (.Attribute e f pos) (tXfr X.K a cls d f te) := by
  refine ⟨fun pins s σ H Q I h => ?_⟩
  refine attr_of hb (thn (he.run pins s σ H _ I h) fun u s1 hh => ?_)
  obtain ⟨x, H1, I1, rx, C, dd, fs, v, rfl, rfl, T, hno, rfl, ea, l, q⟩ := hh
  obtain rfl : u = Value.ref a := rx
  obtain ⟨ha, _⟩ := I1.pin (a, oe) (List.mem_append_left _ List.mem_cons_self)
  obtain ⟨vs, hd⟩ := hf
  have hx : ObjOk X.prog X.w H1 s1.heap dd (.xd fs) := I1.hok dd _ ea
  obtain ⟨mA, hns, hr⟩ := hx
  obtain ⟨od, ho, hl⟩ := lookIn_ns hns
  obtain ⟨u, hu, ru⟩ := RelO.some_of (v := v) (o := mA f) (by rw [← l]; exact hr f)
  have J : PySem.W.InstAt s1.heap a oe C (some od) := ⟨ha, hz.1, by unfold PySem.W.notCls; rw [hd] <;> rfl, by rw [hz.2]; exact ho⟩
  exact HandSPX.exc_get I1.kIn J T.ga T.gg T.exC (PySem.W.findObj_own T.hdC hno rfl (by rw [hl, hu])) (handed_of ru) ⟨v, H1, I1.tok _, ru, q⟩
theorem takes_len {X : Cx} {W : WX} (t : Takes X W) : Takes X (fun cls d σ H => σ.length = X.N.length → W cls d σ H) := fun u s' x => by
  obtain ⟨a, B, sI, pins, σ, H, cls, d, e, I, nb, up, sky, na, os, ag, w⟩ := x
  exact t u s' ⟨a, B, sI, pins, σ, H, cls, d, e, I, nb, up, sky, na, os, ag, w I.len⟩
/-- what _law_tried makes of the lambda's reading -/
def TTried (cm : Nat → Addr) : (XK → Hp → VK → Prop) → Hp → VK → Prop := fun tl H Q =>
  tl (fun cls d H' => ∃ (i : Nat) (ws : List V) (dd : Addr), i < 28 ∧ cls = .ref (cm i) ∧ d = some dd ∧ ws.length = (rFl i).length ∧ H' dd = some (.xd (rFs i ws)) ∧ ∀ p, H' p = none → Q (.ref p) (upd H' p (.tup (.str (rNm i) :: ws)))) H
    (fun v H1 => (2 : Nat) ≤ sizeLine ∧ ∀ p, H1 p = none → Q (.ref p) (upd H1 p (.tup [.str "told", v])))
abbrev sTried : Stmt := topS 56
abbrev nTried : List Str := ["_law_act", "e"]
theorem scTried : FnScope nTried ["_law_act"] (defScope sTried) := ⟨rfl, rfl, rfl, by decide +kernel, rfl, by decide +kernel, by decide +kernel⟩
theorem tried_gives {X : Cx} {cm : Nat → Addr} {g : Addr} {cdg : Value} {q : Str} (T : RefsT X.K X.mg cm) : LamX.GivesTo X nTried "_law_tried" (defScope sTried) g cdg (defBody sTried) "_law_act" q (TTried cm) := by
  intro f c' s H Q tl act hc h
  refine ⟨_, pss_one (ps_try_asN (X := (cxOf C8.CX0 X.prog X.w X.K X.mg X.base nTried "_law_tried" (defScope sTried) g cdg X.A X.stack s H C8.E0).nox) (i := 1) (n := "e")
      (tb := fun W D σ H => ∃ Ech : XK, (∀ cls d (σ' : L2.St) H', Ech cls d H' → σ'.length = 2 → W cls d σ' H') ∧ σ[0]? = some (some (.ref f)) ∧ H c' = some (LamX.CodeO c' q) ∧ tl Ech H (fun v H1 => (2 : Nat) ≤ sizeLine ∧ ∀ p, H1 p = none → D.rt (.ref p) (upd H1 p (.tup [.str "told", v]))))
      rfl rfl scTried.nd rfl rfl LamX.takes0 (fun W pn xe tk _ => ?_)
      (.cons (.tup (.cons (nmT (i := 0) T (by decide) (by rfl) (by decide)) (.cons (nmT (i := 1) T (by decide) (by rfl) (by decide)) (.cons (nmT (i := 8) T (by decide) (by rfl) (by decide)) (.cons (nmT (i := 19) T (by decide) (by rfl) (by decide)) (.cons (nmT (i := 20) T (by decide) (by rfl) (by decide)) (.cons (nmT (i := 22) T (by decide) (by rfl) (by decide)) .nil)))))) (by simp)) (fun a oe cls d pn hz hf => pss_one (ps_ret (pe_tup (pa_cons (pe_xfr hz hf (pv 1)) (pa_cons (pe_xfr hz hf (pv 1)) pa_nil)))))
        (.cons (.one (nmT (i := 2) T (by decide) (by rfl) (by decide))) (fun a oe cls d pn hz hf => pss_one (ps_ret (pe_tup (pa_cons (pe_xfr hz hf (pv 1)) (pa_cons (pe_xfr hz hf (pv 1)) (pa_cons (pe_xfr hz hf (pv 1)) pa_nil))))))
        (.cons (.tup (.cons (nmT (i := 3) T (by decide) (by rfl) (by decide)) (.cons (nmT (i := 4) T (by decide) (by rfl) (by decide)) .nil)) (by simp)) (fun a oe cls d pn hz hf => pss_one (ps_ret (pe_tup (pa_cons (pe_xfr hz hf (pv 1)) (pa_cons (pe_xfr hz hf (pv 1)) pa_nil)))))
        (.cons (.one (nmT (i := 9) T (by decide) (by rfl) (by decide))) (fun a oe cls d pn hz hf => pss_one (ps_ret (pe_tup (pa_cons (pe_xfr hz hf (pv 1)) (pa_cons (pe_xfr hz hf (pv 1)) pa_nil)))))
        (.cons (.tup (.cons (nmT (i := 11) T (by decide) (by rfl) (by decide)) (.cons (nmT (i := 12) T (by decide) (by rfl) (by decide)) (.cons (nmT (i := 14) T (by decide) (by rfl) (by decide)) (.cons (nmT (i := 18) T (by decide) (by rfl) (by decide)) (.cons (nmT (i := 23) T (by decide) (by rfl) (by decide)) .nil))))) (by simp)) (fun a oe cls d pn hz hf => pss_one (ps_ret (pe_tup (pa_cons (pe_xfr hz hf (pv 1)) (pa_cons (pe_xfr hz hf (pv 1)) pa_nil)))))
        (.cons (.tup (.cons (nmT (i := 13) T (by decide) (by rfl) (by decide)) (.cons (nmT (i := 24) T (by decide) (by rfl) (by decide)) .nil)) (by simp)) (fun a oe cls d pn hz hf => pss_one (ps_ret (pe_tup (pa_cons (pe_xfr hz hf (pv 1)) (pa_cons (pe_xfr hz hf (pv 1)) pa_nil)))))
        (.cons (.one (nmT (i := 16) T (by decide) (by rfl) (by decide))) (fun a oe cls d pn hz hf => pss_one (ps_ret (pe_tup (pa_cons (pe_xfr hz hf (pv 1)) (pa_cons (pe_xfr hz hf (pv 1)) pa_nil)))))
        (.cons (.one (nmT (i := 25) T (by decide) (by rfl) (by decide))) (fun a oe cls d pn hz hf => pss_one (ps_ret (pe_tup (pa_cons (pe_xfr hz hf (pv 1)) (pa_cons (pe_xfr hz hf (pv 1)) pa_nil)))))
        (.cons (.tup (.cons (nmT (i := 5) T (by decide) (by rfl) (by decide)) (.cons (nmT (i := 6) T (by decide) (by rfl) (by decide)) (.cons (nmT (i := 7) T (by decide) (by rfl) (by decide)) (.cons (nmT (i := 10) T (by decide) (by rfl) (by decide)) (.cons (nmT (i := 15) T (by decide) (by rfl) (by decide)) (.cons (nmT (i := 17) T (by decide) (by rfl) (by decide)) (.cons (nmT (i := 21) T (by decide) (by rfl) (by decide)) .nil))))))) (by simp)) (fun a oe cls d pn hz hf => pss_one (ps_ret (pe_tup (pa_cons (pe_xfr hz hf (pv 1)) pa_nil))))
        (.cons (.tup (.cons (nmT (i := 26) T (by decide) (by rfl) (by decide)) (.cons (nmT (i := 27) T (by decide) (by rfl) (by decide)) .nil)) (by simp)) (fun a oe cls d pn hz hf => pss_one (ps_ret (pe_tup (pa_cons (pe_xfr hz hf (pv 1)) pa_nil))))
        .nil))))))))))), ?_⟩
  · refine ⟨fun pins s' σ H' D I h' => ?_⟩
    obtain ⟨Ech, hW, h1, h2, h3⟩ := h'
    refine (pss_one (ps_ret (pe_tup (pa_cons pe_str (pa_cons (act (fun cls d σ' H' => σ'.length = 2 → W cls d σ' H') pn xe Ech _ _ (takes_len tk) hW) pa_nil))))).run pins s' σ H' D I ?_
    exact ⟨h1, h2, h3⟩
  · refine ⟨fun cls d H' => ∃ (i : Nat) (ws : List V) (dd : Addr), i < 28 ∧ cls = .ref (cm i) ∧ d = some dd ∧ ws.length = (rFl i).length ∧ H' dd = some (.xd (rFs i ws)) ∧ ∀ p, H' p = none → Q (.ref p) (upd H' p (.tup (.str (rNm i) :: ws))),
      fun cls d σ' H' z hs => ?_, rfl, hc, h⟩
    obtain ⟨i, ws, dd, hi, rfl, rfl, hl, hx, hq⟩ := z
    have at1 : ∀ a : Addr, (σ'.set 1 (some (V.ref a)))[1]? = some (some (V.ref a)) := fun a => List.getElem?_set_self (by omega)
    match i, hi with
    | 0, _ =>
      obtain ⟨y0, rfl⟩ := ws_1 hl
      refine ⟨true, T.any (i := 0) (by decide) [0, 1, 8, 19, 20, 22] (by decide), fun _ a ha => ?_, (fun z => nomatch z)⟩
      exact ⟨.ref a, at1 a, cm 0, dd, _, _, rfl, rfl, T.xf 0 (by decide), T.nw 0 (by decide) _ (by decide), rfl, hx, rfl, .ref a, at1 a, cm 0, dd, _, _, rfl, rfl, T.xf 0 (by decide), T.nw 0 (by decide) _ (by decide), rfl, hx, rfl, by show _ ≤ sizeLine; rw [sizeLine_eq]; simp, hq⟩
    | 1, _ =>
      obtain ⟨y0, rfl⟩ := ws_1 hl
      refine ⟨true, T.any (i := 1) (by decide) [0, 1, 8, 19, 20, 22] (by decide), fun _ a ha => ?_, (fun z => nomatch z)⟩
      exact ⟨.ref a, at1 a, cm 1, dd, _, _, rfl, rfl, T.xf 1 (by decide), T.nw 1 (by decide) _ (by decide), rfl, hx, rfl, .ref a, at1 a, cm 1, dd, _, _, rfl, rfl, T.xf 1 (by decide), T.nw 1 (by decide) _ (by decide), rfl, hx, rfl, by show _ ≤ sizeLine; rw [sizeLine_eq]; simp, hq⟩
    | 2, _ =>
      obtain ⟨y0, y1, rfl⟩ := ws_2 hl
      refine ⟨false, T.any (i := 2) (by decide) [0, 1, 8, 19, 20, 22] (by decide), (fun z => nomatch z), fun _ => ?_⟩
      refine ⟨true, T.any (i := 2) (by decide) [2] (by decide), fun _ a ha => ?_, (fun z => nomatch z)⟩
      exact ⟨.ref a, at1 a, cm 2, dd, _, _, rfl, rfl, T.xf 2 (by decide), T.nw 2 (by decide) _ (by decide), rfl, hx, rfl, .ref a, at1 a, cm 2, dd, _, _, rfl, rfl, T.xf 2 (by decide), T.nw 2 (by decide) _ (by decide), rfl, hx, rfl, .ref a, at1 a, cm 2, dd, _, _, rfl, rfl, T.xf 2 (by decide), T.nw 2 (by decide) _ (by decide), rfl, hx, rfl, by show _ ≤ sizeLine; rw [sizeLine_eq]; simp, hq⟩
    | 3, _ =>
      obtain ⟨y0, rfl⟩ := ws_1 hl
      refine ⟨false, T.any (i := 3) (by decide) [0, 1, 8, 19, 20, 22] (by decide), (fun z => nomatch z), fun _ => ?_⟩
      refine ⟨false, T.any (i := 3) (by decide) [2] (by decide), (fun z => nomatch z), fun _ => ?_⟩
      refine ⟨true, T.any (i := 3) (by decide) [3, 4] (by decide), fun _ a ha => ?_, (fun z => nomatch z)⟩
      exact ⟨.ref a, at1 a, cm 3, dd, _, _, rfl, rfl, T.xf 3 (by decide), T.nw 3 (by decide) _ (by decide), rfl, hx, rfl, .ref a, at1 a, cm 3, dd, _, _, rfl, rfl, T.xf 3 (by decide), T.nw 3 (by decide) _ (by decide), rfl, hx, rfl, by show _ ≤ sizeLine; rw [sizeLine_eq]; simp, hq⟩
    | 4, _ =>
      obtain ⟨y0, rfl⟩ := ws_1 hl
      refine ⟨false, T.any (i := 4) (by decide) [0, 1, 8, 19, 20, 22] (by decide), (fun z => nomatch z), fun _ => ?_⟩
      refine ⟨false, T.any (i := 4) (by decide) [2] (by decide), (fun z => nomatch z), fun _ => ?_⟩
      refine ⟨true, T.any (i := 4) (by decide) [3, 4] (by decide), fun _ a ha => ?_, (fun z => nomatch z)⟩
      exact ⟨.ref a, at1 a, cm 4, dd, _, _, rfl, rfl, T.xf 4 (by decide), T.nw 4 (by decide) _ (by decide), rfl, hx, rfl, .ref a, at1 a, cm 4, dd, _, _, rfl, rfl, T.xf 4 (by decide), T.nw 4 (by decide) _ (by decide), rfl, hx, rfl, by show _ ≤ sizeLine; rw [sizeLine_eq]; simp, hq⟩
    | 5, _ =>
      obtain rfl := ws_0 hl
      refine ⟨false, T.any (i := 5) (by decide) [0, 1, 8, 19, 20, 22] (by decide), (fun z => nomatch z), fun _ => ?_⟩
      refine ⟨false, T.any (i := 5) (by decide) [2] (by decide), (fun z => nomatch z), fun _ => ?_⟩
      refine ⟨false, T.any (i := 5) (by decide) [3, 4] (by decide), (fun z => nomatch z), fun _ => ?_⟩
      refine ⟨false, T.any (i := 5) (by decide) [9] (by decide), (fun z => nomatch z), fun _ => ?_⟩
      refine ⟨false, T.any (i := 5) (by decide) [11, 12, 14, 18, 23] (by decide), (fun z => nomatch z), fun _ => ?_⟩
      refine ⟨false, T.any (i := 5) (by decide) [13, 24] (by decide), (fun z => nomatch z), fun _ => ?_⟩
      refine ⟨false, T.any (i := 5) (by decide) [16] (by decide), (fun z => nomatch z), fun _ => ?_⟩
      refine ⟨false, T.any (i := 5) (by decide) [25] (by decide), (fun z => nomatch z), fun _ => ?_⟩
      refine ⟨true, T.any (i := 5) (by decide) [5, 6, 7, 10, 15, 17, 21] (by decide), fun _ a ha => ?_, (fun z => nomatch z)⟩
      exact ⟨.ref a, at1 a, cm 5, dd, _, _, rfl, rfl, T.xf 5 (by decide), T.nw 5 (by decide) _ (by decide), rfl, hx, rfl, by show _ ≤ sizeLine; rw [sizeLine_eq]; simp, hq⟩
    | 6, _ =>
      obtain rfl := ws_0 hl
      refine ⟨false, T.any (i := 6) (by decide) [0, 1, 8, 19, 20, 22] (by decide), (fun z => nomatch z), fun _ => ?_⟩
      refine ⟨false, T.any (i := 6) (by decide) [2] (by decide), (fun z => nomatch z), fun _ => ?_⟩
      refine ⟨false, T.any (i := 6) (by decide) [3, 4] (by decide), (fun z => nomatch z), fun _ => ?_⟩
      refine ⟨false, T.any (i := 6) (by decide) [9] (by decide), (fun z => nomatch z), fun _ => ?_⟩
      refine ⟨false, T.any (i := 6) (by decide) [11, 12, 14, 18, 23] (by decide), (fun z => nomatch z), fun _ => ?_⟩
      refine ⟨false, T.any (i := 6) (by decide) [13, 24] (by decide), (fun z => nomatch z), fun _ => ?_⟩
      refine ⟨false, T.any (i := 6) (by decide) [16] (by decide), (fun z => nomatch z), fun _ => ?_⟩
      refine ⟨false, T.any (i := 6) (by decide) [25] (by decide), (fun z => nomatch z), fun _ => ?_⟩
      refine ⟨true, T.any (i := 6) (by decide) [5, 6, 7, 10, 15, 17, 21] (by decide), fun _ a ha => ?_, (fun z => nomatch z)⟩
      exact ⟨.ref a, at1 a, cm 6, dd, _, _, rfl, rfl, T.xf 6 (by decide), T.nw 6 (by decide) _ (by decide), rfl, hx, rfl, by show _ ≤ sizeLine; rw [sizeLine_eq]; simp, hq⟩
    | 7, _ =>
      obtain rfl := ws_0 hl
      refine ⟨false, T.any (i := 7) (by decide) [0, 1, 8, 19, 20, 22] (by decide), (fun z => nomatch z), fun _ => ?_⟩
      refine ⟨false, T.any (i := 7) (by decide) [2] (by decide), (fun z => nomatch z), fun _ => ?_⟩
      refine ⟨false, T.any (i := 7) (by decide) [3, 4] (by decide), (fun z => nomatch z), fun _ => ?_⟩
      refine ⟨false, T.any (i := 7) (by decide) [9] (by decide), (fun z => nomatch z), fun _ => ?_⟩
      refine ⟨false, T.any (i := 7) (by decide) [11, 12, 14, 18, 23] (by decide), (fun z => nomatch z), fun _ => ?_⟩
      refine ⟨false, T.any (i := 7) (by decide) [13, 24] (by decide), (fun z => nomatch z), fun _ => ?_⟩
      refine ⟨false, T.any (i := 7) (by decide) [16] (by decide), (fun z => nomatch z), fun _ => ?_⟩
      refine ⟨false, T.any (i := 7) (by decide) [25] (by decide), (fun z => nomatch z), fun _ => ?_⟩
      refine ⟨true, T.any (i := 7) (by decide) [5, 6, 7, 10, 15, 17, 21] (by decide), fun _ a ha => ?_, (fun z => nomatch z)⟩
      exact ⟨.ref a, at1 a, cm 7, dd, _, _, rfl, rfl, T.xf 7 (by decide), T.nw 7 (by decide) _ (by decide), rfl, hx, rfl, by show _ ≤ sizeLine; rw [sizeLine_eq]; simp, hq⟩
    | 8, _ =>
      obtain ⟨y0, rfl⟩ := ws_1 hl
      refine ⟨true, T.any (i := 8) (by decide) [0, 1, 8, 19, 20, 22] (by decide), fun _ a ha => ?_, (fun z => nomatch z)⟩
      exact ⟨.ref a, at1 a, cm 8, dd, _, _, rfl, rfl, T.xf 8 (by decide), T.nw 8 (by decide) _ (by decide), rfl, hx, rfl, .ref a, at1 a, cm 8, dd, _, _, rfl, rfl, T.xf 8 (by decide), T.nw 8 (by decide) _ (by decide), rfl, hx, rfl, by show _ ≤ sizeLine; rw [sizeLine_eq]; simp, hq⟩
    | 9, _ =>
      obtain ⟨y0, rfl⟩ := ws_1 hl
      refine ⟨false, T.any (i := 9) (by decide) [0, 1, 8, 19, 20, 22] (by decide), (fun z => nomatch z), fun _ => ?_⟩
      refine ⟨false, T.any (i := 9) (by decide) [2] (by decide), (fun z => nomatch z), fun _ => ?_⟩
      refine ⟨false, T.any (i := 9) (by decide) [3, 4] (by decide), (fun z => nomatch z), fun _ => ?_⟩
      refine ⟨true, T.any (i := 9) (by decide) [9] (by decide), fun _ a ha => ?_, (fun z => nomatch z)⟩
      exact ⟨.ref a, at1 a, cm 9, dd, _, _, rfl, rfl, T.xf 9 (by decide), T.nw 9 (by decide) _ (by decide), rfl, hx, rfl, .ref a, at1 a, cm 9, dd, _, _, rfl, rfl, T.xf 9 (by decide), T.nw 9 (by decide) _ (by decide), rfl, hx, rfl, by show _ ≤ sizeLine; rw [sizeLine_eq]; simp, hq⟩
    | 10, _ =>
      obtain rfl := ws_0 hl
      refine ⟨false, T.any (i := 10) (by decide) [0, 1, 8, 19, 20, 22] (by decide), (fun z => nomatch z), fun _ => ?_⟩
      refine ⟨false, T.any (i := 10) (by decide) [2] (by decide), (fun z => nomatch z), fun _ => ?_⟩
      refine ⟨false, T.any (i := 10) (by decide) [3, 4] (by decide), (fun z => nomatch z), fun _ => ?_⟩
      refine ⟨false, T.any (i := 10) (by decide) [9] (by decide), (fun z => nomatch z), fun _ => ?_⟩
      refine ⟨false, T.any (i := 10) (by decide) [11, 12, 14, 18, 23] (by decide), (fun z => nomatch z), fun _ => ?_⟩
      refine ⟨false, T.any (i := 10) (by decide) [13, 24] (by decide), (fun z => nomatch z), fun _ => ?_⟩
      refine ⟨false, T.any (i := 10) (by decide) [16] (by decide), (fun z => nomatch z), fun _ => ?_⟩
      refine ⟨false, T.any (i := 10) (by decide) [25] (by decide), (fun z => nomatch z), fun _ => ?_⟩
      refine ⟨true, T.any (i := 10) (by decide) [5, 6, 7, 10, 15, 17, 21] (by decide), fun _ a ha => ?_, (fun z => nomatch z)⟩
      exact ⟨.ref a, at1 a, cm 10, dd, _, _, rfl, rfl, T.xf 10 (by decide), T.nw 10 (by decide) _ (by decide), rfl, hx, rfl, by show _ ≤ sizeLine; rw [sizeLine_eq]; simp, hq⟩
    | 11, _ =>
      obtain ⟨y0, rfl⟩ := ws_1 hl
      refine ⟨false, T.any (i := 11) (by decide) [0, 1, 8, 19, 20, 22] (by decide), (fun z => nomatch z), fun _ => ?_⟩
      refine ⟨false, T.any (i := 11) (by decide) [2] (by decide), (fun z => nomatch z), fun _ => ?_⟩
      refine ⟨false, T.any (i := 11) (by decide) [3, 4] (by decide), (fun z => nomatch z), fun _ => ?_⟩
      refine ⟨false, T.any (i := 11) (by decide) [9] (by decide), (fun z => nomatch z), fun _ => ?_⟩
      refine ⟨true, T.any (i := 11) (by decide) [11, 12, 14, 18, 23] (by decide), fun _ a ha => ?_, (fun z => nomatch z)⟩
      exact ⟨.ref a, at1 a, cm 11, dd, _, _, rfl, rfl, T.xf 11 (by decide), T.nw 11 (by decide) _ (by decide), rfl, hx, rfl, .ref a, at1 a, cm 11, dd, _, _, rfl, rfl, T.xf 11 (by decide), T.nw 11 (by decide) _ (by decide), rfl, hx, rfl, by show _ ≤ sizeLine; rw [sizeLine_eq]; simp, hq⟩
    | 12, _ =>
      obtain ⟨y0, rfl⟩ := ws_1 hl
      refine ⟨false, T.any (i := 12) (by decide) [0, 1, 8, 19, 20, 22] (by decide), (fun z => nomatch z), fun _ => ?_⟩
      refine ⟨false, T.any (i := 12) (by decide) [2] (by decide), (fun z => nomatch z), fun _ => ?_⟩
      refine ⟨false, T.any (i := 12) (by decide) [3, 4] (by decide), (fun z => nomatch z), fun _ => ?_⟩
      refine ⟨false, T.any (i := 12) (by decide) [9] (by decide), (fun z => nomatch z), fun _ => ?_⟩
      refine ⟨true, T.any (i := 12) (by decide) [11, 12, 14, 18, 23] (by decide), fun _ a ha => ?_, (fun z => nomatch z)⟩
      exact ⟨.ref a, at1 a, cm 12, dd, _, _, rfl, rfl, T.xf 12 (by decide), T.nw 12 (by decide) _ (by decide), rfl, hx, rfl, .ref a, at1 a, cm 12, dd, _, _, rfl, rfl, T.xf 12 (by decide), T.nw 12 (by decide) _ (by decide), rfl, hx, rfl, by show _ ≤ sizeLine; rw [sizeLine_eq]; simp, hq⟩
    | 13, _ =>
      obtain ⟨y0, rfl⟩ := ws_1 hl
      refine ⟨false, T.any (i := 13) (by decide) [0, 1, 8, 19, 20, 22] (by decide), (fun z => nomatch z), fun _ => ?_⟩
      refine ⟨false, T.any (i := 13) (by decide) [2] (by decide), (fun z => nomatch z), fun _ => ?_⟩
      refine ⟨false, T.any (i := 13) (by decide) [3, 4] (by decide), (fun z => nomatch z), fun _ => ?_⟩
      refine ⟨false, T.any (i := 13) (by decide) [9] (by decide), (fun z => nomatch z), fun _ => ?_⟩
      refine ⟨false, T.any (i := 13) (by decide) [11, 12, 14, 18, 23] (by decide), (fun z => nomatch z), fun _ => ?_⟩
      refine ⟨true, T.any (i := 13) (by decide) [13, 24] (by decide), fun _ a ha => ?_, (fun z => nomatch z)⟩
      exact ⟨.ref a, at1 a, cm 13, dd, _, _, rfl, rfl, T.xf 13 (by decide), T.nw 13 (by decide) _ (by decide), rfl, hx, rfl, .ref a, at1 a, cm 13, dd, _, _, rfl, rfl, T.xf 13 (by decide), T.nw 13 (by decide) _ (by decide), rfl, hx, rfl, by show _ ≤ sizeLine; rw [sizeLine_eq]; simp, hq⟩
    | 14, _ =>
      obtain ⟨y0, rfl⟩ := ws_1 hl
      refine ⟨false, T.any (i := 14) (by decide) [0, 1, 8, 19, 20, 22] (by decide), (fun z => nomatch z), fun _ => ?_⟩
      refine ⟨false, T.any (i := 14) (by decide) [2] (by decide), (fun z => nomatch z), fun _ => ?_⟩
      refine ⟨false, T.any (i := 14) (by decide) [3, 4] (by decide), (fun z => nomatch z), fun _ => ?_⟩
      refine ⟨false, T.any (i := 14) (by decide) [9] (by decide), (fun z => nomatch z), fun _ => ?_⟩
      refine ⟨true, T.any (i := 14) (by decide) [11, 12, 14, 18, 23] (by decide), fun _ a ha => ?_, (fun z => nomatch z)⟩
      exact ⟨.ref a, at1 a, cm 14, dd, _, _, rfl, rfl, T.xf 14 (by decide), T.nw 14 (by decide) _ (by decide), rfl, hx, rfl, .ref a, at1 a, cm 14, dd, _, _, rfl, rfl, T.xf 14 (by decide), T.nw 14 (by decide) _ (by decide), rfl, hx, rfl, by show _ ≤ sizeLine; rw [sizeLine_eq]; simp, hq⟩
    | 15, _ =>
      obtain rfl := ws_0 hl
      refine ⟨false, T.any (i := 15) (by decide) [0, 1, 8, 19, 20, 22] (by decide), (fun z => nomatch z), fun _ => ?_⟩
      refine ⟨false, T.any (i := 15) (by decide) [2] (by decide), (fun z => nomatch z), fun _ => ?_⟩
      refine ⟨false, T.any (i := 15) (by decide) [3, 4] (by decide), (fun z => nomatch z), fun _ => ?_⟩
      refine ⟨false, T.any (i := 15) (by decide) [9] (by decide), (fun z => nomatch z), fun _ => ?_⟩
      refine ⟨false, T.any (i := 15) (by decide) [11, 12, 14, 18, 23] (by decide), (fun z => nomatch z), fun _ => ?_⟩
      refine ⟨false, T.any (i := 15) (by decide) [13, 24] (by decide), (fun z => nomatch z), fun _ => ?_⟩
      refine ⟨false, T.any (i := 15) (by decide) [16] (by decide), (fun z => nomatch z), fun _ => ?_⟩
      refine ⟨false, T.any (i := 15) (by decide) [25] (by decide), (fun z => nomatch z), fun _ => ?_⟩
      refine ⟨true, T.any (i := 15) (by decide) [5, 6, 7, 10, 15, 17, 21] (by decide), fun _ a ha => ?_, (fun z => nomatch z)⟩
      exact ⟨.ref a, at1 a, cm 15, dd, _, _, rfl, rfl, T.xf 15 (by decide), T.nw 15 (by decide) _ (by decide), rfl, hx, rfl, by show _ ≤ sizeLine; rw [sizeLine_eq]; simp, hq⟩
    | 16, _ =>
      obtain ⟨y0, rfl⟩ := ws_1 hl
      refine ⟨false, T.any (i := 16) (by decide) [0, 1, 8, 19, 20, 22] (by decide), (fun z => nomatch z), fun _ => ?_⟩
      refine ⟨false, T.any (i := 16) (by decide) [2] (by decide), (fun z => nomatch z), fun _ => ?_⟩
      refine ⟨false, T.any (i := 16) (by decide) [3, 4] (by decide), (fun z => nomatch z), fun _ => ?_⟩
      refine ⟨false, T.any (i := 16) (by decide) [9] (by decide), (fun z => nomatch z), fun _ => ?_⟩
      refine ⟨false, T.any (i := 16) (by decide) [11, 12, 14, 18, 23] (by decide), (fun z => nomatch z), fun _ => ?_⟩
      refine ⟨false, T.any (i := 16) (by decide) [13, 24] (by decide), (fun z => nomatch z), fun _ => ?_⟩
      refine ⟨true, T.any (i := 16) (by decide) [16] (by decide), fun _ a ha => ?_, (fun z => nomatch z)⟩
      exact ⟨.ref a, at1 a, cm 16, dd, _, _, rfl, rfl, T.xf 16 (by decide), T.nw 16 (by decide) _ (by decide), rfl, hx, rfl, .ref a, at1 a, cm 16, dd, _, _, rfl, rfl, T.xf 16 (by decide), T.nw 16 (by decide) _ (by decide), rfl, hx, rfl, by show _ ≤ sizeLine; rw [sizeLine_eq]; simp, hq⟩
    | 17, _ =>
      obtain rfl := ws_0 hl
      refine ⟨false, T.any (i := 17) (by decide) [0, 1, 8, 19, 20, 22] (by decide), (fun z => nomatch z), fun _ => ?_⟩
      refine ⟨false, T.any (i := 17) (by decide) [2] (by decide), (fun z => nomatch z), fun _ => ?_⟩
      refine ⟨false, T.any (i := 17) (by decide) [3, 4] (by decide), (fun z => nomatch z), fun _ => ?_⟩
      refine ⟨false, T.any (i := 17) (by decide) [9] (by decide), (fun z => nomatch z), fun _ => ?_⟩
      refine ⟨false, T.any (i := 17) (by decide) [11, 12, 14, 18, 23] (by decide), (fun z => nomatch z), fun _ => ?_⟩
      refine ⟨false, T.any (i := 17) (by decide) [13, 24] (by decide), (fun z => nomatch z), fun _ => ?_⟩
      refine ⟨false, T.any (i := 17) (by decide) [16] (by decide), (fun z => nomatch z), fun _ => ?_⟩
      refine ⟨false, T.any (i := 17) (by decide) [25] (by decide), (fun z => nomatch z), fun _ => ?_⟩
      refine ⟨true, T.any (i := 17) (by decide) [5, 6, 7, 10, 15, 17, 21] (by decide), fun _ a ha => ?_, (fun z => nomatch z)⟩
      exact ⟨.ref a, at1 a, cm 17, dd, _, _, rfl, rfl, T.xf 17 (by decide), T.nw 17 (by decide) _ (by decide), rfl, hx, rfl, by show _ ≤ sizeLine; rw [sizeLine_eq]; simp, hq⟩
    | 18, _ =>
      obtain ⟨y0, rfl⟩ := ws_1 hl
      refine ⟨false, T.any (i := 18) (by decide) [0, 1, 8, 19, 20, 22] (by decide), (fun z => nomatch z), fun _ => ?_⟩
      refine ⟨false, T.any (i := 18) (by decide) [2] (by decide), (fun z => nomatch z), fun _ => ?_⟩
      refine ⟨false, T.any (i := 18) (by decide) [3, 4] (by decide), (fun z => nomatch z), fun _ => ?_⟩
      refine ⟨false, T.any (i := 18) (by decide) [9] (by decide), (fun z => nomatch z), fun _ => ?_⟩
      refine ⟨true, T.any (i := 18) (by decide) [11, 12, 14, 18, 23] (by decide), fun _ a ha => ?_, (fun z => nomatch z)⟩
      exact ⟨.ref a, at1 a, cm 18, dd, _, _, rfl, rfl, T.xf 18 (by decide), T.nw 18 (by decide) _ (by decide), rfl, hx, rfl, .ref a, at1 a, cm 18, dd, _, _, rfl, rfl, T.xf 18 (by decide), T.nw 18 (by decide) _ (by decide), rfl, hx, rfl, by show _ ≤ sizeLine; rw [sizeLine_eq]; simp, hq⟩
    | 19, _ =>
      obtain ⟨y0, rfl⟩ := ws_1 hl
      refine ⟨true, T.any (i := 19) (by decide) [0, 1, 8, 19, 20, 22] (by decide), fun _ a ha => ?_, (fun z => nomatch z)⟩
      exact ⟨.ref a, at1 a, cm 19, dd, _, _, rfl, rfl, T.xf 19 (by decide), T.nw 19 (by decide) _ (by decide), rfl, hx, rfl, .ref a, at1 a, cm 19, dd, _, _, rfl, rfl, T.xf 19 (by decide), T.nw 19 (by decide) _ (by decide), rfl, hx, rfl, by show _ ≤ sizeLine; rw [sizeLine_eq]; simp, hq⟩
    | 20, _ =>
      obtain ⟨y0, rfl⟩ := ws_1 hl
      refine ⟨true, T.any (i := 20) (by decide) [0, 1, 8, 19, 20, 22] (by decide), fun _ a ha => ?_, (fun z => nomatch z)⟩
      exact ⟨.ref a, at1 a, cm 20, dd, _, _, rfl, rfl, T.xf 20 (by decide), T.nw 20 (by decide) _ (by decide), rfl, hx, rfl, .ref a, at1 a, cm 20, dd, _, _, rfl, rfl, T.xf 20 (by decide), T.nw 20 (by decide) _ (by decide), rfl, hx, rfl, by show _ ≤ sizeLine; rw [sizeLine_eq]; simp, hq⟩
    | 21, _ =>
      obtain rfl := ws_0 hl
      refine ⟨false, T.any (i := 21) (by decide) [0, 1, 8, 19, 20, 22] (by decide), (fun z => nomatch z), fun _ => ?_⟩
      refine ⟨false, T.any (i := 21) (by decide) [2] (by decide), (fun z => nomatch z), fun _ => ?_⟩
      refine ⟨false, T.any (i := 21) (by decide) [3, 4] (by decide), (fun z => nomatch z), fun _ => ?_⟩
      refine ⟨false, T.any (i := 21) (by decide) [9] (by decide), (fun z => nomatch z), fun _ => ?_⟩
      refine ⟨false, T.any (i := 21) (by decide) [11, 12, 14, 18, 23] (by decide), (fun z => nomatch z), fun _ => ?_⟩
      refine ⟨false, T.any (i := 21) (by decide) [13, 24] (by decide), (fun z => nomatch z), fun _ => ?_⟩
      refine ⟨false, T.any (i := 21) (by decide) [16] (by decide), (fun z => nomatch z), fun _ => ?_⟩
      refine ⟨false, T.any (i := 21) (by decide) [25] (by decide), (fun z => nomatch z), fun _ => ?_⟩
      refine ⟨true, T.any (i := 21) (by decide) [5, 6, 7, 10, 15, 17, 21] (by decide), fun _ a ha => ?_, (fun z => nomatch z)⟩
      exact ⟨.ref a, at1 a, cm 21, dd, _, _, rfl, rfl, T.xf 21 (by decide), T.nw 21 (by decide) _ (by decide), rfl, hx, rfl, by show _ ≤ sizeLine; rw [sizeLine_eq]; simp, hq⟩
    | 22, _ =>
      obtain ⟨y0, rfl⟩ := ws_1 hl
      refine ⟨true, T.any (i := 22) (by decide) [0, 1, 8, 19, 20, 22] (by decide), fun _ a ha => ?_, (fun z => nomatch z)⟩
      exact ⟨.ref a, at1 a, cm 22, dd, _, _, rfl, rfl, T.xf 22 (by decide), T.nw 22 (by decide) _ (by decide), rfl, hx, rfl, .ref a, at1 a, cm 22, dd, _, _, rfl, rfl, T.xf 22 (by decide), T.nw 22 (by decide) _ (by decide), rfl, hx, rfl, by show _ ≤ sizeLine; rw [sizeLine_eq]; simp, hq⟩
    | 23, _ =>
      obtain ⟨y0, rfl⟩ := ws_1 hl
      refine ⟨false, T.any (i := 23) (by decide) [0, 1, 8, 19, 20, 22] (by decide), (fun z => nomatch z), fun _ => ?_⟩
      refine ⟨false, T.any (i := 23) (by decide) [2] (by decide), (fun z => nomatch z), fun _ => ?_⟩
      refine ⟨false, T.any (i := 23) (by decide) [3, 4] (by decide), (fun z => nomatch z), fun _ => ?_⟩
      refine ⟨false, T.any (i := 23) (by decide) [9] (by decide), (fun z => nomatch z), fun _ => ?_⟩
      refine ⟨true, T.any (i := 23) (by decide) [11, 12, 14, 18, 23] (by decide), fun _ a ha => ?_, (fun z => nomatch z)⟩
      exact ⟨.ref a, at1 a, cm 23, dd, _, _, rfl, rfl, T.xf 23 (by decide), T.nw 23 (by decide) _ (by decide), rfl, hx, rfl, .ref a, at1 a, cm 23, dd, _, _, rfl, rfl, T.xf 23 (by decide), T.nw 23 (by decide) _ (by decide), rfl, hx, rfl, by show _ ≤ sizeLine; rw [sizeLine_eq]; simp, hq⟩
    | 24, _ =>
      obtain ⟨y0, rfl⟩ := ws_1 hl
      refine ⟨false, T.any (i := 24) (by decide) [0, 1, 8, 19, 20, 22] (by decide), (fun z => nomatch z), fun _ => ?_⟩
      refine ⟨false, T.any (i := 24) (by decide) [2] (by decide), (fun z => nomatch z), fun _ => ?_⟩
      refine ⟨false, T.any (i := 24) (by decide) [3, 4] (by decide), (fun z => nomatch z), fun _ => ?_⟩
      refine ⟨false, T.any (i := 24) (by decide) [9] (by decide), (fun z => nomatch z), fun _ => ?_⟩
      refine ⟨false, T.any (i := 24) (by decide) [11, 12, 14, 18, 23] (by decide), (fun z => nomatch z), fun _ => ?_⟩
      refine ⟨true, T.any (i := 24) (by decide) [13, 24] (by decide), fun _ a ha => ?_, (fun z => nomatch z)⟩
      exact ⟨.ref a, at1 a, cm 24, dd, _, _, rfl, rfl, T.xf 24 (by decide), T.nw 24 (by decide) _ (by decide), rfl, hx, rfl, .ref a, at1 a, cm 24, dd, _, _, rfl, rfl, T.xf 24 (by decide), T.nw 24 (by decide) _ (by decide), rfl, hx, rfl, by show _ ≤ sizeLine; rw [sizeLine_eq]; simp, hq⟩
    | 25, _ =>
      obtain ⟨y0, rfl⟩ := ws_1 hl
      refine ⟨false, T.any (i := 25) (by decide) [0, 1, 8, 19, 20, 22] (by decide), (fun z => nomatch z), fun _ => ?_⟩
      refine ⟨false, T.any (i := 25) (by decide) [2] (by decide), (fun z => nomatch z), fun _ => ?_⟩
      refine ⟨false, T.any (i := 25) (by decide) [3, 4] (by decide), (fun z => nomatch z), fun _ => ?_⟩
      refine ⟨false, T.any (i := 25) (by decide) [9] (by decide), (fun z => nomatch z), fun _ => ?_⟩
      refine ⟨false, T.any (i := 25) (by decide) [11, 12, 14, 18, 23] (by decide), (fun z => nomatch z), fun _ => ?_⟩
      refine ⟨false, T.any (i := 25) (by decide) [13, 24] (by decide), (fun z => nomatch z), fun _ => ?_⟩
      refine ⟨false, T.any (i := 25) (by decide) [16] (by decide), (fun z => nomatch z), fun _ => ?_⟩
      refine ⟨true, T.any (i := 25) (by decide) [25] (by decide), fun _ a ha => ?_, (fun z => nomatch z)⟩
      exact ⟨.ref a, at1 a, cm 25, dd, _, _, rfl, rfl, T.xf 25 (by decide), T.nw 25 (by decide) _ (by decide), rfl, hx, rfl, .ref a, at1 a, cm 25, dd, _, _, rfl, rfl, T.xf 25 (by decide), T.nw 25 (by decide) _ (by decide), rfl, hx, rfl, by show _ ≤ sizeLine; rw [sizeLine_eq]; simp, hq⟩
    | 26, _ =>
      obtain rfl := ws_0 hl
      refine ⟨false, T.any (i := 26) (by decide) [0, 1, 8, 19, 20, 22] (by decide), (fun z => nomatch z), fun _ => ?_⟩
      refine ⟨false, T.any (i := 26) (by decide) [2] (by decide), (fun z => nomatch z), fun _ => ?_⟩
      refine ⟨false, T.any (i := 26) (by decide) [3, 4] (by decide), (fun z => nomatch z), fun _ => ?_⟩
      refine ⟨false, T.any (i := 26) (by decide) [9] (by decide), (fun z => nomatch z), fun _ => ?_⟩
      refine ⟨false, T.any (i := 26) (by decide) [11, 12, 14, 18, 23] (by decide), (fun z => nomatch z), fun _ => ?_⟩
      refine ⟨false, T.any (i := 26) (by decide) [13, 24] (by decide), (fun z => nomatch z), fun _ => ?_⟩
      refine ⟨false, T.any (i := 26) (by decide) [16] (by decide), (fun z => nomatch z), fun _ => ?_⟩
      refine ⟨false, T.any (i := 26) (by decide) [25] (by decide), (fun z => nomatch z), fun _ => ?_⟩
      refine ⟨false, T.any (i := 26) (by decide) [5, 6, 7, 10, 15, 17, 21] (by decide), (fun z => nomatch z), fun _ => ?_⟩
      refine ⟨true, T.any (i := 26) (by decide) [26, 27] (by decide), fun _ a ha => ?_, (fun z => nomatch z)⟩
      exact ⟨.ref a, at1 a, cm 26, dd, _, _, rfl, rfl, T.xf 26 (by decide), T.nw 26 (by decide) _ (by decide), rfl, hx, rfl, by show _ ≤ sizeLine; rw [sizeLine_eq]; simp, hq⟩
    | 27, _ =>
      obtain rfl := ws_0 hl
      refine ⟨false, T.any (i := 27) (by decide) [0, 1, 8, 19, 20, 22] (by decide), (fun z => nomatch z), fun _ => ?_⟩
      refine ⟨false, T.any (i := 27) (by decide) [2] (by decide), (fun z => nomatch z), fun _ => ?_⟩
      refine ⟨false, T.any (i := 27) (by decide) [3, 4] (by decide), (fun z => nomatch z), fun _ => ?_⟩
      refine ⟨false, T.any (i := 27) (by decide) [9] (by decide), (fun z => nomatch z), fun _ => ?_⟩
      refine ⟨false, T.any (i := 27) (by decide) [11, 12, 14, 18, 23] (by decide), (fun z => nomatch z), fun _ => ?_⟩
      refine ⟨false, T.any (i := 27) (by decide) [13, 24] (by decide), (fun z => nomatch z), fun _ => ?_⟩
      refine ⟨false, T.any (i := 27) (by decide) [16] (by decide), (fun z => nomatch z), fun _ => ?_⟩
      refine ⟨false, T.any (i := 27) (by decide) [25] (by decide), (fun z => nomatch z), fun _ => ?_⟩
      refine ⟨false, T.any (i := 27) (by decide) [5, 6, 7, 10, 15, 17, 21] (by decide), (fun z => nomatch z), fun _ => ?_⟩
      refine ⟨true, T.any (i := 27) (by decide) [26, 27] (by decide), fun _ a ha => ?_, (fun z => nomatch z)⟩
      exact ⟨.ref a, at1 a, cm 27, dd, _, _, rfl, rfl, T.xf 27 (by decide), T.nw 27 (by decide) _ (by decide), rfl, hx, rfl, by show _ ≤ sizeLine; rw [sizeLine_eq]; simp, hq⟩
    | n + 28, hi => exact absurd hi (by omega)
/-! ### a lambda that is handed on: x(lambda: body, e), x hands it to the def that calls it -/
section
open LamX
variable {X : Cx} {pins : List (Addr × Obj)} {σ : L2.St} {H : Hp} {s : Shared}
/-- a(), in a def entered at s0 from the frames outer', which lie over those of the lambda's maker -/
theorem pe_act2 {CXg : CXT} {Eg : XK} {Ng : List Str} {qg : Str} {sg : Scope} {g f c' : Addr} {cdg pm ctv : Value} {params : Arguments} {body : Expr} {scope : Scope} {k i : Nat} {a : Str} {pn : List (Addr × Obj)} {xe : Value → Shared → Prop} {W : WX} {E : XK} {tb : TE} {p1 p2 : Pos}
    {A' : Around} {outer' : List Env} {s0 : Shared} {H0 : Hp} (I : Inv X pins σ H s) (L : LamS X.env.scope scope) (of0 : s0.heap.get? f = some (PySem.W.kla_obj "<lambda>" (X.env.qual ++ "<lambda>") params body scope (cloFrom X.env.cells scope.names []) pm c' ctv)) (hfn : H0 f = none) (hfr : f ∉ frs outer')
    (hun : ∀ (sZ : Shared) (HZ : Hp), Un (frs outer') [] H0 HZ s0.heap sZ.heap → HOk X.prog X.w HZ sZ.heap → AllBare sZ.gens → sZ.os = s0.os → Un (frs X.stack) [] H HZ s.heap sZ.heap)
    (hbind : bindArgs (PySem.W.kla_fn "<lambda>" (X.env.qual ++ "<lambda>") params body scope (cloFrom X.env.cells scope.names []) pm (.ref c') ctv) ⟨[], []⟩ = pure [])
    (tk : Takes ((cxOf CXg X.prog X.w X.K X.mg X.base Ng qg sg g cdg A' outer' s0 H0 Eg).tr pn xe) W) (hW : ∀ cls d σ' H', E cls d H' → W cls d σ' H') (hr : Room (k + 1) (A'.deeper (envOfC qg sg s0.heap.objs.size g cdg)))
    (hbody : ∀ (A : Around) (outer : List Env) (s : Shared) (H : Hp), Room k (A.deeper (lamEnv X scope s.heap.objs.size f c')) → PE (lamCx X A outer s H E scope f c') body tb)
    (hN : Ng[i]? = some a) (hv : Vis sg a) (hd : (a == ("__debug__" : Str)) = false := by decide) (hcd : (a == ("__classdict__" : Str)) = false := by decide) :
    PE ((cxOf CXg X.prog X.w X.K X.mg X.base Ng qg sg g cdg A' outer' s0 H0 Eg).tr pn xe) (.Call (.Name a p1) [] [] p2)
      (fun σZ HZ Q => σZ[i]? = some (some (.ref f)) ∧ HZ c' = some (CodeO c' (X.env.qual ++ "<lambda>")) ∧ tb σ HZ Q) := by
  refine ⟨fun pinsZ sZ σZ HZ Q IZ h => ?_⟩
  obtain ⟨hs, hc, ht⟩ := h
  refine wpAny_Call_Name_kw (thn ((pe_var (pos := p1) (i := i) hN hv hd hcd).run pinsZ sZ σZ HZ (fun v H1 => v = .ref f ∧ H1 = HZ) IZ ⟨.ref f, hs, rfl, rfl⟩) fun u s1 z => ?_)
  obtain ⟨v, H1, I1, r1, rfl, rfl⟩ := z
  obtain rfl : u = Value.ref f := r1
  have of1 := I1.base.keep f _ of0 hfn hfr (fun z => nomatch (show f ∈ ([] : List Addr) from z))
  refine PySem.W.callWith_F0 ⟨_, _, _, _, of1⟩ ?_
  have un : Un (frs X.stack) [] H H1 s.heap s1.heap := hun s1 H1 I1.base I1.hok I1.bare I1.os
  obtain ⟨⟨oc, vs, t, hoc, hdc, hvc⟩, _, _⟩ := I1.hok c' _ hc
  have hx : Passes (L2.CX X.prog X.w) ((cxOf CXg X.prog X.w X.K X.mg X.base Ng qg sg g cdg A' outer' s0 H0 Eg).tr pn xe) E := passes_call tk hW
  have rc : codeAny (model X.prog X.w) (A'.deeper (envOfC qg sg s0.heap.objs.size g cdg)) (.call (.ref f) ⟨[], []⟩) (CR (L2.CX X.prog X.w) (envOfC qg sg s0.heap.objs.size g cdg :: outer') X.prog X.w H1 s1 Q E) s1 := by
    refine PySem.W.kla_callFunE hr.depth of1 rfl L.co L.gen rfl ⟨c', oc, vs, t, rfl, hoc, hdc, hvc⟩ ?_
    rw [hbind]
    refine wpAny_pure (wpAny_newFunctionEnv (fun y hy => (L.own y hy).2) (fun y hy => absurd hy (by simp)) (fun h₁ hns hsb => ⟨I1.nolimit.fresh _ hsb, ?_⟩) L.kind)
    show codeAny _ _ (.expr body (lamEnv X scope s1.heap.objs.size f c')) _ _
    have kp : ∀ b o, s1.heap.get? b = some o → h₁.get? b = some o := fun b o e => hsb.extBut b o (Nat.ne_of_lt (Heap.lt_size e)) (Heap.get?_push_of_some _ e)
    have J := lam_start2 (tk := s1.toks + ([] : List (Str × Value)).length) (E := E) (f := f) (c' := c') I L I1.env0 hr.hd un hns kp
    refine PySem.W.kla_codeExpr (wpAny_mono ((hbody _ _ s1 H1 (hr.deeper _)).run [] _ _ H1 Q J ht) (fun v s' hq => ?_) fun e s' hq => hq)
    obtain ⟨w', H', J', rv, q⟩ := hq
    exact ⟨w', H', J'.os, J'.bare, J'.base, J'.hok, rv, q⟩
  refine wpAny_call (codeAny_mono rc fun r s' hq => ?_)
  cases r with
  | error e => exact hx pinsZ σZ H1 s1 e s' I1 hq
  | ok fl =>
    cases fl with
    | ret u => exact I1.after hq
    | next => exact False.elim hq
    | brk => exact False.elim hq
    | cont => exact False.elim hq
end
section
open LamX
variable {X : Cx} {pins : List (Addr × Obj)} {σ : L2.St} {H : Hp} {s : Shared}
theorem kla_notCell {x q : Str} {pa : Arguments} {b : Expr} {sc : Scope} {cl : List (Str × Addr)} {pm cv : Value} {c : Addr} : ∀ v, (PySem.W.kla_obj x q pa b sc cl pm c cv).data ≠ .cell v := fun v z => nomatch z
theorem visTried : Vis (defScope sTried) "_law_act" := .inl rfl
/-- _law_tried(a), in a def that got the lambda from its maker: Z is that def's context -/
theorem pe_hand {cm : Nat → Addr} {N1 : List Str} {x1 a1 : Str} {sg1 : Scope} {g1 gT f c' : Addr} {cd1 pm ctv : Value} {fdT : FuncData} {params : Arguments} {body : Expr} {scope : Scope} {k : Nat} {t : XK → TE} {p p' pos : Pos}
    (I : Inv X pins σ H s) (L : LamS X.env.scope scope) (hf : s.heap.get? f = some (PySem.W.kla_obj "<lambda>" (X.env.qual ++ "<lambda>") params body scope (cloFrom X.env.cells scope.names []) pm c' ctv)) (hfn : H f = none) (hfr : f ∉ frs X.stack)
    (hbind : ∀ (q : Str) (cl : List (Str × Addr)) (pm cv ctv : Value), bindArgs (PySem.W.kla_fn "<lambda>" q params body scope cl pm cv ctv) ⟨[], []⟩ = pure [])
    (hbody : ∀ (A : Around) (outer : List Env) (s : Shared) (H : Hp) (E : XK) (f c' : Addr), Room k (A.deeper (lamEnv X scope s.heap.objs.size f c')) → PE (lamCx X A outer s H E scope f c') body (t E))
    (T : RefsT X.K X.mg cm) (FT : Fun X.K "_law_tried" "_law_tried" sTried gT fdT) (mT : X.mg "_law_tried" = some (.ref gT)) (bT : L2.Binds X.K fdT ["_law_act"] []) (hr : Room (k + 2) (X.A.deeper (envOfC x1 sg1 s.heap.objs.size g1 cd1)))
    (hgT : sg1.names.lookup ("_law_tried" : Str) = some NameKind.globalImplicit) (hN : N1[0]? = some a1) (hv : Vis sg1 a1) (hd : (a1 == ("__debug__" : Str)) = false := by decide) (hcd : (a1 == ("__classdict__" : Str)) = false := by decide) :
    PE (cxOf C8.CX0 X.prog X.w X.K X.mg X.base N1 x1 sg1 g1 cd1 X.A X.stack s H C8.E0).nox (.Call (.Name "_law_tried" p) [.Name a1 p'] [] pos)
      (fun σ1 H1 Q => σ1[0]? = some (some (.ref f)) ∧ H1 c' = some (CodeO c' (X.env.qual ++ "<lambda>")) ∧ TTried cm (fun E H' Q' => t E σ H' Q') H1 Q) := by
  refine ⟨fun pinsZ sZ σZ HZ Q IZ h => ?_⟩
  obtain ⟨h1, h2, h3⟩ := h
  refine wpAny_Call_Name_kw (ld_glob IZ hgT mT ?_)
  refine PySem.W.callWith_K (h₀ := X.base) IZ.ok.mod.kin FT.kp (thn ((pa_cons (pe_var (pos := p') (i := 0) hN hv hd hcd) pa_nil).run pos pinsZ sZ σZ HZ (fun vs H1 => vs = [.ref f] ∧ H1 = HZ) IZ ⟨.ref f, h1, rfl, rfl⟩) fun us s1 z => ?_) (by rfl) (by rfl)
  obtain ⟨vs, H1, I1, r1, rfl, rfl⟩ := z
  refine ⟨I1.kIn, ?_⟩
  obtain ⟨oc, od, kV, doc, pmT, an, cdv, ct, osl, rfl, lk, hcg⟩ := FT.ex
  have of0 := I1.base.keep f _ hf hfn hfr (fun z => nomatch (show f ∈ ([] : List Addr) from z))
  have hfn0 : H1 f = none := I1.base.free f _ hf hfn (fun z => nomatch (show f ∈ ([] : List Addr) from z))
  have hfr0 : f ∉ frs (envOfC x1 sg1 s.heap.objs.size g1 cd1 :: X.stack) := fun z => by
    obtain ⟨e, he, q⟩ := List.mem_filterMap.mp z
    rcases List.mem_cons.mp he with e1 | e1
    · subst e1
      have q' : some s.heap.objs.size = some f := q
      have l := Heap.lt_size hf
      rw [← Option.some.inj q'] at l
      exact Nat.lt_irrefl _ l
    · exact hfr (List.mem_filterMap.mpr ⟨e, e1, q⟩)
  have hun : ∀ (sZ : Shared) (HZ : Hp), Un (frs (envOfC x1 sg1 s.heap.objs.size g1 cd1 :: X.stack)) [] H1 HZ s1.heap sZ.heap → HOk X.prog X.w HZ sZ.heap → AllBare sZ.gens → sZ.os = s1.os → Un (frs X.stack) [] H HZ s.heap sZ.heap :=
    fun sZ' HZ' u1 u2 u3 u4 => (I1.call' (ch := []) u4 u1 u2 u3 (fun b z => absurd z (by simp))).base
  have rc : codeAny (model X.prog X.w) (X.A.deeper (envOfC x1 sg1 s.heap.objs.size g1 cd1)) (.call (.ref gT) ⟨us, []⟩) (CR C8.CX0 (envOfC x1 sg1 s.heap.objs.size g1 cd1 :: X.stack) X.prog X.w H1 s1 Q C8.E0) s1 := by
    have bb : BindsTo s1 (PySem.W.fnOf "_law_tried" "_law_tried" (defArgs sTried) (defBody sTried) (defScope sTried) .none kV doc pmT an cdv ct) ⟨us, []⟩ ((["_law_act"] : List Str).zip us) := by
      have hl : (us ++ []).length = (["_law_act"] : List Str).length := by
        rw [List.append_nil, ← r1.length]
        rfl
      have z := bT s1 us I1.kIn hl
      rw [List.append_nil] at z
      exact z
    refine run_ofS (N := nTried) (ps := ["_law_act"]) (us := us) (vs := [.ref f]) (k := k + 1) lk hcg scTried hr I1.env0 bb r1 rfl fun hr' => ?_
    have act : ∀ (W : WX) (pn : List (Addr × Obj)) (xe : Value → Shared → Prop) (E : XK) (p1 p2 : Pos), Takes ((cxOf C8.CX0 X.prog X.w X.K X.mg X.base nTried "_law_tried" (defScope sTried) gT cdv (X.A.deeper (envOfC x1 sg1 s.heap.objs.size g1 cd1)) (envOfC x1 sg1 s.heap.objs.size g1 cd1 :: X.stack) s1 H1 C8.E0).tr pn xe) W → (∀ cls d σ' H', E cls d H' → W cls d σ' H') →
        PE ((cxOf C8.CX0 X.prog X.w X.K X.mg X.base nTried "_law_tried" (defScope sTried) gT cdv (X.A.deeper (envOfC x1 sg1 s.heap.objs.size g1 cd1)) (envOfC x1 sg1 s.heap.objs.size g1 cd1 :: X.stack) s1 H1 C8.E0).tr pn xe) (.Call (.Name "_law_act" p1) [] [] p2)
          (fun σZ HZ Q => σZ[0]? = some (some (.ref f)) ∧ HZ c' = some (CodeO c' (X.env.qual ++ "<lambda>")) ∧ t E σ HZ Q) := fun W pn xe E p1 p2 tk hW =>
      pe_act2 (i := 0) (A' := X.A.deeper (envOfC x1 sg1 s.heap.objs.size g1 cd1)) (outer' := envOfC x1 sg1 s.heap.objs.size g1 cd1 :: X.stack) (s0 := s1) (H0 := H1) (k := k) I L of0 hfn0 hfr0 hun (hbind _ _ _ _ _) tk hW hr' (fun A outer s H hr2 => hbody A outer s H E f c' hr2) rfl visTried
    obtain ⟨t', ht', hq'⟩ := tried_gives (X := cxOf C8.CX0 X.prog X.w X.K X.mg X.base N1 x1 sg1 g1 cd1 X.A X.stack s H C8.E0) (g := gT) (cdg := cdv) (q := X.env.qual ++ "<lambda>") T f c' s1 H1 Q (fun E H' Q' => t E σ H' Q') act h2 h3
    exact ⟨t', ht'.nox, hq'⟩
  refine wpAny_call (codeAny_mono rc fun r s' hq => ?_)
  cases r with
  | error e => exact (show False from hq).elim
  | ok fl =>
    cases fl with
    | ret u => exact I1.after hq
    | next => exact False.elim hq
    | brk => exact False.elim hq
    | cont => exact False.elim hq
end
/-! ### the 28 refusals by one Bool -/
def refsB (K : PySem.W.Frag) : Bool := frL (rNms.map (He.ga K)) fun cs => (List.range 28).all fun i => frN (cs.getD i 0) fun C => xfB K C && ((("word" : Str) :: rFl i).all fun f => He.eqO (PySem.W.findIn K (.ref C) f) (some none)) &&
  (List.range 28).all fun j => decide (PySem.W.exmOne K (.ref C) (.ref (cs.getD j 0)) = some (decide (i = j)))
theorem refsB_ok {K : PySem.W.Frag} {h : Heap} {mg : Str → Option Value} {fa : List He.Fa} {fn : List He.DefD} (X : K.In h) (G : h.Ns mainGlobals mg) (c : He.SaysD (rNms.map He.Fa.glo ++ fa) fn K) (hb : refsB K = true) : RefsT K mg (fun i => (rNms.map (He.ga K)).getD i 0) := by
  unfold refsB at hb
  rw [frL_eq] at hb
  have key : ∀ i, i < 28 → xfB K ((rNms.map (He.ga K)).getD i 0) = true ∧ ((("word" : Str) :: rFl i).all fun f => He.eqO (PySem.W.findIn K (.ref ((rNms.map (He.ga K)).getD i 0)) f) (some none)) = true ∧ ((List.range 28).all fun j => decide (PySem.W.exmOne K (.ref ((rNms.map (He.ga K)).getD i 0)) (.ref ((rNms.map (He.ga K)).getD j 0)) = some (decide (i = j)))) = true := fun i hi => by
    have z := List.all_eq_true.mp hb i (List.mem_range.mpr hi)
    rw [frN_eq] at z
    obtain ⟨z1, z2⟩ := Bool.and_eq_true_iff.mp z
    obtain ⟨z3, z4⟩ := Bool.and_eq_true_iff.mp z1
    exact ⟨z3, z4, z2⟩
  refine ⟨fun i hi => ?_, fun i hi => xfB_ok (key i hi).1, fun i hi f hf => He.eqO_ok (List.all_eq_true.mp (key i hi).2.1 f hf), fun i j hi hj => of_decide_eq_true (List.all_eq_true.mp (key i hi).2.2 j (List.mem_range.mpr hj))⟩
  have hl : i < rNms.length := hi
  have e1 : rNm i = rNms[i] := by
    unfold rNm
    rw [List.getD_eq_getElem?_getD, List.getElem?_eq_getElem hl]
    rfl
  have e2 : (rNms.map (He.ga K)).getD i 0 = He.ga K (rNm i) := by
    rw [e1, List.getD_eq_getElem?_getD, List.getElem?_map, List.getElem?_eq_getElem hl]
    rfl
  rw [e2]
  refine He.glo_ok X G (c.facts (f := .glo (rNm i)) (List.mem_append_left _ (List.mem_map.mpr ⟨rNm i, ?_, rfl⟩)))
  rw [e1]
  exact List.getElem_mem hl
/-! ### _law_is(lambda: body, e) -/
abbrev sIs : Stmt := topS 57
abbrev nIs : List Str := ["_law_act", "_law_due"]
theorem scIs : FnScope nIs ["_law_act", "_law_due"] (defScope sIs) := ⟨rfl, rfl, rfl, by decide +kernel, rfl, by decide +kernel, by decide +kernel⟩
theorem visIs : Vis (defScope sIs) "_law_act" := .inl rfl
/-- T: the tables of code objects; te: e's reading; t: the lambda's -/
def tIs (K : PySem.W.Frag) (T : List (Addr × Str)) (cm : Nat → Addr) (n : Nat) (te : TE) (t : XK → TE) : TE := fun σ H Q => LamX.Tabs T H ∧ ∀ H1, LamX.ExtN H H1 → LamX.Tabs T H1 → te σ H1 fun y H2 => LamX.ExtN H1 H2 ∧
  ∀ Q' : VK, (∀ v H3, spLike K n [v, y] H3 Q (fun _ _ _ => False) → Q' v H3) → TTried cm (fun E H' Q'' => t E σ H' Q'') H2 Q'
section
open LamX
variable {X : Cx}
theorem pe_is {T : List (Addr × Str)} {cm : Nat → Addr} {g gT gL c P : Addr} {fd fdT fdL : FuncData} {k n : Nat} {params : Arguments} {body e : Expr} {scope : Scope} {t : XK → TE} {te : TE} {p lpos pos : Pos}
    (FI : Fun X.K "_law_is" "_law_is" sIs g fd) (hm : X.mg "_law_is" = some (.ref g)) (hb : L2.Binds X.K fd ["_law_act", "_law_due"] []) (hg : Gl X "_law_is")
    (RT : RefsT X.K X.mg cm) (FT : Fun X.K "_law_tried" "_law_tried" sTried gT fdT) (mT : X.mg "_law_tried" = some (.ref gT)) (bT : L2.Binds X.K fdT ["_law_act"] [])
    (FL : Fun X.K "_law_like" "_law_like" sLike gL fdL) (mL : X.mg "_law_like" = some (.ref gL)) (bL : L2.Binds X.K fdL ["_law_one", "_law_due"] []) (GL : FnOk X.prog X.w X.K X.mg X.base CX0 (k + 2) gL fdL ["_law_one", "_law_due"] (spLike X.K n))
    (hs : X.stack = X.env :: X.outer) (tb : TabB X.base X.mg c P) (hcode : X.env.code = .ref c) (hmT : (P, X.env.qual ++ "<lambda>") ∈ T) (hu : ∀ p ∈ T, p.1 = P → p.2 = X.env.qual ++ "<lambda>") (hr : Room (k + 3) X.A) (L : LamS X.env.scope scope) (hdef : defaultsOf params X.env = ([], []))
    (hbind : ∀ (q : Str) (cl : List (Str × Addr)) (pm cv ctv : Value), bindArgs (PySem.W.kla_fn "<lambda>" q params body scope cl pm cv ctv) ⟨[], []⟩ = pure [])
    (hbody : ∀ (A : Around) (outer : List Env) (s : Shared) (H : Hp) (E : XK) (f c' : Addr), Room k (A.deeper (lamEnv X scope s.heap.objs.size f c')) → PE (lamCx X A outer s H E scope f c') body (t E))
    (he : PE X e te) (hst : starEach [e] X.env = (false, eval e X.env) :: starEach [] X.env := by rfl) :
    PE X (.Call (.Name "_law_is" p) [.Lambda params body scope lpos, e] [] pos) (tIs X.K T cm n te t) := by
  refine ⟨fun pins s σ H Q I h => ?_⟩
  obtain ⟨hT, h⟩ := h
  refine wpAny_Call_Name_kw (ld_glob I hg hm ?_)
  refine PySem.W.callWith_K (h₀ := X.base) I.ok.mod.kin FI.kp ?_ (by rfl) (by rw [hst]; rfl)
  show wpAny _ _ (spliced ((false, eval (.Lambda params body scope lpos) X.env) :: backTo pos (starEach [e] X.env))) _ _ s
  refine Calls.spliced_cons (lam_make2 I tb hcode hmT hu hT hdef (L.has I.ok) fun f c' pm' ctv H1 s' I1 eN T1 hf hfn hfr hco => ?_)
  have nL : f ≠ X.env.locals := fun z => by
    obtain ⟨m, ⟨ob, es, ep, ho, hd, _⟩, _⟩ := I1.loc
    rw [← z, hf] at ho
    have z2 := Option.some.inj ho
    rw [← z2] at hd
    cases hd
  have nF : f ∉ X.fs := fun z => hfr (by
    obtain ⟨en, e1, e2⟩ := List.mem_filterMap.mp z
    rw [hs]
    exact List.mem_filterMap.mpr ⟨en, List.mem_cons_of_mem _ e1, e2⟩)
  have J1 : Inv X ((f, PySem.W.kla_obj "<lambda>" (X.env.qual ++ "<lambda>") params body scope (cloFrom X.env.cells scope.names []) pm' c' ctv) :: pins) σ H1 s' := I1.pins_of fun r hr' => by
    rcases List.mem_cons.mp hr' with z | z
    · rw [z]
      exact ⟨hf, hfn, nL, nF, kla_notCell⟩
    · exact I1.pin r (List.mem_append_right _ z)
  rw [hst]
  refine Calls.spliced_cons (thn (he.run _ s' σ H1 _ J1 (h H1 eN T1)) fun u s2 z => ?_)
  obtain ⟨y, H2, J2, ry, eN2, q⟩ := z
  have hf2 := ClX.pin_at J2
  have hfn2 := ClX.pin_un J2
  have I2 := ClX.unpin J2
  have hco2 : H2 c' = some (CodeO c' (X.env.qual ++ "<lambda>")) := eN2 _ _ hco codeO_ne
  refine Calls.spliced_nil ⟨I2.kIn, ?_⟩
  obtain ⟨oc, od, kV, doc, pmT, an, cdv, ct, osl, rfl, lk, hcg⟩ := FI.ex
  have rc : codeAny (model X.prog X.w) X.A (.call (.ref g) ⟨[.ref f, u], []⟩) (CR C8.CX0 X.stack X.prog X.w H2 s2 Q C8.E0) s2 := by
    refine run_ofS (N := nIs) (ps := ["_law_act", "_law_due"]) (us := [.ref f, u]) (vs := [.ref f, y]) (k := k + 2) lk hcg scIs hr I2.env0 (hb s2 [.ref f, u] I2.kIn rfl) (.cons rfl (.cons ry .nil)) rfl fun hr' => ?_
    refine ⟨_, PSs.nox (pss_one (ps_ret (pe_call GL hr' (by rfl) mL FL.kp bL .nil pass0 (pa_cons (pe_hand (cm := cm) (N1 := nIs) (x1 := "_law_is") (a1 := "_law_act") (sg1 := defScope sIs) (g1 := g) (cd1 := cdv) (t := t) (k := k) I2 L hf2 hfn2 hfr hbind hbody RT FT mT bT hr' rfl rfl visIs) (pa_cons (pv 1) pa_nil))))), ?_⟩
    exact ⟨rfl, hco2, q _ fun v H3 z => ⟨y, rfl, z⟩⟩
  refine wpAny_call (codeAny_mono rc fun r s3 hq => ?_)
  cases r with
  | error e => exact (show False from hq).elim
  | ok fl =>
    cases fl with
    | ret u => exact I2.after hq
    | next => exact False.elim hq
    | brk => exact False.elim hq
    | cont => exact False.elim hq
end
/-! ### _law_rows of one pad -/
abbrev sRows : Stmt := topS 48
abbrev nRows : List Str := ["_law_bag_here", "_law_colours", "_law_most", "_law_ever", "_law_rows_here", "_law_many", "_law_lead", "_law_turn", "_law_k"]
theorem scRows : FnScope nRows ["_law_bag_here", "_law_colours", "_law_most", "_law_ever"] (defScope sRows) := ⟨rfl, rfl, rfl, by decide +kernel, rfl, by decide +kernel, by decide +kernel⟩
/-- a row of the law beside the bag at b -/
def RowB (H : Hp) (b r : Addr) (xs ts : List Int) : Prop := ∃ la ta, H r = some (.tup [.ref la, .ref ta]) ∧ H la = some (.lst (xs.map V.int)) ∧ H ta = some (.lst (ts.map V.int)) ∧ r ≠ b ∧ la ≠ b ∧ ta ≠ b
theorem RowB.off {H H' : Hp} {b r : Addr} {xs ts : List Int} (h : RowB H b r xs ts) (o : Off b H H') : RowB H' b r xs ts := by
  obtain ⟨la, ta, h1, h2, h3, n1, n2, n3⟩ := h
  exact ⟨la, ta, o _ _ n1 h1, o _ _ n2 h2, o _ _ n3 h3, n1, n2, n3⟩
def RowL (K : PySem.W.Frag) (H : Hp) (r : Addr) (xs ts : List Int) : Prop := ∃ la ta, SqT K H r [.ref la, .ref ta] ∧ SqL K H la (xs.map V.int) ∧ SqL K H ta (ts.map V.int)
theorem RowB.row {K : PySem.W.Frag} {H : Hp} {b r : Addr} {xs ts : List Int} (h : RowB H b r xs ts) : RowL K H r xs ts := by
  obtain ⟨la, ta, h1, h2, h3, _⟩ := h
  exact ⟨la, ta, SqT.of h1, SqL.of h2, SqL.of h3⟩
theorem Off.newU {b p : Addr} {H H' : Hp} {o : HO} (x : Off b H H') (n : H p = none) : Off b H (L2.upd H' p o) := fun a v na h => by
  rw [upd_ne (ne_of_none h n)]
  exact x a v na h
/-- notes of a pad of four colours -/
def Nt (xs : List Int) : Prop := ∀ x ∈ xs, 0 ≤ x ∧ x < 4
theorem nt_nil : Nt [] := fun _ h => nomatch h
theorem Nt.snoc {xs : List Int} {r : Int} (h : Nt xs) (h0 : 0 ≤ r) (h1 : r < 4) : Nt (xs ++ [r]) := fun x hx => by
  rcases List.mem_append.mp hx with z | z
  · exact h x z
  · rw [List.mem_singleton.mp z]
    exact ⟨h0, h1⟩
def spRows : Sp := fun vs H Q _ => ∃ (b c q : Addr), vs = [.ref b, .ref q, .int 9, .int 2] ∧ Bag H b c ∧ H q = some (.lst [.int 4]) ∧ q ≠ b ∧
  ∀ H' p r xs ts, Off b H H' → Bag H' b c → H' p = some (.lst [.ref r]) → RowB H' b r xs ts → xs.length ≤ 9 → ts.length ≤ 4 → Nt xs → Nt ts → Q (.ref p) H'
section
variable {P : Program} {w : World} {K : PySem.W.Frag} {mg : Str → Option Value} {base : Heap}
theorem ok_rows {f fP : Addr} {fd fdP : FuncData} {k : Nat} (F : Fun K "_law_rows" "_law_rows" sRows f fd) (mr : mg "range" = none) (FP : Fun K "_law_pull" "_law_pull" sPull fP fdP) (bP : Binds K fdP ["_law_bag_here", "_law_size"] []) (gP : mg "_law_pull" = some (.ref fP))
    (GP : FnOk P w K mg base CX0 k fP fdP ["_law_bag_here", "_law_size"] spPull) : FnOk P w K mg base CX0 (k + 1) f fd ["_law_bag_here", "_law_colours", "_law_most", "_law_ever"] spRows := by
  refine F.ok scRows (fun vs H Q E h => ?_) (fun cdv A outer s H vs Q E hr h => ?_)
  · obtain ⟨b, c, q, rfl, _⟩ := h
    rfl
  · obtain ⟨b, c, q, rfl, hB, hq, hqb, fin⟩ := h
    refine ⟨_, pss_cons (ps_set (i := 4) scRows.nd rfl (.inl rfl) (pe_lst pa_nil))
      (pss_cons (ps_for PassesOwn.never rfl (pi_list (pv 1)) (pg_name (i := 5) scRows.nd rfl (.inr rfl))
        (C8.pss_cut (ps_setLc (i := 6) (own := [("_law_k", 8)]) (g := gName 8) (tt := tYes) rfl scRows.nd rfl rfl (sw_true rfl rfl rfl (by decide +kernel))
            (pi_range1 (by rfl) mr (pa_cons (pe_call GP hr (by rfl) gP FP.kp bP .nil pass0 (pa_cons (pv 0) (pa_cons (pe_op op_add (pv 2) pe_int) pa_nil))) pa_nil))
            (blkOk_by (own := [("_law_k", 8)]) (N := nRows) (sc := defScope sRows) (by decide +kernel)) (fun _ _ _ _ _ => pg_name (i := 8) scRows.nd rfl (Or.inl rfl)) (fun _ _ _ _ _ => pts_nil)
            (fun _ _ _ _ _ => pe_call GP hr (by rfl) gP FP.kp bP .nil pass0 (pa_cons (pv 0) (pa_cons (pv 5) pa_nil))))
        (pss_cons (ps_set (i := 7) scRows.nd rfl (.inl rfl) (pe_lst pa_nil))
        (C8.pss_cut (ps_if (PW.pt (pw_and (pt_cmpR op_gt (pv 3) pe_int (nomark _)) (pw_and1 (pt_cmpR op_eq (pe_call GP hr (by rfl) gP FP.kp bP .nil pass0 (pa_cons (pv 0) (pa_cons (pv 3) pa_nil))) pe_int (nomark _)))))
            (pss_one (ps_setLc (i := 7) (own := [("_law_k", 8)]) (g := gName 8) (tt := tYes) rfl scRows.nd rfl rfl (sw_true rfl rfl rfl (by decide +kernel))
              (pi_range1 (by rfl) mr (pa_cons (pe_op op_add pe_int (pe_call GP hr (by rfl) gP FP.kp bP .nil pass0 (pa_cons (pv 0) (pa_cons pe_int pa_nil)))) pa_nil))
              (blkOk_by (own := [("_law_k", 8)]) (N := nRows) (sc := defScope sRows) (by decide +kernel)) (fun _ _ _ _ _ => pg_name (i := 8) scRows.nd rfl (Or.inl rfl)) (fun _ _ _ _ _ => pts_nil)
              (fun _ _ _ _ _ => pe_call GP hr (by rfl) gP FP.kp bP .nil pass0 (pa_cons (pv 0) (pa_cons (pv 5) pa_nil))))) pss_nil)
        (pss_one (ps_expr (pe_bm PySem.F.plainAttrs_list PySem.F.slot_list_append PySem.F.type_list_append mt_append (pv 4) (pa_cons (pe_tup (pa_cons (pv 6) (pa_cons (pv 7) pa_nil))) pa_nil))))))))
      (pss_one (ps_ret (pv 4)))), ?_⟩
    refine ⟨Nat.zero_le _, fun D nD => ?_⟩
    have hne := hB.ne nD
    have hDq : D ≠ q := fun z => by rw [z, hq] at nD; cases nD
    have u0 := same_upd (o := .lst []) nD
    refine ⟨.ref q, rfl, q, rfl, ⟨_, SqL.of (u0 _ _ hq)⟩, ?_⟩
    refine for_list (xs := [.int 4]) (fun i σ H' => ∃ y5 y6 y7, σ = [some (.ref b), some (.ref q), some (.int 9), some (.int 2), some (.ref D), y5, y6, y7, none] ∧ Bag H' b c ∧ Off b H H' ∧ H' q = some (.lst [.int 4]) ∧
        ((i = 0 ∧ H' D = some (.lst [])) ∨ (i = 1 ∧ ∃ r xs ts, H' D = some (.lst [.ref r]) ∧ RowB H' b r xs ts ∧ xs.length ≤ 9 ∧ ts.length ≤ 4 ∧ Nt xs ∧ Nt ts)))
      ⟨none, none, none, rfl, hB.same u0, Off.same u0, u0 _ _ hq, .inl ⟨rfl, upd_same⟩⟩ (fun i σ H' _ hP => by obtain ⟨_, _, _, _, _, _, z, _⟩ := hP; exact SqL.of z) ?_ ?_
    · rintro i x σ H' hx ⟨y5, y6, y7, rfl, hB1, off1, hq1, hD⟩
      obtain ⟨rfl, rfl⟩ : i = 0 ∧ x = .int 4 := by
        match i, hx with
        | 0, hx => exact ⟨rfl, (Option.some.inj hx).symm⟩
        | j + 1, hx => cases hx
      rcases hD with ⟨_, hD⟩ | ⟨z, _⟩
      · -- lead
        refine ⟨fun σ' H' => ∃ (L : Addr) (y7 : Option V) (xs : List Int), σ' = [some (.ref b), some (.ref q), some (.int 9), some (.int 2), some (.ref D), some (.int 4), some (.ref L), y7, none] ∧ Bag H' b c ∧ Off b H H' ∧ H' q = some (.lst [.int 4]) ∧ H' D = some (.lst []) ∧ H' L = some (.lst (xs.map V.int)) ∧ L ≠ b ∧ L ≠ D ∧ xs.length ≤ 9 ∧ Nt xs, ?_, ?_⟩
        · refine ⟨.ref b, rfl, .int 9, rfl, 9, 1, rfl, rfl, b, c, 10, rfl, hB1, by decide, by decide, fun H2 r off2 hB2 r0 r1 => ?_⟩
          obtain ⟨n, rfl⟩ := Int.eq_ofNat_of_zero_le r0
          refine ⟨(n : Int), rfl, by omega, by omega, fun L nL => ?_⟩
          have hne2 := hB2.ne nL
          have hD2 := off2 _ _ hne.1 hD
          have hq2 := off2 _ _ hqb hq1
          have hLD : L ≠ D := fun z => by rw [z, hD2] at nL; cases nL
          have hLq : L ≠ q := fun z => by rw [z, hq2] at nL; cases nL
          have hLH : H L = none := by
            cases e : H L with
            | none => rfl
            | some o => rw [(off1.trans off2) L o hne2.1 e] at nL; cases nL
          refine lc_range (lo := 0) (n := ((n : Nat) : Int).toNat) (fun i H' => Bag H' b c ∧ Off b H H' ∧ H' q = some (.lst [.int 4]) ∧ H' D = some (.lst []) ∧ ∃ xs : List Int, xs.length = i ∧ Nt xs ∧ H' L = some (.lst (xs.map V.int)))
            ⟨hB2.same (same_upd nL), (off1.trans off2).trans (Off.same (same_upd nL)), same_upd nL _ _ hq2, same_upd nL _ _ hD2, [], rfl, nt_nil, upd_same⟩ (fun i H' hi hP => ?_) (fun H' hP => ?_)
          · obtain ⟨hB4, off4, hq4, hD4, xs, hx, hN, hL⟩ := hP
            refine ⟨rfl, yesT ⟨.ref b, rfl, .int 4, rfl, b, c, 4, rfl, hB4, by decide, by decide, fun H5 r off hB5 r0' r1' => ⟨_, off _ _ hne2.1 hL, ?_, hB5.upd hne2, Off.newU (off4.trans off) hLH, ?_, ?_, xs ++ [r], ?_, hN.snoc r0' r1', ?_⟩⟩⟩
            · rw [List.length_map]
              exact small1000 (by omega)
            · rw [upd_ne (Ne.symm hLq)]
              exact off _ _ hqb hq4
            · rw [upd_ne (Ne.symm hLD)]
              exact off _ _ hne.1 hD4
            · rw [List.length_append, hx]
              rfl
            · rw [upd_same, List.map_append]
              rfl
          · obtain ⟨hB4, off4, hq4, hD4, xs, hx, hN, hL⟩ := hP
            exact ⟨L, _, xs, rfl, hB4, off4, hq4, hD4, hL, hne2.1, hLD, by omega, hN⟩
        · rintro σ' H' ⟨L, y7, xs, rfl, hB2, off2, hq2, hD2, hL2, hLb, hLD, hx, hNx⟩
          refine ⟨Nat.zero_le _, fun T nT => ?_⟩
          have hneT := hB2.ne nT
          have uT := same_upd (o := .lst []) nT
          have hTD : T ≠ D := fun z => by rw [z, hD2] at nT; cases nT
          have hTH : H T = none := by
            cases e : H T with
            | none => rfl
            | some o => rw [off2 T o hneT.1 e] at nT; cases nT
          refine ⟨fun σ' H' => ∃ (T : Addr) (ts : List Int), σ' = [some (.ref b), some (.ref q), some (.int 9), some (.int 2), some (.ref D), some (.int 4), some (.ref L), some (.ref T), none] ∧ Bag H' b c ∧ Off b H H' ∧ H' q = some (.lst [.int 4]) ∧ H' D = some (.lst []) ∧ H' L = some (.lst (xs.map V.int)) ∧ H' T = some (.lst (ts.map V.int)) ∧ T ≠ b ∧ T ≠ D ∧ ts.length ≤ 4 ∧ Nt ts, ?_, ?_⟩
          · refine ⟨.int 2, rfl, 2, 0, rfl, rfl, _, rfl, iteT ?_⟩
            refine ⟨.ref b, rfl, .int 2, rfl, b, c, 2, rfl, hB2.same uT, by decide, by decide, fun H3 r off3 hB3 _ _ => ⟨rfl, _, rfl, ite2 (fun e => ?_) (fun e => ?_)⟩⟩
            · refine ⟨.ref b, rfl, b, c, 4, rfl, hB3, by decide, by decide, fun H4 r off4 hB4 r0 r1 => ?_⟩
              obtain ⟨n, rfl⟩ := Int.eq_ofNat_of_zero_le r0
              have o24 := ((off2.trans (Off.same uT)).trans off3).trans off4
              have hq4 := off4 _ _ hqb (off3 _ _ hqb (uT _ _ hq2))
              have hD4 := off4 _ _ hne.1 (off3 _ _ hne.1 (uT _ _ hD2))
              have hL4 := off4 _ _ hLb (off3 _ _ hLb (uT _ _ hL2))
              refine ⟨1, (n : Int), rfl, rfl, 1 + (n : Int), rfl, by omega, by omega, fun T' nT' => ?_⟩
              have hne' := hB4.ne nT'
              have nTD : T' ≠ D := fun z => by rw [z, hD4] at nT'; cases nT'
              have nTL : T' ≠ L := fun z => by rw [z, hL4] at nT'; cases nT'
              have nTq : T' ≠ q := fun z => by rw [z, hq4] at nT'; cases nT'
              have nTH : H T' = none := by
                cases e : H T' with
                | none => rfl
                | some o => rw [o24 T' o hne'.1 e] at nT'; cases nT'
              refine lc_range (lo := 0) (n := (1 + (n : Int)).toNat) (fun i H' => Bag H' b c ∧ Off b H H' ∧ H' q = some (.lst [.int 4]) ∧ H' D = some (.lst []) ∧ H' L = some (.lst (xs.map V.int)) ∧ ∃ ts : List Int, ts.length = i ∧ Nt ts ∧ H' T' = some (.lst (ts.map V.int)))
                ⟨hB4.same (same_upd nT'), o24.trans (Off.same (same_upd nT')), same_upd nT' _ _ hq4, same_upd nT' _ _ hD4, same_upd nT' _ _ hL4, [], rfl, nt_nil, upd_same⟩ (fun i H' hi hP => ?_) (fun H' hP => ?_)
              · obtain ⟨hB5, off5, hq5, hD5, hL5, ts, hx, hN, hT5⟩ := hP
                refine ⟨rfl, yesT ⟨.ref b, rfl, .int 4, rfl, b, c, 4, rfl, hB5, by decide, by decide, fun H6 r off hB6 r0' r1' => ⟨_, off _ _ hne'.1 hT5, ?_, hB6.upd hne', Off.newU (off5.trans off) nTH, ?_, ?_, ?_, ts ++ [r], ?_, hN.snoc r0' r1', ?_⟩⟩⟩
                · rw [List.length_map]
                  exact small1000 (by omega)
                · rw [upd_ne (Ne.symm nTq)]
                  exact off _ _ hqb hq5
                · rw [upd_ne (Ne.symm nTD)]
                  exact off _ _ hne.1 hD5
                · rw [upd_ne (Ne.symm nTL)]
                  exact off _ _ hLb hL5
                · rw [List.length_append, hx]
                  rfl
                · rw [upd_same, List.map_append]
                  rfl
              · obtain ⟨hB5, off5, hq5, hD5, hL5, ts, hx, hN, hT5⟩ := hP
                exact ⟨T', ts, rfl, hB5, off5, hq5, hD5, hL5, hT5, hne'.1, nTD, by omega, hN⟩
            · exact ⟨T, [], rfl, hB3, (off2.trans (Off.same uT)).trans off3, off3 _ _ hqb (uT _ _ hq2), off3 _ _ hne.1 (uT _ _ hD2), off3 _ _ hLb (uT _ _ hL2), off3 _ _ hneT.1 upd_same, hneT.1, hTD, Nat.zero_le _, nt_nil⟩
          · rintro σ' H' ⟨T, ts, rfl, hB5, off5, hq5, hD5, hL5, hT5, hTb, hTD, ht, hNt⟩
            refine ⟨.ref D, rfl, .inl ⟨rfl, _, SqL.of hD5⟩, .ref L, rfl, .ref T, rfl, (show (2 : Nat) ≤ sizeLine by decide), fun R nR => ?_⟩
            have hneR := hB5.ne nR
            have uR := same_upd (o := .tup [.ref L, .ref T]) nR
            have hRD : R ≠ D := fun z => by rw [z, hD5] at nR; cases nR
            refine ⟨D, [], _, rfl, rfl, uR _ _ hD5, (show (0 : Nat) < sizeLine by decide), ?_⟩
            have oD : ∀ x : Addr, x ≠ D → upd (upd H' R (.tup [.ref L, .ref T])) D (.lst ([] ++ [V.ref R])) x = upd H' R (.tup [.ref L, .ref T]) x := fun x n => upd_ne n
            refine ⟨_, _, _, rfl, (hB5.same uR).upd hne, ?_, ?_, .inr ⟨rfl, R, xs, ts, upd_same, ⟨L, T, ?_, ?_, ?_, hneR.1, hLb, hTb⟩, hx, ht, hNx, hNt⟩⟩
            · exact Off.newU (off5.trans (Off.same uR)) nD
            · rw [oD _ (Ne.symm hDq)]
              exact uR _ _ hq5
            · rw [oD _ hRD]
              exact upd_same
            · rw [oD _ hLD]
              exact uR _ _ hL5
            · rw [oD _ hTD]
              exact uR _ _ hT5
      · exact absurd z (by decide)
    · rintro σ H' ⟨y5, y6, y7, rfl, hB1, off1, hq1, hD⟩
      rcases hD with ⟨z, _⟩ | ⟨_, r, xs, ts, hD, hR, hx, ht, hNx, hNt⟩
      · exact absurd z (by decide)
      · exact ⟨.ref D, rfl, fin H' D r xs ts off1 hB1 hD hR hx ht hNx hNt⟩
end
/-! ### rows as texts: the mathematics -/
theorem lr_len {xs ts c d : List Int} (h : LR xs ts c d) : c.length ≤ xs.length ∧ d.length ≤ ts.length := by
  rcases h with ⟨_, rfl, rfl⟩ | ⟨_, p, s, hp, _, rfl, rfl⟩
  · exact ⟨Nat.le_refl _, Nat.zero_le _⟩
  · refine ⟨?_, ?_⟩
    · rw [List.length_take]
      omega
    · rw [rot_len, List.length_take]
      omega
theorem lr_nt {xs ts c d : List Int} (h : LR xs ts c d) (hx : Nt xs) (ht : Nt ts) : Nt c ∧ Nt d := by
  rcases h with ⟨_, rfl, rfl⟩ | ⟨hne, p, s, hp, _, rfl, rfl⟩
  · exact ⟨hx, nt_nil⟩
  · refine ⟨fun x h => hx x (List.mem_of_mem_take h), fun x h => ?_⟩
    unfold rot at h
    obtain ⟨k, hk, rfl⟩ := List.mem_map.mp h
    have hl : 0 < (ts.take p).length := by
      have := hp.pos
      have := hp.le
      rw [List.length_take]
      omega
    have e := cyc_get hl ((k : Int) - s)
    exact ht _ (List.mem_of_mem_take (List.mem_of_getElem? e))
/-- the signs of notes -/
def nN (xs : List Int) : List Nat := xs.map fun x => 48 + x.toNat
def noteS (xs : List Int) : Str := Txt.join "" (xs.map strI)
theorem joinL_nil : ∀ l : List (List Nat), TL.joinL [] l = l.flatten
  | [] => rfl
  | [p] => by
    show p = (p :: []).flatten
    rw [List.flatten_cons, List.flatten_nil, List.append_nil]
  | p :: q :: r => by
    show p ++ ([] ++ TL.joinL [] (q :: r)) = _
    rw [joinL_nil (q :: r), List.nil_append, ← List.flatten_cons]
theorem tl_emp : TL.tl ("" : Str) = [] := by decide +kernel
theorem strI_tl {x : Int} (h : 0 ≤ x ∧ x < 10) : TL.tl (strI x) = [48 + x.toNat] := by
  obtain ⟨n, rfl⟩ := Int.eq_ofNat_of_zero_le h.1
  have : n < 10 := by omega
  show TL.tl (Str.ofString (toString ((n : Nat) : Int))) = _
  rw [TL.tl_num, TL.numL_lt this]
  rfl
theorem tl_noteS {xs : List Int} (h : Nt xs) : TL.tl (noteS xs) = nN xs := by
  unfold noteS
  rw [TL.join_eq, TL.tl_join, tl_emp, joinL_nil, List.map_map]
  unfold nN
  induction xs with
  | nil => rfl
  | cons x r ih =>
    rw [List.map_cons, List.map_cons, List.flatten_cons, ih fun y hy => h y (List.mem_cons_of_mem _ hy)]
    have := h x (List.mem_cons_self ..)
    rw [Function.comp, strI_tl (by omega)]
    rfl
theorem noteS_len {xs : List Int} (h : Nt xs) : (noteS xs).length = xs.length := by
  rw [TL.len_tl, tl_noteS h]
  exact List.length_map ..
theorem nN_ok {xs : List Int} (h : Nt xs) : ∀ c ∈ nN xs, 48 ≤ c ∧ c ≤ 51 := fun c hc => by
  obtain ⟨x, hx, rfl⟩ := List.mem_map.mp hc
  have := h x hx
  omega
theorem nN_free {xs : List Int} (h : Nt xs) {c : Nat} (hc : c < 48) : c ∉ nN xs := fun z => by
  have := nN_ok h c z
  omega
/-- signs that are notes -/
def goodT (l : List Nat) : Prop := ∀ c ∈ l, 48 ≤ c ∧ c ≤ 51
def valT (l : List Nat) : List Int := l.map fun (c : Nat) => (c : Int) - 48
theorem valT_nN {xs : List Int} (h : Nt xs) : valT (nN xs) = xs := by
  unfold valT nN
  rw [List.map_map]
  conv => rhs; rw [← List.map_id xs]
  refine List.map_congr_left fun x hx => ?_
  have := h x hx
  show ((48 + x.toNat : Nat) : Int) - 48 = x
  omega
theorem valT_nt {l : List Nat} (h : goodT l) : Nt (valT l) := fun x hx => by
  obtain ⟨c, hc, rfl⟩ := List.mem_map.mp hx
  have := h c hc
  omega
/-- a row as it is written -/
def rowS (cs ds : List Int) : Str := if cs = [] ∧ ds = [] then "-" else if ds = [] then noteS cs else ((noteS cs ++ ("(" : Str)) ++ noteS ds) ++ (")" : Str)
theorem op_tl : TL.tl ("(" : Str) = [40] := by decide +kernel
theorem cl_tl : TL.tl (")" : Str) = [41] := by decide +kernel
theorem da_tl : TL.tl ("-" : Str) = [45] := by decide +kernel
theorem rowS_tl {cs ds : List Int} (hc : Nt cs) (hd : Nt ds) : TL.tl (rowS cs ds) = if cs = [] ∧ ds = [] then [45] else if ds = [] then nN cs else nN cs ++ 40 :: (nN ds ++ [41]) := by
  unfold rowS
  split
  · exact da_tl
  · split
    · exact tl_noteS hc
    · rw [TL.tl_append, TL.tl_append, TL.tl_append, op_tl, cl_tl, tl_noteS hc, tl_noteS hd, List.append_assoc, List.append_assoc]
      rfl
/-- the text t is the told row cs, ds as it is written, of a length that may be read -/
structure WR (t : Str) (cs ds : List Int) : Prop where
  e : t = rowS cs ds
  lr : LR cs ds cs ds
  nc : Nt cs
  nd : Nt ds
  lc : cs.length ≤ 400
  ld : ds.length ≤ 12
theorem WR.dash : WR "-" [] [] := ⟨rfl, .inl ⟨rfl, rfl, rfl⟩, nt_nil, nt_nil, by decide, by decide⟩
theorem WR.is_dash {cs ds : List Int} (h : WR "-" cs ds) : cs = [] ∧ ds = [] := by
  have e := congrArg TL.tl h.e
  rw [da_tl, rowS_tl h.nc h.nd] at e
  split at e
  · assumption
  · split at e
    · exact absurd (show 45 ∈ nN cs by rw [← e]; exact List.mem_cons_self ..) (nN_free h.nc (by decide))
    · cases hn : nN cs with
      | nil => rw [hn] at e; cases e
      | cons a r =>
        rw [hn] at e
        have e1 := List.cons.inj e
        exact absurd (show 45 ∈ nN cs by rw [hn, e1.1]; exact List.mem_cons_self ..) (nN_free h.nc (by decide))
/-- of any other text -/
theorem WR.tl {t : Str} {cs ds : List Int} (h : WR t cs ds) (hn : t ≠ "-") : TL.tl t ≠ [] ∧ ((ds = [] ∧ TL.tl t = nN cs) ∨ (ds ≠ [] ∧ TL.tl t = nN cs ++ 40 :: (nN ds ++ [41]))) := by
  have e := congrArg TL.tl h.e
  rw [rowS_tl h.nc h.nd] at e
  split at e
  · exact absurd (TL.ext_tl (e.trans da_tl.symm)) hn
  · rename_i h1
    split at e
    · rename_i h2
      refine ⟨fun z => h1 ⟨?_, h2⟩, .inl ⟨h2, e⟩⟩
      rw [z] at e
      exact List.map_eq_nil_iff.mp e.symm
    · rename_i h2
      refine ⟨fun z => ?_, .inr ⟨h2, e⟩⟩
      rw [z] at e
      cases hq : nN cs <;> rw [hq] at e <;> cases e
theorem nN_nil {xs : List Int} (h : nN xs = []) : xs = [] := List.map_eq_nil_iff.mp h
/-! the program's way to read: partition and removesuffix -/
theorem rms_tl (x : Str) (c : Nat) : TL.tl (Txt.removesuffix x ⟨#[c]⟩) = if TL.tl x ≠ [] ∧ (TL.tl x).getLast? = some c then (TL.tl x).dropLast else TL.tl x := by
  have hx : x.length = (TL.tl x).length := TL.len_tl x
  have h1 := StrLaws.subAt_one x c (x.length - 1)
  have hlast : (TL.tl x).getLast? = (TL.tl x)[x.length - 1]? := by rw [List.getLast?_eq_getElem?, hx]
  show TL.tl (Txt.affix x (if 1 ≤ x.length && PySem.Builtin.Str.subAt x ⟨#[c]⟩ (x.length - 1) then some (0, x.length - 1) else none)) = _
  by_cases hc : TL.tl x ≠ [] ∧ (TL.tl x).getLast? = some c
  · have hl : 0 < x.length := by rw [hx]; exact List.length_pos_iff.mpr hc.1
    have h2 := h1.mpr (by rw [← hlast]; exact hc.2)
    rw [if_pos (by rw [h2.2, decide_eq_true (show 1 ≤ x.length from hl)]; rfl), if_pos hc]
    unfold Txt.affix
    dsimp only
    rw [if_neg (by rw [beq_iff_eq]; omega), TL.tl_strSub, List.drop_zero, List.dropLast_eq_take, hx]
    rfl
  · rw [if_neg hc, if_neg ?_]
    · rfl
    · intro z
      obtain ⟨z1, z2⟩ := Bool.and_eq_true_iff.mp z
      have z1 := of_decide_eq_true z1
      have h2 := h1.mp ⟨by show x.length - 1 + 1 ≤ x.length; omega, z2⟩
      refine hc ⟨fun y => ?_, hlast.trans h2⟩
      rw [y] at hx
      rw [hx] at z1
      exact absurd z1 (by decide)
theorem WR.read {t : Str} {cs ds : List Int} (h : WR t cs ds) (hn : t ≠ "-") : TL.tl (Txt.partition t "(").1 = nN cs ∧ TL.tl (Txt.removesuffix (Txt.partition t "(").2.2 ")") = nN ds := by
  have ey : TL.tl ("(" : Str) = 40 :: [] := op_tl
  obtain ⟨_, ⟨rfl, e⟩ | ⟨hd, e⟩⟩ := h.tl hn
  · rw [TL.partition_none ey (by rw [e]; exact nN_free h.nc (by decide))]
    refine ⟨e, ?_⟩
    show TL.tl (Txt.removesuffix Str.empty ⟨#[41]⟩) = _
    rw [rms_tl, if_neg fun z => z.1 rfl]
    rfl
  · have et : t = (noteS cs ++ ("(" : Str)) ++ (noteS ds ++ (")" : Str)) := TL.ext_tl (by rw [e, TL.tl_append, TL.tl_append, TL.tl_append, op_tl, cl_tl, tl_noteS h.nc, tl_noteS h.nd, List.append_assoc]; rfl)
    rw [et, TL.partition_app ey (by rw [tl_noteS h.nc]; exact nN_free h.nc (by decide))]
    refine ⟨tl_noteS h.nc, ?_⟩
    show TL.tl (Txt.removesuffix (noteS ds ++ (")" : Str)) ⟨#[41]⟩) = _
    rw [rms_tl, TL.tl_append, cl_tl, tl_noteS h.nd, if_pos ⟨by simp, by simp⟩, List.dropLast_concat]
/-! the law's way to read: the signs ahead of the first bracket, and those behind it but the last -/
theorem first_at {T p q : List Nat} {c : Nat} (h : c ∉ p) (e : T = p ++ c :: q) {p' q' : List Nat} (h' : c ∉ p') (e' : T = p' ++ c :: q') : p = p' ∧ q = q' := by
  subst e
  induction p generalizing p' with
  | nil =>
    cases p' with
    | nil => exact ⟨rfl, (List.cons.inj e').2⟩
    | cons a r =>
      have := (List.cons.inj e').1
      exact absurd (by rw [this]; exact List.mem_cons_self ..) h'
  | cons a r ih =>
    cases p' with
    | nil =>
      have := (List.cons.inj e').1
      exact absurd (by rw [← this]; exact List.mem_cons_self ..) h
    | cons a' r' =>
      obtain ⟨e1, e2⟩ := List.cons.inj e'
      obtain ⟨i1, i2⟩ := ih (fun z => h (List.mem_cons_of_mem _ z)) (p' := r') (fun z => h' (List.mem_cons_of_mem _ z)) e2
      exact ⟨by rw [e1, i1], i2⟩
theorem WR.none {t : Str} {cs ds : List Int} (h : WR t cs ds) (hn : t ≠ "-") (hc : ¬ ((TL.tl t).getLast? = some 41 ∧ 40 ∈ TL.tl t)) : ds = [] ∧ TL.tl t = nN cs := by
  obtain ⟨_, y | ⟨hd, e⟩⟩ := h.tl hn
  · exact y
  · exact absurd ⟨by rw [e, ← List.cons_append, ← List.append_assoc, List.getLast?_concat], by rw [e]; simp⟩ hc
theorem WR.some {t : Str} {cs ds : List Int} (h : WR t cs ds) (hn : t ≠ "-") {p q : List Nat} (hp : 40 ∉ p) (e : TL.tl t = p ++ 40 :: (q ++ [41])) : ds ≠ [] ∧ p = nN cs ∧ q = nN ds := by
  obtain ⟨_, ⟨_, y⟩ | ⟨hd, y⟩⟩ := h.tl hn
  · exact absurd (show 40 ∈ nN cs by rw [← y, e]; simp) (nN_free h.nc (by decide))
  · obtain ⟨a, b⟩ := first_at hp e (nN_free h.nc (by decide)) y
    exact ⟨hd, a, (List.append_inj_left' b rfl)⟩
/-- what is read is told -/
theorem WR.of {t : Str} {xs ts cs ds : List Int} (a : LR xs ts cs ds) (hx : Nt xs) (ht : Nt ts) (lx : xs.length ≤ 400) (lt : ts.length ≤ 12) (e : t = rowS cs ds) : WR t cs ds := by
  have l := lr_len a
  have n := lr_nt a hx ht
  exact ⟨e, a.idem, n.1, n.2, by omega, by omega⟩
theorem WR.det {t : Str} {cs ds cs' ds' : List Int} (h : WR t cs ds) (h' : WR t cs' ds') : cs = cs' ∧ ds = ds' := by
  by_cases hn : t = "-"
  · subst hn
    obtain ⟨rfl, rfl⟩ := h.is_dash
    obtain ⟨rfl, rfl⟩ := h'.is_dash
    exact ⟨rfl, rfl⟩
  · have a := h.read hn
    have b := h'.read hn
    have c := a.1.symm.trans b.1
    have d := a.2.symm.trans b.2
    exact ⟨by rw [← valT_nN h.nc, c, valT_nN h'.nc], by rw [← valT_nN h.nd, d, valT_nN h'.nd]⟩
/-! ### the law's way: index and slices -/
theorem op_lit : ("(" : Str) = ⟨#[40]⟩ := by decide +kernel
theorem cl_lit : (")" : Str) = ⟨#[41]⟩ := by decide +kernel
theorem first_open {t : Str} (h : 40 ∈ TL.tl t) : ∃ i r, Builtin.Str.occurrences t "(" 0 t.length 1 = i :: r ∧ i < t.length ∧ 40 ∉ (TL.tl t).take i ∧ TL.tl t = (TL.tl t).take i ++ 40 :: (TL.tl t).drop (i + 1) := by
  have key (i : Nat) : StrLaws.At t "(" t.length i ↔ (TL.tl t)[i]? = some 40 := by
    rw [op_lit]
    exact StrLaws.subAt_one t 40 i
  rcases StrLaws.occ_head t "(" 1 (Nat.le_refl _) with ⟨_, hn⟩ | ⟨i, r, e, hi, hn⟩
  · obtain ⟨i, hi⟩ := List.getElem?_of_mem h
    exact absurd ((key i).mpr hi) (hn i)
  · have hi' := (key i).mp hi
    have hl : i < (TL.tl t).length := (List.getElem?_eq_some_iff.mp hi').1
    refine ⟨i, r, e, by rw [TL.len_tl]; exact hl, fun z => ?_, ?_⟩
    · obtain ⟨k, hk⟩ := List.getElem?_of_mem z
      have hk1 : k < i := by
        have := (List.getElem?_eq_some_iff.mp hk).1
        rw [List.length_take] at this
        omega
      rw [List.getElem?_take_of_lt hk1] at hk
      exact hn k hk1 ((key k).mpr hk)
    · have e2 := List.take_append_drop i (TL.tl t)
      have e3 : (TL.tl t).drop i = 40 :: (TL.tl t).drop (i + 1) := by
        rw [List.drop_eq_getElem_cons hl]
        congr 1
        exact (List.getElem?_eq_some_iff.mp hi').2
      rw [e3] at e2
      exact e2.symm
theorem tl_cut (z : Str) (lo hi : Option Int) : TL.tl (cutS z lo hi) = ((TL.tl z).drop (HT.sIx (TL.tl z).length 0 lo)).take (HT.sIx (TL.tl z).length (TL.tl z).length hi - HT.sIx (TL.tl z).length 0 lo) := by
  have e : z.length = (TL.tl z).length := TL.len_tl z
  rw [← e]
  rfl
theorem tl_cut_to (z : Str) (k : Nat) : TL.tl (cutS z none (some (k : Int))) = (TL.tl z).take k := by
  rw [tl_cut]
  exact cut_to (TL.tl z) k
theorem tl_cut_in (z : Str) (k : Nat) (h : k + 1 < (TL.tl z).length) : TL.tl (cutS z (some ((k : Int) + 1)) (some (-1))) = ((TL.tl z).drop (k + 1)).dropLast := by
  rw [tl_cut]
  have e1 : HT.sIx (TL.tl z).length 0 (some ((k : Int) + 1)) = k + 1 := by
    show HT.sIx (TL.tl z).length 0 (some ((k + 1 : Nat) : Int)) = _
    rw [HT.sIx_nat]
    omega
  have e2 : HT.sIx (TL.tl z).length (TL.tl z).length (some (-1)) = (TL.tl z).length - 1 := by
    show (if (-1 : Int) < 0 then ((-1 : Int) + ((TL.tl z).length : Int)).toNat else min (-1 : Int).toNat (TL.tl z).length) = _
    rw [if_pos (by decide)]
    omega
  rw [e1, e2, List.dropLast_eq_take, List.length_drop]
  congr 1
  omega
theorem split_last {T : List Nat} {i : Nat} (hT : T = T.take i ++ 40 :: T.drop (i + 1)) (hl : T.getLast? = some 41) : T.drop (i + 1) = (T.drop (i + 1)).dropLast ++ [41] ∧ i + 1 < T.length := by
  have hd : T.drop (i + 1) ≠ [] := fun z => by
    rw [z] at hT
    rw [hT, List.getLast?_append] at hl
    cases hl
  refine ⟨?_, ?_⟩
  · have h2 : (T.drop (i + 1)).getLast? = some 41 := by
      rw [hT, List.getLast?_append, List.getLast?_cons] at hl
      rw [List.getLast?_eq_some_getLast hd] at hl ⊢
      exact hl
    rw [List.getLast?_eq_some_getLast hd] at h2
    have h3 := Option.some.inj h2
    have h4 := List.dropLast_concat_getLast hd
    rw [h3] at h4
    exact h4.symm
  · have := List.length_pos_iff.mpr hd
    rw [List.length_drop] at this
    omega
/-! ### tearboard.texts: notes_text, row_text, read_notes, read_row -/
theorem par_len : ("(" : Str).length = 1 := by decide +kernel
theorem par2_len : (")" : Str).length = 1 := by decide +kernel
theorem empS_len : Str.empty.length = 0 := by decide +kernel
theorem emp_len1 : ("" : Str).length = 0 := by decide +kernel
theorem small_str {n : Nat} (h : n ≤ 5000) : n ≤ sizeLine := Nat.le_of_lt (small_k h)
theorem strI_sm {z : Int} (h : 0 ≤ z ∧ z < 1000) : (strI z).length ≤ 4 ∧ z.natAbs.log2 < 1920 := by
  obtain ⟨n, rfl⟩ := Int.eq_ofNat_of_zero_le h.1
  exact strI_small n (by omega)
theorem noteS_sum {xs : List Int} (h : Nt xs) (hl : xs.length ≤ 1000) : ((xs.map strI).map (·.length)).sum + (xs.map strI).length * ("" : Str).length ≤ 16777216 := by
  have := sum_le (l := (xs.map strI).map (·.length)) (m := 4) (fun x hx => by
    obtain ⟨y, hy, rfl⟩ := List.mem_map.mp hx
    obtain ⟨z, hz, rfl⟩ := List.mem_map.mp hy
    have := h z hz
    exact (strI_sm (by omega)).1)
  rw [List.length_map, List.length_map] at this
  rw [emp_len1]
  omega
abbrev sNT : Stmt := topS 43
abbrev nNT : List Str := ["notes", "note"]
theorem scNT : FnScope nNT ["notes"] (defScope sNT) := ⟨rfl, rfl, rfl, by decide +kernel, rfl, by decide +kernel, by decide +kernel⟩
def spNT (K : PySem.W.Frag) : Sp := fun vs H Q _ => ∃ (a : Addr) (xs : List Int), vs = [.ref a] ∧ SqT K H a (xs.map V.int) ∧ Nt xs ∧ xs.length ≤ 1000 ∧ ∀ H', Same H H' → Q (.str (noteS xs)) H'
abbrev sRT : Stmt := topS 41
abbrev nRT : List Str := ["row", "lead", "turn"]
theorem scRT : FnScope nRT ["row"] (defScope sRT) := ⟨rfl, rfl, rfl, by decide +kernel, rfl, by decide +kernel, by decide +kernel⟩
def spRT (K : PySem.W.Frag) : Sp := fun vs H Q _ => ∃ (r : Addr) (cs ds : List Int), vs = [.ref r] ∧ RowAt K H r cs ds ∧ Nt cs ∧ Nt ds ∧ cs.length ≤ 1000 ∧ ds.length ≤ 1000 ∧ ∀ H', Same H H' → Q (.str (rowS cs ds)) H'
abbrev sRN : Stmt := topS 44
abbrev nRN : List Str := ["text", "sign"]
theorem scRN : FnScope nRN ["text"] (defScope sRN) := ⟨rfl, rfl, rfl, by decide +kernel, rfl, by decide +kernel, by decide +kernel⟩
/-- the refusal of the text -/
def badT (C : Addr) (H : Hp) (E : XK) : Prop := ∀ (d : Addr) (H' : Hp), Same H H' → H' d = some (.xd (rFs 22 [.int 0])) → E (.ref C) (some d) H'
theorem badT.later {C : Addr} {H H1 : Hp} {E : XK} (h : badT C H E) (s : Same H H1) : badT C H1 E := fun d H' s' hd => h d H' (s.trans s') hd
theorem same_ref {H H2 : Hp} {d : Addr} (h1 : H d = none) (h2 : ∀ b, b ≠ d → H b ≠ none → H2 b = H b) : Same H H2 := fun b o e => by
  rw [h2 b (ne_of_none e h1) (by rw [e]; simp)]
  exact e
def spRN (K : PySem.W.Frag) (C : Addr) : Sp := fun vs H Q E => ∃ (t : Str), vs = [.str t] ∧ t.length ≤ 2000 ∧ (goodT (TL.tl t) → ∀ H' p, Same H H' → SqT K H' p ((valT (TL.tl t)).map V.int) → Q (.ref p) H') ∧ (¬ goodT (TL.tl t) → badT C H E)
abbrev sRR : Stmt := topS 42
abbrev nRR : List Str := ["text", "lead", "bracket", "rest", "row"]
theorem scRR : FnScope nRR ["text"] (defScope sRR) := ⟨rfl, rfl, rfl, by decide +kernel, rfl, by decide +kernel, by decide +kernel⟩
def spRR (K : PySem.W.Frag) (C : Addr) : Sp := fun vs H Q E => ∃ (t : Str), vs = [.str t] ∧ t.length ≤ 1000 ∧ (∀ cs ds, WR t cs ds → ∀ H' p, Same H H' → RowAt K H' p cs ds → Q (.ref p) H') ∧ ((∀ cs ds, ¬ WR t cs ds) → badT C H E)
theorem take_snocT {α : Type} {xs : List α} {i : Nat} {x : α} (h : xs[i]? = some x) : xs.take (i + 1) = xs.take i ++ [x] := by
  rw [List.take_add_one, h]
  rfl
def rIntT : List V → Hp → VK → Prop := fun xs H Q => ∃ a n, xs = [.str a] ∧ PySem.intText? a = some n ∧ a.length ≤ 640 ∧ Q (.int n) H
theorem call_intT {X : Cx} : CallR X (.type "int") rIntT := call_int_str
def rInSg : R2 := fun x y H Q => ∃ (c : Nat) (z : Str), x = .str ⟨#[c]⟩ ∧ y = .str z ∧ Q (.bl (decide (c ∈ z.cps.toList))) H
theorem op_inSg {X : Cx} : OpR X (compareOp .In) rInSg := op_in_sign
theorem int_sign : ∀ c : Nat, c < 52 → 48 ≤ c → PySem.intText? ⟨#[c]⟩ = some ((c : Int) - 48) := by decide +kernel
theorem four_mem {c : Nat} : c ∈ ("0123" : Str).cps.toList ↔ 48 ≤ c ∧ c ≤ 51 := by
  rw [show ("0123" : Str).cps.toList = [48, 49, 50, 51] by decide +kernel]
  simp only [List.mem_cons, List.not_mem_nil, or_false]
  omega
theorem tl_get {t : Str} {i c : Nat} (h : t.cps[i]? = some c) : (TL.tl t)[i]? = some c := by
  show t.cps.toList[i]? = some c
  rw [Array.getElem?_toList]
  exact h
section
variable {P : Program} {w : World} {K : PySem.W.Frag} {mg : Str → Option Value} {base : Heap}
theorem ok_nt {f : Addr} {fd : FuncData} {k : Nat} (F : Fun K "notes_text" "notes_text" sNT f fd) (mst : mg "str" = none) : FnOk P w K mg base CX0 (k + 1) f fd ["notes"] (spNT K) := by
  refine F.ok scNT (fun vs H Q E h => ?_) (fun cdv A outer s H vs Q E hr h => ?_)
  · obtain ⟨a, xs, rfl, _⟩ := h
    rfl
  · obtain ⟨a, xs, rfl, ha, hn, hl, q⟩ := h
    refine ⟨_, pss_one (ps_ret (pe_join pe_str (pe_lc (own := [("note", 1)]) (g := gName 1) (tt := tYes) rfl scNT.nd (pi_tup (pv 0)) (blkOk_by (own := [("note", 1)]) (N := nNT) (sc := defScope sNT) (by decide +kernel)) (fun _ _ _ _ _ => pg_name (i := 1) scNT.nd rfl (.inl rfl)) (fun _ _ _ _ _ => pts_nil) (fun _ _ _ _ _ => pe_callTy (r := rStrI) call_strI (by rfl) mst (by decide +kernel) (pa_cons (pv 1) pa_nil))))), ?_⟩
    refine ⟨⟨_, rfl⟩, .ref a, rfl, a, rfl, ⟨_, ha⟩, fun D nD => ?_⟩
    refine lc_tup (K := K) (a := a) (xs := xs.map V.int) (fun i H' => Same H H' ∧ H' D = some (.lst (((xs.take i).map strI).map V.str))) ⟨same_upd nD, upd_same⟩ (fun i H' _ hP => Same.tup hP.1 ha) (fun i x H' hx hP => ?_) (fun H1 hP => ?_)
    · obtain ⟨sm, hD⟩ := hP
      rw [List.getElem?_map] at hx
      cases hz : xs[i]? with
      | none => rw [hz] at hx; cases hx
      | some z =>
        rw [hz] at hx
        obtain rfl := Option.some.inj hx
        have hz4 := hn z (List.mem_of_getElem? hz)
        refine ⟨rfl, yesT ⟨_, rfl, z, rfl, (strI_sm (by omega)).2, _, hD, ?_, Same.offUpd sm nD, ?_⟩⟩
        · rw [List.length_map, List.length_map, List.length_take]
          exact small1000 (by omega)
        · rw [upd_same, take_snocT hz, List.map_append, List.map_append]
          rfl
    · obtain ⟨s1, hD⟩ := hP
      rw [List.length_map, List.take_length] at hD
      exact ⟨_, D, xs.map strI, rfl, rfl, .inl (SqL.of hD), noteS_sum hn hl, q _ s1⟩
theorem ok_rt {f fN : Addr} {fd fdN : FuncData} {k : Nat} {tk : Tok} (F : Fun K "row_text" "row_text" sRT f fd) (ml : mg "len" = none) (mNN : mg "NO_NOTES" = some (.str "-" tk))
    (FN : Fun K "notes_text" "notes_text" sNT fN fdN) (bN : Binds K fdN ["notes"] []) (gN : mg "notes_text" = some (.ref fN)) (GN : FnOk P w K mg base CX0 k fN fdN ["notes"] (spNT K)) : FnOk P w K mg base CX0 (k + 1) f fd ["row"] (spRT K) := by
  refine F.ok scRT (fun vs H Q E h => ?_) (fun cdv A outer s H vs Q E hr h => ?_)
  · obtain ⟨r, cs, ds, rfl, _⟩ := h
    rfl
  · obtain ⟨r, cs, ds, rfl, ⟨ca, da, hr0, hc, hd⟩, nc, nd, lc, ld, q⟩ := h
    refine ⟨_, pss_cons (ps_asg (pv 0) (pg_tup (by rfl) (pgs_cons (pg_name (i := 1) scRT.nd rfl (.inl rfl)) (pgs_cons (pg_name (i := 2) scRT.nd rfl (.inl rfl)) pgs_nil))))
      (pss_cons (ps_if (pt_cmpR op_eq (pe_op op_add (pe_callB call_lenQ (by rfl) ml PySem.boot_len (pa_cons (pv 1) pa_nil)) (pe_callB call_lenQ (by rfl) ml PySem.boot_len (pa_cons (pv 2) pa_nil))) pe_int (nomark _)) (pss_one (ps_ret (pe_glob (v := .str "-") (by rfl) mNN ⟨_, rfl⟩))) pss_nil)
      (pss_cons (ps_if (pt_cmpR op_eq (pe_callB call_lenQ (by rfl) ml PySem.boot_len (pa_cons (pv 2) pa_nil)) pe_int (nomark _)) (pss_one (ps_ret (pe_call GN hr (by rfl) gN FN.kp bN .nil pass0 (pa_cons (pv 1) pa_nil)))) pss_nil)
      (pss_one (ps_ret (pe_joined (PJ.cons (pe_fmt (pe_call GN hr (by rfl) gN FN.kp bN .nil pass0 (pa_cons (pv 1) pa_nil))) (PJ.cons pe_str (PJ.cons (pe_fmt (pe_call GN hr (by rfl) gN FN.kp bN .nil pass0 (pa_cons (pv 2) pa_nil))) (PJ.cons pe_str PJ.nil))))))))), ?_⟩
    refine ⟨.ref r, rfl, r, _, rfl, hr0, rfl, .ref ca, _, rfl, .ref da, _, rfl, rfl, ?_⟩
    refine ⟨.ref ca, rfl, ca, _, rfl, .inr hc, .ref da, rfl, da, _, rfl, .inr hd, _, _, rfl, rfl, rfl, _, rfl, ite2 (fun e => ?_) (fun e => ?_)⟩
    · have e1 := V.int.inj (of_decide_eq_true e)
      rw [List.length_map, List.length_map] at e1
      have h1 : cs = [] := List.eq_nil_of_length_eq_zero (by omega)
      have h2 : ds = [] := List.eq_nil_of_length_eq_zero (by omega)
      have := q H (Same.refl H)
      unfold rowS at this
      rw [if_pos ⟨h1, h2⟩] at this
      exact this
    · have e1 : ¬ (cs = [] ∧ ds = []) := fun z => e (by rw [z.1, z.2]; rfl)
      refine ⟨.ref da, rfl, da, _, rfl, .inr hd, rfl, _, rfl, ite2 (fun e2 => ?_) (fun e2 => ?_)⟩
      · have e3 := V.int.inj (of_decide_eq_true e2)
        rw [List.length_map] at e3
        have h2 : ds = [] := List.eq_nil_of_length_eq_zero (by omega)
        refine ⟨.ref ca, rfl, ca, cs, rfl, hc, nc, lc, fun H1 s1 => ?_⟩
        have := q H1 s1
        unfold rowS at this
        rw [if_neg e1, if_pos h2] at this
        exact this
      · have h2 : ds ≠ [] := fun z => e2 (by rw [z]; rfl)
        have l1 := noteS_len nc
        have l2 := noteS_len nd
        refine ⟨.ref ca, rfl, ca, cs, rfl, hc, nc, lc, fun H1 s1 => ?_⟩
        refine .inl ⟨_, rfl, small_str (by omega), _, rfl, small_str (by rw [str_app_len, empS_len]; omega), _, rfl, small_str (by rw [str_app_len, str_app_len, empS_len, par_len]; omega), .ref da, rfl, da, ds, rfl, Same.tup s1 hd, nd, ld, fun H2 s2 => ?_⟩
        refine .inl ⟨_, rfl, small_str (by omega), _, rfl, small_str (by rw [str_app_len, str_app_len, str_app_len, empS_len, par_len]; omega), _, rfl, small_str (by rw [str_app_len, str_app_len, str_app_len, str_app_len, empS_len, par_len, par2_len]; omega), ?_⟩
        have := q H2 (s1.trans s2)
        unfold rowS at this
        rw [if_neg e1, if_neg h2] at this
        show Q (.str ((((Str.empty ++ noteS cs) ++ ("(" : Str)) ++ noteS ds) ++ (")" : Str))) H2
        rw [Str.empty_append]
        exact this
end
/-! ### read_notes, read_row -/
section
variable {P : Program} {w : World} {K : PySem.W.Frag} {mg : Str → Option Value} {base : Heap}
theorem ok_rn {f C : Addr} {fd : FuncData} {k : Nat} (F : Fun K "read_notes" "read_notes" sRN f fd) (ma : mg "all" = none) (mt : mg "tuple" = none) (mint : mg "int" = none) (R : ExcK P w K mg base k "BadText" C 1 (fun ws => [("at", ws.getD 0 .non), ("word", .str "BadText")])) :
    FnOk P w K mg base (L2.CX P w) (k + 2) f fd ["text"] (spRN K C) := by
  refine F.okX scRN (fun vs H Q E h => ?_) (fun cdv A outer s H vs Q E hr h => ?_)
  · obtain ⟨t, rfl, _⟩ := h
    rfl
  · obtain ⟨t, rfl, hl, q, qe⟩ := h
    refine ⟨_, pss_cons (ps_if (pt_not (pt_val (pe_callB (cr_all rfl) (by rfl) ma (by decide +kernel) (pa_cons (pe_lc (own := [("sign", 1)]) (g := gName 1) (tt := tYes) rfl scRN.nd (pi_str (pv 0)) (blkOk_by (own := [("sign", 1)]) (N := nRN) (sc := defScope sRN) (by decide +kernel)) (fun _ _ _ _ _ => pg_name (i := 1) scRN.nd rfl (.inl rfl)) (fun _ _ _ _ _ => pts_nil) (fun _ _ _ _ _ => pe_cmpR op_inSg (pv 1) pe_str (by rfl))) pa_nil)))) (pss_one (ps_raise rfl (takes_of rfl rfl rfl rfl) (pmk_ref R hr (by rfl) (pa_cons pe_int pa_nil)))) pss_nil)
      (pss_one (ps_ret (pe_callTy call_tupS (by rfl) mt (by decide +kernel) (pa_cons (pe_lc (own := [("sign", 1)]) (g := gName 1) (tt := tYes) rfl scRN.nd (pi_str (pv 0)) (blkOk_by (own := [("sign", 1)]) (N := nRN) (sc := defScope sRN) (by decide +kernel)) (fun _ _ _ _ _ => pg_name (i := 1) scRN.nd rfl (.inl rfl)) (fun _ _ _ _ _ => pts_nil) (fun _ _ _ _ _ => pe_callTy (r := rIntT) call_intT (by rfl) mint (by decide +kernel) (pa_cons (pv 1) pa_nil))) pa_nil)))), ?_⟩
    have hsz : t.cps.size = (TL.tl t).length := TL.len_tl t
    have htl : t.length = (TL.tl t).length := TL.len_tl t
    have hlen : (TL.tl t).length ≤ 2000 := by omega
    refine ⟨.str t, rfl, t, rfl, fun D nD => ?_⟩
    refine lc_it walk_str (fun i H' => Same H H' ∧ H' D = some (.lst ((((TL.tl t).take i).map fun (c : Nat) => decide (c ∈ ("0123" : Str).cps.toList)).map V.bl))) ⟨same_upd nD, upd_same⟩ (fun i H' _ _ => True.intro) (fun i x H' H'' hi hP hY => ?_) (fun H1 hP => ?_)
    · obtain ⟨sm, hD⟩ := hP
      obtain ⟨rfl, c, hc, rfl⟩ := hY
      have hc' := tl_get hc
      refine ⟨rfl, yesT ⟨_, rfl, c, _, rfl, rfl, _, hD, ?_, Same.offUpd sm nD, ?_⟩⟩
      · rw [List.length_map, List.length_map, List.length_take]
        exact small_k (by omega)
      · rw [upd_same, take_snocT hc', List.map_append, List.map_append]
        rfl
    · obtain ⟨s1, hD⟩ := hP
      rw [hsz, List.take_length] at hD
      refine ⟨D, _, rfl, SqL.of hD, ?_⟩
      have e : ((TL.tl t).map fun (c : Nat) => decide (c ∈ ("0123" : Str).cps.toList)).all id = true ↔ goodT (TL.tl t) := by
        rw [List.all_map, List.all_eq_true]
        exact ⟨fun h c hc => four_mem.mp (of_decide_eq_true (h c hc)), fun h c hc => decide_eq_true (four_mem.mpr (h c hc))⟩
      refine ⟨_, rfl, ?_⟩
      cases hb : ((TL.tl t).map fun (c : Nat) => decide (c ∈ ("0123" : Str).cps.toList)).all id with
      | false =>
        refine iteT ?_
        have hg : ¬ goodT (TL.tl t) := fun z => by rw [e.mpr z] at hb; cases hb
        exact ⟨rfl, (show (1 : Nat) ≤ 1000 by decide), fun d H2 h1 h2 h3 => qe hg d H2 (s1.trans (same_ref h1 h2)) h3⟩
      | true =>
        refine iteF ?_
        have hg := e.mp hb
        refine ⟨.str t, rfl, t, rfl, fun D2 nD2 => ?_⟩
        refine lc_it walk_str (fun i H' => Same H H' ∧ H' D2 = some (.lst ((((TL.tl t).take i).map fun (c : Nat) => (c : Int) - 48).map V.int))) ⟨s1.trans (same_upd nD2), upd_same⟩ (fun i H' _ _ => True.intro) (fun i x H' H'' hi hP hY => ?_) (fun H2 hP => ?_)
        · obtain ⟨sm, hD2⟩ := hP
          obtain ⟨rfl, c, hc, rfl⟩ := hY
          have hc' := tl_get hc
          have hc2 := hg c (List.mem_of_getElem? hc')
          have nD2' : H D2 = none := by
            cases e : H D2 with
            | none => rfl
            | some o => rw [s1 _ _ e] at nD2; cases nD2
          refine ⟨rfl, yesT ⟨_, rfl, _, _, rfl, int_sign c (by omega) hc2.1, (show (1 : Nat) ≤ 640 by decide), _, hD2, ?_, Same.offUpd sm nD2', ?_⟩⟩
          · rw [List.length_map, List.length_map, List.length_take]
            exact small_k (by omega)
          · rw [upd_same, take_snocT hc', List.map_append, List.map_append]
            rfl
        · obtain ⟨s2, hD2⟩ := hP
          rw [hsz, List.take_length] at hD2
          exact ⟨D2, _, rfl, .inl (SqL.of hD2), fun l H3 s3 hl3 => q hg H3 l (s2.trans s3) hl3⟩
theorem part_len (t : Str) : (Txt.partition t "(").1.length ≤ t.length ∧ (Txt.partition t "(").2.2.length ≤ t.length := by
  rcases PyProof.Rows.partition_whole t "(" with ⟨e, _⟩ | ⟨i, e, hi, _⟩
  · rw [e]
    exact ⟨Nat.le_refl _, Nat.zero_le _⟩
  · rw [e]
    have ht := TL.len_tl t
    refine ⟨?_, ?_⟩
    · rw [TL.len_tl, TL.tl_strSub, List.length_take, List.length_drop, ht]
      omega
    · rw [TL.len_tl, TL.tl_strSub, List.length_take, List.length_drop, ht]
      omega
theorem rms_len (x y : Str) : (Txt.removesuffix x y).length ≤ x.length := PyProof.Rows.len_removesuffix x y
theorem ok_rr {f fN fW fL C : Addr} {fd fdN fdW fdL : FuncData} {k : Nat} {tk tkL tkR : Tok} (F : Fun K "read_row" "read_row" sRR f fd) (ml : mg "len" = none) (mNN : mg "NO_NOTES" = some (.str "-" tk)) (mML : mg "MOST_LEAD" = some (.int 400 tkL)) (mMR : mg "MOST_ROUND" = some (.int 12 tkR))
    (FN : Fun K "read_notes" "read_notes" sRN fN fdN) (bN : Binds K fdN ["text"] []) (gN : mg "read_notes" = some (.ref fN)) (GN : FnOk P w K mg base (L2.CX P w) (k + 2) fN fdN ["text"] (spRN K C))
    (FW : Fun K "row_text" "row_text" sRT fW fdW) (bW : Binds K fdW ["row"] []) (gW : mg "row_text" = some (.ref fW)) (GW : FnOk P w K mg base CX0 (k + 2) fW fdW ["row"] (spRT K))
    (FL : Fun K "least_row" "least_row" sLR fL fdL) (bL : Binds K fdL ["lead", "turn"] []) (gL : mg "least_row" = some (.ref fL)) (GL : FnOk P w K mg base CX0 (k + 2) fL fdL ["lead", "turn"] (spLR K))
    (R : ExcK P w K mg base (k + 1) "BadText" C 1 (fun ws => [("at", ws.getD 0 .non), ("word", .str "BadText")])) :
    FnOk P w K mg base (L2.CX P w) (k + 3) f fd ["text"] (spRR K C) := by
  have GL1 : FnR P w K mg base CX0 (k + 2) fL (fun vs H Q E => spLR K (vs ++ []) H Q E) := GL.raw bL .nil
  refine F.okX scRR (fun vs H Q E h => ?_) (fun cdv A outer s H vs Q E hr h => ?_)
  · obtain ⟨t, rfl, _⟩ := h
    rfl
  · obtain ⟨t, rfl, hl, q, qe⟩ := h
    refine ⟨_, pss_cons (ps_if (pt_cmpR op_eq (pv 0) (pe_glob (v := .str "-") (by rfl) mNN ⟨_, rfl⟩) (nomark _)) (pss_one (ps_ret (pe_tup (pa_cons (pe_tup pa_nil) (pa_cons (pe_tup pa_nil) pa_nil))))) pss_nil)
      (pss_cons (ps_asg (pe_partition (pv 0) pe_str) (pg_tup (by rfl) (pgs_cons (pg_name (i := 1) scRR.nd rfl (.inl rfl)) (pgs_cons (pg_name (i := 2) scRR.nd rfl (.inl rfl)) (pgs_cons (pg_name (i := 3) scRR.nd rfl (.inl rfl)) pgs_nil)))))
      (pss_cons (ps_set (i := 4) scRR.nd rfl (.inl rfl) (pe_tup (pa_cons (pe_call GN hr (by rfl) gN FN.kp bN .nil (passes_call (takes_of rfl rfl rfl rfl) (fun _ _ _ _ h => h)) (pa_cons (pv 1) pa_nil)) (pa_cons (pe_call GN hr (by rfl) gN FN.kp bN .nil (passes_call (takes_of rfl rfl rfl rfl) (fun _ _ _ _ h => h)) (pa_cons (pe_m1 PySem.F.slot_str_removesuffix PySem.F.type_str_removesuffix mt_removesuffix (pv 3) pe_str) pa_nil)) pa_nil))))
      (pss_cons (ps_if (PW.pt (pw_or (pt_cmpR op_gt (pe_callB call_lenQ (by rfl) ml PySem.boot_len (pa_cons (pe_ix ix_tup (pv 4) pe_int (fun _ _ => rfl)) pa_nil)) (pe_glob (v := .int 400) (by rfl) mML ⟨_, rfl⟩) (nomark _)) (pw_or (pt_cmpR op_gt (pe_callB call_lenQ (by rfl) ml PySem.boot_len (pa_cons (pe_ix ix_tup (pv 4) pe_int (fun _ _ => rfl)) pa_nil)) (pe_glob (v := .int 12) (by rfl) mMR ⟨_, rfl⟩) (nomark _)) (pw_or1 (pt_cmpR op_ne (pe_call GW hr (by rfl) gW FW.kp bW .nil pass0 (pa_cons (StX.pe_callS1 GL1 hr FL.kp (by rfl) gL pass0 (pv 4)) pa_nil)) (pv 0) (nomark _)))))) (pss_one (ps_raise rfl (takes_of rfl rfl rfl rfl) (pmk_ref R hr (by rfl) (pa_cons pe_int pa_nil)))) pss_nil)
      (pss_one (ps_ret (pv 4)))))), ?_⟩
    refine ⟨.str t, rfl, rfl, _, rfl, ite2 (fun e => ?_) (fun e => ?_)⟩
    · have et : t = "-" := V.str.inj (of_decide_eq_true e)
      subst et
      refine ⟨Nat.zero_le _, fun a na => ⟨Nat.zero_le _, fun b nb => ⟨(show (2 : Nat) ≤ sizeLine by decide), fun p np => ?_⟩⟩⟩
      have s1 := same_upd (o := .tup []) na
      have s2 := same_upd (o := .tup []) nb
      have s3 := same_upd (o := .tup [.ref a, .ref b]) np
      exact q [] [] WR.dash _ p ((s1.trans s2).trans s3) ⟨a, b, SqT.of upd_same, Same.tup (s2.trans s3) (SqT.of upd_same), Same.tup s3 (SqT.of upd_same)⟩
    · have hn : t ≠ "-" := fun z => e (by rw [z]; rfl)
      have hL : (Txt.partition t "(").1.length ≤ 1000 := Nat.le_trans (part_len t).1 hl
      have hR : (Txt.partition t "(").2.2.length ≤ 1000 := Nat.le_trans (part_len t).2 hl
      have hS : (Txt.removesuffix (Txt.partition t "(").2.2 ")").length ≤ 1000 := Nat.le_trans (rms_len _ _) hR
      have bad1 : ¬ goodT (TL.tl (Txt.partition t "(").1) → ∀ cs ds, ¬ WR t cs ds := fun z cs ds h => z (by rw [(h.read hn).1]; exact nN_ok h.nc)
      have bad2 : ¬ goodT (TL.tl (Txt.removesuffix (Txt.partition t "(").2.2 ")")) → ∀ cs ds, ¬ WR t cs ds := fun z cs ds h => z (by rw [(h.read hn).2]; exact nN_ok h.nd)
      refine ⟨.str t, rfl, ⟨_, rfl⟩, t, "(", rfl, rfl, by decide +kernel, small_str (by omega), fun p0 n0 => ?_⟩
      have u0 := same_upd (o := .tup [.str (Txt.partition t "(").1, .str (Txt.partition t "(").2.1, .str (Txt.partition t "(").2.2]) n0
      refine ⟨p0, _, rfl, SqT.of upd_same, rfl, _, _, rfl, _, _, rfl, _, _, rfl, rfl, ?_⟩
      refine ⟨.str _, rfl, _, rfl, by omega, fun g1 H1 a s1 ha => ?_, fun b1 => (qe (bad1 b1)).later u0⟩
      refine ⟨.str _, rfl, ⟨_, rfl⟩, _, _, rfl, rfl, small_str (by omega), _, rfl, by omega, fun g2 H2 b s2 hb => ?_, fun b2 => (qe (bad2 b2)).later (u0.trans s1)⟩
      refine ⟨(show (2 : Nat) ≤ sizeLine by decide), fun p np => ?_⟩
      have u3 := same_upd (o := .tup [.ref a, .ref b]) np
      have hp : SqT K (upd H2 p (.tup [.ref a, .ref b])) p [.ref a, .ref b] := SqT.of upd_same
      have sall : Same H (upd H2 p (.tup [.ref a, .ref b])) := ((u0.trans s1).trans s2).trans u3
      have ha3 := Same.tup (s2.trans u3) ha
      have hb3 := Same.tup u3 hb
      generalize hx : valT (TL.tl (Txt.partition t "(").1) = xs at ha3
      generalize ht : valT (TL.tl (Txt.removesuffix (Txt.partition t "(").2.2 ")")) = ts at hb3
      have hxn : Nt xs := hx ▸ valT_nt g1
      have htn : Nt ts := ht ▸ valT_nt g2
      have hxl : xs.length ≤ 1000 := by
        rw [← hx]
        show ((TL.tl _).map _).length ≤ _
        rw [List.length_map, ← TL.len_tl]
        exact hL
      have htl : ts.length ≤ 1000 := by
        rw [← ht]
        show ((TL.tl _).map _).length ≤ _
        rw [List.length_map, ← TL.len_tl]
        exact hS
      have known : ∀ cs ds, WR t cs ds → xs = cs ∧ ts = ds := fun cs ds h => ⟨by rw [← hx, (h.read hn).1, valT_nN h.nc], by rw [← ht, (h.read hn).2, valT_nN h.nd]⟩
      clear hx ht ha hb u3 np s2 s1 u0 n0
      generalize upd H2 p (.tup [.ref a, .ref b]) = H3 at hp sall ha3 hb3
      have no : ∀ H4, Same H3 H4 → (∀ cs ds, ¬ WR t cs ds) → ∀ σ : L2.St, tRef C 1 (fun ws => [("at", ws.getD 0 .non), ("word", .str "BadText")]) (tCons (fun σ H Q => Q (.int 0) H) tNil) σ H4 fun cls d H' => E cls d H' := fun H4 s4 h σ =>
        ⟨rfl, (show (1 : Nat) ≤ 1000 by decide), fun d H5 h1 h2 h3 => qe h d H5 ((sall.trans s4).trans (same_ref h1 h2)) h3⟩
      refine ⟨.ref p, rfl, p, _, 0, .ref a, rfl, rfl, hp, atI_nat (j := 0) rfl, a, _, rfl, .inr ha3, _, 400, rfl, rfl, _, rfl, ?_⟩
      rw [List.length_map]
      refine ite2 (fun e1 => ?_) (fun e1 => ?_)
      · have e1 : (400 : Int) < ((xs.length : Nat) : Int) := of_decide_eq_true e1
        refine iteT (no H3 (Same.refl _) (fun cs ds h => ?_) _)
        have := h.lc
        have := (known cs ds h).1
        subst this
        omega
      · have e1 : ¬ (400 : Int) < ((xs.length : Nat) : Int) := fun h => e1 (decide_eq_true h)
        refine ⟨.ref p, rfl, p, _, 1, .ref b, rfl, rfl, hp, atI_nat (j := 1) rfl, b, _, rfl, .inr hb3, _, 12, rfl, rfl, _, rfl, ?_⟩
        rw [List.length_map]
        refine ite2 (fun e2 => ?_) (fun e2 => ?_)
        · have e2 : (12 : Int) < ((ts.length : Nat) : Int) := of_decide_eq_true e2
          refine iteT (no H3 (Same.refl _) (fun cs ds h => ?_) _)
          have := h.ld
          have := (known cs ds h).2
          subst this
          omega
        · have e2 : ¬ (12 : Int) < ((ts.length : Nat) : Int) := fun h => e2 (decide_eq_true h)
          refine ⟨.ref p, rfl, p, _, rfl, .inl hp, a, b, xs, ts, rfl, .inr ha3, .inr hb3, hxl, htl, fun H4 r cs ds s4 hlr hrow => ?_⟩
          have ll := lr_len hlr
          have ln := lr_nt hlr hxn htn
          refine ⟨r, cs, ds, rfl, hrow, ln.1, ln.2, by omega, by omega, fun H5 s5 => ?_⟩
          refine ⟨.str t, rfl, rfl, _, rfl, ite2 (fun e3 => ?_) (fun e3 => ?_)⟩
          · refine no H5 (s4.trans s5) (fun cs' ds' h => ?_) _
            obtain ⟨rfl, rfl⟩ := known cs' ds' h
            obtain ⟨rfl, rfl⟩ := LR.det hlr h.lr
            rw [h.e, decide_eq_true rfl] at e3
            cases e3
          · have e4 : t = rowS cs ds := by
              by_cases z : t = rowS cs ds
              · exact z
              · exact absurd (show (!decide (V.str (rowS cs ds) = V.str t)) = true by rw [decide_eq_false (fun y => z (V.str.inj y).symm)]; rfl) e3
            have h := WR.of hlr hxn htn (by omega) (by omega) e4
            obtain ⟨rfl, rfl⟩ := known cs ds h
            exact ⟨.ref p, rfl, q _ _ h H5 p (sall.trans (s4.trans s5)) ⟨a, b, Same.tup (s4.trans s5) hp, Same.tup (s4.trans s5) ha3, Same.tup (s4.trans s5) hb3⟩⟩
end
/-! ### the law's own: _law_row_said, _law_bent_text, _law_row_written -/
abbrev sRS : Stmt := topS 51
abbrev nRS : List Str := ["_law_row", "_law_lead", "_law_turn", "_law_text", "_law_note"]
theorem scRS : FnScope nRS ["_law_row"] (defScope sRS) := ⟨rfl, rfl, rfl, by decide +kernel, rfl, by decide +kernel, by decide +kernel⟩
def spRS (K : PySem.W.Frag) : Sp := fun vs H Q _ => ∃ (r : Addr) (xs ts : List Int), vs = [.ref r] ∧ RowL K H r xs ts ∧ Nt xs ∧ Nt ts ∧ xs.length ≤ 1000 ∧ ts.length ≤ 1000 ∧ ∀ H' cs ds, Same H H' → LR xs ts cs ds → Q (.str (rowS cs ds)) H'
abbrev sBT : Stmt := topS 54
abbrev nBT : List Str := ["_law_bag_here", "_law_text", "_law_signs", "_law_at", "_law_sign"]
theorem scBT : FnScope nBT ["_law_bag_here", "_law_text", "_law_signs"] (defScope sBT) := ⟨rfl, rfl, rfl, by decide +kernel, rfl, by decide +kernel, by decide +kernel⟩
def spBT : Sp := fun vs H Q _ => ∃ (b c a : Addr) (t : Str) (ss : List Str), vs = [.ref b, .str t, .ref a] ∧ Bag H b c ∧ H a = some (.lst (ss.map V.str)) ∧ a ≠ b ∧ 0 < ss.length ∧ ss.length ≤ 1000 ∧ (∀ s ∈ ss, s.length ≤ 2) ∧ t.length ≤ 400 ∧
  ∀ H' z, Off b H H' → Bag H' b c → z.length ≤ 2 * t.length + 2 → Q (.str z) H'
abbrev sRW : Stmt := topS 55
abbrev nRW : List Str := ["_law_text", "_law_lead", "_law_again", "_law_at", "_law_row", "_law_sign"]
theorem scRW : FnScope nRW ["_law_text"] (defScope sRW) := ⟨rfl, rfl, rfl, by decide +kernel, rfl, by decide +kernel, by decide +kernel⟩
def spRW (K : PySem.W.Frag) : Sp := fun vs H Q _ => ∃ (t : Str), vs = [.str t] ∧ t.length ≤ 1000 ∧ (∀ cs ds, WR t cs ds → ∀ H' p, Same H H' → RowAt K H' p cs ds → Q (.ref p) H') ∧ ((∀ cs ds, ¬ WR t cs ds) → ∀ H', Same H H' → Q .non H')
def rLenS : List V → Hp → VK → Prop := fun xs H Q => ∃ z, xs = [.str z] ∧ z.length ≤ sizeLine ∧ Q (.int (z.length : Nat)) H
theorem call_lenS {X : Cx} : CallR X (.builtin "len") rLenS := call_len_str
def rNotIn : R2 := fun x y H Q => ∃ (c : Nat) (z : Str), x = .str ⟨#[c]⟩ ∧ y = .str z ∧ Q (.bl (!decide (c ∈ z.cps.toList))) H
theorem op_notInS {X : Cx} : OpR X (compareOp .NotIn) rNotIn := op_notIn_sign
section
variable {P : Program} {w : World} {K : PySem.W.Frag} {mg : Str → Option Value} {base : Heap}
theorem ok_rs {f fL : Addr} {fd fdL : FuncData} {k : Nat} (F : Fun K "_law_row_said" "_law_row_said" sRS f fd) (mst : mg "str" = none)
    (FL : Fun K "_law_least" "_law_least" sLst fL fdL) (bL : Binds K fdL ["_law_row"] []) (gL : mg "_law_least" = some (.ref fL)) (GL : FnOk P w K mg base CX0 k fL fdL ["_law_row"] (spLst K)) : FnOk P w K mg base CX0 (k + 1) f fd ["_law_row"] (spRS K) := by
  refine F.ok scRS (fun vs H Q E h => ?_) (fun cdv A outer s H vs Q E hr h => ?_)
  · obtain ⟨r, xs, ts, rfl, _⟩ := h
    rfl
  · obtain ⟨r, xs, ts, rfl, ⟨la, ta, h1, h2, h3⟩, nx, nt, lx, lt, q⟩ := h
    refine ⟨_, pss_cons (ps_asg (pe_call GL hr (by rfl) gL FL.kp bL .nil pass0 (pa_cons (pv 0) pa_nil)) (pg_tup (by rfl) (pgs_cons (pg_name (i := 1) scRS.nd rfl (.inl rfl)) (pgs_cons (pg_name (i := 2) scRS.nd rfl (.inl rfl)) pgs_nil))))
      (pss_cons (ps_set (i := 3) scRS.nd rfl (.inl rfl) (pe_join pe_str (pe_lc (own := [("_law_note", 4)]) (g := gName 4) (tt := tYes) rfl scRS.nd (pi_tup (pv 1)) (blkOk_by (own := [("_law_note", 4)]) (N := nRS) (sc := defScope sRS) (by decide +kernel)) (fun _ _ _ _ _ => pg_name (i := 4) scRS.nd rfl (.inl rfl)) (fun _ _ _ _ _ => pts_nil) (fun _ _ _ _ _ => pe_callTy (r := rStrI) call_strI (by rfl) mst (by decide +kernel) (pa_cons (pv 4) pa_nil)))))
      (pss_cons (ps_if (pt_cmpR (op_neD hr.units) (pv 2) (pe_tup pa_nil) (nomark _)) (pss_one (ps_ret (pe_op op_add_str (pe_op op_add_str (pe_op op_add_str (pv 3) pe_str) (pe_join pe_str (pe_lc (own := [("_law_note", 4)]) (g := gName 4) (tt := tYes) rfl scRS.nd (pi_tup (pv 2)) (blkOk_by (own := [("_law_note", 4)]) (N := nRS) (sc := defScope sRS) (by decide +kernel)) (fun _ _ _ _ _ => pg_name (i := 4) scRS.nd rfl (.inl rfl)) (fun _ _ _ _ _ => pts_nil) (fun _ _ _ _ _ => pe_callTy (r := rStrI) call_strI (by rfl) mst (by decide +kernel) (pa_cons (pv 4) pa_nil))))) pe_str))) pss_nil)
      (pss_one (ps_ret (pe_ifExp (pt_cmpR op_ne (pv 3) pe_str (nomark _)) (pv 3) pe_str))))), ?_⟩
    refine ⟨.ref r, rfl, r, la, ta, xs, ts, rfl, h1, h2, h3, lx, lt, fun H1 p cs ds s1 hlr hrow => ?_⟩
    have ll := lr_len hlr
    have ln := lr_nt hlr nx nt
    obtain ⟨ca, da, w1, w2, w3⟩ := hrow
    refine ⟨p, _, rfl, w1, rfl, .ref ca, _, rfl, .ref da, _, rfl, rfl, ?_⟩
    refine ⟨⟨_, rfl⟩, .ref ca, rfl, ca, rfl, ⟨_, w2⟩, fun D nD => ?_⟩
    refine lc_tup (K := K) (a := ca) (xs := cs.map V.int) (fun i H' => Same H1 H' ∧ H' D = some (.lst (((cs.take i).map strI).map V.str))) ⟨same_upd nD, upd_same⟩ (fun i H' _ hP => Same.tup hP.1 w2) (fun i x H' hx hP => ?_) (fun H2 hP => ?_)
    · obtain ⟨sm, hD⟩ := hP
      rw [List.getElem?_map] at hx
      cases hz : cs[i]? with
      | none => rw [hz] at hx; cases hx
      | some z =>
        rw [hz] at hx
        obtain rfl := Option.some.inj hx
        have hz4 := ln.1 z (List.mem_of_getElem? hz)
        refine ⟨rfl, yesT ⟨_, rfl, z, rfl, (strI_sm (by omega)).2, _, hD, ?_, Same.offUpd sm nD, ?_⟩⟩
        · rw [List.length_map, List.length_map, List.length_take]
          exact small1000 (by omega)
        · rw [upd_same, take_snocT hz, List.map_append, List.map_append]
          rfl
    · obtain ⟨s2, hD⟩ := hP
      rw [List.length_map, List.take_length] at hD
      refine ⟨_, D, cs.map strI, rfl, rfl, .inl (SqL.of hD), noteS_sum ln.1 (by omega), ?_⟩
      have w3' := Same.tup s2 w3
      have l1 := noteS_len ln.1
      have l2 := noteS_len ln.2
      refine ⟨.ref da, rfl, Nat.zero_le _, fun e ne => ?_⟩
      have ue := same_upd (o := .tup []) ne
      refine ⟨_, _, dpT (Same.tup ue w3'), dpT (ns := []) (SqT.of upd_same), shT _, shT [], _, rfl, ?_⟩
      rw [eqvT]
      by_cases hd : ds = []
      · rw [decide_eq_true hd]
        refine iteF ?_
        refine ⟨_, rfl, rfl, _, rfl, ite2 (fun e1 => ?_) (fun e1 => ?_)⟩
        · have hc : cs ≠ [] := fun z => by
            rw [z] at e1
            cases e1
          have := q _ cs ds ((s1.trans s2).trans ue) hlr
          unfold rowS at this
          rw [if_neg fun z => hc z.1, if_pos hd] at this
          exact ⟨_, rfl, this⟩
        · have hc : cs = [] := by
            cases hz : cs with
            | nil => rfl
            | cons a r =>
              refine absurd ?_ e1
              rw [hz] at l1
              have n1 : Txt.join "" ((a :: r).map strI) ≠ "" := fun z => by
                have : (noteS (a :: r)).length = 0 := by
                  unfold noteS
                  rw [z]
                  decide +kernel
                rw [l1] at this
                cases this
              show (!decide (V.str (Txt.join "" (cs.map strI)) = V.str "")) = true
              rw [hz]
              rw [decide_eq_false fun z => n1 (V.str.inj z)]
              rfl
          have := q _ cs ds ((s1.trans s2).trans ue) hlr
          unfold rowS at this
          rw [if_pos ⟨hc, hd⟩] at this
          exact this
      · rw [decide_eq_false hd]
        refine iteT ?_
        refine ⟨_, rfl, _, _, rfl, rfl, small_str (by rw [show Txt.join "" (cs.map strI) = noteS cs from rfl, par_len]; omega), ⟨_, rfl⟩, .ref da, rfl, da, rfl, ⟨_, Same.tup ue w3'⟩, fun D2 nD2 => ?_⟩
        refine lc_tup (K := K) (a := da) (xs := ds.map V.int) (fun i H' => Same (upd H2 e (.tup [])) H' ∧ H' D2 = some (.lst (((ds.take i).map strI).map V.str))) ⟨same_upd nD2, upd_same⟩ (fun i H' _ hP => Same.tup (ue.trans hP.1) w3') (fun i x H' hx hP => ?_) (fun H3 hP => ?_)
        · obtain ⟨sm, hD⟩ := hP
          rw [List.getElem?_map] at hx
          cases hz : ds[i]? with
          | none => rw [hz] at hx; cases hx
          | some z =>
            rw [hz] at hx
            obtain rfl := Option.some.inj hx
            have hz4 := ln.2 z (List.mem_of_getElem? hz)
            refine ⟨rfl, yesT ⟨_, rfl, z, rfl, (strI_sm (by omega)).2, _, hD, ?_, Same.offUpd sm nD2, ?_⟩⟩
            · rw [List.length_map, List.length_map, List.length_take]
              exact small1000 (by omega)
            · rw [upd_same, take_snocT hz, List.map_append, List.map_append]
              rfl
        · obtain ⟨s3, hD2⟩ := hP
          rw [List.length_map, List.take_length] at hD2
          refine ⟨_, D2, ds.map strI, rfl, rfl, .inl (SqL.of hD2), noteS_sum ln.2 (by omega), ?_⟩
          have := q _ cs ds (((s1.trans s2).trans ue).trans s3) hlr
          unfold rowS at this
          rw [if_neg fun z => hd z.2, if_neg hd] at this
          exact ⟨_, _, rfl, rfl, small_str (by rw [str_app_len, show Txt.join "" (cs.map strI) = noteS cs from rfl, show Txt.join "" (ds.map strI) = noteS ds from rfl, par_len]; omega), _, _, rfl, rfl, small_str (by rw [str_app_len, str_app_len, show Txt.join "" (cs.map strI) = noteS cs from rfl, show Txt.join "" (ds.map strI) = noteS ds from rfl, par_len, par2_len]; omega), this⟩
theorem ok_bt {f fP fO : Addr} {fd fdP fdO : FuncData} {k : Nat} (F : Fun K "_law_bent_text" "_law_bent_text" sBT f fd) (ml : mg "len" = none)
    (FP : Fun K "_law_pull" "_law_pull" sPull fP fdP) (bP : Binds K fdP ["_law_bag_here", "_law_size"] []) (gP : mg "_law_pull" = some (.ref fP)) (GP : FnOk P w K mg base CX0 k fP fdP ["_law_bag_here", "_law_size"] spPull)
    (FO : Fun K "_law_of" "_law_of" sOf fO fdO) (bO : Binds K fdO ["_law_bag_here", "_law_things"] []) (gO : mg "_law_of" = some (.ref fO)) (GO : FnOk P w K mg base CX0 k fO fdO ["_law_bag_here", "_law_things"] spOf) : FnOk P w K mg base CX0 (k + 1) f fd ["_law_bag_here", "_law_text", "_law_signs"] spBT := by
  refine F.ok scBT (fun vs H Q E h => ?_) (fun cdv A outer s H vs Q E hr h => ?_)
  · obtain ⟨b, c, a, t, ss, rfl, _⟩ := h
    rfl
  · obtain ⟨b, c, a, t, ss, rfl, hB, ha, hab, h0, hl, hs, ht, q⟩ := h
    refine ⟨_, pss_cons (ps_set (i := 3) scBT.nd rfl (.inl rfl) (pe_call GP hr (by rfl) gP FP.kp bP .nil pass0 (pa_cons (pv 0) (pa_cons (pe_op op_add (pe_callB call_lenS (by rfl) ml (by decide +kernel) (pa_cons (pv 1) pa_nil)) pe_int) pa_nil))))
      (pss_cons (ps_set (i := 4) scBT.nd rfl (.inl rfl) (pe_call GO hr (by rfl) gO FO.kp bO .nil pass0 (pa_cons (pv 0) (pa_cons (pv 2) pa_nil))))
      (pss_one (ps_ret (pe_call GO hr (by rfl) gO FO.kp bO .nil pass0 (pa_cons (pv 0) (pa_cons (pe_lst (pa_cons (pe_op op_add_str (pe_op op_add_str (pe_slice sl_str (pv 1) po_none (po_some (pv 3))) (pv 4)) (pe_slice sl_str (pv 1) (po_some (pv 3)) po_none)) (pa_cons (pe_op op_add_str (pe_slice sl_str (pv 1) po_none (po_some (pv 3))) (pe_slice sl_str (pv 1) (po_some (pe_op op_add (pv 3) pe_int)) po_none)) (pa_cons (pe_op op_add_str (pe_op op_add_str (pe_slice sl_str (pv 1) po_none (po_some (pv 3))) (pv 4)) (pe_slice sl_str (pv 1) (po_some (pe_op op_add (pv 3) pe_int)) po_none)) pa_nil)))) pa_nil)))))), ?_⟩
    have cl (lo hi : Option Int) : (cutS t lo hi).length ≤ 400 := Nat.le_trans (cutS_length t lo hi) ht
    refine ⟨.ref b, rfl, .str t, rfl, t, rfl, small_str (by omega), _, _, rfl, rfl, b, c, t.length + 1, rfl, hB, by omega, by omega, fun H1 r o1 hB1 r0 r1 => ?_⟩
    have ha1 := o1 _ _ hab ha
    refine ⟨.ref b, rfl, .ref a, rfl, b, c, a, _, rfl, hB1, ha1, hab, by rw [List.length_map]; exact h0, by rw [List.length_map]; exact hl, fun H2 v o2 hB2 hv => ?_⟩
    obtain ⟨sg, hsg, rfl⟩ := List.mem_map.mp hv
    have hsl := hs sg hsg
    obtain ⟨n, rfl⟩ := Int.eq_ofNat_of_zero_le r0
    have c1 := cutS_length t none (some (n : Int))
    have c2 := cutS_length t (some (n : Int)) none
    have c3 := cutS_length t (some ((n : Int) + 1)) none
    refine ⟨.ref b, rfl, ?_⟩
    have st := small_str (show t.length ≤ 5000 by omega)
    refine ⟨.str t, rfl, .int n, rfl, n, rfl, t, rfl, st, .str sg, rfl, _, _, rfl, rfl, small_str (by omega), .str t, rfl, .int n, rfl, n, rfl, t, rfl, st, _, _, rfl, rfl, small_str (by rw [str_app_len]; omega), ?_⟩
    refine ⟨.str t, rfl, .int n, rfl, n, rfl, t, rfl, st, .str t, rfl, .int n, rfl, _, _, rfl, rfl, _, rfl, t, rfl, st, _, _, rfl, rfl, small_str (by omega), ?_⟩
    refine ⟨.str t, rfl, .int n, rfl, n, rfl, t, rfl, st, .str sg, rfl, _, _, rfl, rfl, small_str (by omega), .str t, rfl, .int n, rfl, _, _, rfl, rfl, _, rfl, t, rfl, st, _, _, rfl, rfl, small_str (by rw [str_app_len]; omega), ?_⟩
    refine ⟨(show (3 : Nat) ≤ sizeLine by decide), fun l nl => ?_⟩
    have ul := same_upd (o := .lst [V.str (cutS t none (some (n : Int)) ++ sg ++ cutS t (some (n : Int)) none), V.str (cutS t none (some (n : Int)) ++ cutS t (some ((n : Int) + 1)) none), V.str (cutS t none (some (n : Int)) ++ sg ++ cutS t (some ((n : Int) + 1)) none)]) nl
    refine ⟨b, c, l, _, rfl, hB2.same ul, upd_same, (hB2.ne nl).1, (show (0 : Nat) < 3 by decide), (show (3 : Nat) ≤ 1000 by decide), fun H3 v o3 hB3 hv => ?_⟩
    obtain ⟨z, rfl, hz⟩ : ∃ z : Str, v = .str z ∧ z.length ≤ 2 * t.length + 2 := by
      simp only [List.mem_cons, List.not_mem_nil, or_false] at hv
      rcases hv with rfl | rfl | rfl
      · exact ⟨_, rfl, by rw [str_app_len, str_app_len]; omega⟩
      · exact ⟨_, rfl, by rw [str_app_len]; omega⟩
      · exact ⟨_, rfl, by rw [str_app_len, str_app_len]; omega⟩
    exact q H3 z (((o1.trans o2).trans (Off.same ul)).trans o3) hB3 hz
end
section
variable {P : Program} {w : World} {K : PySem.W.Frag} {mg : Str → Option Value} {base : Heap}
theorem ok_rwr {f fL fS : Addr} {fd fdL fdS : FuncData} {k : Nat} (F : Fun K "_law_row_written" "_law_row_written" sRW f fd) (ml : mg "len" = none) (ma : mg "any" = none) (mint : mg "int" = none)
    (FL : Fun K "_law_least" "_law_least" sLst fL fdL) (bL : Binds K fdL ["_law_row"] []) (gL : mg "_law_least" = some (.ref fL)) (GL : FnOk P w K mg base CX0 k fL fdL ["_law_row"] (spLst K))
    (FS : Fun K "_law_row_said" "_law_row_said" sRS fS fdS) (bS : Binds K fdS ["_law_row"] []) (gS : mg "_law_row_said" = some (.ref fS)) (GS : FnOk P w K mg base CX0 k fS fdS ["_law_row"] (spRS K)) : FnOk P w K mg base CX0 (k + 1) f fd ["_law_text"] (spRW K) := by
  refine F.ok scRW (fun vs H Q E h => ?_) (fun cdv A outer s H vs Q E hr h => ?_)
  · obtain ⟨t, rfl, _⟩ := h
    rfl
  · obtain ⟨t, rfl, hl, q, qn⟩ := h
    refine ⟨_, pss_cons (ps_if (pt_cmpR op_eq (pv 0) pe_str (nomark _)) (pss_one (ps_ret (pe_tup (pa_cons (pe_tup pa_nil) (pa_cons (pe_tup pa_nil) pa_nil))))) pss_nil)
      (pss_cons (ps_par (i := 1) (j := 2) (by rfl) scRW.nd rfl rfl (by decide) rfl rfl (pa_cons (pv 0) (pa_cons pe_str pa_nil)) (by rfl))
      (C8.pss_cut (ps_if (PW.pt (pw_and (pt_cmpR op_ne (pv 0) pe_str (nomark _)) (pw_and (pt_cmpR op_eq (pe_ix ix_str (pv 0) (pe_un un_neg pe_int) (fun _ _ => rfl)) pe_str (nomark _)) (pw_and1 (pt_cmpR op_in_sign pe_str (pv 0) (by rfl)))))) (pss_cons (ps_set (i := 3) scRW.nd rfl (.inl rfl) (pe_m1 PySem.F.slot_str_index PySem.F.type_str_index mt_sindex (pv 0) pe_str))
      (pss_cons (ps_par (i := 1) (j := 2) (by rfl) scRW.nd rfl rfl (by decide) rfl rfl (pa_cons (pe_slice sl_str (pv 0) po_none (po_some (pv 3))) (pa_cons (pe_slice sl_str (pv 0) (po_some (pe_op op_add (pv 3) pe_int)) (po_some (pe_un un_neg pe_int))) pa_nil)) (by rfl))
      (pss_one (ps_if (pt_cmpR op_eq (pv 2) pe_str (nomark _)) (pss_one (ps_ret pe_non)) pss_nil)))) pss_nil)
      (pss_cons (ps_if (PW.pt (pw_or (pt_cmpR op_eq (pv 0) pe_str (nomark _)) (pw_or (pt_val (pe_callB (cr_any rfl) (by rfl) ma (by decide +kernel) (pa_cons (pe_lc (own := [("_law_sign", 5)]) (g := gName 5) (tt := tYes) rfl scRW.nd (pi_str (pe_op op_add_str (pv 1) (pv 2))) (blkOk_by (own := [("_law_sign", 5)]) (N := nRW) (sc := defScope sRW) (by decide +kernel)) (fun _ _ _ _ _ => pg_name (i := 5) scRW.nd rfl (.inl rfl)) (fun _ _ _ _ _ => pts_nil) (fun _ _ _ _ _ => pe_cmpR op_notInS (pv 5) pe_str (by rfl))) pa_nil))) (pw_or (pt_cmpR op_gt (pe_callB call_lenS (by rfl) ml (by decide +kernel) (pa_cons (pv 1) pa_nil)) pe_int (nomark _)) (pw_or1 (pt_cmpR op_gt (pe_callB call_lenS (by rfl) ml (by decide +kernel) (pa_cons (pv 2) pa_nil)) pe_int (nomark _))))))) (pss_one (ps_ret pe_non)) pss_nil)
      (pss_cons (ps_set (i := 4) scRW.nd rfl (.inl rfl) (pe_tup (pa_cons (pe_lc (own := [("_law_sign", 5)]) (g := gName 5) (tt := tYes) rfl scRW.nd (pi_str (pv 1)) (blkOk_by (own := [("_law_sign", 5)]) (N := nRW) (sc := defScope sRW) (by decide +kernel)) (fun _ _ _ _ _ => pg_name (i := 5) scRW.nd rfl (.inl rfl)) (fun _ _ _ _ _ => pts_nil) (fun _ _ _ _ _ => pe_callTy (r := rIntT) call_intT (by rfl) mint (by decide +kernel) (pa_cons (pv 5) pa_nil))) (pa_cons (pe_lc (own := [("_law_sign", 5)]) (g := gName 5) (tt := tYes) rfl scRW.nd (pi_str (pv 2)) (blkOk_by (own := [("_law_sign", 5)]) (N := nRW) (sc := defScope sRW) (by decide +kernel)) (fun _ _ _ _ _ => pg_name (i := 5) scRW.nd rfl (.inl rfl)) (fun _ _ _ _ _ => pts_nil) (fun _ _ _ _ _ => pe_callTy (r := rIntT) call_intT (by rfl) mint (by decide +kernel) (pa_cons (pv 5) pa_nil))) pa_nil))))
      (pss_one (ps_ret (pe_ifExp (pt_cmpR op_eq (pe_call GS hr (by rfl) gS FS.kp bS .nil pass0 (pa_cons (pv 4) pa_nil)) (pv 0) (nomark _)) (pe_call GL hr (by rfl) gL FL.kp bL .nil pass0 (pa_cons (pv 4) pa_nil)) pe_non))))))), ?_⟩
    refine ⟨_, rfl, rfl, _, rfl, ite2 (fun e => ?_) (fun e => ?_)⟩
    · have et : t = "-" := V.str.inj (of_decide_eq_true e)
      subst et
      refine ⟨Nat.zero_le _, fun a na => ⟨Nat.zero_le _, fun b nb => ⟨(show (2 : Nat) ≤ sizeLine by decide), fun p np => ?_⟩⟩⟩
      have s1 := same_upd (o := .tup []) na
      have s2 := same_upd (o := .tup []) nb
      have s3 := same_upd (o := .tup [.ref a, .ref b]) np
      exact q [] [] WR.dash _ p ((s1.trans s2).trans s3) ⟨a, b, SqT.of upd_same, Same.tup (s2.trans s3) (SqT.of upd_same), Same.tup s3 (SqT.of upd_same)⟩
    · have hn : t ≠ "-" := fun z => e (by rw [z]; rfl)
      have stl := small_str (show t.length ≤ 5000 by omega)
      have htl : t.length = (TL.tl t).length := TL.len_tl t
      refine ⟨.str t, rfl, _, _, rfl, ?_⟩
      refine ⟨fun σ' H' => ∃ (L A : Str) (y3 : Option V), σ' = [some (.str t), some (.str L), some (.str A), y3, none, none] ∧ H' = H ∧ L.length ≤ 1000 ∧ A.length ≤ 1000 ∧ ∀ cs ds, WR t cs ds → TL.tl L = nN cs ∧ TL.tl A = nN ds, ?_, ?_⟩
      · have fall : ¬ ((TL.tl t).getLast? = some 41 ∧ 40 ∈ TL.tl t) → ∀ cs ds, WR t cs ds → TL.tl t = nN cs ∧ TL.tl ("" : Str) = nN ds := fun hc cs ds h => by
          obtain ⟨rfl, e⟩ := h.none hn hc
          exact ⟨e, tl_emp⟩
        refine ⟨.str t, rfl, rfl, _, rfl, ite2 (fun e1 => ?_) (fun e1 => ?_)⟩
        · have hne : TL.tl t ≠ [] := fun z => by
            have : t = "" := TL.ext_tl (z.trans tl_emp.symm)
            rw [this] at e1
            cases e1
          have hlast := List.getLast?_eq_some_getLast hne
          generalize (TL.tl t).getLast hne = cl at hlast
          have hat : atI (TL.tl t) (-1) = some cl := atI_neg (j := 0) (List.length_pos_iff.mpr hne) (by rw [Nat.sub_zero, ← List.getLast?_eq_getElem?]; exact hlast)
          refine ⟨.str t, rfl, 1, rfl, t, _, cl, rfl, rfl, stl, hat, rfl, _, rfl, ite2 (fun e2 => ?_) (fun e2 => ?_)⟩
          · have hcl : cl = 41 := by
              have := V.str.inj (of_decide_eq_true e2)
              rw [cl_lit] at this
              have := congrArg TL.tl this
              exact (List.cons.inj this).1
            subst hcl
            refine ⟨.str t, rfl, 40, t, congrArg V.str op_lit, rfl, _, rfl, ite2 (fun e3 => ?_) (fun e3 => ?_)⟩
            · have h40 : 40 ∈ TL.tl t := of_decide_eq_true e3
              obtain ⟨i, r, ho, hi, hf, hT⟩ := first_open h40
              obtain ⟨hsp, hi1⟩ := split_last hT hlast
              have hTT : TL.tl t = (TL.tl t).take i ++ 40 :: (((TL.tl t).drop (i + 1)).dropLast ++ [41]) := by rw [← hsp]; exact hT
              refine ⟨.str t, rfl, ⟨_, rfl⟩, t, "(", i, r, rfl, rfl, ho, ?_⟩
              refine ⟨.str t, rfl, .int i, rfl, _, rfl, t, rfl, stl, .str t, rfl, .int i, rfl, _, _, rfl, rfl, _, rfl, 1, rfl, _, rfl, t, rfl, stl, _, _, rfl, ?_⟩
              have c1 := tl_cut_to t i
              have c2 := tl_cut_in t i hi1
              have some_ : ∀ cs ds, WR t cs ds → ds ≠ [] ∧ (TL.tl t).take i = nN cs ∧ ((TL.tl t).drop (i + 1)).dropLast = nN ds := fun cs ds h => h.some hn hf hTT
              refine ⟨_, rfl, rfl, _, rfl, ite2 (fun e4 => ?_) (fun e4 => ?_)⟩
              · have e5 : cutS t (some ((i : Int) + 1)) (some (-1)) = "" := V.str.inj (of_decide_eq_true e4)
                refine qn (fun cs ds h => ?_) H (Same.refl H)
                obtain ⟨h1, h2, h3⟩ := some_ cs ds h
                rw [e5, tl_emp] at c2
                rw [← c2] at h3
                exact h1 (nN_nil h3.symm)
              · exact ⟨_, _, _, rfl, rfl, Nat.le_trans (cutS_length t _ _) hl, Nat.le_trans (cutS_length t _ _) hl, fun cs ds h => ⟨c1.trans (some_ cs ds h).2.1, c2.trans (some_ cs ds h).2.2⟩⟩
            · have h40 : ¬ 40 ∈ TL.tl t := fun z => e3 (decide_eq_true z)
              exact ⟨t, "", none, rfl, rfl, hl, by decide +kernel, fall fun z => h40 z.2⟩
          · refine ⟨t, "", none, rfl, rfl, hl, by decide +kernel, fall fun z => ?_⟩
            have := Option.some.inj (hlast.symm.trans z.1)
            subst this
            exact e2 (decide_eq_true (by rw [cl_lit]))
        · refine ⟨t, "", none, rfl, rfl, hl, by decide +kernel, fall fun z => ?_⟩
          have : t = "" := by
            by_cases y : t = ""
            · exact y
            · exact absurd (show (!decide (V.str t = V.str "")) = true by rw [decide_eq_false fun x => y (V.str.inj x)]; rfl) e1
          rw [this, tl_emp] at z
          cases z.2
      · rintro σ' H' ⟨L, A, y3, rfl, rfl, lL, lA, known⟩
        have tL : L.length = (TL.tl L).length := TL.len_tl L
        have tA : A.length = (TL.tl A).length := TL.len_tl A
        have known2 : ∀ cs ds, WR t cs ds → valT (TL.tl L) = cs ∧ valT (TL.tl A) = ds := fun cs ds h => ⟨by rw [(known cs ds h).1, valT_nN h.nc], by rw [(known cs ds h).2, valT_nN h.nd]⟩
        refine ⟨.str t, rfl, rfl, _, rfl, ite2 (fun e1 => iteT (qn (fun cs ds h => ?_) _ (Same.refl _))) (fun e1 => ?_)⟩
        · have : t = "" := V.str.inj (of_decide_eq_true e1)
          rw [this] at h hn
          exact (h.tl hn).1 tl_emp
        refine ⟨.str L, rfl, .str A, rfl, _, _, rfl, rfl, small_str (by omega), _, rfl, fun D nD => ?_⟩
        have hsz : (L ++ A).cps.size = (TL.tl (L ++ A)).length := TL.len_tl (L ++ A)
        have hln : (TL.tl (L ++ A)).length ≤ 2000 := by
          rw [TL.tl_append, List.length_append]
          omega
        refine lc_it walk_str (fun i H1 => Same H' H1 ∧ H1 D = some (.lst ((((TL.tl (L ++ A)).take i).map fun (c : Nat) => !decide (c ∈ ("0123" : Str).cps.toList)).map V.bl))) ⟨same_upd nD, upd_same⟩ (fun i H1 _ _ => True.intro) (fun i x H1 H2 hi hP hY => ?_) (fun H1 hP => ?_)
        · obtain ⟨sm, hD⟩ := hP
          obtain ⟨rfl, c, hc, rfl⟩ := hY
          have hc' := tl_get hc
          refine ⟨rfl, yesT ⟨_, rfl, c, _, rfl, rfl, _, hD, ?_, Same.offUpd sm nD, ?_⟩⟩
          · rw [List.length_map, List.length_map, List.length_take]
            exact small_k (by omega)
          · rw [upd_same, take_snocT hc', List.map_append, List.map_append]
            rfl
        · obtain ⟨s1, hD⟩ := hP
          rw [hsz, List.take_length] at hD
          refine ⟨D, _, rfl, SqL.of hD, ?_⟩
          have e : ((TL.tl (L ++ A)).map fun (c : Nat) => !decide (c ∈ ("0123" : Str).cps.toList)).any id = false ↔ goodT (TL.tl (L ++ A)) := by
            rw [List.any_map, List.any_eq_false]
            refine ⟨fun h c hc => four_mem.mp ?_, fun h c hc => ?_⟩
            · have := h c hc
              by_cases y : c ∈ ("0123" : Str).cps.toList
              · exact y
              · refine absurd ?_ this
                show (!decide (c ∈ ("0123" : Str).cps.toList)) = true
                rw [decide_eq_false y]
                rfl
            · show ¬ (!decide (c ∈ ("0123" : Str).cps.toList)) = true
              rw [decide_eq_true (four_mem.mpr (h c hc))]
              exact fun z => nomatch z
          refine ⟨_, rfl, ?_⟩
          cases hb : ((TL.tl (L ++ A)).map fun (c : Nat) => !decide (c ∈ ("0123" : Str).cps.toList)).any id with
          | true =>
            refine iteT (iteT (qn (fun cs ds h => ?_) _ s1))
            have hg : goodT (TL.tl (L ++ A)) := fun c hc => by
              rw [TL.tl_append, (known cs ds h).1, (known cs ds h).2] at hc
              rcases List.mem_append.mp hc with z | z
              · exact nN_ok h.nc c z
              · exact nN_ok h.nd c z
            rw [e.mpr hg] at hb
            cases hb
          | false =>
            have hg := e.mp hb
            rw [TL.tl_append] at hg
            have gL' : goodT (TL.tl L) := fun c hc => hg c (List.mem_append_left _ hc)
            have gA' : goodT (TL.tl A) := fun c hc => hg c (List.mem_append_right _ hc)
            refine iteF ⟨.str L, rfl, L, rfl, small_str (by omega), _, _, rfl, rfl, _, rfl, ite2 (fun e2 => iteT (qn (fun cs ds h => ?_) _ s1)) (fun e2 => ?_)⟩
            · have e2 : (400 : Int) < ((L.length : Nat) : Int) := of_decide_eq_true e2
              have h1 := h.lc
              have h2 := congrArg List.length (known cs ds h).1
              unfold nN at h2
              rw [List.length_map] at h2
              omega
            · have e2 : ¬ (400 : Int) < ((L.length : Nat) : Int) := fun h => e2 (decide_eq_true h)
              refine ⟨.str A, rfl, A, rfl, small_str (by omega), _, _, rfl, rfl, _, rfl, ite2 (fun e3 => (qn (fun cs ds h => ?_) _ s1)) (fun e3 => ?_)⟩
              · have e3 : (12 : Int) < ((A.length : Nat) : Int) := of_decide_eq_true e3
                have h1 := h.ld
                have h2 := congrArg List.length (known cs ds h).2
                unfold nN at h2
                rw [List.length_map] at h2
                omega
              · have e3 : ¬ (12 : Int) < ((A.length : Nat) : Int) := fun h => e3 (decide_eq_true h)
                have szL : L.cps.size = (TL.tl L).length := TL.len_tl L
                have szA : A.cps.size = (TL.tl A).length := TL.len_tl A
                refine ⟨.str L, rfl, L, rfl, fun D1 n1 => ?_⟩
                refine lc_it walk_str (fun i H2 => Same H1 H2 ∧ H2 D1 = some (.lst ((((TL.tl L).take i).map fun (c : Nat) => (c : Int) - 48).map V.int))) ⟨same_upd n1, upd_same⟩ (fun i H2 _ _ => True.intro) (fun i x H2 H3 hi hP hY => ?_) (fun H2 hP => ?_)
                · obtain ⟨sm, hD1⟩ := hP
                  obtain ⟨rfl, c, hc, rfl⟩ := hY
                  have hc' := tl_get hc
                  have hc2 := gL' c (List.mem_of_getElem? hc')
                  refine ⟨rfl, yesT ⟨_, rfl, _, _, rfl, int_sign c (by omega) hc2.1, (show (1 : Nat) ≤ 640 by decide), _, hD1, ?_, Same.offUpd sm n1, ?_⟩⟩
                  · rw [List.length_map, List.length_map, List.length_take]
                    exact small_k (by omega)
                  · rw [upd_same, take_snocT hc', List.map_append, List.map_append]
                    rfl
                obtain ⟨s2, hD1⟩ := hP
                rw [szL, List.take_length] at hD1
                refine ⟨.str A, rfl, A, rfl, fun D2 n2 => ?_⟩
                refine lc_it walk_str (fun i H3 => Same H2 H3 ∧ H3 D2 = some (.lst ((((TL.tl A).take i).map fun (c : Nat) => (c : Int) - 48).map V.int))) ⟨same_upd n2, upd_same⟩ (fun i H3 _ _ => True.intro) (fun i x H3 H4 hi hP hY => ?_) (fun H3 hP => ?_)
                · obtain ⟨sm, hD2⟩ := hP
                  obtain ⟨rfl, c, hc, rfl⟩ := hY
                  have hc' := tl_get hc
                  have hc2 := gA' c (List.mem_of_getElem? hc')
                  refine ⟨rfl, yesT ⟨_, rfl, _, _, rfl, int_sign c (by omega) hc2.1, (show (1 : Nat) ≤ 640 by decide), _, hD2, ?_, Same.offUpd sm n2, ?_⟩⟩
                  · rw [List.length_map, List.length_map, List.length_take]
                    exact small_k (by omega)
                  · rw [upd_same, take_snocT hc', List.map_append, List.map_append]
                    rfl
                obtain ⟨s3, hD2⟩ := hP
                rw [szA, List.take_length] at hD2
                have hD1' : H3 D1 = some (.lst ((valT (TL.tl L)).map V.int)) := s3 _ _ hD1
                have hD2' : H3 D2 = some (.lst ((valT (TL.tl A)).map V.int)) := hD2
                have nx := valT_nt gL'
                have nt := valT_nt gA'
                have lx : (valT (TL.tl L)).length ≤ 400 := by
                  unfold valT
                  rw [List.length_map]
                  omega
                have lt : (valT (TL.tl A)).length ≤ 12 := by
                  unfold valT
                  rw [List.length_map]
                  omega
                generalize valT (TL.tl L) = xs at hD1' known2 nx lx
                generalize valT (TL.tl A) = ts at hD2' known2 nt lt
                refine ⟨(show (2 : Nat) ≤ sizeLine by decide), fun p np => ?_⟩
                have up := same_upd (o := .tup [.ref D1, .ref D2]) np
                have sall := ((s1.trans s2).trans s3).trans up
                have hp : (upd H3 p (.tup [.ref D1, .ref D2])) p = some (.tup [.ref D1, .ref D2]) := upd_same
                have g1 := up _ _ hD1'
                have g2 := up _ _ hD2'
                generalize upd H3 p (.tup [.ref D1, .ref D2]) = H4 at hp sall g1 g2
                refine ⟨.ref p, rfl, p, xs, ts, rfl, ⟨D1, D2, SqT.of hp, SqL.of g1, SqL.of g2⟩, nx, nt, by omega, by omega, fun H5 cs ds s5 hlr => ?_⟩
                refine ⟨.str t, rfl, rfl, _, rfl, ite2 (fun e4 => ?_) (fun e4 => ?_)⟩
                · have e5 : rowS cs ds = t := V.str.inj (of_decide_eq_true e4)
                  have h := WR.of hlr nx nt lx lt e5.symm
                  refine ⟨.ref p, rfl, p, D1, D2, xs, ts, rfl, SqT.of (s5 _ _ hp), SqL.of (s5 _ _ g1), SqL.of (s5 _ _ g2), by omega, by omega, fun H6 p6 cs' ds' s6 hlr' hrow => ?_⟩
                  obtain ⟨rfl, rfl⟩ := LR.det hlr hlr'
                  exact q _ _ h H6 p6 ((sall.trans s5).trans s6) hrow
                · refine qn (fun cs' ds' h => ?_) H5 (sall.trans s5)
                  obtain ⟨rfl, rfl⟩ := known2 cs' ds' h
                  obtain ⟨rfl, rfl⟩ := LR.det hlr h.lr
                  exact e4 (decide_eq_true (by rw [h.e.symm]))
end
/-! ### rows that tell the same notes have the same least row -/
theorem cyc_mul (t : List Int) (z m : Int) : cyc t (z + m * t.length) = cyc t z := by
  rw [← cyc_mod, Int.add_mul_emod_self_right, cyc_mod]
theorem per_mul {t : List Int} {q : Nat} (h : ∀ z : Int, cyc t (z + q) = cyc t z) (k : Nat) (z : Int) : cyc t (z + (k * q : Nat)) = cyc t z := by
  induction k with
  | zero => simp
  | succ k ih =>
    rw [show z + ((k + 1) * q : Nat) = (z + (k * q : Nat)) + (q : Int) by rw [Nat.succ_mul]; omega, h, ih]
theorem per_min {t : List Int} {p : Nat} (hp : IsPer t p) : ∀ q : Nat, 1 ≤ q → (∀ z : Int, cyc t (z + q) = cyc t z) → p ≤ q := by
  intro q
  induction q using Nat.strongRecOn with
  | _ q ih =>
    intro h1 h
    by_cases hq : t.length < q
    · exact Nat.le_trans hp.le (Nat.le_of_lt hq)
    by_cases hm : t.length % q = 0
    · exact hp.min q h1 (by omega) (cyc_isP h1 (by omega) hm h)
    · have hr := Nat.mod_lt t.length (show 0 < q by omega)
      refine Nat.le_trans (ih (t.length % q) hr (by omega) fun z => ?_) (Nat.le_of_lt hr)
      have e := Nat.div_add_mod t.length q
      have a := per_mul h (t.length / q) (z + (t.length % q : Nat))
      rw [← a, show z + ((t.length % q : Nat) : Int) + ((t.length / q * q : Nat) : Int) = z + (t.length : Int) by rw [Nat.mul_comm (t.length / q) q]; omega, cyc_add]
theorem per_far {t : List Int} {q M l : Nat} (ht : 0 < t.length) (h : ∀ n : Nat, M ≤ n → cyc t ((n : Int) - l + q) = cyc t ((n : Int) - l)) (z : Int) : cyc t (z + q) = cyc t z := by
  have hb : (0 : Int) ≤ (z.natAbs + M + l : Nat) * ((t.length : Int) - 1) := Int.mul_nonneg (by omega) (by omega)
  have hc : ((z.natAbs + M + l : Nat) : Int) * (t.length : Int) = (z.natAbs + M + l : Nat) * ((t.length : Int) - 1) + (z.natAbs + M + l : Nat) := by rw [Int.mul_sub]; omega
  obtain ⟨n, hn⟩ := Int.eq_ofNat_of_zero_le (show (0 : Int) ≤ z + ((z.natAbs + M + l : Nat) : Int) * (t.length : Int) + l by omega)
  have a := h n (by omega)
  rw [show (n : Int) - l = z + ((z.natAbs + M + l : Nat) : Int) * (t.length : Int) by omega, show z + ((z.natAbs + M + l : Nat) : Int) * (t.length : Int) + (q : Int) = (z + q) + ((z.natAbs + M + l : Nat) : Int) * (t.length : Int) by omega, cyc_mul, cyc_mul] at a
  exact a
theorem seen_far {xs ts : List Int} (h : ts ≠ []) {n : Nat} (hn : xs.length ≤ n) : seenO xs ts n = some (cyc ts ((n : Int) - xs.length)) := by
  unfold seenO
  rw [if_neg (by omega), if_neg h]
theorem seen_some {xs ts : List Int} (h : ts ≠ []) (n : Nat) : seenO xs ts n ≠ none := by
  unfold seenO
  by_cases hn : n < xs.length
  · rw [if_pos hn, List.getElem?_eq_getElem hn]
    simp
  · rw [if_neg hn, if_neg h]
    simp
theorem seen_nil (xs : List Int) (n : Nat) : seenO xs [] n = xs[n]? := by
  unfold seenO
  by_cases hn : n < xs.length
  · rw [if_pos hn]
  · rw [if_neg hn, if_pos rfl, List.getElem?_eq_none (by omega)]
/-- what the least row is, told by the notes alone -/
theorem LR.told {xs ts c d : List Int} (ht : ts ≠ []) (a : LR xs ts c d) : ∃ p N : Nat, 1 ≤ p ∧ c.length = N ∧ d.length = p ∧ (∀ i, i < N → c[i]? = seenO xs ts i) ∧ (∀ k, k < p → d[k]? = seenO xs ts (N + k)) ∧
    (∀ n, N ≤ n → seenO xs ts (n + p) = seenO xs ts n) ∧ (∀ q M : Nat, 1 ≤ q → (∀ n, M ≤ n → seenO xs ts (n + q) = seenO xs ts n) → p ≤ q) ∧ ∀ M : Nat, (∀ n, M ≤ n → seenO xs ts (n + p) = seenO xs ts n) → N ≤ M := by
  rcases a with ⟨e, _⟩ | ⟨_, p, s, h1, h2, rfl, rfl⟩
  · exact absurd e ht
  have hp := h1.pos
  have hle := h1.le
  have hw : (ts.take p).length = p := by rw [List.length_take]; omega
  have ts' := h2.tail.1
  have far : ∀ k : Nat, seenO xs ts (xs.length - s + k) = some (cyc (ts.take p) ((k : Int) - s)) := seen_tail h1 h2.tail
  refine ⟨p, xs.length - s, hp, by rw [List.length_take]; omega, by rw [rot_len, hw], fun i hi => ?_, fun k hk => ?_, fun n hn => ?_, fun q M q1 h => ?_, fun M h => ?_⟩
  · rw [List.getElem?_take, if_pos hi]
    unfold seenO
    rw [if_pos (by omega)]
  · rw [far, rot_get (by omega)]
  · obtain ⟨k, rfl⟩ : ∃ k, n = xs.length - s + k := ⟨n - (xs.length - s), by omega⟩
    rw [Nat.add_assoc, far, far, show ((k + p : Nat) : Int) - s = ((k : Int) - s) + ((ts.take p).length : Int) by rw [hw]; omega, cyc_add]
  · refine per_min h1 q q1 (per_far (M := M + xs.length) (l := xs.length) (by omega) fun n hn => ?_)
    have z := h n (by omega)
    rw [seen_far ht (by omega), seen_far ht (by omega)] at z
    have z2 := Option.some.inj z
    rw [show ((n + q : Nat) : Int) - xs.length = (n : Int) - xs.length + q by omega] at z2
    exact z2
  · by_cases hM : xs.length - s ≤ M
    · exact hM
    exfalso
    have z := h (xs.length - s - 1) (by omega)
    rw [show xs.length - s - 1 + p = xs.length - s + (p - 1) by omega, far] at z
    refine h2.max (by omega) ?_
    have e1 : seenO xs ts (xs.length - s - 1) = xs[xs.length - 1 - s]? := by
      unfold seenO
      rw [if_pos (by omega), show xs.length - s - 1 = xs.length - 1 - s by omega]
    rw [← e1, ← z]
    congr 1
    rw [show ((p - 1 : Nat) : Int) - s = (-1 - (s : Int)) + ((ts.take p).length : Int) by rw [hw]; omega, cyc_add]
theorem LR.same {xs ts c d xs' ts' c' d' : List Int} (a : LR xs ts c d) (b : LR xs' ts' c' d') (h : ∀ n, seenO xs ts n = seenO xs' ts' n) : c = c' ∧ d = d' := by
  by_cases e : ts = []
  · by_cases e' : ts' = []
    · subst e e'
      rcases a with ⟨_, rfl, rfl⟩ | ⟨z, _⟩
      · rcases b with ⟨_, rfl, rfl⟩ | ⟨z, _⟩
        · refine ⟨List.ext_getElem? fun i => ?_, rfl⟩
          have z := h i
          rw [seen_nil, seen_nil] at z
          exact z
        · exact absurd rfl z
      · exact absurd rfl z
    · exfalso
      subst e
      refine seen_some (xs := xs') e' xs.length ?_
      rw [← h, seen_nil, List.getElem?_eq_none (Nat.le_refl _)]
  · by_cases e' : ts' = []
    · exfalso
      subst e'
      refine seen_some (xs := xs) e xs'.length ?_
      rw [h, seen_nil, List.getElem?_eq_none (Nat.le_refl _)]
    · obtain ⟨p, N, p1, l1, l2, g1, g2, g3, g4, g5⟩ := a.told e
      obtain ⟨p', N', p1', l1', l2', g1', g2', g3', g4', g5'⟩ := b.told e'
      have ep : p = p' := Nat.le_antisymm (g4 p' N' p1' fun n hn => by rw [h, h]; exact g3' n hn) (g4' p N p1 fun n hn => by rw [← h, ← h]; exact g3 n hn)
      subst ep
      have eN : N = N' := Nat.le_antisymm (g5 N' fun n hn => by rw [h, h]; exact g3' n hn) (g5' N fun n hn => by rw [← h, ← h]; exact g3 n hn)
      subst eN
      refine ⟨List.ext_getElem? fun i => ?_, List.ext_getElem? fun i => ?_⟩
      · by_cases hi : i < N
        · rw [g1 i hi, g1' i hi, h]
        · rw [List.getElem?_eq_none (by omega), List.getElem?_eq_none (by omega)]
      · by_cases hi : i < p
        · rw [g2 i hi, g2' i hi, h]
        · rw [List.getElem?_eq_none (by omega), List.getElem?_eq_none (by omega)]
/-- the least row tells the same notes -/
theorem LR.seen {xs ts c d : List Int} (a : LR xs ts c d) (n : Nat) : seenO c d n = seenO xs ts n := by
  rcases a with ⟨rfl, rfl, rfl⟩ | ⟨ht, p, s, h1, h2, rfl, rfl⟩
  · rfl
  have hp := h1.pos
  have hle := h1.le
  have hw : (ts.take p).length = p := by rw [List.length_take]; omega
  have hs := h2.tail.1
  have hd : rot (ts.take p) s ≠ [] := fun z => by
    have := congrArg List.length z
    rw [rot_len, hw] at this
    simp at this
    omega
  by_cases hn : n < xs.length - s
  · unfold seenO
    rw [if_pos (by rw [List.length_take]; omega), if_pos (by omega), List.getElem?_take, if_pos hn]
  · obtain ⟨k, rfl⟩ : ∃ k, n = xs.length - s + k := ⟨n - (xs.length - s), by omega⟩
    rw [seen_tail h1 h2.tail, seen_far hd (by rw [List.length_take]; omega), cyc_rot (by omega)]
    congr 2
    rw [List.length_take]
    omega
/-- behind n notes -/
theorem seen_drop {xs ts : List Int} {n : Nat} (h : n ≤ xs.length) (m : Nat) : seenO (xs.drop n) ts m = seenO xs ts (n + m) := by
  unfold seenO
  by_cases hm : n + m < xs.length
  · rw [if_pos (by rw [List.length_drop]; omega), if_pos hm, List.getElem?_drop]
  · rw [if_neg (by rw [List.length_drop]; omega), if_neg hm]
    by_cases e : ts = []
    · rw [if_pos e, if_pos e]
    · rw [if_neg e, if_neg e]
      congr 2
      rw [List.length_drop]
      omega
theorem rot_ne {ts : List Int} (h : ts ≠ []) (z : Int) : rot ts z ≠ [] := fun e => by
  have := congrArg List.length e
  rw [rot_len] at this
  exact h (List.eq_nil_of_length_eq_zero this)
theorem seen_rot {xs ts : List Int} {n : Nat} (ht : ts ≠ []) (h : xs.length < n) (m : Nat) : seenO [] (rot ts ((xs.length : Int) - n)) m = seenO xs ts (n + m) := by
  rw [seen_far (rot_ne ht _) (Nat.zero_le _), seen_far ht (by omega), cyc_rot (List.length_pos_iff.mpr ht)]
  congr 2
  simp
  omega
/-! ### the law -/
theorem LR.len {xs ts c d : List Int} (a : LR xs ts c d) : c.length ≤ xs.length ∧ d.length ≤ ts.length := by
  rcases a with ⟨e, rfl, rfl⟩ | ⟨e, p, s, h1, h2, rfl, rfl⟩
  · exact ⟨Nat.le_refl _, Nat.zero_le _⟩
  · rw [List.length_take, rot_len, List.length_take]
    exact ⟨by omega, by omega⟩
theorem lk_int {K : PySem.W.Frag} {H : Hp} {n : Nat} (i : Int) : Lk K H (n + 1) (.int i) (.int i) := .inl ⟨rfl, .inr (.inr (.inl ⟨i, rfl⟩))⟩
theorem lk_ints {K : PySem.W.Frag} {H : Hp} {n : Nat} {a b : Addr} {c : List Int} (h1 : SqT K H a (c.map V.int)) (h2 : SqT K H b (c.map V.int)) (hl : c.length ≤ 1000) : Lk K H (n + 2) (.ref a) (.ref b) :=
  .inr ⟨a, b, _, _, rfl, rfl, .inr ⟨h1, h2⟩, rfl, by rw [List.length_map]; exact hl, fun i x y hx hy => by
    rw [hx] at hy
    obtain rfl := Option.some.inj hy
    rw [List.getElem?_map] at hx
    cases hz : c[i]? with
    | none => rw [hz] at hx; cases hx
    | some z =>
      rw [hz] at hx
      obtain rfl := Option.some.inj hx
      exact lk_int z⟩
theorem lk_row {K : PySem.W.Frag} {H : Hp} {n : Nat} {p q : Addr} {c d : List Int} (h1 : RowAt K H p c d) (h2 : RowAt K H q c d) (hc : c.length ≤ 1000) (hd : d.length ≤ 1000) : Lk K H (n + 3) (.ref p) (.ref q) := by
  obtain ⟨a1, b1, x1, x2, x3⟩ := h1
  obtain ⟨a2, b2, y1, y2, y3⟩ := h2
  refine .inr ⟨p, q, _, _, rfl, rfl, .inr ⟨x1, y1⟩, rfl, (show (2 : Nat) ≤ 1000 by decide), fun i x y hx hy => ?_⟩
  match i, hx, hy with
  | 0, hx, hy =>
    obtain rfl := Option.some.inj hx
    obtain rfl := Option.some.inj hy
    exact lk_ints x2 y2 hc
  | 1, hx, hy =>
    obtain rfl := Option.some.inj hx
    obtain rfl := Option.some.inj hy
    exact lk_ints x3 y3 hd
  | j + 2, hx, hy => cases hx
theorem lk_str {K : PySem.W.Frag} {H : Hp} {n : Nat} (z : Str) : Lk K H (n + 1) (.str z) (.str z) := .inl ⟨rfl, .inr (.inr (.inr ⟨z, rfl⟩))⟩
theorem lk_two {K : PySem.W.Frag} {H : Hp} {n : Nat} {a b : Addr} {z : Str} {x y : V} (h1 : SqT K H a [.str z, x]) (h2 : SqT K H b [.str z, y]) (h : Lk K H (n + 1) x y) : Lk K H (n + 2) (.ref a) (.ref b) :=
  .inr ⟨a, b, _, _, rfl, rfl, .inr ⟨h1, h2⟩, rfl, (show (2 : Nat) ≤ 1000 by decide), fun i x' y' hx hy => by
    match i, hx, hy with
    | 0, hx, hy =>
      obtain rfl := Option.some.inj hx
      obtain rfl := Option.some.inj hy
      exact lk_str z
    | 1, hx, hy =>
      obtain rfl := Option.some.inj hx
      obtain rfl := Option.some.inj hy
      exact h
    | j + 2, hx, hy => cases hx⟩
theorem seenV_O (xs ts : List Int) (n : Nat) : seenV xs ts (n : Int) = match seenO xs ts n with | some v => .int v | none => .non := by
  unfold seenV seenO
  by_cases h : n < xs.length
  · rw [if_pos ⟨by omega, by omega⟩, if_pos h, Int.toNat_natCast, List.getD_eq_getElem?_getD, List.getElem?_eq_getElem h]
    rfl
  · rw [if_neg (by omega), if_neg h]
    by_cases e : ts = []
    · rw [if_pos (.inr e), if_pos e]
    · rw [if_neg (by intro y; rcases y with y | y; omega; exact e y), if_neg e]
theorem seenV_neg {xs ts : List Int} {z : Int} (h : z < 0) : seenV xs ts z = .non := by
  unfold seenV
  rw [if_neg (by omega), if_pos (.inl h)]
theorem LR.seenV {xs ts c d : List Int} (a : LR xs ts c d) (z : Int) : seenV c d z = seenV xs ts z := by
  by_cases h : z < 0
  · rw [seenV_neg h, seenV_neg h]
  · obtain ⟨n, rfl⟩ := Int.eq_ofNat_of_zero_le (show 0 ≤ z by omega)
    rw [seenV_O, seenV_O, a.seen]
theorem LR.none {xs c d : List Int} (a : LR xs [] c d) : c = xs ∧ d = [] := by
  rcases a with ⟨_, h1, h2⟩ | ⟨z, _⟩
  · exact ⟨h1, h2⟩
  · exact absurd rfl z
theorem LR.some {xs ts c d : List Int} (a : LR xs ts c d) (h : ts ≠ []) : d ≠ [] := by
  rcases a with ⟨z, _⟩ | ⟨_, p, s, h1, h2, rfl, rfl⟩
  · exact absurd z h
  · exact rot_ne (fun z => by have := congrArg List.length z; have h3 := h1.pos; have h4 := h1.le; rw [List.length_take] at this; simp at this; rcases this with y | y; omega; exact h y) _
/-! what stays -/
theorem bag_lst {H : Hp} {b c : Addr} (h : Bag H b c) : ∃ l, H b = some (.lst l) := by
  obtain ⟨cells, a, r, s, h1, _⟩ := h.ex
  exact ⟨_, h1⟩
theorem tabs_off {T : List (Addr × Str)} {H H' : Hp} {b c : Addr} (t : LamX.Tabs T H) (hB : Bag H b c) (o : Off b H H') : LamX.Tabs T H' := fun p hp => by
  obtain ⟨l, hl⟩ := bag_lst hB
  obtain ⟨ps, h1, h2, h3⟩ := t p hp
  refine ⟨ps, o _ _ (fun z => by rw [z, hl] at h1; cases h1) h1, h2, fun pos cv hc => ?_⟩
  obtain ⟨c', e1, e2⟩ := h3 pos cv hc
  exact ⟨c', e1, o _ _ (fun z => by rw [z, hl] at e2; unfold LamX.CodeO at e2; cases e2) e2⟩
theorem sqT_off {K : PySem.W.Frag} {H H' : Hp} {b c a : Addr} {xs : List V} (h : SqT K H a xs) (hB : Bag H b c) (o : Off b H H') : SqT K H' a xs := by
  obtain ⟨l, hl⟩ := bag_lst hB
  rcases h with (q | ⟨ob, q⟩) | q
  · exact .inl (.inl (o _ _ (fun z => by rw [z, hl] at q; cases q) q))
  · exact .inl (.inr ⟨ob, o _ _ (fun z => by rw [z, hl] at q; cases q) q⟩)
  · exact .inr q
theorem rowAt_off {K : PySem.W.Frag} {H H' : Hp} {b c p : Addr} {x y : List Int} (h : RowAt K H p x y) (hB : Bag H b c) (o : Off b H H') : RowAt K H' p x y := by
  obtain ⟨a1, a2, h1, h2, h3⟩ := h
  exact ⟨a1, a2, sqT_off h1 hB o, sqT_off h2 hB o, sqT_off h3 hB o⟩
theorem sqT_ext {K : PySem.W.Frag} {H H' : Hp} {a : Addr} {xs : List V} (h : SqT K H a xs) (o : LamX.ExtN H H') : SqT K H' a xs := by
  rcases h with (q | ⟨ob, q⟩) | q
  · exact .inl (.inl (o _ _ q fun _ z => nomatch z))
  · exact .inl (.inr ⟨ob, o _ _ q (fun _ z => nomatch z)⟩)
  · exact .inr q
theorem rowAt_ext {K : PySem.W.Frag} {H H' : Hp} {p : Addr} {x y : List Int} (h : RowAt K H p x y) (o : LamX.ExtN H H') : RowAt K H' p x y := by
  obtain ⟨a1, a2, h1, h2, h3⟩ := h
  exact ⟨a1, a2, sqT_ext h1 o, sqT_ext h2 o, sqT_ext h3 o⟩
theorem rowB_ext {H H' : Hp} {b r : Addr} {xs ts : List Int} (h : RowB H b r xs ts) (o : LamX.ExtN H H') : RowB H' b r xs ts := by
  obtain ⟨la, ta, h1, h2, h3, n⟩ := h
  exact ⟨la, ta, o _ _ h1 (fun _ z => nomatch z), o _ _ h2 (fun _ z => nomatch z), o _ _ h3 (fun _ z => nomatch z), n⟩
theorem bag_ext {H H' : Hp} {b c : Addr} (h : Bag H b c) (o : LamX.ExtN H H') : Bag H' b c := by
  obtain ⟨cells, a, r, s, h1, h2, h3⟩ := h.ex
  exact ⟨cells, a, r, s, o _ _ h1 (fun _ z => nomatch z), o _ _ h2 (fun _ z => nomatch z), h3⟩
theorem ext_same {H H' : Hp} (s : Same H H') : LamX.ExtN H H' := LamX.ExtN.of s
/-! ### the law of k62 -/
def rMulS : R2 := fun x y H Q => ∃ (i : Str) (j : Int), x = .str i ∧ y = .int j ∧ i.length ≤ 16 ∧ 0 ≤ j ∧ j ≤ 1000 ∧ ∀ z : Str, (z.length : Int) = (i.length : Int) * j → Q (.str z) H
theorem op_mulS {X : Cx} : OpR X (binaryOp .Mult) rMulS := by
  intro pins s σ H x y v u Q I rx ry h
  obtain ⟨i, j, rfl, rfl, hi, h0, h1, q⟩ := h
  obtain ⟨t, rfl⟩ := rx
  obtain ⟨t', rfl⟩ := ry
  exact PySem.W.KXi.mul rfl hi (by omega) (by omega) (fun t' k _ z => ⟨.str _, H, I.tok _, ⟨_, rfl⟩, q _ (z h0)⟩)
theorem rowS_len {cs ds : List Int} (hc : Nt cs) (hd : Nt ds) : (rowS cs ds).length ≤ cs.length + ds.length + 2 := by
  rw [TL.len_tl, rowS_tl hc hd]
  split
  · exact Nat.le_trans (show 1 ≤ 2 by decide) (Nat.le_add_left ..)
  · split
    · unfold nN
      rw [List.length_map]
      omega
    · unfold nN
      rw [List.length_append, List.length_cons, List.length_append, List.length_map, List.length_map, List.length_singleton]
      omega
theorem tabs_upd {T : List (Addr × Str)} {H : Hp} {a : Addr} {l : List V} {o : HO} (t : LamX.Tabs T H) (hl : H a = some (.lst l)) : LamX.Tabs T (upd H a o) := fun p hp => by
  obtain ⟨ps, h1, h2, h3⟩ := t p hp
  refine ⟨ps, by rw [upd_ne (fun z => by rw [z, hl] at h1; cases h1)]; exact h1, h2, fun pos cv hc => ?_⟩
  obtain ⟨c', e1, e2⟩ := h3 pos cv hc
  unfold LamX.CodeO at e2 ⊢
  exact ⟨c', e1, by rw [upd_ne (fun z => by rw [z, hl] at e2; cases e2)]; exact e2⟩
theorem lk_dos {K : PySem.W.Frag} {H : Hp} {n : Nat} {a b : Addr} {x y x' y' : V} (h1 : SqL K H a [x, y]) (h2 : SqL K H b [x', y']) (k1 : Lk K H n x x') (k2 : Lk K H n y y') : Lk K H (n + 1) (.ref a) (.ref b) :=
  .inr ⟨a, b, _, _, rfl, rfl, .inl ⟨h1, h2⟩, rfl, (show (2 : Nat) ≤ 1000 by decide), fun i u v hx hy => by
    match i, hx, hy with
    | 0, hx, hy =>
      obtain rfl := Option.some.inj hx
      obtain rfl := Option.some.inj hy
      exact k1
    | 1, hx, hy =>
      obtain rfl := Option.some.inj hx
      obtain rfl := Option.some.inj hy
      exact k2
    | j + 2, hx, hy => cases hx⟩
abbrev sLaw : Stmt := topS 58
abbrev nLaw : List Str := ["_law_script", "_law_bag_here", "_law_signs", "_law_texts", "_law_turn", "_law_row", "_law_said", "_law_bent", "_law_due", "_law_text", "_law_k"]
theorem scLaw : FnScope nLaw ["_law_script"] (defScope sLaw) := ⟨rfl, rfl, rfl, by decide +kernel, rfl, by decide +kernel, by decide +kernel⟩
def tabL (pL : Addr) : List (Addr × Str) := [(pL, (envOfC "law" (defScope sLaw) 0 0 .none).qual ++ "<lambda>")]
def spLaw (K : PySem.W.Frag) (pL : Addr) : Sp := fun vs H Q _ => ∃ (a : Addr) (ns : List Int), vs = [.ref a] ∧ SqL K H a (ns.map V.int) ∧ ns.length ≤ 63 ∧ H pL = some (.tbl #[]) ∧ ∀ H', Q (.bl true) H'
def sgs : List Str := ["0", "1", "3", "4", "(", ")", "-", " ", "()", "\n", "01", "9"]
theorem sgs_len : ∀ s ∈ sgs, s.length ≤ 2 := by decide +kernel
def txs : List Str := (["", "-", "()", "(", ")", "0()", "(0)", "0(0)", "1(01)", "(00)", "--", "0-", "(1)0"] : List Str) ++ (["0(1)(1)", "0\n", "01)"] : List Str)
theorem txs_len : ∀ s ∈ txs, s.length ≤ 1000 := by decide +kernel
/-- what the law has: the bag, the signs, the texts -/
structure T62 (b c sg tx : Addr) (T : List (Addr × Str)) (ts : List Str) (H : Hp) : Prop where
  bag : Bag H b c
  tabs : LamX.Tabs T H
  sgl : H sg = some (.lst (sgs.map V.str))
  sgb : sg ≠ b
  txl : H tx = some (.lst (ts.map V.str))
  txb : tx ≠ b
  txc : tx ≠ c
  sgt : sg ≠ tx
  all : ∀ t ∈ ts, t.length ≤ 1000
section
variable {b c sg tx : Addr} {T : List (Addr × Str)} {ts : List Str} {H H' : Hp}
theorem T62.off (h : T62 b c sg tx T ts H) (o : Off b H H') (hB : Bag H' b c) : T62 b c sg tx T ts H' := ⟨hB, tabs_off h.tabs h.bag o, o _ _ h.sgb h.sgl, h.sgb, o _ _ h.txb h.txl, h.txb, h.txc, h.sgt, h.all⟩
theorem T62.same (h : T62 b c sg tx T ts H) (s : Same H H') : T62 b c sg tx T ts H' := h.off (Off.same s) (h.bag.same s)
theorem T62.ne (h : T62 b c sg tx T ts H) {p : Addr} (n : H p = none) : p ≠ b ∧ p ≠ sg ∧ p ≠ tx := ⟨(h.bag.ne n).1, (fun z => by rw [z, h.sgl] at n; cases n), (fun z => by rw [z, h.txl] at n; cases n)⟩
/-- another list of texts in its place -/
theorem T62.swap (h : T62 b c sg tx T ts H) {p : Addr} {us : List Str} (n : H p = none) (hu : ∀ t ∈ us, t.length ≤ 1000) : T62 b c sg p T us (upd H p (.lst (us.map V.str))) :=
  ⟨h.bag.same (same_upd n), h.tabs.ext (same_upd n), same_upd n _ _ h.sgl, h.sgb, upd_same, (h.ne n).1, (h.bag.ne n).2, Ne.symm (h.ne n).2.1, hu⟩
end
theorem all_app {a c : List Str} (h1 : ∀ t ∈ a, t.length ≤ 1000) (h2 : ∀ t ∈ c, t.length ≤ 1000) : ∀ t ∈ a ++ c, t.length ≤ 1000 := fun t ht => by
  rcases List.mem_append.mp ht with z | z
  · exact h1 t z
  · exact h2 t z
theorem all_two {x y : Str} (h1 : x.length ≤ 1000) (h2 : y.length ≤ 1000) : ∀ t ∈ [x, y], t.length ≤ 1000 := fun t ht => by
  simp only [List.mem_cons, List.not_mem_nil, or_false] at ht
  rcases ht with rfl | rfl
  · exact h1
  · exact h2
section
variable {P : Program} {w : World} {K : PySem.W.Frag} {mg : Str → Option Value} {base : Heap}
theorem ok_law62 {f fB fP fO fRw fRS fBT fWr fL fRT fRR fI fT fK cL pL : Addr} {fdB fdP fdO fdRw fdRS fdBT fdWr fdL fdRT fdRR fdI fdT fdK : FuncData} {cm : Nat → Addr} {oc kV doc pm ct : Value} {od an : Option Addr} {osl : Array (Option Value)}
    (lk : K.lookup f = some ⟨oc, od, .func (PySem.W.fnOf "law" "law" (defArgs sLaw) (defBody sLaw) (defScope sLaw) .none kV doc pm an (.ref cL) ct), osl⟩) (hcd : PySem.W.codeIn K (.ref cL) "law" = true) (tb : LamX.TabB base mg cL pL)
    (FB : Fun K "_law_bag" "_law_bag" sBag fB fdB) (bB : Binds K fdB ["_law_script"] []) (gB : mg "_law_bag" = some (.ref fB)) (GB : FnOk P w K mg base CX0 9 fB fdB ["_law_script"] (spBag K))
    (FP : Fun K "_law_pull" "_law_pull" sPull fP fdP) (bP : Binds K fdP ["_law_bag_here", "_law_size"] []) (gP : mg "_law_pull" = some (.ref fP)) (GP : FnOk P w K mg base CX0 9 fP fdP ["_law_bag_here", "_law_size"] spPull)
    (FO : Fun K "_law_of" "_law_of" sOf fO fdO) (bO : Binds K fdO ["_law_bag_here", "_law_things"] []) (gO : mg "_law_of" = some (.ref fO)) (GO : FnOk P w K mg base CX0 9 fO fdO ["_law_bag_here", "_law_things"] spOf)
    (FRw : Fun K "_law_rows" "_law_rows" sRows fRw fdRw) (bRw : Binds K fdRw ["_law_bag_here", "_law_colours", "_law_most", "_law_ever"] []) (gRw : mg "_law_rows" = some (.ref fRw)) (GRw : FnOk P w K mg base CX0 9 fRw fdRw ["_law_bag_here", "_law_colours", "_law_most", "_law_ever"] spRows)
    (FRS : Fun K "_law_row_said" "_law_row_said" sRS fRS fdRS) (bRS : Binds K fdRS ["_law_row"] []) (gRS : mg "_law_row_said" = some (.ref fRS)) (GRS : FnOk P w K mg base CX0 9 fRS fdRS ["_law_row"] (spRS K))
    (FBT : Fun K "_law_bent_text" "_law_bent_text" sBT fBT fdBT) (bBT : Binds K fdBT ["_law_bag_here", "_law_text", "_law_signs"] []) (gBT : mg "_law_bent_text" = some (.ref fBT)) (GBT : FnOk P w K mg base CX0 9 fBT fdBT ["_law_bag_here", "_law_text", "_law_signs"] spBT)
    (FWr : Fun K "_law_row_written" "_law_row_written" sRW fWr fdWr) (bWr : Binds K fdWr ["_law_text"] []) (gWr : mg "_law_row_written" = some (.ref fWr)) (GWr : FnOk P w K mg base CX0 9 fWr fdWr ["_law_text"] (spRW K))
    (FL : Fun K "_law_least" "_law_least" sLst fL fdL) (bL : Binds K fdL ["_law_row"] []) (gL : mg "_law_least" = some (.ref fL)) (GL : FnOk P w K mg base CX0 9 fL fdL ["_law_row"] (spLst K))
    (FRT : Fun K "row_text" "row_text" sRT fRT fdRT) (bRT : Binds K fdRT ["row"] []) (gRT : mg "row_text" = some (.ref fRT)) (GRT : FnOk P w K mg base CX0 9 fRT fdRT ["row"] (spRT K))
    (FRR : Fun K "read_row" "read_row" sRR fRR fdRR) (bRR : Binds K fdRR ["text"] []) (gRR : mg "read_row" = some (.ref fRR)) (GRR : FnOk P w K mg base (L2.CX P w) 6 fRR fdRR ["text"] (spRR K (cm 22)))
    (FI : Fun K "_law_is" "_law_is" sIs fI fdI) (bI : Binds K fdI ["_law_act", "_law_due"] []) (gI : mg "_law_is" = some (.ref fI))
    (FT : Fun K "_law_tried" "_law_tried" sTried fT fdT) (bT : Binds K fdT ["_law_act"] []) (gT : mg "_law_tried" = some (.ref fT))
    (FK : Fun K "_law_like" "_law_like" sLike fK fdK) (bK : Binds K fdK ["_law_one", "_law_due"] []) (gK : mg "_law_like" = some (.ref fK)) (GK : FnOk P w K mg base CX0 8 fK fdK ["_law_one", "_law_due"] (spLike K 8))
    (RT : RefsT K mg cm) (mr : mg "range" = none) (ml : mg "len" = none) :
    FnOk P w K mg base CX0 10 f (PySem.W.fnOf "law" "law" (defArgs sLaw) (defBody sLaw) (defScope sLaw) .none kV doc pm an (.ref cL) ct) ["_law_script"] (spLaw K pL) := by
  have GK9 := GK.mono (show 8 ≤ 9 by decide)
  have GRR9 := GRR.mono (show 6 ≤ 9 by decide)
  refine fn_of lk hcd scLaw (fun vs H Q E h => ?_) (fun A outer s H vs Q E hr h => ?_)
  · obtain ⟨a, ns, rfl, _⟩ := h
    rfl
  · obtain ⟨a, ns, rfl, hS, hlen, hP, q⟩ := h
    have hmT : (pL, (envOfC "law" (defScope sLaw) 0 0 .none).qual ++ "<lambda>") ∈ tabL pL := List.mem_singleton.mpr rfl
    have huT : ∀ p ∈ tabL pL, p.1 = pL → p.2 = (envOfC "law" (defScope sLaw) 0 0 .none).qual ++ "<lambda>" := fun p hp _ => by rw [List.mem_singleton.mp hp]
    refine ⟨_, PSs.nox (pss_cons (ps_set (i := 1) scLaw.nd rfl (.inr rfl) (pe_call GB hr (by rfl) gB FB.kp bB .nil pass0 (pa_cons (pv 0) pa_nil)))
      (pss_cons (ps_set (i := 2) scLaw.nd rfl (.inr rfl) (pe_lst (pa_cons pe_str (pa_cons pe_str (pa_cons pe_str (pa_cons pe_str (pa_cons pe_str (pa_cons pe_str (pa_cons pe_str (pa_cons pe_str (pa_cons pe_str (pa_cons pe_str (pa_cons pe_str (pa_cons pe_str pa_nil))))))))))))))
      (pss_cons (ps_set (i := 3) scLaw.nd rfl (.inl rfl) (pe_lst (pa_cons pe_str (pa_cons pe_str (pa_cons pe_str (pa_cons pe_str (pa_cons pe_str (pa_cons pe_str (pa_cons pe_str (pa_cons pe_str (pa_cons pe_str (pa_cons pe_str (pa_cons pe_str (pa_cons pe_str (pa_cons pe_str pa_nil)))))))))))))))
      (pss_cons (ps_set (i := 3) scLaw.nd rfl (.inl rfl) (pe_op op_cat (pv 3) (pe_lst (pa_cons pe_str (pa_cons pe_str (pa_cons pe_str pa_nil))))))
      (pss_cons (ps_for PassesOwn.never rfl (pi_range1 (by rfl) mr (pa_cons pe_int pa_nil)) (pg_name (i := 4) scLaw.nd rfl (.inl rfl)) (pss_cons (ps_set (i := 5) scLaw.nd rfl (.inl rfl) (pe_ix ix_list (pe_call GRw hr (by rfl) gRw FRw.kp bRw .nil pass0 (pa_cons (pv 1) (pa_cons (pe_lst (pa_cons pe_int pa_nil)) (pa_cons pe_int (pa_cons pe_int pa_nil))))) pe_int (fun _ _ => rfl)))
      (pss_cons (ps_set (i := 6) scLaw.nd rfl (.inl rfl) (pe_call GRS hr (by rfl) gRS FRS.kp bRS .nil pass0 (pa_cons (pv 5) pa_nil)))
      (pss_cons (ps_if (pt_not (pt_val (pe_call GK9 hr (by rfl) gK FK.kp bK .nil pass0 (pa_cons (pe_lst (pa_cons (pe_call GRT hr (by rfl) gRT FRT.kp bRT .nil pass0 (pa_cons (pe_call GL hr (by rfl) gL FL.kp bL .nil pass0 (pa_cons (pv 5) pa_nil)) pa_nil)) (pa_cons (pe_call GRR9 hr (by rfl) gRR FRR.kp bRR .nil passL (pa_cons (pv 6) pa_nil)) pa_nil))) (pa_cons (pe_lst (pa_cons (pv 6) (pa_cons (pe_call GL hr (by rfl) gL FL.kp bL .nil pass0 (pa_cons (pv 5) pa_nil)) pa_nil))) pa_nil))))) (pss_one (ps_ret pe_bl)) pss_nil)
      (pss_cons (ps_set (i := 7) scLaw.nd rfl (.inl rfl) (pe_call GBT hr (by rfl) gBT FBT.kp bBT .nil pass0 (pa_cons (pv 1) (pa_cons (pv 6) (pa_cons (pv 2) pa_nil)))))
      (pss_cons (ps_set (i := 3) scLaw.nd rfl (.inl rfl) (pe_op op_cat (pv 3) (pe_lst (pa_cons (pv 7) (pa_cons (pe_call GBT hr (by rfl) gBT FBT.kp bBT .nil pass0 (pa_cons (pv 1) (pa_cons (pv 7) (pa_cons (pv 2) pa_nil)))) pa_nil)))))
      (pss_one (ps_expr (pe_bm PySem.F.plainAttrs_list PySem.F.slot_list_append PySem.F.type_list_append mt_append (pv 3) (pa_cons (pe_join pe_str (pe_lc (own := [("_law_k", 10)]) (g := gName 10) (tt := tYes) rfl scLaw.nd (pi_range1 (by rfl) mr (pa_cons (pe_call GP hr (by rfl) gP FP.kp bP .nil pass0 (pa_cons (pv 1) (pa_cons pe_int pa_nil))) pa_nil)) (blkOk_by (own := [("_law_k", 10)]) (N := nLaw) (sc := defScope sLaw) (by decide +kernel)) (fun _ _ _ _ _ => pg_name (i := 10) scLaw.nd rfl (.inl rfl)) (fun _ _ _ _ _ => pts_nil) (fun _ _ _ _ _ => pe_call GO hr (by rfl) gO FO.kp bO .nil pass0 (pa_cons (pv 1) (pa_cons (pv 2) pa_nil))))) pa_nil))))))))))
      (pss_cons (ps_set (i := 3) scLaw.nd rfl (.inl rfl) (pe_op op_cat (pv 3) (pe_lst (pa_cons (pe_op op_mulS pe_str (pe_op op_add pe_int (pe_call GP hr (by rfl) gP FP.kp bP .nil pass0 (pa_cons (pv 1) (pa_cons pe_int pa_nil))))) (pa_cons (pe_op op_add_str (pe_op op_add_str pe_str (pe_call GO hr (by rfl) gO FO.kp bO .nil pass0 (pa_cons (pv 1) (pa_cons (pe_lst (pa_cons pe_str (pa_cons pe_str (pa_cons pe_str pa_nil)))) pa_nil)))) pe_str) pa_nil)))))
      (pss_cons (ps_for PassesOwn.never rfl (pi_list (pe_op op_cat (pv 3) (pe_lst (pa_cons (pe_op op_add_str (pe_op op_mulS pe_str pe_int) pe_str) (pa_cons (pe_op op_add_str (pe_op op_mulS pe_str pe_int) pe_str) pa_nil))))) (pg_name (i := 9) scLaw.nd rfl (.inr rfl)) (pss_cons (ps_set (i := 8) scLaw.nd rfl (.inl rfl) (pe_call GWr hr (by rfl) gWr FWr.kp bWr .nil pass0 (pa_cons (pv 9) pa_nil)))
      (pss_one (ps_if (pt_not (pt_val (pe_is (T := tabL pL) (cm := cm) (k := 6) (n := 8) FI gI bI (by rfl) RT FT gT bT FK gK bK GK rfl tb rfl hmT huT hr (LamX.lamS_by (sc := defScope sLaw) (by decide +kernel)) rfl (fun _ _ _ _ _ => rfl) (fun A2 outer2 s2 H2 E2 f2 c2 hr2 => pe_call GRR hr2 (by rfl) gRR FRR.kp bRR .nil (passes_call (takes_of rfl rfl rfl rfl) (fun _ _ _ _ h => h)) (pa_cons (pv 9) pa_nil)) (pe_ifExp (pt_cmpR op_notN (pv 8) pe_non (nomark _)) (pe_tup (pa_cons pe_str (pa_cons (pv 8) pa_nil))) (pe_tup (pa_cons pe_str (pa_cons pe_int pa_nil))))))) (pss_one (ps_ret pe_bl)) pss_nil))))
      (pss_one (ps_ret pe_bl))))))))), ?_⟩
    refine ⟨.ref a, rfl, a, ns, rfl, hS, hlen, fun H1 b c s1 hB _ => ?_⟩
    have hT1 : LamX.Tabs (tabL pL) H1 := fun p hp => by
      rw [List.mem_singleton.mp hp]
      exact LamX.TabS.nil (s1 _ _ hP)
    refine ⟨(show (12 : Nat) ≤ sizeLine by decide), fun sg nsg => ?_⟩
    refine ⟨(show (13 : Nat) ≤ sizeLine by decide), fun t1 nt1 => ?_⟩
    refine ⟨.ref t1, rfl, (show (3 : Nat) ≤ sizeLine by decide), fun l3 n3 => ?_⟩
    have ua := same_upd (o := .lst (sgs.map V.str)) nsg
    have ub := same_upd (o := .lst ((["", "-", "()", "(", ")", "0()", "(0)", "0(0)", "1(01)", "(00)", "--", "0-", "(1)0"] : List Str).map V.str)) nt1
    have uc := same_upd (o := .lst ((["0(1)(1)", "0\n", "01)"] : List Str).map V.str)) n3
    refine ⟨t1, l3, _, _, rfl, rfl, uc _ _ upd_same, upd_same, (show (16 : Nat) ≤ sizeLine by decide), fun tx ntx => ?_⟩
    have ud := same_upd (o := .lst (txs.map V.str)) ntx
    have hB2 := hB.same ((ua.trans ub).trans uc)
    have hT2 := hT1.ext ((ua.trans ub).trans uc)
    have S0 : T62 b c sg tx (tabL pL) txs _ := ⟨hB2.same ud, hT2.ext ud, ud _ _ (uc _ _ (ub _ _ upd_same)), (hB.ne nsg).1, upd_same, (hB2.ne ntx).1, (hB2.ne ntx).2, ne_of_none (uc _ _ (ub _ _ upd_same)) ntx, txs_len⟩
    refine ⟨5, rfl, by decide, by decide, for_range (lo := 0) (n := 5) (fun i σ H' => ∃ y4 y5 y6 y7 y8 y9 tx ts, σ = [some (.ref a), some (.ref b), some (.ref sg), some (.ref tx), y4, y5, y6, y7, y8, y9, none] ∧ T62 b c sg tx (tabL pL) ts H' ∧ ts.length = 16 + 3 * i) ⟨_, _, _, _, _, _, tx, txs, rfl, S0, rfl⟩ ?_ ?_⟩
    · clear S0 hB2 hT2 hT1 ua ub uc ud hB hS
      rintro i σ H' hi ⟨y4, y5, y6, y7, y8, y9, tx, ts, rfl, S0, hts⟩
      refine ⟨.ref b, rfl, (show (1 : Nat) ≤ sizeLine by decide), fun qa nq => ?_⟩
      have u1 := same_upd (o := .lst [V.int 4]) nq
      have S1 := S0.same u1
      refine ⟨b, c, qa, rfl, S1.bag, upd_same, (S0.ne nq).1, fun H2 p r xs zs off2 hB2 hp hR hx ht nx nt => ?_⟩
      have S2 := S1.off off2 hB2
      refine ⟨p, _, 0, .ref r, rfl, rfl, SqL.of hp, atI_nat (j := 0) rfl, ?_⟩
      obtain ⟨la, ta, h1, h2, h3, _⟩ := id hR
      refine ⟨.ref r, rfl, r, xs, zs, rfl, hR.row, nx, nt, by omega, by omega, fun H3 cs ds s3 hlr => ?_⟩
      have ll := lr_len hlr
      have ln := lr_nt hlr nx nt
      have hsl := rowS_len ln.1 ln.2
      have hW : WR (rowS cs ds) cs ds := WR.of hlr nx nt (by omega) (by omega) rfl
      refine ⟨.ref r, rfl, r, la, ta, xs, zs, rfl, SqT.of (s3 _ _ h1), SqL.of (s3 _ _ h2), SqL.of (s3 _ _ h3), by omega, by omega, fun H4 p4 cs4 ds4 s4 hlr4 hrow4 => ?_⟩
      obtain ⟨rfl, rfl⟩ := LR.det hlr hlr4
      refine ⟨p4, cs, ds, rfl, hrow4, ln.1, ln.2, by omega, by omega, fun H5 s5 => ?_⟩
      refine ⟨.str (rowS cs ds), rfl, rowS cs ds, rfl, by omega, fun cs6 ds6 h6 H6 p6 s6 hrow6 => ?_, fun no => absurd hW (no _ _)⟩
      obtain ⟨rfl, rfl⟩ := hW.det h6
      refine ⟨(show (2 : Nat) ≤ sizeLine by decide), fun l1 n1 => ?_⟩
      have u7 := same_upd (o := .lst [V.str (rowS cs ds), .ref p6]) n1
      have s17 := (((s3.trans s4).trans s5).trans s6).trans u7
      refine ⟨.str (rowS cs ds), rfl, .ref r, rfl, r, la, ta, xs, zs, rfl, SqT.of (s17 _ _ h1), SqL.of (s17 _ _ h2), SqL.of (s17 _ _ h3), by omega, by omega, fun H8 p8 cs8 ds8 s8 hlr8 hrow8 => ?_⟩
      obtain ⟨rfl, rfl⟩ := LR.det hlr hlr8
      refine ⟨(show (2 : Nat) ≤ sizeLine by decide), fun l2 n2 => ?_⟩
      have u9 := same_upd (o := .lst [V.str (rowS cs ds), .ref p8]) n2
      refine ⟨_, _, rfl, lk_dos (n := 7) (SqL.of ((s8.trans u9) _ _ upd_same)) (SqL.of upd_same) (lk_str _) (lk_row (n := 4) (hrow6.same ((u7.trans s8).trans u9)) (hrow8.same u9) (by omega) (by omega)), fun H9 s9 => ⟨_, rfl, iteF ?_⟩⟩
      have S3 := ((S2.same s17).same (s8.trans u9)).same s9
      clear S0 S1 S2 hrow4 hrow6 hrow8 hW h1 h2 h3 hR hp s17 u7 u9 u1 off2 hB2
      refine ⟨.ref b, rfl, .str (rowS cs ds), rfl, .ref sg, rfl, b, c, sg, rowS cs ds, sgs, rfl, S3.bag, S3.sgl, S3.sgb, by decide, by decide, sgs_len, by omega, fun HA z oA hBA hz => ?_⟩
      have S4 := S3.off oA hBA
      refine ⟨.ref tx, rfl, .str z, rfl, .ref b, rfl, .str z, rfl, .ref sg, rfl, b, c, sg, z, sgs, rfl, S4.bag, S4.sgl, S4.sgb, by decide, by decide, sgs_len, by omega, fun HB z2 oB hBB hz2 => ?_⟩
      have S5 := S4.off oB hBB
      refine ⟨(show (2 : Nat) ≤ sizeLine by decide), fun l5 n5 => ?_⟩
      have u5 := same_upd (o := .lst [V.str z, V.str z2]) n5
      have S6 := S5.same u5
      refine ⟨tx, l5, _, _, rfl, rfl, S6.txl, upd_same, small_str (by rw [List.length_map]; show ts.length + 2 ≤ 5000; omega), fun tx2 ntx2 => ?_⟩
      have eapp : ts.map V.str ++ [V.str z, V.str z2] = (ts ++ [z, z2]).map V.str := by
        rw [List.map_append]
        rfl
      rw [eapp]
      have S7 := S6.swap (us := ts ++ [z, z2]) ntx2 (all_app S6.all (all_two (by omega) (by omega)))
      have hl7 : (ts ++ [z, z2]).length = 16 + 3 * i + 2 := by
        rw [List.length_append, hts]
        rfl
      generalize upd (upd HB l5 (.lst [V.str z, V.str z2])) tx2 (.lst ((ts ++ [z, z2]).map V.str)) = HC at S7
      generalize ts ++ [z, z2] = us at S7 hl7
      clear S3 S4 S5 S6 eapp u5 oA oB hBA hBB hts
      refine ⟨.ref tx2, rfl, .inl ⟨rfl, _, SqL.of S7.txl⟩, ⟨_, rfl⟩, .ref b, rfl, b, c, 6, rfl, S7.bag, by decide, by decide, fun HD r oD hBD r0 r1 => ?_⟩
      have S8 := S7.off oD hBD
      obtain ⟨n, rfl⟩ := Int.eq_ofNat_of_zero_le r0
      refine ⟨(n : Int), rfl, by omega, by omega, fun D nD => ?_⟩
      have hst : sg ≠ tx2 := S8.sgt
      have hDb := S8.ne nD
      have hbc := S8.bag.ne nD
      refine lc_range (lo := 0) (n := ((n : Nat) : Int).toNat) (fun j H' => T62 b c sg tx2 (tabL pL) us H' ∧ ∃ zs : List Str, zs.length = j ∧ (∀ z ∈ zs, z.length ≤ 2) ∧ H' D = some (.lst (zs.map V.str)))
        ⟨S8.same (same_upd nD), [], rfl, (fun _ z => nomatch z), upd_same⟩ (fun j H' hj hP => ?_) (fun H' hP => ?_)
      · obtain ⟨S9, zs, hzl, hzs, hD⟩ := hP
        refine ⟨rfl, yesT ⟨.ref b, rfl, .ref sg, rfl, b, c, sg, _, rfl, S9.bag, S9.sgl, S9.sgb, by decide, by decide, fun H5 v off hB5 hv => ?_⟩⟩
        obtain ⟨s, hs, rfl⟩ := List.mem_map.mp hv
        have S10 := S9.off off hB5
        have hD5 := off _ _ hDb.1 hD
        refine ⟨_, hD5, ?_, ?_, zs ++ [s], ?_, ?_, ?_⟩
        · rw [List.length_map]
          exact small1000 (by omega)
        · exact ⟨S10.bag.upd hbc, tabs_upd S10.tabs hD5, by rw [upd_ne (Ne.symm hDb.2.1)]; exact S10.sgl, S10.sgb, by rw [upd_ne (Ne.symm hDb.2.2)]; exact S10.txl, S10.txb, S10.txc, S10.sgt, S10.all⟩
        · rw [List.length_append, hzl]
          rfl
        · intro z hz
          rcases List.mem_append.mp hz with y | y
          · exact hzs z y
          · rw [List.mem_singleton.mp y]
            exact sgs_len s hs
        · rw [upd_same, List.map_append]
          rfl
      · obtain ⟨S9, zs, hzl, hzs, hD⟩ := hP
        have hsum : (zs.map (·.length)).sum + zs.length * ("" : Str).length ≤ 20 := by
          have := sum_le (l := zs.map (·.length)) (m := 2) (fun x hx => by
            obtain ⟨y, hy, rfl⟩ := List.mem_map.mp hx
            exact hzs y hy)
          rw [List.length_map] at this
          rw [emp_len1]
          omega
        have hj := Nat.le_trans (join_len "" zs) hsum
        refine ⟨_, D, zs, rfl, rfl, .inl (SqL.of hD), by omega, tx2, _, _, rfl, rfl, S9.txl, by rw [List.length_map, hl7]; exact small1000 (by omega), ?_⟩
        have eapp : us.map V.str ++ [V.str (Txt.join "" zs)] = (us ++ [Txt.join "" zs]).map V.str := by
          rw [List.map_append]
          rfl
        refine ⟨_, _, _, _, _, _, tx2, us ++ [Txt.join "" zs], rfl, ⟨S9.bag.upd ⟨S9.txb, S9.txc⟩, tabs_upd S9.tabs S9.txl, ?_, S9.sgb, ?_, S9.txb, S9.txc, S9.sgt, all_app S9.all fun t ht => ?_⟩, ?_⟩
        · rw [upd_ne (fun z => hst z)]
          exact S9.sgl
        · rw [upd_same, eapp]
        · rw [List.mem_singleton.mp ht]
          omega
        · rw [List.length_append, hl7]
          show 16 + 3 * i + 2 + 1 = _
          omega
    · clear S0 hB2 hT2 hT1 ua ub uc ud hB hS
      rintro σ H' ⟨y4, y5, y6, y7, y8, y9, tx, ts, rfl, S0, hts⟩
      refine ⟨.ref tx, rfl, .ref b, rfl, b, c, 3, rfl, S0.bag, by decide, by decide, fun H1 r o1 hB1 r0 r1 => ⟨_, _, rfl, rfl, _, _, rfl, rfl, by decide +kernel, by omega, by omega, fun z hz => ?_⟩⟩
      have hzl : z.length ≤ 1000 := by
        have : (("1" : Str).length : Int) = 1 := by decide +kernel
        rw [this] at hz
        omega
      have S1 := S0.off o1 hB1
      refine ⟨.ref b, rfl, (show (3 : Nat) ≤ sizeLine by decide), fun l nl => ?_⟩
      have u1 := same_upd (o := .lst ((["23", "22", "233"] : List Str).map V.str)) nl
      have S2 := S1.same u1
      refine ⟨b, c, l, _, rfl, S2.bag, upd_same, (S1.ne nl).1, (show (0 : Nat) < 3 by decide), (show (3 : Nat) ≤ 1000 by decide), fun H2 v o2 hB2 hv => ?_⟩
      obtain ⟨s, hs, rfl⟩ := List.mem_map.mp (show v ∈ (["23", "22", "233"] : List Str).map V.str from hv)
      have hsl : s.length ≤ 3 := (show ∀ s ∈ (["23", "22", "233"] : List Str), s.length ≤ 3 by decide +kernel) s hs
      have S3 := S2.off o2 hB2
      have e1 : ("(0123012301" : Str).length = 11 := by decide +kernel
      refine ⟨_, _, rfl, rfl, small_str (by rw [e1]; omega), _, _, rfl, rfl, small_str (by rw [str_app_len, e1, par2_len]; omega), ?_⟩
      refine ⟨(show (2 : Nat) ≤ sizeLine by decide), fun l2 n2 => ?_⟩
      have hw : (("(0123012301" : Str) ++ s ++ (")" : Str)).length ≤ 1000 := by
        rw [str_app_len, str_app_len, e1, par2_len]
        omega
      generalize ("(0123012301" : Str) ++ s ++ (")" : Str) = w1 at hw n2
      have u2 := same_upd (o := .lst [V.str z, V.str w1]) n2
      have S4 := S3.same u2
      refine ⟨tx, l2, _, _, rfl, rfl, S4.txl, upd_same, small_str (by rw [List.length_map]; show ts.length + 2 ≤ 5000; omega), fun tx2 ntx2 => ?_⟩
      have eapp : ts.map V.str ++ [V.str z, V.str w1] = (ts ++ [z, w1]).map V.str := by
        rw [List.map_append]
        rfl
      rw [eapp]
      have S5 := S4.swap (us := ts ++ [z, w1]) ntx2 (all_app S4.all (all_two hzl hw))
      have hl5 : (ts ++ [z, w1]).length = 33 := by
        rw [List.length_append, hts]
        rfl
      generalize upd (upd H2 l2 (.lst [V.str z, V.str w1])) tx2 (.lst ((ts ++ [z, w1]).map V.str)) = H3 at S5
      generalize ts ++ [z, w1] = us at S5 hl5
      clear S0 S1 S2 S3 S4 eapp u1 u2 o1 o2 hB1 hB2 hts
      have e0 : (("0" : Str).length : Int) = 1 := by decide +kernel
      have e3 : ("(1)" : Str).length = 3 := by decide +kernel
      refine ⟨.ref tx2, rfl, _, _, rfl, rfl, by decide +kernel, by decide, by decide, fun g1 hg1 => ?_⟩
      rw [e0] at hg1
      refine ⟨_, _, rfl, rfl, small_str (by rw [e3]; omega), _, _, rfl, rfl, by decide +kernel, by decide, by decide, fun g2 hg2 => ?_⟩
      rw [e0] at hg2
      refine ⟨_, _, rfl, rfl, small_str (by rw [e3]; omega), (show (2 : Nat) ≤ sizeLine by decide), fun l3 n3 => ?_⟩
      have k1 : (g1 ++ ("(1)" : Str)).length ≤ 1000 := by
        rw [str_app_len, e3]
        omega
      have k2 : (g2 ++ ("(1)" : Str)).length ≤ 1000 := by
        rw [str_app_len, e3]
        omega
      generalize g1 ++ ("(1)" : Str) = v1 at k1 n3
      generalize g2 ++ ("(1)" : Str) = v2 at k2 n3
      have u3 := same_upd (o := .lst [V.str v1, V.str v2]) n3
      have S6 := S5.same u3
      refine ⟨tx2, l3, _, _, rfl, rfl, S6.txl, upd_same, small_str (by rw [List.length_map]; show us.length + 2 ≤ 5000; omega), fun q0 nq => ?_⟩
      have eapp : us.map V.str ++ [V.str v1, V.str v2] = (us ++ [v1, v2]).map V.str := by
        rw [List.map_append]
        rfl
      rw [eapp]
      have S7 := S6.swap (us := us ++ [v1, v2]) nq (all_app S6.all (all_two k1 k2))
      generalize upd (upd H3 l3 (.lst [V.str v1, V.str v2])) q0 (.lst ((us ++ [v1, v2]).map V.str)) = H4 at S7
      generalize us ++ [v1, v2] = as at S7
      clear S5 S6 eapp u3 hl5
      refine ⟨q0, rfl, ⟨_, SqL.of S7.txl⟩, ?_⟩
      refine for_list (xs := as.map V.str) (fun i σ H' => ∃ y4 y5 y6 y7 y8 y9, σ = [some (.ref a), some (.ref b), some (.ref sg), some (.ref tx2), y4, y5, y6, y7, y8, y9, none] ∧ LamX.Tabs (tabL pL) H' ∧ H' q0 = some (.lst (as.map V.str))) ⟨_, _, _, _, _, _, rfl, S7.tabs, S7.txl⟩ (fun i σ H' _ hP => by obtain ⟨_, _, _, _, _, _, _, _, z⟩ := hP; exact SqL.of z) ?_ ?_
      · rintro i x σ H' hx ⟨y4, y5, y6, y7, y8, y9, rfl, hT, hq0⟩
        obtain ⟨t, ht, rfl⟩ := List.mem_map.mp (List.mem_of_getElem? hx)
        have htl := S7.all t ht
        refine ⟨.str t, rfl, t, rfl, htl, fun cs ds hW H1 p1 s1 hrow => ?_, fun no H1 s1 => ?_⟩
        · refine ⟨hT.ext s1, fun H6 e6 hT6 => ?_⟩
          have hrow6 := rowAt_ext hrow e6
          refine ⟨_, rfl, rfl, _, rfl, iteT ?_⟩
          refine ⟨_, rfl, (show (2 : Nat) ≤ sizeLine by decide), fun p2 n2 => ?_⟩
          have u2 := same_upd (o := .tup [.str "told", .ref p1]) n2
          refine ⟨LamX.ExtN.of u2, fun Q' hQ => ?_⟩
          refine ⟨.str t, rfl, t, rfl, htl, fun cs' ds' hW' H7 p7 s7 hrow7 => ?_, fun no => absurd hW (no _ _)⟩
          obtain ⟨rfl, rfl⟩ := hW.det hW'
          have hc4 := hW.lc
          have hd4 := hW.ld
          refine ⟨(show (2 : Nat) ≤ sizeLine by decide), fun p3 n3 => hQ _ _ ?_⟩
          have u3 := same_upd (o := .tup [.str "told", .ref p7]) n3
          refine ⟨_, _, rfl, lk_two (z := "told") (SqT.of upd_same) (Same.tup (s7.trans u3) (SqT.of upd_same)) (lk_row (n := 4) (hrow7.same u3) (hrow6.same ((u2.trans s7).trans u3)) (by omega) (by omega)), fun H9 s9 => ⟨_, rfl, iteF ?_⟩⟩
          have st := ((u2.trans s7).trans u3).trans s9
          exact ⟨_, _, _, _, _, _, rfl, hT6.ext st, st _ _ (e6 _ _ (s1 _ _ hq0) (fun _ z => nomatch z))⟩
        · refine ⟨hT.ext s1, fun H6 e6 hT6 => ?_⟩
          refine ⟨_, rfl, rfl, _, rfl, iteF ?_⟩
          refine ⟨(show (2 : Nat) ≤ sizeLine by decide), fun p2 n2 => ?_⟩
          have u2 := same_upd (o := .tup [.str "BadText", V.int 0]) n2
          refine ⟨LamX.ExtN.of u2, fun Q' hQ => ?_⟩
          refine ⟨.str t, rfl, t, rfl, htl, fun cs' ds' hW' => absurd hW' (no _ _), fun _ d H8 s8 hd => ?_⟩
          refine ⟨22, [.int 0], d, by decide, rfl, rfl, rfl, hd, fun p3 n3 => hQ _ _ ?_⟩
          have u3 := same_upd (o := .tup [.str (rNm 22), V.int 0]) n3
          refine ⟨_, _, rfl, lk_two (z := "BadText") (SqT.of upd_same) (Same.tup (s8.trans u3) (SqT.of upd_same)) (lk_int 0), fun H9 s9 => ⟨_, rfl, iteF ?_⟩⟩
          have st := ((u2.trans s8).trans u3).trans s9
          exact ⟨_, _, _, _, _, _, rfl, hT6.ext st, st _ _ (e6 _ _ (s1 _ _ hq0) (fun _ z => nomatch z))⟩
      · rintro σ H' ⟨y4, y5, y6, y7, y8, y9, rfl, hT, hq0⟩
        exact q _
end
theorem exk_BadText {P : Program} {w : World} {K : PySem.W.Frag} {mg : Str → Option Value} {base : Heap} {fd fdb : FuncData} (L : LeafK K "BadText" "TearError" ["at"]) (F : Fun K "__init__" "BadText.__init__" sI_BadText (He.ma K (He.ga K "BadText") "__init__") fd)
    (Fb : FunD K "__init__" "TearError.__init__" (defArgs sI_TearError) (defBody sI_TearError) (defScope sI_TearError) [.str "TearError"] [] (He.ma K (He.ga K "TearError") "__init__") fdb) (mX : mg "BadText" = some (.ref (He.ga K "BadText"))) (mb : mg "TearError" = some (.ref (He.ga K "TearError"))) {j : Nat} (hj : 2 ≤ j) :
    ExcK P w K mg base j "BadText" (He.ga K "BadText") 1 (fun ws => [("at", ws.getD 0 .non), ("word", .str "BadText")]) := by
  obtain ⟨ds, vd, bb⟩ := Fb.binds1 (ps := ["self", "word"]) 2 1 (List.cons_ne_nil _ _) rfl (fun T kV doc pm an cdv ct us its l1 l2 => match us, its, l1, l2 with | [_, _], [_], _, _ => ⟨_, rfl, rfl⟩)
  have ed : ds = [] := List.eq_nil_of_length_eq_zero vd.length.symm
  subst ed
  have GB : FnOk P w K mg base CX0 1 _ _ ["self", "word"] (spBase K) := okI_TearError (k := 0) Fb
  have bX := F.binds (ps := ["self", "at"]) fun _ _ _ _ _ _ us hl => match us, hl with | [_, _], _ => rfl
  have GX := okI_BadText (k := 1) F L.T (L.n "word" (List.mem_cons_self ..)) (L.n "at" (List.mem_cons_of_mem _ (List.mem_cons_self ..))) L.B GB bb mb
  exact ⟨L.T, mX, _, _, _, L.i, L.t, GX.mono hj, bX⟩
/-! ### the head by facts; the end -/
def hFa : List He.Fa := rNms.map He.Fa.glo ++ (([.glo "least_row", .glo "shortest_round", .glo "repeats", .glo "spare_notes", .glo "row_text", .glo "read_row", .glo "notes_text", .glo "read_notes", .glo "_law_bag", .glo "_law_pull", .glo "_law_rows", .glo "_law_seen"] : List He.Fa) ++ ([.glo "_law_least", .glo "_law_row_said", .glo "_law_like", .glo "_law_of", .glo "_law_bent_text", .glo "_law_row_written", .glo "_law_tried", .glo "_law_is", .glo "law", .glo "TearError", .glo "BadText", .free "len"] : List He.Fa) ++ ([.free "list", .free "tuple", .free "range", .free "min", .free "max", .free "isinstance", .free "all", .free "any", .free "bool", .free "int", .free "str", .int "MOST_LEAD" 400] : List He.Fa) ++ ([.int "MOST_ROUND" 12, .str "NO_NOTES" "-"] : List He.Fa))
def hFn : List He.DefD := ([dOf ("least_row", none) "least_row" "least_row" sLR [] [], dOf ("shortest_round", none) "shortest_round" "shortest_round" sShort [] [], dOf ("repeats", none) "repeats" "repeats" sReps [] [], dOf ("spare_notes", none) "spare_notes" "spare_notes" sSpare [] [], dOf ("row_text", none) "row_text" "row_text" sRT [] [], dOf ("read_row", none) "read_row" "read_row" sRR [] [], dOf ("notes_text", none) "notes_text" "notes_text" sNT [] [], dOf ("read_notes", none) "read_notes" "read_notes" sRN [] [], dOf ("_law_bag", none) "_law_bag" "_law_bag" sBag [] [], dOf ("_law_pull", none) "_law_pull" "_law_pull" sPull [] [], dOf ("_law_rows", none) "_law_rows" "_law_rows" sRows [] [], dOf ("_law_seen", none) "_law_seen" "_law_seen" sSeen [] []] : List He.DefD) ++ ([dOf ("_law_least", none) "_law_least" "_law_least" sLst [] [], dOf ("_law_row_said", none) "_law_row_said" "_law_row_said" sRS [] [], dOf ("_law_like", none) "_law_like" "_law_like" sLike [] [], dOf ("_law_of", none) "_law_of" "_law_of" sOf [] [], dOf ("_law_bent_text", none) "_law_bent_text" "_law_bent_text" sBT [] [], dOf ("_law_row_written", none) "_law_row_written" "_law_row_written" sRW [] [], dOf ("_law_tried", none) "_law_tried" "_law_tried" sTried [] [], dOf ("_law_is", none) "_law_is" "_law_is" sIs [] [], dOf ("law", none) "law" "law" sLaw [] [], dOf ("TearError", some "__init__") "__init__" "TearError.__init__" sI_TearError [.str "TearError"] [], dOf ("BadText", some "__init__") "__init__" "BadText.__init__" sI_BadText [] []] : List He.DefD)
def hEx (K : PySem.W.Frag) : Bool := refsB K && (leafB K "BadText" "TearError" "ValueError" "ValueError.__new__" ["at"])
def hTf : List He.Defn := [("law", none)]
def hNames : List PySem.Str := (["TearError", "BadColours", "BadFigure", "Meeting", "TooMany", "TooFar", "BadOrder", "OtherColours", "OtherBook", "BadRow", "BadNote", "BadBeneath"] : List PySem.Str) ++ (["Full", "NoEnd", "NotStanding", "NeverClear", "BadDeed", "BadNumber", "NoBeginning", "Barred", "BadHeights", "BadWeights", "NoMean", "BadText"] : List PySem.Str) ++ (["Missing", "NoPad", "NoFigure", "NoNote", "Stuck", "NothingBack", "NothingAgain", "MOST_LEAD", "MOST_ROUND", "least_row", "shortest_round", "repeats"] : List PySem.Str) ++ (["spare_notes", "NO_NOTES", "row_text", "read_row", "notes_text", "read_notes", "_law_bag", "_law_pull", "_law_rows", "_law_seen", "_law_least", "_law_row_said"] : List PySem.Str) ++ (["_law_like", "_law_of", "_law_bent_text", "_law_row_written", "_law_tried", "_law_is"] : List PySem.Str)
abbrev hR : PySem.W.OpenRow := PySem.W.OpenLaw.row PySem.Challenge.rw_tearboard_k62_rows_as_texts
abbrev hK : PySem.W.Hook := hookS 5 hFa hFn hTf hEx
def hOb (s : PySem.W.SharedT) : He.AlX := lookS 5 hFa hFn hTf hEx (HandSHeadRun.getT s)
theorem hOb_eq (s : PySem.W.SharedT) : hOb s = hK.obs s.abs := lookS_eq s
theorem hFacts {l : PySem.W.OpenLaw} {w : World} {K : PySem.W.Frag} {h : Heap} {mg : Str → Option Value} {fa0 : Addr} (X : K.In h) (G : h.Ns mainGlobals mg) (hfa : mg "law" = some (.ref fa0)) (c : He.SaysX hFa hFn [] hTf hEx w h K) : LamX.LawAtS l w K CX0 10 63 "_law_script" mg fa0 h := by
  have cd := c.t.d
  have mo0 := c.more
  obtain ⟨x0, mo1⟩ := He.ba mo0
  have x1 := mo1
  have RT := refsB_ok X G cd x0
  obtain ⟨fdR, FR0⟩ := cd.def_ 0 (d := dOf ("least_row", none) "least_row" "least_row" sLR [] []) rfl
  have FR : Fun K "least_row" "least_row" sLR (He.ga K "least_row") fdR := funOf FR0
  have gR : mg "least_row" = some (.ref (He.ga K "least_row")) := He.glo_ok X G (cd.fact 28 (f := .glo "least_row") rfl)
  have bR := FR.binds (ps := ["lead", "turn"]) fun _ _ _ _ _ _ us hl => match us, hl with | [_, _], _ => rfl
  obtain ⟨fdS, FS0⟩ := cd.def_ 1 (d := dOf ("shortest_round", none) "shortest_round" "shortest_round" sShort [] []) rfl
  have FS : Fun K "shortest_round" "shortest_round" sShort (He.ga K "shortest_round") fdS := funOf FS0
  have gS : mg "shortest_round" = some (.ref (He.ga K "shortest_round")) := He.glo_ok X G (cd.fact 29 (f := .glo "shortest_round") rfl)
  have bS := FS.binds (ps := ["turn"]) fun _ _ _ _ _ _ us hl => match us, hl with | [_], _ => rfl
  obtain ⟨fdQ, FQ0⟩ := cd.def_ 2 (d := dOf ("repeats", none) "repeats" "repeats" sReps [] []) rfl
  have FQ : Fun K "repeats" "repeats" sReps (He.ga K "repeats") fdQ := funOf FQ0
  have gQ : mg "repeats" = some (.ref (He.ga K "repeats")) := He.glo_ok X G (cd.fact 30 (f := .glo "repeats") rfl)
  have bQ := FQ.binds (ps := ["turn", "size"]) fun _ _ _ _ _ _ us hl => match us, hl with | [_, _], _ => rfl
  obtain ⟨fdV, FV0⟩ := cd.def_ 3 (d := dOf ("spare_notes", none) "spare_notes" "spare_notes" sSpare [] []) rfl
  have FV : Fun K "spare_notes" "spare_notes" sSpare (He.ga K "spare_notes") fdV := funOf FV0
  have gV : mg "spare_notes" = some (.ref (He.ga K "spare_notes")) := He.glo_ok X G (cd.fact 31 (f := .glo "spare_notes") rfl)
  have bV := FV.binds (ps := ["lead", "turn"]) fun _ _ _ _ _ _ us hl => match us, hl with | [_, _], _ => rfl
  obtain ⟨fdRT, FRT0⟩ := cd.def_ 4 (d := dOf ("row_text", none) "row_text" "row_text" sRT [] []) rfl
  have FRT : Fun K "row_text" "row_text" sRT (He.ga K "row_text") fdRT := funOf FRT0
  have gRT : mg "row_text" = some (.ref (He.ga K "row_text")) := He.glo_ok X G (cd.fact 32 (f := .glo "row_text") rfl)
  have bRT := FRT.binds (ps := ["row"]) fun _ _ _ _ _ _ us hl => match us, hl with | [_], _ => rfl
  obtain ⟨fdRR, FRR0⟩ := cd.def_ 5 (d := dOf ("read_row", none) "read_row" "read_row" sRR [] []) rfl
  have FRR : Fun K "read_row" "read_row" sRR (He.ga K "read_row") fdRR := funOf FRR0
  have gRR : mg "read_row" = some (.ref (He.ga K "read_row")) := He.glo_ok X G (cd.fact 33 (f := .glo "read_row") rfl)
  have bRR := FRR.binds (ps := ["text"]) fun _ _ _ _ _ _ us hl => match us, hl with | [_], _ => rfl
  obtain ⟨fdNT, FNT0⟩ := cd.def_ 6 (d := dOf ("notes_text", none) "notes_text" "notes_text" sNT [] []) rfl
  have FNT : Fun K "notes_text" "notes_text" sNT (He.ga K "notes_text") fdNT := funOf FNT0
  have gNT : mg "notes_text" = some (.ref (He.ga K "notes_text")) := He.glo_ok X G (cd.fact 34 (f := .glo "notes_text") rfl)
  have bNT := FNT.binds (ps := ["notes"]) fun _ _ _ _ _ _ us hl => match us, hl with | [_], _ => rfl
  obtain ⟨fdRN, FRN0⟩ := cd.def_ 7 (d := dOf ("read_notes", none) "read_notes" "read_notes" sRN [] []) rfl
  have FRN : Fun K "read_notes" "read_notes" sRN (He.ga K "read_notes") fdRN := funOf FRN0
  have gRN : mg "read_notes" = some (.ref (He.ga K "read_notes")) := He.glo_ok X G (cd.fact 35 (f := .glo "read_notes") rfl)
  have bRN := FRN.binds (ps := ["text"]) fun _ _ _ _ _ _ us hl => match us, hl with | [_], _ => rfl
  obtain ⟨fdB, FB0⟩ := cd.def_ 8 (d := dOf ("_law_bag", none) "_law_bag" "_law_bag" sBag [] []) rfl
  have FB : Fun K "_law_bag" "_law_bag" sBag (He.ga K "_law_bag") fdB := funOf FB0
  have gB : mg "_law_bag" = some (.ref (He.ga K "_law_bag")) := He.glo_ok X G (cd.fact 36 (f := .glo "_law_bag") rfl)
  have bB := FB.binds (ps := ["_law_script"]) fun _ _ _ _ _ _ us hl => match us, hl with | [_], _ => rfl
  obtain ⟨fdP, FP0⟩ := cd.def_ 9 (d := dOf ("_law_pull", none) "_law_pull" "_law_pull" sPull [] []) rfl
  have FP : Fun K "_law_pull" "_law_pull" sPull (He.ga K "_law_pull") fdP := funOf FP0
  have gP : mg "_law_pull" = some (.ref (He.ga K "_law_pull")) := He.glo_ok X G (cd.fact 37 (f := .glo "_law_pull") rfl)
  have bP := FP.binds (ps := ["_law_bag_here", "_law_size"]) fun _ _ _ _ _ _ us hl => match us, hl with | [_, _], _ => rfl
  obtain ⟨fdRw, FRw0⟩ := cd.def_ 10 (d := dOf ("_law_rows", none) "_law_rows" "_law_rows" sRows [] []) rfl
  have FRw : Fun K "_law_rows" "_law_rows" sRows (He.ga K "_law_rows") fdRw := funOf FRw0
  have gRw : mg "_law_rows" = some (.ref (He.ga K "_law_rows")) := He.glo_ok X G (cd.fact 38 (f := .glo "_law_rows") rfl)
  have bRw := FRw.binds (ps := ["_law_bag_here", "_law_colours", "_law_most", "_law_ever"]) fun _ _ _ _ _ _ us hl => match us, hl with | [_, _, _, _], _ => rfl
  obtain ⟨fdD, FD0⟩ := cd.def_ 11 (d := dOf ("_law_seen", none) "_law_seen" "_law_seen" sSeen [] []) rfl
  have FD : Fun K "_law_seen" "_law_seen" sSeen (He.ga K "_law_seen") fdD := funOf FD0
  have gD : mg "_law_seen" = some (.ref (He.ga K "_law_seen")) := He.glo_ok X G (cd.fact 39 (f := .glo "_law_seen") rfl)
  have bD := FD.binds (ps := ["_law_row", "_law_depth"]) fun _ _ _ _ _ _ us hl => match us, hl with | [_, _], _ => rfl
  obtain ⟨fdL, FL0⟩ := cd.def_ 12 (d := dOf ("_law_least", none) "_law_least" "_law_least" sLst [] []) rfl
  have FL : Fun K "_law_least" "_law_least" sLst (He.ga K "_law_least") fdL := funOf FL0
  have gL : mg "_law_least" = some (.ref (He.ga K "_law_least")) := He.glo_ok X G (cd.fact 40 (f := .glo "_law_least") rfl)
  have bL := FL.binds (ps := ["_law_row"]) fun _ _ _ _ _ _ us hl => match us, hl with | [_], _ => rfl
  obtain ⟨fdRS, FRS0⟩ := cd.def_ 13 (d := dOf ("_law_row_said", none) "_law_row_said" "_law_row_said" sRS [] []) rfl
  have FRS : Fun K "_law_row_said" "_law_row_said" sRS (He.ga K "_law_row_said") fdRS := funOf FRS0
  have gRS : mg "_law_row_said" = some (.ref (He.ga K "_law_row_said")) := He.glo_ok X G (cd.fact 41 (f := .glo "_law_row_said") rfl)
  have bRS := FRS.binds (ps := ["_law_row"]) fun _ _ _ _ _ _ us hl => match us, hl with | [_], _ => rfl
  obtain ⟨fdK, FK0⟩ := cd.def_ 14 (d := dOf ("_law_like", none) "_law_like" "_law_like" sLike [] []) rfl
  have FK : Fun K "_law_like" "_law_like" sLike (He.ga K "_law_like") fdK := funOf FK0
  have gK : mg "_law_like" = some (.ref (He.ga K "_law_like")) := He.glo_ok X G (cd.fact 42 (f := .glo "_law_like") rfl)
  have bK := FK.binds (ps := ["_law_one", "_law_due"]) fun _ _ _ _ _ _ us hl => match us, hl with | [_, _], _ => rfl
  obtain ⟨fdO, FO0⟩ := cd.def_ 15 (d := dOf ("_law_of", none) "_law_of" "_law_of" sOf [] []) rfl
  have FO : Fun K "_law_of" "_law_of" sOf (He.ga K "_law_of") fdO := funOf FO0
  have gO : mg "_law_of" = some (.ref (He.ga K "_law_of")) := He.glo_ok X G (cd.fact 43 (f := .glo "_law_of") rfl)
  have bO := FO.binds (ps := ["_law_bag_here", "_law_things"]) fun _ _ _ _ _ _ us hl => match us, hl with | [_, _], _ => rfl
  obtain ⟨fdBT, FBT0⟩ := cd.def_ 16 (d := dOf ("_law_bent_text", none) "_law_bent_text" "_law_bent_text" sBT [] []) rfl
  have FBT : Fun K "_law_bent_text" "_law_bent_text" sBT (He.ga K "_law_bent_text") fdBT := funOf FBT0
  have gBT : mg "_law_bent_text" = some (.ref (He.ga K "_law_bent_text")) := He.glo_ok X G (cd.fact 44 (f := .glo "_law_bent_text") rfl)
  have bBT := FBT.binds (ps := ["_law_bag_here", "_law_text", "_law_signs"]) fun _ _ _ _ _ _ us hl => match us, hl with | [_, _, _], _ => rfl
  obtain ⟨fdWr, FWr0⟩ := cd.def_ 17 (d := dOf ("_law_row_written", none) "_law_row_written" "_law_row_written" sRW [] []) rfl
  have FWr : Fun K "_law_row_written" "_law_row_written" sRW (He.ga K "_law_row_written") fdWr := funOf FWr0
  have gWr : mg "_law_row_written" = some (.ref (He.ga K "_law_row_written")) := He.glo_ok X G (cd.fact 45 (f := .glo "_law_row_written") rfl)
  have bWr := FWr.binds (ps := ["_law_text"]) fun _ _ _ _ _ _ us hl => match us, hl with | [_], _ => rfl
  obtain ⟨fdT, FT0⟩ := cd.def_ 18 (d := dOf ("_law_tried", none) "_law_tried" "_law_tried" sTried [] []) rfl
  have FT : Fun K "_law_tried" "_law_tried" sTried (He.ga K "_law_tried") fdT := funOf FT0
  have gT : mg "_law_tried" = some (.ref (He.ga K "_law_tried")) := He.glo_ok X G (cd.fact 46 (f := .glo "_law_tried") rfl)
  have bT := FT.binds (ps := ["_law_act"]) fun _ _ _ _ _ _ us hl => match us, hl with | [_], _ => rfl
  obtain ⟨fdI, FI0⟩ := cd.def_ 19 (d := dOf ("_law_is", none) "_law_is" "_law_is" sIs [] []) rfl
  have FI : Fun K "_law_is" "_law_is" sIs (He.ga K "_law_is") fdI := funOf FI0
  have gI : mg "_law_is" = some (.ref (He.ga K "_law_is")) := He.glo_ok X G (cd.fact 47 (f := .glo "_law_is") rfl)
  have bI := FI.binds (ps := ["_law_act", "_law_due"]) fun _ _ _ _ _ _ us hl => match us, hl with | [_, _], _ => rfl
  obtain ⟨fdW, FW0⟩ := cd.def_ 20 (d := dOf ("law", none) "law" "law" sLaw [] []) rfl
  have FW : Fun K "law" "law" sLaw (He.ga K "law") fdW := funOf FW0
  have gW : mg "law" = some (.ref (He.ga K "law")) := He.glo_ok X G (cd.fact 48 (f := .glo "law") rfl)
  obtain ⟨fdb_TearError, Fb_TearError⟩ := cd.def_ 21 (d := dOf ("TearError", some "__init__") "__init__" "TearError.__init__" sI_TearError [.str "TearError"] []) rfl
  have mb_TearError : mg "TearError" = some (.ref (He.ga K "TearError")) := He.glo_ok X G (cd.fact 49 (f := .glo "TearError") rfl)
  obtain ⟨fdx_BadText, Fx_BadText⟩ := cd.def_ 22 (d := dOf ("BadText", some "__init__") "__init__" "BadText.__init__" sI_BadText [] []) rfl
  have mx_BadText : mg "BadText" = some (.ref (He.ga K "BadText")) := He.glo_ok X G (cd.fact 50 (f := .glo "BadText") rfl)
  have R_BadText : ∀ (base : Heap) (j : Nat), 2 ≤ j → ExcK l.prog w K mg base j "BadText" (He.ga K "BadText") 1 (fun ws => [("at", ws.getD 0 .non), ("word", .str "BadText")]) := fun base j hj => exk_BadText (leafV x1) (funOf Fx_BadText) Fb_TearError mx_BadText mb_TearError hj
  have m_len : mg "len" = none := He.free_ok X G (cd.fact 51 (f := .free "len") rfl)
  have m_list : mg "list" = none := He.free_ok X G (cd.fact 52 (f := .free "list") rfl)
  have m_tuple : mg "tuple" = none := He.free_ok X G (cd.fact 53 (f := .free "tuple") rfl)
  have m_range : mg "range" = none := He.free_ok X G (cd.fact 54 (f := .free "range") rfl)
  have m_min : mg "min" = none := He.free_ok X G (cd.fact 55 (f := .free "min") rfl)
  have m_max : mg "max" = none := He.free_ok X G (cd.fact 56 (f := .free "max") rfl)
  have m_isinstance : mg "isinstance" = none := He.free_ok X G (cd.fact 57 (f := .free "isinstance") rfl)
  have m_all : mg "all" = none := He.free_ok X G (cd.fact 58 (f := .free "all") rfl)
  have m_any : mg "any" = none := He.free_ok X G (cd.fact 59 (f := .free "any") rfl)
  have m_bool : mg "bool" = none := He.free_ok X G (cd.fact 60 (f := .free "bool") rfl)
  have m_int : mg "int" = none := He.free_ok X G (cd.fact 61 (f := .free "int") rfl)
  have m_str : mg "str" = none := He.free_ok X G (cd.fact 62 (f := .free "str") rfl)
  obtain ⟨tk1, w_1⟩ := He.int_ok X G (cd.fact 63 (f := .int "MOST_LEAD" 400) rfl)
  obtain ⟨tk2, w_2⟩ := He.int_ok X G (cd.fact 64 (f := .int "MOST_ROUND" 12) rfl)
  obtain ⟨tk3, w_3⟩ := He.str_ok X G (cd.fact 65 (f := .str "NO_NOTES" "-") rfl)
  have e := hfa.symm.trans gW
  cases e
  obtain ⟨ocW, odW, kVW, dcW, pmW, anW, cdW, ctW, slW, eW, lW, cW⟩ := FW.ex
  subst eW
  obtain ⟨cLw, rfl⟩ := He.codeIn_ref cW
  have eC0 : He.codeOf K (("law", none) : He.Defn) = cLw := He.codeOf_eq (p := ("law", none)) lW rfl
  have hm0 : (("law", none) : He.Defn) ∈ hTf := List.mem_singleton.mpr rfl
  have hd0 := c.hd _ hm0
  have ho0 := c.out _ hm0
  have he0 := c.empty _ hm0
  have e10 : (He.cT K (("law", none) : He.Defn)).1 = cLw := eC0
  generalize hp0 : (He.cT K (("law", none) : He.Defn)).2 = pLw at hd0 ho0 he0
  rw [e10] at hd0
  refine ⟨PySem.W.fnOf "law" "law" (defArgs sLaw) (defBody sLaw) (defScope sLaw) .none kVW dcW pmW anW (.ref cLw) ctW, [(cLw, pLw)], spLaw K pLw, fun p hp => ?_, fun p hp => ?_, fun p hp => ?_, fun s u => .of_eq rfl, fun H a ns h1 h2 h3 h4 => ?_, fun base hK hN hTB => ?_⟩
  · rw [List.mem_singleton.mp hp]
    exact he0
  · rw [List.mem_singleton.mp hp]
    exact ho0
  · rw [List.mem_singleton.mp hp]
    exact PySem.W.codeHd_of_K X hd0
  · exact ⟨a, ns, rfl, h4, h1, h3 (cLw, pLw) (List.mem_singleton.mpr rfl), fun _ => rfl⟩
  have tb : LamX.TabB base mg cLw pLw := hTB (cLw, pLw) (List.mem_singleton.mpr rfl)
  have M : LkG mg := ⟨m_isinstance, m_tuple, m_list, m_len, m_all, m_range, m_bool, m_int, m_str⟩
  have GS : FnOk l.prog w K mg base CX0 4 _ _ ["turn"] (spShort K) := ok_short (k := 2) FS m_len m_range m_min FQ bQ gQ
  have GR : FnOk l.prog w K mg base CX0 5 _ _ ["lead", "turn"] (spLR K) := ok_LR (k := 2) FR m_len m_tuple FS bS gS FV bV gV GS
  have GNT : FnOk l.prog w K mg base CX0 4 _ _ ["notes"] (spNT K) := ok_nt (k := 3) FNT m_str
  have GRT : FnOk l.prog w K mg base CX0 5 _ _ ["row"] (spRT K) := ok_rt (k := 4) FRT m_len w_3 FNT bNT gNT GNT
  have GRN : FnOk l.prog w K mg base (L2.CX l.prog w) 5 _ _ ["text"] (spRN K (He.ga K "BadText")) := ok_rn (k := 3) FRN m_all m_tuple m_int (R_BadText base 3 (by decide))
  have GRR : FnOk l.prog w K mg base (L2.CX l.prog w) 6 _ _ ["text"] (spRR K (He.ga K "BadText")) := ok_rr (k := 3) FRR m_len w_3 w_1 w_2 FRN bRN gRN GRN FRT bRT gRT GRT FR bR gR GR (R_BadText base 4 (by decide))
  have GP (k : Nat) : FnOk l.prog w K mg base CX0 (k + 1) _ _ ["_law_bag_here", "_law_size"] spPull := ok_pull (k := k) FP m_len
  have GO (k : Nat) : FnOk l.prog w K mg base CX0 (k + 2) _ _ ["_law_bag_here", "_law_things"] spOf := ok_of (k := k) FO m_len FP bP gP
  have GL : FnOk l.prog w K mg base CX0 8 _ _ ["_law_row"] (spLst K) := (ok_lst (k := 3) FL m_len m_tuple m_range FD bD gD).mono (by decide)
  have GRS : FnOk l.prog w K mg base CX0 8 _ _ ["_law_row"] (spRS K) := ok_rs (k := 7) FRS m_str FL bL gL ((ok_lst (k := 3) FL m_len m_tuple m_range FD bD gD).mono (by decide))
  have GWr : FnOk l.prog w K mg base CX0 9 _ _ ["_law_text"] (spRW K) := ok_rwr (k := 8) FWr m_len m_any m_int FL bL gL GL FRS bRS gRS GRS
  exact ok_law62 (cm := fun i => (rNms.map (He.ga K)).getD i 0) lW cW tb FB bB gB (ok_bag (k := 8) FB m_len m_list) FP bP gP (GP 8) FO bO gO (GO 7) FRw bRw gRw (ok_rows (k := 8) FRw m_range FP bP gP (GP 7)) FRS bRS gRS (GRS.mono (by decide)) FBT bBT gBT (ok_bt (k := 8) FBT m_len FP bP gP (GP 7) FO bO gO (GO 6)) FWr bWr gWr GWr
    FL bL gL (GL.mono (by decide)) FRT bRT gRT (GRT.mono (by decide)) FRR bRR gRR GRR FI bI gI FT bT gT FK bK gK (ok_like FK bK gK M 8) RT m_range m_len
theorem hRunA (w : World) (os : OsState) : (HandSHeadRun.endF (HandSHeadRun.stepQ (HandSHeadRun.denQ HandSHeadRun.tabQ) hR.prog w) 20000 hR.prog w os).map (fun s => HandSHeadRun.looksF hR.prog (PySem.W.boot_heap w.params) s.abs) = some true := by
  kernel_rfl
theorem hRunB (w : World) (os : OsState) : (HandSHeadRun.endF (HandSHeadRun.stepQ (HandSHeadRun.denQ HandSHeadRun.tabQ) hR.prog w) 20000 hR.prog w os).map (fun s => HandSHeadRun.seenQ (PySem.W.view hR.prog [58]) hNames (importedModules hR.prog.main.body) (fun s => PySem.W.xlAt (PySem.W.view hR.prog [58]) [] s && PySem.W.recOk hR.toRowW.records s) s.abs) = some (PySem.W.openGood (PySem.W.view hR.prog [58]) hNames) := by
  kernel_rfl
theorem hRunC (w : World) (os : OsState) : (HandSHeadRun.endF (HandSHeadRun.stepQ (HandSHeadRun.denQ HandSHeadRun.tabQ) hR.prog w) 20000 hR.prog w os).map (fun s => (hOb s).1) = some (He.valX hFn [] w).1 := by
  kernel_rfl
theorem hRunD (w : World) (os : OsState) : (HandSHeadRun.endF (HandSHeadRun.stepQ (HandSHeadRun.denQ HandSHeadRun.tabQ) hR.prog w) 20000 hR.prog w os).map (fun s => (hOb s).2) = some true := by
  kernel_rfl
theorem map_four {α β γ δ ε : Type} {o : Option α} {f : α → β} {g : α → γ} {h : α → δ × ε} {x : β} {y : γ} {z : δ} {u : ε} (a : o.map f = some x) (b : o.map g = some y) (c : o.map (fun s => (h s).1) = some z) (d : o.map (fun s => (h s).2) = some u) : o.map (fun s => (f s, g s, h s)) = some (x, y, z, u) := by
  cases o with
  | none => cases a
  | some s =>
    have a := Option.some.inj a
    have b := Option.some.inj b
    have c := Option.some.inj c
    have d := Option.some.inj d
    dsimp only at a b c d
    show some (f s, g s, h s) = _
    rw [a, b, show h s = (z, u) from Prod.ext c d]
theorem hRun (w : World) : HandSHeadRun.RunEq hR (PySem.W.view hR.prog [58]) hK hOb 20000 hNames w := fun os => map_four (hRunA w os) (hRunB w os) (hRunC w os) (hRunD w os)
end TB
open PySem PySem.W PySem.Calls PyProof.Rows
set_option maxHeartbeats 0 in
theorem PySem.Challenge.cw_tearboard_k62_rows_as_texts_holds : PySem.Challenge.rw_tearboard_k62_rows_as_texts.Holds := by
  w_on; o_law
  refine HandSHeadRun.head_any (r := OpenLaw.row PySem.Challenge.rw_tearboard_k62_rows_as_texts) (q := view (OpenLaw.row PySem.Challenge.rw_tearboard_k62_rows_as_texts).prog [58]) (H := TB.hK) (ob := TB.hOb) (M := 20000) (loose := TB.hNames) (d := HandSHeadRun.topDef (OpenLaw.row PySem.Challenge.rw_tearboard_k62_rows_as_texts).prog 58) (kwd := []) TB.hOb_eq
    (by kernel_rfl) (fun s => by kernel_rfl) TB.hRun (by kernel_rfl) (by kernel_rfl) (by kernel_rfl) (by rfl) (by first | assumption | decide +kernel) (by decide +kernel) ⟨rfl, rfl, rfl, rfl, rfl, by decide +kernel⟩ ?hw ?hc
  case hw => w_witness2
  case hc =>
    refine LamX.walk_ofTsE (l := PySem.Challenge.rw_tearboard_k62_rows_as_texts) (n := 63) (k := 10) (x := "_law_script") (CX := fun _ => L2.CX0) rfl (by decide) (by kernel_rfl) ⟨rfl, by decide, by decide⟩ ?F (fun _ _ _ _ _ z => z)
    intro w mg fa h Y G hmg0
    obtain ⟨K, KX, c⟩ := Y
    have hmg : mg ("law" : PySem.Str) = some (.ref fa) := by
      have e : (HandSHeadRun.topDef (OpenLaw.row PySem.Challenge.rw_tearboard_k62_rows_as_texts).prog 58).name = ("law" : PySem.Str) := by kernel_rfl
      rw [← e]
      exact hmg0
    exact ⟨K, KX, TB.hFacts KX G hmg c⟩
