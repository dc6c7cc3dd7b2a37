import PyProof.Rows.All
import Wide.All
import OpenK.AllK
import Wide.FinOn
import HandS.ForMost
import HandS.ForExc
import HandS.Head2
import HandS.HeadEnd
import HandS.HeadHook2
import HandS.ExcInit
import HandS.ExcField
import HandS.ExcIs
import HandS.ExcValue
import HandS.IsInst
import HandS.Defaults
import HandS.Flow
import KE.KExcInit
import KE.KExcIs
import KE.KTryMore
import HandS.MakeKw
import PySem.Challenge.RW_pathbook_k02_refusals_by_hand
set_option Elab.async false
set_option linter.all false
set_option maxRecDepth 100000
set_option maxHeartbeats 0
namespace Pb
open PySem PySem.Spec PyProof.Rows L2
theorem dv (j : Int) (h : 0 < j := by decide) : 0 < j := h
theorem same_upd {H : Hp} {p : Addr} {o : HO} (h : H p = none) : Same H (upd H p o) := fun b x e => by
  rw [upd_ne (ne_of_none e h)]
  exact e
/-! ### two lists put together, the left one perhaps only to be read -/
section
variable {X : Cx}
def rCatS (K : PySem.W.Frag) : R2 := fun x y H Q => ∃ l b xs zs, x = .ref l ∧ y = .ref b ∧ SqL K H l xs ∧ SqL K H b zs ∧ xs.length + zs.length ≤ sizeLine ∧
  ∀ p, H p = none → Q (.ref p) (upd H p (.lst (xs ++ zs)))
theorem op_catS : OpR X (binaryOp .Add) (rCatS X.K) := by
  intro pins s σ H x y v u Q I rx ry hyp
  obtain ⟨l, b, xs, zs, ex, ey, hL, hB, hz, q⟩ := hyp
  subst ex ey
  cases rx; cases ry
  obtain ⟨i1, r1, ⟨o1, n1, g1, c1, d1, e1⟩, s1⟩ := I.list hL
  obtain ⟨i2, r2, ⟨o2, n2, g2, c2, d2, e2⟩, s2⟩ := I.list hB
  obtain ⟨k1, dd1, da1, sl1⟩ := o1
  obtain ⟨k2, dd2, da2, sl2⟩ := o2
  dsimp only at c1 d1 e1 c2 d2 e2
  subst c1 d1 e1 c2 d2 e2
  have l1 := r1.length
  have l2 := r2.length
  have ea : i1.toArray ++ i2.toArray = (i1 ++ i2).toArray := by simp
  have hs : i1.toArray.size + i2.toArray.size ≤ sizeLine := by simp; omega
  refine concat_meets ⟨_, g1, rfl⟩ ⟨_, g2, rfl⟩ noFill_list_add seq_list_add PySem.F.slot_list_add PySem.F.entry_list_add
    (PySem.F.args_list_add_2 _ _) (list_addW l b i1.toArray i2.toArray n1 n2 none none sl1 sl2 hs) ⟨g1, g2, ?_⟩
  rw [ea]
  exact ⟨.ref _, _, I.lnew (t' := s.toks) (r1.append r2) (by rw [List.length_append]; omega), rfl, q _ I.fresh⟩
end
end Pb

/-! ### an own exception class, over any built-in one, made with keywords too -/
namespace Pb
open PySem PySem.W Builtin Builtin.ObjectAttr
section
variable {M : Model} {prog : Program} {w : World} {A : Around} {E : Value → Shared → Prop} {R : Result → Shared → Prop} {h : Heap} {g : Array GenState} {d : Drawn} {t : Nat} {os : OsState}
variable {nm q : Str} {C N : Addr} {bs bm bmB : List Value} {hdct : Bool} {sn : List Str} {sub : List Value} {ab : Bool} {col : Option Bool} {dd : Option Addr} {k0 k1 k2 k3 k5 : Option Value} {B newId initId : String}
abbrev HasT (bm bmB : List Value) : Prop := ∀ T : String, bm.contains (.type T) = bmB.contains (.type T)
theorem kwNewCheck (FB : ExcBaseFacts B newId initId bmB) (hT : HasT bm bmB) {rest : List Value} {kw : List (Str × Value)} {Q : Unit → Shared → Prop}
    (hC : h.get? C = some (excClassObj nm q C N bs bm hdct sn sub ab col dd k0 k1 k2 k3 k5 newId)) (fin : Q () ⟨h, g, d, t, os⟩) :
    wpAny M A (checkBuiltinCall newId ⟨.ref C :: rest, kw⟩) Q E ⟨h, g, d, t, os⟩ := by
  have c1 : (Value.ref C :: bm).contains (.type B) = true := by
    rw [List.contains_cons, hT, FB.hasB, Bool.or_true]
  have c2 := FB.noStar
  simp only [checkBuiltinCall, FB.newKind, FB.newSplit, FB.newRow]
  repeat (first
    | refine wpAny_loadPart_at hC ?_
    | (refine wpAny_isSubtype_exc hC ?_; rw [c1])
    | refine wpAny_staticBase_exc hC ?_
    | refine wpAny_madeBy_exc hC ?_
    | simp only [bne_self_eq_false, Bool.false_eq_true, if_false]
    | wp_step)
  exact fin
theorem kwNew (FB : ExcBaseFacts B newId initId bmB) (hT : HasT bm bmB) {rest : List Value} {kw : List (Str × Value)}
    (hC : h.get? C = some (excClassObj nm q C N bs bm hdct sn sub ab col dd k0 k1 k2 k3 k5 newId)) (hz : rest.length ≤ sizeLine)
    (fin : R (.ok (.ret (.ref (h.objs.size + 1)))) ⟨(h.push (kdv_tup rest)).push (HandSPX.excO C h.objs.size), g, d, t, os⟩) :
    codeAny (model prog w) A (.builtin newId ⟨.ref C :: rest, kw⟩) R ⟨h, g, d, t, os⟩ := by
  have c0 := FB.ends
  have c1 : (Value.ref C :: bm).contains (.type B) = true := by
    rw [List.contains_cons, hT, FB.hasB, Bool.or_true]
  have c2 : (Value.ref C :: bm).contains (.type "AttributeError") = false := by
    rw [List.contains_cons, hT, FB.noAttr]
    rfl
  have c3 : (Value.ref C :: bm).contains (.type "NameError") = false := by
    rw [List.contains_cons, hT, FB.noName]
    rfl
  refine codeAny_builtinAt FB.entry ?_
  unfold Builtin.«BaseException.__new__»
  refine wpAt_bind ?_
  show wpAt _ _ _ (stack >>= _) _ _ _
  refine wpAt_bind (wpAt_stack fun p below => wpAt_of_wpAny ?_)
  wp_walk
  refine wpAt_of_wpAny ?_
  rw [FB.owner]
  repeat (first
    | with_reducible refine wpAny_madeHere_exc FB.canon hC ?_
    | with_reducible refine wpAny_loadPart_at hC ?_
    | (with_reducible refine wpAny_isSubtype_exc hC ?_; first | rw [c1] | rw [c2] | rw [c3])
    | wp_step)
  show R _ _
  rw [Heap.size_push]
  exact fin
theorem kwTypeCall (FB : ExcBaseFacts B newId initId bmB) (hT : HasT bm bmB) {rest : List Value} {kw : List (Str × Value)} {fI : Addr} {Q : Fin → Shared → Prop}
    (hC : h.get? C = some (excClassObj nm q C N bs bm hdct sn sub ab col dd k0 k1 k2 k3 k5 newId))
    (hi : Looks (model prog w) h (typeLookup (.ref C) "__init__") (some (.ref fI))) (hb : ∀ self, Looks (model prog w) h (bindSpecial (.ref fI) self) (.ref fI, [self])) (hz : rest.length ≤ sizeLine)
    (body : codeAny (model prog w) A (.call (.ref fI) ⟨.ref (h.objs.size + 1) :: rest, kw⟩)
      (fun r s' => match r with | .ok (.ret v) => v = .none ∧ Q (.done (.ret (.ref (h.objs.size + 1)))) s' | .ok _ => False | .error e => E e s')
      ⟨(h.push (kdv_tup rest)).push (HandSPX.excO C h.objs.size), g, d, t, os⟩) :
    wpAny (model prog w) A (Builtin.«type.__call__» ⟨.ref C :: rest, kw⟩) Q E ⟨h, g, d, t, os⟩ := by
  repeat (first
    | with_reducible refine wpAny_loadPart_at hC ?_
    | with_reducible refine wpAny_madeBy_exc hC ?_
    | wp_step)
  refine codeAny_call_builtin_code (Code.quiet_builtin _ FB.quiet) (kwNewCheck FB hT hC ?_)
  refine kwNew FB hT hC hz ?_
  show wpAny _ _ _ _ _ _
  have kp : ∀ b o, h.get? b = some o → ((h.push (kdv_tup rest)).push (HandSPX.excO C h.objs.size)).get? b = some o :=
    fun b o e => Heap.get?_push_of_some _ (Heap.get?_push_of_some _ e)
  have hC2 := kp _ _ hC
  have hE : ((h.push (kdv_tup rest)).push (HandSPX.excO C h.objs.size)).get? (h.objs.size + 1) = some (HandSPX.excO C h.objs.size) := by heap_get
  have cc : (Value.ref C :: bm).contains (.ref C) = true := by simp
  have j1 := hi.keeps kp
  have j2 := (hb (.ref (h.objs.size + 1))).keeps kp
  unfold isInstance
  repeat (first
    | with_reducible refine wpAny_loadPart_at hE ?_
    | (with_reducible refine wpAny_isSubtype_exc hC2 ?_; rw [cc])
    | wp_step)
  show wpAny _ _ (typeLookup (.ref C) _) _ _ _
  refine j1.at ?_
  refine wpAny_holding (wpAny_bind (j2.at ?_))
  refine wpAny_bind (wpAny_call (codeAny_mono body fun r s' z => ?_))
  rcases r with e | (v | _ | _ | _) <;> first | exact z | exact z.elim | skip
  obtain ⟨ev, z⟩ := z
  subst ev
  first
    | exact wpAny_pure (wpAny_pure z)
    | (wp_walk; exact z)
theorem kwCall (FB : ExcBaseFacts B newId initId bmB) (hT : HasT bm bmB) {rest : List Value} {kw : List (Str × Value)} {fI : Addr}
    (hC : h.get? C = some (excClassObj nm q C N bs bm hdct sn sub ab col dd k0 k1 k2 k3 k5 newId))
    (hi : Looks (model prog w) h (typeLookup (.ref C) "__init__") (some (.ref fI))) (hb : ∀ self, Looks (model prog w) h (bindSpecial (.ref fI) self) (.ref fI, [self])) (hz : rest.length ≤ sizeLine)
    (body : codeAny (model prog w) (A.under (.builtin "type.__call__" ⟨.ref C :: rest, kw⟩)) (.call (.ref fI) ⟨.ref (h.objs.size + 1) :: rest, kw⟩) (InitBack (h.objs.size + 1) R)
      ⟨(h.push (kdv_tup rest)).push (HandSPX.excO C h.objs.size), g, d, t, os⟩) :
    codeAny (model prog w) A (.call (.ref C) ⟨rest, kw⟩) R ⟨h, g, d, t, os⟩ := by
  have y1 := tc_lookup
  have y2 := tc_bind (.ref C)
  have y3 : (⟨h, g, d, t, os⟩ : Shared).TypeIs (.ref C) "type" := ⟨_, hC, rfl⟩
  refine codeAny_of_tree ?_
  show wpAny _ _ (callAny (.ref C) _) _ _ _
  repeat (any_goals (first | assumption | with_reducible refine wpAny_loadPart_at hC ?_ | wp_step))
  refine ⟨rfl, ?_⟩
  refine codeAny_call_builtin_at (Code.quiet_builtin _ (by decide +kernel)) entry_typeCall (wpAny_check_type_call_sub hC (kwTypeCall FB hT hC hi hb hz ?_))
  refine codeAny_mono body fun r s' z => ?_
  rcases r with e | (v | _ | _ | _) <;> exact z
end
end Pb

namespace Pb
open PySem PySem.W PyProof.Rows L2
/-- a built-in class that own exceptions stand under -/
structure XB (bmB : List Value) (newId : String) : Prop where
  ex : ∃ B initId, ExcBaseFacts B newId initId bmB ∧ StoreFacts B bmB "object.__setattr__" "object"
abbrev mroV : List Value := [.type "ValueError", .type "Exception", .type "BaseException", .type "object"]
abbrev mroL : List Value := [.type "LookupError", .type "Exception", .type "BaseException", .type "object"]
abbrev mroO : List Value := [.type "OverflowError", .type "ArithmeticError", .type "Exception", .type "BaseException", .type "object"]
theorem xbV : XB mroV "ValueError.__new__" := ⟨_, _, PySem.F.excBase_ValueError, PySem.F.store_ValueError⟩
theorem xbL : XB mroL "LookupError.__new__" := ⟨_, _, PySem.F.excBase_LookupError, PySem.F.store_LookupError⟩
theorem xbO : XB mroO "OverflowError.__new__" := ⟨_, _, PySem.F.excBase_OverflowError, PySem.F.store_OverflowError⟩
/-- what the written part says of an own exception class -/
structure XC (K : Frag) (C : Addr) (bmB : List Value) (newId : String) : Prop where
  ini : excInitIn K C bmB newId = true
  ovr : excOver K C bmB = true
  dic : hasDictIn K C = true
  sa : findIn K (.ref C) "__setattr__" = some (some (.builtin "object.__setattr__"))
  ga : findIn K (.ref C) "__getattribute__" = some (some (.builtin "BaseException.__getattribute__"))
  gg : findIn K (.ref C) "__getattr__" = some none
  cl : findIn K (.ref C) "__class__" = some (some (.builtin "object.__class__"))
  sub : subIn K (.ref C) (.type "BaseException") = some true
  ty : typeIn K (.ref C) = some (.type "type")
  kp : keepIn K (.ref C) = true
  ob : mroIn K C (.type "object") = some true
  sg : specialIn K (.builtin "object.__class__") "__get__" = some (some (.builtin "getset_descriptor.__get__"))
  tk : takesIn K (.builtin "object.__class__") = some true
def xcB (K : Frag) (C : Addr) (bmB : List Value) (newId : String) : Bool :=
  excInitIn K C bmB newId && (excOver K C bmB && (hasDictIn K C && (decide (findIn K (.ref C) "__setattr__" = some (some (.builtin "object.__setattr__"))) &&
  (decide (findIn K (.ref C) "__getattribute__" = some (some (.builtin "BaseException.__getattribute__"))) && (decide (findIn K (.ref C) "__getattr__" = some none) &&
  (decide (findIn K (.ref C) "__class__" = some (some (.builtin "object.__class__"))) && (decide (subIn K (.ref C) (.type "BaseException") = some true) &&
  (decide (typeIn K (.ref C) = some (.type "type")) && (keepIn K (.ref C) && (decide (mroIn K C (.type "object") = some true) &&
  (decide (specialIn K (.builtin "object.__class__") "__get__" = some (some (.builtin "getset_descriptor.__get__"))) && decide (takesIn K (.builtin "object.__class__") = some true))))))))))))
theorem xcB_ok {K : Frag} {C : Addr} {bmB : List Value} {newId : String} (h : xcB K C bmB newId = true) : XC K C bmB newId := by
  unfold xcB at h
  simp only [Bool.and_eq_true, decide_eq_true_eq] at h
  obtain ⟨h1, h2, h3, h4, h5, h6, h7, h8, h9, h10, h11, h12, h13⟩ := h
  exact ⟨h1, h2, h3, h4, h5, h6, h7, h8, h9, h10, h11, h12, h13⟩
section
variable {prog : Program} {w : World} {A : Around} {E : Value → Shared → Prop} {R : Result → Shared → Prop} {hp : Heap} {g : Array GenState} {d : Drawn} {t : Nat} {os : OsState} {K : Frag} {C x : Addr} {bmB : List Value} {newId : String} {name : Str} {tk : Tok} {v : Value}
theorem taker0 (ha : findIn K (.ref C) name = some none) : takerIn K C name = some none := by
  unfold takerIn
  rw [ha]
  rfl
/-- the first field of an exception -/
theorem xset_new {fv : Array Value} (B : XB bmB newId) (T : XC K C bmB newId) (X : K.In hp) (hx : hp.get? x = some { cls := .ref C, data := .fields fv }) (ha : findIn K (.ref C) name = some none)
    (fin : ∀ h' tk' dx, (∀ b o, b ≠ x → hp.get? b = some o → h'.get? b = some o) → hp.objs.size ≤ dx → dx ≠ x → h'.get? x = some { cls := .ref C, dict := some dx, data := .fields fv } →
      h'.Ns1 dx (fun y => if y = name then some v else none) → R (.ok (.ret .none)) ⟨h', g, d, tk', os⟩) :
    codeAny (model prog w) A (.call (.builtin "object.__setattr__") ⟨[.ref x, .str name tk, v], []⟩) R ⟨hp, g, d, t, os⟩ := by
  obtain ⟨Bn, ii, FB, SF⟩ := B.ex
  have xs : x ≠ hp.objs.size := Nat.ne_of_lt (Heap.lt_size hx)
  obtain ⟨cd, hcd, hdd⟩ := any_some T.dic
  have lk : Looks (model prog w) hp (classData C) cd := looks_clsIn X hcd
  refine osa_openX (s := ⟨hp, g, d, t, os⟩) (od := none) SF X ⟨hx, rfl, rfl, trivial⟩ T.ovr (taker0 ha) fun b => ?_
  obtain ⟨m1, m2, m3, m4, m5, m6, m7, m8, m9, m10, m11⟩ := cd
  dsimp only at hdd
  subst hdd
  dsimp only
  unfold Builtin.ObjectAttr.storeInOwnDict Builtin.ObjectAttr.ownDictForStores
  repeat (first
    | with_reducible refine HandSPX.store_in_new ?_ ?_
    | with_reducible refine wpAny_loadPart_at hx ?_
    | with_reducible refine lk.at ?_
    | wp_step)
  · exact ⟨_, #[], _, (Heap.get?_update_ne _ _ _ _ xs.symm).trans (Heap.get?_push_at rfl rfl), rfl, fun e he => absurd he (by simp), fun _ => rfl⟩
  · intro h' tk' hn sb
    have hx2 : (hp.push { cls := .type "dict", data := .dict #[] }).get? x = some { cls := .ref C, data := .fields fv } := Heap.get?_push_of_some _ hx
    refine fin h' tk' hp.objs.size (fun b o hb ho => ?_) (Nat.le_refl _) xs.symm ?_ hn
    · exact (sb.2 b (Nat.ne_of_lt (Heap.lt_size ho))).trans ((Heap.get?_update_ne _ _ _ _ hb).trans (Heap.get?_push_of_some _ ho))
    · exact (sb.2 x xs).trans (Heap.get?_update_self _ hx2 rfl)
/-- a further field -/
theorem xset_old {fv : Array Value} {dx : Addr} {m0 : Str → Option Value} {nl : List Str} (B : XB bmB newId) (T : XC K C bmB newId) (X : K.In hp) (hx : hp.get? x = some { cls := .ref C, dict := some dx, data := .fields fv })
    (hns : hp.Ns1 dx m0) (hw : Within m0 nl) (hz : nl.length ≤ 1000) (ha : findIn K (.ref C) name = some none)
    (fin : ∀ h' tk', (∀ b o, b ≠ dx → hp.get? b = some o → h'.get? b = some o) → h'.Ns1 dx (fun y => if y = name then some v else m0 y) → R (.ok (.ret .none)) ⟨h', g, d, tk', os⟩) :
    codeAny (model prog w) A (.call (.builtin "object.__setattr__") ⟨[.ref x, .str name tk, v], []⟩) R ⟨hp, g, d, t, os⟩ := by
  obtain ⟨Bn, ii, FB, SF⟩ := B.ex
  obtain ⟨oD, esD, epD, hoD, hdD, _⟩ := hns.count hw
  obtain ⟨cd, hcd, hdd⟩ := any_some T.dic
  have lk : Looks (model prog w) hp (classData C) cd := looks_clsIn X hcd
  refine osa_openX (s := ⟨hp, g, d, t, os⟩) (od := some oD) SF X ⟨hx, rfl, rfl, hoD⟩ T.ovr (taker0 ha) fun b => ?_
  obtain ⟨m1, m2, m3, m4, m5, m6, m7, m8, m9, m10, m11⟩ := cd
  dsimp only at hdd
  subst hdd
  dsimp only
  unfold Builtin.ObjectAttr.storeInOwnDict Builtin.ObjectAttr.ownDictForStores
  repeat (first
    | with_reducible refine OEX.store_in_old hns hw hz ?_
    | with_reducible refine wpAny_loadPart_at hx ?_
    | with_reducible refine lk.at ?_
    | wp_step)
  intro h' tk' hn sb
  exact fin h' tk' (fun b o hb ho => (sb.2 b hb).trans ho) hn
end
section
variable {X : Cx} {pins : List (Addr × Obj)} {σ : L2.St} {H : Hp} {s : Shared} {a C dx : Addr} {f : Str} {y : V} {u : Value} {fs : List (Str × V)} {Q : Unit → Shared → Prop} {E : Value → Shared → Prop} {A : Around} {bmB : List Value} {newId : String}
theorem xst_new (B : XB bmB newId) (T : XC X.K C bmB newId) (I : Inv X pins σ H s) (e : H a = some (exo a C none)) (hno : findIn X.K (.ref C) f = some none) (ry : RelV y u)
    (fin : ∀ dx s', H dx = none → dx ≠ a → Inv X pins σ (upd (upd H dx (exd dx [(f, y)])) a (exo a C (some dx))) s' → Q () s') : wpAny (model X.prog X.w) A (setAttr (.ref a) f u) Q E s := by
  obtain ⟨t1, ho⟩ := exo_at I.hok e
  obtain ⟨hp, g, d, t, os⟩ := s
  refine set_plain I.kIn (ox := { cls := .ref C, dict := none, data := .fields #[.ref t1, .none, .none, .none, .bool false, .none] }) (od := none) ⟨ho, rfl, rfl, trivial⟩ T.sa ?_
  refine xset_new B T I.kIn ho hno (fun h' tk' dx k dn dne hx hn => ?_)
  have fr : H dx = none := I.hok.fresh dn
  have nd : ∀ {b : Addr} {o : Obj}, hp.get? b = some o → b ≠ dx := fun {b o} z => Nat.ne_of_lt (Nat.lt_of_lt_of_le (Heap.lt_size z) dn)
  have na : ∀ {b : Addr}, H b = none → b ≠ a := fun {b} n z => by
    rw [z, e] at n
    cases n
  have UU : Un X.fs [] H (upd (upd H dx (exd dx [(f, y)])) a (exo a C (some dx))) hp h' :=
    { keep := fun b o z n _ _ => k b o (na n) z
      slot := fun b o z n _ _ => ⟨o.slots, k b o (na n) z⟩
      free := fun b o z n _ => by
        rw [upd_ne (na n), upd_ne (nd z)]
        exact n
      there := fun b o z _ => by
        by_cases hb : b = a
        · exact ⟨_, by rw [hb]; exact hx⟩
        · exact ⟨o, k b o hb z⟩
      tups := fun b xs z => by
        rw [upd_ne (at_ne e z exo_tup), upd_ne (ne_of_none z fr)]
        exact z
      frzs := fun b o v z => by
        rw [upd_ne (at_ne e z exo_frz), upd_ne (ne_of_none z fr)]
        exact z
      tbls := fun b ps z => ⟨#[], by rw [upd_ne (at_ne e z exo_tbl), upd_ne (ne_of_none z fr), z]; simp⟩ }
  refine fin dx _ fr dne (I.un (t' := tk') UU fun b o z => ?_)
  by_cases hb : b = a
  · subst hb
    rw [upd_same] at z
    cases z
    exact exo_ok hx
  · rw [upd_ne hb] at z
    by_cases hd : b = dx
    · subst hd
      rw [upd_same] at z
      cases z
      exact exd_ok hn (relO_put (fs := []) ry fun g => True.intro)
    · rw [upd_ne hd] at z
      refine (I.hok b o z).stay (fun c v hc r => k c v ?_ r) (fun c hc => ?_) (fun c xs hc => ?_)
      · rcases hc with hc | hc
        · rw [hc]
          exact hb
        · exact at_ne e hc exo_own
      · rw [upd_ne (at_ne e hc exo_own), upd_ne (ne_of_none hc fr)]
        exact hc
      · rw [upd_ne (at_ne e hc exo_tup), upd_ne (ne_of_none hc fr)]
        exact hc
theorem xst_old (B : XB bmB newId) (T : XC X.K C bmB newId) (I : Inv X pins σ H s) (e : H a = some (exo a C (some dx))) (ed : H dx = some (exd dx fs)) (hl : fs.length ≤ 900) (hno : findIn X.K (.ref C) f = some none) (ry : RelV y u)
    (fin : ∀ s', Inv X pins σ (upd H dx (exd dx ((f, y) :: fs))) s' → Q () s') : wpAny (model X.prog X.w) A (setAttr (.ref a) f u) Q E s := by
  obtain ⟨t1, ho⟩ := exo_at I.hok e
  obtain ⟨mA, hns, rel⟩ := exd_at I.hok ed
  have hw := within_of rel
  obtain ⟨hp, g, d, t, os⟩ := s
  obtain ⟨oD, _, _, hoD, _, _⟩ := hns.count hw
  refine set_plain I.kIn (ox := { cls := .ref C, dict := some dx, data := .fields #[.ref t1, .none, .none, .none, .bool false, .none] }) (od := some oD) ⟨ho, rfl, rfl, hoD⟩ T.sa ?_
  refine xset_old B T I.kIn ho hns hw (by rw [List.length_map]; omega) hno (fun h' tk' k hn => ?_)
  have hd : ∃ o, h'.get? dx = some o := by
    obtain ⟨o, _, _, e', _⟩ := hn
    exact ⟨o, e'⟩
  exact fin _ (I.write (t' := tk') (x := dx) (e := dx) (o := exd dx ((f, y) :: fs)) (by rw [ed]; exact True.intro) (.inl rfl) k hd (exd_ok hn (relO_put ry rel)))
end
/-- self.f = e, self an exception -/
def tXst (K : Frag) (f : Str) (to te : TE) : TS := fun D σ H => te σ H fun y H1 => to σ H1 fun x H2 => ∃ (a C : Addr) (bmB : List Value) (newId : String), x = .ref a ∧ XB bmB newId ∧ XC K C bmB newId ∧ findIn K (.ref C) f = some none ∧
  ((H2 a = some (exo a C none) ∧ ∀ dx, H2 dx = none → dx ≠ a → D.nx σ (upd (upd H2 dx (exd dx [(f, y)])) a (exo a C (some dx)))) ∨
    ∃ (dx : Addr) (fs : List (Str × V)), H2 a = some (exo a C (some dx)) ∧ H2 dx = some (exd dx fs) ∧ fs.length ≤ 900 ∧ D.nx σ (upd H2 dx (exd dx ((f, y) :: fs))))
/-- C(..), C an own exception class with an __init__ of its own: a new exception -/
def tXnew (C : Addr) (n m : Nat) (sp : Sp) (gV : List V → List V → List V) (t tk : TA) : TE := fun σ H Q => t σ H fun vs H1 => tk σ H1 fun zs H2 => vs.length = n ∧ zs.length = m ∧ n ≤ 1000 ∧
  ∀ a, H2 a = none → sp (gV (.ref a :: vs) zs) (upd H2 a (exo a C none)) (fun v H3 => v = .non ∧ Q (.ref a) H3) (fun _ _ _ => False)
section
variable {X : Cx} {o e : Expr} {es : List Expr} {kws : List Keyword} {to te : TE} {t tk : TA} {f : Str} {p p' p1 p2 pos : Pos} {bmB : List Value} {newId : String}
theorem ps_xst (ho : PE X o to) (he : PE X e te) (hs : swapsWith e (some (.Attribute o f p')) pos.line X.env = pure false := by rfl) : PS X (.Assign [.Attribute o f p'] e pos) (tXst X.K f to te) := by
  refine ⟨fun pins s σ H D I h => ?_⟩
  refine plainObj_wpAny_Assign_Attribute (thn (he.run pins s σ H _ I h) fun v s1 z => ?_) hs
  obtain ⟨y, H1, I1, r1, q1⟩ := z
  refine thn (ho.run pins s1 σ H1 _ I1 q1) fun u s2 z2 => ?_
  obtain ⟨x, H2, I2, r2, a, C, bb, nn, ex, B, T, hno, q⟩ := z2
  subst ex
  cases (show u = Value.ref a from r2)
  rcases q with ⟨ea, q⟩ | ⟨dx, fs, ea, ed, hl, q⟩
  · exact xst_new B T I2 ea hno r1 fun dx s' n ne J => ⟨σ, _, J, q dx n ne⟩
  · exact xst_old B T I2 ea ed hl hno r1 fun s' J => ⟨σ, _, J, q⟩
variable {CX : CXT} {x : Str} {C fI : Addr} {k n : Nat} {fd : FuncData} {ps ks : List Str} {sp : Sp} {gg : List Value → List Value → List Value} {gV : List V → List V → List V}
theorem xnew_run {pins : List (Addr × Obj)} {σ : L2.St} {H : Hp} {s : Shared} {Q : VK} {us ws : List Value} {vs zs : List V} (B : XB bmB newId) (T : XC X.K C bmB newId) (iC : findIn X.K (.ref C) "__init__" = some (some (.ref fI))) (tI : typeIn X.K (.ref fI) = some (.type "function"))
    (F1 : FnOk X.prog X.w X.K X.mg X.base CX k fI fd ps sp) (hr : Room (k + 1) X.A) (hb : KBn X.K fd ps (n + 1) ks gg gV) (hx : Passes CX X (fun _ _ _ => False)) (I1 : Inv X pins σ H s) (r1 : Vals vs us) (rz : Vals zs ws) (l1 : vs.length = n) (l2 : zs.length = ks.length) (hz : n ≤ 1000)
    (q1 : ∀ a, H a = none → sp (gV (.ref a :: vs) zs) (upd H a (exo a C none)) (fun v H3 => v = .non ∧ Q (.ref a) H3) (fun _ _ _ => False)) :
    wpAny (model X.prog X.w) X.A (call (.ref C) us (ks.zip ws)) (EP X pins σ Q) X.xe s := by
  obtain ⟨Bn, ii, FB, SF⟩ := B.ex
  obtain ⟨nm, N', qn, bs, bm, hdct, sn, sub, ab, col, dd, k0, k1, k2, k3, k5, hC, hT⟩ := excInit_of I1.kIn T.ini
  obtain ⟨hp, g, dr, tk, os⟩ := s
  have sz : hp.objs.size ≤ hp.objs.size + 1 := Nat.le_succ _
  have hn : H (hp.objs.size + 1) = none := I1.hok.fresh sz
  have hq := q1 (hp.objs.size + 1) hn
  have kk : ∀ b o, hp.get? b = some o → ((hp.push (kdv_tup us)).push (HandSPX.excO C hp.objs.size)).get? b = some o := fun b o e => Heap.get?_push_of_some _ (Heap.get?_push_of_some _ e)
  have hget : ((hp.push (kdv_tup us)).push (HandSPX.excO C hp.objs.size)).get? (hp.objs.size + 1) = some (HandSPX.excO C hp.objs.size) := by heap_get
  have I2 : Inv X pins σ (upd H (hp.objs.size + 1) (exo (hp.objs.size + 1) C none)) ⟨(hp.push (kdv_tup us)).push (HandSPX.excO C hp.objs.size), g, dr, tk, os⟩ :=
    I1.laid (t' := tk) (a := hp.objs.size + 1) (o := exo (hp.objs.size + 1) C none) (h' := (hp.push (kdv_tup us)).push (HandSPX.excO C hp.objs.size)) kk sz (exo_ok hget)
  have e1 : us.length = n := r1.length.symm.trans l1
  have e2 : ws.length = ks.length := rz.length.symm.trans l2
  have r2 := hb.rel (Paired.cons (show RelV (V.ref (hp.objs.size + 1)) (Value.ref (hp.objs.size + 1)) from rfl) r1) rz
  have hus : us.length ≤ sizeLine := by rw [e1, sizeLine_eq]; omega
  refine wpAny_call (kwCall FB hT hC (looks_findIn I1.kIn iC) (fun self => bind_fn I1.kIn self tI) hus
    (codeAny_mono (F1.run _ X.stack _ _ ⟨Value.ref (hp.objs.size + 1) :: us, ks.zip ws⟩ (gg (Value.ref (hp.objs.size + 1) :: us) ws) _ _ (fun _ _ _ => False) (hr.make C us (ks.zip ws)) (I2.env0.make C us (ks.zip ws))
      (hb.to _ (Value.ref (hp.objs.size + 1) :: us) ws I2.kIn (by rw [List.length_cons, e1]) e2) r2 hq) fun r s' hq' => ?_))
  cases r with
  | error er => exact hx pins σ _ _ er s' I2 hq'
  | ok fl =>
    cases fl with
    | ret u =>
      obtain ⟨v, H3, I3, rv, ev, q3⟩ := I2.after hq'
      subst ev
      exact ⟨rv, ⟨V.ref (hp.objs.size + 1), H3, I3, rfl, q3⟩⟩
    | next => exact False.elim hq'
    | brk => exact False.elim hq'
    | cont => exact False.elim hq'
/-- C(e, ..) -/
theorem pe_xnew (B : XB bmB newId) (T : XC X.K C bmB newId) (iC : findIn X.K (.ref C) "__init__" = some (some (.ref fI))) (tI : typeIn X.K (.ref fI) = some (.type "function"))
    (F1 : FnOk X.prog X.w X.K X.mg X.base CX k fI fd ps sp) (hr : Room (k + 1) X.A) (hb : KBn X.K fd ps (n + 1) [] gg gV) (hx : Passes CX X (fun _ _ _ => False)) (hg : Gl X x) (hm : X.mg x = some (.ref C)) (ha : PA X (e :: es) t)
    (hdb : (x == ("__debug__" : Str)) = false := by decide) (he : starEach (e :: es) X.env = (false, eval e X.env) :: starEach es X.env := by rfl) (hpl : (backTo pos (starEach es X.env)).any (·.1) = false := by rfl) :
    PE X (.Call (.Name x p) (e :: es) [] pos) (tXnew C n 0 sp gV t tNil) := by
  refine ⟨fun pins s σ H Q I h => ?_⟩
  refine wpAny_Call_Name_kw (ld_glob I hg hm ?_ hdb)
  refine callWith_K (h₀ := X.base) I.ok.mod.kin T.kp (thn (ha.run pos pins s σ H _ I h) fun us s1 z => ?_) he hpl
  obtain ⟨vs, H1, I1, r1, l1, l2, hz, q1⟩ := z
  exact ⟨I1.kIn, xnew_run (ks := []) (ws := []) (zs := []) B T iC tI F1 hr hb hx I1 r1 .nil l1 rfl hz q1⟩
/-- C() -/
theorem pe_xnew0 (B : XB bmB newId) (T : XC X.K C bmB newId) (iC : findIn X.K (.ref C) "__init__" = some (some (.ref fI))) (tI : typeIn X.K (.ref fI) = some (.type "function"))
    (F1 : FnOk X.prog X.w X.K X.mg X.base CX k fI fd ps sp) (hr : Room (k + 1) X.A) (hb : KBn X.K fd ps 1 [] gg gV) (hx : Passes CX X (fun _ _ _ => False)) (hg : Gl X x) (hm : X.mg x = some (.ref C))
    (hdb : (x == ("__debug__" : Str)) = false := by decide) : PE X (.Call (.Name x p) [] [] pos) (tXnew C 0 0 sp gV tNil tNil) := by
  refine ⟨fun pins s σ H Q I h => ?_⟩
  refine wpAny_Call_Name_kw (ld_glob I hg hm ?_ hdb)
  obtain ⟨l1, l2, hz, q1⟩ := h
  exact callWith_K0 I.kIn T.kp (xnew_run (ks := []) (ws := []) (zs := []) (us := []) (vs := []) (n := 0) B T iC tI F1 hr hb hx I .nil .nil rfl rfl hz q1)
/-- C(k = e, ..) -/
theorem pe_xnewK (B : XB bmB newId) (T : XC X.K C bmB newId) (iC : findIn X.K (.ref C) "__init__" = some (some (.ref fI))) (tI : typeIn X.K (.ref fI) = some (.type "function"))
    (F1 : FnOk X.prog X.w X.K X.mg X.base CX k fI fd ps sp) (hr : Room (k + 1) X.A) (hb : KBn X.K fd ps 1 ks gg gV) (hx : Passes CX X (fun _ _ _ => False)) (hg : Gl X x) (hm : X.mg x = some (.ref C)) (hkw : PK X kws tk)
    (hall : (backToKw pos (keywordEach kws X.env)).all (·.1.isSome) = true := by rfl) (hks : (backToKw pos (keywordEach kws X.env)).filterMap (·.1) = ks := by rfl) (hdb : (x == ("__debug__" : Str)) = false := by decide)
    (hpl : ((backTo pos (starEach [] X.env)).any (·.1) || (backToKw pos (keywordEach kws X.env)).any (·.1.isNone)) = false := by rfl) :
    PE X (.Call (.Name x p) [] kws pos) (tXnew C 0 ks.length sp gV tNil tk) := by
  refine ⟨fun pins s σ H Q I h => ?_⟩
  refine wpAny_Call_Name_kw (ld_glob I hg hm ?_ hdb)
  refine callWith_KW0 (h₀ := X.base) I.ok.mod.kin T.kp hall (thn (hkw.run pos pins s σ H _ I h) fun ws s2 z => ?_) hpl
  obtain ⟨zs, H2, I2, rz, l1, l2, hz, q2⟩ := z
  refine ⟨I2.kIn, ?_⟩
  rw [hks]
  exact xnew_run (us := []) (vs := []) (n := 0) B T iC tI F1 hr hb hx I2 .nil rz rfl l2 hz q2
/-- C(), C without an __init__ of its own -/
theorem pe_xbare {Bn ii : String} (FB : ExcBaseFacts Bn newId ii bmB) (q : excIn X.K C bmB newId = true) (kC : keepIn X.K (.ref C) = true) (hg : Gl X x) (hm : X.mg x = some (.ref C)) (hdb : (x == ("__debug__" : Str)) = false := by decide) :
    PE X (.Call (.Name x p) [] [] pos) (fun σ H Q => ∀ a, H a = none → Q (.ref a) (upd H a (exo a C none))) := by
  refine ⟨fun pins s σ H Q I h => ?_⟩
  refine wpAny_Call_Name_kw (ld_glob I hg hm ?_ hdb)
  refine callWith_K0 I.kIn kC ?_
  show wpAny _ _ (call (.ref C) []) _ _ _
  obtain ⟨bm, N, nm, qn, bs, hdct, sn, sub, ab, col, dd, k0, k1, k2, k3, k5, mN, hC, hN, hni, T⟩ := exc_obj I.kIn q
  refine wpAny_call_exc_subT FB T hC hN hni (fun h' a hm => ?_) (Nat.zero_le _)
  have hn : H a = none := I.hok.gone hm.new
  obtain ⟨t, ht, _, _⟩ := hm.there
  exact ⟨.ref a, upd H a (exo a C none), I.laidN hm.keeps hm.new hn (exo_ok ht), rfl, h a hn⟩
end
end Pb

namespace Pb
open PySem PySem.W PyProof.Rows L2
/-- an exception that was caught and is kept: at a, of the class D, its dict -/
def exk (a : Addr) (D : Value) (d : Option Addr) : HO := .ext fun h => ∃ (oe : Obj) (vs : Array Value), h.get? a = some oe ∧ Zc D d oe ∧ oe.data = .fields vs
/-- an exception of the class at D, made or kept; its fields, if it has any -/
def ExI (H : Hp) (a D : Addr) : Option (List (Str × V)) → Prop
  | none => H a = some (exo a D none) ∨ H a = some (exk a (.ref D) none)
  | some fs => ∃ dx, (H a = some (exo a D (some dx)) ∧ H dx = some (exd dx fs)) ∨ (H a = some (exk a (.ref D) (some dx)) ∧ H dx = some (.xd fs))
theorem exk_ok {P : Program} {w : World} {H : Hp} {h : Heap} {a : Addr} {D : Value} {d : Option Addr} {oe : Obj} {vs : Array Value} (e : h.get? a = some oe) (z : Zc D d oe) (dd : oe.data = .fields vs) : ObjOk P w H h a (exk a D d) :=
  ⟨⟨oe, vs, e, z, dd⟩, ⟨oe, e⟩, fun _ _ ⟨o, v, q, r⟩ k => ⟨o, v, k o q, r⟩⟩
theorem exk_at {P : Program} {w : World} {H : Hp} {h : Heap} {a : Addr} {D : Value} {d : Option Addr} (hok : HOk P w H h) (e : H a = some (exk a D d)) : ∃ (oe : Obj) (vs : Array Value), h.get? a = some oe ∧ Zc D d oe ∧ oe.data = .fields vs := by
  have x : ObjOk P w H h a (.ext fun h => ∃ (oe : Obj) (vs : Array Value), h.get? a = some oe ∧ Zc D d oe ∧ oe.data = .fields vs) := hok a _ e
  exact x.1
theorem exI_inst {P : Program} {w : World} {H : Hp} {h : Heap} {a D : Addr} {fs : Option (List (Str × V))} (hok : HOk P w H h) (x : ExI H a D fs) :
    ∃ ox od, InstAt h a ox D od ∧ ∀ l, fs = some l → ∃ o, od = some o ∧ ∀ n v, l.lookup n = some v → ∃ u, lookIn n o = some (some u) ∧ RelV v u := by
  have fin : ∀ {dx : Addr} {ox : Obj} {vs : Array Value} {l : List (Str × V)} {mA : Str → Option Value}, h.get? a = some ox → ox.cls = .ref D → ox.dict = some dx → ox.data = .fields vs → h.Ns1 dx mA → (∀ f, RelO (l.lookup f) (mA f)) →
      ∃ ox od, InstAt h a ox D od ∧ ∀ l', some l = some l' → ∃ o, od = some o ∧ ∀ n v, l'.lookup n = some v → ∃ u, lookIn n o = some (some u) ∧ RelV v u := fun {dx ox vs l mA} e c dd dt hn rel => by
    obtain ⟨od, ho, hl⟩ := lookIn_ns hn
    refine ⟨ox, some od, ⟨e, c, by unfold notCls; rw [dt], by rw [dd]; exact ho⟩, fun l' el => ⟨od, rfl, fun n v hv => ?_⟩⟩
    cases el
    obtain ⟨u, hu, ru⟩ := RelO.some_of (v := v) (o := mA n) (by rw [← hv]; exact rel n)
    exact ⟨u, by rw [hl, hu], ru⟩
  cases fs with
  | none =>
    rcases x with x | x
    · obtain ⟨t1, e⟩ := exo_at hok x
      exact ⟨_, none, ⟨e, rfl, rfl, trivial⟩, fun l z => by cases z⟩
    · obtain ⟨oe, vs, e, z, dt⟩ := exk_at hok x
      exact ⟨oe, none, ⟨e, z.1, by unfold notCls; rw [dt], by rw [z.2]; trivial⟩, fun l z => by cases z⟩
  | some l =>
    obtain ⟨dx, ⟨x, y⟩ | ⟨x, y⟩⟩ := x
    · obtain ⟨t1, e⟩ := exo_at hok x
      obtain ⟨mA, hn, rel⟩ := exd_at hok y
      exact fin e rfl rfl rfl hn rel
    · obtain ⟨oe, vs, e, z, dt⟩ := exk_at hok x
      obtain ⟨mA, hn, rel⟩ := hok dx _ y
      exact fin e z.1 z.2 dt hn rel
/-- isinstance(e, c) of such an exception, c a class -/
def rIsX (K : Frag) : List V → Hp → VK → Prop := fun xs H Q => ∃ (a D : Addr) (fs : Option (List (Str × V))) (bmB : List Value) (newId : String) (c : V) (cv : Value) (b : Bool),
  xs = [.ref a, c] ∧ ExI H a D fs ∧ XC K D bmB newId ∧ RelV c cv ∧ (∀ u, RelV c u → u = cv) ∧ kitOne K (.ref D) cv = some b ∧ Q (.bl b) H
/-- .. c a tuple of classes -/
def rIsXT (K : Frag) : List V → Hp → VK → Prop := fun xs H Q => ∃ (a D t : Addr) (fs : Option (List (Str × V))) (bmB : List Value) (newId : String) (cs : List V) (cvs : List Value) (b : Bool),
  xs = [.ref a, .ref t] ∧ ExI H a D fs ∧ XC K D bmB newId ∧ SqT K H t cs ∧ (∀ us, Vals cs us → us = cvs) ∧ kitAny K (.ref D) cvs = some b ∧ Q (.bl b) H
section
variable {X : Cx}
theorem xc_cls {K : Frag} {C : Addr} {bmB : List Value} {newId : String} (T : XC K C bmB newId) : (clsIn K C).isSome = true := by
  obtain ⟨cd, h, _⟩ := any_some T.dic
  rw [h]
  rfl
theorem call_isX : CallR X (.builtin "isinstance") (rIsX X.K) := by
  intro pins s σ H xs us Q I r hyp
  obtain ⟨a, D, fs, bmB, newId, c, cv, b, ex, hx, T, _, hcv, e, q⟩ := hyp
  subst ex
  cases r with
  | cons rx rr =>
    cases rr with
    | cons rt rn =>
      cases rn
      cases rx
      have ec := hcv _ rt
      subst ec
      obtain ⟨ox, od, J, _⟩ := exI_inst I.hok hx
      exact kia_one (kitx_exc (xc_cls T) T.ga T.gg T.sub T.cl T.sg T.tk T.ob) I.kIn J e (fun z => nomatch z) fun tk => ⟨.bl b, H, I.kept (t' := tk) fun _ _ z => z, rfl, q⟩
theorem call_isXT : CallR X (.builtin "isinstance") (rIsXT X.K) := by
  intro pins s σ H xs us Q I r hyp
  obtain ⟨a, D, t, fs, bmB, newId, cs, cvs, b, ex, hx, T, hT, hcv, e, q⟩ := hyp
  subst ex
  cases r with
  | cons rx rr =>
    cases rr with
    | cons rt rn =>
      cases rn
      cases rx
      cases rt
      obtain ⟨its, rv, ⟨o, g1, g2, n, g3⟩, _⟩ := I.tuple hT
      have ec := hcv _ rv
      subst ec
      obtain ⟨oc, od, oda, osl⟩ := o
      dsimp only at g2 g3
      subst g2 g3
      obtain ⟨ox, od', J, _⟩ := exI_inst I.hok hx
      exact kia_tup (kitx_exc (xc_cls T) T.ga T.gg T.sub T.cl T.sg T.tk T.ob) I.kIn J g1 e (fun z => nomatch z) fun tk => ⟨.bl b, H, I.kept (t' := tk) fun _ _ z => z, rfl, q⟩
/-- e.f of such an exception -/
def tXfld (K : Frag) (n : Str) (te : TE) : TE := fun σ H Q => te σ H fun x H1 => ∃ (a D : Addr) (fs : List (Str × V)) (bmB : List Value) (newId : String) (v : V), x = .ref a ∧ ExI H1 a D (some fs) ∧ XC K D bmB newId ∧ findIn K (.ref D) n = some none ∧ fs.lookup n = some v ∧ Q v H1
theorem pe_xfld {e : Expr} {te : TE} {pos : Pos} {n : Str} (he : PE X e te) (hb : attributeBase e n X.env (eval e X.env) = eval e X.env := by rfl) : PE X (.Attribute e n pos) (tXfld X.K n te) := by
  refine ⟨fun pins s σ H Q I h => ?_⟩
  refine attr_of hb (thn (he.run pins s σ H _ I h) fun u s1 hh => ?_)
  obtain ⟨x, H1, I1, rx, a, D, fs, bmB, newId, v, ex, hx, T, hno, hl, q⟩ := hh
  subst ex
  cases (show u = Value.ref a from rx)
  obtain ⟨ox, od, J, hf⟩ := exI_inst I1.hok hx
  obtain ⟨o, eo, look⟩ := hf fs rfl
  subst eo
  obtain ⟨u, hu, ru⟩ := look n v hl
  exact HandSPX.exc_get I1.kIn J T.ga T.gg T.sub (findObj_own T.dic hno rfl hu) (handed_of ru) ⟨v, H1, I1.tok _, ru, q⟩
/-- what is tracked at an address may be tracked otherwise, nothing being written -/
theorem retrack {pins : List (Addr × Obj)} {σ : L2.St} {H : Hp} {s : Shared} {x : Addr} {o : HO} (I : Inv X pins σ H s) (mu : Mut (H x)) (there : ∃ u, s.heap.get? x = some u) (new : ObjOk X.prog X.w (upd H x o) s.heap x o) : Inv X pins σ (upd H x o) s :=
  I.write (t' := s.toks) (x := x) (e := x) (h' := s.heap) mu (.inl rfl) (fun b u _ z => z) there new
/-- an expression that gives a new exception with fields, raised -/
theorem pmk_x {e : Expr} {te : TE} (hx : X.ex = []) (he : PE X e te) :
    PMk X e (fun σ H Q => te σ H fun x H1 => ∃ (a C d : Addr) (fs : List (Str × V)), x = .ref a ∧ H1 a = some (exo a C (some d)) ∧ H1 d = some (exd d fs) ∧ d ≠ a ∧ Fr0 X.H_0 a ∧ Raises X (.ref C) ∧ Q (.ref C) (some d) (delH (upd H1 d (.xd fs)) a)) := by
  intro pins s σ H Q I h
  refine wpAny_mono (he.run pins s σ H _ I h) (fun u s1 hu => ?_) fun _ _ x => x
  obtain ⟨v, H1, I1, r1, a, C, d, fs, rfl, ha, hd, da, h0, hr, q⟩ := hu
  cases r1
  obtain ⟨mA, hn, rel⟩ := exd_at I1.hok hd
  have thd : ∃ u, s1.heap.get? d = some u := by
    obtain ⟨o, _, _, e', _⟩ := id hn
    exact ⟨o, e'⟩
  have I2 : Inv X pins σ (upd H1 d (.xd fs)) s1 := retrack I1 (by rw [hd]; exact True.intro) thd ⟨mA, hn, rel⟩
  have ha2 : (upd H1 d (.xd fs)) a = some (exo a C (some d)) := by
    rw [upd_ne (Ne.symm da)]
    exact ha
  obtain ⟨t1, ho⟩ := exo_at I2.hok ha2
  obtain ⟨G, gs, ga, J⟩ := I2.untrack ha2 h0 hx
  exact ⟨a, _, _, { s1 with heap := G }, delH (upd H1 d (.xd fs)) a, .ref C, some d, rfl, J, gs, ga, ho, ⟨rfl, rfl⟩, rfl, rfl, delH_same, rfl, I1.bare, hr, q⟩
end
end Pb

namespace Pb
open PySem PySem.W PyProof.Rows L2
/-- the clause tx of an except: by what an exception's class tells, it matches or not -/
def Clause (X : Cx) (tx : Expr) (CL : Value → Option Bool) : Prop :=
  ∀ (a : Addr) (oe : Obj) (pn pins : List (Addr × Obj)) (σ : L2.St) (H : Hp) (s : Shared) (cls : Value) (b : Bool) (Q : Value → Shared → Prop) (E : Value → Shared → Prop), Inv (X.suite a ((a, oe) :: pn)) pins σ H s →
    Looks (model X.prog X.w) s.heap (typeOf (.ref a)) cls → CL cls = some b →
    (∀ cv h', (∀ c o, s.heap.get? c = some o → h'.get? c = some o) → Looks (model X.prog X.w) h' (excMatches (.ref a) cv) b → Q cv { s with heap := h' }) →
    wpAny (model X.prog X.w) (X.A.mark (some (.ref a))) (eval tx X.env) Q E s
section
variable {X : Cx} {x y : Str} {c c' : Value} {np nq pos : Pos}
theorem cl_one (hc : Names X x c) : Clause X (.Name x np) (fun cls => exmOne X.K cls c) := by
  intro a oe pn pins σ H s cls b Q E S LT e fin
  have q := fin c s.heap (fun _ _ z => z) (exm_one (M := model X.prog X.w) S.kIn LT e)
  obtain ⟨hg, hdbg, hm | ⟨hm, hv, hnn⟩⟩ := hc
  · exact ld_glob (X := X.suite a ((a, oe) :: pn)) S hg hm q hdbg
  · exact ld_blt (X := X.suite a ((a, oe) :: pn)) S hg hm hv q hnn hdbg
theorem cl_two {k1} (hg : Gl X x) (hm : X.mg x = some c) (hg' : Gl X y) (hm' : X.mg y = some c') (hx : (x == ("__debug__" : Str)) = false := by decide) (hy : (y == ("__debug__" : Str)) = false := by decide)
    (hst : starEach [.Name x np, .Name y nq] X.env = [(false, eval (.Name x np) X.env), (false, eval (.Name y nq) X.env)] := by rfl) : Clause X (.Tuple [.Name x np, .Name y nq] k1 pos) (fun cls => exmAny X.K cls [c, c']) := by
  intro a oe pn pins σ H s cls b Q E S LT e fin
  refine wpAny_Tuple_spliced ?_
  rw [hst]
  show wpAny _ _ (spliced ((false, eval (.Name x np) X.env) :: (false, eval (.Name y nq) X.env) :: [])) _ _ _
  refine Calls.spliced_cons (ld_glob (X := X.suite a ((a, oe) :: pn)) S hg hm ?_ hx)
  refine Calls.spliced_cons (ld_glob (X := X.suite a ((a, oe) :: pn)) S hg' hm' ?_ hy)
  refine Calls.spliced_nil ⟨(by show 2 ≤ sizeLine; decide), ?_⟩
  have kp : ∀ d o, s.heap.get? d = some o → (s.heap.push { cls := .type "tuple", data := .seq [c, c'].toArray }).get? d = some o := fun d o z => Heap.get?_push_of_some _ z
  exact fin _ _ kp (exm_tup2 (M := model X.prog X.w) (S.kIn.keeps kp) (LT.keeps kp) (Heap.get?_push_size _ rfl) e)
end
section
variable {X : Cx} {pins : List (Addr × Obj)} {σ : L2.St} {H : Hp} {s : Shared}
/-- an object that is held fast, and wasn't there at the entry, is tracked from now on -/
theorem track {a : Addr} {oe : Obj} {vs : Array Value} {cls : Value} {d : Option Addr} (I : Inv X ((a, oe) :: pins) σ H s) (h0 : X.s_0.heap.get? a = none) (dt : oe.data = .fields vs) (hz : Zc cls d oe) (hp : ∀ p ∈ X.pn ++ pins, p.1 ≠ a) :
    Inv X pins σ (upd H a (exk a cls d)) s := by
  obtain ⟨ga, na, nL, nF, _⟩ := I.pin (a, oe) (List.mem_append_right _ List.mem_cons_self)
  dsimp only at ga na nL nF
  have neS : ∀ {b : Addr} {o : Obj}, X.s_0.heap.get? b = some o → b ≠ a := fun {b o} z e => by
    rw [e, h0] at z
    cases z
  have neH : ∀ {b : Addr} {o : HO}, H b = some o → b ≠ a := fun {b o} z e => by
    rw [e, na] at z
    cases z
  refine { ok := I.ok, os := I.os, bare := I.bare, base := ?_, loc := I.loc, cell := I.cell, free := ?_, freeC := fun x c e => ?_, pin := fun p hq => ?_, hok := fun b o e => ?_, len := I.len }
  · exact { keep := I.base.keep
            slot := I.base.slot
            free := fun b o z n hx => by rw [upd_ne (neS z)]; exact I.base.free b o z n hx
            there := I.base.there
            tups := fun b xs z => by rw [upd_ne (neH (I.base.tups b xs z))]; exact I.base.tups b xs z
            frzs := fun b o u z => by rw [upd_ne (neH (I.base.frzs b o u z))]; exact I.base.frzs b o u z
            tbls := fun b ps z => by
              obtain ⟨more, y⟩ := I.base.tbls b ps z
              exact ⟨more, by rw [upd_ne (neH y)]; exact y⟩ }
  · rw [upd_ne nL.symm]
    exact I.free
  · obtain ⟨v, o, go, dc⟩ := I.cell x c e
    have nc : c ≠ a := fun z => by
      rw [z, ga] at go
      cases go
      rw [dt] at dc
      cases dc
    rw [upd_ne nc]
    exact I.freeC x c e
  · have hq' : p ∈ X.pn ++ (a, oe) :: pins := by
      rcases List.mem_append.mp hq with z | z
      · exact List.mem_append_left _ z
      · exact List.mem_append_right _ (List.mem_cons_of_mem _ z)
    obtain ⟨g1, g2, g3⟩ := I.pin p hq'
    exact ⟨g1, by rw [upd_ne (hp p hq)]; exact g2, g3⟩
  · by_cases hb : b = a
    · subst hb
      rw [upd_same] at e
      cases e
      exact exk_ok ga hz dt
    · rw [upd_ne hb] at e
      exact (I.hok b o e).stay (fun _ _ _ z => z) (fun c z => by rw [upd_ne (neH z)]; exact z) fun c xs z => by rw [upd_ne (neH z)]; exact z
end
/-- what «except tx as n» wishes of an exception: behind the suite it is kept (slot i, n's, is empty) -/
def wG (CL : Value → Option Bool) (i : Nat) (ts : Addr → Value → Option Addr → TS) (Wout : WX) (D : Ends) : WX := fun cls d σ H => ∃ b, CL cls = some b ∧
  (b = true → ∀ a, H a = none → ts a cls d
    { nx := fun σ' H' => H' a = none → D.nx (σ'.set i none) (upd H' a (exk a cls d)), rt := fun v H' => H' a = none → D.rt v (upd H' a (exk a cls d)),
      bk := fun σ' H' => H' a = none → D.bk (σ'.set i none) (upd H' a (exk a cls d)), ct := fun σ' H' => H' a = none → D.ct (σ'.set i none) (upd H' a (exk a cls d)) } (σ.set i (some (.ref a))) H) ∧
  (b = false → Wout cls d σ H)
theorem fly_push {B h h' : Heap} {l : List Env} {e : Addr} {Z : Obj → Prop} (x : HandSPX.FlyingZ B l e Z h) (k : ∀ c o, h.get? c = some o → h'.get? c = some o) : HandSPX.FlyingZ B l e Z h' := by
  obtain ⟨x1, x2, x3, oe, vs, T, oT, ts, y1, y2, y3, y4, y5, y6, y7, y8, y9⟩ := x
  exact ⟨fun b o z => k b o (x1 b o z), x2, x3.of_keeps fun b o z _ => ⟨o, k b o z, rfl⟩, oe, vs, T, oT, ts, k _ _ y1, y2, y3, y4, y5, y6, k _ _ y7, y8, y9⟩
theorem slots_push {h h1 h2 : Heap} (x : h.UpToSlots h1) (k : ∀ c o, h1.get? c = some o → h2.get? c = some o) : h.UpToSlots h2 := fun b o z n => by
  obtain ⟨sl, y⟩ := x b o z n
  exact ⟨sl, k _ _ y⟩
section
variable {X : Cx} {n : Str} {tx : Expr} {CL : Value → Option Bool} {i : Nat} {body suite : List Stmt} {b₀ : Stmt} {pos pos' : Pos} {tb : WX → TS} {ts : Addr → Value → Option Addr → TS} {Wout : WX}
theorem ps_tryG (hs : X.stack = X.env :: X.outer) (hf : X.env.frame = some X.env.locals) (hex : X.ex = []) (hN : X.N.Nodup) (hi : X.N[i]? = some n) (hln : X.env.kindOf n = some .local) (hc : Clause X tx CL) (tk : Takes X Wout)
    (hb : ∀ (W : WX) (pn : List (Addr × Obj)) (xe : Value → Shared → Prop), Takes (X.tr pn xe) W → PassesOwn (model X.prog X.w) X.A X.env xe → PSs (X.tr pn xe) body (tb W))
    (hsu : ∀ (a : Addr) (oe : Obj) (cls : Value) (d : Option Addr) (pn : List (Addr × Obj)), Zc cls d oe → (∃ vs, oe.data = .fields vs) → PSs (X.suite a ((a, oe) :: pn)) (b₀ :: suite) (ts a cls d)) :
    PS X (.Try body [.ExceptHandler (some tx) (some n) (b₀ :: suite) pos'] [] [] pos) (fun D σ H => tb (wG CL i ts Wout D) D σ H) := by
  refine ⟨fun pins s σ H D I hyp => ?_⟩
  have ok := I.ok
  have frm : X.A.frames = some (X.env :: X.outer) := by rw [ok.frames, hs]
  refine wpAny_Try_except ?_
  refine wpAny_mono ((hb (wG CL i ts Wout D) (X.pn ++ pins) (fun e s₁ => wpAny (model X.prog X.w) X.A (noteFrame e X.env) (fun _ s₂ => wpAny (model X.prog X.w) X.A (setFlight e none)
    (fun _ s₃ => wpAny (model X.prog X.w) X.A (handleBy e X.env [.ExceptHandler (some tx) (some n) (b₀ :: suite) pos']) (SP X pins D) X.xe s₃) X.xe s₂) X.xe s₁) (fun u s' xx => ?_) PassesOwn.looking).run [] s σ H D (I.toTry _) hyp) (fun f s1 hsp => ?_) (fun e s1 he => he)
  · obtain ⟨a, B, sI, pins', σ', H', cls, d, eu, J', nb, up, sky, na, os, ag, b, hCL, hyes, hno⟩ := xx
    subst eu
    have J : Inv X pins σ' H' sI := J'.ofTry ok
    have sky2 : Sky B (X.env :: X.outer) a (Zc cls d) X.env.locals s'.heap := by
      rw [← hs]
      exact sky
    show wpAny (model X.prog X.w) X.A (noteFrame (.ref a) X.env) _ _ _
    refine Sky.land Zc.steady frm hf sky2 fun h3 fl3 up3 => ?_
    have J3 : Inv X pins σ' H' { s' with heap := h3 } := J.landed nb fl3.1 (up.trans up3) os ag
    obtain ⟨oe3, vs3, he3, hz3, hd3⟩ := fl3.there
    have nfr : a ∉ frs (X.env :: X.outer) := fun hm => by
      obtain ⟨_, o', e', hnf⟩ := fl3.2.2.1.mem hm
      rw [he3] at e'
      cases e'
      exact hnf _ hd3
    have nL : a ≠ X.env.locals := fun z => nfr (List.mem_filterMap.mpr ⟨X.env, List.mem_cons_self, by rw [hf, z]⟩)
    have nF : a ∉ X.fs := fun hm => by
      obtain ⟨e, he, q⟩ := List.mem_filterMap.mp hm
      exact nfr (List.mem_filterMap.mpr ⟨e, List.mem_cons_of_mem _ he, q⟩)
    have nI : sI.heap.get? a = none := by
      cases q : sI.heap.get? a with
      | none => rfl
      | some o =>
        have z := nb a o q (by rw [hs]; exact nfr)
        rw [fl3.2.1] at z
        cases z
    have n0 : X.s_0.heap.get? a = none := by
      cases q : X.s_0.heap.get? a with
      | none => rfl
      | some o =>
        obtain ⟨o', z⟩ := J.base.there a o q (by rw [hex]; exact fun z => nomatch z)
        rw [nI] at z
        cases z
    have nP : ∀ p ∈ X.pn ++ pins, p.1 ≠ a := fun p hp z => by
      have y := (J.pin p hp).1
      rw [z, nI] at y
      cases y
    have S3 := J3.suite he3 hd3 na nL nF
    refine wpAny_handleBy_cons (codeAny_handlers_test ?_) (by intro q; cases q)
    have LT : Looks (model X.prog X.w) h3 (typeOf (.ref a)) cls := fun A Q E s k q => wpAny_typeOf_ref (k _ _ he3) (by rw [hz3.1]; exact q)
    refine hc a oe3 (X.pn ++ pins) [] σ' H' _ cls b _ _ S3 LT hCL fun cv h5 k5 LM => ?_
    refine LM.here ?_
    have fl5 : HandSPX.FlyingZ B (X.env :: X.outer) a (Zc cls d) h5 := fly_push fl3 k5
    have up5 : sI.heap.UpToSlots h5 := slots_push (up.trans up3) k5
    cases b with
    | true =>
      refine codeAny_handlers_suite_as ?_
      refine HandSPX.lands_againZ fl5 fun h4 fl4 up4 => ?_
      have J4 : Inv X pins σ' H' { s' with heap := h4 } := J.landed nb fl4.1 (up5.trans up4) os ag
      obtain ⟨oe4, vs4, he4, hz4, hd4⟩ := fl4.there
      have S4 := J4.suite he4 hd4 na nL nF
      refine store_ok (X := X.suite a ((a, oe4) :: (X.pn ++ pins))) (v := .ref a) S4 hN hi (.inl hln) rfl (fun s5 S5 => ?_) (.inr hln)
      refine wpAny_mono ((hsu a oe4 cls d (X.pn ++ pins) hz4 ⟨_, hd4⟩).run [] s5 _ H' _ S5 (hyes rfl a na)) (fun f s6 hsp => ?_) (fun _ _ z => False.elim z)
      have fin : ∀ {σ6 : L2.St} {H6 : Hp} {Q : Shared → Prop}, Inv (X.suite a ((a, oe4) :: (X.pn ++ pins))) [] σ6 H6 s6 → (H6 a = none → ∀ s7, Inv X pins (σ6.set i none) (upd H6 a (exk a cls d)) s7 → Q s7) →
          wpAny (model X.prog X.w) X.A (do bindName X.env n .none; unbindBehindTheSuite X.env n pos') (fun _ s7 => Q s7) X.xe s6 := fun {σ6 H6 Q} S6 hq => by
        have J6 : Inv X pins σ6 H6 s6 := S6.unsuite ok
        have pa := S6.pin (a, oe4) (List.mem_append_left _ List.mem_cons_self)
        have J6' : Inv X ((a, oe4) :: pins) σ6 H6 s6 := J6.pins_of fun p hp => by
          rcases List.mem_cons.mp hp with e | z
          · rw [e]
            exact pa
          · exact J6.pin p (List.mem_append_right _ z)
        exact gone_ok J6' hN hi hln fun s7 J7 => hq pa.2.1 s7 (track J7 n0 hd4 hz4 nP)
      cases f with
      | next =>
        obtain ⟨σ6, H6, S6, q6⟩ := hsp
        exact fin S6 fun e s7 J7 => ⟨_, _, J7, q6 e⟩
      | brk =>
        obtain ⟨σ6, H6, S6, q6⟩ := hsp
        exact fin S6 fun e s7 J7 => ⟨_, _, J7, q6 e⟩
      | cont =>
        obtain ⟨σ6, H6, S6, q6⟩ := hsp
        exact fin S6 fun e s7 J7 => ⟨_, _, J7, q6 e⟩
      | ret u =>
        obtain ⟨v6, σ6, H6, S6, r6, q6⟩ := hsp
        exact fin S6 fun e s7 J7 => ⟨_, _, _, J7, r6, q6 e⟩
    | false =>
      show wpAny _ X.A (handleBy (.ref a) X.env []) _ _ _
      refine wpAny_handleBy_nil ?_
      obtain ⟨y1, y2, y3, oe, vs, T, oT, ts', he, hz, hd, h1, hr⟩ := id fl5
      unfold PySem.passOn
      refine wpAny_bind (wpAny_field he hd h1 ?_)
      rw [if_neg (show ¬ ((Value.ref T == Value.none) = true) from by simp)]
      have fin : wpAny (model X.prog X.w) X.A (setFlight (.ref a) X.env.frame) (fun _ s4 => wpAny (model X.prog X.w) X.A (throw (.ref a) : Sem Flow) (SP X pins D) X.xe s4) X.xe { s' with heap := h5 } := by
        rw [hf]
        refine HandSPX.setFlight_upZ fl5 fun h4 hh4 up4 => wpAny_throw (tk _ _ ?_)
        exact ⟨a, B, sI, pins, σ', H', cls, d, rfl, J, nb, up5.trans up4, .inr (.inr (by rw [hs]; exact hh4)), na, os, ag, hno rfl⟩
      first
        | exact wpAny_bind (wpAny_pure (wpAny_bind fin))
        | exact wpAny_bind fin
  · cases f with
    | next =>
      obtain ⟨σ', H', J', q⟩ := hsp
      exact wpAny_execs_nil ⟨σ', H', J'.ofTry ok, q⟩
    | brk =>
      obtain ⟨σ', H', J', q⟩ := hsp
      exact ⟨σ', H', J'.ofTry ok, q⟩
    | cont =>
      obtain ⟨σ', H', J', q⟩ := hsp
      exact ⟨σ', H', J'.ofTry ok, q⟩
    | ret u =>
      obtain ⟨v, σ', H', J', r, q⟩ := hsp
      exact ⟨v, σ', H', J'.ofTry ok, r, q⟩
end
end Pb

/-! ### defs that show things: called where nothing is being shown -/
namespace Pb
open PySem PySem.Spec PyProof.Rows L2
/-- as FnOk, where no repr is under way -/
structure FnG (P : Program) (w : World) (K : PySem.W.Frag) (mg : Str → Option Value) (base : Heap) (CX : CXT) (k : Nat) (f : Addr) (fd : FuncData) (ps : List Str) (sp : Sp) : Prop where
  len : ∀ vs H Q E, sp vs H Q E → vs.length = ps.length
  run : ∀ (A : Around) (outer : List Env) (s : Shared) (H : Hp) (args : Args) (us : List Value) (vs : List V) (Q : VK) (E : XK), A.guards = some [] → Room k A → Env0 P w K mg base A outer s H → BindsTo s fd args (ps.zip us) →
    Vals vs us → sp vs H Q E → codeAny (model P w) A (.call (.ref f) args) (CR CX outer P w H s Q E) s
section
variable {P : Program} {w : World} {K : PySem.W.Frag} {mg : Str → Option Value} {base : Heap} {CX : CXT} {k : Nat} {f : Addr} {ps : List Str} {sp : Sp}
theorem FnG.of {fd : FuncData} (F : FnOk P w K mg base CX k f fd ps sp) : FnG P w K mg base CX k f fd ps sp :=
  ⟨F.len, fun A outer s H args us vs Q E _ => F.run A outer s H args us vs Q E⟩
theorem FnG.mono {fd : FuncData} {j : Nat} (F : FnG P w K mg base CX k f fd ps sp) (h : k ≤ j) : FnG P w K mg base CX j f fd ps sp :=
  ⟨F.len, fun A outer s H args us vs Q E hg hr => F.run A outer s H args us vs Q E hg (hr.mono h)⟩
variable {name qual : Str} {params : Arguments} {body : List Stmt} {scope : Scope} {dvs : List V} {kws : List (Str × V)} {fd : FuncData} {N : List Str}
theorem fnG_of (F : FunD K name qual params body scope dvs kws f fd) (S : FnScope N ps scope) (len : ∀ vs H Q E, sp vs H Q E → vs.length = ps.length)
    (hbody : ∀ (cdv : Value) (A : Around) (outer : List Env) (s : Shared) (H : Hp) (vs : List V) (Q : VK) (E : XK), A.guards = some [] → Room k (A.deeper (envOfC qual scope s.heap.objs.size f cdv)) → sp vs H Q E →
      ∃ t, PSs (cxOf CX P w K mg base N qual scope f cdv A outer s H E) body t ∧ t { nx := fun _ H' => Q .non H', rt := Q } (start N vs) H) : FnG P w K mg base CX (k + 1) f fd ps sp := by
  obtain ⟨oc, od, dV, kV, doc, pm, an, cdv, ct, osl, efd, lk, hcd, _, _⟩ := F.ex
  subst efd
  refine ⟨len, fun A outer s H args us vs Q E hg hr e0 hb r hsp => ?_⟩
  have hl := len _ _ _ _ hsp
  have k1 : K.In s.heap := e0.mod.kin.keeps fun b o e => (e0.bs b o e).1
  have k2 : s.heap.NoLimit := e0.mod.nolimit.keeps fun b o e => (e0.bs b o e).1
  have k3 : ∀ y ∈ ps.zip us, scope.names.lookup y.1 = some .local ∨ (scope.names.lookup y.1 = some .cell ∧ ((cellsFrom (s.heap.objs.size + 1) scope.names []).lookup y.1).isSome = true) := by
    rintro ⟨y, v⟩ hy
    rcases S.par y (List.of_mem_zip hy).1 with z | z
    · exact .inl z
    · exact .inr ⟨z, PySem.W.cellsFrom_some _ _ _ (.inl z)⟩
  refine codeAny_call_function hr.depth (k1 _ _ lk) rfl S.co S.gen rfl (PySem.W.codeRec_of k1 hcd) (hb _ _ _ _ ?_)
  refine wpAny_newFunctionEnv_cells S.kind k3 fun env he s1 x => ?_
  subst he
  refine ⟨k2.keeps x.toInCall.keep, codeAny_func ?_⟩
  obtain ⟨t, ht, hq⟩ := hbody cdv A outer s H vs Q E hg (hr.deeper _) hsp
  have I : Inv (cxOf CX P w K mg base N qual scope f cdv A outer s H E) [] (start N vs) H s1 := inv_start S hr.hd e0 hl r x
  refine wpAny_mono (ht.run [] s1 (start N vs) H _ I hq) (fun fl s' hs => ?_) fun e s' hs => hs
  cases fl with
  | ret u =>
    obtain ⟨v, σ', H', J, rv, q⟩ := hs
    exact ⟨v, H', J.os, J.bare, J.base, J.hok, rv, q⟩
  | next =>
    obtain ⟨σ', H', J, q⟩ := hs
    exact ⟨V.non, H', J.os, J.bare, J.base, J.hok, rfl, q⟩
  | brk =>
    obtain ⟨_, _, _, q⟩ := hs
    exact q.elim
  | cont =>
    obtain ⟨_, _, _, q⟩ := hs
    exact q.elim
end
section
variable {X : Cx} {CX : CXT} {k : Nat} {f : Addr} {fd : FuncData} {ps : List Str} {sp : Sp} {ds : List Value} {dvs : List V} {E : XK} {x : Str} {p pos : Pos} {e : Expr} {es : List Expr} {t : TA}
/-- f(e, ..) of such a def -/
theorem pe_callG (F : FnG X.prog X.w X.K X.mg X.base CX k f fd ps sp) (gd : X.A.guards = some []) (hr : Room k X.A) (hg : Gl X x) (hm : X.mg x = some (.ref f)) (hk : PySem.W.keepIn X.K (.ref f) = true) (hb : Binds X.K fd ps ds) (hd : Vals dvs ds) (hx : Passes CX X E)
    (ha : PA X (e :: es) t) (hdb : (x == ("__debug__" : Str)) = false := by decide) (he : starEach (e :: es) X.env = (false, eval e X.env) :: starEach es X.env := by rfl) (hpl : (backTo pos (starEach es X.env)).any (·.1) = false := by rfl) :
    PE X (.Call (.Name x p) (e :: es) [] pos) (tCall sp dvs E t) := by
  refine ⟨fun pins s σ H Q I hyp => ?_⟩
  refine wpAny_Call_Name_kw (ld_glob I hg hm ?_ hdb)
  refine PySem.W.callWith_K (h₀ := X.base) I.ok.mod.kin hk (thn (ha.run pos pins s σ H _ I hyp) fun us s1 z => ?_) he hpl
  obtain ⟨vs, H1, I1, r, q⟩ := z
  refine ⟨I1.kIn, ?_⟩
  have r2 : Vals (vs ++ dvs) (us ++ ds) := r.append hd
  have hl : (us ++ ds).length = ps.length := by
    rw [← r2.length]
    exact F.len _ _ _ _ q
  refine wpAny_call (codeAny_mono (F.run X.A X.stack s1 H1 ⟨us, []⟩ (us ++ ds) (vs ++ dvs) Q E gd hr I1.env0 (hb s1 us I1.kIn hl) r2 q) fun r s' hq => ?_)
  cases r with
  | error e => exact hx pins σ H1 s1 e s' I1 hq
  | ok fl =>
    cases fl with
    | ret u => exact I1.after hq
    | next => exact False.elim hq
    | brk => exact False.elim hq
    | cont => exact False.elim hq
/-- repr(x) of data at any depth -/
def rRepr (K : PySem.W.Frag) : List V → Hp → VK → Prop := fun xs H Q => ∃ (a : Addr) (d : PyData), xs = [.ref a] ∧ Dp K H (.ref a) d ∧ d.showable = true ∧ d.hasDict = false ∧ d.depth ≤ 60 ∧ d.shown.length ≤ sizeLine ∧ Q (.str d.shown) H
theorem call_repr (gd : X.A.guards = some []) (hr : Room k X.A) : CallR X (.builtin "repr") (rRepr X.K) := by
  intro pins s σ H xs us Q I r hyp
  obtain ⟨a, d, ex, hd, h1, h2, h3, h4, q⟩ := hyp
  subst ex
  cases r with
  | cons rx rn =>
    cases rn
    obtain ⟨as, rd⟩ := Dp.reads I d _ _ hd rx
    cases rx
    have hu := hr.un
    refine repr_of_reads' rd h1 (PyData.noDict_hsm h2) gd (by omega) (fun _ _ z => z) (fun h' u tk kp => ?_) h4
    exact ⟨.str d.shown, H, I.kept (t' := tk) kp, ⟨u, rfl⟩, q⟩
end
end Pb

/-! ### the end: a law whose def shows things -/
namespace Pb
open PySem PySem.Spec PyProof.Rows L2
theorem lawG {P : Program} {w : World} {K : PySem.W.Frag} {mg mb : Str → Option Value} {CX : CXT} {k : Nat} {fa a : Addr} {fd : FuncData} {x : Str} {sp : Sp} {s₁ : Shared} {vs : List Value} {ns : List Int} (KX : K.In s₁.heap) (hns : s₁.heap.Ns mainGlobals mg)
    (hb : s₁.heap.Ns builtinsNs mb) (hbb : ∀ x : Str, x ≠ "__name__" → mb x = bootBuiltins x) (hlim : s₁.heap.NoLimit) (hg : s₁.gens = #[]) (ha : s₁.heap.get? a = some { cls := .type "list", data := .seq vs.toArray }) (hi : IntsAre vs ns) (hl : ns.length ≤ sizeLine)
    (hr : Room k callerA) (F : ∀ base : Heap, K.In base → base.Ns mainGlobals mg → FnG P w K mg base CX k fa fd [x] sp) (hbind : ∀ (s : Shared) (u : Value), BindsTo s fd ⟨[u], []⟩ [(x, u)])
    (hsp : ∀ H : Hp, Only H → SqL K H a (ns.map V.int) → sp [.ref a] H (fun v _ => v = .bl true) fun _ _ _ => False) (hCX : ∀ H e s', CX [] H s₁ (fun _ _ _ => False) e s' → False) :
    codeAny (model P w) callerA (.call (.ref fa) ⟨[.ref a], []⟩) (fun r s' => r = .ok (.ret (.bool true)) ∧ OldK s₁.heap s'.heap ∧ s'.os = s₁.os ∧ AllBare s'.gens) s₁ := by
  have vi := vals_ints hi
  have li := hi.length
  have core : ∀ H : Hp, Only H → SqL K H a (ns.map V.int) → HOk P w H s₁.heap → (∀ b, H b ≠ none → b = a) → (H a ≠ none → K.lookup a = none) →
      codeAny (model P w) callerA (.call (.ref fa) ⟨[.ref a], []⟩) (fun r s' => r = .ok (.ret (.bool true)) ∧ OldK s₁.heap s'.heap ∧ s'.os = s₁.os ∧ AllBare s'.gens) s₁ := fun H hO hS hok hA hK => by
    have free : ∀ {b : Addr}, b ≠ a → H b = none := fun {b} nb => by
      cases q : H b with
      | none => rfl
      | some u => exact absurd (hA b (by rw [q]; simp)) nb
    have noA : ∀ {b : Addr} {o : Obj} {es : Array DictEntry} {ep : Nat}, s₁.heap.get? b = some o → o.data = .dict es ep → H b = none := fun {b o es ep} e d => free fun z => by
      rw [z, ha] at e
      cases e
      cases d
    have nsK : ∀ {b : Addr} {m : Str → Option Value}, s₁.heap.Ns b m → (hidT s₁.heap H).Ns b m := fun {b m} z => by
      obtain ⟨o, es, ep, e, d, r⟩ := z
      exact ⟨o, es, ep, hidT_get e (noA e d), d, r⟩
    have kb : K.In (hidT s₁.heap H) := fun b o e => hidT_get (KX b o e) (by
      cases q : H b with
      | none => rfl
      | some u =>
        have z := hA b (by rw [q]; simp)
        rw [z] at e q
        rw [hK (by rw [q]; simp)] at e
        cases e)
    have mo : Mod K mg (hidT s₁.heap H) := by
      obtain ⟨mc, l1, l2⟩ := hlim
      exact ⟨kb, nsK hns, ⟨mb, nsK hb, hbb⟩, ⟨mc, nsK l1, l2⟩⟩
    have e0 : Env0 P w K mg (hidT s₁.heap H) callerA [] s₁ H :=
      ⟨rfl, mo, fun b o e => of_hidT e, Nat.le_of_eq (hidT_size _ _), trivial, (fun b z => nomatch (show b ∈ ([] : List Addr) from z)), hok, .of_eq hg⟩
    refine codeAny_mono ((F _ kb (nsK hns)).run callerA [] s₁ H ⟨[.ref a], []⟩ [.ref a] [.ref a] _ _ rfl hr e0 (hbind s₁ (.ref a)) (.cons rfl .nil) (hsp H hO hS)) fun r s' z => ?_
    cases r with
    | error e => exact (hCX H e s' z).elim
    | ok fl =>
      cases fl with
      | next => exact z.elim
      | brk => exact z.elim
      | cont => exact z.elim
      | ret u =>
        obtain ⟨v, H', os, bare, un, hok', rv, q⟩ := z
        cases (show v = .bl true from q)
        cases (show u = Value.bool true from rv)
        refine ⟨rfl, OldK.of_keep fun b o e => ?_, os, bare⟩
        rcases hO b with y | ⟨ob, xs, y⟩
        · exact un.keep b o e y (fun z => nomatch (show b ∈ ([] : List Addr) from z)) (fun z => nomatch z)
        · obtain ⟨e1, _⟩ := hok b _ y
          obtain ⟨e2, _⟩ := hok' b _ (un.frzs b ob _ y)
          rw [e] at e1
          cases e1
          exact e2
  cases hk : K.lookup a with
  | some o =>
    have e := KX a o hk
    rw [ha] at e
    cases e
    refine core (fun _ => none) (fun _ => .inl rfl) (.inr ⟨_, vs.toArray, _, hk, rfl, rfl, rfl, ?_, by simpa using vi⟩) (fun b u z => by cases z) (fun b z => absurd rfl z) fun z => absurd rfl z
    rw [List.size_toArray, li]
    exact hl
  | none =>
    have y : upd (fun _ => none) a (.frz { cls := .type "list", data := .seq vs.toArray } (.lst (ns.map V.int))) a = some (.frz { cls := .type "list", data := .seq vs.toArray } (.lst (ns.map V.int))) := upd_same
    refine core (upd (fun _ => none) a (.frz { cls := .type "list", data := .seq vs.toArray } (.lst (ns.map V.int)))) (fun b => ?_) (.inl (.inr ⟨_, y⟩)) (fun b u z => ?_) (fun b z => ?_) fun _ => hk
    · by_cases e : b = a
      · rw [e]
        exact .inr ⟨_, _, y⟩
      · exact .inl (upd_ne e)
    · by_cases e : b = a
      · rw [e, y] at z
        cases z
        rw [e]
        exact ⟨ha, by rw [List.length_map]; exact hl, vs, _, vi, ha⟩
      · rw [upd_ne e] at z
        cases z
    · by_cases e : b = a
      · exact e
      · exact absurd (upd_ne e) z
theorem walkG {l : PySem.W.OpenLaw} {n k : Nat} {q : Program} {loose : List Str} {XP : (Str → Option Value) → Heap → Prop} {YP : World → Heap → Prop} {d : DefRec} {CX : CXT} {x : Str} (hn : l.most = some n) (hn2 : n ≤ sizeLine) (hdf : d.params.defaults = []) (hr : Room k callerA)
    (F : ∀ (w : World) (mg : Str → Option Value) (fa : Addr) (h : Heap), YP w h → h.Ns mainGlobals mg → mg d.name = some (.ref fa) →
      ∃ (K : PySem.W.Frag) (fd : FuncData) (sp : Sp), K.In h ∧ (∀ (s : Shared) (u : Value), BindsTo s fd ⟨[u], []⟩ [(x, u)]) ∧ (∀ (H : Hp) (a : Addr) (ns : List Int), ns.length ≤ n → Only H → SqL K H a (ns.map V.int) → sp [.ref a] H (fun v _ => v = .bl true) fun _ _ _ => False) ∧
        ∀ base : Heap, K.In base → base.Ns mainGlobals mg → FnG l.prog w K mg base CX k fa fd [x] sp)
    (hCX : ∀ (H : Hp) (s : Shared) (e : Value) (s' : Shared), CX [] H s (fun _ _ _ => False) e s' → False) : PySem.W.WalkO q loose XP YP l.row.toRowW d [] (fun f vs => PySem.call f vs) := by
  refine Att.attach_call hn hdf fun w s₀ s₁ mg mb fa o pm cd doc a vs ns G Y ho hd hcd hmg hobj hints hlen hg => ?_
  obtain ⟨K, fd, sp, KX, bb, hs, hF⟩ := F w mg fa _ Y G.T.g hmg
  exact lawG KX G.T.g G.T.b G.T.builtins G.T.nolimit hg hobj hints (Nat.le_trans hlen hn2) hr hF bb (fun H hO hS => hs H a ns hlen hO hS) fun H e s' => hCX H s₁ e s'
/-! ### the head's facts: any checks of the written part, and the defs -/
def obsX (cks : List (PySem.W.Frag → Bool)) (fn : List He.DefD) (K : PySem.W.Frag) : He.AlD := ((cks.all fun c => c K) && fn.all fun d => d.ok K, fn.map fun d => He.fnW K d.at_)
def SaysX (cks : List (PySem.W.Frag → Bool)) (fn : List He.DefD) (K : PySem.W.Frag) : Prop := obsX cks fn K = He.valD fn
def obsXG (n : Nat) (cks : List (PySem.W.Frag → Bool)) (fn : List He.DefD) (g : Addr → Option Obj) : He.AlD := obsX cks fn (He.frG g (He.asD g n))
def hookX (n : Nat) (cks : List (PySem.W.Frag → Bool)) (fn : List He.DefD) : PySem.W.Hook where
  α := He.AlD
  obs := fun s => obsXG n cks fn s.heap.get?
  val := fun _ => He.valD fn
  says := fun _ h => ∃ K : PySem.W.Frag, K.In h ∧ SaysX cks fn K
  of := fun _ _ e => ⟨_, He.frG_in, e⟩
  keeps := fun _ _ _ ⟨K, hK, c⟩ k => ⟨K, PySem.W.Frag.In.keeps hK k, c⟩
theorem obsXG_eq {n : Nat} {cks : List (PySem.W.Frag → Bool)} {fn : List He.DefD} {g : Addr → Option Obj} {s : Shared} (h : ∀ a, g a = s.heap.get? a) : obsXG n cks fn g = (hookX n cks fn).obs s := by
  have e : g = s.heap.get? := funext h
  rw [e]
  rfl
section
variable {cks : List (PySem.W.Frag → Bool)} {fn : List He.DefD} {K : PySem.W.Frag}
theorem SaysX.all (c : SaysX cks fn K) : (cks.all fun c => c K) = true := (He.ba (show ((cks.all fun c => c K) && fn.all fun d => d.ok K) = true from congrArg (fun z : He.AlD => z.1) c)).1
theorem SaysX.fact (c : SaysX cks fn K) (i : Nat) {f : PySem.W.Frag → Bool} (h : cks[i]? = some f := by rfl) : f K = true := List.all_eq_true.mp c.all f (List.mem_of_getElem? h)
theorem SaysX.def_ (c : SaysX cks fn K) (i : Nat) {d : He.DefD} (h : fn[i]? = some d := by rfl) : ∃ fd, FunD K d.name d.qual d.params d.body d.scope (d.dvs K) (d.kws K) (He.fAd K d.at_) fd := by
  have c2 := (He.ba (show ((cks.all fun c => c K) && fn.all fun d => d.ok K) = true from congrArg (fun z : He.AlD => z.1) c)).2
  have e : fn.map (fun d => He.fnW K d.at_) = fn.map He.DefD.val := congrArg (fun z : He.AlD => z.2) c
  have e2 : (fn.map fun d => He.fnW K d.at_)[i]? = (fn.map He.DefD.val)[i]? := by rw [e]
  rw [List.getElem?_map, List.getElem?_map, h] at e2
  exact He.DefD.funD (Option.some.inj e2) (List.all_eq_true.mp c2 d (List.mem_of_getElem? h))
end
def gloB (x : Str) (K : PySem.W.Frag) : Bool := (He.Fa.glo x).ok K
def freeB (x : Str) (K : PySem.W.Frag) : Bool := (He.Fa.free x).ok K
end Pb

/-! ### data that can be shown: of small numbers and texts, few things -/
namespace Pb
open PySem PySem.Spec PyProof.Rows L2
structure Sm (n k : Nat) (d : PyData) : Prop where
  sh : d.showable = true
  ls : d.leavesShort 13 = true
  nd : d.hasDict = false
  dp : d.depth ≤ k
  bk : d.bulk ≤ n
structure SmA (n k : Nat) (ds : List PyData) : Prop where
  sh : PyData.showableAll ds = true
  ls : PyData.leavesShortAll 13 ds = true
  nd : PyData.hasDictAll ds = false
  dp : PyData.depthAll ds ≤ k
  bk : PyData.bulkAll ds ≤ n
theorem Sm.fits {n k : Nat} {d : PyData} (h : Sm n k d) (hn : n ≤ 1048576) : d.shown.length ≤ sizeLine := PyData.shown_fits_bulk (B := 13) (by decide) (by decide) h.ls (Nat.le_trans h.bk hn)
theorem Sm.int {i : Int} (h : i.natAbs < 10 ^ 12) : Sm 0 0 (.int i) where
  sh := decide_eq_true (by
    by_cases e : i.natAbs = 0
    · rw [e]
      decide
    · have z : i.natAbs < 2 ^ 1920 := Nat.lt_trans h (by decide)
      exact (Nat.log2_lt e).mpr z)
  ls := decide_eq_true (PyData.shown_int_le h)
  nd := rfl
  dp := Nat.le_refl _
  bk := Nat.le_refl _
theorem SmA.nil : SmA 0 0 [] := ⟨rfl, rfl, rfl, Nat.le_refl _, Nat.le_refl _⟩
theorem SmA.cons {n m k j : Nat} {d : PyData} {ds : List PyData} (h : Sm n k d) (t : SmA m j ds) : SmA (n + 1 + m) (max k j) (d :: ds) where
  sh := by
    show (d.showable && PyData.showableAll ds) = true
    rw [h.sh, t.sh]
    rfl
  ls := by
    show (d.leavesShort 13 && PyData.leavesShortAll 13 ds) = true
    rw [h.ls, t.ls]
    rfl
  nd := by
    show (d.hasDict || PyData.hasDictAll ds) = false
    rw [h.nd, t.nd]
    rfl
  dp := by
    show max d.depth (PyData.depthAll ds) ≤ max k j
    have := h.dp
    have := t.dp
    omega
  bk := by
    show d.bulk + 1 + PyData.bulkAll ds ≤ n + 1 + m
    have := h.bk
    have := t.bk
    omega
theorem Sm.tup {n k : Nat} {ds : List PyData} (h : SmA n k ds) : Sm n (k + 1) (.tuple ds) := ⟨h.sh, h.ls, h.nd, Nat.succ_le_succ h.dp, h.bk⟩
theorem Sm.lst {n k : Nat} {ds : List PyData} (h : SmA n k ds) : Sm n (k + 1) (.list ds) := ⟨h.sh, h.ls, h.nd, Nat.succ_le_succ h.dp, h.bk⟩
theorem Sm.str {x : Str} {n : Nat} (h : (x.cps.toList.all fun c => decide (c < 16 ^ 8)) = true) (hn : x.cps.size ≤ n) : Sm n 0 (.str x) := ⟨rfl, h, rfl, Nat.le_refl _, hn⟩
end Pb

namespace Pb
open PySem PySem.Spec PyProof.Rows L2
/-- for i, x in enumerate(xs), by a word between the turns -/
theorem for_enumL {K : PySem.W.Frag} {a : Addr} {xs : List V} {g : TG} {tb : TS} {D : Ends} {σ : L2.St} {H : Hp} (Pv : Nat → L2.St → Hp → Prop) (start : Pv 0 σ H) (stays : ∀ i σ H, i ≤ xs.length → Pv i σ H → SqL K H a xs)
    (turn : ∀ i x T σ H, xs[i]? = some x → H T = none → Pv i σ H → g (.ref T) σ (upd H T (.tup [.int (i : Nat), x])) fun σ2 H2 => tb { D with nx := Pv (i + 1), ct := Pv (i + 1), bk := D.nx } σ2 H2) (behind : ∀ σ H, Pv xs.length σ H → D.nx σ H) :
    ∃ W : Nat → Nat → L2.St → Hp → Prop, (∃ m, W 0 m σ H) ∧ ∀ i m σ H, W i m σ H → ((Ite K a).stop i H ∧ D.nx σ H) ∨ ((Ite K a).go i H ∧ ∃ N : L2.St → Hp → Prop, (∀ σ' H', N σ' H' → ∃ m', m' < m ∧ W (i + 1) m' σ' H') ∧
      ∀ x H', (Ite K a).yld i H x H' → g x σ H' fun σ2 H2 => tb { D with nx := N, ct := N, bk := D.nx } σ2 H2) := by
  refine ⟨fun i m σ H => m = xs.length - i ∧ i ≤ xs.length ∧ Pv i σ H, ⟨xs.length, by simp, Nat.zero_le _, start⟩, fun i m σ H hw => ?_⟩
  obtain ⟨em, hi, p⟩ := hw
  have hq := stays i σ H hi p
  by_cases lt : i < xs.length
  · refine .inr ⟨⟨xs, xs[i], hq, by simp [lt]⟩, Pv (i + 1), fun σ' H' p' => ⟨xs.length - (i + 1), by omega, rfl, lt, p'⟩, fun v H' y => ?_⟩
    obtain ⟨T, x, ev, nT, eH, hx⟩ := y
    subst ev eH
    exact turn i x T σ H (hx xs hq) nT p
  · have e : i = xs.length := by omega
    subst e
    exact .inl ⟨⟨xs, hq, Nat.le_refl _⟩, behind σ H p⟩
end Pb

namespace Pb
open PySem PySem.Spec PyProof.Rows L2
def top (i : Nat) : Stmt := PySem.Challenge.pw_pathbook_k02_refusals_by_hand.main.body.getD i (.Pass ⟨0, 0, 0, 0⟩)
abbrev FnP (K : PySem.W.Frag) (x : Str) (st : Stmt) (f : Addr) (fd : FuncData) : Prop := FunD K x x (defArgs st) (defBody st) (defScope st) [] [] f fd
/-! ### what is drawn -/
def drV (c : Addr) (n l u : Int) : List (Key × V) := [(.inr "cells", .ref c), (.inr "at", .int n), (.inr "left", .int l), (.inr "used", .int u)]
/-- a draw at d, of which at most n were drawn -/
def Dr (H : Hp) (d : Addr) (n : Nat) : Prop := ∃ (c : Addr) (a l u : Int) (cells : List Int), H d = some (.dK (drV c a l u)) ∧ H c = some (.lst (cells.map V.int)) ∧
  cells ≠ [] ∧ cells.length ≤ 100 ∧ 0 ≤ a ∧ a ≤ n ∧ 0 ≤ u ∧ u ≤ n
def But (d : Addr) (H H' : Hp) : Prop := ∀ b, b ≠ d → H' b = H b
abbrev sBegin : Stmt := top 18
abbrev sMixed : Stmt := top 19
abbrev sNext : Stmt := top 20
theorem scBegin : FnScope ["_law_script"] ["_law_script"] (defScope sBegin) := ⟨rfl, rfl, rfl, by decide +kernel, rfl, by decide +kernel, by decide +kernel⟩
theorem scMixed : FnScope ["_law_cell", "_law_k", "_law_number"] ["_law_cell", "_law_k"] (defScope sMixed) := ⟨rfl, rfl, rfl, by decide +kernel, rfl, by decide +kernel, by decide +kernel⟩
theorem scNext : FnScope ["_law_draw", "_law_many", "_law_found", "_law_cells", "_law_cell"] ["_law_draw", "_law_many"] (defScope sNext) := ⟨rfl, rfl, rfl, by decide +kernel, rfl, by decide +kernel, by decide +kernel⟩
def spBegin (K : PySem.W.Frag) : Sp := fun vs H Q _ => ∃ (a : Addr) (ns : List Int), vs = [.ref a] ∧ SqL K H a (ns.map V.int) ∧ ns.length ≤ 63 ∧
  ∀ H' d c, H c = none → H d = none → Dr H' d 0 → (∀ b, b ≠ c → b ≠ d → H b ≠ none → H' b = H b) → Q (.ref d) H'
def spMixed : Sp := fun vs H Q _ => ∃ c k : Int, vs = [.int c, .int k] ∧ 0 ≤ k ∧ k ≤ 2 ^ 40 ∧ ∀ v : Int, Q (.int v) H
def spNext : Sp := fun vs H Q _ => ∃ (d : Addr) (m : Int) (n : Nat), vs = [.ref d, .int m] ∧ Dr H d n ∧ 0 < m ∧ m < 1073741824 ∧ n < 2 ^ 40 ∧
  ∀ (v : Int) (H' : Hp), 0 ≤ v → v < m → Dr H' d (n + 1) → But d H H' → Q (.int v) H'
section
variable {P : Program} {w : World} {K : PySem.W.Frag} {mg : Str → Option Value} {base : Heap} {f : Addr} {fd : FuncData}
theorem ok_mixed (F : FnP K "_law_mixed" sMixed f fd) : FnOk P w K mg base CX0 1 f fd ["_law_cell", "_law_k"] spMixed := by
  refine F.ok scMixed (fun vs H Q E h => ?_) (fun cdv A outer s H vs Q E hr h => ?_)
  · obtain ⟨c, k, rfl, _⟩ := h
    rfl
  · obtain ⟨c, k, rfl, h0, h1, q⟩ := h
    refine ⟨_, PSs.nox (pss_cons (ps_set (i := 2) scMixed.nd rfl (.inl rfl) (pe_op op_mod (pe_op op_add (pe_op op_add (pe_op op_add (pe_op op_mod (pv 0) pe_int)
        (pe_op op_mul (pe_op op_mul pe_int (pv 1)) (pv 1))) (pe_op op_mul pe_int (pv 1))) pe_int) pe_int))
      (pss_cons (ps_set (i := 2) scMixed.nd rfl (.inl rfl) (pe_op op_mod (pe_op op_mul (pe_op op_mod (pe_op op_mul (pv 2) (pv 2)) pe_int) (pv 2)) pe_int))
      (pss_one (ps_ret (pe_op op_fdiv (pe_op op_mod (pe_op op_mul (pv 2) (pe_op op_add pe_int (pe_op op_mul pe_int (pe_op op_mod (pv 1) pe_int)))) pe_int) pe_int))))), ?_⟩
    refine ⟨_, rfl, _, _, rfl, rfl, dv _, _, rfl, _, _, rfl, rfl, .inl ⟨by decide, by decide⟩, _, rfl, _, _, rfl, rfl, .inr ⟨by omega, by omega⟩, _, _, rfl, rfl, ?_⟩
    refine ⟨_, rfl, _, _, rfl, rfl, .inl ⟨by decide, by decide⟩, _, _, rfl, rfl, _, _, rfl, rfl, _, _, rfl, rfl, dv _, ?_⟩
    generalize (c % 1000000007 + 7919 * k * k + 31 * k + 7) = z
    have z0 : 0 ≤ z % 2147483647 := Int.emod_nonneg _ (by decide)
    have z1 : z % 2147483647 < 2147483647 := Int.emod_lt_of_pos _ (by decide)
    generalize z % 2147483647 = y at z0 z1
    refine ⟨_, rfl, _, rfl, _, _, rfl, rfl, .inl ⟨by omega, by omega⟩, _, _, rfl, rfl, dv _, _, rfl, _, _, rfl, rfl, .inr ⟨by omega, by omega⟩, _, _, rfl, rfl, dv _, ?_⟩
    generalize y * y % 2147483647 * y = x
    have x0 : 0 ≤ x % 2147483629 := Int.emod_nonneg _ (by decide)
    have x1 : x % 2147483629 < 2147483629 := Int.emod_lt_of_pos _ (by decide)
    generalize x % 2147483629 = u at x0 x1
    refine ⟨_, rfl, _, rfl, _, _, rfl, rfl, dv _, _, _, rfl, rfl, .inl ⟨by decide, by decide⟩, _, _, rfl, rfl, _, _, rfl, rfl, .inl ⟨by omega, by omega⟩, _, _, rfl, rfl, dv _, _, _, rfl, rfl, ⟨by decide, by decide⟩, ?_⟩
    exact q _

theorem dr_cells (c : Addr) (a l u : Int) : valV (drV c a l u) (.inr "cells") = some (.ref c) := by rfl
theorem dr_at (c : Addr) (a l u : Int) : valV (drV c a l u) (.inr "at") = some (.int a) := by rfl
theorem dr_left (c : Addr) (a l u : Int) : valV (drV c a l u) (.inr "left") = some (.int l) := by rfl
theorem dr_used (c : Addr) (a l u : Int) : valV (drV c a l u) (.inr "used") = some (.int u) := by rfl
theorem dp_at (c : Addr) (a l u z : Int) : putK (drV c a l u) (.inr "at") (.int z) = drV c z l u := by rfl
theorem dp_left (c : Addr) (a l u z : Int) : putK (drV c a l u) (.inr "left") (.int z) = drV c a z u := by rfl
theorem dp_used (c : Addr) (a l u z : Int) : putK (drV c a l u) (.inr "used") (.int z) = drV c a l z := by rfl
theorem dr_len (c : Addr) (a l u : Int) : (drV c a l u).length < sizeLine := by
  show 4 < sizeLine
  decide

theorem ok_next {fM : Addr} {fdM : FuncData} (F : FnP K "_law_next" sNext f fd) (FM : FnP K "_law_mixed" sMixed fM fdM) (gM : mg "_law_mixed" = some (.ref fM)) (gl : mg "len" = none) :
    FnOk P w K mg base CX0 2 f fd ["_law_draw", "_law_many"] spNext := by
  have GM : FnOk P w K mg base CX0 1 fM fdM ["_law_cell", "_law_k"] spMixed := ok_mixed FM
  have bM : Binds K fdM ["_law_cell", "_law_k"] [] := FM.bindsN fun _ _ _ _ _ _ us hl => match us, hl with | [_, _], _ => rfl
  refine F.ok scNext (fun vs H Q E h => ?_) (fun cdv A outer s H vs Q E hr h => ?_)
  · obtain ⟨d, m, n, rfl, _⟩ := h
    rfl
  · obtain ⟨d, m, n, rfl, ⟨c, a, l, u, cells, hd, hc, hne, hlen, a0, a1, u0, u1⟩, m0, m1, hn, q⟩ := h
    have hu := hu_of hr
    refine ⟨_, PSs.nox (pss_cons (ps_if (pt_cmpR op_gt (pe_dget hu (pv 0) pe_str (fun _ _ => rfl)) pe_int (nomark _))
        (pss_cons (ps_set (i := 2) scNext.nd rfl (.inl rfl) (pe_op op_mod (pe_dget hu (pv 0) pe_str (fun _ _ => rfl)) (pv 1)))
          (pss_cons (ps_dput hu (pv 0) pe_str (pe_op op_fdiv (pe_dget hu (pv 0) pe_str (fun _ _ => rfl)) (pv 1)) rfl) (pss_one (ps_ret (pv 2))))) pss_nil)
      (pss_cons (ps_set (i := 3) scNext.nd rfl (.inl rfl) (pe_dget hu (pv 0) pe_str (fun _ _ => rfl)))
      (pss_cons (ps_set (i := 4) scNext.nd rfl (.inl rfl) (pe_ix ix_list (pv 3) (pe_op op_mod (pe_dget hu (pv 0) pe_str (fun _ _ => rfl)) (pe_callB call_len_seq (by rfl) gl PySem.boot_len (pa_cons (pv 3) pa_nil))) (fun _ _ => rfl)))
      (pss_cons (ps_dput hu (pv 0) pe_str (pe_op op_add (pe_dget hu (pv 0) pe_str (fun _ _ => rfl)) pe_int) rfl)
      (pss_cons (ps_if (pw_and (pt_cmpR op_ge (pv 4) (pe_op op_pow pe_int pe_int) (nomark _)) (pw_and1 (pt_cmpR op_le (pe_dget hu (pv 0) pe_str (fun _ _ => rfl)) (pe_callB call_len_seq (by rfl) gl PySem.boot_len (pa_cons (pv 3) pa_nil)) (nomark _)))).pt
        (pss_cons (ps_dput hu (pv 0) pe_str (pe_op op_fdiv (pv 4) (pv 1)) rfl) (pss_one (ps_ret (pe_op op_mod (pv 4) (pv 1))))) pss_nil)
      (pss_cons (ps_dput hu (pv 0) pe_str (pe_op op_add (pe_dget hu (pv 0) pe_str (fun _ _ => rfl)) pe_int) rfl)
      (pss_one (ps_ret (pe_op op_mod (pe_call GM hr rfl gM FM.kp bM .nil pass0 (pa_cons (pe_call GM hr rfl gM FM.kp bM .nil pass0 (pa_cons (pv 4) (pa_cons (pe_dget hu (pv 0) pe_str (fun _ _ => rfl)) pa_nil))) (pa_cons (pe_dget hu (pv 0) pe_str (fun _ _ => rfl)) pa_nil))) (pv 1)))))))))), ?_⟩
    refine ⟨_, rfl, d, .int l, rfl, DGet.k (k := .inr "left") hd, _, _, rfl, rfl, _, rfl, ite2 (fun hl => ?_) (fun hl => ?_)⟩
    · refine ⟨_, rfl, d, .int l, rfl, DGet.k (k := .inr "left") hd, _, rfl, _, _, rfl, rfl, dv _ m0, ?_⟩
      refine ⟨_, rfl, d, .int l, rfl, DGet.k (k := .inr "left") hd, _, rfl, _, _, rfl, rfl, ⟨m0, m1⟩, _, rfl, d, _, rfl, DPut.k (k := .inr "left") hd (dr_len ..), ?_⟩
      refine ⟨_, rfl, q _ _ (Int.emod_nonneg _ (by omega)) (Int.emod_lt_of_pos _ m0) ⟨c, a, l / m, u, cells, ?_, ?_, hne, hlen, a0, by omega, u0, by omega⟩ fun b hb => upd_ne hb⟩
      · rw [upd_same, dp_left]
      · rw [upd_ne (ne_of hc hd (by intro z; cases z))]
        exact hc
    · have hcl : SqL K H c (cells.map V.int) := .of hc
      have hpos : 0 < cells.length := List.length_pos_iff.mpr hne
      have e0 : 0 ≤ a % (cells.length : Int) := Int.emod_nonneg _ (by omega)
      have e1 : a % (cells.length : Int) < cells.length := Int.emod_lt_of_pos _ (by omega)
      obtain ⟨j, ej⟩ : ∃ j : Nat, a % (cells.length : Int) = (j : Int) := ⟨_, (Int.toNat_of_nonneg e0).symm⟩
      have hj : j < cells.length := by omega
      have gj : atI (cells.map V.int) (a % ((cells.map V.int).length : Int)) = some (.int cells[j]) := by
        rw [List.length_map, ej]
        exact atI_nat (by rw [List.getElem?_map, List.getElem?_eq_getElem hj]; rfl)
      refine ⟨_, rfl, d, .ref c, rfl, DGet.k (k := .inr "cells") hd, ?_⟩
      refine ⟨_, rfl, _, rfl, d, .int a, rfl, DGet.k (k := .inr "at") hd, _, rfl, c, _, rfl, .inl hcl, _, _, rfl, rfl, dv _ (by rw [List.length_map]; omega), c, _, _, _, rfl, rfl, hcl, gj, ?_⟩
      generalize cells[j] = cell
      have h1d : (upd H d (.dK (drV c (a + 1) l u))) d = some (.dK (drV c (a + 1) l u)) := upd_same
      have h1c : (upd H d (.dK (drV c (a + 1) l u))) c = some (.lst (cells.map V.int)) := by
        rw [upd_ne (ne_of hc hd (by intro z; cases z))]
        exact hc
      refine ⟨_, rfl, d, .int a, rfl, DGet.k (k := .inr "at") hd, _, _, rfl, rfl, _, rfl, d, _, rfl, DPut.k (k := .inr "at") hd (dr_len ..), ?_⟩
      rw [dp_at]
      generalize hH : upd H d (.dK (drV c (a + 1) l u)) = H1 at h1d h1c
      have b1 : But d H H1 := fun b hb => by
        rw [← hH]
        exact upd_ne hb
      refine ⟨_, rfl, _, _, rfl, rfl, ⟨by decide, by decide, by decide⟩, _, _, rfl, rfl, _, rfl, ?_⟩
      have rest : ∀ D : Ends, D.rt = Q → (tSeq (sDPut (tVar 0) (tC (.str "used")) (tOp (rI0 fun i j => .int (i + j)) (tDGet (tVar 0) (tC (.str "used"))) (tC (.int 1))))
          (tRet (tOp (rI (fun _ j => 0 < j) fun i j => .int (i % j)) (tCall spMixed [] E0 (tCons (tCall spMixed [] E0 (tCons (tVar 4) (tCons (tDGet (tVar 0) (tC (.str "at"))) tNil))) (tCons (tDGet (tVar 0) (tC (.str "used"))) tNil))) (tVar 1)))) D
          [some (.ref d), some (.int m), none, some (.ref c), some (.int cell)] H1 := fun D eD => by
        refine ⟨_, rfl, d, .int u, rfl, DGet.k (k := .inr "used") h1d, _, _, rfl, rfl, _, rfl, d, _, rfl, DPut.k (k := .inr "used") h1d (dr_len ..), ?_⟩
        rw [dp_used]
        have h2d : (upd H1 d (.dK (drV c (a + 1) l (u + 1)))) d = some (.dK (drV c (a + 1) l (u + 1))) := upd_same
        refine ⟨_, rfl, _, rfl, d, .int (a + 1), rfl, DGet.k (k := .inr "at") h2d, _, _, rfl, by omega, by omega, fun v => ?_⟩
        refine ⟨_, rfl, d, .int (u + 1), rfl, DGet.k (k := .inr "used") h2d, _, _, rfl, by omega, by omega, fun v => ?_⟩
        refine ⟨_, rfl, _, _, rfl, rfl, dv _ m0, ?_⟩
        rw [eD]
        refine q _ _ (Int.emod_nonneg _ (by omega)) (Int.emod_lt_of_pos _ m0) ⟨c, a + 1, l, u + 1, cells, h2d, ?_, hne, hlen, by omega, by omega, by omega, by omega⟩ fun b hb => ?_
        · rw [upd_ne (ne_of h1c h1d (by intro z; cases z))]
          exact h1c
        · rw [upd_ne hb]
          exact b1 b hb
      refine ite2 (fun hA => ?_) (fun hA => ?_)
      · refine ⟨_, rfl, d, .int (a + 1), rfl, DGet.k (k := .inr "at") h1d, _, rfl, c, _, rfl, .inl (.of h1c), _, _, rfl, rfl, _, rfl, ite2 (fun hB => ?_) (fun hB => ?_)⟩
        · refine ⟨_, rfl, _, rfl, _, _, rfl, rfl, ⟨m0, m1⟩, _, rfl, d, _, rfl, DPut.k (k := .inr "left") h1d (dr_len ..), ?_⟩
          refine ⟨_, rfl, _, rfl, _, _, rfl, rfl, dv _ m0, q _ _ (Int.emod_nonneg _ (by omega)) (Int.emod_lt_of_pos _ m0) ⟨c, a + 1, cell / m, u, cells, ?_, ?_, hne, hlen, by omega, by omega, u0, by omega⟩ fun b hb => ?_⟩
          · rw [upd_same, dp_left]
          · rw [upd_ne (ne_of h1c h1d (by intro z; cases z))]
            exact h1c
          · rw [upd_ne hb]
            exact b1 b hb
        · exact rest _ rfl
      · exact iteF (rest _ rfl)
theorem ok_begin (F : FnP K "_law_begin" sBegin f fd) : FnOk P w K mg base CX0 1 f fd ["_law_script"] (spBegin K) := by
  refine F.ok scBegin (fun vs H Q E h => ?_) (fun cdv A outer s H vs Q E hr h => ?_)
  · obtain ⟨a, ns, rfl, _⟩ := h
    rfl
  · obtain ⟨a, ns, rfl, hS, hlen, q⟩ := h
    refine ⟨_, PSs.nox (pss_one (ps_ret (pe_disp (pps_cons pe_str (pe_op op_catS (pv 0) (pe_lst (pa_cons pe_int pa_nil))) (pps_cons pe_str pe_int (pps_cons pe_str pe_int (pps_cons pe_str pe_int pps_nil)))) (by rfl) (by rfl) (fun z => by cases z) (by decide)))), ?_⟩
    refine fun d nd => ⟨_, rfl, (by decide), fun z nz => ?_⟩
    have dz : z ≠ d := fun e => by
      rw [e, upd_same] at nz
      cases nz
    have nz0 : H z = none := by
      rw [upd_ne dz] at nz
      exact nz
    have hA : SqL K (upd (upd H d (.dK [])) z (.lst [.int 0])) a (ns.map V.int) := (same_upd nz).seq ((same_upd nd).seq hS)
    refine ⟨a, z, _, _, rfl, rfl, hA, .of upd_same, ?_, fun c nc => ?_⟩
    · rw [List.length_map]
      exact Nat.le_of_lt (small1000 (by show ns.length + 1 ≤ 1000; omega))
    have cz : c ≠ z := fun e => by
      rw [e, upd_same] at nc
      cases nc
    have nc1 : upd H d (.dK []) c = none := by
      rw [upd_ne cz] at nc
      exact nc
    have cd : c ≠ d := fun e => by
      rw [e, upd_same] at nc1
      cases nc1
    have nc0 : H c = none := by
      rw [upd_ne cd] at nc1
      exact nc1
    refine ⟨?_, [(.inr "cells", .ref c), (.inr "at", .int 0), (.inr "left", .int 0), (.inr "used", .int 0)], rfl, (by show 4 ≤ 15; decide), ?_⟩
    · rw [upd_ne cd.symm, upd_ne dz.symm, upd_same]
    · refine q _ d c nc0 nd ⟨c, 0, 0, 0, ns ++ [0], ?_, ?_, ?_, ?_, by decide, by decide, by decide, by decide⟩ fun b hc hd hb => ?_
      · rw [upd_same]
        rfl
      · rw [upd_ne cd, upd_same, List.map_append]
        rfl
      · simp
      · rw [List.length_append]
        show ns.length + 1 ≤ 100
        omega
      · have bz : b ≠ z := fun e => hb (by rw [e]; exact nz0)
        rw [upd_ne hd, upd_ne hc, upd_ne bz, upd_ne hd]
end
end Pb

namespace Pb
open PySem PySem.Spec PyProof.Rows L2
/-! ### the refusals of k02 -/
def cn : List Str := ["BadName", "BadDay", "BadSection", "BadBook", "BadLegs", "BadThing", "SecondBook", "BadPlan", "BadText", "BadLine", "NoBook", "NoSection", "NotTold", "TooMany"]
def cC (K : PySem.W.Frag) (i : Nat) : Addr := He.ga K (cn.getD i "")
def bmI (i : Nat) : List Value := if i < 10 then mroV else if i < 13 then mroL else mroO
def nwI (i : Nat) : String := if i < 10 then "ValueError.__new__" else if i < 13 then "LookupError.__new__" else "OverflowError.__new__"
def dueI : List Str := ["name", "day", "section", "book", "legs", "thing", "second", "plan", "text", "line", "no book", "no section", "not told", "many"]
/-- the classes that families asks of -/
def famV (K : PySem.W.Frag) : List (Str × V) := [("path", .ref (He.ga K "PathError")), ("value", .ty "ValueError"), ("there", .ref (He.ga K "NotThere")), ("lookup", .ty "LookupError"), ("overflow", .ty "OverflowError"), ("key", .ty "KeyError"), ("index", .ty "IndexError")]
def famI (i : Nat) : List Bool := if i < 10 then [true, true, false, false, false, false, false] else if i < 13 then [false, false, true, true, false, false, false] else [false, false, false, false, true, false, false]
def famD (i : Nat) : List Str := if i < 10 then ["path", "value"] else if i < 13 then ["there", "lookup"] else ["overflow"]
def cvOf : V → Value
  | .ref a => .ref a
  | .ty n => .type n
  | _ => .none
theorem xbI (i : Nat) : XB (bmI i) (nwI i) := by
  unfold bmI nwI
  by_cases h : i < 10
  · rw [if_pos h, if_pos h]
    exact xbV
  · rw [if_neg h, if_neg h]
    by_cases h2 : i < 13
    · rw [if_pos h2, if_pos h2]
      exact xbL
    · rw [if_neg h2, if_neg h2]
      exact xbO
/-- what the head tells of them -/
structure CK (K : PySem.W.Frag) (mg : Str → Option Value) : Prop where
  xc : ∀ i, i < 14 → XC K (cC K i) (bmI i) (nwI i)
  g : ∀ i, i < 14 → mg (cn.getD i "") = some (.ref (cC K i))
  is : ∀ i, i < 14 → ∀ j, j < 14 → PySem.W.kitOne K (.ref (cC K i)) (.ref (cC K j)) = some (decide (i = j))
  fam : ∀ i, i < 14 → ∀ j, j < 7 → PySem.W.kitOne K (.ref (cC K i)) (cvOf ((famV K).getD j ("", .non)).2) = some ((famI i).getD j false)
  gP : mg "PathError" = some (.ref (He.ga K "PathError"))
  gN : mg "NotThere" = some (.ref (He.ga K "NotThere"))
  fi : mg "isinstance" = none
  fV : mg "ValueError" = none
  fL : mg "LookupError" = none
  fO : mg "OverflowError" = none
  fK : mg "KeyError" = none
  fX : mg "IndexError" = none
/-! ### pairs of a word and a truth -/
def tPr (K : PySem.W.Frag) (s : Str) (c : V) : TE := tTup (tCons (tC (.str s)) (tCons (tCB (rIsX K) (tCons (tVar 0) (tCons (tC c) tNil))) tNil))
def tPrs (K : PySem.W.Frag) : List (Str × V) → TA
  | [] => tNil
  | (s, c) :: r => tCons (tPr K s c) (tPrs K r)
/-- at the addresses of xs: these pairs -/
def Prs (H : Hp) : List V → List (Str × Bool) → Prop := Paired fun x p => ∃ t, x = .ref t ∧ H t = some (.tup [.str p.1, .bl p.2])
theorem Prs.same {H H' : Hp} {xs : List V} {l : List (Str × Bool)} (h : Prs H xs l) (s : Same H H') : Prs H' xs l := L2.Paired.mapP h fun x p ⟨t, e, z⟩ => ⟨t, e, s _ _ z⟩
theorem Prs.append {H : Hp} : ∀ {xs ys : List V} {l m : List (Str × Bool)}, Prs H xs l → Prs H ys m → Prs H (xs ++ ys) (l ++ m)
  | _, _, _, _, .nil, h => h
  | _, _, _, _, .cons a b, h => .cons a (Prs.append b h)
theorem ExI.same {H H' : Hp} {a D : Addr} {fs : Option (List (Str × V))} (h : ExI H a D fs) (s : Same H H') : ExI H' a D fs := by
  cases fs with
  | none =>
    rcases h with h | h
    · exact .inl (s _ _ h)
    · exact .inr (s _ _ h)
  | some l =>
    obtain ⟨dx, ⟨x, y⟩ | ⟨x, y⟩⟩ := h
    · exact ⟨dx, .inl ⟨s _ _ x, s _ _ y⟩⟩
    · exact ⟨dx, .inr ⟨s _ _ x, s _ _ y⟩⟩
theorem cv_rel {c : V} (h : (∃ a, c = .ref a) ∨ ∃ n, c = .ty n) : RelV c (cvOf c) ∧ ∀ u, RelV c u → u = cvOf c := by
  rcases h with ⟨a, e⟩ | ⟨n, e⟩
  · subst e
    exact ⟨rfl, fun u r => r⟩
  · subst e
    exact ⟨rfl, fun u r => r⟩
theorem prs_ok {K : PySem.W.Frag} {a D : Addr} {fs : Option (List (Str × V))} {bmB : List Value} {newId : String} {σ : L2.St} (T : XC K D bmB newId) (h0 : σ[0]? = some (some (.ref a))) : ∀ (l : List (Str × V)) (bs : List Bool) (H : Hp) (Q : List V → Hp → Prop), ExI H a D fs →
    Paired (fun (p : Str × V) b => ((∃ a, p.2 = .ref a) ∨ ∃ n, p.2 = .ty n) ∧ PySem.W.kitOne K (.ref D) (cvOf p.2) = some b) l bs →
    (∀ xs H', Same H H' → Prs H' xs ((l.map (·.1)).zip bs) → Q xs H') → tPrs K l σ H Q
  | [], _, H, Q, _, .nil, q => q [] H (Same.refl _) .nil
  | (s, c) :: r, _, H, Q, hx, .cons (b := b) ⟨hc, hk⟩ hr, q => by
    obtain ⟨r1, r2⟩ := cv_rel hc
    refine ⟨_, h0, a, D, fs, bmB, newId, c, cvOf c, b, rfl, hx, T, r1, r2, hk, (by show 2 ≤ sizeLine; decide), fun t nt => ?_⟩
    have s1 : Same H (upd H t (.tup [.str s, .bl b])) := same_upd nt
    refine prs_ok T h0 r _ _ _ (hx.same s1) hr fun xs H' s2 hp => ?_
    exact q _ H' (s1.trans s2) (.cons ⟨t, rfl, s2 _ _ upd_same⟩ hp)
/-- found = found + [..] -/
def tMore (K : PySem.W.Frag) (l : List (Str × V)) : TS := tAsg (tOp (rCatS K) (tVar 1) (tLst (tPrs K l))) (gName 1)
def tFirst (K : PySem.W.Frag) (l : List (Str × V)) : TS := tAsg (tLst (tPrs K l)) (gName 1)
/-- [called for called, is_so in found if is_so] -/
def tPick (K : PySem.W.Frag) : TE := tLc (iList K (tVar 1)) (gTup K 2 (gCons (gName 2) (gCons (gName 3) gNil))) (tB (tVar 3)) (tVar 2) [2, 3]
theorem prs_len {H : Hp} {xs : List V} {l : List (Str × Bool)} (h : Prs H xs l) : xs.length = l.length := Paired.length h
theorem prs_get {H : Hp} : ∀ {xs : List V} {l : List (Str × Bool)} {i : Nat} {x : V}, Prs H xs l → xs[i]? = some x → ∃ p t, l[i]? = some p ∧ x = .ref t ∧ H t = some (.tup [.str p.1, .bl p.2])
  | _, _, _, _, .nil, e => by simp at e
  | _, _, 0, _, .cons (a := y) (b := p) r _, e => by
    have e' : y = _ := Option.some.inj e
    obtain ⟨t, h1, h2⟩ := r
    exact ⟨p, t, rfl, by rw [← e']; exact h1, h2⟩
  | _, _, i + 1, x, .cons _ r, e => prs_get (i := i) (x := x) r e
theorem pick_ok {K : PySem.W.Frag} {H : Hp} {a f : Addr} {xs : List V} {l : List (Str × Bool)} {Q : VK} (hf : H f = some (.lst xs)) (hp : Prs H xs l) (hl : l.length ≤ 100)
    (q : ∀ H' p, Same H H' → H p = none → H' p = some (.lst ((l.filter (·.2)).map fun z => V.str z.1)) → Q (.ref p) H') : tPick K [some (.ref a), some (.ref f), none, none] H Q := by
  have len := prs_len hp
  refine ⟨_, rfl, f, rfl, ⟨xs, .of hf⟩, fun D hD => ?_⟩
  have sD : Same H (upd H D (.lst [])) := same_upd hD
  refine lc_list (K := K) (a := f) (xs := xs) (fun i H' => Same H H' ∧ H' D = some (.lst (((l.take i).filter (·.2)).map fun z => V.str z.1))) ⟨sD, upd_same⟩ (fun i H' _ z => .of (z.1 _ _ hf)) (fun i x H' hx z => ?_) fun H' z => ?_
  · obtain ⟨sH, eD⟩ := z
    obtain ⟨p, t, hi, rfl, ht⟩ := prs_get hp hx
    have ht' := sH _ _ ht
    refine ⟨t, _, rfl, .of ht', rfl, _, _, rfl, _, _, rfl, rfl, rfl, _, rfl, p.2, rfl, ?_⟩
    have tk : l.take (i + 1) = l.take i ++ [p] := by rw [List.take_add_one, hi]; rfl
    obtain ⟨w, b⟩ := p
    cases b with
    | true =>
      refine iteT ⟨_, rfl, _, eD, ?_, fun b o e => ?_, ?_⟩
      · rw [List.length_map]
        exact small1000 (Nat.le_trans (List.length_filter_le _ _) (Nat.le_trans (by rw [List.length_take]; exact Nat.min_le_right _ _) (Nat.le_trans hl (by decide))))
      · rw [upd_ne (ne_of_none e hD)]
        exact sH _ _ e
      · rw [upd_same, tk, List.filter_append, List.map_append]
        rfl
    | false =>
      refine iteF ⟨sH, ?_⟩
      rw [eD, tk, List.filter_append, List.map_append]
      simp
  · obtain ⟨sH, eD⟩ := z
    rw [len, List.take_length] at eD
    exact q _ _ sH hD eD
/-! ### words, families -/
abbrev sWords : Stmt := top 21
abbrev sFam : Stmt := top 22
theorem scWords : FnScope ["_law_error", "_law_found", "_law_called", "_law_is_so"] ["_law_error"] (defScope sWords) := ⟨rfl, rfl, rfl, by decide +kernel, rfl, by decide +kernel, by decide +kernel⟩
theorem scFam : FnScope ["_law_error", "_law_found", "_law_called", "_law_is_so"] ["_law_error"] (defScope sFam) := ⟨rfl, rfl, rfl, by decide +kernel, rfl, by decide +kernel, by decide +kernel⟩
def wdV (K : PySem.W.Frag) (i : Nat) : Str × V := (dueI.getD i "", .ref (cC K i))
def spTexts (K : PySem.W.Frag) (r : Nat → List Str) : Sp := fun vs H Q _ => ∃ (a : Addr) (i : Nat) (fs : Option (List (Str × V))), vs = [.ref a] ∧ i < 14 ∧ ExI H a (cC K i) fs ∧
  ∀ H' p, Same H H' → H p = none → H' p = some (.lst ((r i).map V.str)) → Q (.ref p) H'
theorem words_filter : ∀ i, i < 14 → (((List.range 14).map fun j => (dueI.getD j "", decide (i = j))).filter (·.2)).map (fun z => V.str z.1) = [V.str (dueI.getD i "")] := by decide
section
variable {P : Program} {w : World} {K : PySem.W.Frag} {mg : Str → Option Value} {base : Heap} {f : Addr} {fd : FuncData}
theorem wd_paired (C : CK K mg) {i : Nat} (hi : i < 14) : ∀ (js : List Nat), (∀ j ∈ js, j < 14) → Paired (fun (p : Str × V) b => ((∃ a, p.2 = .ref a) ∨ ∃ n, p.2 = .ty n) ∧ PySem.W.kitOne K (.ref (cC K i)) (cvOf p.2) = some b) (js.map (wdV K)) (js.map fun j => decide (i = j))
  | [], _ => .nil
  | j :: js, h => .cons ⟨.inl ⟨_, rfl⟩, C.is i hi j (h j List.mem_cons_self)⟩ (wd_paired C hi js fun z hz => h z (List.mem_cons_of_mem _ hz))
theorem more_ok {a D : Addr} {fs : Option (List (Str × V))} {bmB : List Value} {newId : String} {E : Ends} (T : XC K D bmB newId) {H : Hp} {fo : Addr} {xs : List V} {l0 : List (Str × Bool)} (hx : ExI H a D fs) (hf : H fo = some (.lst xs)) (hp : Prs H xs l0) (l : List (Str × V)) (bs : List Bool)
    (hb : Paired (fun (p : Str × V) b => ((∃ a, p.2 = .ref a) ∨ ∃ n, p.2 = .ty n) ∧ PySem.W.kitOne K (.ref D) (cvOf p.2) = some b) l bs) (hl : l0.length + l.length ≤ 100)
    (q : ∀ H' f' ys, Same H H' → H' f' = some (.lst ys) → Prs H' ys (l0 ++ (l.map (·.1)).zip bs) → E.nx [some (.ref a), some (.ref f'), none, none] H') : tMore K l E [some (.ref a), some (.ref fo), none, none] H := by
  refine ⟨_, rfl, prs_ok (σ := [some (.ref a), some (.ref fo), none, none]) T rfl l bs H _ hx hb fun ys H1 s1 hq => ?_⟩
  have n1 : xs.length = l0.length := prs_len hp
  have n2 : ys.length ≤ l.length := by
    rw [prs_len hq, List.length_zip, List.length_map]
    exact Nat.min_le_left _ _
  refine ⟨Nat.le_of_lt (small1000 (by omega)), fun z nz => ⟨fo, z, xs, ys, rfl, rfl, .of ?_, .of upd_same, Nat.le_of_lt (small1000 (by omega)), fun p np => ?_⟩⟩
  · exact same_upd nz _ _ (s1 _ _ hf)
  · have s3 : Same H1 (upd (upd H1 z (.lst ys)) p (.lst (xs ++ ys))) := (same_upd nz).trans (same_upd np)
    exact q _ p _ (s1.trans s3) upd_same ((hp.same (s1.trans s3)).append (hq.same s3))
theorem first_ok {a D : Addr} {fs : Option (List (Str × V))} {bmB : List Value} {newId : String} {E : Ends} (T : XC K D bmB newId) {H : Hp} (hx : ExI H a D fs) (l : List (Str × V)) (bs : List Bool)
    (hb : Paired (fun (p : Str × V) b => ((∃ a, p.2 = .ref a) ∨ ∃ n, p.2 = .ty n) ∧ PySem.W.kitOne K (.ref D) (cvOf p.2) = some b) l bs) (hl : l.length ≤ 100)
    (q : ∀ H' f' ys, Same H H' → H' f' = some (.lst ys) → Prs H' ys ((l.map (·.1)).zip bs) → E.nx [some (.ref a), some (.ref f'), none, none] H') : tFirst K l E [some (.ref a), none, none, none] H := by
  refine prs_ok (σ := [some (.ref a), none, none, none]) T rfl l bs H _ hx hb fun ys H1 s1 hq => ?_
  have n2 : ys.length ≤ l.length := by
    rw [prs_len hq, List.length_zip, List.length_map]
    exact Nat.min_le_left _ _
  refine ⟨Nat.le_of_lt (small1000 (by omega)), fun z nz => ?_⟩
  exact q _ z _ (s1.trans (same_upd nz)) upd_same (hq.same (same_upd nz))
end
section
variable {X : Cx} {mm : Str → Option Value}
/-- ('word', isinstance(error, C)) -/
theorem pr_own (C : CK X.K X.mg) (j : Nat) (hj : j < 14) {s : Str} {k1 k2 : _} {p1 p2 p3 p4 p5 p6 : Pos} (hg : Gl X (cn.getD j "") := by rfl) (hi : Gl X "isinstance" := by rfl) (h0 : X.N[0]? = some ("_law_error" : Str) := by rfl) (hv : Vis X.env.scope "_law_error" := by exact Or.inl rfl)
    (hd : ((cn.getD j "") == ("__debug__" : Str)) = false := by decide) (st1 : starEach [.Name "_law_error" p1, .Name (cn.getD j "") p2] X.env = [(false, eval (.Name "_law_error" p1) X.env), (false, eval (.Name (cn.getD j "") p2) X.env)] := by rfl)
    (st2 : starEach [.Name (cn.getD j "") p2] X.env = [(false, eval (.Name (cn.getD j "") p2) X.env)] := by rfl) :
    PE X (.Tuple [.Constant (.str s) k1 p3, .Call (.Name "isinstance" p4) [.Name "_law_error" p1, .Name (cn.getD j "") p2] [] p5] k2 p6) (tPr X.K s (.ref (cC X.K j))) :=
  pe_tup (pa_cons pe_str (pa_cons (pe_callB call_isX hi C.fi boot_isinstance (pa_cons (pe_var h0 hv) (pa_cons (pe_glob hg (C.g j hj) rfl hd) pa_nil st2) st1) (by decide) (by decide) st1 (by rw [st2]; rfl)) pa_nil))
end
section
variable {P : Program} {w : World} {K : PySem.W.Frag} {mg : Str → Option Value} {base : Heap} {f : Addr} {fd : FuncData}
theorem ok_words (F : FnP K "_law_words" sWords f fd) (C : CK K mg) : FnOk P w K mg base CX0 1 f fd ["_law_error"] (spTexts K fun i => [dueI.getD i ""]) := by
  refine F.ok scWords (fun vs H Q E h => ?_) (fun cdv A outer s H vs Q E hr h => ?_)
  · obtain ⟨a, i, fs, rfl, _⟩ := h
    rfl
  · obtain ⟨a, i, fs, rfl, hi, hx, q⟩ := h
    refine ⟨(tSeq (tFirst K [wdV K 0, wdV K 1]) (tSeq (tMore K [wdV K 2, wdV K 3]) (tSeq (tMore K [wdV K 4, wdV K 5]) (tSeq (tMore K [wdV K 6, wdV K 7]) (tSeq (tMore K [wdV K 8, wdV K 9]) (tSeq (tMore K [wdV K 10, wdV K 11]) (tSeq (tMore K [wdV K 12, wdV K 13]) (tRet (tPick K))))))))), PSs.nox (pss_cons (ps_set (i := 1) scWords.nd rfl (.inl rfl) (pe_lst (pa_cons (pr_own C 0 (by decide)) (pa_cons (pr_own C 1 (by decide)) pa_nil))))
        (pss_cons (ps_set (i := 1) scWords.nd rfl (.inl rfl) (pe_op op_catS (pv 1) (pe_lst (pa_cons (pr_own C 2 (by decide)) (pa_cons (pr_own C 3 (by decide)) pa_nil)))))
        (pss_cons (ps_set (i := 1) scWords.nd rfl (.inl rfl) (pe_op op_catS (pv 1) (pe_lst (pa_cons (pr_own C 4 (by decide)) (pa_cons (pr_own C 5 (by decide)) pa_nil)))))
        (pss_cons (ps_set (i := 1) scWords.nd rfl (.inl rfl) (pe_op op_catS (pv 1) (pe_lst (pa_cons (pr_own C 6 (by decide)) (pa_cons (pr_own C 7 (by decide)) pa_nil)))))
        (pss_cons (ps_set (i := 1) scWords.nd rfl (.inl rfl) (pe_op op_catS (pv 1) (pe_lst (pa_cons (pr_own C 8 (by decide)) (pa_cons (pr_own C 9 (by decide)) pa_nil)))))
        (pss_cons (ps_set (i := 1) scWords.nd rfl (.inl rfl) (pe_op op_catS (pv 1) (pe_lst (pa_cons (pr_own C 10 (by decide)) (pa_cons (pr_own C 11 (by decide)) pa_nil)))))
        (pss_cons (ps_set (i := 1) scWords.nd rfl (.inl rfl) (pe_op op_catS (pv 1) (pe_lst (pa_cons (pr_own C 12 (by decide)) (pa_cons (pr_own C 13 (by decide)) pa_nil)))))
        (pss_one (ps_ret (pe_lc (own := [("_law_called", 2), ("_law_is_so", 3)]) (g := gTup K 2 (gCons (gName 2) (gCons (gName 3) gNil))) (tt := tB (tVar 3)) rfl scWords.nd (pi_list (pv 1)) (blkOk_by (N := ["_law_error", "_law_found", "_law_called", "_law_is_so"]) (sc := defScope sWords) (by decide +kernel)) (fun _ _ _ _ _ => pg_tup rfl (pgs_cons (pg_name (i := 2) scWords.nd rfl (.inl rfl)) (pgs_cons (pg_name (i := 3) scWords.nd rfl (.inl rfl)) pgs_nil))) (fun _ _ _ _ _ => pts_one (pt_val (pv 3))) (fun _ _ _ _ _ => pv 2))))))))))), ?_⟩
    have T := C.xc i hi
    have pd : ∀ js : List Nat, (∀ j ∈ js, j < 14) → _ := fun js => wd_paired C hi js
    refine first_ok T hx _ _ (pd [0, 1] (by decide)) (Nat.le_of_ble_eq_true rfl) fun H1 f1 y1 s1 e1 p1 => ?_
    refine more_ok T (hx.same s1) e1 p1 _ _ (pd [2, 3] (by decide)) (Nat.le_of_ble_eq_true rfl) fun H2 f2 y2 s2 e2 p2 => ?_
    have t2 := s1.trans s2
    refine more_ok T (hx.same t2) e2 p2 _ _ (pd [4, 5] (by decide)) (Nat.le_of_ble_eq_true rfl) fun H3 f3 y3 s3 e3 p3 => ?_
    have t3 := t2.trans s3
    refine more_ok T (hx.same t3) e3 p3 _ _ (pd [6, 7] (by decide)) (Nat.le_of_ble_eq_true rfl) fun H4 f4 y4 s4 e4 p4 => ?_
    have t4 := t3.trans s4
    refine more_ok T (hx.same t4) e4 p4 _ _ (pd [8, 9] (by decide)) (Nat.le_of_ble_eq_true rfl) fun H5 f5 y5 s5 e5 p5 => ?_
    have t5 := t4.trans s5
    refine more_ok T (hx.same t5) e5 p5 _ _ (pd [10, 11] (by decide)) (Nat.le_of_ble_eq_true rfl) fun H6 f6 y6 s6 e6 p6 => ?_
    have t6 := t5.trans s6
    refine more_ok T (hx.same t6) e6 p6 _ _ (pd [12, 13] (by decide)) (Nat.le_of_ble_eq_true rfl) fun H7 f7 y7 s7 e7 p7 => ?_
    have t7 := t6.trans s7
    refine pick_ok e7 p7 (Nat.le_of_ble_eq_true rfl) fun H8 p s8 np ep => q H8 p (t7.trans s8) (t7.free np) ?_
    rw [ep]
    exact congrArg (fun z => some (HO.lst z)) (words_filter i hi)
end
end Pb

namespace Pb
open PySem PySem.Spec PyProof.Rows L2
section
variable {X : Cx}
theorem pr_any (C : CK X.K X.mg) {c : Str} {cv : V} {s : Str} {k1 k2 : _} {p1 p2 p3 p4 p5 p6 : Pos} (hC : PE X (.Name c p2) (tC cv)) (hi : Gl X "isinstance" := by rfl) (h0 : X.N[0]? = some ("_law_error" : Str) := by rfl) (hv : Vis X.env.scope "_law_error" := by exact Or.inl rfl)
    (st1 : starEach [.Name "_law_error" p1, .Name c p2] X.env = [(false, eval (.Name "_law_error" p1) X.env), (false, eval (.Name c p2) X.env)] := by rfl) (st2 : starEach [.Name c p2] X.env = [(false, eval (.Name c p2) X.env)] := by rfl) :
    PE X (.Tuple [.Constant (.str s) k1 p3, .Call (.Name "isinstance" p4) [.Name "_law_error" p1, .Name c p2] [] p5] k2 p6) (tPr X.K s cv) :=
  pe_tup (pa_cons pe_str (pa_cons (pe_callB call_isX hi C.fi boot_isinstance (pa_cons (pe_var h0 hv) (pa_cons hC pa_nil st2) st1) (by decide) (by decide) st1 (by rw [st2]; rfl)) pa_nil))
end
theorem fam_filter : ∀ i, i < 14 → (((["path", "value", "there", "lookup", "overflow", "key", "index"] : List Str).zip (famI i)).filter (·.2)).map (fun z => V.str z.1) = (famD i).map V.str := by decide
theorem famI_eq (i : Nat) : famI i = (List.range 7).map fun j => (famI i).getD j false := by
  unfold famI
  by_cases h : i < 10
  · rw [if_pos h]
    rfl
  · rw [if_neg h]
    by_cases h2 : i < 13
    · rw [if_pos h2]
      rfl
    · rw [if_neg h2]
      rfl
def fmV (K : PySem.W.Frag) (j : Nat) : Str × V := (famV K).getD j ("", .non)
section
variable {P : Program} {w : World} {K : PySem.W.Frag} {mg : Str → Option Value} {base : Heap} {f : Addr} {fd : FuncData}
theorem fm_cls (K : PySem.W.Frag) : ∀ j, j < 7 → (∃ a, (fmV K j).2 = V.ref a) ∨ ∃ n, (fmV K j).2 = V.ty n
  | 0, _ => .inl ⟨_, rfl⟩
  | 1, _ => .inr ⟨_, rfl⟩
  | 2, _ => .inl ⟨_, rfl⟩
  | 3, _ => .inr ⟨_, rfl⟩
  | 4, _ => .inr ⟨_, rfl⟩
  | 5, _ => .inr ⟨_, rfl⟩
  | 6, _ => .inr ⟨_, rfl⟩
  | n + 7, h => absurd h (by omega)
theorem fm_paired (C : CK K mg) {i : Nat} (hi : i < 14) : ∀ (js : List Nat), (∀ j ∈ js, j < 7) → Paired (fun (p : Str × V) b => ((∃ a, p.2 = .ref a) ∨ ∃ n, p.2 = .ty n) ∧ PySem.W.kitOne K (.ref (cC K i)) (cvOf p.2) = some b) (js.map (fmV K)) (js.map fun j => (famI i).getD j false)
  | [], _ => .nil
  | j :: js, h => .cons ⟨fm_cls K j (h j List.mem_cons_self), C.fam i hi j (h j List.mem_cons_self)⟩ (fm_paired C hi js fun z hz => h z (List.mem_cons_of_mem _ hz))
theorem ok_fam (F : FnP K "_law_families" sFam f fd) (C : CK K mg) : FnOk P w K mg base CX0 1 f fd ["_law_error"] (spTexts K famD) := by
  refine F.ok scFam (fun vs H Q E h => ?_) (fun cdv A outer s H vs Q E hr h => ?_)
  · obtain ⟨a, i, fs, rfl, _⟩ := h
    rfl
  · obtain ⟨a, i, fs, rfl, hi, hx, q⟩ := h
    refine ⟨tSeq (tFirst K [fmV K 0, fmV K 1]) (tSeq (tMore K [fmV K 2, fmV K 3]) (tSeq (tMore K [fmV K 4]) (tSeq (tMore K [fmV K 5, fmV K 6]) (tRet (tPick K))))), PSs.nox
      (pss_cons (ps_set (i := 1) scFam.nd rfl (.inl rfl) (pe_lst (pa_cons (pr_any C (pe_glob rfl C.gP rfl)) (pa_cons (pr_any C (pe_bltn rfl C.fV (by decide +kernel) rfl)) pa_nil))))
      (pss_cons (ps_set (i := 1) scFam.nd rfl (.inl rfl) (pe_op op_catS (pv 1) (pe_lst (pa_cons (pr_any C (pe_glob rfl C.gN rfl)) (pa_cons (pr_any C (pe_bltn rfl C.fL (by decide +kernel) rfl)) pa_nil)))))
      (pss_cons (ps_set (i := 1) scFam.nd rfl (.inl rfl) (pe_op op_catS (pv 1) (pe_lst (pa_cons (pr_any C (pe_bltn rfl C.fO (by decide +kernel) rfl)) pa_nil))))
      (pss_cons (ps_set (i := 1) scFam.nd rfl (.inl rfl) (pe_op op_catS (pv 1) (pe_lst (pa_cons (pr_any C (pe_bltn rfl C.fK (by decide +kernel) rfl)) (pa_cons (pr_any C (pe_bltn rfl C.fX (by decide +kernel) rfl)) pa_nil)))))
      (pss_one (ps_ret (pe_lc (own := [("_law_called", 2), ("_law_is_so", 3)]) (g := gTup K 2 (gCons (gName 2) (gCons (gName 3) gNil))) (tt := tB (tVar 3)) rfl scFam.nd (pi_list (pv 1))
        (blkOk_by (N := ["_law_error", "_law_found", "_law_called", "_law_is_so"]) (sc := defScope sFam) (by decide +kernel)) (fun _ _ _ _ _ => pg_tup rfl (pgs_cons (pg_name (i := 2) scFam.nd rfl (.inl rfl)) (pgs_cons (pg_name (i := 3) scFam.nd rfl (.inl rfl)) pgs_nil)))
        (fun _ _ _ _ _ => pts_one (pt_val (pv 3))) (fun _ _ _ _ _ => pv 2)))))))), ?_⟩
    have T := C.xc i hi
    have pd : ∀ js : List Nat, (∀ j ∈ js, j < 7) → _ := fun js => fm_paired C hi js
    refine first_ok T hx _ _ (pd [0, 1] (by decide)) (Nat.le_of_ble_eq_true rfl) fun H1 f1 y1 s1 e1 p1 => ?_
    refine more_ok T (hx.same s1) e1 p1 _ _ (pd [2, 3] (by decide)) (Nat.le_of_ble_eq_true rfl) fun H2 f2 y2 s2 e2 p2 => ?_
    have t2 := s1.trans s2
    refine more_ok T (hx.same t2) e2 p2 _ _ (pd [4] (by decide)) (Nat.le_of_ble_eq_true rfl) fun H3 f3 y3 s3 e3 p3 => ?_
    have t3 := t2.trans s3
    refine more_ok T (hx.same t3) e3 p3 _ _ (pd [5, 6] (by decide)) (Nat.le_of_ble_eq_true rfl) fun H4 f4 y4 s4 e4 p4 => ?_
    have t4 := t3.trans s4
    refine pick_ok e4 p4 (Nat.le_of_ble_eq_true rfl) fun H8 p s8 np ep => q H8 p (t4.trans s8) (t4.free np) ?_
    rw [ep]
    refine congrArg (fun z => some (HO.lst z)) (Eq.trans ?_ (fam_filter i hi))
    rw [famI_eq i]
    rfl
end
end Pb

namespace Pb
open PySem PySem.Spec PyProof.Rows L2
/-! ### how arguments come to an __init__ -/
section
variable {K : PySem.W.Frag} {x qual : Str} {params : Arguments} {body : List Stmt} {scope : Scope} {dvs : List V} {kws : List (Str × V)} {f : Addr} {fd : FuncData} {ps : List Str}
theorem kb0 (F : FunD K x qual params body scope [] kws f fd) (n : Nat) (ks : List Str) (g : {α : Type} → List α → List α → List α)
    (hrel : ∀ {vs zs : List V} {us ws : List Value}, Vals vs us → Vals zs ws → Vals (g vs zs) (g us ws))
    (h : ∀ (kV doc pm : Value) (an : Option Addr) (cdv ct : Value) (us ws : List Value), us.length = n → ws.length = ks.length → bindArgs (PySem.W.fnOf x qual params body scope .none kV doc pm an cdv ct) ⟨us, ks.zip ws⟩ = pure (ps.zip (g us ws))) :
    KBn K fd ps n ks (fun us ws => g us ws) (fun vs zs => g vs zs) := by
  obtain ⟨oc, od, dV, kV, doc, pm, an, cdv, ct, osl, efd, lk, hcd, hD, hK⟩ := F.ex
  subst efd
  rcases hD with ⟨_, e⟩ | ⟨e, _⟩
  · subst e
    exact ⟨fun s us ws X l1 l2 => .of_eq (h kV doc pm an cdv ct us ws l1 l2), hrel⟩
  · exact absurd rfl e
end
abbrev sIni (i : Nat) : Stmt := inClass (top i) 0
abbrev FnI (K : PySem.W.Frag) (q : Str) (i : Nat) (dvs : List V) (f : Addr) (fd : FuncData) : Prop := FunD K "__init__" q (defArgs (sIni i)) (defBody (sIni i)) (defScope (sIni i)) dvs [] f fd
/-- an __init__ of one field -/
def spI1 (C : Addr) (n : Str) : Sp := fun vs H Q _ => ∃ (a : Addr) (v : V), vs = [.ref a, v] ∧ H a = some (exo a C none) ∧ ∀ dx, H dx = none → dx ≠ a → Q .non (upd (upd H dx (exd dx [(n, v)])) a (exo a C (some dx)))
def spI2 (C : Addr) : Sp := fun vs H Q _ => ∃ (a : Addr) (v u : V), vs = [.ref a, v, u] ∧ H a = some (exo a C none) ∧
  ∀ dx, H dx = none → dx ≠ a → Q .non (upd (upd (upd H dx (exd dx [("line", v)])) a (exo a C (some dx))) dx (exd dx [("word", u), ("line", v)]))
section
variable {P : Program} {w : World} {K : PySem.W.Frag} {mg : Str → Option Value} {base : Heap} {f C : Addr} {fd : FuncData} {bmB : List Value} {newId : String} {dvs : List V}
theorem scI3 : FnScope ["self", "place"] ["self", "place"] (defScope (sIni 5)) := ⟨rfl, rfl, rfl, by decide +kernel, rfl, by decide +kernel, by decide +kernel⟩
theorem ok_i3 (B : XB bmB newId) (T : XC K C bmB newId) (no : PySem.W.findIn K (.ref C) "place" = some none) (F : FnI K "BadBook.__init__" 5 dvs f fd) : FnOk P w K mg base CX0 1 f fd ["self", "place"] (spI1 C "place") := by
  refine F.ok scI3 (fun vs H Q E h => ?_) (fun cdv A outer s H vs Q E hr h => ?_)
  · obtain ⟨a, v, rfl, _⟩ := h
    rfl
  · obtain ⟨a, v, rfl, e, q⟩ := h
    exact ⟨_, PSs.nox (pss_one (ps_xst (pv 0) (pv 1))), _, rfl, _, rfl, a, C, bmB, newId, rfl, B, T, no, .inl ⟨e, q⟩⟩
theorem scI6 : FnScope ["self", "day"] ["self", "day"] (defScope (sIni 8)) := ⟨rfl, rfl, rfl, by decide +kernel, rfl, by decide +kernel, by decide +kernel⟩
theorem ok_i6 (B : XB bmB newId) (T : XC K C bmB newId) (no : PySem.W.findIn K (.ref C) "day" = some none) (F : FnI K "SecondBook.__init__" 8 dvs f fd) : FnOk P w K mg base CX0 1 f fd ["self", "day"] (spI1 C "day") := by
  refine F.ok scI6 (fun vs H Q E h => ?_) (fun cdv A outer s H vs Q E hr h => ?_)
  · obtain ⟨a, v, rfl, _⟩ := h
    rfl
  · obtain ⟨a, v, rfl, e, q⟩ := h
    exact ⟨_, PSs.nox (pss_one (ps_xst (pv 0) (pv 1))), _, rfl, _, rfl, a, C, bmB, newId, rfl, B, T, no, .inl ⟨e, q⟩⟩
theorem scI7 : FnScope ["self", "number"] ["self", "number"] (defScope (sIni 9)) := ⟨rfl, rfl, rfl, by decide +kernel, rfl, by decide +kernel, by decide +kernel⟩
theorem ok_i7 (B : XB bmB newId) (T : XC K C bmB newId) (no : PySem.W.findIn K (.ref C) "number" = some none) (F : FnI K "BadPlan.__init__" 9 dvs f fd) : FnOk P w K mg base CX0 1 f fd ["self", "number"] (spI1 C "number") := by
  refine F.ok scI7 (fun vs H Q E h => ?_) (fun cdv A outer s H vs Q E hr h => ?_)
  · obtain ⟨a, v, rfl, _⟩ := h
    rfl
  · obtain ⟨a, v, rfl, e, q⟩ := h
    exact ⟨_, PSs.nox (pss_one (ps_xst (pv 0) (pv 1))), _, rfl, _, rfl, a, C, bmB, newId, rfl, B, T, no, .inl ⟨e, q⟩⟩
theorem scI10 : FnScope ["self", "day"] ["self", "day"] (defScope (sIni 13)) := ⟨rfl, rfl, rfl, by decide +kernel, rfl, by decide +kernel, by decide +kernel⟩
theorem ok_i10 (B : XB bmB newId) (T : XC K C bmB newId) (no : PySem.W.findIn K (.ref C) "day" = some none) (F : FnI K "NoBook.__init__" 13 dvs f fd) : FnOk P w K mg base CX0 1 f fd ["self", "day"] (spI1 C "day") := by
  refine F.ok scI10 (fun vs H Q E h => ?_) (fun cdv A outer s H vs Q E hr h => ?_)
  · obtain ⟨a, v, rfl, _⟩ := h
    rfl
  · obtain ⟨a, v, rfl, e, q⟩ := h
    exact ⟨_, PSs.nox (pss_one (ps_xst (pv 0) (pv 1))), _, rfl, _, rfl, a, C, bmB, newId, rfl, B, T, no, .inl ⟨e, q⟩⟩
theorem scI11 : FnScope ["self", "name"] ["self", "name"] (defScope (sIni 14)) := ⟨rfl, rfl, rfl, by decide +kernel, rfl, by decide +kernel, by decide +kernel⟩
theorem ok_i11 (B : XB bmB newId) (T : XC K C bmB newId) (no : PySem.W.findIn K (.ref C) "name" = some none) (F : FnI K "NoSection.__init__" 14 dvs f fd) : FnOk P w K mg base CX0 1 f fd ["self", "name"] (spI1 C "name") := by
  refine F.ok scI11 (fun vs H Q E h => ?_) (fun cdv A outer s H vs Q E hr h => ?_)
  · obtain ⟨a, v, rfl, _⟩ := h
    rfl
  · obtain ⟨a, v, rfl, e, q⟩ := h
    exact ⟨_, PSs.nox (pss_one (ps_xst (pv 0) (pv 1))), _, rfl, _, rfl, a, C, bmB, newId, rfl, B, T, no, .inl ⟨e, q⟩⟩
theorem scI13 : FnScope ["self", "most"] ["self", "most"] (defScope (sIni 16)) := ⟨rfl, rfl, rfl, by decide +kernel, rfl, by decide +kernel, by decide +kernel⟩
theorem ok_i13 (B : XB bmB newId) (T : XC K C bmB newId) (no : PySem.W.findIn K (.ref C) "most" = some none) (F : FnI K "TooMany.__init__" 16 dvs f fd) : FnOk P w K mg base CX0 1 f fd ["self", "most"] (spI1 C "most") := by
  refine F.ok scI13 (fun vs H Q E h => ?_) (fun cdv A outer s H vs Q E hr h => ?_)
  · obtain ⟨a, v, rfl, _⟩ := h
    rfl
  · obtain ⟨a, v, rfl, e, q⟩ := h
    exact ⟨_, PSs.nox (pss_one (ps_xst (pv 0) (pv 1))), _, rfl, _, rfl, a, C, bmB, newId, rfl, B, T, no, .inl ⟨e, q⟩⟩
theorem scI8 : FnScope ["self", "line", "word"] ["self", "line", "word"] (defScope (sIni 10)) := ⟨rfl, rfl, rfl, by decide +kernel, rfl, by decide +kernel, by decide +kernel⟩
theorem ok_i8 (B : XB bmB newId) (T : XC K C bmB newId) (no1 : PySem.W.findIn K (.ref C) "line" = some none) (no2 : PySem.W.findIn K (.ref C) "word" = some none) (F : FnI K "BadText.__init__" 10 dvs f fd) : FnOk P w K mg base CX0 1 f fd ["self", "line", "word"] (spI2 C) := by
  refine F.ok scI8 (fun vs H Q E h => ?_) (fun cdv A outer s H vs Q E hr h => ?_)
  · obtain ⟨a, v, u, rfl, _⟩ := h
    rfl
  · obtain ⟨a, v, u, rfl, e, q⟩ := h
    refine ⟨_, PSs.nox (pss_cons (ps_xst (pv 0) (pv 1)) (pss_one (ps_xst (pv 0) (pv 2)))), ?_⟩
    refine ⟨_, rfl, _, rfl, a, C, bmB, newId, rfl, B, T, no1, .inl ⟨e, fun dx nd ne => ?_⟩⟩
    refine ⟨_, rfl, _, rfl, a, C, bmB, newId, rfl, B, T, no2, .inr ⟨dx, [("line", v)], upd_same, ?_, Nat.le_of_ble_eq_true rfl, q dx nd ne⟩⟩
    rw [upd_ne ne, upd_same]
end
end Pb

namespace Pb
open PySem PySem.Spec PyProof.Rows L2
def iC (K : PySem.W.Frag) (i : Nat) : Addr := He.ma K (cC K i) "__init__"
def fldL : List (Nat × Str) := [(3, "place"), (6, "day"), (7, "number"), (8, "line"), (8, "word"), (10, "day"), (11, "name"), (13, "most")]
def bareL : List Nat := [0, 1, 2, 4, 5, 9, 12]
def iniL : List Nat := [3, 6, 7, 8, 10, 11, 13]
/-- what the head tells of the refusals' making -/
structure IK (K : PySem.W.Frag) : Prop where
  bare : ∀ i ∈ bareL, PySem.W.excIn K (cC K i) (bmI i) (nwI i) = true
  fld : ∀ p ∈ fldL, PySem.W.findIn K (.ref (cC K p.1)) p.2 = some none
  ini : ∀ i ∈ iniL, PySem.W.findIn K (.ref (cC K i)) "__init__" = some (some (.ref (iC K i)))
  fn : ∀ i ∈ iniL, PySem.W.typeIn K (.ref (iC K i)) = some (.type "function")
  i3 : ∃ fd, FnI K "BadBook.__init__" 5 [] (iC K 3) fd
  i6 : ∃ fd, FnI K "SecondBook.__init__" 8 [] (iC K 6) fd
  i7 : ∃ fd, FnI K "BadPlan.__init__" 9 [] (iC K 7) fd
  i10 : ∃ fd, FnI K "NoBook.__init__" 13 [] (iC K 10) fd
  i11 : ∃ fd, FnI K "NoSection.__init__" 14 [] (iC K 11) fd
  i13 : ∃ fd, FnI K "TooMany.__init__" 16 [.int 99] (iC K 13) fd
  i8 : ∃ fd, FnI K "BadText.__init__" 10 [.int 0, .int 0] (iC K 8) fd
section
variable {X : Cx} {p pos : Pos} {e e' : Expr} {kws : List Keyword} {t : TA}
theorem px_bare (C : CK X.K X.mg) (J : IK X.K) (i : Nat) (hi : i ∈ bareL) (h14 : i < 14) (hg : Gl X (cn.getD i "") := by rfl) (hd : ((cn.getD i "") == ("__debug__" : Str)) = false := by decide) :
    PE X (.Call (.Name (cn.getD i "") p) [] [] pos) (fun σ H Q => ∀ a, H a = none → Q (.ref a) (upd H a (exo a (cC X.K i) none))) := by
  obtain ⟨B, ii, FB, _⟩ := (xbI i).ex
  exact pe_xbare FB (J.bare i hi) (C.xc i h14).kp hg (C.g i h14) hd
theorem px3 (C : CK X.K X.mg) (J : IK X.K) (hr : Room 2 X.A) (ha : PA X [e] t) (hg : Gl X "BadBook" := by rfl) (he : starEach [e] X.env = [(false, eval e X.env)] := by rfl) :
    PE X (.Call (.Name "BadBook" p) [e] [] pos) (tXnew (cC X.K 3) 1 0 (spI1 (cC X.K 3) "place") (fun vs _ => vs) t tNil) := by
  obtain ⟨fd, F⟩ := J.i3
  exact pe_xnew (xbI 3) (C.xc 3 (by decide)) (J.ini 3 (by decide)) (J.fn 3 (by decide)) (ok_i3 (xbI 3) (C.xc 3 (by decide)) (J.fld (3, "place") (by decide)) F) hr (kb0 F 2 [] (fun us _ => us) (fun r _ => r) fun _ _ _ _ _ _ us ws l1 l2 => match us, ws, l1, l2 with | [_, _], [], _, _ => rfl) pass0 hg (C.g 3 (by decide)) ha (by decide) he (by rfl)
theorem pk3 (C : CK X.K X.mg) (J : IK X.K) (hr : Room 2 X.A) (hk : PK X kws t) (hall : (backToKw pos (keywordEach kws X.env)).all (·.1.isSome) = true := by rfl) (hks : (backToKw pos (keywordEach kws X.env)).filterMap (·.1) = (["place"] : List Str) := by rfl)
    (hpl : ((backTo pos (starEach [] X.env)).any (·.1) || (backToKw pos (keywordEach kws X.env)).any (·.1.isNone)) = false := by rfl) (hg : Gl X "BadBook" := by rfl) :
    PE X (.Call (.Name "BadBook" p) [] kws pos) (tXnew (cC X.K 3) 0 1 (spI1 (cC X.K 3) "place") (fun vs zs => vs ++ zs) tNil t) := by
  obtain ⟨fd, F⟩ := J.i3
  exact pe_xnewK (xbI 3) (C.xc 3 (by decide)) (J.ini 3 (by decide)) (J.fn 3 (by decide)) (ok_i3 (xbI 3) (C.xc 3 (by decide)) (J.fld (3, "place") (by decide)) F) hr (kb0 F 1 ["place"] (fun us ws => us ++ ws) (fun r z => r.append z) fun _ _ _ _ _ _ us ws l1 l2 => match us, ws, l1, l2 with | [_], [_], _, _ => rfl) pass0 hg (C.g 3 (by decide)) hk hall hks (by decide) hpl
theorem px6 (C : CK X.K X.mg) (J : IK X.K) (hr : Room 2 X.A) (ha : PA X [e] t) (hg : Gl X "SecondBook" := by rfl) (he : starEach [e] X.env = [(false, eval e X.env)] := by rfl) :
    PE X (.Call (.Name "SecondBook" p) [e] [] pos) (tXnew (cC X.K 6) 1 0 (spI1 (cC X.K 6) "day") (fun vs _ => vs) t tNil) := by
  obtain ⟨fd, F⟩ := J.i6
  exact pe_xnew (xbI 6) (C.xc 6 (by decide)) (J.ini 6 (by decide)) (J.fn 6 (by decide)) (ok_i6 (xbI 6) (C.xc 6 (by decide)) (J.fld (6, "day") (by decide)) F) hr (kb0 F 2 [] (fun us _ => us) (fun r _ => r) fun _ _ _ _ _ _ us ws l1 l2 => match us, ws, l1, l2 with | [_, _], [], _, _ => rfl) pass0 hg (C.g 6 (by decide)) ha (by decide) he (by rfl)
theorem pk6 (C : CK X.K X.mg) (J : IK X.K) (hr : Room 2 X.A) (hk : PK X kws t) (hall : (backToKw pos (keywordEach kws X.env)).all (·.1.isSome) = true := by rfl) (hks : (backToKw pos (keywordEach kws X.env)).filterMap (·.1) = (["day"] : List Str) := by rfl)
    (hpl : ((backTo pos (starEach [] X.env)).any (·.1) || (backToKw pos (keywordEach kws X.env)).any (·.1.isNone)) = false := by rfl) (hg : Gl X "SecondBook" := by rfl) :
    PE X (.Call (.Name "SecondBook" p) [] kws pos) (tXnew (cC X.K 6) 0 1 (spI1 (cC X.K 6) "day") (fun vs zs => vs ++ zs) tNil t) := by
  obtain ⟨fd, F⟩ := J.i6
  exact pe_xnewK (xbI 6) (C.xc 6 (by decide)) (J.ini 6 (by decide)) (J.fn 6 (by decide)) (ok_i6 (xbI 6) (C.xc 6 (by decide)) (J.fld (6, "day") (by decide)) F) hr (kb0 F 1 ["day"] (fun us ws => us ++ ws) (fun r z => r.append z) fun _ _ _ _ _ _ us ws l1 l2 => match us, ws, l1, l2 with | [_], [_], _, _ => rfl) pass0 hg (C.g 6 (by decide)) hk hall hks (by decide) hpl
theorem px7 (C : CK X.K X.mg) (J : IK X.K) (hr : Room 2 X.A) (ha : PA X [e] t) (hg : Gl X "BadPlan" := by rfl) (he : starEach [e] X.env = [(false, eval e X.env)] := by rfl) :
    PE X (.Call (.Name "BadPlan" p) [e] [] pos) (tXnew (cC X.K 7) 1 0 (spI1 (cC X.K 7) "number") (fun vs _ => vs) t tNil) := by
  obtain ⟨fd, F⟩ := J.i7
  exact pe_xnew (xbI 7) (C.xc 7 (by decide)) (J.ini 7 (by decide)) (J.fn 7 (by decide)) (ok_i7 (xbI 7) (C.xc 7 (by decide)) (J.fld (7, "number") (by decide)) F) hr (kb0 F 2 [] (fun us _ => us) (fun r _ => r) fun _ _ _ _ _ _ us ws l1 l2 => match us, ws, l1, l2 with | [_, _], [], _, _ => rfl) pass0 hg (C.g 7 (by decide)) ha (by decide) he (by rfl)
theorem pk7 (C : CK X.K X.mg) (J : IK X.K) (hr : Room 2 X.A) (hk : PK X kws t) (hall : (backToKw pos (keywordEach kws X.env)).all (·.1.isSome) = true := by rfl) (hks : (backToKw pos (keywordEach kws X.env)).filterMap (·.1) = (["number"] : List Str) := by rfl)
    (hpl : ((backTo pos (starEach [] X.env)).any (·.1) || (backToKw pos (keywordEach kws X.env)).any (·.1.isNone)) = false := by rfl) (hg : Gl X "BadPlan" := by rfl) :
    PE X (.Call (.Name "BadPlan" p) [] kws pos) (tXnew (cC X.K 7) 0 1 (spI1 (cC X.K 7) "number") (fun vs zs => vs ++ zs) tNil t) := by
  obtain ⟨fd, F⟩ := J.i7
  exact pe_xnewK (xbI 7) (C.xc 7 (by decide)) (J.ini 7 (by decide)) (J.fn 7 (by decide)) (ok_i7 (xbI 7) (C.xc 7 (by decide)) (J.fld (7, "number") (by decide)) F) hr (kb0 F 1 ["number"] (fun us ws => us ++ ws) (fun r z => r.append z) fun _ _ _ _ _ _ us ws l1 l2 => match us, ws, l1, l2 with | [_], [_], _, _ => rfl) pass0 hg (C.g 7 (by decide)) hk hall hks (by decide) hpl
theorem px10 (C : CK X.K X.mg) (J : IK X.K) (hr : Room 2 X.A) (ha : PA X [e] t) (hg : Gl X "NoBook" := by rfl) (he : starEach [e] X.env = [(false, eval e X.env)] := by rfl) :
    PE X (.Call (.Name "NoBook" p) [e] [] pos) (tXnew (cC X.K 10) 1 0 (spI1 (cC X.K 10) "day") (fun vs _ => vs) t tNil) := by
  obtain ⟨fd, F⟩ := J.i10
  exact pe_xnew (xbI 10) (C.xc 10 (by decide)) (J.ini 10 (by decide)) (J.fn 10 (by decide)) (ok_i10 (xbI 10) (C.xc 10 (by decide)) (J.fld (10, "day") (by decide)) F) hr (kb0 F 2 [] (fun us _ => us) (fun r _ => r) fun _ _ _ _ _ _ us ws l1 l2 => match us, ws, l1, l2 with | [_, _], [], _, _ => rfl) pass0 hg (C.g 10 (by decide)) ha (by decide) he (by rfl)
theorem pk10 (C : CK X.K X.mg) (J : IK X.K) (hr : Room 2 X.A) (hk : PK X kws t) (hall : (backToKw pos (keywordEach kws X.env)).all (·.1.isSome) = true := by rfl) (hks : (backToKw pos (keywordEach kws X.env)).filterMap (·.1) = (["day"] : List Str) := by rfl)
    (hpl : ((backTo pos (starEach [] X.env)).any (·.1) || (backToKw pos (keywordEach kws X.env)).any (·.1.isNone)) = false := by rfl) (hg : Gl X "NoBook" := by rfl) :
    PE X (.Call (.Name "NoBook" p) [] kws pos) (tXnew (cC X.K 10) 0 1 (spI1 (cC X.K 10) "day") (fun vs zs => vs ++ zs) tNil t) := by
  obtain ⟨fd, F⟩ := J.i10
  exact pe_xnewK (xbI 10) (C.xc 10 (by decide)) (J.ini 10 (by decide)) (J.fn 10 (by decide)) (ok_i10 (xbI 10) (C.xc 10 (by decide)) (J.fld (10, "day") (by decide)) F) hr (kb0 F 1 ["day"] (fun us ws => us ++ ws) (fun r z => r.append z) fun _ _ _ _ _ _ us ws l1 l2 => match us, ws, l1, l2 with | [_], [_], _, _ => rfl) pass0 hg (C.g 10 (by decide)) hk hall hks (by decide) hpl
theorem px11 (C : CK X.K X.mg) (J : IK X.K) (hr : Room 2 X.A) (ha : PA X [e] t) (hg : Gl X "NoSection" := by rfl) (he : starEach [e] X.env = [(false, eval e X.env)] := by rfl) :
    PE X (.Call (.Name "NoSection" p) [e] [] pos) (tXnew (cC X.K 11) 1 0 (spI1 (cC X.K 11) "name") (fun vs _ => vs) t tNil) := by
  obtain ⟨fd, F⟩ := J.i11
  exact pe_xnew (xbI 11) (C.xc 11 (by decide)) (J.ini 11 (by decide)) (J.fn 11 (by decide)) (ok_i11 (xbI 11) (C.xc 11 (by decide)) (J.fld (11, "name") (by decide)) F) hr (kb0 F 2 [] (fun us _ => us) (fun r _ => r) fun _ _ _ _ _ _ us ws l1 l2 => match us, ws, l1, l2 with | [_, _], [], _, _ => rfl) pass0 hg (C.g 11 (by decide)) ha (by decide) he (by rfl)
theorem pk11 (C : CK X.K X.mg) (J : IK X.K) (hr : Room 2 X.A) (hk : PK X kws t) (hall : (backToKw pos (keywordEach kws X.env)).all (·.1.isSome) = true := by rfl) (hks : (backToKw pos (keywordEach kws X.env)).filterMap (·.1) = (["name"] : List Str) := by rfl)
    (hpl : ((backTo pos (starEach [] X.env)).any (·.1) || (backToKw pos (keywordEach kws X.env)).any (·.1.isNone)) = false := by rfl) (hg : Gl X "NoSection" := by rfl) :
    PE X (.Call (.Name "NoSection" p) [] kws pos) (tXnew (cC X.K 11) 0 1 (spI1 (cC X.K 11) "name") (fun vs zs => vs ++ zs) tNil t) := by
  obtain ⟨fd, F⟩ := J.i11
  exact pe_xnewK (xbI 11) (C.xc 11 (by decide)) (J.ini 11 (by decide)) (J.fn 11 (by decide)) (ok_i11 (xbI 11) (C.xc 11 (by decide)) (J.fld (11, "name") (by decide)) F) hr (kb0 F 1 ["name"] (fun us ws => us ++ ws) (fun r z => r.append z) fun _ _ _ _ _ _ us ws l1 l2 => match us, ws, l1, l2 with | [_], [_], _, _ => rfl) pass0 hg (C.g 11 (by decide)) hk hall hks (by decide) hpl
theorem px13 (C : CK X.K X.mg) (J : IK X.K) (hr : Room 2 X.A) (ha : PA X [e] t) (hg : Gl X "TooMany" := by rfl) (he : starEach [e] X.env = [(false, eval e X.env)] := by rfl) :
    PE X (.Call (.Name "TooMany" p) [e] [] pos) (tXnew (cC X.K 13) 1 0 (spI1 (cC X.K 13) "most") (fun vs _ => vs) t tNil) := by
  obtain ⟨fd, F⟩ := J.i13
  obtain ⟨its, kb⟩ := FunD.kbindsD (ps := ["self", "most"]) F 2 [] (fun us _ _ => us) (by simp) (fun r _ _ => r) fun _ _ _ _ _ _ _ us its ws l1 l2 l3 => match us, its, ws, l1, l2, l3 with | [_, _], [_], [], _, _, _ => ⟨_, rfl, rfl⟩
  exact pe_xnew (xbI 13) (C.xc 13 (by decide)) (J.ini 13 (by decide)) (J.fn 13 (by decide)) (ok_i13 (xbI 13) (C.xc 13 (by decide)) (J.fld (13, "most") (by decide)) F) hr kb pass0 hg (C.g 13 (by decide)) ha (by decide) he (by rfl)
theorem pk13 (C : CK X.K X.mg) (J : IK X.K) (hr : Room 2 X.A) (hk : PK X kws t) (hall : (backToKw pos (keywordEach kws X.env)).all (·.1.isSome) = true := by rfl) (hks : (backToKw pos (keywordEach kws X.env)).filterMap (·.1) = (["most"] : List Str) := by rfl)
    (hpl : ((backTo pos (starEach [] X.env)).any (·.1) || (backToKw pos (keywordEach kws X.env)).any (·.1.isNone)) = false := by rfl) (hg : Gl X "TooMany" := by rfl) :
    PE X (.Call (.Name "TooMany" p) [] kws pos) (tXnew (cC X.K 13) 0 1 (spI1 (cC X.K 13) "most") (fun vs zs => vs ++ zs) tNil t) := by
  obtain ⟨fd, F⟩ := J.i13
  obtain ⟨its, kb⟩ := FunD.kbindsD (ps := ["self", "most"]) F 1 ["most"] (fun us _ ws => us ++ ws) (by simp) (fun r _ z => r.append z) fun _ _ _ _ _ _ _ us its ws l1 l2 l3 => match us, its, ws, l1, l2, l3 with | [_], [_], [_], _, _, _ => ⟨_, rfl, rfl⟩
  exact pe_xnewK (xbI 13) (C.xc 13 (by decide)) (J.ini 13 (by decide)) (J.fn 13 (by decide)) (ok_i13 (xbI 13) (C.xc 13 (by decide)) (J.fld (13, "most") (by decide)) F) hr kb pass0 hg (C.g 13 (by decide)) hk hall hks (by decide) hpl
theorem pz13 (C : CK X.K X.mg) (J : IK X.K) (hr : Room 2 X.A) (hg : Gl X "TooMany" := by rfl) :
    PE X (.Call (.Name "TooMany" p) [] [] pos) (tXnew (cC X.K 13) 0 0 (spI1 (cC X.K 13) "most") (fun vs _ => vs ++ [.int 99]) tNil tNil) := by
  obtain ⟨fd, F⟩ := J.i13
  obtain ⟨its, kb⟩ := FunD.kbindsD (ps := ["self", "most"]) F 1 [] (fun us its _ => us ++ its) (by simp) (fun r z _ => r.append z) fun _ _ _ _ _ _ _ us its ws l1 l2 l3 => match us, its, ws, l1, l2, l3 with | [_], [_], [], _, _, _ => ⟨_, rfl, rfl⟩
  exact pe_xnew0 (xbI 13) (C.xc 13 (by decide)) (J.ini 13 (by decide)) (J.fn 13 (by decide)) (ok_i13 (xbI 13) (C.xc 13 (by decide)) (J.fld (13, "most") (by decide)) F) hr kb pass0 hg (C.g 13 (by decide))
/-- the parameters of BadText by keywords -/
def swap3 {α : Type} : List α → List α → List α
  | [s], [w, l] => [s, l, w]
  | _, _ => []
def mid3 {α : Type} : List α → List α → List α → List α
  | [s], [l, _], [w] => [s, l, w]
  | _, _, _ => []
theorem swap3_rel {vs zs : List V} {us ws : List Value} (a : Vals vs us) (b : Vals zs ws) : Vals (swap3 vs zs) (swap3 us ws) := by
  cases a with
  | nil => exact .nil
  | cons r1 a =>
    cases a with
    | cons => exact .nil
    | nil =>
      cases b with
      | nil => exact .nil
      | cons r2 b =>
        cases b with
        | nil => exact .nil
        | cons r3 b =>
          cases b with
          | nil => exact .cons r1 (.cons r3 (.cons r2 .nil))
          | cons => exact .nil
theorem mid3_rel {vs ds zs : List V} {us its ws : List Value} (a : Vals vs us) (d : Vals ds its) (b : Vals zs ws) : Vals (mid3 vs ds zs) (mid3 us its ws) := by
  cases a with
  | nil => exact .nil
  | cons r1 a =>
    cases a with
    | cons => exact .nil
    | nil =>
      cases d with
      | nil => exact .nil
      | cons r2 d =>
        cases d with
        | nil => exact .nil
        | cons r3 d =>
          cases d with
          | cons => exact .nil
          | nil =>
            cases b with
            | nil => exact .nil
            | cons r4 b =>
              cases b with
              | nil => exact .cons r1 (.cons r2 (.cons r4 .nil))
              | cons => exact .nil
theorem px8 (C : CK X.K X.mg) (J : IK X.K) (hr : Room 2 X.A) (ha : PA X [e, e'] t) (hg : Gl X "BadText" := by rfl) (he : starEach [e, e'] X.env = (false, eval e X.env) :: starEach [e'] X.env := by rfl) (hpl : (backTo pos (starEach [e'] X.env)).any (·.1) = false := by rfl) :
    PE X (.Call (.Name "BadText" p) [e, e'] [] pos) (tXnew (cC X.K 8) 2 0 (spI2 (cC X.K 8)) (fun vs _ => vs) t tNil) := by
  obtain ⟨fd, F⟩ := J.i8
  obtain ⟨its, kb⟩ := FunD.kbindsD (ps := ["self", "line", "word"]) F 3 [] (fun us _ _ => us) (by simp) (fun r _ _ => r) fun _ _ _ _ _ _ _ us its ws l1 l2 l3 => match us, its, ws, l1, l2, l3 with | [_, _, _], [_, _], [], _, _, _ => ⟨_, rfl, rfl⟩
  exact pe_xnew (xbI 8) (C.xc 8 (by decide)) (J.ini 8 (by decide)) (J.fn 8 (by decide)) (ok_i8 (xbI 8) (C.xc 8 (by decide)) (J.fld (8, "line") (by decide)) (J.fld (8, "word") (by decide)) F) hr kb pass0 hg (C.g 8 (by decide)) ha (by decide) he hpl
theorem px8a (C : CK X.K X.mg) (J : IK X.K) (hr : Room 2 X.A) (ha : PA X [e] t) (hg : Gl X "BadText" := by rfl) (he : starEach [e] X.env = [(false, eval e X.env)] := by rfl) :
    PE X (.Call (.Name "BadText" p) [e] [] pos) (tXnew (cC X.K 8) 1 0 (spI2 (cC X.K 8)) (fun vs _ => vs ++ [.int 0]) t tNil) := by
  obtain ⟨fd, F⟩ := J.i8
  obtain ⟨its, kb⟩ := FunD.kbindsD (ps := ["self", "line", "word"]) F 2 [] (fun us its _ => us ++ its.drop 1) (by simp) (fun r z _ => r.append (z.drop 1)) fun _ _ _ _ _ _ _ us its ws l1 l2 l3 => match us, its, ws, l1, l2, l3 with | [_, _], [_, _], [], _, _, _ => ⟨_, rfl, rfl⟩
  exact pe_xnew (xbI 8) (C.xc 8 (by decide)) (J.ini 8 (by decide)) (J.fn 8 (by decide)) (ok_i8 (xbI 8) (C.xc 8 (by decide)) (J.fld (8, "line") (by decide)) (J.fld (8, "word") (by decide)) F) hr kb pass0 hg (C.g 8 (by decide)) ha (by decide) he (by rfl)
theorem pz8 (C : CK X.K X.mg) (J : IK X.K) (hr : Room 2 X.A) (hg : Gl X "BadText" := by rfl) : PE X (.Call (.Name "BadText" p) [] [] pos) (tXnew (cC X.K 8) 0 0 (spI2 (cC X.K 8)) (fun vs _ => vs ++ [.int 0, .int 0]) tNil tNil) := by
  obtain ⟨fd, F⟩ := J.i8
  obtain ⟨its, kb⟩ := FunD.kbindsD (ps := ["self", "line", "word"]) F 1 [] (fun us its _ => us ++ its) (by simp) (fun r z _ => r.append z) fun _ _ _ _ _ _ _ us its ws l1 l2 l3 => match us, its, ws, l1, l2, l3 with | [_], [_, _], [], _, _, _ => ⟨_, rfl, rfl⟩
  exact pe_xnew0 (xbI 8) (C.xc 8 (by decide)) (J.ini 8 (by decide)) (J.fn 8 (by decide)) (ok_i8 (xbI 8) (C.xc 8 (by decide)) (J.fld (8, "line") (by decide)) (J.fld (8, "word") (by decide)) F) hr kb pass0 hg (C.g 8 (by decide))
theorem pk8 (C : CK X.K X.mg) (J : IK X.K) (hr : Room 2 X.A) (hk : PK X kws t) (hall : (backToKw pos (keywordEach kws X.env)).all (·.1.isSome) = true := by rfl) (hks : (backToKw pos (keywordEach kws X.env)).filterMap (·.1) = (["word", "line"] : List Str) := by rfl)
    (hpl : ((backTo pos (starEach [] X.env)).any (·.1) || (backToKw pos (keywordEach kws X.env)).any (·.1.isNone)) = false := by rfl) (hg : Gl X "BadText" := by rfl) :
    PE X (.Call (.Name "BadText" p) [] kws pos) (tXnew (cC X.K 8) 0 2 (spI2 (cC X.K 8)) (fun vs zs => swap3 vs zs) tNil t) := by
  obtain ⟨fd, F⟩ := J.i8
  obtain ⟨its, kb⟩ := FunD.kbindsD (ps := ["self", "line", "word"]) F 1 ["word", "line"] (fun us _ ws => swap3 us ws) (by simp) (fun r _ z => swap3_rel r z) fun _ _ _ _ _ _ _ us its ws l1 l2 l3 => match us, its, ws, l1, l2, l3 with | [_], [_, _], [_, _], _, _, _ => ⟨_, rfl, rfl⟩
  exact pe_xnewK (xbI 8) (C.xc 8 (by decide)) (J.ini 8 (by decide)) (J.fn 8 (by decide)) (ok_i8 (xbI 8) (C.xc 8 (by decide)) (J.fld (8, "line") (by decide)) (J.fld (8, "word") (by decide)) F) hr kb pass0 hg (C.g 8 (by decide)) hk hall hks (by decide) hpl
theorem pk8w (C : CK X.K X.mg) (J : IK X.K) (hr : Room 2 X.A) (hk : PK X kws t) (hall : (backToKw pos (keywordEach kws X.env)).all (·.1.isSome) = true := by rfl) (hks : (backToKw pos (keywordEach kws X.env)).filterMap (·.1) = (["word"] : List Str) := by rfl)
    (hpl : ((backTo pos (starEach [] X.env)).any (·.1) || (backToKw pos (keywordEach kws X.env)).any (·.1.isNone)) = false := by rfl) (hg : Gl X "BadText" := by rfl) :
    PE X (.Call (.Name "BadText" p) [] kws pos) (tXnew (cC X.K 8) 0 1 (spI2 (cC X.K 8)) (fun vs zs => mid3 vs [.int 0, .int 0] zs) tNil t) := by
  obtain ⟨fd, F⟩ := J.i8
  obtain ⟨its, kb⟩ := FunD.kbindsD (ps := ["self", "line", "word"]) F 1 ["word"] (fun us its ws => mid3 us its ws) (by simp) (fun r d z => mid3_rel r d z) fun _ _ _ _ _ _ _ us its ws l1 l2 l3 => match us, its, ws, l1, l2, l3 with | [_], [_, _], [_], _, _, _ => ⟨_, rfl, rfl⟩
  exact pe_xnewK (xbI 8) (C.xc 8 (by decide)) (J.ini 8 (by decide)) (J.fn 8 (by decide)) (ok_i8 (xbI 8) (C.xc 8 (by decide)) (J.fld (8, "line") (by decide)) (J.fld (8, "word") (by decide)) F) hr kb pass0 hg (C.g 8 (by decide)) hk hall hks (by decide) hpl
end
/-! ### what a made refusal is -/
section
variable {H : Hp} {a dx C : Addr} {n : Str} {v u : V}
theorem nx0 (na : H a = none) : Same H (upd H a (exo a C none)) ∧ ExI (upd H a (exo a C none)) a C none := ⟨same_upd na, .inl upd_same⟩
theorem nx1 (na : H a = none) (nd : upd H a (exo a C none) dx = none) (ne : dx ≠ a) : Same H (upd (upd (upd H a (exo a C none)) dx (exd dx [(n, v)])) a (exo a C (some dx))) ∧
    ExI (upd (upd (upd H a (exo a C none)) dx (exd dx [(n, v)])) a (exo a C (some dx))) a C (some [(n, v)]) := by
  rw [upd_ne ne] at nd
  refine ⟨fun b o e => ?_, dx, .inl ⟨upd_same, ?_⟩⟩
  · rw [upd_ne (ne_of_none e na), upd_ne (ne_of_none e nd), upd_ne (ne_of_none e na)]
    exact e
  · rw [upd_ne ne, upd_same]
theorem nx2 (na : H a = none) (nd : upd H a (exo a C none) dx = none) (ne : dx ≠ a) : Same H (upd (upd (upd (upd H a (exo a C none)) dx (exd dx [("line", v)])) a (exo a C (some dx))) dx (exd dx [("word", u), ("line", v)])) ∧
    ExI (upd (upd (upd (upd H a (exo a C none)) dx (exd dx [("line", v)])) a (exo a C (some dx))) dx (exd dx [("word", u), ("line", v)])) a C (some [("word", u), ("line", v)]) := by
  rw [upd_ne ne] at nd
  refine ⟨fun b o e => ?_, dx, .inl ⟨?_, upd_same⟩⟩
  · rw [upd_ne (ne_of_none e nd), upd_ne (ne_of_none e na), upd_ne (ne_of_none e nd), upd_ne (ne_of_none e na)]
    exact e
  · rw [upd_ne (Ne.symm ne), upd_same]
theorem nxo {o : HO} (na : H a = none) : Same H (upd H a o) ∧ (upd H a o) a = some o := ⟨same_upd na, upd_same⟩
end
end Pb

namespace Pb
open PySem PySem.Spec PyProof.Rows L2
/-- the fields of the made refusals -/
def fsI (t : Addr) (a s : Int) (w : Str) : Nat → Option (List (Str × V))
  | 3 => some [("place", .ref t)]
  | 6 => some [("day", .int a)]
  | 7 => some [("number", .int s)]
  | 8 => some [("word", .int s), ("line", .int a)]
  | 10 => some [("day", .int a)]
  | 11 => some [("name", .str w)]
  | 13 => some [("most", .int s)]
  | _ => none
/-- the fourteen made refusals, at these addresses -/
def Exs (K : PySem.W.Frag) (H : Hp) (bs : List Addr) (a s : Int) (w : Str) : Prop := bs.length = 14 ∧ ∃ t, H t = some (.tup [.int a, .int s]) ∧ ∀ i b, bs[i]? = some b → ExI H b (cC K i) (fsI t a s w i)
theorem Exs.same {K : PySem.W.Frag} {H H' : Hp} {bs : List Addr} {a s : Int} {w : Str} (h : Exs K H bs a s w) (q : Same H H') : Exs K H' bs a s w := by
  obtain ⟨l, t, ht, hx⟩ := h
  exact ⟨l, t, q _ _ ht, fun i b e => (hx i b e).same q⟩
def spMade (K : PySem.W.Frag) : Sp := fun vs H Q _ => ∃ (a s : Int) (w : Str), vs = [.int a, .int s, .str w] ∧ ∀ H' p bs, Same H H' → H' p = some (.lst (bs.map V.ref)) → Exs K H' bs a s w → Q (.ref p) H'
/-! readings -/
def rBare (K : PySem.W.Frag) (i : Nat) : TE := fun _ H Q => ∀ a, H a = none → Q (.ref a) (upd H a (exo a (cC K i) none))
def rX1 (K : PySem.W.Frag) (i : Nat) (n : Str) (t : TE) : TE := tXnew (cC K i) 1 0 (spI1 (cC K i) n) (fun vs _ => vs) (tCons t tNil) tNil
def rX2 (K : PySem.W.Frag) (t u : TE) : TE := tXnew (cC K 8) 2 0 (spI2 (cC K 8)) (fun vs _ => vs) (tCons t (tCons u tNil)) tNil
def t_made (K : PySem.W.Frag) : TS :=
  tSeq (tAsg (tLst (tCons (rBare K 0) (tCons (rBare K 1) (tCons (rBare K 2) (tCons (rX1 K 3 "place" (tTup (tCons (tVar 0) (tCons (tVar 1) tNil)))) (tCons (rBare K 4) (tCons (rBare K 5) tNil))))))) (gName 3))
    (tSeq (tAsg (tOp (rCatS K) (tVar 3) (tLst (tCons (rX1 K 6 "day" (tVar 0)) (tCons (rX1 K 7 "number" (tVar 1)) (tCons (rX2 K (tVar 0) (tVar 1)) (tCons (rBare K 9) tNil)))))) (gName 3))
    (tRet (tOp (rCatS K) (tVar 3) (tLst (tCons (rX1 K 10 "day" (tVar 0)) (tCons (rX1 K 11 "name" (tVar 2)) (tCons (rBare K 12) (tCons (rX1 K 13 "most" (tVar 1)) tNil))))))))
abbrev sMade : Stmt := top 23
theorem scMade : FnScope ["_law_amount", "_law_spot", "_law_what", "_law_some"] ["_law_amount", "_law_spot", "_law_what"] (defScope sMade) := ⟨rfl, rfl, rfl, by decide +kernel, rfl, by decide +kernel, by decide +kernel⟩
section
variable {P : Program} {w : World} {K : PySem.W.Frag} {mg : Str → Option Value} {base : Heap} {f : Addr} {fd : FuncData}
theorem ok_made (F : FnP K "_law_made" sMade f fd) (C : CK K mg) (J : IK K) : FnOk P w K mg base CX0 3 f fd ["_law_amount", "_law_spot", "_law_what"] (spMade K) := by
  refine F.ok scMade (fun vs H Q E h => ?_) (fun cdv A outer s H vs Q E hr h => ?_)
  · obtain ⟨a, s, w, rfl, _⟩ := h
    rfl
  · obtain ⟨a, s, w, rfl, q⟩ := h
    refine ⟨t_made K, PSs.nox (pss_cons (ps_set (i := 3) scMade.nd rfl (.inl rfl) (pe_lst (pa_cons (px_bare C J 0 (by decide) (by decide)) (pa_cons (px_bare C J 1 (by decide) (by decide)) (pa_cons (px_bare C J 2 (by decide) (by decide))
        (pa_cons (px3 C J hr (pa_cons (pe_tup (pa_cons (pv 0) (pa_cons (pv 1) pa_nil))) pa_nil)) (pa_cons (px_bare C J 4 (by decide) (by decide)) (pa_cons (px_bare C J 5 (by decide) (by decide)) pa_nil))))))))
      (pss_cons (ps_set (i := 3) scMade.nd rfl (.inl rfl) (pe_op op_catS (pv 3) (pe_lst (pa_cons (px6 C J hr (pa_cons (pv 0) pa_nil)) (pa_cons (px7 C J hr (pa_cons (pv 1) pa_nil)) (pa_cons (px8 C J hr (pa_cons (pv 0) (pa_cons (pv 1) pa_nil))) (pa_cons (px_bare C J 9 (by decide) (by decide)) pa_nil)))))))
      (pss_one (ps_ret (pe_op op_catS (pv 3) (pe_lst (pa_cons (px10 C J hr (pa_cons (pv 0) pa_nil)) (pa_cons (px11 C J hr (pa_cons (pv 2) pa_nil)) (pa_cons (px_bare C J 12 (by decide) (by decide)) (pa_cons (px13 C J hr (pa_cons (pv 1) pa_nil)) pa_nil)))))))))), ?_⟩
    refine fun a0 n1 => ?_
    obtain ⟨s1, x0⟩ := nx0 (C := cC K 0) n1
    generalize upd H a0 (exo a0 (cC K 0) none) = G1 at s1 x0 ⊢
    refine fun a1 n2 => ?_
    obtain ⟨s2, x1⟩ := nx0 (C := cC K 1) n2
    generalize upd G1 a1 (exo a1 (cC K 1) none) = G2 at s2 x1 ⊢
    refine fun a2 n3 => ?_
    obtain ⟨s3, x2⟩ := nx0 (C := cC K 2) n3
    generalize upd G2 a2 (exo a2 (cC K 2) none) = G3 at s3 x2 ⊢
    refine ⟨_, rfl, _, rfl, (by show 2 ≤ sizeLine; decide), fun t n4 => ?_⟩
    obtain ⟨s4, et⟩ := nxo (o := .tup [.int a, .int s]) n4
    generalize upd G3 t (.tup [.int a, .int s]) = G4 at s4 et ⊢
    refine ⟨rfl, rfl, by decide, fun a3 n5 => ⟨a3, _, rfl, upd_same, fun d5 m5 e5 => ⟨rfl, ?_⟩⟩⟩
    obtain ⟨s5, x3⟩ := nx1 (C := cC K 3) (n := "place") (v := .ref t) n5 m5 e5
    generalize upd (upd (upd G4 a3 (exo a3 (cC K 3) none)) d5 (exd d5 [("place", .ref t)])) a3 (exo a3 (cC K 3) (some d5)) = G5 at s5 x3 ⊢
    refine fun a4 n6 => ?_
    obtain ⟨s6, x4⟩ := nx0 (C := cC K 4) n6
    generalize upd G5 a4 (exo a4 (cC K 4) none) = G6 at s6 x4 ⊢
    refine fun a5 n7 => ?_
    obtain ⟨s7, x5⟩ := nx0 (C := cC K 5) n7
    generalize upd G6 a5 (exo a5 (cC K 5) none) = G7 at s7 x5 ⊢
    refine ⟨(by show 6 ≤ sizeLine; decide), fun f1 n8 => ?_⟩
    obtain ⟨s8, ef1⟩ := nxo (o := .lst [.ref a0, .ref a1, .ref a2, .ref a3, .ref a4, .ref a5]) n8
    generalize upd G7 f1 (.lst [.ref a0, .ref a1, .ref a2, .ref a3, .ref a4, .ref a5]) = G8 at s8 ef1 ⊢
    refine ⟨_, rfl, _, rfl, ⟨rfl, rfl, by decide, fun a6 n9 => ⟨a6, _, rfl, upd_same, fun d9 m9 e9 => ⟨rfl, ?_⟩⟩⟩⟩
    obtain ⟨s9, x6⟩ := nx1 (C := cC K 6) (n := "day") (v := .int a) n9 m9 e9
    generalize upd (upd (upd G8 a6 (exo a6 (cC K 6) none)) d9 (exd d9 [("day", .int a)])) a6 (exo a6 (cC K 6) (some d9)) = G9 at s9 x6 ⊢
    refine ⟨_, rfl, ⟨rfl, rfl, by decide, fun a7 n10 => ⟨a7, _, rfl, upd_same, fun d10 m10 e10 => ⟨rfl, ?_⟩⟩⟩⟩
    obtain ⟨s10, x7⟩ := nx1 (C := cC K 7) (n := "number") (v := .int s) n10 m10 e10
    generalize upd (upd (upd G9 a7 (exo a7 (cC K 7) none)) d10 (exd d10 [("number", .int s)])) a7 (exo a7 (cC K 7) (some d10)) = G10 at s10 x7 ⊢
    refine ⟨_, rfl, _, rfl, ⟨rfl, rfl, by decide, fun a8 n11 => ⟨a8, _, _, rfl, upd_same, fun d11 m11 e11 => ⟨rfl, ?_⟩⟩⟩⟩
    obtain ⟨s11, x8⟩ := nx2 (C := cC K 8) (v := .int a) (u := .int s) n11 m11 e11
    generalize upd (upd (upd (upd G10 a8 (exo a8 (cC K 8) none)) d11 (exd d11 [("line", .int a)])) a8 (exo a8 (cC K 8) (some d11))) d11 (exd d11 [("word", .int s), ("line", .int a)]) = G11 at s11 x8 ⊢
    refine fun a9 n12 => ?_
    obtain ⟨s12, x9⟩ := nx0 (C := cC K 9) n12
    generalize upd G11 a9 (exo a9 (cC K 9) none) = G12 at s12 x9 ⊢
    refine ⟨(by show 4 ≤ sizeLine; decide), fun f2 n13 => ?_⟩
    obtain ⟨s13, ef2⟩ := nxo (o := .lst [.ref a6, .ref a7, .ref a8, .ref a9]) n13
    generalize upd G12 f2 (.lst [.ref a6, .ref a7, .ref a8, .ref a9]) = G13 at s13 ef2 ⊢
    refine ⟨f1, f2, _, _, rfl, rfl, .of (((((s9.trans s10).trans s11).trans s12).trans s13) _ _ ef1), .of ef2, (by show 10 ≤ sizeLine; decide), fun f3 n14 => ?_⟩
    obtain ⟨s14, ef3⟩ := nxo (o := .lst ([.ref a0, .ref a1, .ref a2, .ref a3, .ref a4, .ref a5] ++ [.ref a6, .ref a7, .ref a8, .ref a9])) n14
    generalize upd G13 f3 (.lst ([.ref a0, .ref a1, .ref a2, .ref a3, .ref a4, .ref a5] ++ [.ref a6, .ref a7, .ref a8, .ref a9])) = G14 at s14 ef3 ⊢
    refine ⟨_, rfl, _, rfl, ⟨rfl, rfl, by decide, fun a10 n15 => ⟨a10, _, rfl, upd_same, fun d15 m15 e15 => ⟨rfl, ?_⟩⟩⟩⟩
    obtain ⟨s15, x10⟩ := nx1 (C := cC K 10) (n := "day") (v := .int a) n15 m15 e15
    generalize upd (upd (upd G14 a10 (exo a10 (cC K 10) none)) d15 (exd d15 [("day", .int a)])) a10 (exo a10 (cC K 10) (some d15)) = G15 at s15 x10 ⊢
    refine ⟨_, rfl, ⟨rfl, rfl, by decide, fun a11 n16 => ⟨a11, _, rfl, upd_same, fun d16 m16 e16 => ⟨rfl, ?_⟩⟩⟩⟩
    obtain ⟨s16, x11⟩ := nx1 (C := cC K 11) (n := "name") (v := .str w) n16 m16 e16
    generalize upd (upd (upd G15 a11 (exo a11 (cC K 11) none)) d16 (exd d16 [("name", .str w)])) a11 (exo a11 (cC K 11) (some d16)) = G16 at s16 x11 ⊢
    refine fun a12 n17 => ?_
    obtain ⟨s17, x12⟩ := nx0 (C := cC K 12) n17
    generalize upd G16 a12 (exo a12 (cC K 12) none) = G17 at s17 x12 ⊢
    refine ⟨_, rfl, ⟨rfl, rfl, by decide, fun a13 n18 => ⟨a13, _, rfl, upd_same, fun d18 m18 e18 => ⟨rfl, ?_⟩⟩⟩⟩
    obtain ⟨s18, x13⟩ := nx1 (C := cC K 13) (n := "most") (v := .int s) n18 m18 e18
    generalize upd (upd (upd G17 a13 (exo a13 (cC K 13) none)) d18 (exd d18 [("most", .int s)])) a13 (exo a13 (cC K 13) (some d18)) = G18 at s18 x13 ⊢
    refine ⟨(by show 4 ≤ sizeLine; decide), fun f4 n19 => ?_⟩
    obtain ⟨s19, ef4⟩ := nxo (o := .lst [.ref a10, .ref a11, .ref a12, .ref a13]) n19
    generalize upd G18 f4 (.lst [.ref a10, .ref a11, .ref a12, .ref a13]) = G19 at s19 ef4 ⊢
    refine ⟨f3, f4, _, _, rfl, rfl, .of (((((s15.trans s16).trans s17).trans s18).trans s19) _ _ ef3), .of ef4, (by show 14 ≤ sizeLine; decide), fun f5 n20 => ?_⟩
    obtain ⟨s20, ef5⟩ := nxo (o := .lst ([.ref a0, .ref a1, .ref a2, .ref a3, .ref a4, .ref a5] ++ [.ref a6, .ref a7, .ref a8, .ref a9] ++ [.ref a10, .ref a11, .ref a12, .ref a13])) n20
    generalize upd G19 f5 (.lst ([.ref a0, .ref a1, .ref a2, .ref a3, .ref a4, .ref a5] ++ [.ref a6, .ref a7, .ref a8, .ref a9] ++ [.ref a10, .ref a11, .ref a12, .ref a13])) = G20 at s20 ef5 ⊢
    refine q _ f5 [a0, a1, a2, a3, a4, a5, a6, a7, a8, a9, a10, a11, a12, a13] (((((((((((((((((((s1.trans s2).trans s3).trans s4).trans s5).trans s6).trans s7).trans s8).trans s9).trans s10).trans s11).trans s12).trans s13).trans s14).trans s15).trans s16).trans s17).trans s18).trans s19).trans s20) ef5 ⟨rfl, t, (((((((((((((((s5.trans s6).trans s7).trans s8).trans s9).trans s10).trans s11).trans s12).trans s13).trans s14).trans s15).trans s16).trans s17).trans s18).trans s19).trans s20) _ _ et, fun i b e => ?_⟩
    match i, e with
    | 0, e => cases e; exact x0.same ((((((((((((((((((s2.trans s3).trans s4).trans s5).trans s6).trans s7).trans s8).trans s9).trans s10).trans s11).trans s12).trans s13).trans s14).trans s15).trans s16).trans s17).trans s18).trans s19).trans s20)
    | 1, e => cases e; exact x1.same (((((((((((((((((s3.trans s4).trans s5).trans s6).trans s7).trans s8).trans s9).trans s10).trans s11).trans s12).trans s13).trans s14).trans s15).trans s16).trans s17).trans s18).trans s19).trans s20)
    | 2, e => cases e; exact x2.same ((((((((((((((((s4.trans s5).trans s6).trans s7).trans s8).trans s9).trans s10).trans s11).trans s12).trans s13).trans s14).trans s15).trans s16).trans s17).trans s18).trans s19).trans s20)
    | 3, e => cases e; exact x3.same ((((((((((((((s6.trans s7).trans s8).trans s9).trans s10).trans s11).trans s12).trans s13).trans s14).trans s15).trans s16).trans s17).trans s18).trans s19).trans s20)
    | 4, e => cases e; exact x4.same (((((((((((((s7.trans s8).trans s9).trans s10).trans s11).trans s12).trans s13).trans s14).trans s15).trans s16).trans s17).trans s18).trans s19).trans s20)
    | 5, e => cases e; exact x5.same ((((((((((((s8.trans s9).trans s10).trans s11).trans s12).trans s13).trans s14).trans s15).trans s16).trans s17).trans s18).trans s19).trans s20)
    | 6, e => cases e; exact x6.same ((((((((((s10.trans s11).trans s12).trans s13).trans s14).trans s15).trans s16).trans s17).trans s18).trans s19).trans s20)
    | 7, e => cases e; exact x7.same (((((((((s11.trans s12).trans s13).trans s14).trans s15).trans s16).trans s17).trans s18).trans s19).trans s20)
    | 8, e => cases e; exact x8.same ((((((((s12.trans s13).trans s14).trans s15).trans s16).trans s17).trans s18).trans s19).trans s20)
    | 9, e => cases e; exact x9.same (((((((s13.trans s14).trans s15).trans s16).trans s17).trans s18).trans s19).trans s20)
    | 10, e => cases e; exact x10.same ((((s16.trans s17).trans s18).trans s19).trans s20)
    | 11, e => cases e; exact x11.same (((s17.trans s18).trans s19).trans s20)
    | 12, e => cases e; exact x12.same ((s18.trans s19).trans s20)
    | 13, e => cases e; exact x13.same (s19.trans s20)
    | n + 14, e => cases e
end
end Pb

namespace Pb
open PySem PySem.Spec PyProof.Rows L2
def fldV (t : Addr) (a s : Int) (w : Str) : List V := [.ref t, .int a, .int s, .int a, .int s, .int a, .str w, .int s]
def spFlds (K : PySem.W.Frag) : Sp := fun vs H Q _ => ∃ (p : Addr) (bs : List Addr) (a s : Int) (w : Str), vs = [.ref p] ∧ H p = some (.lst (bs.map V.ref)) ∧ Exs K H bs a s w ∧
  ∀ H' q t, Same H H' → H' q = some (.lst (fldV t a s w)) → H' t = some (.tup [.int a, .int s]) → Q (.ref q) H'
abbrev sFlds : Stmt := top 24
theorem scFlds : FnScope ["_law_some", "_law_found"] ["_law_some"] (defScope sFlds) := ⟨rfl, rfl, rfl, by decide +kernel, rfl, by decide +kernel, by decide +kernel⟩
theorem lk1 (n : Str) (v : V) : ([(n, v)] : List (Str × V)).lookup n = some v := by simp [List.lookup]
theorem at_ref {bs : List Addr} {i : Nat} {b : Addr} (h : bs[i]? = some b) : atI (bs.map V.ref) ((i : Nat) : Int) = some (.ref b) := atI_nat (by rw [List.getElem?_map, h]; rfl)
section
variable {P : Program} {w : World} {K : PySem.W.Frag} {mg : Str → Option Value} {base : Heap} {f : Addr} {fd : FuncData}
theorem ok_flds (F : FnP K "_law_fields" sFlds f fd) (C : CK K mg) (J : IK K) : FnOk P w K mg base CX0 1 f fd ["_law_some"] (spFlds K) := by
  refine F.ok scFlds (fun vs H Q E h => ?_) (fun cdv A outer s H vs Q E hr h => ?_)
  · obtain ⟨p, bs, a, s, w, rfl, _⟩ := h
    rfl
  · obtain ⟨p, bs, a, s, w, rfl, hp, ⟨hl, t, ht, hx⟩, q⟩ := h
    have gt : ∀ i, i < 14 → ∃ b, bs[i]? = some b := fun i hi => ⟨_, List.getElem?_eq_getElem (by rw [hl]; exact hi)⟩
    obtain ⟨b3, g3⟩ := gt 3 (by decide)
    obtain ⟨b6, g6⟩ := gt 6 (by decide)
    obtain ⟨b7, g7⟩ := gt 7 (by decide)
    obtain ⟨b8, g8⟩ := gt 8 (by decide)
    obtain ⟨b10, g10⟩ := gt 10 (by decide)
    obtain ⟨b11, g11⟩ := gt 11 (by decide)
    obtain ⟨b13, g13⟩ := gt 13 (by decide)
    have hP : SqL K H p (bs.map V.ref) := .of hp
    refine ⟨_, PSs.nox (pss_cons (ps_set (i := 1) scFlds.nd rfl (.inl rfl) (pe_lst (pa_cons (pe_xfld (pe_ix ix_list (pv 0) pe_int (fun _ _ => rfl))) (pa_cons (pe_xfld (pe_ix ix_list (pv 0) pe_int (fun _ _ => rfl))) (pa_cons (pe_xfld (pe_ix ix_list (pv 0) pe_int (fun _ _ => rfl)))
        (pa_cons (pe_xfld (pe_ix ix_list (pv 0) pe_int (fun _ _ => rfl))) (pa_cons (pe_xfld (pe_ix ix_list (pv 0) pe_int (fun _ _ => rfl))) pa_nil)))))))
      (pss_one (ps_ret (pe_op op_catS (pv 1) (pe_lst (pa_cons (pe_xfld (pe_ix ix_list (pv 0) pe_int (fun _ _ => rfl))) (pa_cons (pe_xfld (pe_ix ix_list (pv 0) pe_int (fun _ _ => rfl))) (pa_cons (pe_xfld (pe_ix ix_list (pv 0) pe_int (fun _ _ => rfl))) pa_nil)))))))), ?_⟩
    refine ⟨_, rfl, p, _, _, _, rfl, rfl, hP, at_ref g3, b3, cC K 3, _, _, _, .ref t, rfl, hx 3 b3 g3, C.xc 3 (by decide), J.fld (3, "place") (by decide), lk1 _ _, ?_⟩
    refine ⟨_, rfl, p, _, _, _, rfl, rfl, hP, at_ref g6, b6, cC K 6, _, _, _, .int a, rfl, hx 6 b6 g6, C.xc 6 (by decide), J.fld (6, "day") (by decide), lk1 _ _, ?_⟩
    refine ⟨_, rfl, p, _, _, _, rfl, rfl, hP, at_ref g7, b7, cC K 7, _, _, _, .int s, rfl, hx 7 b7 g7, C.xc 7 (by decide), J.fld (7, "number") (by decide), lk1 _ _, ?_⟩
    refine ⟨_, rfl, p, _, _, _, rfl, rfl, hP, at_ref g8, b8, cC K 8, _, _, _, .int a, rfl, hx 8 b8 g8, C.xc 8 (by decide), J.fld (8, "line") (by decide), by rfl, ?_⟩
    refine ⟨_, rfl, p, _, _, _, rfl, rfl, hP, at_ref g8, b8, cC K 8, _, _, _, .int s, rfl, hx 8 b8 g8, C.xc 8 (by decide), J.fld (8, "word") (by decide), by rfl, ?_⟩
    refine ⟨(by show 5 ≤ sizeLine; decide), fun f1 n1 => ?_⟩
    have s1 : Same H (upd H f1 (.lst [.ref t, .int a, .int s, .int a, .int s])) := same_upd n1
    have hP1 := s1.seq hP
    have hy := fun i b e => (hx i b e).same s1
    refine ⟨_, rfl, _, rfl, p, _, _, _, rfl, rfl, hP1, at_ref g10, b10, cC K 10, _, _, _, .int a, rfl, hy 10 b10 g10, C.xc 10 (by decide), J.fld (10, "day") (by decide), lk1 _ _, ?_⟩
    refine ⟨_, rfl, p, _, _, _, rfl, rfl, hP1, at_ref g11, b11, cC K 11, _, _, _, .str w, rfl, hy 11 b11 g11, C.xc 11 (by decide), J.fld (11, "name") (by decide), lk1 _ _, ?_⟩
    refine ⟨_, rfl, p, _, _, _, rfl, rfl, hP1, at_ref g13, b13, cC K 13, _, _, _, .int s, rfl, hy 13 b13 g13, C.xc 13 (by decide), J.fld (13, "most") (by decide), lk1 _ _, ?_⟩
    refine ⟨(by show 3 ≤ sizeLine; decide), fun f2 n2 => ⟨f1, f2, _, _, rfl, rfl, .of (same_upd n2 _ _ upd_same), .of upd_same, (by show 8 ≤ sizeLine; decide), fun f3 n3 => ?_⟩⟩
    have sZ := s1.trans ((same_upd n2 (o := .lst [.int a, .str w, .int s])).trans (same_upd n3 (o := .lst ([.ref t, .int a, .int s, .int a, .int s] ++ [.int a, .str w, .int s]))))
    exact q _ f3 t sZ upd_same (sZ _ _ ht)
end
end Pb

namespace Pb
open PySem PySem.Spec PyProof.Rows L2
/-! ### data, as it stands in a heap that has more -/
theorem Same.seqT {K : PySem.W.Frag} {H H' : Hp} {a : Addr} {xs : List V} (e : Same H H') (h : SqT K H a xs) : SqT K H' a xs := by
  rcases h with (h | ⟨o, h⟩) | h
  · exact .inl (.inl (e _ _ h))
  · exact .inl (.inr ⟨o, e _ _ h⟩)
  · exact .inr h
mutual
theorem Dp.same {K : PySem.W.Frag} {H H' : Hp} (s : Same H H') : ∀ {v : V} {d : PyData}, Dp K H v d → Dp K H' v d
  | _, _, .non => .non
  | _, _, .bl b => .bl b
  | _, _, .int i => .int i
  | _, _, .str x => .str x
  | _, _, .lst h t => .lst (s.seq h) (DpAll.same s t)
  | _, _, .tup h t => .tup (Same.seqT s h) (DpAll.same s t)
theorem DpAll.same {K : PySem.W.Frag} {H H' : Hp} (s : Same H H') : ∀ {v : List V} {d : List PyData}, DpAll K H v d → DpAll K H' v d
  | _, _, .nil => .nil
  | _, _, .cons a b => .cons (Dp.same s a) (DpAll.same s b)
end
theorem DpAll.app {K : PySem.W.Frag} {H : Hp} : ∀ {v u : List V} {d e : List PyData}, DpAll K H v d → DpAll K H u e → DpAll K H (v ++ u) (d ++ e)
  | _, _, _, _, .nil, h => h
  | _, _, _, _, .cons a b, h => .cons a (DpAll.app b h)
theorem DpAll.len {K : PySem.W.Frag} {H : Hp} : ∀ {v : List V} {d : List PyData}, DpAll K H v d → v.length = d.length
  | _, _, .nil => rfl
  | _, _, .cons _ b => congrArg Nat.succ (DpAll.len b)
theorem dp_pair {K : PySem.W.Frag} {H : Hp} {t : Addr} {i j : Int} (h : H t = some (.tup [.int i, .int j])) : Dp K H (.ref t) (.tuple [.int i, .int j]) := .tup (.of h) (.cons (.int i) (.cons (.int j) .nil))
def prD (p : Int × Int) : PyData := .tuple [.int p.1, .int p.2]
def toldD (a s : Int) (w : Str) : List PyData := [.tuple [.int a], .int a, .int s] ++ [prD (a, s), prD (a, 0), prD (0, 0), prD (0, a)] ++ [.int a, .str w] ++ [.int s, .int 99]
def spByN (K : PySem.W.Frag) : Sp := fun vs H Q _ => ∃ (a s : Int) (w : Str), vs = [.int a, .int s, .str w] ∧ ∀ H' q, Same H H' → Dp K H' (.ref q) (.list (toldD a s w)) → Q (.ref q) H'
abbrev sByN : Stmt := top 25
theorem scByN : FnScope ["_law_amount", "_law_spot", "_law_what", "_law_some", "_law_found", "_law_texts", "_law_one", "_law_there", "_law_many"] ["_law_amount", "_law_spot", "_law_what"] (defScope sByN) := ⟨rfl, rfl, rfl, by decide +kernel, rfl, by decide +kernel, by decide +kernel⟩
theorem lk2 (x y : V) : ([("word", x), ("line", y)] : List (Str × V)).lookup ("line" : Str) = some y := by rfl
section
variable {P : Program} {w : World} {K : PySem.W.Frag} {mg : Str → Option Value} {base : Heap} {f : Addr} {fd : FuncData}
theorem ok_byn (F : FnP K "_law_by_names" sByN f fd) (C : CK K mg) (J : IK K) : FnOk P w K mg base CX0 3 f fd ["_law_amount", "_law_spot", "_law_what"] (spByN K) := by
  refine F.ok scByN (fun vs H Q E h => ?_) (fun cdv A outer s H vs Q E hr h => ?_)
  · obtain ⟨a, s, w, rfl, _⟩ := h
    rfl
  · obtain ⟨a, s, w, rfl, q⟩ := h
    refine ⟨_, PSs.nox (pss_cons (ps_set (i := 3) scByN.nd rfl (.inl rfl) (pe_lst (pa_cons (pk3 C J hr (pk_cons (pe_tup (pa_cons (pv 0) pa_nil)) pk_nil)) (pa_cons (pk6 C J hr (pk_cons (pv 0) pk_nil)) (pa_cons (px7 C J hr (pa_cons (pv 1) pa_nil)) pa_nil)))))
      (pss_cons (ps_set (i := 4) scByN.nd rfl (.inl rfl) (pe_lst (pa_cons (pe_xfld (pe_ix ix_list (pv 3) pe_int (fun _ _ => rfl))) (pa_cons (pe_xfld (pe_ix ix_list (pv 3) pe_int (fun _ _ => rfl))) (pa_cons (pe_xfld (pe_ix ix_list (pv 3) pe_int (fun _ _ => rfl))) pa_nil)))))
      (pss_cons (ps_set (i := 5) scByN.nd rfl (.inl rfl) (pe_lst (pa_cons (pk8 C J hr (pk_cons (pv 1) (pk_cons (pv 0) pk_nil))) (pa_cons (px8a C J hr (pa_cons (pv 0) pa_nil)) (pa_cons (pz8 C J hr) (pa_cons (pk8w C J hr (pk_cons (pv 0) pk_nil)) pa_nil))))))
      (pss_cons (ps_for PassesOwn.never rfl (pi_list (pv 5)) (pg_name (i := 6) scByN.nd rfl (.inl rfl)) (pss_one (ps_set (i := 4) scByN.nd rfl (.inl rfl) (pe_op op_catS (pv 4) (pe_lst (pa_cons (pe_tup (pa_cons (pe_xfld (pv 6)) (pa_cons (pe_xfld (pv 6)) pa_nil))) pa_nil))))))
      (pss_cons (ps_set (i := 7) scByN.nd rfl (.inl rfl) (pe_lst (pa_cons (pk10 C J hr (pk_cons (pv 0) pk_nil)) (pa_cons (pk11 C J hr (pk_cons (pv 2) pk_nil)) pa_nil))))
      (pss_cons (ps_set (i := 4) scByN.nd rfl (.inl rfl) (pe_op op_catS (pv 4) (pe_lst (pa_cons (pe_xfld (pe_ix ix_list (pv 7) pe_int (fun _ _ => rfl))) (pa_cons (pe_xfld (pe_ix ix_list (pv 7) pe_int (fun _ _ => rfl))) pa_nil)))))
      (pss_cons (ps_set (i := 8) scByN.nd rfl (.inl rfl) (pe_lst (pa_cons (pk13 C J hr (pk_cons (pv 1) pk_nil)) (pa_cons (pz13 C J hr) pa_nil))))
      (pss_one (ps_ret (pe_op op_catS (pv 4) (pe_lst (pa_cons (pe_xfld (pe_ix ix_list (pv 8) pe_int (fun _ _ => rfl))) (pa_cons (pe_xfld (pe_ix ix_list (pv 8) pe_int (fun _ _ => rfl))) pa_nil))))))))))))), ?_⟩
    dsimp only [cxOf]
    refine ⟨_, rfl, (by show 1 ≤ sizeLine; decide), fun t n1 => ?_⟩
    obtain ⟨s1, et⟩ := nxo (o := .tup [.int a]) n1
    generalize upd H t (.tup [.int a]) = G1 at s1 et ⊢
    refine ⟨rfl, rfl, by decide, fun a3 n2 => ⟨a3, _, rfl, upd_same, fun d2 m2 e2 => ⟨rfl, ?_⟩⟩⟩
    obtain ⟨s2, x3⟩ := nx1 (C := cC K 3) (n := "place") (v := .ref t) n2 m2 e2
    generalize upd (upd (upd G1 a3 (exo a3 (cC K 3) none)) d2 (exd d2 [("place", .ref t)])) a3 (exo a3 (cC K 3) (some d2)) = G2 at s2 x3 ⊢
    refine ⟨_, rfl, ⟨rfl, rfl, by decide, fun a6 n3 => ⟨a6, _, rfl, upd_same, fun d3 m3 e3 => ⟨rfl, ?_⟩⟩⟩⟩
    obtain ⟨s3, x6⟩ := nx1 (C := cC K 6) (n := "day") (v := .int a) n3 m3 e3
    generalize upd (upd (upd G2 a6 (exo a6 (cC K 6) none)) d3 (exd d3 [("day", .int a)])) a6 (exo a6 (cC K 6) (some d3)) = G3 at s3 x6 ⊢
    refine ⟨_, rfl, ⟨rfl, rfl, by decide, fun a7 n4 => ⟨a7, _, rfl, upd_same, fun d4 m4 e4 => ⟨rfl, ?_⟩⟩⟩⟩
    obtain ⟨s4, x7⟩ := nx1 (C := cC K 7) (n := "number") (v := .int s) n4 m4 e4
    generalize upd (upd (upd G3 a7 (exo a7 (cC K 7) none)) d4 (exd d4 [("number", .int s)])) a7 (exo a7 (cC K 7) (some d4)) = G4 at s4 x7 ⊢
    refine ⟨(by show 3 ≤ sizeLine; decide), fun f1 n5 => ?_⟩
    obtain ⟨s5, ef1⟩ := nxo (o := .lst [.ref a3, .ref a6, .ref a7]) n5
    generalize upd G4 f1 (.lst [.ref a3, .ref a6, .ref a7]) = G5 at s5 ef1 ⊢
    refine ⟨_, rfl, f1, _, _, _, rfl, rfl, .of ((Same.refl _) _ _ ef1), atI_nat (j := 0) rfl, a3, cC K 3, _, _, _, .ref t, rfl, x3.same ((s3.trans s4).trans s5), C.xc 3 (by decide), J.fld (3, "place") (by decide), lk1 _ _, ?_⟩
    refine ⟨_, rfl, f1, _, _, _, rfl, rfl, .of ((Same.refl _) _ _ ef1), atI_nat (j := 1) rfl, a6, cC K 6, _, _, _, .int a, rfl, x6.same (s4.trans s5), C.xc 6 (by decide), J.fld (6, "day") (by decide), lk1 _ _, ?_⟩
    refine ⟨_, rfl, f1, _, _, _, rfl, rfl, .of ((Same.refl _) _ _ ef1), atI_nat (j := 2) rfl, a7, cC K 7, _, _, _, .int s, rfl, x7.same s5, C.xc 7 (by decide), J.fld (7, "number") (by decide), lk1 _ _, ?_⟩
    refine ⟨(by show 3 ≤ sizeLine; decide), fun f2 n6 => ?_⟩
    obtain ⟨s6, ef2⟩ := nxo (o := .lst [.ref t, .int a, .int s]) n6
    generalize upd G5 f2 (.lst [.ref t, .int a, .int s]) = G6 at s6 ef2 ⊢
    refine ⟨_, rfl, _, rfl, ⟨rfl, rfl, by decide, fun ap n7 => ⟨ap, _, _, rfl, upd_same, fun d7 m7 e7 => ⟨rfl, ?_⟩⟩⟩⟩
    obtain ⟨s7, xp⟩ := nx2 (C := cC K 8) (v := .int a) (u := .int s) n7 m7 e7
    generalize upd (upd (upd (upd G6 ap (exo ap (cC K 8) none)) d7 (exd d7 [("line", .int a)])) ap (exo ap (cC K 8) (some d7))) d7 (exd d7 [("word", .int s), ("line", .int a)]) = G7 at s7 xp ⊢
    refine ⟨_, rfl, ⟨rfl, rfl, by decide, fun aq n8 => ⟨aq, _, _, rfl, upd_same, fun d8 m8 e8 => ⟨rfl, ?_⟩⟩⟩⟩
    obtain ⟨s8, xq⟩ := nx2 (C := cC K 8) (v := .int a) (u := .int 0) n8 m8 e8
    generalize upd (upd (upd (upd G7 aq (exo aq (cC K 8) none)) d8 (exd d8 [("line", .int a)])) aq (exo aq (cC K 8) (some d8))) d8 (exd d8 [("word", .int 0), ("line", .int a)]) = G8 at s8 xq ⊢
    refine ⟨rfl, rfl, by decide, fun ar n9 => ⟨ar, _, _, rfl, upd_same, fun d9 m9 e9 => ⟨rfl, ?_⟩⟩⟩
    obtain ⟨s9, xr⟩ := nx2 (C := cC K 8) (v := .int 0) (u := .int 0) n9 m9 e9
    generalize upd (upd (upd (upd G8 ar (exo ar (cC K 8) none)) d9 (exd d9 [("line", .int 0)])) ar (exo ar (cC K 8) (some d9))) d9 (exd d9 [("word", .int 0), ("line", .int 0)]) = G9 at s9 xr ⊢
    refine ⟨_, rfl, ⟨rfl, rfl, by decide, fun au n10 => ⟨au, _, _, rfl, upd_same, fun d10 m10 e10 => ⟨rfl, ?_⟩⟩⟩⟩
    obtain ⟨s10, xu⟩ := nx2 (C := cC K 8) (v := .int 0) (u := .int a) n10 m10 e10
    generalize upd (upd (upd (upd G9 au (exo au (cC K 8) none)) d10 (exd d10 [("line", .int 0)])) au (exo au (cC K 8) (some d10))) d10 (exd d10 [("word", .int a), ("line", .int 0)]) = G10 at s10 xu ⊢
    refine ⟨(by show 4 ≤ sizeLine; decide), fun f3 n11 => ?_⟩
    obtain ⟨s11, ef3⟩ := nxo (o := .lst [.ref ap, .ref aq, .ref ar, .ref au]) n11
    generalize upd G10 f3 (.lst [.ref ap, .ref aq, .ref ar, .ref au]) = G11 at s11 ef3 ⊢
    have y2 : DpAll K G11 [.ref t, .int a, .int s] [.tuple [.int a], .int a, .int s] := .cons (.tup (.of ((((((((((s2.trans s3).trans s4).trans s5).trans s6).trans s7).trans s8).trans s9).trans s10).trans s11) _ _ et)) (.cons (.int a) .nil)) (.cons (.int a) (.cons (.int s) .nil))
    have tx : ∀ (i : Nat) (b : Addr), [ap, aq, ar, au][i]? = some b → ∃ p : Int × Int, [(a, s), (a, 0), (0, 0), (0, a)][i]? = some p ∧ ExI G11 b (cC K 8) (some [("word", .int p.2), ("line", .int p.1)]) := fun i b e => by
      match i, e with
      | 0, e => cases e; exact ⟨(a, s), rfl, xp.same (((s8.trans s9).trans s10).trans s11)⟩
      | 1, e => cases e; exact ⟨(a, 0), rfl, xq.same ((s9.trans s10).trans s11)⟩
      | 2, e => cases e; exact ⟨(0, 0), rfl, xr.same (s10.trans s11)⟩
      | 3, e => cases e; exact ⟨(0, a), rfl, xu.same s11⟩
      | n + 4, e => cases e
    generalize htw : [(a, s), (a, 0), (0, 0), (0, a)] = tw at tx
    have ltw : tw.length = 4 := by rw [← htw]; rfl
    refine ⟨_, rfl, f3, rfl, ⟨_, .of ef3⟩, for_list (K := K) (a := f3) (xs := [ap, aq, ar, au].map V.ref) (fun i σ H' => ∃ (f4 : Addr) (ys : List V) (z : Option V), σ = [some (.int a), some (.int s), some (.str w), some (.ref f1), some (.ref f4), some (.ref f3), z, none, none] ∧ Same G11 H' ∧ H' f4 = some (.lst ys) ∧ DpAll K H' ys ([.tuple [.int a], .int a, .int s] ++ (tw.take i).map prD)) ⟨f2, _, none, rfl, Same.refl _, ((((s7.trans s8).trans s9).trans s10).trans s11) _ _ ef2, y2⟩ (fun i σ H' _ z => ?_) (fun i y σ H' hi z => ?_) (fun σ H' z => ?_)⟩
    · obtain ⟨_, _, _, _, sm, _⟩ := z
      exact .of (sm _ _ ef3)
    · obtain ⟨f4, ys, z, rfl, sm, e4, dp⟩ := z
      rw [List.getElem?_map] at hi
      obtain ⟨b, gb, eb⟩ := Option.map_eq_some_iff.mp hi
      subst eb
      obtain ⟨p, gp, xb⟩ := tx i b gb
      have xb' := xb.same sm
      have ly : ys.length ≤ 7 := by
        rw [DpAll.len dp, List.length_append, List.length_map, List.length_take, ltw]
        show 3 + min i 4 ≤ 7
        omega
      refine ⟨_, rfl, _, rfl, b, cC K 8, _, _, _, .int p.1, rfl, xb', C.xc 8 (by decide), J.fld (8, "line") (by decide), lk2 _ _, _, rfl, b, cC K 8, _, _, _, .int p.2, rfl, xb', C.xc 8 (by decide), J.fld (8, "word") (by decide), by rfl, (by show 2 ≤ sizeLine; decide), fun t2 nt2 => ⟨(by show 1 ≤ sizeLine; decide), fun f5 nf5 => ⟨f4, f5, _, _, rfl, rfl, .of (same_upd nf5 _ _ (same_upd nt2 _ _ e4)), .of upd_same, ?_, fun f6 nf6 => ?_⟩⟩⟩
      · exact Nat.le_of_lt (small1000 (by show ys.length + 1 ≤ 1000; omega))
      · have s2 := (same_upd nt2 (o := .tup [.int p.1, .int p.2])).trans ((same_upd nf5 (o := .lst [.ref t2])).trans (same_upd nf6 (o := .lst (ys ++ [.ref t2]))))
        have e2 := ((same_upd nf5 (o := .lst [.ref t2])).trans (same_upd nf6 (o := .lst (ys ++ [.ref t2])))) _ _ (upd_same (H := H') (a := t2) (o := .tup [.int p.1, .int p.2]))
        refine ⟨f6, _, some (.ref b), rfl, sm.trans s2, upd_same, ?_⟩
        rw [List.take_add_one, gp, List.map_append, ← List.append_assoc]
        exact DpAll.app (DpAll.same s2 dp) (.cons (dp_pair e2) .nil)
    · obtain ⟨f4, ys, z, rfl, sm, e4, dp⟩ := z
      have et : tw.take 4 = [(a, s), (a, 0), (0, 0), (0, a)] := by rw [← htw]; rfl
      rw [show ([ap, aq, ar, au].map V.ref).length = 4 from rfl, et] at dp
      have ly : ys.length = 7 := DpAll.len dp
      refine ⟨_, rfl, ⟨rfl, rfl, by decide, fun a10 nB1 => ⟨a10, _, rfl, upd_same, fun dB1 mB1 eB1 => ⟨rfl, ?_⟩⟩⟩⟩
      obtain ⟨sB1, x10⟩ := nx1 (C := cC K 10) (n := "day") (v := .int a) nB1 mB1 eB1
      generalize upd (upd (upd H' a10 (exo a10 (cC K 10) none)) dB1 (exd dB1 [("day", .int a)])) a10 (exo a10 (cC K 10) (some dB1)) = GB1 at sB1 x10 ⊢
      refine ⟨_, rfl, ⟨rfl, rfl, by decide, fun a11 nB2 => ⟨a11, _, rfl, upd_same, fun dB2 mB2 eB2 => ⟨rfl, ?_⟩⟩⟩⟩
      obtain ⟨sB2, x11⟩ := nx1 (C := cC K 11) (n := "name") (v := .str w) nB2 mB2 eB2
      generalize upd (upd (upd GB1 a11 (exo a11 (cC K 11) none)) dB2 (exd dB2 [("name", .str w)])) a11 (exo a11 (cC K 11) (some dB2)) = GB2 at sB2 x11 ⊢
      refine ⟨(by show 2 ≤ sizeLine; decide), fun f7 nB3 => ?_⟩
      obtain ⟨sB3, ef7⟩ := nxo (o := .lst [.ref a10, .ref a11]) nB3
      generalize upd GB2 f7 (.lst [.ref a10, .ref a11]) = GB3 at sB3 ef7 ⊢
      refine ⟨_, rfl, _, rfl, f7, _, _, _, rfl, rfl, .of ((Same.refl _) _ _ ef7), atI_nat (j := 0) rfl, a10, cC K 10, _, _, _, .int a, rfl, x10.same (sB2.trans sB3), C.xc 10 (by decide), J.fld (10, "day") (by decide), lk1 _ _, ?_⟩
      refine ⟨_, rfl, f7, _, _, _, rfl, rfl, .of ((Same.refl _) _ _ ef7), atI_nat (j := 1) rfl, a11, cC K 11, _, _, _, .str w, rfl, x11.same sB3, C.xc 11 (by decide), J.fld (11, "name") (by decide), lk1 _ _, ?_⟩
      refine ⟨(by show 2 ≤ sizeLine; decide), fun f8 nB4 => ?_⟩
      obtain ⟨sB4, ef8⟩ := nxo (o := .lst [.int a, .str w]) nB4
      generalize upd GB3 f8 (.lst [.int a, .str w]) = GB4 at sB4 ef8 ⊢
      refine ⟨f4, f8, _, _, rfl, rfl, .of ((((sB1.trans sB2).trans sB3).trans sB4) _ _ e4), .of ef8, Nat.le_of_lt (small1000 (by show ys.length + 2 ≤ 1000; omega)), fun f9 nB5 => ?_⟩
      obtain ⟨sB5, ef9⟩ := nxo (o := .lst (ys ++ [.int a, .str w])) nB5
      generalize upd GB4 f9 (.lst (ys ++ [.int a, .str w])) = GB5 at sB5 ef9 ⊢
      refine ⟨_, rfl, ⟨rfl, rfl, by decide, fun av nB6 => ⟨av, _, rfl, upd_same, fun dB6 mB6 eB6 => ⟨rfl, ?_⟩⟩⟩⟩
      obtain ⟨sB6, xv⟩ := nx1 (C := cC K 13) (n := "most") (v := .int s) nB6 mB6 eB6
      generalize upd (upd (upd GB5 av (exo av (cC K 13) none)) dB6 (exd dB6 [("most", .int s)])) av (exo av (cC K 13) (some dB6)) = GB6 at sB6 xv ⊢
      refine ⟨rfl, rfl, by decide, fun az nB7 => ⟨az, _, rfl, upd_same, fun dB7 mB7 eB7 => ⟨rfl, ?_⟩⟩⟩
      obtain ⟨sB7, xz⟩ := nx1 (C := cC K 13) (n := "most") (v := .int 99) nB7 mB7 eB7
      generalize upd (upd (upd GB6 az (exo az (cC K 13) none)) dB7 (exd dB7 [("most", .int 99)])) az (exo az (cC K 13) (some dB7)) = GB7 at sB7 xz ⊢
      refine ⟨(by show 2 ≤ sizeLine; decide), fun f10 nB8 => ?_⟩
      obtain ⟨sB8, ef10⟩ := nxo (o := .lst [.ref av, .ref az]) nB8
      generalize upd GB7 f10 (.lst [.ref av, .ref az]) = GB8 at sB8 ef10 ⊢
      refine ⟨_, rfl, _, rfl, f10, _, _, _, rfl, rfl, .of ((Same.refl _) _ _ ef10), atI_nat (j := 0) rfl, av, cC K 13, _, _, _, .int s, rfl, xv.same (sB7.trans sB8), C.xc 13 (by decide), J.fld (13, "most") (by decide), lk1 _ _, ?_⟩
      refine ⟨_, rfl, f10, _, _, _, rfl, rfl, .of ((Same.refl _) _ _ ef10), atI_nat (j := 1) rfl, az, cC K 13, _, _, _, .int 99, rfl, xz.same sB8, C.xc 13 (by decide), J.fld (13, "most") (by decide), lk1 _ _, ?_⟩
      refine ⟨(by show 2 ≤ sizeLine; decide), fun f11 nB9 => ?_⟩
      obtain ⟨sB9, ef11⟩ := nxo (o := .lst [.int s, .int 99]) nB9
      generalize upd GB8 f11 (.lst [.int s, .int 99]) = GB9 at sB9 ef11 ⊢
      refine ⟨f9, f11, _, _, rfl, rfl, .of ((((sB6.trans sB7).trans sB8).trans sB9) _ _ ef9), .of ef11, Nat.le_of_lt (small1000 (by rw [List.length_append]; show ys.length + 2 + 2 ≤ 1000; omega)), fun f12 nB10 => ?_⟩
      obtain ⟨sB10, ef12⟩ := nxo (o := .lst (ys ++ [.int a, .str w] ++ [.int s, .int 99])) nB10
      generalize upd GB9 f12 (.lst (ys ++ [.int a, .str w] ++ [.int s, .int 99])) = GB10 at sB10 ef12 ⊢
      refine q _ f12 (((((((((((s1.trans s2).trans s3).trans s4).trans s5).trans s6).trans s7).trans s8).trans s9).trans s10).trans s11).trans (sm.trans (((((((((sB1.trans sB2).trans sB3).trans sB4).trans sB5).trans sB6).trans sB7).trans sB8).trans sB9).trans sB10))) (.lst (.of ef12) ?_)
      exact DpAll.app (DpAll.app (DpAll.same (((((((((sB1.trans sB2).trans sB3).trans sB4).trans sB5).trans sB6).trans sB7).trans sB8).trans sB9).trans sB10) dp) (.cons (.int a) (.cons (.str w) .nil))) (.cons (.int s) (.cons (.int 99) .nil))
end
end Pb

namespace Pb
open PySem PySem.Spec PyProof.Rows L2
/-- what the head tells of the clauses -/
structure XM (K : PySem.W.Frag) : Prop where
  m1 : PySem.W.exmOne K (.ref (cC K 8)) (.ref (cC K 8)) = some true
  m2 : PySem.W.exmOne K (.ref (cC K 3)) (.ref (He.ga K "PathError")) = some true
  m3 : PySem.W.exmOne K (.ref (cC K 11)) (.ref (He.ga K "NotThere")) = some true
  m4 : PySem.W.exmAny K (.ref (cC K 13)) [.ref (He.ga K "PathError"), .ref (cC K 13)] = some true
theorem XC.xf {K : PySem.W.Frag} {C : Addr} {bmB : List Value} {newId : String} (T : XC K C bmB newId) : XfC K C := ⟨T.ga, T.gg, T.sub, T.dic⟩
section
variable {H : Hp} {a d C : Addr} {n : Str} {v u : V}
/-- behind the raise of a refusal with one field -/
theorem rs1 (na : H a = none) (nd : upd H a (exo a C none) d = none) (ne : d ≠ a) :
    Same H (delH (upd (upd (upd (upd H a (exo a C none)) d (exd d [(n, v)])) a (exo a C (some d))) d (.xd [(n, v)])) a) ∧
    (delH (upd (upd (upd (upd H a (exo a C none)) d (exd d [(n, v)])) a (exo a C (some d))) d (.xd [(n, v)])) a) d = some (.xd [(n, v)]) ∧
    (upd (upd (upd H a (exo a C none)) d (exd d [(n, v)])) a (exo a C (some d))) d = some (exd d [(n, v)]) := by
  rw [upd_ne ne] at nd
  refine ⟨fun b o e => ?_, ?_, ?_⟩
  · rw [delH_ne (ne_of_none e na), upd_ne (ne_of_none e nd), upd_ne (ne_of_none e na), upd_ne (ne_of_none e nd), upd_ne (ne_of_none e na)]
    exact e
  · rw [delH_ne ne, upd_same]
  · rw [upd_ne ne, upd_same]
theorem rs2 (na : H a = none) (nd : upd H a (exo a C none) d = none) (ne : d ≠ a) :
    Same H (delH (upd (upd (upd (upd (upd H a (exo a C none)) d (exd d [("line", v)])) a (exo a C (some d))) d (exd d [("word", u), ("line", v)])) d (.xd [("word", u), ("line", v)])) a) ∧
    (delH (upd (upd (upd (upd (upd H a (exo a C none)) d (exd d [("line", v)])) a (exo a C (some d))) d (exd d [("word", u), ("line", v)])) d (.xd [("word", u), ("line", v)])) a) d = some (.xd [("word", u), ("line", v)]) ∧
    (upd (upd (upd (upd H a (exo a C none)) d (exd d [("line", v)])) a (exo a C (some d))) d (exd d [("word", u), ("line", v)])) a = some (exo a C (some d)) := by
  rw [upd_ne ne] at nd
  refine ⟨fun b o e => ?_, ?_, ?_⟩
  · rw [delH_ne (ne_of_none e na), upd_ne (ne_of_none e nd), upd_ne (ne_of_none e nd), upd_ne (ne_of_none e na), upd_ne (ne_of_none e nd), upd_ne (ne_of_none e na)]
    exact e
  · rw [delH_ne ne, upd_same]
  · rw [upd_ne (Ne.symm ne), upd_same]
/-- behind found.append(v) in a suite whose exception is kept -/
theorem ak {H0 G : Hp} {f b : Addr} {ys zs : List V} {o : HO} (S : Same H0 G) (nf : H0 f = none) (ef : G f = some (.lst zs)) (na : upd G f (.lst ys) b = none) : Same H0 (upd (upd G f (.lst ys)) b o) ∧ (upd (upd G f (.lst ys)) b o) f = some (.lst ys) ∧
    ∀ t xs, G t = some (.tup xs) → (upd (upd G f (.lst ys)) b o) t = some (.tup xs) := by
  have fb : f ≠ b := fun z => by
    rw [← z, upd_same] at na
    cases na
  have key : ∀ {c : Addr} {x : HO}, G c = some x → c ≠ f → (upd (upd G f (.lst ys)) b o) c = some x := fun {c x} e cf => by
    have cb : c ≠ b := fun z => by
      rw [← z, upd_ne cf, e] at na
      cases na
    rw [upd_ne cb, upd_ne cf]
    exact e
  refine ⟨fun c x e => key (S _ _ e) (ne_of_none e nf), ?_, fun t xs e => key e (ne_of e ef (by intro z; cases z))⟩
  rw [upd_ne fb, upd_same]
end
/-! readings -/
def RsK (K : PySem.W.Frag) (cls : Value) : Prop := ∀ (M : Model) (h : Heap), K.In h → PySem.W.Looks M h (isSubtype cls (.type "BaseException")) true ∧ PySem.W.Looks M h (typeOf cls) (.type "type")
def rMk (K : PySem.W.Frag) (H0 : Hp) (te : TE) : L2.St → Hp → XK → Prop := fun σ H Q => te σ H fun x H1 => ∃ (a C d : Addr) (fs : List (Str × V)), x = .ref a ∧ H1 a = some (exo a C (some d)) ∧ H1 d = some (exd d fs) ∧ d ≠ a ∧ Fr0 H0 a ∧ RsK K (.ref C) ∧
  Q (.ref C) (some d) (delH (upd H1 d (.xd fs)) a)
theorem pmk_r {X : Cx} {e : Expr} {te : TE} (hx : X.ex = []) (he : PE X e te) : PMk X e (rMk X.K X.H_0 te) := pmk_x hx he
theorem rsK {K : PySem.W.Frag} {C : Addr} {bmB : List Value} {newId : String} (T : XC K C bmB newId) : RsK K (.ref C) := fun _ _ k => ⟨PySem.W.looks_subIn k T.sub, PySem.W.looks_typeIn k T.ty⟩
def tRs (m : L2.St → Hp → XK → Prop) (W : WX) : TS := fun _ σ H => m σ H fun cls d H' => W cls d σ H'
def tApp (K : PySem.W.Frag) (te : TE) : TS := tDrop (tBM K "list" rAppend (tVar 3) (tCons te tNil))
def four : List Str := ["name", "a", "", "longer"]
theorem sm_four {w : Str} (h : w ∈ four) : Sm 6 0 (.str w) := by
  simp only [four, List.mem_cons, List.not_mem_nil, or_false] at h
  rcases h with e | e | e | e
  · rw [e]
    exact .str (by decide +kernel) (by decide +kernel)
  · rw [e]
    exact .str (by decide +kernel) (by decide +kernel)
  · rw [e]
    exact .str (by decide +kernel) (by decide +kernel)
  · rw [e]
    exact .str (by decide +kernel) (by decide +kernel)
structure Okv (a s : Int) (w : Str) : Prop where
  a0 : 0 ≤ a
  a1 : a < 1000000000
  s0 : 0 ≤ s
  s1 : s < 40
  w4 : w ∈ four
theorem Okv.sa {a s : Int} {w : Str} (h : Okv a s w) : Sm 0 0 (.int a) := .int (by have := h.a0; have := h.a1; omega)
theorem Okv.ss {a s : Int} {w : Str} (h : Okv a s w) : Sm 0 0 (.int s) := .int (by have := h.s0; have := h.s1; omega)
def caughtD (a s : Int) (w : Str) : List PyData := [prD (a, s), prD (s, a), .str w, .int s]
theorem sm_pair {i j : Int} (h : Sm 0 0 (.int i)) (g : Sm 0 0 (.int j)) : Sm 2 1 (prD (i, j)) := .tup (.cons h (.cons g .nil))
theorem sm_caught {a s : Int} {w : Str} (h : Okv a s w) : Sm 14 2 (.list (caughtD a s w)) := .lst (.cons (sm_pair h.sa h.ss) (.cons (sm_pair h.ss h.sa) (.cons (sm_four h.w4) (.cons h.ss .nil))))
def spCau (K : PySem.W.Frag) : Sp := fun vs H Q _ => ∃ (a s : Int) (w : Str), vs = [.int a, .int s, .str w] ∧ Okv a s w ∧ ∀ H', Same H H' → Q (.bl true) H'
abbrev sCau : Stmt := top 26
theorem scCau : FnScope ["_law_amount", "_law_spot", "_law_what", "_law_found", "e"] ["_law_amount", "_law_spot", "_law_what"] (defScope sCau) := ⟨rfl, rfl, rfl, by decide +kernel, rfl, by decide +kernel, by decide +kernel⟩
section
variable {P : Program} {w : World} {K : PySem.W.Frag} {mg : Str → Option Value} {base : Heap} {f : Addr} {fd : FuncData}
theorem ok_cau (F : FnP K "_law_are_caught" sCau f fd) (C : CK K mg) (J : IK K) (M : XM K) (gr : mg "repr" = none) : FnG P w K mg base CX0 3 f fd ["_law_amount", "_law_spot", "_law_what"] (spCau K) := by
  refine fnG_of F scCau (fun vs H Q E h => ?_) (fun cdv A outer s0 H vs Q E gd hr h => ?_)
  · obtain ⟨a, s, w, rfl, _⟩ := h
    rfl
  · obtain ⟨a, s, w, rfl, ok, q⟩ := h
    refine ⟨_, PSs.nox (pss_cons (ps_set (i := 3) scCau.nd rfl (.inl rfl) (pe_lst pa_nil))
      (pss_cons (ps_tryG (i := 4) (CL := fun cls => PySem.W.exmOne K cls (.ref (cC K 8))) (tb := tRs (rMk K H (rX2 K (tVar 0) (tVar 1)))) (ts := fun a cls d => tApp K (tTup (tCons (tXf a cls d (cC K 8) "line" (tVar 4)) (tCons (tXf a cls d (cC K 8) "word" (tVar 4)) tNil)))) (Wout := fun _ _ _ _ => False) rfl rfl rfl scCau.nd rfl rfl (cl_one ⟨rfl, by decide, .inl (C.g 8 (by decide))⟩) takes0
        (fun W pn xe tk _ => pss_one (ps_raise rfl tk (by exact pmk_r rfl (px8 C J hr (pa_cons (pv 0) (pa_cons (pv 1) pa_nil))))))
        (fun a oe cls d pn hz hf => pss_one (ps_expr (by exact pe_bm PySem.F.plainAttrs_list PySem.F.slot_list_append PySem.F.type_list_append mt_append (pv 3) (pa_cons (pe_tup (pa_cons (pe_xf (C.xc 8 (by decide)).xf (J.fld (8, "line") (by decide)) hz hf (pv 4)) (pa_cons (pe_xf (C.xc 8 (by decide)).xf (J.fld (8, "word") (by decide)) hz hf (pv 4)) pa_nil))) pa_nil)))))
      (pss_cons (ps_tryG (i := 4) (CL := fun cls => PySem.W.exmOne K cls (.ref (He.ga K "PathError"))) (tb := tRs (rMk K H (rX1 K 3 "place" (tTup (tCons (tVar 1) (tCons (tVar 0) tNil)))))) (ts := fun a cls d => tApp K (tXf a cls d (cC K 3) "place" (tVar 4))) (Wout := fun _ _ _ _ => False) rfl rfl rfl scCau.nd rfl rfl (cl_one ⟨rfl, by decide, .inl C.gP⟩) takes0
        (fun W pn xe tk _ => pss_one (ps_raise rfl tk (by exact pmk_r rfl (px3 C J hr (pa_cons (pe_tup (pa_cons (pv 1) (pa_cons (pv 0) pa_nil))) pa_nil)))))
        (fun a oe cls d pn hz hf => pss_one (ps_expr (by exact pe_bm PySem.F.plainAttrs_list PySem.F.slot_list_append PySem.F.type_list_append mt_append (pv 3) (pa_cons (pe_xf (C.xc 3 (by decide)).xf (J.fld (3, "place") (by decide)) hz hf (pv 4)) pa_nil)))))
      (pss_cons (ps_tryG (i := 4) (CL := fun cls => PySem.W.exmOne K cls (.ref (He.ga K "NotThere"))) (tb := tRs (rMk K H (rX1 K 11 "name" (tVar 2)))) (ts := fun a cls d => tApp K (tXf a cls d (cC K 11) "name" (tVar 4))) (Wout := fun _ _ _ _ => False) rfl rfl rfl scCau.nd rfl rfl (cl_one ⟨rfl, by decide, .inl C.gN⟩) takes0
        (fun W pn xe tk _ => pss_one (ps_raise rfl tk (by exact pmk_r rfl (px11 C J hr (pa_cons (pv 2) pa_nil)))))
        (fun a oe cls d pn hz hf => pss_one (ps_expr (by exact pe_bm PySem.F.plainAttrs_list PySem.F.slot_list_append PySem.F.type_list_append mt_append (pv 3) (pa_cons (pe_xf (C.xc 11 (by decide)).xf (J.fld (11, "name") (by decide)) hz hf (pv 4)) pa_nil)))))
      (pss_cons (ps_tryG (i := 4) (CL := fun cls => PySem.W.exmAny K cls [.ref (He.ga K "PathError"), .ref (cC K 13)]) (tb := tRs (rMk K H (rX1 K 13 "most" (tVar 1)))) (ts := fun a cls d => tApp K (tXf a cls d (cC K 13) "most" (tVar 4))) (Wout := fun _ _ _ _ => False) rfl rfl rfl scCau.nd rfl rfl (cl_two rfl C.gP rfl (C.g 13 (by decide))) takes0
        (fun W pn xe tk _ => pss_one (ps_raise rfl tk (by exact pmk_r rfl (px13 C J hr (pa_cons (pv 1) pa_nil)))))
        (fun a oe cls d pn hz hf => pss_one (ps_expr (by exact pe_bm PySem.F.plainAttrs_list PySem.F.slot_list_append PySem.F.type_list_append mt_append (pv 3) (pa_cons (pe_xf (C.xc 13 (by decide)).xf (J.fld (13, "most") (by decide)) hz hf (pv 4)) pa_nil)))))
      (pss_one (ps_ret (pe_cmpR op_eq (pe_callB (call_repr gd hr) rfl gr boot_repr (pa_cons (pv 3) pa_nil))
        (pe_callB (call_repr gd hr) rfl gr boot_repr (pa_cons (pe_lst (pa_cons (pe_tup (pa_cons (pv 0) (pa_cons (pv 1) pa_nil))) (pa_cons (pe_tup (pa_cons (pv 1) (pa_cons (pv 0) pa_nil))) (pa_cons (pv 2) (pa_cons (pv 1) pa_nil))))) pa_nil)) (nomark _))))))))), ?_⟩
    dsimp only [cxOf]
    refine ⟨Nat.zero_le _, fun f nf => ?_⟩
    obtain ⟨S, ef⟩ := nxo (o := .lst []) nf
    generalize upd H f (.lst []) = G at S ef ⊢
    refine ⟨_, rfl, _, rfl, rfl, rfl, by decide, fun a1 n1 => ⟨a1, _, _, rfl, upd_same, fun d1 m1 e1 => ⟨rfl, a1, cC K 8, d1, [("word", .int s), ("line", .int a)], rfl, (rs2 n1 m1 e1).2.2, upd_same, e1, fr0_none (S.free n1), rsK (C.xc 8 (by decide)), true, M.m1, fun _ b1 nb1 => ?_, fun z => nomatch z⟩⟩⟩
    obtain ⟨sA, ex, _⟩ := rs2 (C := cC K 8) (v := .int a) (u := .int s) n1 m1 e1
    generalize delH (upd (upd (upd (upd (upd G a1 (exo a1 (cC K 8) none)) d1 (exd d1 [("line", .int a)])) a1 (exo a1 (cC K 8) (some d1))) d1 (exd d1 [("word", .int s), ("line", .int a)])) d1 (.xd [("word", .int s), ("line", .int a)])) a1 = G1 at sA ex nb1 ⊢
    refine ⟨_, rfl, .inl ⟨rfl, _, .of (sA _ _ ef)⟩, _, rfl, rfl, rfl, d1, _, .int a, rfl, ex, lk2 _ _, _, rfl, rfl, rfl, d1, _, .int s, rfl, ex, by rfl, (by show 2 ≤ sizeLine; decide), fun t1 nt1 => ⟨f, _, _, rfl, rfl, same_upd nt1 _ _ (sA _ _ ef), (by show 0 < sizeLine; decide), fun na1 => ?_⟩⟩
    obtain ⟨S2, ef2, tt2⟩ := ak (o := exk b1 (.ref (cC K 8)) (some d1)) (S.trans (sA.trans (same_upd nt1))) nf (same_upd nt1 _ _ (sA _ _ ef)) na1
    have et1 := tt2 t1 _ upd_same
    clear tt2
    generalize upd (upd (upd G1 t1 (.tup [.int a, .int s])) f (.lst ([] ++ [.ref t1]))) b1 (exk b1 (.ref (cC K 8)) (some d1)) = G2 at S2 ef2 et1 ⊢
    refine ⟨_, rfl, _, rfl, (by show 2 ≤ sizeLine; decide), fun t2 nt2 => ?_⟩
    obtain ⟨sT, et2⟩ := nxo (o := .tup [.int s, .int a]) nt2
    generalize upd G2 t2 (.tup [.int s, .int a]) = G3 at sT et2 ⊢
    have S3 := S2.trans sT
    refine ⟨rfl, rfl, by decide, fun a2 n2 => ⟨a2, _, rfl, upd_same, fun d2 m2 e2 => ⟨rfl, a2, cC K 3, d2, [("place", .ref t2)], rfl, upd_same, (rs1 n2 m2 e2).2.2, e2, fr0_none (S3.free n2), rsK (C.xc 3 (by decide)), true, M.m2, fun _ b2 nb2 => ?_, fun z => nomatch z⟩⟩⟩
    obtain ⟨sA2, ex2, _⟩ := rs1 (C := cC K 3) (n := "place") (v := .ref t2) n2 m2 e2
    generalize delH (upd (upd (upd (upd G3 a2 (exo a2 (cC K 3) none)) d2 (exd d2 [("place", .ref t2)])) a2 (exo a2 (cC K 3) (some d2))) d2 (.xd [("place", .ref t2)])) a2 = G4 at sA2 ex2 nb2 ⊢
    have eg4 := sA2 _ _ (sT _ _ ef2)
    refine ⟨_, rfl, .inl ⟨rfl, _, .of eg4⟩, _, rfl, rfl, rfl, d2, _, .ref t2, rfl, ex2, lk1 _ _, f, _, _, rfl, rfl, eg4, (by show 1 < sizeLine; decide), fun na2 => ?_⟩
    obtain ⟨S5, ef5, tt5⟩ := ak (o := exk b2 (.ref (cC K 3)) (some d2)) (S3.trans sA2) nf eg4 na2
    have et15 := tt5 t1 _ (sA2 _ _ (sT _ _ et1))
    have et25 := tt5 t2 _ (sA2 _ _ et2)
    clear tt5
    generalize upd (upd G4 f (.lst ([] ++ [.ref t1] ++ [.ref t2]))) b2 (exk b2 (.ref (cC K 3)) (some d2)) = G5 at S5 ef5 et15 et25 ⊢
    refine ⟨_, rfl, rfl, rfl, by decide, fun a3 n3 => ⟨a3, _, rfl, upd_same, fun d3 m3 e3 => ⟨rfl, a3, cC K 11, d3, [("name", .str w)], rfl, upd_same, (rs1 n3 m3 e3).2.2, e3, fr0_none (S5.free n3), rsK (C.xc 11 (by decide)), true, M.m3, fun _ b3 nb3 => ?_, fun z => nomatch z⟩⟩⟩
    obtain ⟨sA3, ex3, _⟩ := rs1 (C := cC K 11) (n := "name") (v := .str w) n3 m3 e3
    generalize delH (upd (upd (upd (upd G5 a3 (exo a3 (cC K 11) none)) d3 (exd d3 [("name", .str w)])) a3 (exo a3 (cC K 11) (some d3))) d3 (.xd [("name", .str w)])) a3 = G6 at sA3 ex3 nb3 ⊢
    have eg6 := sA3 _ _ ef5
    refine ⟨_, rfl, .inl ⟨rfl, _, .of eg6⟩, _, rfl, rfl, rfl, d3, _, .str w, rfl, ex3, lk1 _ _, f, _, _, rfl, rfl, eg6, (by show 2 < sizeLine; decide), fun na3 => ?_⟩
    obtain ⟨S7, ef7, tt7⟩ := ak (o := exk b3 (.ref (cC K 11)) (some d3)) (S5.trans sA3) nf eg6 na3
    have et17 := tt7 t1 _ (sA3 _ _ et15)
    have et27 := tt7 t2 _ (sA3 _ _ et25)
    clear tt7
    generalize upd (upd G6 f (.lst ([] ++ [.ref t1] ++ [.ref t2] ++ [.str w]))) b3 (exk b3 (.ref (cC K 11)) (some d3)) = G7 at S7 ef7 et17 et27 ⊢
    refine ⟨_, rfl, rfl, rfl, by decide, fun a4 n4 => ⟨a4, _, rfl, upd_same, fun d4 m4 e4 => ⟨rfl, a4, cC K 13, d4, [("most", .int s)], rfl, upd_same, (rs1 n4 m4 e4).2.2, e4, fr0_none (S7.free n4), rsK (C.xc 13 (by decide)), true, M.m4, fun _ b4 nb4 => ?_, fun z => nomatch z⟩⟩⟩
    obtain ⟨sA4, ex4, _⟩ := rs1 (C := cC K 13) (n := "most") (v := .int s) n4 m4 e4
    generalize delH (upd (upd (upd (upd G7 a4 (exo a4 (cC K 13) none)) d4 (exd d4 [("most", .int s)])) a4 (exo a4 (cC K 13) (some d4))) d4 (.xd [("most", .int s)])) a4 = G8 at sA4 ex4 nb4 ⊢
    have eg8 := sA4 _ _ ef7
    refine ⟨_, rfl, .inl ⟨rfl, _, .of eg8⟩, _, rfl, rfl, rfl, d4, _, .int s, rfl, ex4, lk1 _ _, f, _, _, rfl, rfl, eg8, (by show 3 < sizeLine; decide), fun na4 => ?_⟩
    obtain ⟨S9, ef9, tt9⟩ := ak (o := exk b4 (.ref (cC K 13)) (some d4)) (S7.trans sA4) nf eg8 na4
    have et19 := tt9 t1 _ (sA4 _ _ et17)
    have et29 := tt9 t2 _ (sA4 _ _ et27)
    clear tt9
    generalize upd (upd G8 f (.lst ([] ++ [.ref t1] ++ [.ref t2] ++ [.str w] ++ [.int s]))) b4 (exk b4 (.ref (cC K 13)) (some d4)) = G9 at S9 ef9 et19 et29 ⊢
    have sm := sm_caught ok
    have dd : Dp K G9 (.ref f) (.list (caughtD a s w)) := .lst (.of ef9) (.cons (dp_pair et19) (.cons (dp_pair et29) (.cons (.str w) (.cons (.int s) .nil))))
    refine ⟨_, rfl, f, _, rfl, dd, sm.sh, sm.nd, Nat.le_trans sm.dp (by decide), sm.fits (by decide), ?_⟩
    refine ⟨_, rfl, _, rfl, (by show 2 ≤ sizeLine; decide), fun u1 nu1 => ⟨_, rfl, _, rfl, (by show 2 ≤ sizeLine; decide), fun u2 nu2 => ⟨_, rfl, _, rfl, (by show 4 ≤ sizeLine; decide), fun u3 nu3 => ?_⟩⟩⟩
    have z2 := same_upd nu2 (o := .tup [.int s, .int a])
    have z3 := same_upd nu3 (o := .lst [.ref u1, .ref u2, .str w, .int s])
    have k1 := z3 _ _ (z2 _ _ (upd_same (H := G9) (a := u1) (o := .tup [.int a, .int s])))
    have k2 := z3 _ _ (upd_same (H := upd G9 u1 (.tup [.int a, .int s])) (a := u2) (o := .tup [.int s, .int a]))
    refine ⟨u3, .list (caughtD a s w), rfl, .lst (.of upd_same) (.cons (dp_pair k1) (.cons (dp_pair k2) (.cons (.str w) (.cons (.int s) .nil)))), sm.sh, sm.nd, Nat.le_trans sm.dp (by decide), sm.fits (by decide), rfl, ?_⟩
    rw [decide_eq_true rfl]
    exact q _ (S9.trans ((same_upd nu1).trans (z2.trans z3)))
end
end Pb

namespace Pb
open PySem PySem.Spec PyProof.Rows L2
theorem Dr.same {H H' : Hp} {d : Addr} {n : Nat} (h : Dr H d n) (s : Same H H') : Dr H' d n := by
  obtain ⟨c, a, l, u, cs, h1, h2, r⟩ := h
  exact ⟨c, a, l, u, cs, s _ _ h1, s _ _ h2, r⟩
theorem Dr.at {H : Hp} {d : Addr} {n : Nat} (h : Dr H d n) : ∃ kvs, H d = some (.dK kvs) := by
  obtain ⟨c, a, l, u, cs, h1, h2, r⟩ := h
  exact ⟨_, h1⟩
/-- a list that isn't the draw stays where one draws -/
theorem But.lst {H H' : Hp} {d p : Addr} {n : Nat} {xs : List V} (b : But d H H') (h : Dr H d n) (e : H p = some (.lst xs)) : H' p = some (.lst xs) := by
  obtain ⟨kvs, ed⟩ := h.at
  rw [b p (ne_of e ed (by intro z; cases z))]
  exact e
theorem shp_due : ∀ m, m < 14 → SeqAt.shaped (.list [.str (dueI.getD m "")]) = true := by decide +kernel
theorem shp_fam : ∀ m, m < 14 → SeqAt.shaped (.list ((famD m).map .str)) = true := by decide +kernel
def spLaw (K : PySem.W.Frag) : Sp := fun vs H Q _ => ∃ (a : Addr) (ns : List Int), vs = [.ref a] ∧ SqL K H a (ns.map V.int) ∧ ns.length ≤ 63 ∧ ∀ H', Q (.bl true) H'
abbrev sLaw : Stmt := top 27
abbrev nLaw : List Str := ["_law_script", "_law_draw", "_law_due", "_law_k", "_law_amount", "_law_spot", "_law_what", "_law_some", "_law_at", "_law_one", "_law_family", "_law_told"]
theorem scLaw : FnScope nLaw ["_law_script"] (defScope sLaw) := ⟨rfl, rfl, rfl, by decide +kernel, rfl, by decide +kernel, by decide +kernel⟩
def fldD (a s : Int) (w : Str) : List PyData := [prD (a, s), .int a, .int s, .int a, .int s, .int a, .str w, .int s]
theorem sm_fld {a s : Int} {w : Str} (h : Okv a s w) : Sm 16 2 (.list (fldD a s w)) := .lst (.cons (sm_pair h.sa h.ss) (.cons h.sa (.cons h.ss (.cons h.sa (.cons h.ss (.cons h.sa (.cons (sm_four h.w4) (.cons h.ss .nil))))))))
theorem sm_told {a s : Int} {w : Str} (h : Okv a s w) : Sm 26 2 (.list (toldD a s w)) := by
  have z0 : Sm 0 0 (.int 0) := .int (by decide)
  have z9 : Sm 0 0 (.int 99) := .int (by decide)
  exact .lst (.cons (.tup (.cons h.sa .nil)) (.cons h.sa (.cons h.ss (.cons (sm_pair h.sa h.ss) (.cons (sm_pair h.sa z0) (.cons (sm_pair z0 z0) (.cons (sm_pair z0 h.sa) (.cons h.sa (.cons (sm_four h.w4) (.cons h.ss (.cons z9 .nil)))))))))))
/-- the functions that the law calls -/
structure LK (P : Program) (w : World) (K : PySem.W.Frag) (mg : Str → Option Value) : Prop where
  fBegin : ∃ f fd, FnP K "_law_begin" sBegin f fd ∧ mg "_law_begin" = some (.ref f)
  fMixed : ∃ f fd, FnP K "_law_mixed" sMixed f fd ∧ mg "_law_mixed" = some (.ref f)
  fNext : ∃ f fd, FnP K "_law_next" sNext f fd ∧ mg "_law_next" = some (.ref f)
  fWords : ∃ f fd, FnP K "_law_words" sWords f fd ∧ mg "_law_words" = some (.ref f)
  fFam : ∃ f fd, FnP K "_law_families" sFam f fd ∧ mg "_law_families" = some (.ref f)
  fMade : ∃ f fd, FnP K "_law_made" sMade f fd ∧ mg "_law_made" = some (.ref f)
  fFlds : ∃ f fd, FnP K "_law_fields" sFlds f fd ∧ mg "_law_fields" = some (.ref f)
  fByN : ∃ f fd, FnP K "_law_by_names" sByN f fd ∧ mg "_law_by_names" = some (.ref f)
  fCau : ∃ f fd, FnP K "_law_are_caught" sCau f fd ∧ mg "_law_are_caught" = some (.ref f)
  gLen : mg "len" = none
  gMin : mg "min" = none
  gRange : mg "range" = none
  gRepr : mg "repr" = none
  gInt : mg "int" = none
  gEnum : mg "enumerate" = none
section
variable {P : Program} {w : World} {K : PySem.W.Frag} {mg : Str → Option Value} {base : Heap} {f : Addr} {fd : FuncData}
theorem ok_law (F : FnP K "law" sLaw f fd) (C : CK K mg) (J : IK K) (M : XM K) (N : LK P w K mg) : FnG P w K mg base CX0 4 f fd ["_law_script"] (spLaw K) := by
  obtain ⟨fB, dB, FB, gB⟩ := N.fBegin
  obtain ⟨fM, dM, FM, gM⟩ := N.fMixed
  obtain ⟨fN, dN, FN, gN⟩ := N.fNext
  obtain ⟨fW, dW, FW, gW⟩ := N.fWords
  obtain ⟨fF, dF, FF, gF⟩ := N.fFam
  obtain ⟨fA, dA, FA, gA⟩ := N.fMade
  obtain ⟨fS, dS, FS, gS⟩ := N.fFlds
  obtain ⟨fY, dY, FY, gY⟩ := N.fByN
  obtain ⟨fC, dC, FC, gC⟩ := N.fCau
  have bB : Binds K dB ["_law_script"] [] := FB.bindsN fun _ _ _ _ _ _ us hl => match us, hl with | [_], _ => rfl
  have bN : Binds K dN ["_law_draw", "_law_many"] [] := FN.bindsN fun _ _ _ _ _ _ us hl => match us, hl with | [_, _], _ => rfl
  have bW : Binds K dW ["_law_error"] [] := FW.bindsN fun _ _ _ _ _ _ us hl => match us, hl with | [_], _ => rfl
  have bF : Binds K dF ["_law_error"] [] := FF.bindsN fun _ _ _ _ _ _ us hl => match us, hl with | [_], _ => rfl
  have bA : Binds K dA ["_law_amount", "_law_spot", "_law_what"] [] := FA.bindsN fun _ _ _ _ _ _ us hl => match us, hl with | [_, _, _], _ => rfl
  have bS : Binds K dS ["_law_some"] [] := FS.bindsN fun _ _ _ _ _ _ us hl => match us, hl with | [_], _ => rfl
  have bY : Binds K dY ["_law_amount", "_law_spot", "_law_what"] [] := FY.bindsN fun _ _ _ _ _ _ us hl => match us, hl with | [_, _, _], _ => rfl
  have bC : Binds K dC ["_law_amount", "_law_spot", "_law_what"] [] := FC.bindsN fun _ _ _ _ _ _ us hl => match us, hl with | [_, _, _], _ => rfl
  have GB : FnOk P w K mg base CX0 1 fB dB ["_law_script"] (spBegin K) := ok_begin FB
  have GN : FnOk P w K mg base CX0 2 fN dN ["_law_draw", "_law_many"] spNext := ok_next FN FM gM N.gLen
  have GW : FnOk P w K mg base CX0 1 fW dW ["_law_error"] (spTexts K fun i => [dueI.getD i ""]) := ok_words FW C
  have GF : FnOk P w K mg base CX0 1 fF dF ["_law_error"] (spTexts K famD) := ok_fam FF C
  have GA : FnOk P w K mg base CX0 3 fA dA ["_law_amount", "_law_spot", "_law_what"] (spMade K) := ok_made FA C J
  have GS : FnOk P w K mg base CX0 1 fS dS ["_law_some"] (spFlds K) := ok_flds FS C J
  have GY : FnOk P w K mg base CX0 3 fY dY ["_law_amount", "_law_spot", "_law_what"] (spByN K) := ok_byn FY C J
  have GC : FnG P w K mg base CX0 3 fC dC ["_law_amount", "_law_spot", "_law_what"] (spCau K) := ok_cau FC C J M N.gRepr
  refine fnG_of F scLaw (fun vs H Q E h => ?_) (fun cdv A outer s0 H vs Q E gd hr h => ?_)
  · obtain ⟨a, ns, rfl, _⟩ := h
    rfl
  · obtain ⟨a, ns, rfl, hS, hlen, q⟩ := h
    have hr1 := hr.mono (show 1 ≤ 3 by decide)
    have hr2 := hr.mono (show 2 ≤ 3 by decide)
    refine ⟨_, PSs.nox (pss_cons (ps_set (i := 1) scLaw.nd rfl (.inl rfl) (pe_call GB hr1 rfl gB FB.kp bB .nil pass0 (pa_cons (pv 0) pa_nil)))
      (pss_cons (ps_set (i := 2) scLaw.nd rfl (.inl rfl) (pe_lst (pa_cons pe_str (pa_cons pe_str (pa_cons pe_str (pa_cons pe_str (pa_cons pe_str (pa_cons pe_str (pa_cons pe_str (pa_cons pe_str (pa_cons pe_str (pa_cons pe_str pa_nil))))))))))))
      (pss_cons (ps_set (i := 2) scLaw.nd rfl (.inl rfl) (pe_op op_catS (pv 2) (pe_lst (pa_cons pe_str (pa_cons pe_str (pa_cons pe_str (pa_cons pe_str pa_nil)))))))
      (pss_cons (ps_for PassesOwn.never rfl (pi_range1 rfl N.gRange (pa_cons (pe_op op_add (pe_callB (call_min2 rfl) rfl N.gMin boot_min (pa_cons pe_int (pa_cons (pe_callB call_len_seq rfl N.gLen PySem.boot_len (pa_cons (pv 0) pa_nil)) pa_nil))) pe_int) pa_nil))
          (pg_name (i := 3) scLaw.nd rfl (.inl rfl))
        (pss_cons (ps_par (i := 4) (j := 5) rfl scLaw.nd rfl rfl (by decide) rfl rfl (pa_cons (pe_call GN hr2 rfl gN FN.kp bN .nil pass0 (pa_cons (pv 1) (pa_cons (pe_op op_pow pe_int pe_int) pa_nil))) (pa_cons (pe_call GN hr2 rfl gN FN.kp bN .nil pass0 (pa_cons (pv 1) (pa_cons pe_int pa_nil))) pa_nil)) rfl)
        (pss_cons (ps_set (i := 6) scLaw.nd rfl (.inl rfl) (pe_ix ix_list (pe_lst (pa_cons pe_str (pa_cons pe_str (pa_cons pe_str (pa_cons pe_str pa_nil))))) (pe_call GN hr2 rfl gN FN.kp bN .nil pass0 (pa_cons (pv 1) (pa_cons pe_int pa_nil))) (fun _ _ => rfl)))
        (pss_cons (ps_set (i := 7) scLaw.nd rfl (.inl rfl) (pe_call GA hr rfl gA FA.kp bA .nil pass0 (pa_cons (pv 4) (pa_cons (pv 5) (pa_cons (pv 6) pa_nil)))))
        (pss_cons (ps_for PassesOwn.never rfl (pi_enum rfl N.gEnum (pa_cons (pv 7) pa_nil)) (pg_tup rfl (pgs_cons (pg_name (i := 8) scLaw.nd rfl (.inl rfl)) (pgs_cons (pg_name (i := 9) scLaw.nd rfl (.inl rfl)) pgs_nil)))
          (pss_cons (ps_set (i := 10) scLaw.nd rfl (.inl rfl) (pe_ix ix_list (pe_lst (pa_cons (pe_lst (pa_cons pe_str (pa_cons pe_str pa_nil))) (pa_cons (pe_lst (pa_cons pe_str (pa_cons pe_str pa_nil))) (pa_cons (pe_lst (pa_cons pe_str pa_nil)) pa_nil))))
              (pe_op op_add (pe_callTy call_int1 rfl N.gInt PyProof.Rows.boot_int (pa_cons (pe_cmpR op_gt (pv 8) pe_int (nomark _)) pa_nil)) (pe_callTy call_int1 rfl N.gInt PyProof.Rows.boot_int (pa_cons (pe_cmpR op_gt (pv 8) pe_int (nomark _)) pa_nil))) (fun _ _ => rfl)))
          (pss_one (ps_if (PW.pt (pw_or (pt_cmpR (op_neD hr.units) (pe_call GW hr1 rfl gW FW.kp bW .nil pass0 (pa_cons (pv 9) pa_nil)) (pe_lst (pa_cons (pe_ix ix_list (pv 2) (pv 8) (fun _ _ => rfl)) pa_nil)) (nomark _))
            (pw_or1 (pt_cmpR (op_neD hr.units) (pe_call GF hr1 rfl gF FF.kp bF .nil pass0 (pa_cons (pv 9) pa_nil)) (pv 10) (nomark _))))) (pss_one (ps_ret pe_bl)) pss_nil))))
        (pss_cons (ps_if (pt_cmpR op_ne (pe_callB (call_repr gd hr) rfl N.gRepr boot_repr (pa_cons (pe_call GS hr1 rfl gS FS.kp bS .nil pass0 (pa_cons (pv 7) pa_nil)) pa_nil))
            (pe_callB (call_repr gd hr) rfl N.gRepr boot_repr (pa_cons (pe_lst (pa_cons (pe_tup (pa_cons (pv 4) (pa_cons (pv 5) pa_nil))) (pa_cons (pv 4) (pa_cons (pv 5) (pa_cons (pv 4) (pa_cons (pv 5) (pa_cons (pv 4) (pa_cons (pv 6) (pa_cons (pv 5) pa_nil))))))))) pa_nil)) (nomark _)) (pss_one (ps_ret pe_bl)) pss_nil)
        (pss_cons (ps_set (i := 11) scLaw.nd rfl (.inl rfl) (pe_lst (pa_cons (pe_tup (pa_cons (pv 4) pa_nil)) (pa_cons (pv 4) (pa_cons (pv 5) (pa_cons (pe_tup (pa_cons (pv 4) (pa_cons (pv 5) pa_nil))) (pa_cons (pe_tup (pa_cons (pv 4) (pa_cons pe_int pa_nil)))
            (pa_cons (pe_tup (pa_cons pe_int (pa_cons pe_int pa_nil))) (pa_cons (pe_tup (pa_cons pe_int (pa_cons (pv 4) pa_nil))) (pa_cons (pv 4) (pa_cons (pv 6) (pa_cons (pv 5) (pa_cons pe_int pa_nil)))))))))))))
        (pss_cons (ps_if (pt_cmpR op_ne (pe_callB (call_repr gd hr) rfl N.gRepr boot_repr (pa_cons (pe_call GY hr rfl gY FY.kp bY .nil pass0 (pa_cons (pv 4) (pa_cons (pv 5) (pa_cons (pv 6) pa_nil)))) pa_nil))
            (pe_callB (call_repr gd hr) rfl N.gRepr boot_repr (pa_cons (pv 11) pa_nil)) (nomark _)) (pss_one (ps_ret pe_bl)) pss_nil)
        (pss_one (ps_if (pt_not (pt_val (pe_callG GC gd hr rfl gC FC.kp bC .nil pass0 (pa_cons (pv 4) (pa_cons (pv 5) (pa_cons (pv 6) pa_nil)))))) (pss_one (ps_ret pe_bl)) pss_nil))))))))))
      (pss_one (ps_ret pe_bl)))))), ?_⟩
    dsimp only [cxOf]
    refine ⟨_, rfl, a, ns, rfl, hS, hlen, fun H1 d c nc nd dr keep => ?_⟩
    have S1 : Same H H1 := fun b o e => by
      rw [keep b (ne_of_none e nc) (ne_of_none e nd) (by rw [e]; simp)]
      exact e
    refine ⟨(by show 10 ≤ sizeLine; decide), fun u1 n1 => ⟨_, rfl, (by show 4 ≤ sizeLine; decide), fun u2 n2 => ⟨u1, u2, _, _, rfl, rfl, .of (same_upd n2 _ _ upd_same), .of upd_same, (by show 14 ≤ sizeLine; decide), fun u3 n3 => ?_⟩⟩⟩
    have S2 := (same_upd n1 (o := .lst ((dueI.take 10).map V.str))).trans ((same_upd n2 (o := .lst ((dueI.drop 10).map V.str))).trans (same_upd n3 (o := .lst (dueI.map V.str))))
    have ed : (upd (upd (upd H1 u1 (.lst ((dueI.take 10).map V.str))) u2 (.lst ((dueI.drop 10).map V.str))) u3 (.lst (dueI.map V.str))) u3 = some (.lst (dueI.map V.str)) := upd_same
    have sc := S2.seq (S1.seq hS)
    have drG := dr.same S2
    refine ⟨_, rfl, a, ns.map V.int, rfl, .inl sc, _, _, rfl, _, _, rfl, rfl, _, rfl, ?_, ?_, for_range (lo := 0) (n := _) (fun i σ H' => ∃ y3 y4 y5 y6 y7 y8 y9 y10 y11, σ = [some (.ref a), some (.ref d), some (.ref u3), y3, y4, y5, y6, y7, y8, y9, y10, y11] ∧ Dr H' d (3 * i) ∧ H' u3 = some (.lst (dueI.map V.str)))
      ⟨none, none, none, none, none, none, none, none, none, rfl, drG, ed⟩ (fun i σ H' hi z => ?_) (fun σ H' _ => q _)⟩
    · split <;> omega
    · split <;> omega
    obtain ⟨y3, y4, y5, y6, y7, y8, y9, y10, y11, rfl, dr0, du0⟩ := z
    have hi41 : i ≤ 41 := by
      rw [List.length_map] at hi
      split at hi <;> omega
    clear hi drG ed sc S2 dr keep
    -- amount, spot
    refine ⟨_, rfl, _, _, rfl, rfl, ⟨by decide, by decide, by decide⟩, d, _, _, rfl, dr0, by decide, by decide, by omega, fun v1 Ha p1 q1 dra ba => ?_⟩
    refine ⟨_, rfl, d, _, _, rfl, dra, by decide, by decide, by omega, fun v2 Hb p2 q2 drb bb => ⟨_, _, rfl, ?_⟩⟩
    have q1' : v1 < 1000000000 := q1
    have dub := bb.lst dra (ba.lst dr0 du0)
    -- what
    refine ⟨(by show 4 ≤ sizeLine; decide), fun uw nuw => ?_⟩
    have sw := same_upd nuw (o := .lst (four.map V.str))
    have ew : (upd Hb uw (.lst (four.map V.str))) uw = some (.lst (four.map V.str)) := upd_same
    refine ⟨_, rfl, d, _, _, rfl, drb.same sw, by decide, by decide, by omega, fun v3 Hc p3 q3 drc bc => ?_⟩
    obtain ⟨j, ej⟩ : ∃ j : Nat, v3 = (j : Int) := ⟨_, (Int.toNat_of_nonneg p3).symm⟩
    have hj : j < four.length := by
      show j < 4
      omega
    have gw : atI (four.map V.str) v3 = some (.str four[j]) := by
      rw [ej]
      exact atI_nat (by rw [List.getElem?_map, List.getElem?_eq_getElem hj]; rfl)
    refine ⟨uw, _, _, _, rfl, rfl, .of (bc.lst (drb.same sw) ew), gw, ?_⟩
    have w4 : four[j] ∈ four := List.getElem_mem hj
    generalize four[j] = wt at w4 ⊢
    have ok : Okv v1 v2 wt := ⟨p1, q1', p2, q2, w4⟩
    have duc := bc.lst (drb.same sw) (sw _ _ dub)
    clear gw
    -- made
    refine ⟨_, rfl, _, rfl, _, rfl, v1, v2, wt, rfl, fun Hd p bs sd ep xs => ?_⟩
    have drd := drc.same sd
    have dud := sd _ _ duc
    refine ⟨_, rfl, p, _, rfl, .of ep, for_enumL (K := K) (a := p) (xs := bs.map V.ref) (fun m σ H' => ∃ y8 y9 y10, σ = [some (.ref a), some (.ref d), some (.ref u3), some (.int (0 + (i : Nat))), some (.int v1), some (.int v2), some (.str wt), some (.ref p), y8, y9, y10, y11] ∧ Same Hd H')
      ⟨y8, y9, y10, rfl, Same.refl _⟩ (fun m σ H' _ z => ?_) (fun m x T σ H' hx nT z => ?_) (fun σ H' z => ?_)⟩
    · obtain ⟨_, _, _, _, sm⟩ := z
      exact .of (sm _ _ ep)
    · obtain ⟨z8, z9, z10, rfl, sm⟩ := z
      rw [List.getElem?_map] at hx
      obtain ⟨b, gb, eb⟩ := Option.map_eq_some_iff.mp hx
      subst eb
      obtain ⟨l14, tt, htt, hxs⟩ := xs
      have hm : m < 14 := by
        rw [← l14]
        exact (List.getElem?_eq_some_iff.mp gb).1
      refine ⟨T, _, rfl, .of upd_same, rfl, _, _, rfl, _, _, rfl, rfl, ?_⟩
      obtain ⟨sT, _⟩ := nxo (o := .tup [.int (m : Nat), .ref b]) nT
      generalize upd H' T (.tup [.int (m : Nat), .ref b]) = E0 at sT ⊢
      -- family
      refine ⟨(by show 2 ≤ sizeLine; decide), fun l0 k0 => ?_⟩
      obtain ⟨s0, e0⟩ := nxo (o := .lst [.str "path", .str "value"]) k0
      generalize upd E0 l0 (.lst [.str "path", .str "value"]) = E1 at s0 e0 ⊢
      refine ⟨(by show 2 ≤ sizeLine; decide), fun l1 k1 => ?_⟩
      obtain ⟨s1, e1⟩ := nxo (o := .lst [.str "there", .str "lookup"]) k1
      generalize upd E1 l1 (.lst [.str "there", .str "lookup"]) = E2 at s1 e1 ⊢
      refine ⟨(by show 1 ≤ sizeLine; decide), fun l2 k2 => ?_⟩
      obtain ⟨s2, e2⟩ := nxo (o := .lst [.str "overflow"]) k2
      generalize upd E2 l2 (.lst [.str "overflow"]) = E3 at s2 e2 ⊢
      refine ⟨(by show 3 ≤ sizeLine; decide), fun l3 k3 => ?_⟩
      obtain ⟨s3, e3⟩ := nxo (o := .lst [.ref l0, .ref l1, .ref l2]) k3
      generalize upd E3 l3 (.lst [.ref l0, .ref l1, .ref l2]) = E4 at s3 e3 ⊢
      obtain ⟨lf, glf, elf⟩ : ∃ lf, atI [V.ref l0, .ref l1, .ref l2] ((if decide ((9 : Int) < ((m : Nat) : Int)) then 1 else 0) + (if decide ((12 : Int) < ((m : Nat) : Int)) then 1 else 0)) = some (.ref lf) ∧ E4 lf = some (.lst ((famD m).map V.str)) := by
        unfold famD
        by_cases c1 : m < 10
        · refine ⟨l0, ?_, ?_⟩
          · rw [decide_eq_false (by omega), decide_eq_false (by omega)]
            rfl
          · rw [if_pos c1]
            exact s3 _ _ (s2 _ _ (s1 _ _ e0))
        · by_cases c2 : m < 13
          · refine ⟨l1, ?_, ?_⟩
            · rw [decide_eq_true (by omega), decide_eq_false (by omega)]
              rfl
            · rw [if_neg c1, if_pos c2]
              exact s3 _ _ (s2 _ _ e1)
          · refine ⟨l2, ?_, ?_⟩
            · rw [decide_eq_true (by omega), decide_eq_true (by omega)]
              rfl
            · rw [if_neg c1, if_neg c2]
              exact s3 _ _ e2
      refine ⟨_, rfl, _, _, rfl, rfl, .inr ⟨_, rfl, _, rfl, _, _, rfl, rfl, .inr ⟨_, rfl, _, _, rfl, rfl, l3, _, _, _, rfl, rfl, .of e3, glf, ?_⟩⟩⟩
      have sE : Same Hd E4 := sm.trans (sT.trans (s0.trans (s1.trans (s2.trans s3))))
      -- words
      have gdue : atI (dueI.map V.str) ((m : Nat) : Int) = some (.str (dueI.getD m "")) := atI_nat (by
        have lt : m < dueI.length := hm
        rw [List.getElem?_map, List.getElem?_eq_getElem lt, List.getD_eq_getElem?_getD, List.getElem?_eq_getElem lt]
        rfl)
      refine ⟨_, rfl, b, m, _, rfl, hm, (hxs m b gb).same sE, fun F1 w1 t1 nw1 ew1 => ?_⟩
      refine ⟨_, rfl, _, rfl, u3, _, _, _, rfl, rfl, .of (t1 _ _ (sE _ _ dud)), gdue, (by show 1 ≤ sizeLine; decide), fun l5 k5 => ?_⟩
      obtain ⟨s5, e5⟩ := nxo (o := .lst [.str (dueI.getD m "")]) k5
      generalize upd F1 l5 (.lst [.str (dueI.getD m "")]) = F2 at s5 e5 ⊢
      refine ⟨.list [.str (dueI.getD m "")], .list [.str (dueI.getD m "")], .lst (.of (s5 _ _ ew1)) (.cons (.str _) .nil), .lst (.of e5) (.cons (.str _) .nil), shp_due m hm, shp_due m hm, _, rfl, ?_⟩
      rw [SeqAt.eqv_refl _ (SeqAt.canLay_of_shaped (shp_due m hm))]
      refine iteF ?_
      -- families
      refine ⟨_, rfl, b, m, _, rfl, hm, (hxs m b gb).same (sE.trans (t1.trans s5)), fun F3 w3 t3 nw3 ew3 => ?_⟩
      have dpS : ∀ (H : Hp) (z : Addr) (l : List Str), H z = some (.lst (l.map V.str)) → Dp K H (.ref z) (.list (l.map .str)) := fun H z l e => by
        refine .lst (.of e) ?_
        clear e
        induction l with
        | nil => exact .nil
        | cons x r ih => exact .cons (.str x) ih
      have shp := shp_fam m hm
      refine ⟨_, rfl, _, _, dpS _ _ _ ew3, dpS _ _ _ (t3 _ _ (s5 _ _ (t1 _ _ elf))), shp, shp, _, rfl, ?_⟩
      rw [SeqAt.eqv_refl _ (SeqAt.canLay_of_shaped shp)]
      exact iteF ⟨_, _, _, rfl, sE.trans (t1.trans (s5.trans t3))⟩
    · obtain ⟨z8, z9, z10, rfl, sm⟩ := z
      have xs' := xs.same sm
      have smf := sm_fld ok
      have smt := sm_told ok
      -- fields
      refine ⟨_, rfl, p, bs, v1, v2, wt, rfl, sm _ _ ep, xs', fun K1 z1 tz r1 ez1 etz => ?_⟩
      refine ⟨z1, .list (fldD v1 v2 wt), rfl, .lst (.of ez1) (.cons (dp_pair etz) (.cons (.int _) (.cons (.int _) (.cons (.int _) (.cons (.int _) (.cons (.int _) (.cons (.str _) (.cons (.int _) .nil)))))))), smf.sh, smf.nd, Nat.le_trans smf.dp (by decide), smf.fits (by decide), ?_⟩
      refine ⟨_, rfl, _, rfl, (by show 2 ≤ sizeLine; decide), fun c1 m1 => ?_⟩
      obtain ⟨r2, g2⟩ := nxo (o := .tup [.int v1, .int v2]) m1
      generalize upd K1 c1 (.tup [.int v1, .int v2]) = K2 at r2 g2 ⊢
      refine ⟨_, rfl, _, rfl, _, rfl, _, rfl, _, rfl, _, rfl, _, rfl, (by show 8 ≤ sizeLine; decide), fun c2 m2 => ?_⟩
      obtain ⟨r3, g3⟩ := nxo (o := .lst [.ref c1, .int v1, .int v2, .int v1, .int v2, .int v1, .str wt, .int v2]) m2
      generalize upd K2 c2 (.lst [.ref c1, .int v1, .int v2, .int v1, .int v2, .int v1, .str wt, .int v2]) = K3 at r3 g3 ⊢
      refine ⟨c2, .list (fldD v1 v2 wt), rfl, .lst (.of g3) (.cons (dp_pair (r3 _ _ g2)) (.cons (.int _) (.cons (.int _) (.cons (.int _) (.cons (.int _) (.cons (.int _) (.cons (.str _) (.cons (.int _) .nil)))))))), smf.sh, smf.nd, Nat.le_trans smf.dp (by decide), smf.fits (by decide), rfl, _, rfl, iteNS rfl ?_⟩
      -- told
      refine ⟨_, rfl, (by show 1 ≤ sizeLine; decide), fun c3 m3 => ?_⟩
      obtain ⟨r4, g4⟩ := nxo (o := .tup [.int v1]) m3
      generalize upd K3 c3 (.tup [.int v1]) = K4 at r4 g4 ⊢
      refine ⟨_, rfl, _, rfl, _, rfl, _, rfl, (by show 2 ≤ sizeLine; decide), fun c4 m4 => ?_⟩
      obtain ⟨r5, g5⟩ := nxo (o := .tup [.int v1, .int v2]) m4
      generalize upd K4 c4 (.tup [.int v1, .int v2]) = K5 at r5 g5 ⊢
      refine ⟨_, rfl, (by show 2 ≤ sizeLine; decide), fun c5 m5 => ?_⟩
      obtain ⟨r6, g6⟩ := nxo (o := .tup [.int v1, .int 0]) m5
      generalize upd K5 c5 (.tup [.int v1, .int 0]) = K6 at r6 g6 ⊢
      refine ⟨(by show 2 ≤ sizeLine; decide), fun c6 m6 => ?_⟩
      obtain ⟨r7, g7⟩ := nxo (o := .tup [.int 0, .int 0]) m6
      generalize upd K6 c6 (.tup [.int 0, .int 0]) = K7 at r7 g7 ⊢
      refine ⟨_, rfl, (by show 2 ≤ sizeLine; decide), fun c7 m7 => ?_⟩
      obtain ⟨r8, g8⟩ := nxo (o := .tup [.int 0, .int v1]) m7
      generalize upd K7 c7 (.tup [.int 0, .int v1]) = K8 at r8 g8 ⊢
      refine ⟨_, rfl, _, rfl, _, rfl, (by show 11 ≤ sizeLine; decide), fun c8 m8 => ?_⟩
      obtain ⟨r9, g9⟩ := nxo (o := .lst [.ref c3, .int v1, .int v2, .ref c4, .ref c5, .ref c6, .ref c7, .int v1, .str wt, .int v2, .int 99]) m8
      generalize upd K8 c8 (.lst [.ref c3, .int v1, .int v2, .ref c4, .ref c5, .ref c6, .ref c7, .int v1, .str wt, .int v2, .int 99]) = K9 at r9 g9 ⊢
      have t8 := r8.trans r9
      have t7 := r7.trans t8
      have t6 := r6.trans t7
      have t5 := r5.trans t6
      have dpt : Dp K K9 (.ref c8) (.list (toldD v1 v2 wt)) := .lst (.of g9) (.cons (.tup (.of (t5 _ _ g4)) (.cons (.int _) .nil)) (.cons (.int _) (.cons (.int _) (.cons (dp_pair (t6 _ _ g5)) (.cons (dp_pair (t7 _ _ g6)) (.cons (dp_pair (t8 _ _ g7)) (.cons (dp_pair (r9 _ _ g8)) (.cons (.int _) (.cons (.str _) (.cons (.int _) (.cons (.int _) .nil)))))))))))
      -- by names
      refine ⟨_, rfl, _, rfl, _, rfl, v1, v2, wt, rfl, fun L1 z2 o1 dp2 => ?_⟩
      refine ⟨z2, .list (toldD v1 v2 wt), rfl, dp2, smt.sh, smt.nd, Nat.le_trans smt.dp (by decide), smt.fits (by decide), ?_⟩
      refine ⟨_, rfl, c8, .list (toldD v1 v2 wt), rfl, Dp.same o1 dpt, smt.sh, smt.nd, Nat.le_trans smt.dp (by decide), smt.fits (by decide), rfl, _, rfl, iteNS rfl ?_⟩
      -- caught
      refine ⟨_, rfl, _, rfl, _, rfl, v1, v2, wt, rfl, ok, fun L2 o2 => ⟨true, rfl, iteF ?_⟩⟩
      have fin := sm.trans (r1.trans (r2.trans (r3.trans (r4.trans (t5.trans (o1.trans o2))))))
      refine ⟨_, _, _, _, _, _, _, _, _, rfl, ?_, fin _ _ dud⟩
      have e3 : 3 * (i + 1) = 3 * i + 1 + 1 + 1 := by omega
      rw [e3]
      exact drd.same fin
end
end Pb

namespace Pb
open PySem PySem.Spec PyProof.Rows L2
/-! ### the head: what the top has written -/
def dfn : List He.DefD := [⟨("_law_begin", none), "_law_begin", "_law_begin", defArgs sBegin, defBody sBegin, defScope sBegin, [], []⟩, ⟨("_law_mixed", none), "_law_mixed", "_law_mixed", defArgs sMixed, defBody sMixed, defScope sMixed, [], []⟩, ⟨("_law_next", none), "_law_next", "_law_next", defArgs sNext, defBody sNext, defScope sNext, [], []⟩, ⟨("_law_words", none), "_law_words", "_law_words", defArgs sWords, defBody sWords, defScope sWords, [], []⟩, ⟨("_law_families", none), "_law_families", "_law_families", defArgs sFam, defBody sFam, defScope sFam, [], []⟩, ⟨("_law_made", none), "_law_made", "_law_made", defArgs sMade, defBody sMade, defScope sMade, [], []⟩, ⟨("_law_fields", none), "_law_fields", "_law_fields", defArgs sFlds, defBody sFlds, defScope sFlds, [], []⟩, ⟨("_law_by_names", none), "_law_by_names", "_law_by_names", defArgs sByN, defBody sByN, defScope sByN, [], []⟩, ⟨("_law_are_caught", none), "_law_are_caught", "_law_are_caught", defArgs sCau, defBody sCau, defScope sCau, [], []⟩, ⟨("law", none), "law", "law", defArgs sLaw, defBody sLaw, defScope sLaw, [], []⟩,
  ⟨("BadBook", some "__init__"), "__init__", "BadBook.__init__", defArgs (sIni 5), defBody (sIni 5), defScope (sIni 5), [], []⟩, ⟨("SecondBook", some "__init__"), "__init__", "SecondBook.__init__", defArgs (sIni 8), defBody (sIni 8), defScope (sIni 8), [], []⟩, ⟨("BadPlan", some "__init__"), "__init__", "BadPlan.__init__", defArgs (sIni 9), defBody (sIni 9), defScope (sIni 9), [], []⟩, ⟨("BadText", some "__init__"), "__init__", "BadText.__init__", defArgs (sIni 10), defBody (sIni 10), defScope (sIni 10), [.int 0, .int 0], []⟩, ⟨("NoBook", some "__init__"), "__init__", "NoBook.__init__", defArgs (sIni 13), defBody (sIni 13), defScope (sIni 13), [], []⟩, ⟨("NoSection", some "__init__"), "__init__", "NoSection.__init__", defArgs (sIni 14), defBody (sIni 14), defScope (sIni 14), [], []⟩, ⟨("TooMany", some "__init__"), "__init__", "TooMany.__init__", defArgs (sIni 16), defBody (sIni 16), defScope (sIni 16), [.int 99], []⟩]
def ckG (K : PySem.W.Frag) : Bool := (["_law_begin", "_law_mixed", "_law_next", "_law_words", "_law_families", "_law_made", "_law_fields", "_law_by_names", "_law_are_caught", "law", "PathError", "NotThere"] : List Str).all fun x => gloB x K
def ckF (K : PySem.W.Frag) : Bool := (["isinstance", "ValueError", "LookupError", "OverflowError", "KeyError", "IndexError", "len", "min", "range", "repr", "int", "enumerate"] : List Str).all fun x => freeB x K
def ckC (K : PySem.W.Frag) : Bool := (List.range 14).all fun i => gloB (cn.getD i "") K && xcB K (cC K i) (bmI i) (nwI i)
def ckI (K : PySem.W.Frag) : Bool := (List.range 14).all fun i => (List.range 14).all fun j => decide (PySem.W.kitOne K (.ref (cC K i)) (.ref (cC K j)) = some (decide (i = j)))
def ckM (K : PySem.W.Frag) : Bool := (List.range 14).all fun i => (List.range 7).all fun j => decide (PySem.W.kitOne K (.ref (cC K i)) (cvOf ((famV K).getD j ("", .non)).2) = some ((famI i).getD j false))
def ckB (K : PySem.W.Frag) : Bool := (bareL.all fun i => PySem.W.excIn K (cC K i) (bmI i) (nwI i)) && (fldL.all fun p => decide (PySem.W.findIn K (.ref (cC K p.1)) p.2 = some none))
def ckN (K : PySem.W.Frag) : Bool := iniL.all fun i => decide (PySem.W.findIn K (.ref (cC K i)) "__init__" = some (some (.ref (iC K i)))) && decide (PySem.W.typeIn K (.ref (iC K i)) = some (.type "function"))
def ckX (K : PySem.W.Frag) : Bool := decide (PySem.W.exmOne K (.ref (cC K 8)) (.ref (cC K 8)) = some true) && (decide (PySem.W.exmOne K (.ref (cC K 3)) (.ref (He.ga K "PathError")) = some true) &&
  (decide (PySem.W.exmOne K (.ref (cC K 11)) (.ref (He.ga K "NotThere")) = some true) && decide (PySem.W.exmAny K (.ref (cC K 13)) [.ref (He.ga K "PathError"), .ref (cC K 13)] = some true)))
def cks : List (PySem.W.Frag → Bool) := [ckG, ckF, ckC, ckI, ckM, ckB, ckN, ckX]
section
variable {P : Program} {w : World} {K : PySem.W.Frag} {h : Heap} {mg : Str → Option Value}
theorem all2 {α : Type} {l : List α} {p q : α → Bool} (h : (l.all fun x => p x && q x) = true) {x : α} (hx : x ∈ l) : p x = true ∧ q x = true := Bool.and_eq_true_iff.mp (List.all_eq_true.mp h x hx)
theorem mkCK (X : K.In h) (G : h.Ns mainGlobals mg) (c : SaysX cks dfn K) : CK K mg := by
  have cG := c.fact 0 (f := ckG)
  have cF := c.fact 1 (f := ckF)
  have cC' := c.fact 2 (f := ckC)
  have cI := c.fact 3 (f := ckI)
  have cM := c.fact 4 (f := ckM)
  have fr : ∀ x ∈ (["isinstance", "ValueError", "LookupError", "OverflowError", "KeyError", "IndexError", "len", "min", "range", "repr", "int", "enumerate"] : List Str), mg x = none := fun x hx => He.free_ok X G (List.all_eq_true.mp cF x hx)
  have gl : ∀ x ∈ (["_law_begin", "_law_mixed", "_law_next", "_law_words", "_law_families", "_law_made", "_law_fields", "_law_by_names", "_law_are_caught", "law", "PathError", "NotThere"] : List Str), mg x = some (.ref (He.ga K x)) := fun x hx => He.glo_ok X G (List.all_eq_true.mp cG x hx)
  exact { xc := fun i hi => xcB_ok (all2 cC' (List.mem_range.mpr hi)).2
          g := fun i hi => He.glo_ok X G (all2 cC' (List.mem_range.mpr hi)).1
          is := fun i hi j hj => of_decide_eq_true (List.all_eq_true.mp (List.all_eq_true.mp cI i (List.mem_range.mpr hi)) j (List.mem_range.mpr hj))
          fam := fun i hi j hj => of_decide_eq_true (List.all_eq_true.mp (List.all_eq_true.mp cM i (List.mem_range.mpr hi)) j (List.mem_range.mpr hj))
          gP := gl _ (by decide +kernel)
          gN := gl _ (by decide +kernel)
          fi := fr _ (by decide +kernel)
          fV := fr _ (by decide +kernel)
          fL := fr _ (by decide +kernel)
          fO := fr _ (by decide +kernel)
          fK := fr _ (by decide +kernel)
          fX := fr _ (by decide +kernel) }
theorem mkIK (c : SaysX cks dfn K) : IK K := by
  have cB := Bool.and_eq_true_iff.mp (c.fact 5 (f := ckB))
  have cN := c.fact 6 (f := ckN)
  exact { bare := fun i hi => List.all_eq_true.mp cB.1 i hi
          fld := fun p hp => of_decide_eq_true (List.all_eq_true.mp cB.2 p hp)
          ini := fun i hi => of_decide_eq_true (all2 cN hi).1
          fn := fun i hi => of_decide_eq_true (all2 cN hi).2
          i3 := c.def_ 10
          i6 := c.def_ 11
          i7 := c.def_ 12
          i8 := c.def_ 13
          i10 := c.def_ 14
          i11 := c.def_ 15
          i13 := c.def_ 16 }
theorem mkXM (c : SaysX cks dfn K) : XM K := by
  have cX := c.fact 7 (f := ckX)
  simp only [ckX, Bool.and_eq_true, decide_eq_true_eq] at cX
  obtain ⟨h1, h2, h3, h4⟩ := cX
  exact ⟨h1, h2, h3, h4⟩
theorem mkLK (X : K.In h) (G : h.Ns mainGlobals mg) (c : SaysX cks dfn K) : LK P w K mg := by
  have cG := c.fact 0 (f := ckG)
  have cF := c.fact 1 (f := ckF)
  have fr : ∀ x ∈ (["isinstance", "ValueError", "LookupError", "OverflowError", "KeyError", "IndexError", "len", "min", "range", "repr", "int", "enumerate"] : List Str), mg x = none := fun x hx => He.free_ok X G (List.all_eq_true.mp cF x hx)
  have gl : ∀ x ∈ (["_law_begin", "_law_mixed", "_law_next", "_law_words", "_law_families", "_law_made", "_law_fields", "_law_by_names", "_law_are_caught", "law", "PathError", "NotThere"] : List Str), mg x = some (.ref (He.ga K x)) := fun x hx => He.glo_ok X G (List.all_eq_true.mp cG x hx)
  have df : ∀ (i : Nat) {d : He.DefD}, dfn[i]? = some d → ∃ fd, FunD K d.name d.qual d.params d.body d.scope (d.dvs K) (d.kws K) (He.fAd K d.at_) fd := fun i {d} e => c.def_ i e
  exact { fBegin := (df 0 rfl).elim fun fd F => ⟨He.ga K "_law_begin", fd, F, gl _ (by decide +kernel)⟩
          fMixed := (df 1 rfl).elim fun fd F => ⟨He.ga K "_law_mixed", fd, F, gl _ (by decide +kernel)⟩
          fNext := (df 2 rfl).elim fun fd F => ⟨He.ga K "_law_next", fd, F, gl _ (by decide +kernel)⟩
          fWords := (df 3 rfl).elim fun fd F => ⟨He.ga K "_law_words", fd, F, gl _ (by decide +kernel)⟩
          fFam := (df 4 rfl).elim fun fd F => ⟨He.ga K "_law_families", fd, F, gl _ (by decide +kernel)⟩
          fMade := (df 5 rfl).elim fun fd F => ⟨He.ga K "_law_made", fd, F, gl _ (by decide +kernel)⟩
          fFlds := (df 6 rfl).elim fun fd F => ⟨He.ga K "_law_fields", fd, F, gl _ (by decide +kernel)⟩
          fByN := (df 7 rfl).elim fun fd F => ⟨He.ga K "_law_by_names", fd, F, gl _ (by decide +kernel)⟩
          fCau := (df 8 rfl).elim fun fd F => ⟨He.ga K "_law_are_caught", fd, F, gl _ (by decide +kernel)⟩
          gLen := fr _ (by decide +kernel)
          gMin := fr _ (by decide +kernel)
          gRange := fr _ (by decide +kernel)
          gRepr := fr _ (by decide +kernel)
          gInt := fr _ (by decide +kernel)
          gEnum := fr _ (by decide +kernel) }
theorem facts {f : Addr} (X : K.In h) (G : h.Ns mainGlobals mg) (hfa : mg ("law" : Str) = some (.ref f)) (c : SaysX cks dfn K) :
    ∃ fd : FuncData, (∀ (s : Shared) (u : Value), BindsTo s fd ⟨[u], []⟩ [("_law_script", u)]) ∧ ∀ base : Heap, K.In base → base.Ns mainGlobals mg → FnG P w K mg base CX0 4 f fd ["_law_script"] (spLaw K) := by
  obtain ⟨fd, F⟩ := c.def_ 9 (d := ⟨("law", none), "law", "law", defArgs sLaw, defBody sLaw, defScope sLaw, [], []⟩)
  have cG := c.fact 0 (f := ckG)
  have e := hfa.symm.trans (He.glo_ok X G (List.all_eq_true.mp cG "law" (by decide +kernel)))
  cases e
  have b := FunD.bindsA (ps := ["_law_script"]) F fun _ _ _ _ _ _ us hl => match us, hl with | [_], _ => rfl
  exact ⟨fd, fun s v => b s [v] rfl, fun base _ _ => ok_law F (mkCK X G c) (mkIK c) (mkXM c) (mkLK X G c)⟩
end
abbrev RR : PySem.W.OpenRow := PySem.W.OpenLaw.row PySem.Challenge.rw_pathbook_k02_refusals_by_hand
abbrev hk : PySem.W.Hook := hookX 5 cks dfn
def ob (s : PySem.W.SharedT) : He.AlD := obsXG 5 cks dfn (HandSHeadRun.getT s)
theorem ob_eq (s : PySem.W.SharedT) : ob s = hk.obs s.abs := obsXG_eq (HandSHeadRun.getT_eq s)
def loose : List PySem.Str := ["PathError", "BadName", "BadDay", "BadSection", "BadBook", "BadLegs", "BadThing", "SecondBook", "BadPlan", "BadText", "BadLine", "NotThere", "NoBook", "NoSection", "NotTold", "TooMany", "_law_begin", "_law_mixed", "_law_next", "_law_words", "_law_families", "_law_made", "_law_fields", "_law_by_names", "_law_are_caught"]
theorem runs (w : World) : HandSHeadRun.RunEq RR (PySem.W.view RR.prog [27]) hk ob 4500 loose w := by
  intro os
  kernel_rfl
end Pb
open PySem PySem.W PySem.Calls PyProof.Rows
theorem PySem.Challenge.cw_pathbook_k02_refusals_by_hand_holds : PySem.Challenge.rw_pathbook_k02_refusals_by_hand.Holds := by
  w_on; o_law
  refine HandSHeadRun.head_any (r := OpenLaw.row PySem.Challenge.rw_pathbook_k02_refusals_by_hand) (q := view (OpenLaw.row PySem.Challenge.rw_pathbook_k02_refusals_by_hand).prog [27]) (H := Pb.hk) (ob := Pb.ob) (M := 4500) (loose := Pb.loose) (d := HandSHeadRun.topDef (OpenLaw.row PySem.Challenge.rw_pathbook_k02_refusals_by_hand).prog 27) (kwd := []) Pb.ob_eq
    (by kernel_rfl) (fun s => by kernel_rfl) Pb.runs (by kernel_rfl) (by kernel_rfl) (by kernel_rfl) (by rfl) (by first | assumption | decide +kernel) (by decide +kernel) ⟨rfl, rfl, rfl, rfl, rfl, by decide +kernel⟩ ?hw ?hc
  case hw => w_witness2
  case hc =>
    refine Pb.walkG (l := PySem.Challenge.rw_pathbook_k02_refusals_by_hand) (n := 63) (k := 4) (x := "_law_script") (CX := L2.CX0) rfl (by decide) (by kernel_rfl) ⟨rfl, by decide, by decide⟩ ?F (fun _ _ _ _ z => z)
    intro w mg fa h Y G hmg0
    obtain ⟨K, KX, c⟩ := Y
    have hmg : mg ("law" : PySem.Str) = some (.ref fa) := by
      have e : (HandSHeadRun.topDef (OpenLaw.row PySem.Challenge.rw_pathbook_k02_refusals_by_hand).prog 27).name = ("law" : PySem.Str) := by kernel_rfl
      rw [← e]
      exact hmg0
    obtain ⟨fd, hb, hF⟩ := Pb.facts (P := (PySem.Challenge.rw_pathbook_k02_refusals_by_hand).prog) (w := w) KX G hmg c
    exact ⟨K, fd, Pb.spLaw K, KX, hb, fun H a ns hl _ hS => ⟨a, ns, rfl, hS, hl, fun _ => rfl⟩, hF⟩
